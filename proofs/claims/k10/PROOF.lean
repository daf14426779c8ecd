import PyProof.Rows.All
import Wide.All
import OpenK.AllK
import Wide.FinOn
import Lean
import PyProof.EqAt
import PyProof.EqKinds
import PyProof.TupleCall
import PyProof.NeKinds
import PyProof.FactsAll.tuple_2
import PyProof.FactsAll.str_0
import PyProof.FactsAll.str_1
import PyProof.FactsAll.str_2
import PyProof.FactsAll.str_3
import PySem.Challenge.RW_treewithin_k10_grounds_known_by_hand
-- CHANGE: your row's module here, as the last of these rows
set_option Elab.async false
set_option linter.all false
set_option maxRecDepth 100000
namespace L2
open PySem PySem.Spec PyProof.Rows
/-- a key: an int or a str -/
abbrev Key := Sum Int Str
def keyIs : Key → Value → Bool
  | .inl k, v => Value.isInt k v
  | .inr x, v => Value.isStrOf x v
def keyH (w : World) : Key → Int
  | .inl k => hashInt k
  | .inr x => hashStr w x
theorem keyIs_shape : ∀ {k : Key} {v : Value}, keyIs k v = true → (∃ i t, k = Sum.inl i ∧ v = Value.int i t) ∨ (∃ x t, k = Sum.inr x ∧ v = Value.str x t)
  | .inl i, v, h => by
    obtain ⟨t, e⟩ := Value.isInt_shape (k := i) (v := v) h
    exact .inl ⟨i, t, rfl, e⟩
  | .inr x, v, h => by
    obtain ⟨t, e⟩ := Value.isStrOf_shape (x := x) (v := v) h
    exact .inr ⟨x, t, rfl, e⟩
theorem key_ll (a b : Int) : decide ((Sum.inl a : Key) = Sum.inl b) = (a == b) := by
  by_cases e : a = b
  · subst e; simp
  · have h : ¬ (Sum.inl a : Key) = Sum.inl b := fun q => e (Sum.inl.inj q)
    rw [decide_eq_false h]
    exact (beq_eq_false_iff_ne.mpr e).symm
theorem key_rr (a b : Str) : decide ((Sum.inr a : Key) = Sum.inr b) = decide (a = b) := by
  by_cases e : a = b
  · subst e; simp
  · have h : ¬ (Sum.inr a : Key) = Sum.inr b := fun q => e (Sum.inr.inj q)
    rw [decide_eq_false h, decide_eq_false e]
theorem key_lr (a : Int) (b : Str) : decide ((Sum.inl a : Key) = Sum.inr b) = false := decide_eq_false (fun q => nomatch q)
theorem key_rl (a : Str) (b : Int) : decide ((Sum.inr a : Key) = Sum.inl b) = false := decide_eq_false (fun q => nomatch q)
def mixKind (prog : Program) (w : World) : PySem.KeyKind prog w Key where
  is := keyIs
  hash := keyH w
  inj := fun v a b ha hb => by
    rcases keyIs_shape ha with ⟨i, t, rfl, rfl⟩ | ⟨x, t, rfl, rfl⟩
    · rcases keyIs_shape hb with ⟨j, u, rfl, e⟩ | ⟨y, u, rfl, e⟩
      · injection e with e1 _; rw [e1]
      · exact nomatch e
    · rcases keyIs_shape hb with ⟨j, u, rfl, e⟩ | ⟨y, u, rfl, e⟩
      · exact nomatch e
      · injection e with e1 _; rw [e1]
  byValue := fun k v h => by
    rcases keyIs_shape h with ⟨i, t, rfl, rfl⟩ | ⟨x, t, rfl, rfl⟩ <;> rfl
  pyHash := fun hv h => by
    rcases keyIs_shape hv with ⟨i, t, rfl, rfl⟩ | ⟨x, t, rfl, rfl⟩
    · exact wpAny_pyHash_int h
    · exact wpAny_pyHash_str h
  eqBool := fun hu hv h => by
    rcases keyIs_shape hu with ⟨i, t, rfl, rfl⟩ | ⟨x, t, rfl, rfl⟩
    · rcases keyIs_shape hv with ⟨j, u, rfl, rfl⟩ | ⟨y, u, rfl, rfl⟩
      · rw [key_ll] at h; exact wpAny_eqBool_int h
      · rw [key_lr] at h; exact SeqAt.EqAt.int_str i t y u _ _ _ _ h
    · rcases keyIs_shape hv with ⟨j, u, rfl, rfl⟩ | ⟨y, u, rfl, rfl⟩
      · rw [key_rl] at h; exact SeqAt.EqAt.str_int x t j u _ _ _ _ h
      · rw [key_rr] at h; exact wpAny_eqBool_str h
  «strs» := fun k x t v h => by
    rcases keyIs_shape h with ⟨i, u, rfl, e⟩ | ⟨y, u, rfl, e⟩
    · exact nomatch e
    · injection e with e1 _
      subst e1
      cases v <;> rfl
end L2
namespace L2
open PySem PySem.Spec PyProof.Rows
/-- a value, without the heap -/
inductive V where
  | non | bl (b : Bool) | int (i : Int) | str (x : Str) | byt (b : Array UInt8) | flt (b : UInt64) | ref (a : Addr) | ty (n : String)
  deriving DecidableEq
def RelV : V → Value → Prop
  | .non, u => u = Value.none
  | .bl b, u => u = Value.bool b
  | .int i, u => ∃ t, u = Value.int i t
  | .str x, u => ∃ t, u = Value.str x t
  | .byt b, u => ∃ t, u = Value.bytes b t
  | .flt b, u => ∃ t, u = Value.float b t
  | .ref a, u => u = Value.ref a
  | .ty n, u => u = Value.type n
abbrev Vals : List V → List Value → Prop := Paired RelV
theorem Vals.length {xs : List V} {us : List Value} (r : Vals xs us) : xs.length = us.length := Paired.length r
theorem Vals.get : ∀ {xs : List V} {us : List Value} {i : Nat} {x : V}, Vals xs us → xs[i]? = some x → ∃ u, us[i]? = some u ∧ RelV x u
  | _, _, _, _, .nil, e => by simp at e
  | _, _, 0, _, .cons r _, e => by simp at e; subst e; exact ⟨_, rfl, r⟩
  | _, _, i + 1, x, .cons _ t, e => by
    obtain ⟨u, h1, h2⟩ := Vals.get (i := i) (x := x) t (by simpa using e)
    exact ⟨u, by simpa using h1, h2⟩
theorem Vals.set {x : V} {u : Value} (r : RelV x u) : ∀ {xs : List V} {us : List Value} (i : Nat), Vals xs us → Vals (xs.set i x) (us.set i u)
  | _, _, _, .nil => .nil
  | _, _, 0, .cons _ t => .cons r t
  | _, _, i + 1, .cons q t => .cons q (Vals.set r i t)
theorem Vals.append : ∀ {xs ys : List V} {us ws : List Value}, Vals xs us → Vals ys ws → Vals (xs ++ ys) (us ++ ws)
  | _, _, _, _, .nil, s => s
  | _, _, _, _, .cons r t, s => .cons r (Vals.append t s)
theorem Vals.take : ∀ {xs : List V} {us : List Value} (n : Nat), Vals xs us → Vals (xs.take n) (us.take n)
  | _, _, 0, _ => .nil
  | _, _, _ + 1, .nil => .nil
  | _, _, n + 1, .cons r t => .cons r (Vals.take n t)
theorem Vals.drop : ∀ {xs : List V} {us : List Value} (n : Nat), Vals xs us → Vals (xs.drop n) (us.drop n)
  | _, _, 0, r => r
  | _, _, _ + 1, .nil => .nil
  | _, _, n + 1, .cons _ t => Vals.drop n t
theorem Vals.none_of : ∀ {xs : List V} {us : List Value} {i : Nat}, Vals xs us → xs[i]? = none → us[i]? = none := fun {xs us i} r e => by
  have h1 := r.length
  have h2 : xs.length ≤ i := List.getElem?_eq_none_iff.mp e
  exact List.getElem?_eq_none_iff.mpr (by omega)
def RelO : Option V → Option Value → Prop
  | some v, some u => RelV v u
  | none, none => True
  | _, _ => False
def KV {κ : Type} : List (κ × V) → List (κ × Value) → Prop := Paired fun (p : κ × V) (q : κ × Value) => p.1 = q.1 ∧ RelV p.2 q.2
/-- a key of a dict (00_mix): an int or a text -/
def kV : Key → V
  | .inl i => .int i
  | .inr x => .str x
/-- what stands at a tracked address -/
inductive HO where
  /-- a list -/
  | lst (xs : List V)
  /-- a tuple (never changes) -/
  | tup (xs : List V)
  /-- a dict whose keys are ints and texts; one whose keys are tuples of ints and texts (the empty one is both) -/
  | dK (kvs : List (Key × V)) | dT (kvs : List (List Key × V))
  /-- a set of ints: its members, its size -/
  | set (S : Int → Bool) (n : Nat)
  /-- an instance of the class at C, its dict at dx, its attributes -/
  | ins (C dx : Addr) (fs : List (Str × V))
  /-- the dict of the instance at x -/
  | own (x : Addr)
  /-- the dict of an exception -/
  | xd (fs : List (Str × V))
  /-- a bound method, f of x -/
  | met (f x : Addr)
  /-- a range object lo, lo + 1, .. below hi -/
  | rng (lo hi : Int)
  /-- a thing that is known to the object (the script; a dict while a loop walks it): read, never written while it is so -/
  | frz (o : Obj) (u : HO)
  /-- a code object's table -/
  | tbl (ps : Array Value)
  /-- any other thing, by what is true of its one object (a def of one's own: SetO a S n := HO.ext fun h => ..) -/
  | ext (φ : Heap → Prop)
abbrev Hp := Addr → Option HO
def upd (H : Hp) (a : Addr) (o : HO) : Hp := fun b => if b = a then some o else H b
theorem upd_same {H : Hp} {a : Addr} {o : HO} : upd H a o a = some o := by unfold upd; rw [if_pos rfl]
theorem upd_ne {H : Hp} {a b : Addr} {o : HO} (h : b ≠ a) : upd H a o b = H b := by unfold upd; rw [if_neg h]
/-- two objects of different content stand apart -/
theorem ne_of {H : Hp} {a b : Addr} {o u : HO} (h : H a = some o) (h' : H b = some u) (d : o ≠ u) : a ≠ b := by
  intro e; subst e; rw [h] at h'; exact d (Option.some.inj h')
theorem ne_of_none {H : Hp} {a b : Addr} {o : HO} (h : H a = some o) (h' : H b = none) : a ≠ b := by
  intro e; subst e; rw [h] at h'; cases h'
section
variable (P : Program) (w : World)
def ObjOk (H : Hp) (h : Heap) (a : Addr) : HO → Prop
  | .lst xs => xs.length ≤ sizeLine ∧ ∃ (its : List Value) (n : Nat), Vals xs its ∧ h.get? a = some { cls := .type "list", data := .seq its.toArray n }
  | .tup xs => xs.length ≤ sizeLine ∧ ∃ its : List Value, Vals xs its ∧ IsTup h a its.toArray
  | .dK kvs => kvs.length ≤ sizeLine ∧ (a == sysModules) = false ∧ ∃ vs, KV kvs vs ∧ h.DictOf (mixKind P w) a vs
  | .dT kvs => kvs.length ≤ sizeLine ∧ (a == sysModules) = false ∧ ∃ xs : List (List Key × Addr × Value),
      Paired (fun (p : List Key × V) (q : List Key × Addr × Value) => p.1 = q.1 ∧ H q.2.1 = some (.tup (p.1.map kV)) ∧ RelV p.2 q.2.2) kvs xs ∧
      ∃ o es ep, h.get? a = some o ∧ o.ExactDict ∧ o.data = .dict es ep ∧ es.toList = xs.map (entryOfKey (tupleKind (mixKind P w))) ∧ (xs.map (·.1)).Nodup
  | .set S n => h.SetOf (intKind P w) a S n
  | .ins C dx fs => H dx = some (.own a) ∧ fs.length ≤ 1000 ∧ dx ≠ a ∧ h.get? a = some (PySem.W.instObj C dx) ∧
      ∃ mA, h.Ns1 dx mA ∧ (∀ f, RelO (fs.lookup f) (mA f)) ∧ PySem.Within mA (fs.map (·.1))
  | .own _ => ∃ o, h.get? a = some o
  | .xd fs => ∃ mA, h.Ns1 a mA ∧ ∀ f, RelO (fs.lookup f) (mA f)
  | .rng lo hi => ∃ t u v, h.get? a = some { cls := .type "range", data := .fields #[.int lo t, .int hi u, .int 1 v] }
  | .frz o u => h.get? a = some o ∧ ObjOk H h a u
  | .tbl ps => h.get? a = some { cls := .none, data := .fields ps }
  | .met f x => h.get? a = some (PySem.W.methodObj (.ref f) (.ref x))
  | .ext φ => φ h ∧ (∃ o, h.get? a = some o) ∧ ∀ h1 h2 : Heap, φ h1 → (∀ o, h1.get? a = some o → h2.get? a = some o) → φ h2
/-- the abstract heap is held -/
def HOk (H : Hp) (h : Heap) : Prop := ∀ a o, H a = some o → ObjOk P w H h a o
end
section
variable {P : Program} {w : World} {H H' : Hp} {h h' : Heap} {a : Addr} {o : HO}
theorem ObjOk.lt (x : ObjOk P w H h a o) : a < h.objs.size := by
  cases o with
  | lst xs => obtain ⟨_, _, _, _, e⟩ := x; exact Heap.lt_size e
  | tup xs => obtain ⟨_, _, _, p⟩ := x; exact p.lt
  | dK kvs => obtain ⟨_, _, _, _, o, _, _, e, _⟩ := x; exact Heap.lt_size e
  | dT kvs => obtain ⟨_, _, _, _, o, _, _, e, _⟩ := x; exact Heap.lt_size e
  | set S n => obtain ⟨o, _, _, _, e, _⟩ := x; exact Heap.lt_size e
  | ins C dx fs => obtain ⟨_, _, _, e, _⟩ := x; exact Heap.lt_size e
  | own y => obtain ⟨_, e⟩ := x; exact Heap.lt_size e
  | xd fs => obtain ⟨_, ⟨_, _, _, e, _⟩, _⟩ := x; exact Heap.lt_size e
  | rng lo hi => obtain ⟨_, _, _, e⟩ := x; exact Heap.lt_size e
  | frz ob u => obtain ⟨e, _⟩ := x; exact Heap.lt_size e
  | tbl ps => exact Heap.lt_size (show h.get? a = some _ from x)
  | met f y => exact Heap.lt_size (show h.get? a = some _ from x)
  | ext φ => obtain ⟨_, ⟨_, e⟩, _⟩ := x; exact Heap.lt_size e
theorem Paired.mapP {α β : Type} {F G : α → β → Prop} : ∀ {l₁ : List α} {l₂ : List β}, Paired F l₁ l₂ → (∀ a b, F a b → G a b) → Paired G l₁ l₂
  | _, _, .nil, _ => .nil
  | _, _, .cons r t, f => .cons (f _ _ r) (Paired.mapP t f)
/-- what an object's description leans on: its own object, its own dict, the tuples -/
theorem ObjOk.stay (x : ObjOk P w H h a o) (k : ∀ b u, (b = a ∨ H b = some (.own a)) → h.get? b = some u → h'.get? b = some u)
    (ho : ∀ b, H b = some (.own a) → H' b = some (.own a)) (ht : ∀ b xs, H b = some (.tup xs) → H' b = some (.tup xs)) : ObjOk P w H' h' a o := by
  induction o with
  | lst xs => obtain ⟨z, its, n, r, e⟩ := x; exact ⟨z, its, n, r, k _ _ (.inl rfl) e⟩
  | tup xs => obtain ⟨z, its, r, ob, e, c⟩ := x; exact ⟨z, its, r, ob, k _ _ (.inl rfl) e, c⟩
  | dK kvs => obtain ⟨z, y, vs, r, ob, es, ep, e, c⟩ := x; exact ⟨z, y, vs, r, ob, es, ep, k _ _ (.inl rfl) e, c⟩
  | dT kvs =>
    obtain ⟨z, y, xs, r, ob, es, ep, e, c⟩ := x
    exact ⟨z, y, xs, Paired.mapP r fun p q z => ⟨z.1, ht _ _ z.2.1, z.2.2⟩, ob, es, ep, k _ _ (.inl rfl) e, c⟩
  | set S n => obtain ⟨ob, es, ep, t, e, c⟩ := x; exact ⟨ob, es, ep, t, k _ _ (.inl rfl) e, c⟩
  | ins C dx fs =>
    obtain ⟨d, z, ne, e, mA, ⟨od, es, ep, e2, c⟩, r⟩ := x
    exact ⟨ho _ d, z, ne, k _ _ (.inl rfl) e, mA, ⟨od, es, ep, k _ _ (.inr d) e2, c⟩, r⟩
  | own y => obtain ⟨ob, e⟩ := x; exact ⟨ob, k _ _ (.inl rfl) e⟩
  | xd fs => obtain ⟨mA, ⟨od, es, ep, e, c⟩, r⟩ := x; exact ⟨mA, ⟨od, es, ep, k _ _ (.inl rfl) e, c⟩, r⟩
  | rng lo hi => obtain ⟨t, u, v, e⟩ := x; exact ⟨t, u, v, k _ _ (.inl rfl) e⟩
  | frz ob u ih => obtain ⟨e, q⟩ := x; exact ⟨k _ _ (.inl rfl) e, ih q⟩
  | tbl ps =>
    have e : h.get? a = some { cls := .none, data := .fields ps } := x
    show h'.get? a = some { cls := .none, data := .fields ps }
    exact k a _ (.inl rfl) e
  | met f y =>
    have e : h.get? a = some (PySem.W.methodObj (.ref f) (.ref y)) := x
    show h'.get? a = some (PySem.W.methodObj (.ref f) (.ref y))
    exact k a _ (.inl rfl) e
  | ext φ => obtain ⟨p, ⟨o, e⟩, st⟩ := x; exact ⟨st _ _ p fun o q => k _ _ (.inl rfl) q, ⟨o, k _ _ (.inl rfl) e⟩, st⟩
theorem HOk.lt (x : HOk P w H h) (e : H a = some o) : a < h.objs.size := (x a o e).lt
theorem HOk.fresh (x : HOk P w H h) (e : h.objs.size ≤ a) : H a = none := by
  cases q : H a with
  | none => rfl
  | some u => exact absurd (Nat.lt_of_lt_of_le (x.lt q) e) (Nat.lt_irrefl _)
/-- every object of the heap is kept -/
theorem HOk.kept (x : HOk P w H h) (k : ∀ b u, h.get? b = some u → h'.get? b = some u) : HOk P w H h' := fun a o e =>
  (x a o e).stay (fun b u _ q => k b u q) (fun _ q => q) fun _ _ q => q
/-- a new object is laid and tracked -/
theorem HOk.laid (x : HOk P w H h) (k : ∀ b u, h.get? b = some u → h'.get? b = some u) (hp : h.objs.size ≤ a) (new : ObjOk P w (upd H a o) h' a o) : HOk P w (upd H a o) h' := fun b u e => by
  have hn := x.fresh hp
  by_cases hb : b = a
  · subst hb; rw [upd_same] at e; cases e; exact new
  · rw [upd_ne hb] at e
    exact (x b u e).stay (fun c v _ q => k c v q) (fun c q => by rw [upd_ne (ne_of_none q hn)]; exact q) fun c xs q => by rw [upd_ne (ne_of_none q hn)]; exact q
end
/-- what may be read as u: it is u, or a known u -/
def Rd (H : Hp) (a : Addr) (u : HO) : Prop := H a = some u ∨ ∃ o, H a = some (.frz o u)
theorem Rd.of {H : Hp} {a : Addr} {u : HO} (h : H a = some u) : Rd H a u := .inl h
theorem Rd.ok {P : Program} {w : World} {H : Hp} {h : Heap} {a : Addr} {u : HO} (r : Rd H a u) (x : HOk P w H h) : ObjOk P w H h a u := by
  rcases r with r | ⟨o, r⟩
  · exact x a u r
  · obtain ⟨_, q⟩ := x a _ r
    exact q
/-- what may be written -/
def Mut : Option HO → Prop
  | some (.lst _) => True
  | some (.dK _) => True
  | some (.dT _) => True
  | some (.set _ _) => True
  | some (.ins _ _ _) => True
  | some (.ext _) => True
  | _ => False
section
variable {P : Program} {w : World} {H : Hp} {h h' : Heap} {x e : Addr} {o' : HO}
/-- the object at e is changed: x itself, or the dict of the instance x -/
theorem HOk.write (ok : HOk P w H h) (mu : Mut (H x)) (he : e = x ∨ H e = some (.own x)) (k : ∀ b u, b ≠ e → h.get? b = some u → h'.get? b = some u) (heo : ∃ u, h'.get? e = some u)
    (new : ObjOk P w (upd H x o') h' x o') : HOk P w (upd H x o') h' := fun b u q => by
  have nown : ∀ c y, H c = some (.own y) → c ≠ x := fun c y r z => by subst z; rw [r] at mu; exact mu
  have ntup : ∀ c xs, H c = some (.tup xs) → c ≠ x := fun c xs r z => by subst z; rw [r] at mu; exact mu
  by_cases hb : b = x
  · subst hb; rw [upd_same] at q; cases q; exact new
  · rw [upd_ne hb] at q
    by_cases hbe : b = e
    · have q' : H b = some (.own x) := by
        rcases he with z | z
        · exact absurd (hbe.trans z) hb
        · rw [hbe]; exact z
      rw [q] at q'; cases q'
      obtain ⟨v, hv⟩ := heo
      exact ⟨v, by rw [hbe]; exact hv⟩
    · refine (ok b u q).stay (fun c v hc r => k c v ?_ r) (fun c r => by rw [upd_ne (nown c b r)]; exact r) fun c xs r => by rw [upd_ne (ntup c xs r)]; exact r
      rcases hc with rfl | hc
      · exact hbe
      · rintro rfl
        rcases he with z | z
        · exact nown c b hc z
        · rw [hc] at z; cases z; exact hb rfl
end
structure Un (fs ex : List Addr) (H H' : Hp) (h h' : Heap) : Prop where
  keep : ∀ b o, h.get? b = some o → H b = none → b ∉ fs → b ∉ ex → h'.get? b = some o
  slot : ∀ b o, h.get? b = some o → H b = none → b ∈ fs → b ∉ ex → ∃ sl, h'.get? b = some { o with slots := sl }
  free : ∀ b o, h.get? b = some o → H b = none → b ∉ ex → H' b = none
  there : ∀ b o, h.get? b = some o → b ∉ ex → ∃ o', h'.get? b = some o'
  tups : ∀ b xs, H b = some (.tup xs) → H' b = some (.tup xs)
  frzs : ∀ b o u, H b = some (.frz o u) → H' b = some (.frz o u)
  tbls : ∀ b ps, H b = some (.tbl ps) → ∃ more, H' b = some (.tbl (ps ++ more))
section
variable {fs fs' ex ex' : List Addr} {H H1 H2 : Hp} {h h1 h2 h' : Heap} {a x e : Addr} {o : HO}
theorem Un.any (u : Un fs ex H H1 h h1) {b : Addr} {ob : Obj} (q : h.get? b = some ob) (n : H b = none) (hx : b ∉ ex) : ∃ sl, h1.get? b = some { ob with slots := sl } := by
  by_cases hb : b ∈ fs
  · exact u.slot b ob q n hb hx
  · exact ⟨ob.slots, u.keep b ob q n hb hx⟩
theorem Un.trans (a : Un fs ex H H1 h h1) (b : Un fs ex H1 H2 h1 h2) : Un fs ex H H2 h h2 where
  keep := fun c ob q n hc hx => b.keep c ob (a.keep c ob q n hc hx) (a.free c ob q n hx) hc hx
  slot := fun c ob q n hc hx => by
    obtain ⟨sl, e1⟩ := a.slot c ob q n hc hx
    obtain ⟨sl', e2⟩ := b.slot c _ e1 (a.free c ob q n hx) hc hx
    exact ⟨sl', e2⟩
  free := fun c ob q n hx => by
    obtain ⟨o', e1⟩ := a.there c ob q hx
    exact b.free c o' e1 (a.free c ob q n hx) hx
  there := fun c ob q hx => by
    obtain ⟨o', e1⟩ := a.there c ob q hx
    exact b.there c o' e1 hx
  tups := fun c xs q => b.tups c xs (a.tups c xs q)
  frzs := fun c ob xs q => b.frzs c ob xs (a.frzs c ob xs q)
  tbls := fun c ps q => by
    obtain ⟨m1, e1⟩ := a.tbls c ps q
    obtain ⟨m2, e2⟩ := b.tbls c _ e1
    exact ⟨m1 ++ m2, by rw [e2, Array.append_assoc]⟩
theorem Un.kept (k : ∀ b u, h.get? b = some u → h'.get? b = some u) : Un fs ex H H h h' :=
  ⟨fun b ob q _ _ _ => k b ob q, fun b ob q _ _ _ => ⟨ob.slots, k b ob q⟩, fun _ _ _ n _ => n, fun b ob q _ => ⟨ob, k b ob q⟩, fun _ _ q => q, fun _ _ _ q => q, fun _ ps q => ⟨#[], by rw [q]; simp⟩⟩
theorem Un.refl : Un fs ex H H h h := Un.kept fun _ _ q => q
theorem Un.laid (k : ∀ b u, h.get? b = some u → h'.get? b = some u) (hp : h.objs.size ≤ a) (hn : H a = none) : Un fs ex H (upd H a o) h h' where
  keep := fun b u q _ _ _ => k b u q
  slot := fun b u q _ _ _ => ⟨u.slots, k b u q⟩
  free := fun b u q n _ => by rw [upd_ne (Nat.ne_of_lt (Nat.lt_of_lt_of_le (Heap.lt_size q) hp))]; exact n
  there := fun b u q _ => ⟨u, k b u q⟩
  tups := fun b xs q => by rw [upd_ne (ne_of_none q hn)]; exact q
  frzs := fun b u xs q => by rw [upd_ne (ne_of_none q hn)]; exact q
  tbls := fun b ps q => ⟨#[], by rw [upd_ne (ne_of_none q hn), q]; simp⟩
theorem Un.write (mu : Mut (H x)) (he : e = x ∨ H e = some (.own x)) (k : ∀ b u, b ≠ e → h.get? b = some u → h'.get? b = some u) (heo : ∃ u, h'.get? e = some u) : Un fs ex H (upd H x o) h h' := by
  have hx : ∀ b, H b = none → b ≠ x := fun b n z => by subst z; rw [n] at mu; exact mu
  have hb : ∀ b, H b = none → b ≠ e := fun b n z => by
    subst z
    rcases he with r | r
    · exact hx b n r
    · rw [n] at r; cases r
  have hm : ∀ b u, H b = some u → ¬ Mut (some u) → b ≠ x := fun b u q nm z => by subst z; rw [q] at mu; exact nm mu
  refine ⟨fun b u q n _ _ => k b u (hb b n) q, fun b u q n _ _ => ⟨u.slots, k b u (hb b n) q⟩, fun b u q n _ => by rw [upd_ne (hx b n)]; exact n, fun b u q _ => ?_,
    fun b xs q => by rw [upd_ne (hm b _ q fun z => z)]; exact q, fun b u xs q => by rw [upd_ne (hm b _ q fun z => z)]; exact q, fun b ps q => ⟨#[], by rw [upd_ne (hm b _ q fun z => z), q]; simp⟩⟩
  by_cases hbe : b = e
  · subst hbe; exact heo
  · exact ⟨u, k b u hbe q⟩
theorem Un.mono (u : Un fs ex H H1 h h1) (hs : ∀ b ∈ fs, b ∈ fs') (hx : ∀ b ∈ ex, b ∈ ex') : Un fs' ex' H H1 h h1 :=
  ⟨fun b ob q n hb he => u.keep b ob q n (fun z => hb (hs b z)) fun z => he (hx b z), fun _ _ q n _ he => u.any q n fun z => he (hx _ z), fun b ob q n he => u.free b ob q n fun z => he (hx b z), fun b ob q he => u.there b ob q fun z => he (hx b z), u.tups, u.frzs, u.tbls⟩
end
def trk (h : Heap) (H : Hp) : List Addr := (List.range h.objs.size).filter fun a => (H a).isSome
def hidT (h : Heap) (H : Hp) : Heap := PySem.W.hideAll h (trk h H)
theorem hidT_size (h : Heap) (H : Hp) : (hidT h H).objs.size = h.objs.size := PySem.W.hideAll_size _ _
theorem hidT_get {h : Heap} {H : Hp} {b : Addr} {o : Obj} (e : h.get? b = some o) (n : H b = none) : (hidT h H).get? b = some o :=
  PySem.W.hideAll_get _ e fun hm => by
    have q : (H b).isSome = true := (List.mem_filter.mp hm).2
    rw [n] at q; simp at q
theorem of_hidT {h : Heap} {H : Hp} {b : Addr} {o : Obj} (e : (hidT h H).get? b = some o) : h.get? b = some o ∧ H b = none := by
  have e' : h.get? b = some o := PySem.W.of_hideAll (trk h H) e
  refine ⟨e', ?_⟩
  cases q : H b with
  | none => rfl
  | some x =>
    have hm : b ∈ trk h H := List.mem_filter.mpr ⟨List.mem_range.mpr (Heap.lt_size e'), by simp [q]⟩
    have z : (hidT h H).get? b = none := PySem.W.hideAll_none (trk h H) hm
    rw [z] at e; cases e
def allNews (g h : Heap) (L : Addr) : List (Addr × Obj) := (List.range h.objs.size).filterMap fun a => if a = L ∨ (g.get? a).isSome = true then none else (h.get? a).map fun o => (a, o)
def rest (g h : Heap) (L d : Addr) : List (Addr × Obj) := (allNews g h L).filter fun p => decide (p.1 ≠ d)
end L2
namespace L2
open PySem PySem.Spec PyProof.Rows
/-- the module's facts, over the base: the heap at the law's entry without what is tracked there -/
structure Mod (K : PySem.W.Frag) (mg : Str → Option Value) (base : Heap) : Prop where
  kin : K.In base
  glob : base.Ns mainGlobals mg
  blt : ∃ mb, base.Ns builtinsNs mb ∧ ∀ x : Str, x ≠ "__name__" → mb x = bootBuiltins x
  nolimit : base.NoLimit
/-- the context: a def's body (or a comprehension's block) running. base: fixed through the whole law; s₀, H₀: the entry; outer: the frames whose slots others may change (a def's callers); stack: all frames that run;
   ex: iterators that were made ahead of the entry and are walked here (a comprehension's); fn: the names whose cells were made at the entry (a def: all; a comprehension's block: its own); calm: not within an except suite; pn: pins that every state bears; xe: what is wanted of an exception that leaves the code -/
structure Cx where
  prog : Program
  w : World
  K : PySem.W.Frag
  mg : Str → Option Value
  base : Heap
  A : Around
  N : List Str
  s₀ : Shared
  H₀ : Hp
  env : Env
  outer : List Env
  stack : List Env
  ex : List Addr
  fn : Str → Bool
  calm : Bool
  pn : List (Addr × Obj)
  xe : Value → Shared → Prop
/-- the callers' frames -/
def frs (l : List Env) : List Addr := l.filterMap (·.frame)
abbrev Cx.fs (X : Cx) : List Addr := frs X.outer
def Vis (sc : Scope) (x : Str) : Prop := sc.names.lookup x = some .local ∨ sc.names.lookup x = some .cell ∨ sc.names.lookup x = some .free
def Loc (sc : Scope) (x : Str) : Prop := sc.names.lookup x = some .local ∨ sc.names.lookup x = some .cell
def Look (env : Env) (h : Heap) (m : Str → Option Value) (x : Str) (u : Value) : Prop :=
  (env.kindOf x = some .local ∧ m x = some u) ∨ ((env.kindOf x = some .cell ∨ env.kindOf x = some .free) ∧ ∃ c, env.cells.lookup x = some c ∧ h.IsCell c (some u))
structure Cx.Ok (X : Cx) : Prop where
  mod : Mod X.K X.mg X.base
  kind : X.env.scope.kind = .function
  glob : X.env.globals = mainGlobals
  blt : X.env.builtins = builtinsNs
  above : X.s₀.heap.objs.size ≤ X.env.locals
  inj : ∀ x y c, X.env.cells.lookup x = some c → X.env.cells.lookup y = some c → x = y
  has : ∀ x, (X.env.kindOf x = some .cell ∨ X.env.kindOf x = some .free) → ∃ c, X.env.cells.lookup x = some c
  cab : ∀ x c, X.fn x = true → X.env.cells.lookup x = some c → X.s₀.heap.objs.size ≤ c
  hd : X.calm = true → X.A.handled = none
  frames : X.A.frames = some X.stack
  stk : X.stack = X.outer ∨ (X.stack = X.env :: X.outer ∧ X.env.frame = some X.env.locals)
  exf : ∀ b ∈ X.ex, b ≠ X.env.locals ∧ ∀ x c, X.env.cells.lookup x = some c → c ≠ b
  bs : ∀ b o, X.base.get? b = some o → X.s₀.heap.get? b = some o ∧ X.H₀ b = none
  bsz : X.base.objs.size ≤ X.s₀.heap.objs.size
  noex : ∀ b o, X.base.get? b = some o → b ∉ X.ex
  exfs : ∀ b ∈ X.ex, b ∉ X.fs
  funs : X.s₀.heap.FunFrames X.base X.outer
  frf : ∀ b ∈ X.fs, X.H₀ b = none
structure Inv (X : Cx) (pins : List (Addr × Obj)) (σ : List (Option V)) (H : Hp) (s : Shared) : Prop where
  ok : X.Ok
  os : s.os = X.s₀.os
  bare : AllBare s.gens
  base : Un X.fs X.ex X.H₀ H X.s₀.heap s.heap
  loc : ∃ m, s.heap.Ns X.env.locals m ∧ ∀ (i : Nat) (x : Str) (v : V), X.N[i]? = some x → σ[i]? = some (some v) → Vis X.env.scope x → ∃ u, RelV v u ∧ Look X.env s.heap m x u
  cell : ∀ x c, X.env.cells.lookup x = some c → ∃ v, s.heap.IsCell c v
  free : H X.env.locals = none
  freeC : ∀ x c, X.env.cells.lookup x = some c → H c = none
  pin : ∀ p ∈ X.pn ++ pins, s.heap.get? p.1 = some p.2 ∧ H p.1 = none ∧ p.1 ≠ X.env.locals ∧ p.1 ∉ X.fs ∧ ∀ v, p.2.data ≠ .cell v
  hok : HOk X.prog X.w H s.heap
  len : σ.length = X.N.length
section
variable {X : Cx} {pins : List (Addr × Obj)} {σ : List (Option V)} {H H' : Hp} {s : Shared} {h' : Heap}
theorem Cx.Ok.nofr (ok : X.Ok) {b : Addr} {o : Obj} (e : X.base.get? b = some o) : b ∉ X.fs := fun hb => by
  have := (ok.funs.mem hb).1
  rw [e] at this; cases this
theorem Inv.bs (I : Inv X pins σ H s) : ∀ b o, X.base.get? b = some o → s.heap.get? b = some o ∧ H b = none := fun b o e =>
  ⟨I.base.keep b o (I.ok.bs b o e).1 (I.ok.bs b o e).2 (I.ok.nofr e) (I.ok.noex b o e), I.base.free b o (I.ok.bs b o e).1 (I.ok.bs b o e).2 (I.ok.noex b o e)⟩
theorem Inv.bk (I : Inv X pins σ H s) : ∀ b o, X.base.get? b = some o → s.heap.get? b = some o := fun b o e => (I.bs b o e).1
theorem Inv.mod (I : Inv X pins σ H s) : Mod X.K X.mg X.base := I.ok.mod
theorem Inv.kIn (I : Inv X pins σ H s) : X.K.In s.heap := I.ok.mod.kin.keeps I.bk
theorem Inv.nolimit (I : Inv X pins σ H s) : s.heap.NoLimit := I.ok.mod.nolimit.keeps I.bk
/-- the frame over the base: for OpenK's rules (K.In X.base is I.mod.kin) -/
theorem Inv.fr (I : Inv X pins σ H s) : ∃ m, Fr X.base X.env.locals s.heap m :=
  let ⟨m, hn, _⟩ := I.loc
  ⟨m, hn, I.bk, Nat.le_trans I.ok.bsz I.ok.above⟩
theorem Inv.lt (I : Inv X pins σ H s) : X.env.locals < s.heap.objs.size := let ⟨_, hn, _⟩ := I.loc; hn.lt
theorem Inv.sz (I : Inv X pins σ H s) : X.s₀.heap.objs.size ≤ s.heap.objs.size := Nat.le_trans I.ok.above (Nat.le_of_lt I.lt)
theorem Inv.nofs (I : Inv X pins σ H s) {a : Addr} (h : s.heap.objs.size ≤ a) : a ∉ X.fs := fun hb => by
  obtain ⟨_, o, ho, _⟩ := I.ok.funs.mem hb
  exact absurd (Nat.lt_of_lt_of_le (Heap.lt_size ho) (Nat.le_trans I.sz h)) (Nat.lt_irrefl _)
theorem Inv.cne (I : Inv X pins σ H s) : ∀ x c, X.env.cells.lookup x = some c → c ≠ X.env.locals := fun x c e z => by
  obtain ⟨v, o, ho, hd⟩ := I.cell x c e
  obtain ⟨m, ⟨o', es, ep, ho', hd', _⟩, _⟩ := I.loc
  rw [z, ho'] at ho; cases ho; rw [hd'] at hd; cases hd
theorem Inv.funs (I : Inv X pins σ H s) : s.heap.FunFrames X.base X.outer := by
  have all : ∀ (l : List Env), (∀ b ∈ frs l, b ∈ X.fs) → X.s₀.heap.FunFrames X.base l → s.heap.FunFrames X.base l := by
    intro l
    induction l with
    | nil => intro _ _; trivial
    | cons env r ih =>
      intro hs hl
      obtain ⟨hk, ⟨L, o, hf, hn, ho, hd⟩, hr⟩ := hl
      have hL : L ∈ X.fs := hs L (by unfold frs; rw [List.filterMap_cons, hf]; exact List.mem_cons_self)
      obtain ⟨sl, e⟩ := I.base.slot L o ho (I.ok.frf L hL) hL fun z => I.ok.exfs L z hL
      exact ⟨hk, ⟨L, _, hf, hn, e, hd⟩, ih (fun b hb => hs b (by unfold frs; rw [List.filterMap_cons, hf]; exact List.mem_cons_of_mem _ hb)) hr⟩
  exact all X.outer (fun _ hb => hb) I.ok.funs
/-- the frames that run, for a call -/
theorem Inv.stack (I : Inv X pins σ H s) : s.heap.FunFrames X.base X.stack := by
  rcases I.ok.stk with e | ⟨e, hf⟩
  · rw [e]; exact I.funs
  · rw [e]
    obtain ⟨m, hn, _⟩ := I.loc
    refine .cons (by rw [I.ok.kind]; decide) hf hn ?_ I.funs
    exact Heap.get?_none_of_le (Nat.le_trans I.ok.bsz I.ok.above)
theorem Inv.stkSub (I : Inv X pins σ H s) : ∀ b ∈ frs X.stack, b ∈ X.env.locals :: X.fs := fun b hb => by
  rcases I.ok.stk with e | ⟨e, hf⟩
  · rw [e] at hb; exact List.mem_cons_of_mem _ hb
  · rw [e] at hb
    unfold frs at hb
    rw [List.filterMap_cons, hf] at hb
    exact hb
theorem Inv.stkFree (I : Inv X pins σ H s) : ∀ b ∈ frs X.stack, H b = none := fun b hb => by
  rcases List.mem_cons.mp (I.stkSub b hb) with e | hb
  · rw [e]; exact I.free
  · obtain ⟨_, o, ho, _⟩ := I.ok.funs.mem hb
    exact I.base.free b o ho (I.ok.frf b hb) fun z => I.ok.exfs b z hb
/-- THE STEP: the untracked objects but the frame and the records at ch are kept (the callers' frames up to slots), the frame's map is kept, the new abstract heap is held -/
theorem Inv.step {g' : Array GenState} {t' : Nat} {d' : Drawn} {ch : List Addr} (I : Inv X pins σ H s)
    (hch : ∀ b ∈ ch, (b ∈ X.ex ∨ X.s₀.heap.objs.size ≤ b) ∧ b ≠ X.env.locals ∧ (∀ x c, X.env.cells.lookup x = some c → c ≠ b) ∧ ∀ p ∈ X.pn ++ pins, p.1 ≠ b)
    (keep : ∀ b o, b ≠ X.env.locals → b ∉ X.fs → b ∉ ch → s.heap.get? b = some o → H b = none → h'.get? b = some o)
    (slot : ∀ b o, b ≠ X.env.locals → b ∈ X.fs → b ∉ ch → s.heap.get? b = some o → H b = none → ∃ sl, h'.get? b = some { o with slots := sl }) (free : ∀ b o, b ∉ ch → s.heap.get? b = some o → H b = none → H' b = none)
    (there : ∀ b o, b ∉ ch → s.heap.get? b = some o → ∃ o', h'.get? b = some o')
    (tups : ∀ b xs, H b = some (.tup xs) → H' b = some (.tup xs)) (frzs : ∀ b o u, H b = some (.frz o u) → H' b = some (.frz o u)) (tbls : ∀ b ps, H b = some (.tbl ps) → ∃ more, H' b = some (.tbl (ps ++ more)))
    (ns : ∀ m, s.heap.Ns X.env.locals m → h'.Ns X.env.locals m) (hok : HOk X.prog X.w H' h') (hg : AllBare g') :
    Inv X pins σ H' { s with heap := h', gens := g', drawn := d', toks := t' } := by
  have neL : ∀ b o, X.s₀.heap.get? b = some o → b ≠ X.env.locals := fun b o e => Nat.ne_of_lt (Nat.lt_of_lt_of_le (Heap.lt_size e) I.ok.above)
  have neC : ∀ b o, X.s₀.heap.get? b = some o → b ∉ X.ex → b ∉ ch := fun b o e hx hb => by
    rcases (hch b hb).1 with z | z
    · exact hx z
    · exact absurd (Nat.lt_of_lt_of_le (Heap.lt_size e) z) (Nat.lt_irrefl _)
  have cellK : ∀ x c, X.env.cells.lookup x = some c → ∀ v, s.heap.IsCell c v → h'.IsCell c v := fun x c e v ⟨o, ho, hd⟩ => by
    have nch : c ∉ ch := fun z => (hch c z).2.2.1 x c e rfl
    by_cases hc : c ∈ X.fs
    · obtain ⟨sl, q⟩ := slot c o (I.cne x c e) hc nch ho (I.freeC x c e)
      exact ⟨_, q, hd⟩
    · exact ⟨o, keep c o (I.cne x c e) hc nch ho (I.freeC x c e), hd⟩
  refine ⟨I.ok, I.os, hg, ⟨fun b o e n hb hx => ?_, fun b o e n hb hx => ?_, fun b o e n hx => ?_, fun b o e hx => ?_, fun b xs e => tups b xs (I.base.tups b xs e), fun b o xs e => frzs b o xs (I.base.frzs b o xs e), fun b ps e => ?_⟩, ?_, fun x c e => ?_, ?_, fun x c e => ?_, fun p hp => ?_, hok, I.len⟩
  · exact keep b o (neL b o e) hb (neC b o e hx) (I.base.keep b o e n hb hx) (I.base.free b o e n hx)
  · obtain ⟨sl, e1⟩ := I.base.slot b o e n hb hx
    obtain ⟨sl', e2⟩ := slot b _ (neL b o e) hb (neC b o e hx) e1 (I.base.free b o e n hx)
    exact ⟨sl', e2⟩
  · obtain ⟨o', e1⟩ := I.base.there b o e hx
    exact free b o' (neC b o e hx) e1 (I.base.free b o e n hx)
  · obtain ⟨o', e1⟩ := I.base.there b o e hx
    exact there b o' (neC b o e hx) e1
  · obtain ⟨m1, e1⟩ := I.base.tbls b ps e
    obtain ⟨m2, e2⟩ := tbls b _ e1
    exact ⟨m1 ++ m2, by rw [e2, Array.append_assoc]⟩
  · obtain ⟨m, hn, hl⟩ := I.loc
    refine ⟨m, ns m hn, fun i x v e1 e2 e3 => ?_⟩
    obtain ⟨u, r, l⟩ := hl i x v e1 e2 e3
    refine ⟨u, r, ?_⟩
    rcases l with l | ⟨k, c, e, z⟩
    · exact .inl l
    · exact .inr ⟨k, c, e, cellK x c e _ z⟩
  · obtain ⟨v, z⟩ := I.cell x c e
    exact ⟨v, cellK x c e v z⟩
  · obtain ⟨m, ⟨o, _, _, ho, _⟩, _⟩ := I.loc
    exact free _ o (fun z => (hch _ z).2.1 rfl) ho I.free
  · obtain ⟨v, o, ho, hd⟩ := I.cell x c e
    exact free c o (fun z => (hch c z).2.2.1 x c e rfl) ho (I.freeC x c e)
  · obtain ⟨e, n, ne, nf, d⟩ := I.pin p hp
    have nch : p.1 ∉ ch := fun z => (hch p.1 z).2.2.2 p hp rfl
    exact ⟨keep p.1 p.2 ne nf nch e n, free p.1 p.2 nch e n, ne, nf, d⟩
/-- .. where the frame's own object is kept too -/
theorem Inv.un {t' : Nat} (I : Inv X pins σ H s) (u : Un X.fs [] H H' s.heap h') (hok : HOk X.prog X.w H' h') : Inv X pins σ H' { s with heap := h', toks := t' } := by
  obtain ⟨m, ⟨o, es, ep, ho, r⟩, _⟩ := id I.loc
  obtain ⟨sl, hL⟩ := u.any ho I.free (by simp)
  exact I.step (g' := s.gens) (d' := s.drawn) (ch := []) (fun _ z => nomatch z) (fun b o _ hb _ e n => u.keep b o e n hb (by simp)) (fun b o _ hb _ e n => u.slot b o e n hb (by simp)) (fun b o _ e n => u.free b o e n (by simp)) (fun b o _ e => u.there b o e (by simp)) u.tups u.frzs u.tbls (fun m' hm => by
    obtain ⟨o', es', ep', ho', r'⟩ := hm
    rw [ho] at ho'; cases ho'
    exact ⟨_, es', ep', hL, r'⟩) hok I.bare
/-- behind a call (or a comprehension's block): the slots of this frame may have changed too, the records at ch may have turned -/
theorem Inv.call {g' : Array GenState} {t' : Nat} {d' : Drawn} {ch : List Addr} (I : Inv X pins σ H s) (u : Un (frs X.stack) ch H H' s.heap h') (hok : HOk X.prog X.w H' h') (hg : AllBare g')
    (hch : ∀ b ∈ ch, (b ∈ X.ex ∨ X.s₀.heap.objs.size ≤ b) ∧ b ≠ X.env.locals ∧ (∀ x c, X.env.cells.lookup x = some c → c ≠ b) ∧ ∀ p ∈ X.pn ++ pins, p.1 ≠ b) :
    Inv X pins σ H' { s with heap := h', gens := g', drawn := d', toks := t' } := by
  obtain ⟨m, ⟨o, es, ep, ho, r⟩, _⟩ := id I.loc
  obtain ⟨sl, hL⟩ := u.any ho I.free fun z => (hch _ z).2.1 rfl
  exact I.step (ch := ch) hch (fun b o hL hb hc e n => u.keep b o e n (fun z => (List.mem_cons.mp (I.stkSub b z)).elim hL hb) hc) (fun b o _ _ hc e n => u.any e n hc) (fun b o hc e n => u.free b o e n hc) (fun b o hc e => u.there b o e hc) u.tups u.frzs u.tbls (fun m' hm => by
    obtain ⟨o', es', ep', ho', r'⟩ := hm
    rw [ho] at ho'; cases ho'
    exact ⟨_, es', ep', hL, r'⟩) hok hg
/-- an untracked record of ours (an iterator) has turned -/
theorem Inv.turned {t' : Nat} {it : Addr} (I : Inv X pins σ H s) (k : ∀ b o, b ≠ it → s.heap.get? b = some o → h'.get? b = some o) (hn : H it = none) (hL : it ≠ X.env.locals)
    (h1 : it ∈ X.ex ∨ X.s₀.heap.objs.size ≤ it) (h2 : ∀ x c, X.env.cells.lookup x = some c → c ≠ it) (h3 : ∀ p ∈ X.pn ++ pins, p.1 ≠ it) : Inv X pins σ H { s with heap := h', toks := t' } := by
  have nit : ∀ b u, H b = some u → b ≠ it := fun b u e z => by rw [z, hn] at e; cases e
  refine I.step (g' := s.gens) (d' := s.drawn) (ch := [it]) (fun b hb => ?_) (fun b o _ _ hc e _ => k b o (fun z => hc (by simp [z])) e) (fun b o _ _ hc e _ => ⟨o.slots, k b o (fun z => hc (by simp [z])) e⟩) (fun _ _ _ _ n => n)
    (fun b o hc e => ⟨o, k b o (fun z => hc (by simp [z])) e⟩) (fun _ _ e => e) (fun _ _ _ e => e) (fun b ps e => ⟨#[], by rw [e]; simp⟩) (fun m hm => ?_) (fun b u e => ?_) I.bare
  · have e : b = it := by simpa using hb
    subst e
    exact ⟨h1, hL, h2, h3⟩
  · obtain ⟨o, es, ep, ho, r⟩ := hm
    exact ⟨o, es, ep, k _ o (Ne.symm hL) ho, r⟩
  · refine (I.hok b u e).stay (fun c v hc q => k c v ?_ q) (fun _ q => q) fun _ _ q => q
    rcases hc with z | z
    · rw [z]; exact nit b u e
    · exact nit c _ z
theorem Inv.tok (I : Inv X pins σ H s) (t : Nat) : Inv X pins σ H { s with toks := t } := I.un (h' := s.heap) (t' := t) Un.refl I.hok
/-- all objects kept -/
theorem Inv.kept {t' : Nat} (I : Inv X pins σ H s) (k : ∀ b u, s.heap.get? b = some u → h'.get? b = some u) : Inv X pins σ H { s with heap := h', toks := t' } := I.un (Un.kept k) (I.hok.kept k)
/-- a new object laid and tracked -/
theorem Inv.laid {a : Addr} {o : HO} {t' : Nat} (I : Inv X pins σ H s) (k : ∀ b u, s.heap.get? b = some u → h'.get? b = some u) (hp : s.heap.objs.size ≤ a) (new : ObjOk X.prog X.w (upd H a o) h' a o) :
    Inv X pins σ (upd H a o) { s with heap := h', toks := t' } := I.un (Un.laid k hp (I.hok.fresh hp)) (I.hok.laid k hp new)
/-- an object written -/
theorem Inv.write {x e : Addr} {o : HO} {t' : Nat} (I : Inv X pins σ H s) (mu : Mut (H x)) (he : e = x ∨ H e = some (.own x)) (k : ∀ b u, b ≠ e → s.heap.get? b = some u → h'.get? b = some u) (heo : ∃ u, h'.get? e = some u)
    (new : ObjOk X.prog X.w (upd H x o) h' x o) : Inv X pins σ (upd H x o) { s with heap := h', toks := t' } := I.un (Un.write mu he k heo) (I.hok.write mu he k heo new)
theorem Inv.pins_of {pins' : List (Addr × Obj)} (I : Inv X pins σ H s) (h : ∀ p ∈ pins', s.heap.get? p.1 = some p.2 ∧ H p.1 = none ∧ p.1 ≠ X.env.locals ∧ p.1 ∉ X.fs ∧ ∀ v, p.2.data ≠ .cell v) : Inv X pins' σ H s :=
  ⟨I.ok, I.os, I.bare, I.base, I.loc, I.cell, I.free, I.freeC, fun p hp => (List.mem_append.mp hp).elim (fun z => I.pin p (List.mem_append_left _ z)) (h p), I.hok, I.len⟩
theorem nodup_ix {N : List Str} (hN : N.Nodup) {i j : Nat} {x : Str} (a : N[i]? = some x) (b : N[j]? = some x) : i = j := by
  obtain ⟨h1, e1⟩ := List.getElem?_eq_some_iff.mp a
  obtain ⟨h2, e2⟩ := List.getElem?_eq_some_iff.mp b
  exact (List.getElem_inj hN).mp (e1.trans e2.symm)
/-- a name is stored; what changed -/
theorem store_ok2 {M : Model} {A : Around} {E : Value → Shared → Prop} {i : Nat} {x : Str} {v : V} {u : Value} {Q : Unit → Shared → Prop} (I : Inv X pins σ H s) (hN : X.N.Nodup) (hi : X.N[i]? = some x) (hx : Loc X.env.scope x) (r : RelV v u)
    (h : ∀ s', Inv X pins (σ.set i (some v)) H s' → (∃ a, Heap.SameBut a s.heap s'.heap ∧ (a = X.env.locals ∨ X.env.cells.lookup x = some a)) → Q () s') (hf : X.fn x = true ∨ X.env.scope.names.lookup x = some .local := by first | exact .inl rfl | exact .inr rfl | assumption) : wpAny M A (storeName X.env x u) Q E s := by
  obtain ⟨m, hn, hl⟩ := id I.loc
  have hcls : (X.env.scope.kind == .class || (X.env.scope.kind == .module && X.env.locals != X.env.globals)) = false := by rw [I.ok.kind]; rfl
  have hiσ : i < σ.length := by rw [I.len]; exact (List.getElem?_eq_some_iff.mp hi).1
  have cne := I.cne
  have tracked : ∀ {a : Addr} {h' : Heap}, (∃ o, s.heap.get? a = some o ∧ H a = none) → Heap.SameBut a s.heap h' → HOk X.prog X.w H h' := fun {a h'} ha hs b ob e => by
    obtain ⟨_, _, hfree⟩ := ha
    refine (I.hok b ob e).stay (fun c w' hc q => (hs.2 c ?_).trans q) (fun _ q => q) fun _ _ q => q
    rintro rfl
    rcases hc with rfl | hc
    · rw [hfree] at e; cases e
    · rw [hfree] at hc; cases hc
  rcases hx with hk | hk
  · refine wpAny_storeName_local hk hn (fun h' hn' hs => ?_) hcls
    obtain ⟨oL, _, _, hoL, _⟩ := id hn
    refine h _ ⟨I.ok, I.os, I.bare, ⟨fun b o e n hb hx => ?_, fun b o e n hb hx => ?_, I.base.free, fun b o e hx => ?_, I.base.tups, I.base.frzs, I.base.tbls⟩, ⟨_, hn', fun j y v' e1 e2 e3 => ?_⟩, fun y c e => ?_, I.free, I.freeC, fun p hp => ?_, tracked ⟨oL, hoL, I.free⟩ hs, by simpa using I.len⟩ ⟨_, hs, .inl rfl⟩
    · exact (hs.2 b (Nat.ne_of_lt (Nat.lt_of_lt_of_le (Heap.lt_size e) I.ok.above))).trans (I.base.keep b o e n hb hx)
    · obtain ⟨sl, e1⟩ := I.base.slot b o e n hb hx
      exact ⟨sl, (hs.2 b (Nat.ne_of_lt (Nat.lt_of_lt_of_le (Heap.lt_size e) I.ok.above))).trans e1⟩
    · obtain ⟨o', e1⟩ := I.base.there b o e hx
      exact ⟨o', (hs.2 b (Nat.ne_of_lt (Nat.lt_of_lt_of_le (Heap.lt_size e) I.ok.above))).trans e1⟩
    · by_cases hj : j = i
      · subst hj
        rw [hi] at e1; cases e1
        rw [List.getElem?_set_self hiσ] at e2
        cases e2
        exact ⟨u, r, .inl ⟨hk, by simp⟩⟩
      · rw [List.getElem?_set_ne (Ne.symm hj)] at e2
        obtain ⟨u', r', q⟩ := hl j y v' e1 e2 e3
        refine ⟨u', r', ?_⟩
        rcases q with ⟨k, e⟩ | ⟨k, c, e, z⟩
        · refine .inl ⟨k, ?_⟩
          have : y ≠ x := fun e => hj (nodup_ix hN e1 (e ▸ hi))
          simp [this, e]
        · exact .inr ⟨k, c, e, z.sameBut hs (cne y c e)⟩
    · obtain ⟨w', z⟩ := I.cell y c e
      exact ⟨w', z.sameBut hs (cne y c e)⟩
    · obtain ⟨e, n, ne, nf, d⟩ := I.pin p hp
      exact ⟨(hs.2 p.1 ne).trans e, n, ne, nf, d⟩
  · have hfn : X.fn x = true := by
      rcases hf with z | z
      · exact z
      · rw [z] at hk; cases hk
    obtain ⟨c, hc⟩ := I.ok.has x (.inl hk)
    obtain ⟨w', z⟩ := I.cell x c hc
    refine wpAny_storeName_cell I.ok.kind hk hc z (fun h' hc' hs => ?_)
    obtain ⟨oc, hoc, hocd⟩ := id z
    refine h { s with heap := h' } ⟨I.ok, I.os, I.bare, ⟨fun b o e n hb hx => ?_, fun b o e n hb hx => ?_, I.base.free, fun b o e hx => ?_, I.base.tups, I.base.frzs, I.base.tbls⟩, ⟨m, hn.sameBut hs (Ne.symm (cne x c hc)), fun j y v' e1 e2 e3 => ?_⟩, fun y c' e => ?_, I.free, I.freeC, fun p hp => ?_, tracked ⟨oc, hoc, I.freeC x c hc⟩ hs, by simpa using I.len⟩ ⟨c, hs, .inr hc⟩
    · exact (hs.2 b (Nat.ne_of_lt (Nat.lt_of_lt_of_le (Heap.lt_size e) (I.ok.cab x c hfn hc)))).trans (I.base.keep b o e n hb hx)
    · obtain ⟨sl, e1⟩ := I.base.slot b o e n hb hx
      exact ⟨sl, (hs.2 b (Nat.ne_of_lt (Nat.lt_of_lt_of_le (Heap.lt_size e) (I.ok.cab x c hfn hc)))).trans e1⟩
    · obtain ⟨o', e1⟩ := I.base.there b o e hx
      exact ⟨o', (hs.2 b (Nat.ne_of_lt (Nat.lt_of_lt_of_le (Heap.lt_size e) (I.ok.cab x c hfn hc)))).trans e1⟩
    · by_cases hj : j = i
      · subst hj
        rw [hi] at e1; cases e1
        rw [List.getElem?_set_self hiσ] at e2
        cases e2
        exact ⟨u, r, .inr ⟨.inl hk, c, hc, hc'⟩⟩
      · rw [List.getElem?_set_ne (Ne.symm hj)] at e2
        obtain ⟨u', r', q⟩ := hl j y v' e1 e2 e3
        refine ⟨u', r', ?_⟩
        rcases q with q | ⟨k, c', e, z'⟩
        · exact .inl q
        · refine .inr ⟨k, c', e, z'.sameBut hs ?_⟩
          rintro rfl
          exact hj (nodup_ix hN e1 (I.ok.inj _ _ _ e hc ▸ hi))
    · by_cases hcc : c' = c
      · subst hcc; exact ⟨_, hc'⟩
      · obtain ⟨w2, z2⟩ := I.cell y c' e
        exact ⟨w2, z2.sameBut hs hcc⟩
    · obtain ⟨e, n, ne, nf, d⟩ := I.pin p hp
      refine ⟨(hs.2 p.1 ?_).trans e, n, ne, nf, d⟩
      intro q
      rw [q, hoc] at e
      have q' : oc = p.2 := Option.some.inj e
      exact d w' (by rw [← q']; exact hocd)
theorem store_ok {M : Model} {A : Around} {E : Value → Shared → Prop} {i : Nat} {x : Str} {v : V} {u : Value} {Q : Unit → Shared → Prop} (I : Inv X pins σ H s) (hN : X.N.Nodup) (hi : X.N[i]? = some x) (hx : Loc X.env.scope x) (r : RelV v u)
    (h : ∀ s', Inv X pins (σ.set i (some v)) H s' → Q () s') (hf : X.fn x = true ∨ X.env.scope.names.lookup x = some .local := by first | exact .inl rfl | exact .inr rfl | assumption) : wpAny M A (storeName X.env x u) Q E s :=
  store_ok2 I hN hi hx r (fun s' I' _ => h s' I') hf
/-- behind a call or a block, the state as it is -/
theorem Inv.call' {s' : Shared} {ch : List Addr} (I : Inv X pins σ H s) (ho : s'.os = s.os) (u : Un (frs X.stack) ch H H' s.heap s'.heap) (hok : HOk X.prog X.w H' s'.heap) (hg : AllBare s'.gens)
    (hch : ∀ b ∈ ch, (b ∈ X.ex ∨ X.s₀.heap.objs.size ≤ b) ∧ b ≠ X.env.locals ∧ (∀ x c, X.env.cells.lookup x = some c → c ≠ b) ∧ ∀ p ∈ X.pn ++ pins, p.1 ≠ b) : Inv X pins σ H' s' := by
  obtain ⟨h', g', d', t', o'⟩ := s'
  have e : o' = s.os := ho
  subst e
  exact I.call (g' := g') (t' := t') (d' := d') u hok hg hch
end
/-- an exception: its class, its own dict's address (where it has one), the abstract heap behind it -/
abbrev XK := Value → Option Addr → Hp → Prop
abbrev St := List (Option V)
abbrev VK := V → Hp → Prop
/-- an expression's reading; a test's; an argument list's -/
abbrev TE := St → Hp → VK → Prop
abbrev TT := St → Hp → (Bool → Hp → Prop) → Prop
abbrev TA := St → Hp → (List V → Hp → Prop) → Prop
/-- what is wanted behind a statement -/
structure Ends where
  nx : St → Hp → Prop
  rt : VK
  bk : St → Hp → Prop := fun _ _ => False
  ct : St → Hp → Prop := fun _ _ => False
abbrev TS := Ends → St → Hp → Prop
def EP (X : Cx) (pins : List (Addr × Obj)) (σ : St) (Q : VK) (u : Value) (s' : Shared) : Prop := ∃ v H', Inv X pins σ H' s' ∧ RelV v u ∧ Q v H'
def TP (X : Cx) (pins : List (Addr × Obj)) (σ : St) (Q : Bool → Hp → Prop) (b : Bool) (s' : Shared) : Prop := ∃ H', Inv X pins σ H' s' ∧ Q b H'
def AP (X : Cx) (pins : List (Addr × Obj)) (σ : St) (Q : List V → Hp → Prop) (us : List Value) (s' : Shared) : Prop := ∃ vs H', Inv X pins σ H' s' ∧ Vals vs us ∧ Q vs H'
def SP (X : Cx) (pins : List (Addr × Obj)) (D : Ends) (f : Flow) (s' : Shared) : Prop :=
  match f with
  | .next => ∃ σ' H', Inv X pins σ' H' s' ∧ D.nx σ' H'
  | .brk => ∃ σ' H', Inv X pins σ' H' s' ∧ D.bk σ' H'
  | .cont => ∃ σ' H', Inv X pins σ' H' s' ∧ D.ct σ' H'
  | .ret u => ∃ v σ' H', Inv X pins σ' H' s' ∧ RelV v u ∧ D.rt v H'
def PE (X : Cx) (e : Expr) (t : TE) : Prop :=
  ∀ (pins : List (Addr × Obj)) (s : Shared) (σ : St) (H : Hp) (Q : VK), Inv X pins σ H s → t σ H Q → wpAny (model X.prog X.w) X.A (eval e X.env) (EP X pins σ Q) X.xe s
def PT (X : Cx) (e : Expr) (t : TT) : Prop :=
  ∀ (pins : List (Addr × Obj)) (s : Shared) (σ : St) (H : Hp) (Q : Bool → Hp → Prop), Inv X pins σ H s → t σ H Q → wpAny (model X.prog X.w) X.A (isTrue e X.env (eval e X.env)) (TP X pins σ Q) X.xe s
/-- a test whatever its 'whole' is (and, or) -/
def PW (X : Cx) (e : Expr) (t : TT) : Prop :=
  ∀ (whole : Sem Value) (pins : List (Addr × Obj)) (s : Shared) (σ : St) (H : Hp) (Q : Bool → Hp → Prop), Inv X pins σ H s → t σ H Q → wpAny (model X.prog X.w) X.A (isTrue e X.env whole) (TP X pins σ Q) X.xe s
theorem PW.pt {X : Cx} {e : Expr} {t : TT} (h : PW X e t) : PT X e t := h _
/-- an argument list (no star), from the left -/
def PA (X : Cx) (es : List Expr) (t : TA) : Prop :=
  ∀ (pos : Pos) (pins : List (Addr × Obj)) (s : Shared) (σ : St) (H : Hp) (Q : List V → Hp → Prop), Inv X pins σ H s → t σ H Q → wpAny (model X.prog X.w) X.A (spliced (backTo pos (starEach es X.env))) (AP X pins σ Q) X.xe s
def PS (X : Cx) (st : Stmt) (t : TS) : Prop :=
  ∀ (pins : List (Addr × Obj)) (s : Shared) (σ : St) (H : Hp) (D : Ends), Inv X pins σ H s → t D σ H → wpAny (model X.prog X.w) X.A (exec st X.env) (SP X pins D) X.xe s
def PSs (X : Cx) (st : List Stmt) (t : TS) : Prop :=
  ∀ (pins : List (Addr × Obj)) (s : Shared) (σ : St) (H : Hp) (D : Ends), Inv X pins σ H s → t D σ H → wpAny (model X.prog X.w) X.A (execs st X.env) (SP X pins D) X.xe s
/-- weaken the end -/
theorem thn {α : Type} {t : Sem α} {Q Q' : α → Shared → Prop} {M : Model} {A : Around} {E : Value → Shared → Prop} {s : Shared} (h : wpAny M A t Q E s) (hQ : ∀ a s, Q a s → Q' a s) : wpAny M A t Q' E s := wpAny_mono h hQ fun _ _ x => x
end L2
namespace L2
open PySem PySem.Spec PyProof.Rows
section
variable {X : Cx}
def tVar (i : Nat) : TE := fun σ H Q => ∃ v, σ[i]? = some (some v) ∧ Q v H
def tC (v : V) : TE := fun _ H Q => Q v H
theorem pe_var {i : Nat} {x : Str} {pos : Pos} (hN : X.N[i]? = some x) (hv : Vis X.env.scope x) (hd : (x == ("__debug__" : Str)) = false := by decide) (hcd : (x == ("__classdict__" : Str)) = false := by decide) : PE X (.Name x pos) (tVar i) := by
  intro pins s σ H Q I h
  obtain ⟨v, e, h⟩ := h
  obtain ⟨m, hn, hl⟩ := I.loc
  obtain ⟨u, r, l⟩ := hl i x v hN e hv
  have fin : EP X pins σ Q u s := ⟨v, H, I, r, h⟩
  rcases l with ⟨hk, hm⟩ | ⟨hk, c, hc, hcell⟩
  · exact wpAny_Name (wpAny_loadName_local I.ok.kind hk hn hm fin) hd
  · rcases hk with hk | hk
    · exact wpAny_Name (wpAny_loadName_cell I.ok.kind hk hc hcell fin) hd
    · exact wpAny_Name (wpAny_loadName_free I.ok.kind hk hc hcell fin hcd) hd
theorem pe_int {i j pos} : PE X (.Constant (.int i) j pos) (tC (.int i)) := fun _ _ _ H _ I h => wpAny_Constant_int ⟨.int i, H, I.tok _, ⟨_, rfl⟩, h⟩
theorem pe_bl {b j pos} : PE X (.Constant (.bool b) j pos) (tC (.bl b)) := fun _ _ _ H _ I h => Constant_bool ⟨.bl b, H, I, rfl, h⟩
theorem pe_non {j pos} : PE X (.Constant .none j pos) (tC .non) := fun _ _ _ H _ I h => Constant_none ⟨.non, H, I, rfl, h⟩
theorem pe_str {x j pos} : PE X (.Constant (.str x) j pos) (tC (.str x)) := fun _ _ _ H _ I h => Calls.Constant_str ⟨.str x, H, I.tok _, ⟨_, rfl⟩, h⟩
/-- a global name of the def -/
def Gl (X : Cx) (x : Str) : Prop := X.env.kindOf x = some .globalImplicit
theorem ld_glob {E : Value → Shared → Prop} {pins : List (Addr × Obj)} {s : Shared} {σ : St} {H : Hp} {x : Str} {u : Value} {pos : Pos} {Q : Value → Shared → Prop} (I : Inv X pins σ H s) (hg : Gl X x) (hm : X.mg x = some u) (h : Q u s)
    (hd : (x == ("__debug__" : Str)) = false := by decide) : wpAny (model X.prog X.w) X.A (eval (.Name x pos) X.env) Q E s :=
  Calls.Name_function_global I.ok.kind hg (Calls.loadGlobal_global (by rw [I.ok.glob]; exact I.mod.glob.keeps I.bk) hm h) hd
theorem ld_blt {E : Value → Shared → Prop} {pins : List (Addr × Obj)} {s : Shared} {σ : St} {H : Hp} {x : Str} {u : Value} {pos : Pos} {Q : Value → Shared → Prop} (I : Inv X pins σ H s) (hg : Gl X x) (hm : X.mg x = none) (hv : bootBuiltins x = some u) (h : Q u s)
    (hn : x ≠ "__name__" := by decide) (hd : (x == ("__debug__" : Str)) = false := by decide) : wpAny (model X.prog X.w) X.A (eval (.Name x pos) X.env) Q E s := by
  obtain ⟨mb, h1, h2⟩ := I.mod.blt
  exact Calls.Name_function_global I.ok.kind hg (Calls.loadGlobal_builtin (by rw [I.ok.glob]; exact I.mod.glob.keeps I.bk) hm (by rw [I.ok.blt]; exact h1.keeps I.bk) ((h2 x hn).trans hv) h) hd
theorem pe_bltn {x : Str} {v : V} {u : Value} {pos : Pos} (hg : Gl X x) (hm : X.mg x = none) (hv : bootBuiltins x = some u) (r : RelV v u) (hn : x ≠ "__name__" := by decide) (hd : (x == ("__debug__" : Str)) = false := by decide) : PE X (.Name x pos) (tC v) :=
  fun _ _ _ H _ I h => ld_blt I hg hm hv ⟨v, H, I, r, h⟩ hn hd
variable {a b : Expr} {ta tb : TE} {pos : Pos}
variable {tA tB' : TT} {rest : List Expr}
def tAnd (t u : TT) : TT := fun σ H Q => t σ H fun c H1 => if c = true then u σ H1 Q else Q false H1
def tOr (t u : TT) : TT := fun σ H Q => t σ H fun c H1 => if c = true then Q true H1 else u σ H1 Q
def tNot (t : TT) : TT := fun σ H Q => t σ H fun c H1 => Q (!c) H1
theorem pw_and1 (ha : PT X a tA) : PW X (.BoolOp .And [a] pos) tA := by
  intro wh pins s σ H Q I h
  refine isTrue_and (thn (ha pins s σ H Q I h) fun c s1 e => ?_)
  cases c with
  | true => exact isTrue_and_nil e
  | false => exact e
theorem pw_or1 (ha : PT X a tA) : PW X (.BoolOp .Or [a] pos) tA := by
  intro wh pins s σ H Q I h
  refine isTrue_or (thn (ha pins s σ H Q I h) fun c s1 e => ?_)
  cases c with
  | false => exact isTrue_or_nil e
  | true => exact e
theorem pw_and (ha : PT X a tA) (hb : PW X (.BoolOp .And (b :: rest) pos) tB') : PW X (.BoolOp .And (a :: b :: rest) pos) (tAnd tA tB') := by
  intro wh pins s σ H Q I h
  refine isTrue_and (thn (ha pins s σ H _ I h) fun c s1 ⟨H1, I1, q1⟩ => ?_)
  cases c with
  | true => exact hb wh pins s1 σ H1 Q I1 q1
  | false => exact ⟨H1, I1, q1⟩
theorem pw_or (ha : PT X a tA) (hb : PW X (.BoolOp .Or (b :: rest) pos) tB') : PW X (.BoolOp .Or (a :: b :: rest) pos) (tOr tA tB') := by
  intro wh pins s σ H Q I h
  refine isTrue_or (thn (ha pins s σ H _ I h) fun c s1 ⟨H1, I1, q1⟩ => ?_)
  cases c with
  | true => exact ⟨H1, I1, q1⟩
  | false => exact hb wh pins s1 σ H1 Q I1 q1
theorem pt_not (ha : PT X a tA) : PT X (.UnaryOp .Not a pos) (tNot tA) := by
  intro pins s σ H Q I h
  exact isTrue_not (ha pins s σ H (fun c H1 => Q (!c) H1) I h)
/-- .. as values (bools) -/
def tAndV (ta tb : TE) : TE := fun σ H Q => ta σ H fun x H1 => ∃ c, x = .bl c ∧ if c = true then tb σ H1 Q else Q (.bl false) H1
def tNotV (ta : TE) : TE := fun σ H Q => ta σ H fun x H1 => ∃ c, x = .bl c ∧ Q (.bl (!c)) H1
theorem pe_one {op} {t : TE} (h : PE X a t) : PE X (.BoolOp op [a] pos) t := fun pins s σ H Q I hw => BoolOp_one (h pins s σ H Q I hw)
theorem pe_and (ha : PE X a ta) (hb : PE X (.BoolOp .And (b :: rest) pos) tb) : PE X (.BoolOp .And (a :: b :: rest) pos) (tAndV ta tb) := by
  intro pins s σ H Q I h
  refine BoolOp_and (thn (ha pins s σ H _ I h) fun v s1 ⟨x, H1, I1, r1, q1⟩ => ?_)
  obtain ⟨c, rfl, q1⟩ := q1
  cases r1
  refine wpAny_truthy_bool ?_
  cases c with
  | true => exact hb pins s1 σ H1 Q I1 q1
  | false => exact ⟨.bl false, H1, I1, rfl, q1⟩
theorem pe_not (ha : PE X a ta) : PE X (.UnaryOp .Not a pos) (tNotV ta) := by
  intro pins s σ H Q I h
  refine UnaryOp_ (thn (ha pins s σ H _ I h) fun v s1 ⟨x, H1, I1, r1, q1⟩ => ?_)
  obtain ⟨c, rfl, q1⟩ := q1
  cases r1
  exact not_of (wpAny_truthy_bool ⟨.bl (!c), H1, I1, rfl, q1⟩)
/-- a if t else b -/
def tIf (t : TT) (ta tb : TE) : TE := fun σ H Q => t σ H fun c H1 => if c = true then ta σ H1 Q else tb σ H1 Q
theorem pe_ifExp {c : Expr} (hc : PT X c tA) (ha : PE X a ta) (hb : PE X b tb) : PE X (.IfExp c a b pos) (tIf tA ta tb) := by
  intro pins s σ H Q I h
  refine wpAny_IfExp (thn (hc pins s σ H _ I h) fun d s1 ⟨H1, I1, q1⟩ => ?_)
  cases d with
  | true => exact ha pins s1 σ H1 Q I1 q1
  | false => exact hb pins s1 σ H1 Q I1 q1
end
end L2
namespace L2
open PySem PySem.Spec PyProof.Rows
def SqL (K : PySem.W.Frag) (H : Hp) (a : Addr) (xs : List V) : Prop :=
  Rd H a (.lst xs) ∨
    ∃ (o : Obj) (its : Array Value) (n : Nat), K.lookup a = some o ∧ o.cls = .type "list" ∧ o.dict = none ∧ o.data = .seq its n ∧ its.size ≤ sizeLine ∧ Vals xs its.toList
def SqT (K : PySem.W.Frag) (H : Hp) (a : Addr) (xs : List V) : Prop :=
  Rd H a (.tup xs) ∨
    ∃ (o : Obj) (its : Array Value) (n : Nat), K.lookup a = some o ∧ o.cls = .type "tuple" ∧ o.data = .seq its n ∧ its.size ≤ sizeLine ∧ Vals xs its.toList
def absV : Value → Option V
  | .none => some .non
  | .bool b => some (.bl b)
  | .int i _ => some (.int i)
  | .str x _ => some (.str x)
  | .bytes b _ => some (.byt b)
  | .float b _ => some (.flt b)
  | .ref a => some (.ref a)
  | .type n => some (.ty n)
  | _ => none
theorem RelV.abs {x : V} {u : Value} (r : RelV x u) : absV u = some x := by
  cases x with
  | non => cases r; rfl
  | bl _ => cases r; rfl
  | int _ => obtain ⟨t, rfl⟩ := r; rfl
  | str _ => obtain ⟨t, rfl⟩ := r; rfl
  | byt _ => obtain ⟨t, rfl⟩ := r; rfl
  | flt _ => obtain ⟨t, rfl⟩ := r; rfl
  | ref _ => cases r; rfl
  | ty _ => cases r; rfl
theorem RelV.inj {x y : V} {u : Value} (r : RelV x u) (q : RelV y u) : x = y := Option.some.inj (r.abs.symm.trans q.abs)
theorem Vals.inj : ∀ {xs ys : List V} {us : List Value}, Vals xs us → Vals ys us → xs = ys
  | _, _, _, .nil, .nil => rfl
  | _, _, _, .cons r t, .cons r' t' => by rw [r.inj r', Vals.inj t t']
section
variable {X : Cx} {pins : List (Addr × Obj)} {σ : St} {H : Hp} {s : Shared} {a : Addr} {xs ys : List V}
theorem SqL.of {K : PySem.W.Frag} (h : H a = some (.lst xs)) : SqL K H a xs := .inl (.inl h)
theorem SqT.of {K : PySem.W.Frag} (h : H a = some (.tup xs)) : SqT K H a xs := .inl (.inl h)
theorem Inv.list (I : Inv X pins σ H s) (h : SqL X.K H a xs) : ∃ its : List Value, Vals xs its ∧ PlainL s.heap a its.toArray ∧ xs.length ≤ sizeLine := by
  rcases h with h | ⟨o, its, n, hk, hc, hd, hs, hz, r⟩
  · obtain ⟨z, its, n, r, e⟩ := h.ok I.hok
    exact ⟨its, r, ⟨_, n, e, rfl, rfl, rfl⟩, z⟩
  · refine ⟨its.toList, r, ⟨o, n, I.kIn a o hk, hc, hd, by simpa using hs⟩, ?_⟩
    have e := r.length
    simp only [Array.length_toList] at e
    omega
theorem Inv.tuple (I : Inv X pins σ H s) (h : SqT X.K H a xs) : ∃ its : List Value, Vals xs its ∧ IsTup s.heap a its.toArray ∧ xs.length ≤ sizeLine := by
  rcases h with h | ⟨o, its, n, hk, hc, hs, hz, r⟩
  · obtain ⟨z, its, r, p⟩ := h.ok I.hok
    exact ⟨its, r, p, z⟩
  · refine ⟨its.toList, r, ⟨o, I.kIn a o hk, hc, n, by simpa using hs⟩, ?_⟩
    have e := r.length
    simp only [Array.length_toList] at e
    omega
theorem Inv.list_inj (I : Inv X pins σ H s) (h : SqL X.K H a xs) (h' : SqL X.K H a ys) : xs = ys := by
  obtain ⟨its, r, ⟨o, n, e, _, _, d⟩, _⟩ := I.list h
  obtain ⟨its', r', ⟨o', n', e', _, _, d'⟩, _⟩ := I.list h'
  rw [e] at e'; cases e'
  rw [d] at d'
  injection d' with d1 _
  have : its = its' := by simpa using congrArg Array.toList d1
  subst this
  exact r.inj r'
theorem Inv.tuple_inj (I : Inv X pins σ H s) (h : SqT X.K H a xs) (h' : SqT X.K H a ys) : xs = ys := by
  obtain ⟨its, r, ⟨o, e, _, n, d⟩, _⟩ := I.tuple h
  obtain ⟨its', r', ⟨o', e', _, n', d'⟩, _⟩ := I.tuple h'
  rw [e] at e'; cases e'
  rw [d] at d'
  injection d' with d1 _
  have : its = its' := by simpa using congrArg Array.toList d1
  subst this
  exact r.inj r'
end
abbrev Cx.wish (X : Cx) (E : Value → Shared → Prop) : Cx := { X with xe := E }
/-- no exception leaves -/
abbrev Cx.nox (X : Cx) : Cx := X.wish fun _ _ => False
theorem Cx.Ok.wish {X : Cx} (ok : X.Ok) (E : Value → Shared → Prop) : (X.wish E).Ok :=
  ⟨ok.mod, ok.kind, ok.glob, ok.blt, ok.above, ok.inj, ok.has, ok.cab, ok.hd, ok.frames, ok.stk, ok.exf, ok.bs, ok.bsz, ok.noex, ok.exfs, ok.funs, ok.frf⟩
theorem Cx.Ok.unwish {X : Cx} {E : Value → Shared → Prop} (ok : (X.wish E).Ok) : X.Ok :=
  ⟨ok.mod, ok.kind, ok.glob, ok.blt, ok.above, ok.inj, ok.has, ok.cab, ok.hd, ok.frames, ok.stk, ok.exf, ok.bs, ok.bsz, ok.noex, ok.exfs, ok.funs, ok.frf⟩
section
variable {X : Cx} {pins : List (Addr × Obj)} {σ : St} {H : Hp} {s : Shared} {E : Value → Shared → Prop}
theorem Inv.wish (I : Inv X pins σ H s) (E : Value → Shared → Prop) : Inv (X.wish E) pins σ H s := ⟨I.ok.wish E, I.os, I.bare, I.base, I.loc, I.cell, I.free, I.freeC, I.pin, I.hok, I.len⟩
theorem Inv.unwish (I : Inv (X.wish E) pins σ H s) : Inv X pins σ H s := ⟨I.ok.unwish, I.os, I.bare, I.base, I.loc, I.cell, I.free, I.freeC, I.pin, I.hok, I.len⟩
theorem SP.unwish {D : Ends} {f : Flow} {s' : Shared} (h : SP (X.wish E) pins D f s') : SP X pins D f s' := by
  cases f with
  | next => obtain ⟨σ', H', I, q⟩ := h; exact ⟨σ', H', I.unwish, q⟩
  | brk => obtain ⟨σ', H', I, q⟩ := h; exact ⟨σ', H', I.unwish, q⟩
  | cont => obtain ⟨σ', H', I, q⟩ := h; exact ⟨σ', H', I.unwish, q⟩
  | ret u => obtain ⟨v, σ', H', I, r, q⟩ := h; exact ⟨v, σ', H', I.unwish, r, q⟩
theorem PE.nox {e : Expr} {t : TE} (h : PE X.nox e t) : PE X e t := fun pins s σ H Q I hw =>
  wpAny_mono (h pins s σ H Q (I.wish _) hw) (fun _ _ ⟨v, H', I', r, q⟩ => ⟨v, H', I'.unwish, r, q⟩) fun _ _ z => False.elim z
theorem PT.nox {e : Expr} {t : TT} (h : PT X.nox e t) : PT X e t := fun pins s σ H Q I hw =>
  wpAny_mono (h pins s σ H Q (I.wish _) hw) (fun _ _ ⟨H', I', q⟩ => ⟨H', I'.unwish, q⟩) fun _ _ z => False.elim z
theorem PSs.nox {st : List Stmt} {t : TS} (h : PSs X.nox st t) : PSs X st t := fun pins s σ H D I hw =>
  wpAny_mono (h pins s σ H D (I.wish _) hw) (fun _ _ q => q.unwish) fun _ _ z => False.elim z
end
section
variable {X : Cx} {st : Stmt} {rest : List Stmt} {t u : TS} {e : Expr} {te : TE} {pos : Pos}
def tNext : TS := fun D σ H => D.nx σ H
def tSeq (t u : TS) : TS := fun D σ H => t { D with nx := u D } σ H
theorem pss_nil : PSs X [] tNext := fun _ _ σ H _ I h => wpAny_execs_nil ⟨σ, H, I, h⟩
theorem pss_cons (h1 : PS X st t) (h2 : PSs X rest u) : PSs X (st :: rest) (tSeq t u) := by
  intro pins s σ H D I h
  refine wpAny_execs_cons (thn (h1 pins s σ H { D with nx := u D } I h) fun f s1 q => ?_)
  cases f with
  | next =>
    obtain ⟨σ', H', I', q⟩ := q
    exact h2 pins s1 σ' H' D I' q
  | ret v => exact q
  | brk => exact q
  | cont => exact q
theorem pss_one (h1 : PS X st t) : PSs X [st] t := by
  intro pins s σ H D I h
  refine wpAny_execs_cons (thn (h1 pins s σ H D I h) fun f s1 q => ?_)
  cases f with
  | next => exact wpAny_execs_nil q
  | ret v => exact q
  | brk => exact q
  | cont => exact q
/-- in a def's body nothing is shown -/
theorem Inv.quiet {pins : List (Addr × Obj)} {σ : St} {H : Hp} {s : Shared} (I : Inv X pins σ H s) : interactive X.env = false := by simp [interactive, I.ok.kind]
/-- an expression whose value is dropped -/
def tDrop (te : TE) : TS := fun D σ H => te σ H fun _ H1 => D.nx σ H1
theorem ps_expr (he : PE X e te) (hs : swapsWith e none pos.line X.env = pure false := by rfl) : PS X (.Expr e pos) (tDrop te) := by
  intro pins s σ H D I h
  exact wpAny_Expr_any (thn (he pins s σ H _ I h) fun v s1 ⟨x, H1, I1, r1, q1⟩ => ⟨σ, H1, I1, q1⟩) I.quiet hs
def tRet (te : TE) : TS := fun D σ H => te σ H D.rt
theorem ps_ret (he : PE X e te) : PS X (.Return (some e) pos) (tRet te) := by
  intro pins s σ H D I h
  exact wpAny_Return_some (thn (he pins s σ H _ I h) fun v s1 ⟨x, H1, I1, r1, q1⟩ => ⟨x, σ, H1, I1, r1, q1⟩)
def tIfS (c : TT) (t u : TS) : TS := fun D σ H => c σ H fun b H1 => if b = true then t D σ H1 else u D σ H1
theorem ps_if {c : Expr} {a b : List Stmt} {tc : TT} (hc : PT X c tc) (ha : PSs X a t) (hb : PSs X b u) : PS X (.If c a b pos) (tIfS tc t u) := by
  intro pins s σ H D I h
  refine wpAny_If (thn (hc pins s σ H _ I h) fun d s1 ⟨H1, I1, q1⟩ => ?_)
  cases d with
  | true => exact ha pins s1 σ H1 D I1 q1
  | false => exact hb pins s1 σ H1 D I1 q1
end
abbrev TG := V → St → Hp → (St → Hp → Prop) → Prop
abbrev TGs := List V → St → Hp → (St → Hp → Prop) → Prop
def PG (X : Cx) (target : Expr) (t : TG) : Prop :=
  ∀ (pins : List (Addr × Obj)) (s : Shared) (σ : St) (H : Hp) (v : V) (u : Value) (Q : St → Hp → Prop), Inv X pins σ H s → RelV v u → t v σ H Q →
    wpAny (model X.prog X.w) X.A (assign target X.env u) (fun _ s' => ∃ σ' H', Inv X pins σ' H' s' ∧ Q σ' H') X.xe s
/-- several targets, one after another -/
def PGs (X : Cx) (ts : List Expr) (t : TGs) : Prop :=
  ∀ (pins : List (Addr × Obj)) (s : Shared) (σ : St) (H : Hp) (vs : List V) (us : List Value) (Q : St → Hp → Prop), Inv X pins σ H s → Vals vs us → t vs σ H Q →
    wpAny (model X.prog X.w) X.A (assignInOrder ((assignEach ts X.env).map (·.2)) us) (fun _ s' => ∃ σ' H', Inv X pins σ' H' s' ∧ Q σ' H') X.xe s
/-- o[i] = v, by values -/
abbrev TSet := V → V → V → Hp → (Hp → Prop) → Prop
def PSet (X : Cx) (t : TSet) : Prop :=
  ∀ (pins : List (Addr × Obj)) (s : Shared) (σ : St) (H : Hp) (o i v : V) (ov iv u : Value) (Q : Hp → Prop), Inv X pins σ H s → RelV o ov → RelV i iv → RelV v u → t o i v H Q →
    wpAny (model X.prog X.w) X.A (setItem ov iv u) (fun _ s' => ∃ H', Inv X pins σ H' s' ∧ Q H') X.xe s
/-- a op= b, by values -/
abbrev TIp := V → V → Hp → VK → Prop
def PIp (X : Cx) (op : Operator) (t : TIp) : Prop :=
  ∀ (pins : List (Addr × Obj)) (s : Shared) (σ : St) (H : Hp) (x y : V) (v u : Value) (Q : VK), Inv X pins σ H s → RelV x v → RelV y u → t x y H Q →
    wpAny (model X.prog X.w) X.A (inplaceOp op v u) (EP X pins σ Q) X.xe s
section
variable {X : Cx} {pos : Pos}
def gName (i : Nat) : TG := fun v σ H Q => Q (σ.set i (some v)) H
theorem pg_name {i : Nat} {x : Str} (hN : X.N.Nodup) (hi : X.N[i]? = some x) (hx : Loc X.env.scope x) (hf : X.fn x = true ∨ X.env.scope.names.lookup x = some .local := by first | exact .inl rfl | exact .inr rfl | assumption) : PG X (.Name x pos) (gName i) := by
  intro pins s σ H v u Q I r h
  exact wpAny_assign_Name (store_ok I hN hi hx r (fun s' I' => ⟨_, H, I', h⟩) hf)
def gNil : TGs := fun vs σ H Q => vs = [] ∧ Q σ H
def gCons (t : TG) (u : TGs) : TGs := fun vs σ H Q => ∃ v r, vs = v :: r ∧ t v σ H fun σ' H' => u r σ' H' Q
theorem pgs_nil : PGs X [] gNil := by
  intro pins s σ H vs us Q I r h
  obtain ⟨e, h⟩ := h
  subst e
  cases r
  exact assignInOrder_nil ⟨σ, H, I, h⟩
theorem pgs_cons {e : Expr} {es : List Expr} {t : TG} {u : TGs} (h1 : PG X e t) (h2 : PGs X es u)
    (hs : (assignEach (e :: es) X.env).map (·.2) = assign e X.env :: (assignEach es X.env).map (·.2) := by rfl) : PGs X (e :: es) (gCons t u) := by
  intro pins s σ H vs us Q I r h
  obtain ⟨v, vr, e1, h⟩ := h
  subst e1
  cases r with
  | cons r rr =>
    rw [hs]
    refine assignInOrder_cons (thn (h1 pins s σ H _ _ _ I r h) fun _ s1 ⟨σ1, H1, I1, q1⟩ => ?_)
    exact h2 pins s1 σ1 H1 _ _ Q I1 rr q1
/-- (a, b, ..) = a tuple of that length -/
def gTup (K : PySem.W.Frag) (n : Nat) (t : TGs) : TG := fun v σ H Q => ∃ a xs, v = .ref a ∧ SqT K H a xs ∧ xs.length = n ∧ t xs σ H Q
theorem pg_tup {es : List Expr} {k : Nat} {t : TGs} {n : Nat} (hc : X.calm = true) (h : PGs X es t)
    (hn : (assignEach es X.env).length = n := by rfl) (hst : (assignEach es X.env).findIdx? (·.1) = none := by rfl) : PG X (.Tuple es k pos) (gTup X.K n t) := by
  intro pins s σ H v u Q I r hw
  obtain ⟨a, xs, e1, hq, hl, hw⟩ := hw
  subst e1
  cases r
  obtain ⟨its, rv, ht, hz⟩ := I.tuple hq
  refine assign_Tuple_tuple (I.ok.hd hc) ht (by simp [hn, ← hl, rv.length]) hst fun h' hx => ?_
  have I1 : Inv X pins σ H { s with heap := h' } := I.kept (t' := s.toks) fun b o e => hx b o (Nat.ne_of_lt (Heap.lt_size e)) e
  exact h pins _ σ H xs _ Q I1 (by simpa using rv) hw
/-- o[i] = .. -/
def gSub (to ti : TE) (t : TSet) : TG := fun v σ H Q => to σ H fun o H1 => ti σ H1 fun i H2 => t o i v H2 fun H3 => Q σ H3
theorem pg_sub {o i : Expr} {to ti : TE} {t : TSet} (ho : PE X o to) (hi : PE X i ti) (hs : PSet X t)
    (ha : ∀ v, assign (.Subscript o i pos) X.env v = (do
      let ov ← holding [v] (eval o X.env)
      let iv ← holding [v, ov] (eval i X.env)
      standAt pos
      holding [v, ov, iv] (setItem ov iv v)
      release [v, ov, iv] []) := by intro _; rfl) : PG X (.Subscript o i pos) (gSub to ti t) := by
  intro pins s σ H v u Q I r h
  rw [ha]
  refine wpAny_bind (wpAny_holding (thn (ho pins s σ H _ I h) fun ov s1 ⟨x, H1, I1, r1, q1⟩ => ?_))
  refine wpAny_bind (wpAny_holding (thn (hi pins s1 σ H1 _ I1 q1) fun iv s2 ⟨y, H2, I2, r2, q2⟩ => ?_))
  refine wpAny_bind (wpAny_standAt (wpAny_bind (wpAny_holding (thn (hs pins s2 σ H2 x y v ov iv u _ I2 r1 r2 r q2) fun _ s3 ⟨H3, I3, q3⟩ => ?_))))
  exact wpAny_release ⟨σ, H3, I3, q3⟩
/-- target = value -/
def tAsg (te : TE) (g : TG) : TS := fun D σ H => te σ H fun x H1 => g x σ H1 D.nx
theorem ps_asg {tg e : Expr} {te : TE} {g : TG} (he : PE X e te) (hg : PG X tg g) (hs : swapsWithSole [tg] e pos.line X.env = pure false := by rfl) (hw : swappedStores [tg] e X.env = pure none := by rfl)
    (h1 : (assignEach [tg] X.env).map (·.2) = [assign tg X.env] := by rfl) : PS X (.Assign [tg] e pos) (tAsg te g) := by
  intro pins s σ H D I h
  refine wpAny_Assign_stores (thn (he pins s σ H _ I h) fun v s1 ⟨x, H1, I1, r1, q1⟩ => ?_) hs hw
  rw [h1]
  exact thn (hg pins s1 σ H1 x v _ I1 r1 q1) fun _ s2 q => q
/-- name = value -/
theorem ps_set {i : Nat} {x : Str} {e : Expr} {te : TE} {pos' : Pos} (hN : X.N.Nodup) (hi : X.N[i]? = some x) (hx : Loc X.env.scope x) (he : PE X e te) (hs : swapsWith e (some (.Name x pos')) pos.line X.env = pure false := by rfl) (hf : X.fn x = true ∨ X.env.scope.names.lookup x = some .local := by first | exact .inl rfl | exact .inr rfl | assumption) :
    PS X (.Assign [.Name x pos'] e pos) (tAsg te (gName i)) := by
  intro pins s σ H D I h
  refine wpAny_Assign_Name (thn (he pins s σ H _ I h) fun v s1 ⟨y, H1, I1, r1, q1⟩ => ?_) hs
  exact store_ok I1 hN hi hx r1 (fun s2 I2 => ⟨_, H1, I2, q1⟩) hf
/-- o[i] op= e -/
def tAugS (to ti te : TE) (tget : V → V → Hp → VK → Prop) (tip : TIp) (tset : TSet) : TS := fun D σ H => to σ H fun o H1 => ti σ H1 fun i H2 => tget o i H2 fun x H3 => te σ H3 fun y H4 => tip x y H4 fun z H5 => tset o i z H5 fun H6 => D.nx σ H6
/-- o[i], by values -/
def PGet (X : Cx) (t : V → V → Hp → VK → Prop) : Prop :=
  ∀ (pins : List (Addr × Obj)) (s : Shared) (σ : St) (H : Hp) (o i : V) (ov iv : Value) (Q : VK), Inv X pins σ H s → RelV o ov → RelV i iv → t o i H Q →
    wpAny (model X.prog X.w) X.A (getItem ov iv) (EP X pins σ Q) X.xe s
theorem ps_augS {o i e : Expr} {to ti te : TE} {tget : V → V → Hp → VK → Prop} {tip : TIp} {tset : TSet} {op : Operator} {tpos : Pos} (ho : PE X o to) (hi : PE X i ti) (hg : PGet X tget) (he : PE X e te) (hp : PIp X op tip) (hs : PSet X tset)
    (ha : ∀ ov iv new, augStore i ov iv new = (do holding [new, ov, iv] (setItem ov iv new); release [new, ov, iv] []; pure .next) := by intros; rfl) : PS X (.AugAssign (.Subscript o i tpos) op e pos) (tAugS to ti te tget tip tset) := by
  intro pins s σ H D I h
  refine wpAny_AugAssign_SubscriptAny (thn (ho pins s σ H _ I h) fun ov s1 ⟨x1, H1, I1, r1, q1⟩ => ?_) ha
  refine thn (hi pins s1 σ H1 _ I1 q1) fun iv s2 ⟨x2, H2, I2, r2, q2⟩ => ?_
  refine thn (hg pins s2 σ H2 x1 x2 ov iv _ I2 r1 r2 q2) fun old s3 ⟨x3, H3, I3, r3, q3⟩ => ?_
  refine thn (he pins s3 σ H3 _ I3 q3) fun v s4 ⟨x4, H4, I4, r4, q4⟩ => ?_
  refine thn (hp pins s4 σ H4 x3 x4 old v _ I4 r3 r4 q4) fun new s5 ⟨x5, H5, I5, r5, q5⟩ => ?_
  exact thn (hs pins s5 σ H5 x1 x2 x5 ov iv new _ I5 r1 r2 r5 q5) fun _ s6 ⟨H6, I6, q6⟩ => ⟨σ, H6, I6, q6⟩
/-- ints -/
def ipI (f : Int → Int → Int) : TIp := fun x y H Q => ∃ i j, x = .int i ∧ y = .int j ∧ Q (.int (f i j)) H
theorem ip_add : PIp X .Add (ipI fun i j => i + j) := by
  intro pins s σ H x y v u Q I r1 r2 h
  obtain ⟨i, j, e1, e2, q⟩ := h
  subst e1; subst e2
  obtain ⟨t, rfl⟩ := r1
  obtain ⟨t', rfl⟩ := r2
  exact iadd_int ⟨.int _, H, I.tok _, ⟨_, rfl⟩, q⟩
end
section
variable {X : Cx} {pos : Pos}
/-- the invariant W with its measure -/
def tWhile (c : TT) (tb : TS) : TS := fun D σ H => ∃ W : Nat → St → Hp → Prop, (∃ m, W m σ H) ∧ ∀ m σ H, W m σ H →
  c σ H fun b H1 => if b = true then ∃ N : St → Hp → Prop, (∀ σ' H', N σ' H' → ∃ m', m' < m ∧ W m' σ' H') ∧ tb { D with nx := N, ct := N, bk := D.nx } σ H1 else D.nx σ H1
theorem ps_while {c : Expr} {body : List Stmt} {tc : TT} {tb : TS} (hp : PassesOwn (model X.prog X.w) X.A X.env X.xe) (hc : PT X c tc) (hb : PSs X body tb) : PS X (.While c body [] pos) (tWhile tc tb) := by
  intro pins s σ H D I h
  obtain ⟨W, ⟨m0, w0⟩, turn⟩ := h
  refine wpAny_While (codeAny_whileLoop (fun n s' => ∃ σ' H', Inv X pins σ' H' s' ∧ W n σ' H') ?_ m0 ⟨σ, H, I, w0⟩)
  rintro n s1 ⟨σ1, H1, I1, w1⟩
  refine wpAny_passesOwn hp (thn (hc pins s1 σ1 H1 _ I1 (turn n σ1 H1 w1)) fun b s2 ⟨H2, I2, q2⟩ => ?_)
  cases b with
  | true =>
    obtain ⟨N, hN, q2⟩ := q2
    rw [if_pos rfl]
    refine wpAny_passesOwn hp (thn (hb pins s2 σ1 H2 _ I2 q2) fun f s3 q3 => ?_)
    cases f with
    | next =>
      obtain ⟨σ3, H3, I3, n3⟩ := q3
      obtain ⟨m', hm, w3⟩ := hN σ3 H3 n3
      exact ⟨m', hm, σ3, H3, I3, w3⟩
    | cont =>
      obtain ⟨σ3, H3, I3, n3⟩ := q3
      obtain ⟨m', hm, w3⟩ := hN σ3 H3 n3
      exact ⟨m', hm, σ3, H3, I3, w3⟩
    | brk => exact q3
    | ret v => exact q3
  | false =>
    rw [if_neg Bool.false_ne_true]
    exact wpAny_execs_nil ⟨σ1, H2, I2, q2⟩
end
/-- at turn i: it yields x (the heap may grow), or it stops -/
structure It where
  go : Nat → Hp → Prop
  yld : Nat → Hp → V → Hp → Prop
  stop : Nat → Hp → Prop
/-- the iterator's own objects may turn: they are not the frame's, not pinned, younger than the entry (or a comprehension's own) -/
def FpOk (X : Cx) (pins : List (Addr × Obj)) (H : Hp) (b : Addr) : Prop :=
  H b = none ∧ b ≠ X.env.locals ∧ b ∉ X.fs ∧ (b ∈ X.ex ∨ X.s₀.heap.objs.size ≤ b) ∧ (∀ x c, X.env.cells.lookup x = some c → c ≠ b) ∧ ∀ p ∈ X.pn ++ pins, p.1 ≠ b
theorem Inv.fpOk {X : Cx} {pins : List (Addr × Obj)} {σ : St} {H H' : Hp} {s : Shared} {b : Addr} (I : Inv X pins σ H s) (hb : s.heap.objs.size ≤ b) (hn : H' b = none) : FpOk X pins H' b := by
  refine ⟨hn, Nat.ne_of_gt (Nat.lt_of_lt_of_le I.lt hb), I.nofs hb, .inr (Nat.le_trans I.sz hb), fun x c e z => ?_, fun p hp z => ?_⟩
  · obtain ⟨v, q⟩ := I.cell x c e
    exact absurd (Nat.lt_of_lt_of_le q.lt (by rw [z]; exact hb)) (Nat.lt_irrefl _)
  · exact absurd (Nat.lt_of_lt_of_le (Heap.lt_size (I.pin p hp).1) (by rw [z]; exact hb)) (Nat.lt_irrefl _)
structure Turn (P : Program) (w : World) (K : PySem.W.Frag) (tg : Expr) (J : It) (fp : List Addr) (it : Addr) (tn : Nat → Heap → Prop) : Prop where
  mem : it ∈ fp
  obj : ∀ i h, tn i h → ∀ b ∈ fp, ∃ o, h.get? b = some o ∧ ∀ v, o.data ≠ .cell v
  keep : ∀ i h h', tn i h → (∀ b ∈ fp, ∀ o, h.get? b = some o → h'.get? b = some o) → tn i h'
  item : ∀ (X : Cx), X.prog = P → X.w = w → X.K = K → X.calm = true → ∀ (i : Nat) (pins : List (Addr × Obj)) (s : Shared) (σ : St) (H : Hp) (E : Value → Shared → Prop), Inv X pins σ H s → (∀ b ∈ fp, FpOk X pins H b) → tn i s.heap → J.go i H →
    wpAny (model P w) X.A (pyNext (.ref it)) (fun r s1 => ∃ u, r = some u ∧
      wpAny (model P w) X.A (letOwnedTupleGo tg (.ref it) u) (fun _ s2 => ∃ x H', Inv X pins σ H' s2 ∧ RelV x u ∧ J.yld i H x H' ∧ tn (i + 1) s2.heap ∧ ∀ b ∈ fp, H' b = none) E s1) E s
  done : ∀ (X : Cx), X.prog = P → X.w = w → X.K = K → X.calm = true → ∀ (i : Nat) (pins : List (Addr × Obj)) (s : Shared) (σ : St) (H : Hp) (E : Value → Shared → Prop), Inv X pins σ H s → (∀ b ∈ fp, FpOk X pins H b) → tn i s.heap → J.stop i H →
    wpAny (model P w) X.A (pyNext (.ref it)) (fun r s1 => r = none ∧ Inv X pins σ H s1) E s
  self : ∀ (A : Around) (i : Nat) (s : Shared) (Q : Value → Shared → Prop) (E : Value → Shared → Prop), tn i s.heap → Q (.ref it) s → wpAny (model P w) A (pyIter (.ref it)) Q E s
abbrev TI := St → Hp → (It → Hp → Prop) → Prop
/-- an iterator has come -/
def PIE (X : Cx) (pins : List (Addr × Obj)) (σ : St) (tg : Expr) (R : It → Hp → Prop) (itv : Value) (s2 : Shared) : Prop :=
  ∃ (it : Addr) (fp : List Addr) (tn : Nat → Heap → Prop) (J : It) (H' : Hp), itv = .ref it ∧ Inv X pins σ H' s2 ∧ Turn X.prog X.w X.K tg J fp it tn ∧ tn 0 s2.heap ∧ (∀ b ∈ fp, FpOk X pins H' b) ∧ R J H'
def PI (X : Cx) (tg iter : Expr) (wi : TI) : Prop :=
  ∀ (pins : List (Addr × Obj)) (s : Shared) (σ : St) (H : Hp) (R : It → Hp → Prop), Inv X pins σ H s → wi σ H R →
    wpAny (model X.prog X.w) X.A (eval iter X.env) (fun v s1 => wpAny (model X.prog X.w) X.A (pyIter v) (PIE X pins σ tg R) X.xe s1) X.xe s
/-- the step ahead of the store is nothing for an iterator that keeps no tuple -/
theorem go_of {M : Model} {A : Around} {E : Value → Shared → Prop} {s : Shared} {tg : Expr} {it : Addr} {u : Value} {o : Obj} {n : String} {vs : Array Value} {Q : Unit → Shared → Prop} (ho : s.heap.get? it = some o) (hc : o.cls = .type n) (hd : o.data = .fields vs)
    (hn : ["enumerate", "zip", "dict_itemiterator", "dict_reverseitemiterator", "odict_iterator", "itertools.zip_longest", "itertools.pairwise"].contains n = false) (hQ : Q () s) : wpAny M A (letOwnedTupleGo tg (.ref it) u) Q E s := by
  unfold letOwnedTupleGo
  cases tg <;> first
    | exact wpAny_pure hQ
    | (cases u <;> first
        | exact wpAny_pure hQ
        | (refine wpAny_bind (wpAny_load ho ?_)
           rw [hc, hd]
           show wpAny M A (if (["enumerate", "zip", "dict_itemiterator", "dict_reverseitemiterator", "odict_iterator", "itertools.zip_longest", "itertools.pairwise"].contains n && vs[0]? == some (rawInt _)) = true then _ else _) Q E s
           rw [if_neg (by intro h; rw [hn, Bool.false_and] at h; cases h)]
           exact wpAny_pure hQ))
/-- the list at a, as it stands at each turn (a loop may append to it) -/
def Itl (K : PySem.W.Frag) (a : Addr) : It :=
  ⟨fun i H => ∃ xs x, SqL K H a xs ∧ xs[i]? = some x, fun i H x H' => H' = H ∧ ∀ xs, SqL K H a xs → xs[i]? = some x, fun i H => ∃ xs, SqL K H a xs ∧ xs.length ≤ i⟩
def Itt (K : PySem.W.Frag) (a : Addr) : It :=
  ⟨fun i H => ∃ xs x, SqT K H a xs ∧ xs[i]? = some x, fun i H x H' => H' = H ∧ ∀ xs, SqT K H a xs → xs[i]? = some x, fun i H => ∃ xs, SqT K H a xs ∧ xs.length ≤ i⟩
/-- lo, lo + 1, .. (n of them) -/
def Itr (lo : Int) (n : Nat) : It := ⟨fun i _ => i < n, fun i H x H' => H' = H ∧ x = .int (lo + i), fun i _ => n ≤ i⟩
theorem turn_list {P : Program} {w : World} {K : PySem.W.Frag} {tg : Expr} (a it : Addr) : Turn P w K tg (Itl K a) [it] it (fun i h => h.IsListIter it a i) where
  mem := by simp
  obj := fun i h st b hb => by
    have e : b = it := by simpa using hb
    subst e
    obtain ⟨o, e, c, d⟩ := st
    exact ⟨o, e, fun v z => by rw [d] at z; cases z⟩
  keep := fun i h h' st k => st.at fun o e => k it (by simp) o e
  item := by
    intro X hP hw hK hc i pins s σ H E I hf st hg
    subst hP hw hK
    obtain ⟨xs, x, hq, hx⟩ := hg
    obtain ⟨its, rv, p, hz⟩ := I.list hq
    obtain ⟨u, hu, ru⟩ := rv.get hx
    obtain ⟨f0, f1, f2, f3, f4, f5⟩ := hf it (by simp)
    refine wpAny_pyNext_list_item st p.isList (x := u) (by simpa using hu) fun h' st' sb => ?_
    have I1 : Inv X pins σ H { s with heap := h' } := I.turned (t' := s.toks) (fun b o hb e => (sb.2 b hb).trans e) f0 f1 f3 f4 f5
    obtain ⟨o, e, c, d⟩ := id st'
    exact ⟨u, rfl, go_of (s := { s with heap := h' }) e c d (by decide) ⟨x, H, I1, ru, ⟨rfl, fun ys hy => by rw [I.list_inj hy hq]; exact hx⟩, st', fun b hb => (hf b hb).1⟩⟩
  done := by
    intro X hP hw hK hc i pins s σ H E I hf st hg
    subst hP hw hK
    obtain ⟨xs, hq, hx⟩ := hg
    obtain ⟨its, rv, p, hz⟩ := I.list hq
    obtain ⟨f0, f1, f2, f3, f4, f5⟩ := hf it (by simp)
    have hl := rv.length
    exact wpAny_pyNext_list_end (I.ok.hd hc) st p.isList (by simp; omega) fun h' eb => ⟨rfl, I.turned (t' := s.toks) (fun b o hb e => eb b o hb e) f0 f1 f3 f4 f5⟩
  self := fun _ _ _ _ _ st h => wpAny_pyIter_listiter st h
theorem turn_tuple {P : Program} {w : World} {K : PySem.W.Frag} {tg : Expr} (a it : Addr) : Turn P w K tg (Itt K a) [it] it (fun i h => h.IsTupleIter it a i) where
  mem := by simp
  obj := fun i h st b hb => by
    have e : b = it := by simpa using hb
    subst e
    obtain ⟨o, e, c, d⟩ := st
    exact ⟨o, e, fun v z => by rw [d] at z; cases z⟩
  keep := fun i h h' st k => st.at fun o e => k it (by simp) o e
  item := by
    intro X hP hw hK hc i pins s σ H E I hf st hg
    subst hP hw hK
    obtain ⟨xs, x, hq, hx⟩ := hg
    obtain ⟨its, rv, p, hz⟩ := I.tuple hq
    obtain ⟨u, hu, ru⟩ := rv.get hx
    obtain ⟨f0, f1, f2, f3, f4, f5⟩ := hf it (by simp)
    refine wpAny_pyNext_tuple_item st (show s.heap.IsTuple a its.toArray from p) (x := u) (by simpa using hu) fun h' st' sb => ?_
    have I1 : Inv X pins σ H { s with heap := h' } := I.turned (t' := s.toks) (fun b o hb e => (sb.2 b hb).trans e) f0 f1 f3 f4 f5
    obtain ⟨o, e, c, d⟩ := id st'
    exact ⟨u, rfl, go_of (s := { s with heap := h' }) e c d (by decide) ⟨x, H, I1, ru, ⟨rfl, fun ys hy => by rw [I.tuple_inj hy hq]; exact hx⟩, st', fun b hb => (hf b hb).1⟩⟩
  done := by
    intro X hP hw hK hc i pins s σ H E I hf st hg
    subst hP hw hK
    obtain ⟨xs, hq, hx⟩ := hg
    obtain ⟨its, rv, p, hz⟩ := I.tuple hq
    obtain ⟨f0, f1, f2, f3, f4, f5⟩ := hf it (by simp)
    have hl := rv.length
    exact wpAny_pyNext_tuple_end (I.ok.hd hc) st (show s.heap.IsTuple a its.toArray from p) (by simp; omega) fun h' eb => ⟨rfl, I.turned (t' := s.toks) (fun b o hb e => eb b o hb e) f0 f1 f3 f4 f5⟩
  self := fun _ _ _ _ _ st h => wpAny_pyIter_tupleiter st h
theorem turn_range {P : Program} {w : World} {K : PySem.W.Frag} {tg : Expr} (it : Addr) (lo : Int) (n : Nat) : Turn P w K tg (Itr lo n) [it] it (fun i h => IsRangeIter h it (lo + (i : Nat) * 1) ((n : Int) - (i : Nat)) 1) where
  mem := by simp
  obj := fun i h st b hb => by
    have e : b = it := by simpa using hb
    subst e
    exact ⟨_, st, fun v z => by
      have z' : Data.fields _ = Data.cell v := z
      cases z'⟩
  keep := fun i h h' st k => k it (by simp) _ st
  item := by
    intro X hP hw hK hc i pins s σ H E I hf st hg
    subst hP hw hK
    obtain ⟨f0, f1, f2, f3, f4, f5⟩ := hf it (by simp)
    have W := Walks.range (prog := X.prog) (w := X.w) (I.ok.hd hc) it lo 1 n
    refine W.item i s _ _ hg st fun v h' tk hv st' kk => ?_
    obtain ⟨t, rfl⟩ := hv
    have I1 : Inv X pins σ H { s with heap := h', toks := tk } := I.turned (fun b o hb e => kk b o (by simpa using hb) e) f0 f1 f3 f4 f5
    refine ⟨_, rfl, go_of (s := { s with heap := h', toks := tk }) (n := "range_iterator") st' rfl rfl (by decide) ⟨.int (lo + i), H, I1, ⟨t, ?_⟩, ⟨rfl, rfl⟩, st', fun b hb => (hf b hb).1⟩⟩
    rw [Int.mul_one]
  done := by
    intro X hP hw hK hc i pins s σ H E I hf st hg
    subst hP hw hK
    obtain ⟨f0, f1, f2, f3, f4, f5⟩ := hf it (by simp)
    exact wpAny_pyNext_range_end (I.ok.hd hc) st (by have : n ≤ i := hg; omega) fun h' eb => ⟨rfl, I.turned (t' := s.toks) (fun b o hb e => eb b o hb e) f0 f1 f3 f4 f5⟩
  self := fun _ _ _ _ _ st h => wpAny_pyIter_rangeiter st h
end L2
namespace L2
open PySem PySem.Spec PyProof.Rows
section
variable {X : Cx} {tg : Expr}
/-- a range object just made, walked -/
theorem range_it {pins : List (Addr × Obj)} {σ : St} {H : Hp} {s : Shared} {R : It → Hp → Prop} {E : Value → Shared → Prop} {lo hi : Int} {t u v : Tok} {tk : Nat} (I : Inv X pins σ H s) (h1 : -(2 ^ 62) ≤ lo) (h2 : lo < 2 ^ 62) (h3 : -(2 ^ 62) ≤ hi) (h4 : hi < 2 ^ 62)
    (q : R (Itr lo (hi - lo).toNat) H) : wpAny (model X.prog X.w) X.A (pyIter (.ref s.heap.objs.size)) (PIE X pins σ tg R) E { s with heap := s.heap.push { cls := .type "range", data := .fields #[.int lo t, .int hi u, .int 1 v] }, toks := tk } := by
  refine wpAny_pyIter_range (IsRange.new ..) (small_one h1 h2 h3 h4) ?_
  have I1 : Inv X pins σ H { s with heap := s.heap.push { cls := .type "range", data := .fields #[.int lo t, .int hi u, .int 1 v] }, toks := tk } := I.kept fun b o e => Heap.get?_push_of_some _ e
  refine ⟨(s.heap.push { cls := .type "range", data := .fields #[.int lo t, .int hi u, .int 1 v] }).objs.size, [(s.heap.push { cls := .type "range", data := .fields #[.int lo t, .int hi u, .int 1 v] }).objs.size], _, _, H, rfl,
    I1.kept (t' := tk) fun b o e => Heap.get?_push_of_some _ e, turn_range _ lo (hi - lo).toNat, ?_, fun b hb => ?_, q⟩
  · have e1 : lo + ((0 : Nat) : Int) * 1 = lo := by simp
    have e2 : (((hi - lo).toNat : Nat) : Int) - ((0 : Nat) : Int) = Builtin.Range.rangeSize lo hi 1 := by rw [rangeSize_one]; split <;> omega
    show IsRangeIter _ _ (lo + ((0 : Nat) : Int) * 1) ((((hi - lo).toNat : Nat) : Int) - ((0 : Nat) : Int)) 1
    rw [e1, e2]
    exact Heap.get?_push_size _ rfl
  · have e : b = (s.heap.push { cls := .type "range", data := .fields #[.int lo t, .int hi u, .int 1 v] }).objs.size := by simpa using hb
    subst e
    exact I1.fpOk (Nat.le_refl _) (I1.hok.fresh (Nat.le_refl _))
def iRng1 (ta : TA) : TI := fun σ H R => ta σ H fun vs H1 => ∃ j : Int, vs = [.int j] ∧ -(2 ^ 62) ≤ j ∧ j < 2 ^ 62 ∧ R (Itr 0 j.toNat) H1
def iRng2 (ta : TA) : TI := fun σ H R => ta σ H fun vs H1 => ∃ i j : Int, vs = [.int i, .int j] ∧ (-(2 ^ 62) ≤ i ∧ i < 2 ^ 62 ∧ -(2 ^ 62) ≤ j ∧ j < 2 ^ 62) ∧ R (Itr i (j - i).toNat) H1
theorem pi_range1 {a : Expr} {ta : TA} {p pos : Pos} (hg : Gl X "range") (hm : X.mg "range" = none) (ha : PA X [a] ta) (hs : starEach [a] X.env = [(false, eval a X.env)] := by rfl) : PI X tg (.Call (.Name "range" p) [a] [] pos) (iRng1 ta) := by
  intro pins s σ H R I h
  refine Call_ (ld_blt I hg hm boot_range (PyProof.Rows.callWith_type1 (thn (ha pos pins s σ H _ I h) fun us s1 ⟨vs, H1, I1, r1, q1⟩ => ?_) hs rfl))
  obtain ⟨j, e, q1, q2, q⟩ := q1
  subst e
  cases r1 with
  | cons r rr =>
    cases rr
    obtain ⟨t, rfl⟩ := r
    exact call_range_1 (range_it I1 (by omega) (by omega) q1 q2 (by simpa using q))
theorem pi_range2 {a b : Expr} {ta : TA} {p pos : Pos} (hg : Gl X "range") (hm : X.mg "range" = none) (ha : PA X [a, b] ta) (hs : starEach [a, b] X.env = [(false, eval a X.env), (false, eval b X.env)] := by rfl) (hs2 : starEach [b] X.env = [(false, eval b X.env)] := by rfl) :
    PI X tg (.Call (.Name "range" p) [a, b] [] pos) (iRng2 ta) := by
  intro pins s σ H R I h
  refine Call_ (ld_blt I hg hm boot_range (PyProof.Rows.callWith_type1 (thn (ha pos pins s σ H _ I h) fun us s1 ⟨vs, H1, I1, r1, q1⟩ => ?_) (by rw [hs, hs2]) (by rw [hs2]; rfl)))
  obtain ⟨i, j, e, ⟨q1, q2, q3, q4⟩, q⟩ := q1
  subst e
  cases r1 with
  | cons r rr =>
    cases rr with
    | cons r' rr =>
      cases rr
      obtain ⟨t, rfl⟩ := r
      obtain ⟨t', rfl⟩ := r'
      exact call_range_2 (range_it I1 q1 q2 q3 q4 q)
/-- W: the invariant by the turn and a measure; N: what the body is to reach -/
def tFor (wi : TI) (g : TG) (tb : TS) : TS := fun D σ H => wi σ H fun J H1 => ∃ W : Nat → Nat → St → Hp → Prop, (∃ m, W 0 m σ H1) ∧ ∀ i m σ H, W i m σ H →
  (J.stop i H ∧ D.nx σ H) ∨ (J.go i H ∧ ∃ N : St → Hp → Prop, (∀ σ' H', N σ' H' → ∃ m', m' < m ∧ W (i + 1) m' σ' H') ∧ ∀ x H', J.yld i H x H' → g x σ H' fun σ2 H2 => tb { D with nx := N, ct := N, bk := D.nx } σ2 H2)
/-- the records at fp as they stand -/
def pinsAt (fp : List Addr) (h : Heap) : List (Addr × Obj) := fp.filterMap fun b => (h.get? b).map fun o => (b, o)
theorem mem_pinsAt {fp : List Addr} {h : Heap} {b : Addr} {o : Obj} (hb : b ∈ fp) (e : h.get? b = some o) : (b, o) ∈ pinsAt fp h := List.mem_filterMap.mpr ⟨b, hb, by rw [e]; rfl⟩
theorem of_pinsAt {fp : List Addr} {h : Heap} {p : Addr × Obj} (hp : p ∈ pinsAt fp h) : p.1 ∈ fp ∧ h.get? p.1 = some p.2 := by
  obtain ⟨b, hb, e⟩ := List.mem_filterMap.mp hp
  cases q : h.get? b with
  | none => rw [q] at e; cases e
  | some o =>
    rw [q] at e
    have e' : (b, o) = p := Option.some.inj e
    subst e'
    exact ⟨hb, q⟩
theorem Inv.pinned {pins : List (Addr × Obj)} {σ : St} {H : Hp} {s : Shared} {fp : List Addr} (I : Inv X pins σ H s) (hf : ∀ b ∈ fp, FpOk X pins H b) (ho : ∀ b ∈ fp, ∃ o, s.heap.get? b = some o ∧ ∀ v, o.data ≠ .cell v) : Inv X (pins ++ pinsAt fp s.heap) σ H s :=
  I.pins_of fun p hp => (List.mem_append.mp hp).elim (fun z => I.pin p (List.mem_append_right _ z)) fun z => by
    obtain ⟨hb, e⟩ := of_pinsAt z
    obtain ⟨f0, f1, f2, _⟩ := hf p.1 hb
    obtain ⟨o, e', d⟩ := ho p.1 hb
    rw [e] at e'; cases e'
    exact ⟨e, f0, f1, f2, d⟩
theorem Inv.unpinned {pins pl : List (Addr × Obj)} {σ : St} {H : Hp} {s : Shared} (I : Inv X (pins ++ pl) σ H s) : Inv X pins σ H s := I.pins_of fun p hp => I.pin p (List.mem_append_right _ (List.mem_append_left _ hp))
theorem ps_for {iter : Expr} {body : List Stmt} {wi : TI} {g : TG} {tb : TS} {pos : Pos} (hp : PassesOwn (model X.prog X.w) X.A X.env X.xe) (hc : X.calm = true) (hi : PI X tg iter wi) (hg : PG X tg g) (hb : PSs X body tb)
    (hs : ∀ x, foldedSetIterable iter X.env x = pure x := by intro _; rfl) : PS X (.For tg iter body [] pos) (tFor wi g tb) := by
  intro pins s σ H D I h
  refine wpAny_For (thn (hi pins s σ H _ I h) fun v s1 h1 => thn h1 fun itv s2 h2 => ?_) hs
  obtain ⟨it, fp, tn, J, H2, e, I2, T, st2, f2, W, ⟨m0, w0⟩, turn⟩ := h2
  subst e
  -- what stays true of the iterator's objects through the loop
  have stat : ∀ {H' : Hp}, (∀ b ∈ fp, H' b = none) → ∀ b ∈ fp, FpOk X pins H' b := fun hn b hb => ⟨hn b hb, (f2 b hb).2⟩
  refine codeAny_forLoop_any (fun n s' => ∃ i σ' H', Inv X pins σ' H' s' ∧ tn i s'.heap ∧ (∀ b ∈ fp, H' b = none) ∧ W i n σ' H') ?_ m0 ⟨0, σ, H2, I2, st2, fun b hb => (f2 b hb).1, w0⟩
  rintro n s3 ⟨i, σ3, H3, I3, st3, fr3, w3⟩
  rcases turn i n σ3 H3 w3 with ⟨stop, qn⟩ | ⟨go, N, hN, step⟩
  · refine wpAny_passesOwn hp (thn (T.done X rfl rfl rfl hc i pins s3 σ3 H3 X.xe I3 (stat fr3) st3 stop) fun r s4 ⟨hr, I4⟩ => ?_)
    subst hr
    exact wpAny_execs_nil ⟨σ3, H3, I4, qn⟩
  · refine wpAny_passesOwn hp (thn (T.item X rfl rfl rfl hc i pins s3 σ3 H3 X.xe I3 (stat fr3) st3 go) fun r s4 ⟨u, hr, h4⟩ => ?_)
    subst hr
    refine wpAny_passesOwn hp (thn h4 fun _ s5 ⟨x, H5, I5, r5, y5, st5, fr5⟩ => ?_)
    have I5' := I5.pinned (stat fr5) (T.obj _ _ st5)
    refine wpAny_passesOwn hp (thn (hg _ s5 σ3 H5 x u _ I5' r5 (step x H5 y5)) fun _ s6 ⟨σ6, H6, I6, q6⟩ => ?_)
    refine wpAny_passesOwn hp (thn (hb _ s6 σ6 H6 _ I6 q6) fun f s7 q7 => ?_)
    have again : ∀ {σ7 : St} {H7 : Hp}, Inv X (pins ++ pinsAt fp s5.heap) σ7 H7 s7 → N σ7 H7 → ∃ m, m < n ∧ ∃ i σ' H', Inv X pins σ' H' s7 ∧ tn i s7.heap ∧ (∀ b ∈ fp, H' b = none) ∧ W i m σ' H' := fun {σ7 H7} I7 n7 => by
      obtain ⟨m', hm, w7⟩ := hN σ7 H7 n7
      refine ⟨m', hm, i + 1, σ7, H7, I7.unpinned, T.keep _ _ _ st5 fun b hb o e => (I7.pin (b, o) (List.mem_append_right _ (List.mem_append_right _ (mem_pinsAt hb e)))).1, fun b hb => ?_, w7⟩
      obtain ⟨o, e, d⟩ := T.obj _ _ st5 b hb
      exact (I7.pin (b, o) (List.mem_append_right _ (List.mem_append_right _ (mem_pinsAt hb e)))).2.1
    cases f with
    | next => obtain ⟨σ7, H7, I7, n7⟩ := q7; exact again I7 n7
    | cont => obtain ⟨σ7, H7, I7, n7⟩ := q7; exact again I7 n7
    | brk => obtain ⟨σ7, H7, I7, q7⟩ := q7; exact ⟨σ7, H7, I7.unpinned, q7⟩
    | ret v => obtain ⟨x7, σ7, H7, I7, r7, q7⟩ := q7; exact ⟨x7, σ7, H7, I7.unpinned, r7, q7⟩
end
end L2
namespace L2
open PySem PySem.Spec PyProof.Rows
abbrev R2 := V → V → Hp → VK → Prop
/-- a two-place operation on values: f is binaryOp op, inplaceOp op or compareOp op -/
def OpR (X : Cx) (f : Value → Value → Sem Value) (r : R2) : Prop :=
  ∀ (pins : List (Addr × Obj)) (s : Shared) (σ : St) (H : Hp) (x y : V) (v u : Value) (Q : VK), Inv X pins σ H s → RelV x v → RelV y u → r x y H Q →
    wpAny (model X.prog X.w) X.A (f v u) (EP X pins σ Q) X.xe s
/-- a one-place operation -/
def UnR (X : Cx) (f : Value → Sem Value) (r : V → Hp → VK → Prop) : Prop :=
  ∀ (pins : List (Addr × Obj)) (s : Shared) (σ : St) (H : Hp) (x : V) (v : Value) (Q : VK), Inv X pins σ H s → RelV x v → r x H Q →
    wpAny (model X.prog X.w) X.A (f v) (EP X pins σ Q) X.xe s
/-- a call of a value that is known (a builtin, a type) with values -/
def CallR (X : Cx) (f : Value) (r : List V → Hp → VK → Prop) : Prop :=
  ∀ (pins : List (Addr × Obj)) (s : Shared) (σ : St) (H : Hp) (xs : List V) (us : List Value) (Q : VK), Inv X pins σ H s → Vals xs us → r xs H Q →
    wpAny (model X.prog X.w) X.A (call f us) (EP X pins σ Q) X.xe s
/-- a value's truth -/
def TruR (X : Cx) (r : V → Hp → (Bool → Hp → Prop) → Prop) : Prop :=
  ∀ (pins : List (Addr × Obj)) (s : Shared) (σ : St) (H : Hp) (x : V) (v : Value) (Q : Bool → Hp → Prop), Inv X pins σ H s → RelV x v → r x H Q →
    wpAny (model X.prog X.w) X.A (truthy v) (TP X pins σ Q) X.xe s
def tOp (r : R2) (ta tb : TE) : TE := fun σ H Q => ta σ H fun x H1 => tb σ H1 fun y H2 => r x y H2 Q
def tUn (r : V → Hp → VK → Prop) (ta : TE) : TE := fun σ H Q => ta σ H fun x H1 => r x H1 Q
/-- ints in, under C, and a value out -/
def rI (C : Int → Int → Prop) (g : Int → Int → V) : R2 := fun x y H Q => ∃ i j, x = .int i ∧ y = .int j ∧ C i j ∧ Q (g i j) H
def rI0 (g : Int → Int → V) : R2 := fun x y H Q => ∃ i j, x = .int i ∧ y = .int j ∧ Q (g i j) H
def rU (g : Int → V) : V → Hp → VK → Prop := fun x H Q => ∃ i, x = .int i ∧ Q (g i) H
section
variable {X : Cx} {a b c : Expr} {ta tb tc : TE} {pos : Pos}
theorem binT (ha : PE X a ta) (hb : PE X b tb) {pins : List (Addr × Obj)} {s : Shared} {σ : St} {H : Hp} {R : V → V → Hp → Prop} (I : Inv X pins σ H s)
    (h : ta σ H fun x H1 => tb σ H1 fun y H2 => R x y H2) {Q : Value → Shared → Prop} {f : Value → Value → Sem Value}
    (hf : ∀ v u s2 x y H2, Inv X pins σ H2 s2 → RelV x v → RelV y u → R x y H2 → wpAny (model X.prog X.w) X.A (f v u) Q X.xe s2) :
    wpAny (model X.prog X.w) X.A (eval a X.env) (fun v s₁ => wpAny (model X.prog X.w) X.A (eval b X.env) (fun u s₂ => wpAny (model X.prog X.w) X.A (f v u) Q X.xe s₂) X.xe s₁) X.xe s := by
  refine thn (ha pins s σ H _ I h) fun v s1 ⟨x, H1, I1, r1, q1⟩ => ?_
  refine thn (hb pins s1 σ H1 _ I1 q1) fun u s2 ⟨y, H2, I2, r2, q2⟩ => ?_
  exact hf v u s2 x y H2 I2 r1 r2 q2
theorem pe_op {op : Operator} {r : R2} (ho : OpR X (binaryOp op) r) (ha : PE X a ta) (hb : PE X b tb) : PE X (.BinOp a op b pos) (tOp r ta tb) := by
  intro pins s σ H Q I h
  exact wpAny_BinOp (binT ha hb I h fun v u s2 x y H2 I2 rx ry q => ho pins s2 σ H2 x y v u Q I2 rx ry q)
theorem pe_un {op : UnaryOp} {r : V → Hp → VK → Prop} (ho : UnR X (unaryOp op) r) (ha : PE X a ta) : PE X (.UnaryOp op a pos) (tUn r ta) := by
  intro pins s σ H Q I h
  exact UnaryOp_ (thn (ha pins s σ H _ I h) fun v s1 ⟨x, H1, I1, r1, q1⟩ => ho pins s1 σ H1 x v Q I1 r1 q1)
theorem opI {f : Value → Value → Sem Value} {C : Int → Int → Prop} {g : Int → Int → Int}
    (rule : ∀ (i j : Int) (t u : Tok) (s : Shared) (Q : Value → Shared → Prop) (E : Value → Shared → Prop), C i j → Q (.int (g i j) s.toks) { s with toks := s.toks + 1 } → wpAny (model X.prog X.w) X.A (f (.int i t) (.int j u)) Q E s) :
    OpR X f (rI C fun i j => .int (g i j)) := by
  intro pins s σ H x y v u Q I rx ry h
  obtain ⟨i, j, rfl, rfl, hc, q⟩ := h
  obtain ⟨t, rfl⟩ := rx
  obtain ⟨t', rfl⟩ := ry
  exact rule i j t t' s _ _ hc ⟨.int (g i j), H, I.tok _, ⟨_, rfl⟩, q⟩
theorem opI0 {f : Value → Value → Sem Value} {g : Int → Int → Int}
    (rule : ∀ (i j : Int) (t u : Tok) (s : Shared) (Q : Value → Shared → Prop) (E : Value → Shared → Prop), Q (.int (g i j) s.toks) { s with toks := s.toks + 1 } → wpAny (model X.prog X.w) X.A (f (.int i t) (.int j u)) Q E s) :
    OpR X f (rI0 fun i j => .int (g i j)) := by
  intro pins s σ H x y v u Q I rx ry h
  obtain ⟨i, j, rfl, rfl, q⟩ := h
  obtain ⟨t, rfl⟩ := rx
  obtain ⟨t', rfl⟩ := ry
  exact rule i j t t' s _ _ ⟨.int (g i j), H, I.tok _, ⟨_, rfl⟩, q⟩
theorem opB0 {f : Value → Value → Sem Value} {g : Int → Int → Bool}
    (rule : ∀ (i j : Int) (t u : Tok) (s : Shared) (Q : Value → Shared → Prop) (E : Value → Shared → Prop), Q (.bool (g i j)) s → wpAny (model X.prog X.w) X.A (f (.int i t) (.int j u)) Q E s) :
    OpR X f (rI0 fun i j => .bl (g i j)) := by
  intro pins s σ H x y v u Q I rx ry h
  obtain ⟨i, j, rfl, rfl, q⟩ := h
  obtain ⟨t, rfl⟩ := rx
  obtain ⟨t', rfl⟩ := ry
  exact rule i j t t' s _ _ ⟨.bl (g i j), H, I, rfl, q⟩
def CDiv (i j : Int) : Prop := 0 < j ∧ j < 1073741824
def CPow (i j : Int) : Prop := 0 ≤ j ∧ j ≤ 1000000 ∧ i.natAbs < 2 ^ 64
def CMul (i j : Int) : Prop := (-(2 ^ 64) < i ∧ i < 2 ^ 64) ∨ (-(2 ^ 64) < j ∧ j < 2 ^ 64)
theorem CMul.ok {i j : Int} (h : CMul i j) : IntMulOk i j := by
  rcases h with ⟨h1, h2⟩ | ⟨h1, h2⟩
  · exact .of_left (intBits_le_64 h1 h2)
  · exact .of_right (intBits_le_64 h1 h2)
theorem op_add : OpR X (binaryOp .Add) (rI0 fun i j => .int (i + j)) := opI0 fun _ _ _ _ _ _ _ q => add_int q
theorem op_sub : OpR X (binaryOp .Sub) (rI0 fun i j => .int (i - j)) := opI0 fun _ _ _ _ _ _ _ q => sub_int q
/-- // by a positive divisor -/
theorem op_fdiv : OpR X (binaryOp .FloorDiv) (rI CDiv fun i j => .int (i / j)) := opI fun i j _ _ _ _ _ hc q => by
  have h1 : (0 : Int) < j := hc.1
  have h2 : j < 1073741824 := hc.2
  exact floordiv_int (by omega) (by rw [Int.fdiv_eq_ediv_of_nonneg i (by omega)]; exact q) (.inl (PyProof.noPylong_small (by omega)))
/-- % by a positive divisor of any size -/
theorem op_mod : OpR X (binaryOp .Mod) (rI (fun _ j => 0 < j) fun i j => .int (i % j)) := opI fun i j _ _ _ _ _ hc q => by
  have h1 : (0 : Int) < j := hc
  exact mod_int' (by omega) (by rw [Int.fmod_eq_emod_of_nonneg i (by omega)]; exact q)
theorem op_pow : OpR X (binaryOp .Pow) (rI CPow fun i j => .int (i ^ j.toNat)) := opI fun _ _ _ _ _ _ _ hc q => pow_int_small hc.1 hc.2.1 hc.2.2 q
theorem unI {f : Value → Sem Value} {g : Int → Int}
    (rule : ∀ (i : Int) (t : Tok) (s : Shared) (Q : Value → Shared → Prop) (E : Value → Shared → Prop), Q (.int (g i) s.toks) { s with toks := s.toks + 1 } → wpAny (model X.prog X.w) X.A (f (.int i t)) Q E s) :
    UnR X f (rU fun i => .int (g i)) := by
  intro pins s σ H x v Q I rx h
  obtain ⟨i, rfl, q⟩ := h
  obtain ⟨t, rfl⟩ := rx
  exact rule i t s _ _ ⟨.int (g i), H, I.tok _, ⟨_, rfl⟩, q⟩
theorem un_neg : UnR X (unaryOp .USub) (rU fun i => .int (-i)) := unI fun _ _ _ _ _ q => neg_int q
end
/-- the scalars that == tells apart as data does -/
def scal : V → V → Bool
  | .non, .non => true | .non, .int _ => true | .int _, .non => true | .non, .bl _ => true | .bl _, .non => true | .non, .str _ => true | .str _, .non => true
  | .int _, .int _ => true | .bl _, .bl _ => true | .str _, .str _ => true | .byt _, .byt _ => true
  | .int _, .str _ => true | .str _, .int _ => true | .bl _, .str _ => true | .str _, .bl _ => true
  | _, _ => false
def rEq : R2 := fun x y H Q => scal x y = true ∧ Q (.bl (decide (x = y))) H
def rNe : R2 := fun x y H Q => scal x y = true ∧ Q (.bl (!decide (x = y))) H
theorem dec_int {i j : Int} : decide (V.int i = V.int j) = (i == j) := by
  rw [Bool.eq_iff_iff]
  simp
theorem dec_bl {i j : Bool} : decide (V.bl i = V.bl j) = (i == j) := by
  rw [Bool.eq_iff_iff]
  simp
theorem dec_str {i j : Str} : decide (V.str i = V.str j) = (i == j) := by
  rw [Bool.eq_iff_iff]
  simp
theorem dec_byt {i j : Array UInt8} : decide (V.byt i = V.byt j) = (i.toList == j.toList) := by
  rw [Bool.eq_iff_iff]
  cases i
  cases j
  simp
section
variable {X : Cx} {a b c : Expr} {ta tb tc : TE} {pos : Pos}
theorem fin_bl {pins : List (Addr × Obj)} {σ : St} {H : Hp} {s : Shared} {Q : VK} {k k' : Bool} (I : Inv X pins σ H s) (q : Q (.bl k) H) (e : k = k') : EP X pins σ Q (.bool k') s := by
  subst e
  exact ⟨.bl k, H, I, rfl, q⟩
theorem op_eq : OpR X (compareOp .Eq) rEq := by
  intro pins s σ H x y v u Q I rx ry h
  obtain ⟨hs, q⟩ := h
  cases x with
  | non =>
    cases rx
    cases y with
    | non => cases ry; exact PySem.EqNone.eq_none_none (fin_bl I q (by simp))
    | bl j => cases ry; exact PySem.EqNone.eq_none_bool (fin_bl I q (by simp))
    | int j => obtain ⟨t', rfl⟩ := ry; exact PySem.EqNone.eq_none_int (fin_bl I q (by simp))
    | str j => obtain ⟨t', rfl⟩ := ry; exact PySem.EqNone.eq_none_str (fin_bl I q (by simp))
    | _ => exact absurd (show false = true from hs) Bool.false_ne_true
  | bl i =>
    cases rx
    cases y with
    | non => cases ry; exact PySem.EqNone.eq_bool_none (fin_bl I q (by simp))
    | bl j => cases ry; exact eq_bool (fin_bl I q dec_bl)
    | str j => obtain ⟨t', rfl⟩ := ry; exact PySem.EqMixed.eq_bool_str (fin_bl I q (by simp))
    | _ => exact absurd (show false = true from hs) Bool.false_ne_true
  | int i =>
    obtain ⟨t, rfl⟩ := rx
    cases y with
    | non => cases ry; exact PySem.EqNone.eq_int_none (fin_bl I q (by simp))
    | int j => obtain ⟨t', rfl⟩ := ry; exact eq_int (fin_bl I q dec_int)
    | str j => obtain ⟨t', rfl⟩ := ry; exact PySem.EqMixed.eq_int_str (fin_bl I q (by simp))
    | _ => exact absurd (show false = true from hs) Bool.false_ne_true
  | str i =>
    obtain ⟨t, rfl⟩ := rx
    cases y with
    | non => cases ry; exact PySem.EqNone.eq_str_none (fin_bl I q (by simp))
    | bl j => cases ry; exact PySem.EqMixed.eq_str_bool (fin_bl I q (by simp))
    | int j => obtain ⟨t', rfl⟩ := ry; exact PySem.EqMixed.eq_str_int (fin_bl I q (by simp))
    | str j => obtain ⟨t', rfl⟩ := ry; exact eq_str (fin_bl I q dec_str)
    | _ => exact absurd (show false = true from hs) Bool.false_ne_true
  | byt i =>
    obtain ⟨t, rfl⟩ := rx
    cases y with
    | byt j => obtain ⟨t', rfl⟩ := ry; exact PySem.W.eq_bytes (fin_bl I q dec_byt)
    | _ => exact absurd (show false = true from hs) Bool.false_ne_true
  | _ => cases y <;> exact absurd (show false = true from hs) Bool.false_ne_true
theorem op_ne : OpR X (compareOp .NotEq) rNe := by
  intro pins s σ H x y v u Q I rx ry h
  obtain ⟨hs, q⟩ := h
  cases x with
  | non =>
    cases rx
    cases y with
    | non => cases ry; exact PySem.EqNone.ne_none_none (fin_bl I q (by simp))
    | bl j => cases ry; exact PySem.EqNone.ne_none_bool (fin_bl I q (by simp))
    | int j => obtain ⟨t', rfl⟩ := ry; exact PySem.EqNone.ne_none_int (fin_bl I q (by simp))
    | str j => obtain ⟨t', rfl⟩ := ry; exact PySem.EqNone.ne_none_str (fin_bl I q (by simp))
    | _ => exact absurd (show false = true from hs) Bool.false_ne_true
  | bl i =>
    cases rx
    cases y with
    | non => cases ry; exact PySem.EqNone.ne_bool_none (fin_bl I q (by simp))
    | bl j => cases ry; exact ne_bool (fin_bl I q (congrArg not dec_bl))
    | str j => obtain ⟨t', rfl⟩ := ry; exact PySem.EqMixed.ne_bool_str (fin_bl I q (by simp))
    | _ => exact absurd (show false = true from hs) Bool.false_ne_true
  | int i =>
    obtain ⟨t, rfl⟩ := rx
    cases y with
    | non => cases ry; exact PySem.EqNone.ne_int_none (fin_bl I q (by simp))
    | int j => obtain ⟨t', rfl⟩ := ry; exact ne_int (fin_bl I q (congrArg not dec_int))
    | str j => obtain ⟨t', rfl⟩ := ry; exact PySem.EqMixed.ne_int_str (fin_bl I q (by simp))
    | _ => exact absurd (show false = true from hs) Bool.false_ne_true
  | str i =>
    obtain ⟨t, rfl⟩ := rx
    cases y with
    | non => cases ry; exact PySem.EqNone.ne_str_none (fin_bl I q (by simp))
    | bl j => cases ry; exact PySem.EqMixed.ne_str_bool (fin_bl I q (by simp))
    | int j => obtain ⟨t', rfl⟩ := ry; exact PySem.EqMixed.ne_str_int (fin_bl I q (by simp))
    | str j => obtain ⟨t', rfl⟩ := ry; exact ne_str (fin_bl I q (congrArg not dec_str))
    | _ => exact absurd (show false = true from hs) Bool.false_ne_true
  | byt i =>
    obtain ⟨t, rfl⟩ := rx
    cases y with
    | byt j => obtain ⟨t', rfl⟩ := ry; exact PySem.W.ne_bytes (fin_bl I q (congrArg not dec_byt))
    | _ => exact absurd (show false = true from hs) Bool.false_ne_true
  | _ => cases y <;> exact absurd (show false = true from hs) Bool.false_ne_true
theorem op_lt : OpR X (compareOp .Lt) (rI0 fun i j => .bl (decide (i < j))) := opB0 fun _ _ _ _ _ _ _ q => lt_int q
theorem op_gt : OpR X (compareOp .Gt) (rI0 fun i j => .bl (decide (j < i))) := opB0 fun _ _ _ _ _ _ _ q => gt_int q
theorem op_ge : OpR X (compareOp .GtE) (rI0 fun i j => .bl (decide (j ≤ i))) := opB0 fun _ _ _ _ _ _ _ q => ge_int q
/-- is None, is not None: the right side a value none -/
theorem op_isN : OpR X (compareOp .Is) (fun x y H Q => y = .non ∧ Q (.bl (decide (x = .non))) H) := by
  intro pins s σ H x y v u Q I rx ry h
  obtain ⟨rfl, q⟩ := h
  cases ry
  refine is_none_gen (fin_bl I q ?_)
  cases x <;> first
    | (cases rx; rfl)
    | (obtain ⟨t, rfl⟩ := rx; rfl)
/-- two rules for one operation: by cases -/
theorem OpR.or {f : Value → Value → Sem Value} {r r' : R2} (h : OpR X f r) (h' : OpR X f r') : OpR X f (fun x y H Q => r x y H Q ∨ r' x y H Q) := by
  intro pins s σ H x y v u Q I rx ry q
  rcases q with q | q
  · exact h pins s σ H x y v u Q I rx ry q
  · exact h' pins s σ H x y v u Q I rx ry q
theorem nomark (b : Expr) {op : CmpOp} (h : op ≠ .In := by decide) (h2 : op ≠ .NotIn := by decide) : behindInMarks op b = false := by
  have e1 : (op == CmpOp.In) = false := by cases op <;> first | rfl | exact absurd rfl h
  have e2 : (op == CmpOp.NotIn) = false := by cases op <;> first | rfl | exact absurd rfl h2
  cases b <;> simp [behindInMarks, e1, e2]
/-- a comparison as a value; hm: nomark b, or (for in, not in) by with_unfolding_all rfl -/
theorem pe_cmpR {op : CmpOp} {r : R2} (ho : OpR X (compareOp op) r) (ha : PE X a ta) (hb : PE X b tb) (hm : behindInMarks op b = false) : PE X (.Compare a [op] [b] pos) (tOp r ta tb) := by
  intro pins s σ H Q I h
  exact wpAny_Compare1 (binT ha hb I h fun v u s2 x y H2 I2 rx ry q => ho pins s2 σ H2 x y v u Q I2 rx ry q) hm
/-- a reading of a value as a test -/
def tTest (t : TE) : TT := fun σ H Q => t σ H fun x H' => ∃ k, x = .bl k ∧ Q k H'
theorem pt_cmpR {op : CmpOp} {r : R2} (ho : OpR X (compareOp op) r) (ha : PE X a ta) (hb : PE X b tb) (hm : behindInMarks op b = false) : PT X (.Compare a [op] [b] pos) (tTest (tOp r ta tb)) := by
  intro pins s σ H Q I h
  refine wpAny_isTrue_Compare1 (thn (ha pins s σ H _ I h) fun v s1 ⟨x, H1, I1, r1, q1⟩ => thn (hb pins s1 σ H1 _ I1 q1) fun u s2 ⟨y, H2, I2, r2, q2⟩ =>
    thn (ho pins s2 σ H2 x y v u _ I2 r1 r2 q2) fun c s3 ⟨z, H3, I3, r3, k, e, q3⟩ => ?_) hm
  subst e
  cases r3
  exact wpAny_truthy_bool ⟨H3, I3, q3⟩
/-- a value's truth by the abstract heap -/
def TruV (K : PySem.W.Frag) (x : V) (H : Hp) (k : Bool) : Prop :=
  match x with
  | .non => k = false
  | .bl b => k = b
  | .int i => k = (i != 0)
  | .str y => y.length ≤ sizeLine ∧ k = ((y.length : Int) != 0)
  | .byt y => y.size ≤ sizeLine ∧ k = ((y.size : Int) != 0)
  | .ref p => (∃ xs, SqL K H p xs ∧ k = !xs.isEmpty) ∨ (∃ xs, SqT K H p xs ∧ k = !xs.isEmpty) ∨ ∃ kvs, H p = some (.dK kvs) ∧ k = !kvs.isEmpty
  | _ => False
theorem isEmpty_kv {κ : Type} {kvs : List (κ × V)} {vs : List (κ × Value)} (r : KV kvs vs) : (!vs.isEmpty) = !kvs.isEmpty := by
  cases r <;> rfl
theorem isEmpty_of {xs : List V} {its : List Value} (r : Vals xs its) : (!its.toArray.isEmpty) = !xs.isEmpty := by
  cases r <;> simp
theorem line63 : (sizeLine : Nat) < 2 ^ 63 := by rw [sizeLine_eq]; decide
theorem tru_ok : TruR X (fun x H Q => ∃ k, TruV X.K x H k ∧ Q k H) := by
  intro pins s σ H x v Q I rx h
  obtain ⟨k, e, q⟩ := h
  have hl := line63
  have hs : sizeLine = 16777216 := sizeLine_eq
  cases x with
  | non =>
    cases rx
    have e' : k = false := e
    subst e'
    exact truthy_none ⟨H, I, q⟩
  | bl b =>
    cases rx
    have e' : k = b := e
    subst e'
    exact wpAny_truthy_bool ⟨H, I, q⟩
  | int i =>
    obtain ⟨t, rfl⟩ := rx
    have e' : k = (i != 0) := e
    subst e'
    exact PySem.P.truthy_int ⟨H, I, q⟩
  | str y =>
    obtain ⟨t, rfl⟩ := rx
    obtain ⟨hy, e'⟩ : y.length ≤ sizeLine ∧ k = ((y.length : Int) != 0) := e
    subst e'
    exact PySem.P.truthy_str (by omega) ⟨H, I.tok _, q⟩
  | byt y =>
    obtain ⟨t, rfl⟩ := rx
    obtain ⟨hy, e'⟩ : y.size ≤ sizeLine ∧ k = ((y.size : Int) != 0) := e
    subst e'
    exact PySem.W.truthy_bytes (by omega) ⟨H, I.tok _, q⟩
  | ref p =>
    cases rx
    have e' : (∃ xs, SqL X.K H p xs ∧ k = !xs.isEmpty) ∨ (∃ xs, SqT X.K H p xs ∧ k = !xs.isEmpty) ∨ ∃ kvs, H p = some (.dK kvs) ∧ k = !kvs.isEmpty := e
    rcases e' with ⟨xs, hx, e'⟩ | ⟨xs, hx, e'⟩ | ⟨kvs, hx, e'⟩
    · subst e'
      obtain ⟨its, r, pl, hz⟩ := I.list hx
      have hlen := r.length
      exact wpAny_truthy_list pl.isList (by simp only [List.size_toArray]; omega) ⟨H, I.tok _, by rw [isEmpty_of r]; exact q⟩
    · subst e'
      obtain ⟨its, r, pl, hz⟩ := I.tuple hx
      have hlen := r.length
      exact truthy_tuple pl (by simp only [List.size_toArray]; omega) ⟨H, I.tok _, by rw [isEmpty_of r]; exact q⟩
    · subst e'
      obtain ⟨hz, hS, vs, r, m⟩ : kvs.length ≤ sizeLine ∧ (p == sysModules) = false ∧ ∃ vs, KV kvs vs ∧ s.heap.DictOf (mixKind X.prog X.w) p vs := I.hok p _ hx
      have hlen : kvs.length = vs.length := Paired.length r
      exact wpAny_truthy_dict hS m (by omega) ⟨H, I.tok _, by rw [isEmpty_kv r]; exact q⟩
  | _ => exact (show False from e).elim
/-- any expression whose test is its value's truth (a name, a call, a subscript, a field ..: he by fun _ => rfl) -/
theorem pt_truth (ha : PE X a ta) (he : ∀ whole, isTrue a X.env whole = (do let v ← whole; standAt a.pos; holding [v] (truthy v))) :
    PT X a (fun σ H Q => ta σ H fun x H' => ∃ k, TruV X.K x H' k ∧ Q k H') := by
  intro pins s σ H Q I h
  exact isTrue_plain (thn (ha pins s σ H _ I h) fun v s1 ⟨x, H1, I1, r1, q1⟩ => tru_ok pins s1 σ H1 x v Q I1 r1 q1) (he _)
theorem op_add_str : OpR X (binaryOp .Add) (fun x y H Q => ∃ i j, x = .str i ∧ y = .str j ∧ i.length + j.length ≤ sizeLine ∧ Q (.str (i ++ j)) H) := by
  intro pins s σ H x y v u Q I rx ry h
  obtain ⟨i, j, rfl, rfl, hz, q⟩ := h
  obtain ⟨t, rfl⟩ := rx
  obtain ⟨t', rfl⟩ := ry
  exact add_str (fun t' tk => ⟨.str (i ++ j), H, I.tok _, ⟨_, rfl⟩, q⟩) hz
theorem vals1 {x : V} {us : List Value} (r : Vals [x] us) : ∃ u, us = [u] ∧ RelV x u := by
  cases r with
  | cons r1 r2 => cases r2; exact ⟨_, rfl, r1⟩
theorem vals2 {x y : V} {us : List Value} (r : Vals [x, y] us) : ∃ u w', us = [u, w'] ∧ RelV x u ∧ RelV y w' := by
  cases r with
  | cons r1 r2 =>
    cases r2 with
    | cons r3 r4 => cases r4; exact ⟨_, _, rfl, r1, r3⟩
theorem call_abs : CallR X (.builtin "abs") (fun xs H Q => ∃ i, xs = [.int i] ∧ Q (.int (if i < 0 then -i else i)) H) := by
  intro pins s σ H xs us Q I r h
  obtain ⟨i, rfl, q⟩ := h
  obtain ⟨u, rfl, t, rfl⟩ := vals1 r
  exact call_abs_int fun u tk => ⟨.int (if i < 0 then -i else i), H, I.tok _, ⟨_, rfl⟩, q⟩
theorem call_max2 (hc : X.calm = true) : CallR X (.builtin "max") (fun xs H Q => ∃ i j, xs = [.int i, .int j] ∧ Q (.int (if j > i then j else i)) H) := by
  intro pins s σ H xs us Q I r h
  obtain ⟨i, j, rfl, q⟩ := h
  obtain ⟨u, w', rfl, ⟨t, rfl⟩, ⟨t', rfl⟩⟩ := vals2 r
  refine max_two_ints (I.ok.hd hc) fun h' tk k => ⟨_, H, I.kept k, ?_, q⟩
  by_cases hj : j > i
  · rw [if_pos hj, if_pos hj]; exact ⟨_, rfl⟩
  · rw [if_neg hj, if_neg hj]; exact ⟨_, rfl⟩
theorem call_min2 (hc : X.calm = true) : CallR X (.builtin "min") (fun xs H Q => ∃ i j, xs = [.int i, .int j] ∧ Q (.int (if j < i then j else i)) H) := by
  intro pins s σ H xs us Q I r h
  obtain ⟨i, j, rfl, q⟩ := h
  obtain ⟨u, w', rfl, ⟨t, rfl⟩, ⟨t', rfl⟩⟩ := vals2 r
  refine min_two_ints (I.ok.hd hc) fun h' tk k => ⟨_, H, I.kept k, ?_, q⟩
  by_cases hj : j < i
  · rw [if_pos hj, if_pos hj]; exact ⟨_, rfl⟩
  · rw [if_neg hj, if_neg hj]; exact ⟨_, rfl⟩
theorem call_int1 : CallR X (.type "int") (fun xs H Q => (∃ i, xs = [.int i] ∧ Q (.int i) H) ∨ ∃ k, xs = [.bl k] ∧ Q (.int (if k then 1 else 0)) H) := by
  intro pins s σ H xs us Q I r h
  rcases h with ⟨i, rfl, q⟩ | ⟨k, rfl, q⟩
  · obtain ⟨u, rfl, t, rfl⟩ := vals1 r
    exact call_int_int ⟨.int i, H, I, ⟨_, rfl⟩, q⟩
  · obtain ⟨u, rfl, r1⟩ := vals1 r
    cases r1
    exact call_int_bool ⟨.int (if k then 1 else 0), H, I.tok _, ⟨_, rfl⟩, q⟩
/-- len of a str, a bytes, a list, a tuple -/
def LenV (K : PySem.W.Frag) (x : V) (H : Hp) (n : Nat) : Prop :=
  match x with
  | .str y => y.length ≤ sizeLine ∧ n = y.length
  | .byt y => y.size ≤ sizeLine ∧ n = y.size
  | .ref p => (∃ xs, SqL K H p xs ∧ n = xs.length) ∨ ∃ xs, SqT K H p xs ∧ n = xs.length
  | _ => False
theorem call_len : CallR X (.builtin "len") (fun xs H Q => ∃ x n, xs = [x] ∧ LenV X.K x H n ∧ Q (.int n) H) := by
  intro pins s σ H xs us Q I r h
  obtain ⟨x, n, rfl, e, q⟩ := h
  obtain ⟨u, rfl, rx⟩ := vals1 r
  have hl := line63
  have hs : sizeLine = 16777216 := sizeLine_eq
  cases x with
  | str y =>
    obtain ⟨t, rfl⟩ := rx
    obtain ⟨hy, e'⟩ : y.length ≤ sizeLine ∧ n = y.length := e
    subst e'
    exact len_str (by omega) ⟨.int _, H, I.tok _, ⟨_, rfl⟩, q⟩
  | byt y =>
    obtain ⟨t, rfl⟩ := rx
    obtain ⟨hy, e'⟩ : y.size ≤ sizeLine ∧ n = y.size := e
    subst e'
    exact PySem.W.len_bytes (by omega) ⟨.int _, H, I.tok _, ⟨_, rfl⟩, q⟩
  | ref p =>
    cases rx
    have e' : (∃ xs, SqL X.K H p xs ∧ n = xs.length) ∨ ∃ xs, SqT X.K H p xs ∧ n = xs.length := e
    rcases e' with ⟨xs, hx, e'⟩ | ⟨xs, hx, e'⟩
    · subst e'
      obtain ⟨its, r', pl, hz⟩ := I.list hx
      have hlen := r'.length
      exact Calls.call_len_list pl.isList (by simp only [List.size_toArray]; omega) ⟨.int xs.length, H, I.tok _, ⟨_, by simp only [List.size_toArray]; rw [hlen]⟩, q⟩
    · subst e'
      obtain ⟨its, r', pl, hz⟩ := I.tuple hx
      have hlen := r'.length
      exact len_tuple pl (by simp only [List.size_toArray]; omega) ⟨.int xs.length, H, I.tok _, ⟨_, by simp only [List.size_toArray]; rw [hlen]⟩, q⟩
  | _ => exact (show False from e).elim
end
end L2
namespace L2
open PySem PySem.Spec PyProof.Rows
structure ObjM (h : Heap) (x dx C : Addr) (mA : Str → Option Value) : Prop where
  obj : h.get? x = some (PySem.W.instObj C dx)
  ns : h.Ns1 dx mA
  ne : dx ≠ x
theorem lookIn_ns {h : Heap} {dx : Addr} {mA : Str → Option Value} (n : h.Ns1 dx mA) : ∃ od, h.get? dx = some od ∧ ∀ name, PySem.W.lookIn name od = some (mA name) := by
  obtain ⟨o, es, ep, ho, hd, hk, _, hm⟩ := n
  refine ⟨o, ho, fun name => ?_⟩
  have e := hm name
  unfold nsFind findBy at e
  rw [← Array.find?_toList] at e
  unfold PySem.W.lookIn
  rw [hd]
  dsimp only
  split
  · rename_i y q
    rw [q] at e
    exact congrArg some e
  · rename_i q
    rw [q] at e
    have a : es.toList.any (·.refKey) = false := by
      rw [List.any_eq_false]
      intro y hy
      obtain ⟨z, t, hkey⟩ := hk y (Array.mem_toList_iff.mp hy)
      simp [DictEntry.refKey, hkey]
    have a' : ¬ es.toList.any (·.refKey) = true := by rw [a]; exact Bool.false_ne_true
    rw [if_neg a']
    exact congrArg some e
theorem ObjM.look {h : Heap} {x dx C : Addr} {mA : Str → Option Value} (I : ObjM h x dx C mA) : ∃ od, PySem.W.InstAt h x (PySem.W.instObj C dx) C (some od) ∧ ∀ name, PySem.W.lookIn name od = some (mA name) :=
  let ⟨od, ho, hl⟩ := lookIn_ns I.ns
  ⟨od, ⟨I.obj, rfl, rfl, ho⟩, hl⟩
section
variable {prog : Program} {w : World} {A : Around} {E : Value → Shared → Prop} {s : Shared} {K : PySem.W.Frag} {x dx C f : Addr} {mA : Str → Option Value} {name : Str} {v : Value}
end
theorem RelO.none_of {o : Option Value} (r : RelO none o) : o = none := by
  cases o with
  | none => rfl
  | some u => exact (show False from r).elim
section
variable {P : Program} {w : World} {H H' : Hp} {h h' : Heap} {a C dx : Addr} {fs fs' : List (Str × V)}
theorem ins_get (hok : HOk P w H h) (e : H a = some (.ins C dx fs)) : ∃ mA, ObjM h a dx C mA ∧ (∀ f, RelO (fs.lookup f) (mA f)) ∧ PySem.Within mA (fs.map (·.1)) ∧ fs.length ≤ 1000 ∧ H dx = some (.own a) := by
  obtain ⟨d, z, ne, ob, mA, n, r, q⟩ := (show ObjOk P w H h a (.ins C dx fs) from hok a _ e)
  exact ⟨mA, ⟨ob, n, ne⟩, r, q, z, d⟩
end
structure Cls (K : PySem.W.Frag) (C : Addr) : Prop where
  pg : PySem.W.plainGet K C Str.empty = true
  hd : PySem.W.hasDictIn K C = true
  po : PySem.W.plainOver K C = true
  sa : PySem.W.findIn K (.ref C) "__setattr__" = some (some (.builtin "object.__setattr__"))
theorem Cls.get {K : PySem.W.Frag} {C : Addr} (c : Cls K C) (f : Str) : PySem.W.plainGet K C f = true := c.pg
section
variable {X : Cx} {pins : List (Addr × Obj)} {σ : St} {H : Hp} {s : Shared} {a C dx : Addr} {fs : List (Str × V)} {f : Str} {v : V} {A : Around} {E : Value → Shared → Prop}
end
section
variable {X : Cx} {o e value : Expr} {f : Str} {pos pos' tpos : Pos} {ta tv : TE}
end
section
variable {X : Cx} {pins : List (Addr × Obj)} {σ : St} {H : Hp} {s : Shared} {A : Around} {E : Value → Shared → Prop} {Q : Value → Shared → Prop} {c : Value} {b : Bool}
/-- the type of a value, as the fragment's deciders take it; for an instance its class -/
inductive TyOf (K : PySem.W.Frag) (H : Hp) : V → Value → Prop where
  | non : TyOf K H .non (.type "NoneType")
  | bl (x : Bool) : TyOf K H (.bl x) (.type "bool")
  | int (i : Int) : TyOf K H (.int i) (.type "int")
  | str (x : Str) : TyOf K H (.str x) (.type "str")
  | flt (x : UInt64) : TyOf K H (.flt x) (.type "float")
  | lst {a : Addr} {xs : List V} (e : H a = some (.lst xs)) : TyOf K H (.ref a) (.type "list")
  | frz {a : Addr} {o : Obj} {xs : List V} (e : H a = some (.frz o (.lst xs))) : TyOf K H (.ref a) (.type "list")
  | tup {a : Addr} {xs : List V} (e : H a = some (.tup xs)) : TyOf K H (.ref a) (.type "tuple")
  | dK {a : Addr} {kvs : List (Key × V)} (e : H a = some (.dK kvs)) : TyOf K H (.ref a) (.type "dict")
  | dT {a : Addr} {kvs : List (List Key × V)} (e : H a = some (.dT kvs)) : TyOf K H (.ref a) (.type "dict")
  | ins {a C dx : Addr} {fs : List (Str × V)} (e : H a = some (.ins C dx fs)) (cl : Cls K C) (ha : PySem.W.findIn K (.ref C) "__class__" = some (some (.builtin "object.__class__")))
      (hn : PySem.W.specialIn K (.builtin "object.__class__") "__get__" = some (some (.builtin "getset_descriptor.__get__"))) (htk : PySem.W.takesIn K (.builtin "object.__class__") = some true)
      (hm : PySem.W.mroIn K C (.type "object") = some true) : TyOf K H (.ref a) (.ref C)
/-- isinstance(x, c) for one class c, a built-in or an own one: kitOne's answer -/
theorem isinst_ok {x : V} {u t : Value} (I : Inv X pins σ H s) (rx : RelV x u) (ty : TyOf X.K H x t) (e : PySem.W.kitOne X.K t c = some b) (h : ∀ tk, Q (.bool b) { s with toks := tk }) :
    wpAny (model X.prog X.w) A (call (.builtin "isinstance") [u, c]) Q E s := by
  cases ty with
  | non => cases (show u = Value.none from rx); exact PySem.W.kia_one PySem.W.kitx_none I.kIn True.intro e (fun z => nomatch z) h
  | bl y => cases (show u = Value.bool y from rx); exact PySem.W.kia_one PySem.W.kitx_bool I.kIn True.intro e (fun z => nomatch z) h
  | int i => obtain ⟨t, q⟩ := (show ∃ t, u = Value.int i t from rx); cases q; exact PySem.W.kia_one PySem.W.kitx_int I.kIn True.intro e (fun z => nomatch z) h
  | str y => obtain ⟨t, q⟩ := (show ∃ t, u = Value.str y t from rx); cases q; exact PySem.W.kia_one PySem.W.kitx_str I.kIn True.intro e (fun z => nomatch z) h
  | flt y => obtain ⟨t, q⟩ := (show ∃ t, u = Value.float y t from rx); cases q; exact PySem.W.kia_one PySem.W.kitx_float I.kIn True.intro e (fun z => nomatch z) h
  | @lst a xs ea =>
    cases (show u = Value.ref a from rx)
    obtain ⟨_, _, n, _, h1⟩ := (show ObjOk X.prog X.w H s.heap a (.lst xs) from I.hok a _ ea)
    exact PySem.W.kia_one PySem.W.kitx_list I.kIn ⟨_, h1, rfl⟩ e (fun z => nomatch z) h
  | @frz a ob xs ea =>
    cases (show u = Value.ref a from rx)
    obtain ⟨_, _, _, n, _, h1⟩ := (show ObjOk X.prog X.w H s.heap a (.frz ob (.lst xs)) from I.hok a _ ea)
    exact PySem.W.kia_one PySem.W.kitx_list I.kIn ⟨_, h1, rfl⟩ e (fun z => nomatch z) h
  | @tup a xs ea =>
    cases (show u = Value.ref a from rx)
    obtain ⟨_, _, _, p⟩ := (show ObjOk X.prog X.w H s.heap a (.tup xs) from I.hok a _ ea)
    obtain ⟨o, h1, h2, _⟩ := p
    exact PySem.W.kia_one PySem.W.kitx_tuple I.kIn ⟨o, h1, h2⟩ e (fun z => nomatch z) h
  | @dK a kvs ea =>
    cases (show u = Value.ref a from rx)
    obtain ⟨_, _, vs, _, p⟩ := (show ObjOk X.prog X.w H s.heap a (.dK kvs) from I.hok a _ ea)
    obtain ⟨o, es, ep, h1, h2, _⟩ := p
    exact PySem.W.kia_one PySem.W.kitx_dict I.kIn ⟨o, h1, h2.1⟩ e (fun z => nomatch z) h
  | @dT a kvs ea =>
    cases (show u = Value.ref a from rx)
    obtain ⟨_, _, xs, _, o, es, ep, h1, h2, _⟩ := (show ObjOk X.prog X.w H s.heap a (.dT kvs) from I.hok a _ ea)
    exact PySem.W.kia_one PySem.W.kitx_dict I.kIn ⟨o, h1, h2.1⟩ e (fun z => nomatch z) h
  | @ins a C dx fs ea cl ha hn htk hm =>
    cases (show u = Value.ref a from rx)
    obtain ⟨mA, O, _⟩ := ins_get I.hok ea
    obtain ⟨od, J, _⟩ := O.look
    exact PySem.W.kia_one (PySem.W.kitx_own (cl.get _) cl.hd ha hn htk hm) I.kIn J e (fun z => nomatch z) h
end
end L2
namespace L2
open PySem PySem.Spec PyProof.Rows
structure Room (k : Nat) (A : Around) : Prop where
  hd : A.handled = none
  dp : A.depth + 3 * k + 5 < recursionLimit
  un : A.units + 16 * k + 200 < cLine
theorem Room.mono {j k : Nat} {A : Around} (r : Room k A) (h : j ≤ k) : Room j A := ⟨r.hd, by have := r.dp; omega, by have := r.un; omega⟩
theorem Room.deeper {k : Nat} {A : Around} (r : Room (k + 1) A) (env : Env) : Room k (A.deeper env) :=
  ⟨r.hd, by have := r.dp; show A.depth + 1 + 3 * k + 5 < _; omega, by have := r.un; show A.units + 3 + 16 * k + 200 < _; omega⟩
theorem Room.in1 {k : Nat} {A : Around} (r : Room (k + 1) A) : Room k A.in1 :=
  ⟨r.hd, by have := r.dp; show A.depth + 3 * k + 5 < _; omega, by have := r.un; show A.units + 1 + 16 * k + 200 < _; omega⟩
theorem Room.depth {k : Nat} {A : Around} (r : Room k A) : A.depth < recursionLimit := by have := r.dp; omega
theorem Room.units {k : Nat} {A : Around} (r : Room k A) : A.units + 64 < cLine := by have := r.un; omega
def tNil : TA := fun _ H Q => Q [] H
def tCons (ta : TE) (tr : TA) : TA := fun σ H Q => ta σ H fun x H1 => tr σ H1 fun xs H2 => Q (x :: xs) H2
section
variable {X : Cx} {e : Expr} {es : List Expr} {te : TE} {t : TA} {pos : Pos}
theorem pa_nil : PA X [] tNil := fun _ _ _ _ H Q I h => Calls.spliced_nil ⟨[], H, I, .nil, h⟩
theorem pa_cons (ha : PE X e te) (hr : PA X es t) (hs : starEach (e :: es) X.env = (false, eval e X.env) :: starEach es X.env := by rfl) : PA X (e :: es) (tCons te t) := by
  intro pos pins s σ H Q I h
  rw [hs]
  show wpAny _ _ (spliced ((false, eval e X.env) :: backTo pos (starEach es X.env))) _ _ s
  refine Calls.spliced_cons (thn (ha pins s σ H _ I h) fun u s1 ⟨x, H1, I1, r1, q1⟩ => ?_)
  exact thn (hr pos pins s1 σ H1 _ I1 q1) fun us s2 ⟨xs, H2, I2, r2, q2⟩ => ⟨x :: xs, H2, I2, .cons r1 r2, q2⟩
end
/-- a def's promise: the bound arguments in the parameters' order, the heap, the wanted end, the wanted exception -/
abbrev Sp := List V → Hp → VK → XK → Prop
/-- how an exception lies behind a call (file 08 gives it): the callers' frames, abstract heap and state ahead of the call, the wish, the exception, the state -/
abbrev CXT := List Env → Hp → Shared → XK → Value → Shared → Prop
/-- the state at a call -/
structure Env0 (P : Program) (w : World) (K : PySem.W.Frag) (mg : Str → Option Value) (base : Heap) (A : Around) (outer : List Env) (s : Shared) (H : Hp) : Prop where
  frames : A.frames = some outer
  mod : Mod K mg base
  bs : ∀ b o, base.get? b = some o → s.heap.get? b = some o ∧ H b = none
  bsz : base.objs.size ≤ s.heap.objs.size
  funs : s.heap.FunFrames base outer
  frf : ∀ b ∈ frs outer, H b = none
  hok : HOk P w H s.heap
  bare : AllBare s.gens
/-- a call's end -/
def CE (outer : List Env) (P : Program) (w : World) (H : Hp) (s : Shared) (Q : VK) (u : Value) (s' : Shared) : Prop :=
  ∃ v H', s'.os = s.os ∧ AllBare s'.gens ∧ Un (frs outer) [] H H' s.heap s'.heap ∧ HOk P w H' s'.heap ∧ RelV v u ∧ Q v H'
def CR (CX : CXT) (outer : List Env) (P : Program) (w : World) (H : Hp) (s : Shared) (Q : VK) (E : XK) (r : Result) (s' : Shared) : Prop :=
  match r with
  | .ok (.ret u) => CE outer P w H s Q u s'
  | .ok _ => False
  | .error e => CX outer H s E e s'
structure FnOk (P : Program) (w : World) (K : PySem.W.Frag) (mg : Str → Option Value) (base : Heap) (CX : CXT) (k : Nat) (f : Addr) (fd : FuncData) (ps : List Str) (sp : Sp) : Prop where
  len : ∀ vs H Q E, sp vs H Q E → vs.length = ps.length
  run : ∀ (A : Around) (outer : List Env) (s : Shared) (H : Hp) (args : Args) (us : List Value) (vs : List V) (Q : VK) (E : XK), Room k A → Env0 P w K mg base A outer s H → BindsTo s fd args (ps.zip us) → Vals vs us → sp vs H Q E →
    codeAny (model P w) A (.call (.ref f) args) (CR CX outer P w H s Q E) s
theorem FnOk.mono {P : Program} {w : World} {K : PySem.W.Frag} {mg : Str → Option Value} {base : Heap} {CX : CXT} {j k : Nat} {f : Addr} {fd : FuncData} {ps : List Str} {sp : Sp} (F : FnOk P w K mg base CX j f fd ps sp) (h : j ≤ k) :
    FnOk P w K mg base CX k f fd ps sp := ⟨F.len, fun A outer s H args us vs Q E hr => F.run A outer s H args us vs Q E (hr.mono h)⟩
/-- a weaker promise -/
theorem FnOk.imp {P : Program} {w : World} {K : PySem.W.Frag} {mg : Str → Option Value} {base : Heap} {CX : CXT} {k : Nat} {f : Addr} {fd : FuncData} {ps : List Str} {sp sp' : Sp} (F : FnOk P w K mg base CX k f fd ps sp)
    (h : ∀ vs H Q E, sp' vs H Q E → sp vs H Q E) : FnOk P w K mg base CX k f fd ps sp' :=
  ⟨fun vs H Q E q => F.len vs H Q E (h _ _ _ _ q), fun A outer s H args us vs Q E hr he hb hv hs => F.run A outer s H args us vs Q E hr he hb hv (h _ _ _ _ hs)⟩
theorem Env0.in1 {P : Program} {w : World} {K : PySem.W.Frag} {mg : Str → Option Value} {base : Heap} {A : Around} {outer : List Env} {s : Shared} {H : Hp} (e : Env0 P w K mg base A outer s H) :
    Env0 P w K mg base A.in1 outer s H := ⟨e.frames, e.mod, e.bs, e.bsz, e.funs, e.frf, e.hok, e.bare⟩
section
variable {X : Cx} {pins : List (Addr × Obj)} {σ : St} {H : Hp} {s s' : Shared}
/-- from a body: what a callee wants -/
theorem Inv.env0 (I : Inv X pins σ H s) : Env0 X.prog X.w X.K X.mg X.base X.A X.stack s H :=
  ⟨I.ok.frames, I.ok.mod, I.bs, Nat.le_trans I.ok.bsz I.sz, I.stack, I.stkFree, I.hok, I.bare⟩
/-- behind a call -/
theorem Inv.after {Q : VK} {u : Value} (I : Inv X pins σ H s) (h : CE X.stack X.prog X.w H s Q u s') : EP X pins σ Q u s' := by
  obtain ⟨v, H', os, bare, un, hok, r, q⟩ := h
  obtain ⟨hh, g, d, t, os'⟩ := s'
  obtain rfl : os' = s.os := os
  exact ⟨v, H', I.call (h' := hh) (g' := g) (d' := d) (t' := t) (ch := []) un hok bare (fun b z => absurd z (by simp)), r, q⟩
end
/-- how the parameters are bound: us the positional arguments, kw the keywords' values by name, ds the defaults that fill up -/
def Binds (K : PySem.W.Frag) (fd : FuncData) (ps : List Str) (ds : List Value) : Prop :=
  ∀ (s : Shared) (us : List Value), K.In s.heap → (us ++ ds).length = ps.length → BindsTo s fd ⟨us, []⟩ (ps.zip (us ++ ds))
/-- every parameter is given -/
theorem Binds.all {K : PySem.W.Frag} {fd : FuncData} {ps : List Str} (h : ∀ us : List Value, us.length = ps.length → bindArgs fd ⟨us, []⟩ = pure (ps.zip us)) : Binds K fd ps [] := fun s us _ hl => by
  rw [List.append_nil] at hl ⊢
  exact .of_eq (h us hl)
/-- an exception of a callee reaches what this body wants of exceptions -/
def Passes (CX : CXT) (X : Cx) (E : XK) : Prop := ∀ (pins : List (Addr × Obj)) (σ : St) (H : Hp) (s : Shared) (e : Value) (s' : Shared), Inv X pins σ H s → CX X.stack H s E e s' → X.xe e s'
section
variable {X : Cx} {CX : CXT} {k : Nat} {f C : Addr} {fd : FuncData} {ps : List Str} {sp : Sp} {dvs : List V} {ds : List Value} {E : XK} {x m : Str} {p pos apos : Pos} {e o : Expr} {es : List Expr} {ta : TE} {t : TA}
/-- the callee runs -/
theorem run_fn {pins : List (Addr × Obj)} {σ : St} {H : Hp} {s : Shared} {Q : VK} {us : List Value} {vs : List V} (F : FnOk X.prog X.w X.K X.mg X.base CX k f fd ps sp) (hr : Room k X.A) (hb : Binds X.K fd ps ds) (hd : Vals dvs ds) (hx : Passes CX X E)
    (I : Inv X pins σ H s) (r : Vals vs us) (h : sp (vs ++ dvs) H Q E) : wpAny (model X.prog X.w) X.A (call (.ref f) us) (EP X pins σ Q) X.xe s := by
  have r2 : Vals (vs ++ dvs) (us ++ ds) := r.append hd
  have hl : (us ++ ds).length = ps.length := by rw [← r2.length]; exact F.len _ _ _ _ h
  refine wpAny_call (codeAny_mono (F.run X.A X.stack s H ⟨us, []⟩ (us ++ ds) (vs ++ dvs) Q E hr I.env0 (hb s us I.kIn hl) r2 h) fun r s' hq => ?_)
  cases r with
  | error e => exact hx pins σ H s e s' I hq
  | ok fl =>
    cases fl with
    | ret u => exact I.after hq
    | next => exact False.elim hq
    | brk => exact False.elim hq
    | cont => exact False.elim hq
end
section
variable {X : Cx} {CX : CXT} {k : Nat} {f C : Addr} {fd : FuncData} {ps ks : List Str} {sp : Sp} {E : XK} {x m : Str} {p pos apos kpos : Pos} {e o : Expr} {es : List Expr} {kws : List Keyword} {te ta : TE} {t tk : TA} {nm : Option Str}
variable {g : List Value → List Value → List Value} {gV : List V → List V → List V}
end
/-- names: the parameters first -/
structure FnScope (N P : List Str) (sc : Scope) : Prop where
  kind : sc.kind = .function
  co : sc.isCoroutine = false
  gen : sc.isGenerator = false
  nd : N.Nodup
  pre : N.take P.length = P
  par : ∀ x ∈ P, sc.names.lookup x = some .local ∨ sc.names.lookup x = some .cell
  nofree : ∀ y ∈ sc.names, y.2 ≠ .free
theorem bindL_out {kindOf : Str → Option NameKind} {x : Str} : ∀ {binds : List (Str × Value)} {m : Str → Option Value}, (∀ v, (x, v) ∉ binds) → bindL kindOf binds m x = m x
  | [], _, _ => rfl
  | (n, v) :: r, m, h => by
    unfold bindL
    rw [bindL_out fun w hw => h w (List.mem_cons_of_mem _ hw)]
    split
    · have : x ≠ n := by rintro rfl; exact h v List.mem_cons_self
      simp [this]
    · rfl
theorem bindC_out {kindOf : Str → Option NameKind} {x : Str} : ∀ {binds : List (Str × Value)} {m : Str → Option Value}, (∀ v, (x, v) ∉ binds) → bindC kindOf binds m x = m x
  | [], _, _ => rfl
  | (n, v) :: r, m, h => by
    unfold bindC
    rw [bindC_out fun w hw => h w (List.mem_cons_of_mem _ hw)]
    split
    · rfl
    · have : x ≠ n := by rintro rfl; exact h v List.mem_cons_self
      simp [this]
theorem bindL_get {kindOf : Str → Option NameKind} {x : Str} {v : Value} : ∀ {P : List Str} {vs : List Value} {i : Nat} {m : Str → Option Value}, P.Nodup → P[i]? = some x → vs[i]? = some v → kindOf x = some .local →
    bindL kindOf (P.zip vs) m x = some v
  | [], _, _, _, _, h, _, _ => by simp at h
  | _ :: _, [], _, _, _, _, h, _ => by simp at h
  | p :: P, w :: vs, 0, m, nd, h1, h2, hk => by
    simp at h1 h2; subst h1; subst h2
    show bindL kindOf ((p, w) :: P.zip vs) m p = _
    unfold bindL
    rw [bindL_out fun v hv => (List.nodup_cons.mp nd).1 (List.of_mem_zip hv).1, if_pos hk]
    simp
  | p :: P, w :: vs, i + 1, m, nd, h1, h2, hk => by
    show bindL kindOf ((p, w) :: P.zip vs) m x = _
    unfold bindL
    exact bindL_get (i := i) (List.nodup_cons.mp nd).2 (by simpa using h1) (by simpa using h2) hk
theorem bindC_get {kindOf : Str → Option NameKind} {x : Str} {v : Value} : ∀ {P : List Str} {vs : List Value} {i : Nat} {m : Str → Option Value}, P.Nodup → P[i]? = some x → vs[i]? = some v → kindOf x ≠ some .local →
    bindC kindOf (P.zip vs) m x = some v
  | [], _, _, _, _, h, _, _ => by simp at h
  | _ :: _, [], _, _, _, _, h, _ => by simp at h
  | p :: P, w :: vs, 0, m, nd, h1, h2, hk => by
    simp at h1 h2; subst h1; subst h2
    show bindC kindOf ((p, w) :: P.zip vs) m p = _
    unfold bindC
    rw [bindC_out fun v hv => (List.nodup_cons.mp nd).1 (List.of_mem_zip hv).1, if_neg hk]
    simp
  | p :: P, w :: vs, i + 1, m, nd, h1, h2, hk => by
    show bindC kindOf ((p, w) :: P.zip vs) m x = _
    unfold bindC
    exact bindC_get (i := i) (List.nodup_cons.mp nd).2 (by simpa using h1) (by simpa using h2) hk
/-- the names' values at the entry -/
def start (N : List Str) (vs : List V) : St := vs.map some ++ List.replicate (N.length - vs.length) none
/-- the context of a def's body, at its entry; an exception leaves the frame, then lies as CX says -/
def cxOf (CX : CXT) (P : Program) (w : World) (K : PySem.W.Frag) (mg : Str → Option Value) (base : Heap) (N : List Str) (qual : Str) (scope : Scope) (f : Addr) (cd : Value) (A : Around) (outer : List Env) (s : Shared) (H : Hp) (E : XK) : Cx where
  prog := P
  w := w
  K := K
  mg := mg
  base := base
  A := A.deeper (envOfC qual scope s.heap.objs.size f cd)
  N := N
  s₀ := s
  H₀ := H
  env := envOfC qual scope s.heap.objs.size f cd
  outer := outer
  stack := envOfC qual scope s.heap.objs.size f cd :: outer
  ex := []
  calm := true
  fn := fun _ => true
  pn := []
  xe := fun e s' => wpAny (model P w) (A.deeper (envOfC qual scope s.heap.objs.size f cd)) (leaving (envOfC qual scope s.heap.objs.size f cd) e) (fun _ s'' => CX outer H s E e s'') (fun e' s'' => CX outer H s E e' s'') s'
theorem cell_has {sc : Scope} {n : Nat} {x : Str} (h : sc.names.lookup x = some .cell) : ∃ c, (cellsFrom n sc.names []).lookup x = some c := by
  have q := PySem.W.cellsFrom_some sc.names n [] (.inl h)
  exact Option.isSome_iff_exists.mp q
theorem inv_start {CX : CXT} {P : Program} {w : World} {K : PySem.W.Frag} {mg : Str → Option Value} {base : Heap} {N ps : List Str} {qual : Str} {scope : Scope} {f : Addr} {cd : Value} {A : Around} {outer : List Env} {s s1 : Shared} {H : Hp} {E : XK} {us : List Value} {vs : List V}
    (S : FnScope N ps scope) (hd : A.handled = none) (e0 : Env0 P w K mg base A outer s H) (hl : vs.length = ps.length) (r : Vals vs us)
    (x : InCallC s s.heap.objs.size (bindL (envOfC qual scope s.heap.objs.size f cd).kindOf (ps.zip us) fun _ => none) (cellsFrom (s.heap.objs.size + 1) scope.names []) (bindC (envOfC qual scope s.heap.objs.size f cd).kindOf (ps.zip us) fun _ => none) s1) :
    Inv (cxOf CX P w K mg base N qual scope f cd A outer s H E) [] (start N vs) H s1 := by
  have hpl : ps.length ≤ N.length := by have := congrArg List.length S.pre; rw [List.length_take] at this; omega
  obtain ⟨h1, tk, rfl, hk⟩ := x.done
  have noA : ∀ b : Addr, b ∉ (cxOf CX P w K mg base N qual scope f cd A outer s H E).ex := fun b z => absurd (show b ∈ ([] : List Addr) from z) (by simp)
  refine ⟨⟨e0.mod, S.kind, rfl, rfl, Nat.le_refl _, fun y z c h1 h2 => ?_, fun y hy => ?_, fun y c _ h => ?_, fun _ => hd, Around.frames_deeper e0.frames, .inr ⟨rfl, rfl⟩, fun b z => absurd z (noA b), e0.bs, e0.bsz, fun b _ _ => noA b, fun b z => absurd z (noA b), e0.funs, e0.frf⟩,
    rfl, e0.bare, Un.kept hk, ⟨_, x.toInCall.ns, fun i y v h1 h2 h3 => ?_⟩, fun y c h => ⟨_, x.cell y c h⟩, e0.hok.fresh (Nat.le_refl _), fun y c h => ?_, fun p hp => absurd (show p ∈ ([] : List (Addr × Obj)) from hp) (by simp), e0.hok.kept hk, ?_⟩
  · exact name_of_addr x.apart (PySem.mem_of_lookup h1) (PySem.mem_of_lookup h2)
  · have hy : scope.names.lookup y = some .cell ∨ scope.names.lookup y = some .free := hy
    rcases hy with hy | hy
    · exact cell_has hy
    · exact absurd rfl (S.nofree _ (PySem.mem_of_lookup hy))
  · exact Nat.le_of_lt (x.above y c (PySem.mem_of_lookup h))
  · have hi : i < vs.length := by
      unfold start at h2
      by_cases hi : i < vs.length
      · exact hi
      · rw [List.getElem?_append_right (by simpa using hi)] at h2
        rw [List.getElem?_replicate] at h2
        split at h2 <;> cases h2
    have ha : vs[i]? = some v := by
      unfold start at h2
      rw [List.getElem?_append_left (by simpa using hi), List.getElem?_map] at h2
      cases e : vs[i]? with
      | none => rw [e] at h2; cases h2
      | some a => rw [e] at h2; cases h2; rfl
    obtain ⟨u, hu, rv⟩ := r.get ha
    have hp : ps[i]? = some y := by
      rw [← S.pre, List.getElem?_take_of_lt (by omega)]; exact h1
    have ndP : ps.Nodup := by rw [← S.pre]; exact S.nd.sublist (List.take_sublist _ _)
    refine ⟨u, rv, ?_⟩
    rcases S.par y (List.mem_of_getElem? hp) with k | k
    · exact .inl ⟨k, bindL_get ndP hp hu k⟩
    · obtain ⟨c, e⟩ := cell_has (n := s.heap.objs.size + 1) k
      refine .inr ⟨.inl k, c, e, ?_⟩
      have q := x.cell y c e
      rw [bindC_get ndP hp hu (by show scope.names.lookup y ≠ _; rw [k]; decide)] at q
      exact q
  · exact e0.hok.fresh (Nat.le_of_lt (x.above y c (PySem.mem_of_lookup h)))
  · unfold start
    show _ = N.length
    rw [List.length_append, List.length_map, List.length_replicate]
    omega
/-- THE RULE: a def (or a method) of the text, by its body. The body's reading t is chosen for each entry; it is run at the parameters' values -/
theorem fn_of {CX : CXT} {P : Program} {w : World} {K : PySem.W.Frag} {mg : Str → Option Value} {base : Heap} {k : Nat} {f : Addr} {name qual : Str} {params : Arguments} {body : List Stmt} {scope : Scope} {dV kV doc pm cdv ct oc : Value} {an od : Option Addr}
    {osl : Array (Option Value)} {N ps : List Str} {sp : Sp} (lk : K.lookup f = some ⟨oc, od, .func (PySem.W.fnOf name qual params body scope dV kV doc pm an cdv ct), osl⟩) (hcd : PySem.W.codeIn K cdv qual = true) (S : FnScope N ps scope)
    (len : ∀ vs H Q E, sp vs H Q E → vs.length = ps.length)
    (hbody : ∀ (A : Around) (outer : List Env) (s : Shared) (H : Hp) (vs : List V) (Q : VK) (E : XK), Room k (A.deeper (envOfC qual scope s.heap.objs.size f cdv)) → sp vs H Q E →
      ∃ t, PSs (cxOf CX P w K mg base N qual scope f cdv A outer s H E) body t ∧ t { nx := fun _ H' => Q .non H', rt := Q } (start N vs) H) :
    FnOk P w K mg base CX (k + 1) f (PySem.W.fnOf name qual params body scope dV kV doc pm an cdv ct) ps sp := by
  refine ⟨len, fun A outer s H args us vs Q E hr e0 hb r hsp => ?_⟩
  have hl := len _ _ _ _ hsp
  have KX : K.In s.heap := e0.mod.kin.keeps fun b o e => (e0.bs b o e).1
  have lim : s.heap.NoLimit := e0.mod.nolimit.keeps fun b o e => (e0.bs b o e).1
  have hkind : ∀ y ∈ ps.zip us, scope.names.lookup y.1 = some .local ∨ (scope.names.lookup y.1 = some .cell ∧ ((cellsFrom (s.heap.objs.size + 1) scope.names []).lookup y.1).isSome = true) := fun ⟨n, v⟩ hy => by
    rcases S.par n (List.of_mem_zip hy).1 with q | q
    · exact .inl q
    · exact .inr ⟨q, PySem.W.cellsFrom_some _ _ _ (.inl q)⟩
  refine codeAny_call_function hr.depth (KX _ _ lk) rfl S.co S.gen rfl (PySem.W.codeRec_of KX hcd) (hb _ _ _ _ ?_)
  refine wpAny_newFunctionEnv_cells S.kind hkind fun env he s1 x => ?_
  subst he
  refine ⟨lim.keeps x.toInCall.keep, codeAny_func ?_⟩
  obtain ⟨t, ht, hq⟩ := hbody A outer s H vs Q E (hr.deeper _) hsp
  have I : Inv (cxOf CX P w K mg base N qual scope f cdv A outer s H E) [] (start N vs) H s1 := inv_start S hr.hd e0 hl r x
  refine wpAny_mono (ht [] s1 (start N vs) H _ I hq) (fun fl s' hs => ?_) fun e s' hs => hs
  have fin : ∀ {σ' : St} {H' : Hp} {v : V} {u : Value}, Inv (cxOf CX P w K mg base N qual scope f cdv A outer s H E) [] σ' H' s' → RelV v u → Q v H' → CE outer P w H s Q u s' :=
    fun {σ' H' v u} J rv q => ⟨v, H', J.os, J.bare, J.base, J.hok, rv, q⟩
  cases fl with
  | ret u =>
    obtain ⟨v, σ', H', J, rv, q⟩ := hs
    exact fin J rv q
  | next =>
    obtain ⟨σ', H', J, q⟩ := hs
    exact fin (v := V.non) (u := Value.none) J rfl q
  | brk =>
    obtain ⟨_, _, _, q⟩ := hs
    exact False.elim q
  | cont =>
    obtain ⟨_, _, _, q⟩ := hs
    exact False.elim q
end L2
namespace L2
open PySem PySem.Spec PyProof.Rows
section
variable {X : Cx} {x : Str} {p pos : Pos} {e : Expr} {es : List Expr} {t : TA} {id T : String} {r : List V → Hp → VK → Prop}
def tCB (r : List V → Hp → VK → Prop) (t : TA) : TE := fun σ H Q => t σ H fun vs H1 => r vs H1 Q
/-- f(e, ..), f a built-in function -/
theorem pe_callB (hc : CallR X (.builtin id) r) (hg : Gl X x) (hm : X.mg x = none) (hv : bootBuiltins x = some (.builtin id)) (ha : PA X (e :: es) t) (hn : x ≠ "__name__" := by decide) (hdb : (x == ("__debug__" : Str)) = false := by decide)
    (he : starEach (e :: es) X.env = (false, eval e X.env) :: starEach es X.env := by rfl) (hpl : (backTo pos (starEach es X.env)).any (·.1) = false := by rfl) : PE X (.Call (.Name x p) (e :: es) [] pos) (tCB r t) := by
  intro pins s σ H Q I h
  refine wpAny_Call_Name_kw (ld_blt I hg hm hv ?_ hn hdb)
  exact PyProof.Rows.callWith_builtin1 (thn (ha pos pins s σ H _ I h) fun us s1 ⟨vs, H1, I1, r1, q1⟩ => hc pins s1 σ H1 vs us Q I1 r1 q1) he hpl
/-- T(e, ..), T a built-in type -/
theorem pe_callTy (hc : CallR X (.type T) r) (hg : Gl X x) (hm : X.mg x = none) (hv : bootBuiltins x = some (.type T)) (ha : PA X (e :: es) t) (hn : x ≠ "__name__" := by decide) (hdb : (x == ("__debug__" : Str)) = false := by decide)
    (he : starEach (e :: es) X.env = (false, eval e X.env) :: starEach es X.env := by rfl) (hpl : (backTo pos (starEach es X.env)).any (·.1) = false := by rfl) : PE X (.Call (.Name x p) (e :: es) [] pos) (tCB r t) := by
  intro pins s σ H Q I h
  refine wpAny_Call_Name_kw (ld_blt I hg hm hv ?_ hn hdb)
  exact PyProof.Rows.callWith_type1 (thn (ha pos pins s σ H _ I h) fun us s1 ⟨vs, H1, I1, r1, q1⟩ => hc pins s1 σ H1 vs us Q I1 r1 q1) he hpl
end
end L2
namespace HT
open PySem PyProof.Rows
section
open PySem.SeqAt
open PySem.AutoSeq1 (wpAny_loadPart')
open PySem.MeetsSeq PySem.MeetsSeq2 PySem.MeetsSeq3
end
section
variable {prog : Program} {w : World} {A : Around} {E : Value → Shared → Prop} {s : Shared}
/-- t + u, t not empty -/
theorem cat_tup {t b : Addr} {vs ws : List Value} {Q : Value → Shared → Prop} (ht : IsTup s.heap t vs.toArray) (hb : IsTup s.heap b ws.toArray) (hv : vs ≠ [])
    (h1 : ws = [] → Q (.ref t) s) (h2 : ws ≠ [] → Q (.ref s.heap.objs.size) { s with heap := s.heap.push { cls := .type "tuple", data := .seq (vs ++ ws).toArray } })
    (hsz : vs.length + ws.length ≤ sizeLine) : wpAny (model prog w) A (binaryOp .Add (.ref t) (.ref b)) Q E s := by
  obtain ⟨⟨cls, dd, data, sl⟩, ho, hc, n, hd⟩ := id ht
  obtain ⟨⟨cls2, dd2, data2, sl2⟩, ho2, hc2, n2, hd2⟩ := id hb
  simp only at hc hd hc2 hd2
  subst hc hd hc2 hd2
  have e : vs.toArray ++ ws.toArray = (vs ++ ws).toArray := by simp
  by_cases hw : ws = []
  · exact concat_meets ⟨_, ho, rfl⟩ ⟨_, ho2, rfl⟩ noFill_tuple_add seq_tuple_add PySem.F.slot_tuple_add PySem.F.entry_tuple_add (PySem.F.args_tuple_add_2 _ _)
      (tuple_addW1 t b vs.toArray ws.toArray n n2 dd dd2 sl sl2 (by simpa using hv) (by simp [hw])) ⟨ho, ho2, h1 hw⟩
  · refine concat_meets ⟨_, ho, rfl⟩ ⟨_, ho2, rfl⟩ noFill_tuple_add seq_tuple_add PySem.F.slot_tuple_add PySem.F.entry_tuple_add (PySem.F.args_tuple_add_2 _ _)
      (tuple_addW2 t b vs.toArray ws.toArray n n2 dd dd2 sl sl2 (by simpa using hv) (by simpa using hw) (by rw [List.size_toArray, List.size_toArray]; exact hsz)) ⟨ho, ho2, ?_⟩
    rw [e]
    exact h2 hw
/-- a slice's bound as a place among n (d where it is left out) -/
def sIx (n d : Nat) : Option Int → Nat
  | none => d
  | some v => if v < 0 then (v + (n : Int)).toNat else min v.toNat n
end
end HT
namespace L2
open PySem PySem.Spec PyProof.Rows
abbrev TO := St → Hp → (Option Int → Hp → Prop) → Prop
/-- a slice's part (left out, or an int) -/
def PO (X : Cx) (e : Option Expr) (t : TO) : Prop :=
  ∀ (pins : List (Addr × Obj)) (s : Shared) (σ : St) (H : Hp) (Q : Option Int → Hp → Prop), Inv X pins σ H s → t σ H Q →
    wpAny (model X.prog X.w) X.A (evalPart e X.env) (fun u s' => ∃ o H', Inv X pins σ H' s' ∧ IsPart u o ∧ Q o H') X.xe s
def tNoPart : TO := fun _ H Q => Q none H
def tPart (t : TE) : TO := fun σ H Q => t σ H fun x H1 => ∃ i, x = .int i ∧ Q (some i) H1
section
variable {X : Cx} {e : Expr} {te : TE} {lo hi : Option Expr} {tl th : TO} {pos p2 : Pos}
theorem po_none : PO X none tNoPart := by
  intro pins s σ H Q I h
  rw [evalPart_none]
  exact wpAny_pure ⟨none, H, I, .none, h⟩
theorem po_some (h : PE X e te) : PO X (some e) (tPart te) := by
  intro pins s σ H Q I hw
  rw [evalPart_some]
  refine thn (h pins s σ H _ I hw) fun u s1 ⟨x, H1, I1, r1, q1⟩ => ?_
  obtain ⟨i, rfl, q⟩ := q1
  obtain ⟨t, rfl⟩ := r1
  exact ⟨some i, H1, I1, .int i t, q⟩
/-- what a slice of a value is, by values: the slice object stands at sl -/
def SlR (X : Cx) (r : V → Option Int → Option Int → Hp → VK → Prop) : Prop :=
  ∀ (pins : List (Addr × Obj)) (s : Shared) (σ : St) (H : Hp) (x : V) (v vl vu : Value) (lo hi : Option Int) (sl : Addr) (Q : VK), Inv X pins σ H s → RelV x v → s.heap.IsSliceOf sl vl vu .none → IsPart vl lo → IsPart vu hi → r x lo hi H Q →
    ∃ T id, typeLookup (.type T) "__getitem__" = pure (some (.builtin id)) ∧ s.TypeIs v T ∧ wpAny (model X.prog X.w) X.A (getItem v (.ref sl)) (EP X pins σ Q) X.xe s
theorem SlR.or {r r' : V → Option Int → Option Int → Hp → VK → Prop} (h : SlR X r) (h' : SlR X r') : SlR X (fun x lo hi H Q => r x lo hi H Q ∨ r' x lo hi H Q) := by
  intro pins s σ H x v vl vu lo hi sl Q I rx hs pl pu q
  rcases q with q | q
  · exact h pins s σ H x v vl vu lo hi sl Q I rx hs pl pu q
  · exact h' pins s σ H x v vl vu lo hi sl Q I rx hs pl pu q
def tSl (r : V → Option Int → Option Int → Hp → VK → Prop) (te : TE) (tl th : TO) : TE := fun σ H Q => te σ H fun x H1 => tl σ H1 fun l H2 => th σ H2 fun u H3 => r x l u H3 Q
/-- a[lo:hi], any a -/
theorem pe_slice {r : V → Option Int → Option Int → Hp → VK → Prop} (hr : SlR X r) (he : PE X e te) (hl : PO X lo tl) (hu : PO X hi th) : PE X (.Subscript e (.Slice lo hi none p2) pos) (tSl r te tl th) := by
  intro pins s σ H Q I h
  refine Subscript_ (thn (he pins s σ H _ I h) fun v s1 ⟨x, H1, I1, r1, q1⟩ => ?_)
  refine wpAny_Slice (thn (hl pins s1 σ H1 _ I1 q1) fun vl s2 ⟨l, H2, I2, pl, q2⟩ => thn (hu pins s2 σ H2 _ I2 q2) fun vu s3 ⟨u, H3, I3, pu, q3⟩ => ?_)
  rw [evalPart_none]
  refine wpAny_pure ?_
  have I4 : Inv X pins σ H3 { s3 with heap := s3.heap.push { cls := .type "slice", data := .fields #[vl, vu, .none] } } := I3.kept (t' := s3.toks) fun b ob q => Heap.get?_push_of_some _ q
  obtain ⟨T, id, hT, ht, hg⟩ := hr pins { s3 with heap := s3.heap.push { cls := .type "slice", data := .fields #[vl, vu, .none] } } σ H3 x v vl vu l u s3.heap.objs.size Q I4 r1 (Heap.IsSliceOf.new ..) pl pu q3
  show wpAny (model X.prog X.w) X.A (subscriptTail e (.Slice lo hi none p2) v (.ref s3.heap.objs.size)) (EP X pins σ Q) X.xe { s3 with heap := s3.heap.push { cls := .type "slice", data := .fields #[vl, vu, .none] } }
  exact tail_any (ops := [.ref s3.heap.objs.size, v]) ht hT hg (by with_unfolding_all rfl)
/-- the items of xs[lo:hi] -/
def cutV (xs : List V) (lo hi : Option Int) : List V := (xs.drop (HT.sIx xs.length 0 lo)).take (HT.sIx xs.length xs.length hi - HT.sIx xs.length 0 lo)
theorem cutV_length (xs : List V) (lo hi : Option Int) : (cutV xs lo hi).length ≤ xs.length := by
  unfold cutV
  rw [List.length_take, List.length_drop]
  omega
/-- t + u, t not empty: u empty gives t itself -/
def rCatT (K : PySem.W.Frag) : R2 := fun x y H Q => ∃ a b xs ys, x = .ref a ∧ y = .ref b ∧ SqT K H a xs ∧ SqT K H b ys ∧ xs ≠ [] ∧ xs.length + ys.length ≤ sizeLine ∧
  (ys = [] → Q (.ref a) H) ∧ (ys ≠ [] → ∀ p, H p = none → Q (.ref p) (upd H p (.tup (xs ++ ys))))
theorem Vals.nil_iff {xs : List V} {us : List Value} (r : Vals xs us) : us = [] ↔ xs = [] := by
  cases r with
  | nil => simp
  | cons _ _ => simp
theorem op_catT : OpR X (binaryOp .Add) (rCatT X.K) := by
  intro pins s σ H x y v u Q I rx ry h
  obtain ⟨a, b, xs, ys, rfl, rfl, ha, hb, hx, hz, q1, q2⟩ := h
  cases rx
  cases ry
  obtain ⟨its, r1, p1, _⟩ := I.tuple ha
  obtain ⟨its2, r2, p2, _⟩ := I.tuple hb
  refine HT.cat_tup p1 p2 (fun z => hx (r1.nil_iff.mp z)) (fun z => ⟨.ref a, H, I, rfl, q1 (r2.nil_iff.mp z)⟩) (fun z => ?_) (by rw [← r1.length, ← r2.length]; exact hz)
  refine ⟨.ref s.heap.objs.size, _, I.laid (t' := s.toks) (o := .tup (xs ++ ys)) (fun b ob q => Heap.get?_push_of_some _ q) (Nat.le_refl _) ?_, rfl, q2 (fun w => z (r2.nil_iff.mpr w)) _ (I.hok.fresh (Nat.le_refl _))⟩
  exact ⟨by rw [List.length_append]; exact hz, _, r1.append r2, IsTup.new _ _⟩
end
end L2
namespace L2
open PySem PySem.Spec PyProof.Rows
/-- the place that an index of any sign means -/
def ixN (n : Nat) (i : Int) : Option Nat := if 0 ≤ i then (if i < n then some i.toNat else none) else if -(n : Int) ≤ i then some (i + n).toNat else none
def atI {α : Type} (xs : List α) (i : Int) : Option α := (ixN xs.length i).bind fun j => xs[j]?
theorem ixN_seq {n : Nat} {i : Int} {j : Nat} (h : ixN n i = some j) : seqIndex? i n = some j ∧ j < n ∧ -(n : Int) ≤ i ∧ i < n := by
  unfold ixN at h
  by_cases h0 : 0 ≤ i
  · rw [if_pos h0] at h
    by_cases h1 : i < n
    · rw [if_pos h1] at h
      have e : i.toNat = j := Option.some.inj h
      exact ⟨by rw [seqIndex_of h0 h1, e], by omega, by omega, h1⟩
    · rw [if_neg h1] at h; cases h
  · rw [if_neg h0] at h
    by_cases h1 : -(n : Int) ≤ i
    · rw [if_pos h1] at h
      have e : (i + n).toNat = j := Option.some.inj h
      exact ⟨by rw [seqIndex_neg (by omega) h1, e], by omega, h1, by omega⟩
    · rw [if_neg h1] at h; cases h
theorem atI_get {α : Type} {xs : List α} {i : Int} {v : α} (h : atI xs i = some v) : ∃ j, seqIndex? i xs.length = some j ∧ xs[j]? = some v ∧ j < xs.length ∧ -(xs.length : Int) ≤ i ∧ i < xs.length := by
  unfold atI at h
  cases e : ixN xs.length i with
  | none => rw [e] at h; cases h
  | some j =>
    rw [e] at h
    obtain ⟨h1, h2, h3, h4⟩ := ixN_seq e
    exact ⟨j, h1, h, h2, h3, h4⟩
theorem atI_nat {α : Type} {xs : List α} {j : Nat} {v : α} (h : xs[j]? = some v) : atI xs (j : Int) = some v := by
  have hj : j < xs.length := (List.getElem?_eq_some_iff.mp h).1
  have e : ixN xs.length (j : Int) = some j := by
    unfold ixN
    rw [if_pos (by omega), if_pos (by omega)]; simp
  unfold atI; rw [e]; exact h
/-- what stands as an index of a plain subscript -/
def PlainIx (b : Expr) : Prop := ∀ o i, subscripted b false o i = operate [o, i] (getItem o i)
/-- a subscript by values -/
def IxR (X : Cx) (r : R2) : Prop :=
  ∀ (value slice : Expr) (pins : List (Addr × Obj)) (s : Shared) (σ : St) (H : Hp) (x y : V) (v u : Value) (Q : VK), Inv X pins σ H s → RelV x v → RelV y u → r x y H Q →
    subscripted slice false v u = operate [v, u] (getItem v u) → wpAny (model X.prog X.w) X.A (subscriptTail value slice v u) (EP X pins σ Q) X.xe s
/-- a call of a builtin's method by values: the receiver, the arguments -/
def MtR (X : Cx) (id : String) (r : V → List V → Hp → VK → Prop) : Prop :=
  ∀ (pins : List (Addr × Obj)) (s : Shared) (σ : St) (H : Hp) (x : V) (xs : List V) (v : Value) (us : List Value) (Q : VK), Inv X pins σ H s → RelV x v → Vals xs us → r x xs H Q →
    wpAny (model X.prog X.w) X.A (call (.builtin id) (v :: us)) (EP X pins σ Q) X.xe s
section
variable {X : Cx} {a b : Expr} {ta tb : TE} {pos : Pos}
theorem IxR.or {r r' : R2} (h : IxR X r) (h' : IxR X r') : IxR X (fun x y H Q => r x y H Q ∨ r' x y H Q) := by
  intro value slice pins s σ H x y v u Q I rx ry q hs
  rcases q with q | q
  · exact h value slice pins s σ H x y v u Q I rx ry q hs
  · exact h' value slice pins s σ H x y v u Q I rx ry q hs
theorem MtR.or {id : String} {r r' : V → List V → Hp → VK → Prop} (h : MtR X id r) (h' : MtR X id r') : MtR X id (fun x xs H Q => r x xs H Q ∨ r' x xs H Q) := by
  intro pins s σ H x xs v us Q I rx rs q
  rcases q with q | q
  · exact h pins s σ H x xs v us Q I rx rs q
  · exact h' pins s σ H x xs v us Q I rx rs q
/-- a[b] -/
theorem pe_ix {r : R2} (hr : IxR X r) (ha : PE X a ta) (hb : PE X b tb) (hs : PlainIx b) : PE X (.Subscript a b pos) (tOp r ta tb) := by
  intro pins s σ H Q I h
  exact Subscript_ (binT ha hb I h fun v u s2 x y H2 I2 rx ry q => hr a b pins s2 σ H2 x y v u Q I2 rx ry q (hs _ _))
def rIxL (K : PySem.W.Frag) : R2 := fun x y H Q => ∃ p xs i v, x = .ref p ∧ y = .int i ∧ SqL K H p xs ∧ atI xs i = some v ∧ Q v H
def rIxT (K : PySem.W.Frag) : R2 := fun x y H Q => ∃ p xs i v, x = .ref p ∧ y = .int i ∧ SqT K H p xs ∧ atI xs i = some v ∧ Q v H
def rIxS : R2 := fun x y H Q => ∃ z i c, x = .str z ∧ y = .int i ∧ z.length ≤ sizeLine ∧ atI z.cps.toList i = some c ∧ Q (.str ⟨#[c]⟩) H
theorem ix_list : IxR X (rIxL X.K) := by
  intro value slice pins s σ H x y v u Q I rx ry h hs
  obtain ⟨p, xs, i, z, rfl, rfl, hq, he, q⟩ := h
  cases rx
  obtain ⟨t, rfl⟩ := ry
  obtain ⟨its, r, pl, hz⟩ := I.list hq
  obtain ⟨j, h1, h2, h3, h4, h5⟩ := atI_get he
  obtain ⟨w, ew, rw'⟩ := r.get h2
  have hl := r.length
  have hn := line63
  have fin : EP X pins σ Q w s := ⟨z, H, I, rw', q⟩
  by_cases h0 : 0 ≤ i
  · have hj : i.toNat = j := by
      rw [seqIndex_of h0 h5] at h1
      exact Option.some.inj h1
    exact item_listR pl.isList h0 (by omega) (by rw [hj]; simpa using ew) fin hs
  · have hj : (i + (its.toArray.size : Int)).toNat = j := by
      rw [seqIndex_neg (by omega) h4] at h1
      rw [List.size_toArray, ← hl]
      exact Option.some.inj h1
    exact subscriptTail_builtinR (x := w) pl.isList.typeIs slot_list_getitem.lookup
      (wpAny_getItem_list_neg (Q := fun r s' => r = w ∧ EP X pins σ Q r s') pl.isList (by omega) (by rw [List.size_toArray] <;> omega) (by omega) (by rw [hj]; simpa using ew) ⟨rfl, fin⟩) hs
theorem ix_tup : IxR X (rIxT X.K) := by
  intro value slice pins s σ H x y v u Q I rx ry h hs
  obtain ⟨p, xs, i, z, rfl, rfl, hq, he, q⟩ := h
  cases rx
  obtain ⟨t, rfl⟩ := ry
  obtain ⟨its, r, pl, hz⟩ := I.tuple hq
  obtain ⟨j, h1, h2, h3, h4, h5⟩ := atI_get he
  obtain ⟨w, ew, rw'⟩ := r.get h2
  have hl := r.length
  have hn := line63
  have fin : EP X pins σ Q w s := ⟨z, H, I, rw', q⟩
  exact subscriptTail_builtinR (x := w) pl.typeIs slot_tuple_getitem.lookup
    (getItem_tuple (j := j) (Q := fun r s' => r = w ∧ EP X pins σ Q r s') pl (by omega) (by omega) (by rw [List.size_toArray, ← hl]; exact h1) (by simpa using ew) ⟨rfl, fin⟩) hs
theorem ix_str : IxR X rIxS := by
  intro value slice pins s σ H x y v u Q I rx ry h hs
  obtain ⟨z, i, c, rfl, rfl, hz, he, q⟩ := h
  obtain ⟨t, rfl⟩ := rx
  obtain ⟨t', rfl⟩ := ry
  obtain ⟨j, h1, h2, h3, h4, h5⟩ := atI_get he
  have hl : z.cps.toList.length = z.length := by simp [Str.length]
  rw [hl] at h1 h4 h5
  have hn := line63
  exact tail_any (typeIs_str s z t) slot_str_getitem.lookup (getItem_str (c := c) (by
    have e1 : decide (i < -(2 ^ 63 : Int)) = false := decide_eq_false (by omega)
    have e2 : decide (i ≥ 2 ^ 63) = false := decide_eq_false (by omega)
    rw [e1, e2, Bool.or_false]) (by rw [h1]; simpa using h2) ⟨.str ⟨#[c]⟩, H, I.tok _, ⟨_, rfl⟩, q⟩) hs
/-- list, tuple or str -/
def rIx (K : PySem.W.Frag) : R2 := fun x y H Q => rIxL K x y H Q ∨ rIxT K x y H Q ∨ rIxS x y H Q
theorem ix_seq : IxR X (rIx X.K) := ix_list.or (ix_tup.or ix_str)
/-- the list's object behind a store -/
theorem mapSeq_set (its : List Value) (n j : Nat) (u : Value) : Obj.mapSeq (·.setIfInBounds j u) { cls := .type "list", data := .seq its.toArray n } = { cls := .type "list", data := .seq (its.set j u).toArray n } := by
  simp [Obj.mapSeq]
theorem Inv.lst {pins : List (Addr × Obj)} {σ : St} {H : Hp} {s : Shared} {p : Addr} {xs : List V} (I : Inv X pins σ H s) (h : H p = some (.lst xs)) :
    ∃ (its : List Value) (n : Nat), Vals xs its ∧ s.heap.get? p = some { cls := .type "list", data := .seq its.toArray n } ∧ xs.length ≤ sizeLine := by
  obtain ⟨z, its, n, r, e⟩ := I.hok p _ h
  exact ⟨its, n, r, e, z⟩
/-- the list at p is written by an update of its object -/
theorem Inv.lstUpd {pins : List (Addr × Obj)} {σ : St} {H : Hp} {s : Shared} {p : Addr} {xs ys : List V} {its its' : List Value} {n n' : Nat} {f : Obj → Obj} (I : Inv X pins σ H s) (h : H p = some (.lst xs))
    (ho : s.heap.get? p = some { cls := .type "list", data := .seq its.toArray n }) (hf : f { cls := .type "list", data := .seq its.toArray n } = { cls := .type "list", data := .seq its'.toArray n' }) (r : Vals ys its') (hz : ys.length ≤ sizeLine) (t : Nat) :
    Inv X pins σ (upd H p (.lst ys)) { s with heap := s.heap.update p f, toks := t } := by
  have e : (s.heap.update p f).get? p = some { cls := .type "list", data := .seq its'.toArray n' } := by
    rw [Heap.get?_update_self f ho (by rw [hf] <;> rfl), hf]
  refine I.write (x := p) (e := p) (by rw [h]; trivial) (.inl rfl) (fun b u hb q => (Heap.get?_update_other _ _ (Ne.symm hb)).trans q) ⟨_, e⟩ ?_
  exact ⟨hz, its', n', r, e⟩
def rSetL : V → V → V → Hp → (Hp → Prop) → Prop := fun o i v H Q => ∃ p xs k j, o = .ref p ∧ i = .int k ∧ H p = some (.lst xs) ∧ ixN xs.length k = some j ∧ Q (upd H p (.lst (xs.set j v)))
theorem set_list : PSet X rSetL := by
  intro pins s σ H o i v ov iv u Q I ro ri rv h
  obtain ⟨p, xs, k, j, rfl, rfl, hp, hj, q⟩ := h
  cases ro
  obtain ⟨t, rfl⟩ := ri
  obtain ⟨its, n, r, ho, hz⟩ := I.lst hp
  obtain ⟨h1, h2, h3, h4⟩ := ixN_seq hj
  have hl := r.length
  have hn := line63
  have I' : Inv X pins σ (upd H p (.lst (xs.set j v))) { s with heap := s.heap.update p (Obj.mapSeq (·.setIfInBounds j u)) } :=
    I.lstUpd hp ho (mapSeq_set its n j u) (r.set rv j) (by rw [List.length_set]; exact hz) s.toks
  by_cases h0 : 0 ≤ k
  · have hk : k.toNat = j := by
      rw [seqIndex_of h0 h4] at h1
      exact Option.some.inj h1
    exact PySem.W.ki_setAt ho h0 (by omega) (by rw [List.size_toArray, ← hl]; exact h4) (by rw [hk]; exact ⟨_, I', q⟩)
  · have hk : (k + (its.toArray.size : Int)).toNat = j := by
      rw [seqIndex_neg (by omega) h3] at h1
      rw [List.size_toArray, ← hl]
      exact Option.some.inj h1
    exact PySem.W.ki_setBack ho (by omega) (by rw [List.size_toArray, ← hl]; exact h3) (by omega) (by rw [hk]; exact ⟨_, I', q⟩)
theorem slice_bounds (lo hi : Option Int) (n : Nat) : (sliceBounds lo hi none n).1 = ((HT.sIx n 0 lo : Nat) : Int) ∧ (sliceBounds lo hi none n).2.1 = ((HT.sIx n n hi : Nat) : Int) ∧ (sliceBounds lo hi none n).2.2 = 1 := by
  refine ⟨?_, ?_, rfl⟩
  · cases lo with
    | none => simp [sliceBounds, HT.sIx]
    | some i =>
      simp only [sliceBounds, HT.sIx, Option.getD_none, show (1 : Int) > 0 by decide, if_true]
      by_cases h : i < 0
      · simp only [h, if_true] <;> omega
      · simp only [h, if_false] <;> omega
  · cases hi with
    | none => simp [sliceBounds, HT.sIx]
    | some i =>
      simp only [sliceBounds, HT.sIx, Option.getD_none, show (1 : Int) > 0 by decide, if_true]
      by_cases h : i < 0
      · simp only [h, if_true] <;> omega
      · simp only [h, if_false] <;> omega
theorem slicePick_cut (its : List Value) (lo hi : Option Int) : slicePick its.toArray lo hi none = ((its.drop (HT.sIx its.length 0 lo)).take (HT.sIx its.length its.length hi - HT.sIx its.length 0 lo)).toArray := by
  obtain ⟨h1, h2, h3⟩ := slice_bounds lo hi its.toArray.size
  unfold slicePick
  rw [h1, h2, h3]
  simp only [sliceRange_one, pick_run, List.size_toArray] <;> rfl
/-- xs[lo:hi] of a list: a new list -/
def rSlL (K : PySem.W.Frag) : V → Option Int → Option Int → Hp → VK → Prop := fun x lo hi H Q => ∃ a xs, x = .ref a ∧ SqL K H a xs ∧ ∀ p, H p = none → Q (.ref p) (upd H p (.lst (cutV xs lo hi)))
theorem sl_list : SlR X (rSlL X.K) := by
  intro pins s σ H x v vl vu lo hi sl Q I rx hs pl pu h
  obtain ⟨a, xs, rfl, hx, q⟩ := h
  cases rx
  obtain ⟨its, r, ht, hz⟩ := I.list hx
  have hlen := r.length
  refine ⟨"list", _, slot_list_getitem.lookup, ht.isList.typeIs, ?_⟩
  refine wpAny_getItem_list_slice ht.isList hs pl pu .none (by simp) ?_ (by rw [List.size_toArray] <;> omega)
  rw [slicePick_cut, ← hlen]
  refine ⟨.ref s.heap.objs.size, _, I.laid (t' := s.toks) (o := .lst (cutV xs lo hi)) (fun b ob q => Heap.get?_push_of_some _ q) (Nat.le_refl _) ?_, rfl, q _ (I.hok.fresh (Nat.le_refl _))⟩
  exact ⟨Nat.le_trans (cutV_length xs lo hi) hz, _, 0, (r.drop (HT.sIx xs.length 0 lo)).take (HT.sIx xs.length xs.length hi - HT.sIx xs.length 0 lo), Heap.get?_push_size _ rfl⟩
theorem CallR.or {f : Value} {r r' : List V → Hp → VK → Prop} (h : CallR X f r) (h' : CallR X f r') : CallR X f (fun xs H Q => r xs H Q ∨ r' xs H Q) := by
  intro pins s σ H xs us Q I rs q
  rcases q with q | q
  · exact h pins s σ H xs us Q I rs q
  · exact h' pins s σ H xs us Q I rs q
theorem call_tuple_of : CallR X (.type "tuple") (fun xs H Q => ∃ p ys, xs = [.ref p] ∧ ((SqL X.K H p ys ∧ ∀ l, H l = none → Q (.ref l) (upd H l (.tup ys))) ∨ (SqT X.K H p ys ∧ Q (.ref p) H))) := by
  intro pins s σ H xs us Q I r h
  obtain ⟨p, ys, rfl, h⟩ := h
  obtain ⟨u, rfl, rx⟩ := vals1 r
  cases rx
  rcases h with ⟨hq, q⟩ | ⟨hq, q⟩
  · obtain ⟨its, r', pl, hz⟩ := I.list hq
    have hlen := r'.length
    refine call_tuple_list pl.isList (fun h' kp => ?_) (by simp only [List.size_toArray] <;> omega)
    have I1 : Inv X pins σ H { s with heap := h' } := I.kept (t' := s.toks) kp
    have I2 : Inv X pins σ (upd H h'.objs.size (.tup ys)) { s with heap := h'.push { cls := .type "tuple", data := .seq its.toArray } } :=
      I1.laid (t' := s.toks) (fun b o e => Heap.get?_push_of_some _ e) (Nat.le_refl _) (show ObjOk X.prog X.w _ _ _ (.tup ys) from ⟨hz, its, r', IsTup.new _ _⟩)
    exact ⟨.ref h'.objs.size, _, I2, rfl, q _ (I1.hok.fresh (Nat.le_refl _))⟩
  · obtain ⟨its, r', pl, hz⟩ := I.tuple hq
    exact call_tuple_same pl ⟨.ref p, H, I, rfl, q⟩
/-- the value is of that builtin type -/
def tyV (K : PySem.W.Frag) (T : String) (x : V) (H : Hp) : Prop := match x with
  | .str _ => T = "str"
  | .int _ => T = "int"
  | .ref p => (T = "list" ∧ ∃ xs, SqL K H p xs) ∨ (T = "tuple" ∧ ∃ o, K.lookup p = some o ∧ o.cls = .type "tuple" ∧ o.dict = none) ∨
      (T = "dict" ∧ ((∃ kvs, H p = some (.dK kvs)) ∨ ∃ kvs, H p = some (.dT kvs))) ∨ (T = "set" ∧ ∃ S n, H p = some (.set S n))
  | _ => False
theorem tyV_is {pins : List (Addr × Obj)} {σ : St} {H : Hp} {s : Shared} {T : String} {x : V} {v : Value} (I : Inv X pins σ H s) (r : RelV x v) (ty : tyV X.K T x H) :
    s.TypeIs v T ∧ ∀ a, v = .ref a → ∃ ob, s.heap.get? a = some ob ∧ ob.dict = none := by
  cases x with
  | str z =>
    obtain ⟨t, rfl⟩ := r
    cases (show T = "str" from ty)
    exact ⟨typeIs_str s z t, fun _ e => nomatch e⟩
  | int i =>
    obtain ⟨t, rfl⟩ := r
    cases (show T = "int" from ty)
    exact ⟨typeIs_int s i t, fun _ e => nomatch e⟩
  | ref p =>
    cases r
    rcases ty with ⟨rfl, xs, hq⟩ | ⟨rfl, o, hk, hc, hd⟩ | ⟨rfl, hk⟩ | ⟨rfl, S, n, hk⟩
    · obtain ⟨its, _, pl, _⟩ := I.list hq
      refine ⟨pl.isList.typeIs, fun a e => ?_⟩
      cases e
      obtain ⟨o, n, e, c, hd, _⟩ := pl
      exact ⟨o, e, hd⟩
    · refine ⟨⟨o, I.kIn p o hk, hc⟩, fun a e => ?_⟩
      cases e
      exact ⟨o, I.kIn _ o hk, hd⟩
    · have z : ∃ o, s.heap.get? p = some o ∧ o.ExactDict := by
        rcases hk with ⟨kvs, hk⟩ | ⟨kvs, hk⟩
        · obtain ⟨_, _, _, _, o, _, _, e, ex, _⟩ := I.hok p _ hk
          exact ⟨o, e, ex⟩
        · obtain ⟨_, _, _, _, o, _, _, e, ex, _⟩ := I.hok p _ hk
          exact ⟨o, e, ex⟩
      obtain ⟨o, e, ex⟩ := z
      refine ⟨⟨o, e, ex.1⟩, fun a e2 => ?_⟩
      cases e2
      exact ⟨o, e, ex.2.1⟩
    · obtain ⟨o, _, _, _, e, ex, _⟩ := I.hok p _ hk
      refine ⟨⟨o, e, ex.1⟩, fun a e2 => ?_⟩
      cases e2
      exact ⟨o, e, ex.2.1⟩
  | _ => exact False.elim ty
def tBM0 (K : PySem.W.Frag) (T : String) (r : V → List V → Hp → VK → Prop) (to : TE) : TE := fun σ H Q => to σ H fun x H1 => tyV K T x H1 ∧ r x [] H1 Q
def tBM (K : PySem.W.Frag) (T : String) (r : V → List V → Hp → VK → Prop) (to : TE) (t : TA) : TE := fun σ H Q => to σ H fun x H1 => tyV K T x H1 ∧ t σ H1 fun xs H2 => r x xs H2 Q
variable {o e : Expr} {es : List Expr} {to : TE} {t : TA} {name : Str} {apos cpos : Pos} {T id : String} {r : V → List V → Hp → VK → Prop}
theorem pe_bm0 (pa : PlainAttrs T) (slot : Slot T name id) (hty : typeOf (.builtin id) = pure (.type "method_descriptor")) (hm : MtR X id r) (ho : PE X o to)
    (hbase : attributeBase o name X.env (eval o X.env) = eval o X.env := by rfl) (hline : (apos.endLine == cpos.line) = true := by rfl) : PE X (.Call (.Attribute o name apos) [] [] cpos) (tBM0 X.K T r to) := by
  intro pins s σ H Q I h
  refine wpAny_Call_method0_late hbase hline (thn (ho pins s σ H _ I h) fun v s1 ⟨x, H1, I1, r1, ty, q1⟩ => ?_)
  obtain ⟨h1, h2⟩ := tyV_is I1 r1 ty
  exact ⟨T, id, pa, slot, hty, h1, h2, Calls.callWith_builtin rfl (PySem.evalArgs_none (hm pins s1 σ H1 x [] v [] Q I1 r1 .nil q1))⟩
theorem pe_bm (pa : PlainAttrs T) (slot : Slot T name id) (hty : typeOf (.builtin id) = pure (.type "method_descriptor")) (hm : MtR X id r) (ho : PE X o to) (ha : PA X (e :: es) t)
    (hbase : attributeBase o name X.env (eval o X.env) = eval o X.env := by rfl)
    (hfew : ((backTo cpos (starEach (e :: es) X.env)).all (fun x => !x.1) && (backToKw cpos (keywordEach [] X.env)).all (fun x => x.1.isSome)
      && decide ((e :: es).length + ([] : List Keyword).length + (if ([] : List Keyword).isEmpty then 0 else 1) < 30)) = true := by rfl)
    (hline : (apos.endLine == cpos.line) = true := by rfl) (hs : starEach (e :: es) X.env = (false, eval e X.env) :: starEach es X.env := by rfl) (hplain : (backTo cpos (starEach es X.env)).any (·.1) = false := by rfl) :
    PE X (.Call (.Attribute o name apos) (e :: es) [] cpos) (tBM X.K T r to t) := by
  intro pins s σ H Q I h
  refine wpAny_Call_method_late hbase hfew hline rfl (thn (ho pins s σ H _ I h) fun v s1 ⟨x, H1, I1, r1, ty, q1⟩ => ?_)
  obtain ⟨h1, h2⟩ := tyV_is I1 r1 ty
  refine ⟨T, id, pa, slot, hty, h1, h2, ?_⟩
  have hA := ha cpos pins s1 σ H1 _ I1 q1
  rw [hs] at hA ⊢
  refine Calls.callWith_builtin (by show (false || (backTo cpos (starEach es X.env)).any (·.1)) = false; rw [hplain] <;> rfl) (Calls.evalArgs_plain ?_)
  exact thn hA fun us s2 ⟨vs, H2, I2, r2, q2⟩ => hm pins s2 σ H2 x vs v us Q I2 r1 r2 q2
end
end L2
namespace L2
open PySem PySem.Spec PyProof.Rows
def MtM (X : Cx) (id : String) (r : V → List V → Hp → VK → Prop) : Prop :=
  ∀ (pins : List (Addr × Obj)) (s : Shared) (σ : St) (H : Hp) (x : V) (xs : List V) (v : Value) (us : List Value) (Q : VK), Inv X pins σ H s → RelV x v → Vals xs us → r x xs H Q →
    wpAny (model X.prog X.w) X.A (call (.builtin id) (v :: us)) (EP X pins σ Q) X.xe s
theorem Vals.one : ∀ {x : V} {us : List Value}, Vals [x] us → ∃ u, us = [u] ∧ RelV x u
  | _, _, .cons r .nil => ⟨_, rfl, r⟩
theorem Vals.zero : ∀ {us : List Value}, Vals [] us → us = []
  | _, .nil => rfl
theorem Vals.dropLast {xs : List V} {us : List Value} (h : Vals xs us) : Vals xs.dropLast us.dropLast := by
  induction h with
  | nil => exact .nil
  | cons r t ih =>
    cases t with
    | nil => exact .nil
    | cons q t' => exact .cons r ih
theorem Vals.eraseIdx : ∀ {xs : List V} {us : List Value} (i : Nat), Vals xs us → Vals (xs.eraseIdx i) (us.eraseIdx i)
  | _, _, _, .nil => .nil
  | _, _, 0, .cons _ t => t
  | _, _, i + 1, .cons r t => .cons r (Vals.eraseIdx i t)
theorem Vals.reverse {xs : List V} {us : List Value} (h : Vals xs us) : Vals xs.reverse us.reverse := by
  induction h with
  | nil => exact .nil
  | cons r t ih => rw [List.reverse_cons, List.reverse_cons]; exact Vals.append ih (.cons r .nil)
theorem erase_last {α : Type} (l : List α) : l.eraseIdx (l.length - 1) = l.dropLast := by
  induction l with
  | nil => rfl
  | cons a r ih =>
    cases r with
    | nil => rfl
    | cons b r =>
      have e : (a :: b :: r).length - 1 = ((b :: r).length - 1) + 1 := by
        have h1 : (a :: b :: r).length = r.length + 2 := rfl
        have h2 : (b :: r).length = r.length + 1 := rfl
        omega
      rw [e, List.eraseIdx_cons_succ, ih]
      all_goals rfl
section
variable {X : Cx} {pins : List (Addr × Obj)} {σ : St} {H : Hp} {s : Shared} {l b : Addr} {xs ys zs : List V}
theorem Inv.lset {its its' : List Value} {n : Nat} {f : Array Value → Array Value} {t' : Nat} (I : Inv X pins σ H s) (hH : H l = some (.lst xs))
    (e : s.heap.get? l = some { cls := .type "list", data := .seq its.toArray n }) (hf : f its.toArray = its'.toArray) (hv : Vals ys its') (hz : ys.length ≤ sizeLine) :
    Inv X pins σ (upd H l (.lst ys)) { s with heap := s.heap.update l (Obj.mapSeq f), toks := t' } := by
  have q := PySem.IsL.update e f
  rw [hf] at q
  refine I.write (x := l) (e := l) (by rw [hH]; exact trivial) (.inl rfl) (fun b' u hb hu => (Heap.get?_update_other s.heap (Obj.mapSeq f) (Ne.symm hb)).trans hu) ⟨_, q⟩ ?_
  exact ⟨hz, its', _, hv, q⟩
theorem Inv.lnew {its : List Value} {t' : Nat} (I : Inv X pins σ H s) (hv : Vals ys its) (hz : ys.length ≤ sizeLine) :
    Inv X pins σ (upd H s.heap.objs.size (.lst ys)) { s with heap := s.heap.push { cls := .type "list", data := .seq its.toArray }, toks := t' } :=
  I.laid (fun _ _ q => Heap.get?_push_of_some _ q) (Nat.le_refl _) ⟨hz, its, 0, hv, Heap.get?_push_size _ rfl⟩
theorem Inv.fresh (I : Inv X pins σ H s) : H s.heap.objs.size = none := I.hok.fresh (Nat.le_refl _)
theorem Inv.lstM (I : Inv X pins σ H s) (hH : H l = some (.lst xs)) : xs.length ≤ sizeLine ∧ ∃ (its : List Value) (n : Nat), Vals xs its ∧ xs.length = its.length ∧ s.heap.get? l = some { cls := .type "list", data := .seq its.toArray n } := by
  obtain ⟨z, its, n, r, e⟩ := I.hok l _ hH
  exact ⟨z, its, n, r, r.length, e⟩
theorem notLongL {n : Nat} (h : n ≤ sizeLine) : Builtin.List.listTooLong n = false := by
  unfold Builtin.List.listTooLong
  exact decide_eq_false (by omega)
end
section
variable {X : Cx}
def rAppend : V → List V → Hp → VK → Prop := fun x vs H Q => ∃ l xs y, x = .ref l ∧ vs = [y] ∧ H l = some (.lst xs) ∧ xs.length < sizeLine ∧ Q .non (upd H l (.lst (xs ++ [y])))
theorem mt_append : MtM X "list.append" rAppend := by
  intro pins s σ H x vs v us Q I rx rv h
  obtain ⟨l, xs, y, rfl, rfl, hH, hz, q⟩ := h
  cases rx
  obtain ⟨u, rfl, ru⟩ := rv.one
  obtain ⟨z, its, n, r, hl, e⟩ := I.lstM hH
  refine call_meets F.slot_list_append ⟨_, e, rfl⟩ F.entry_list_append (F.args_list_append_2 _ _) (PySem.list_append l its.toArray n u (by rw [List.size_toArray]; omega)) ⟨e, ?_⟩
  refine ⟨.non, _, I.lset (its' := its ++ [u]) hH e (by simp) (r.append (.cons ru .nil)) ?_, rfl, q⟩
  rw [List.length_append, List.length_singleton]
  omega
def rExtend : V → List V → Hp → VK → Prop := fun x vs H Q => ∃ l b xs zs, x = .ref l ∧ vs = [.ref b] ∧ H l = some (.lst xs) ∧ H b = some (.lst zs) ∧ xs.length + zs.length ≤ sizeLine ∧ Q .non (upd H l (.lst (xs ++ zs)))
theorem mt_extend : MtM X "list.extend" rExtend := by
  intro pins s σ H x vs v us Q I rx rv h
  obtain ⟨l, b, xs, zs, rfl, rfl, hH, hB, hz, q⟩ := h
  cases rx
  obtain ⟨u, rfl, ru⟩ := rv.one
  cases ru
  obtain ⟨z, its, n, r, hl, e⟩ := I.lstM hH
  obtain ⟨z2, its2, n2, r2, hl2, e2⟩ := I.lstM hB
  have hsz : its.toArray.size + its2.toArray.size ≤ sizeLine := by rw [List.size_toArray, List.size_toArray]; omega
  have hlong : ¬ (!its.toArray.isEmpty && Builtin.List.listTooLong (its.toArray.size + its2.toArray.size)) = true := by
    rw [notLongL hsz, Bool.and_false]
    exact Bool.false_ne_true
  refine call_meets F.slot_list_extend ⟨_, e, rfl⟩ F.entry_list_extend (F.args_list_extend_2 _ _)
    (AutoSeq1.list_extend_list_list_0 l its.toArray n b its2.toArray n2 hlong (by rw [List.size_toArray]; omega) (by omega)) ⟨e, e2, ?_⟩
  refine ⟨.non, _, I.lset (its' := its ++ its2) hH e (by simp) (r.append r2) ?_, rfl, q⟩
  rw [List.length_append]
  omega
def rPop : V → List V → Hp → VK → Prop := fun x vs H Q => ∃ l xs y, x = .ref l ∧ vs = [] ∧ H l = some (.lst xs) ∧ xs[xs.length - 1]? = some y ∧ Q y (upd H l (.lst xs.dropLast))
theorem mt_pop : MtM X "list.pop" rPop := by
  intro pins s σ H x vs v us Q I rx rv h
  obtain ⟨l, xs, y, rfl, rfl, hH, hy, q⟩ := h
  cases rx
  have hus := rv.zero
  subst hus
  obtain ⟨z, its, n, r, hl, e⟩ := I.lstM hH
  obtain ⟨u, hu, ru⟩ := r.get hy
  have hy' : its.toArray[its.toArray.size - 1]? = some u := by
    show its.toArray[its.length - 1]? = some u
    rw [← Array.getElem?_toList, ← hl]
    exact hu
  refine call_meets F.slot_list_pop ⟨_, e, rfl⟩ F.entry_list_pop (F.args_list_pop_1 _) (MeetsSeq.list_pop_last l its.toArray n u hy' (by rw [List.size_toArray]; omega)) ⟨e, ?_⟩
  refine ⟨y, _, I.lset (its' := its.dropLast) hH e ?_ r.dropLast ?_, ru, q⟩
  · show its.toArray.eraseIdxIfInBounds (its.toArray.size - 1) = its.dropLast.toArray
    rw [List.size_toArray, List.eraseIdxIfInBounds_toArray, erase_last]
  · rw [List.length_dropLast]
    omega
def rCat : R2 := fun x y H Q => ∃ l b xs zs, x = .ref l ∧ y = .ref b ∧ H l = some (.lst xs) ∧ H b = some (.lst zs) ∧ xs.length + zs.length ≤ sizeLine ∧ ∀ p, H p = none → Q (.ref p) (upd H p (.lst (xs ++ zs)))
theorem op_cat : OpR X (binaryOp .Add) rCat := by
  intro pins s σ H x y v u Q I rx ry h
  obtain ⟨l, b, xs, zs, rfl, rfl, hH, hB, hz, q⟩ := h
  cases rx
  cases ry
  obtain ⟨z, its, n, r, hl, e⟩ := I.lstM hH
  obtain ⟨z2, its2, n2, r2, hl2, e2⟩ := I.lstM hB
  refine PySem.P.add_list e e2 ?_ (by rw [List.size_toArray, List.size_toArray]; omega)
  have ea : its.toArray ++ its2.toArray = (its ++ its2).toArray := by simp
  rw [ea]
  exact ⟨.ref _, _, I.lnew (t' := s.toks) (r.append r2) (by rw [List.length_append]; omega), rfl, q _ I.fresh⟩
end
section
variable {prog : Program} {w : World} {A : Around} {E : Value → Shared → Prop} {s : Shared}
end
section
variable {X : Cx}
end
end L2
namespace L2
open PySem PySem.Spec PyProof.Rows
section
variable {κ : Type} [DecidableEq κ]
def valV (kvs : List (κ × V)) (k : κ) : Option V := (kvs.find? fun kv => decide (kv.1 = k)).map (·.2)
/-- in its place, or at the end -/
def putK (kvs : List (κ × V)) (k : κ) (v : V) : List (κ × V) :=
  if (kvs.any fun kv => decide (kv.1 = k)) = true then kvs.map (fun kv => if kv.1 = k then (kv.1, v) else kv) else kvs ++ [(k, v)]
def dropK (kvs : List (κ × V)) (k : κ) : List (κ × V) := kvs.filter fun kv => decide (kv.1 ≠ k)
theorem valV_pos {p : κ × V} {r : List (κ × V)} {k : κ} (e : p.1 = k) : valV (p :: r) k = some p.2 := by simp [valV, List.find?_cons, e]
theorem valV_neg {p : κ × V} {r : List (κ × V)} {k : κ} (e : ¬ p.1 = k) : valV (p :: r) k = valV r k := by simp [valV, List.find?_cons, e]
theorem valV_any (k : κ) : ∀ kvs : List (κ × V), (kvs.any fun kv => decide (kv.1 = k)) = (valV kvs k).isSome
  | [] => rfl
  | p :: r => by
    rw [List.any_cons]
    by_cases e : p.1 = k
    · simp only [valV_pos e, decide_eq_true e, Bool.true_or, Option.isSome_some]
    · rw [valV_neg e, decide_eq_false e, Bool.false_or]; exact valV_any k r
theorem RelO.isSome_eq {o : Option V} {u : Option Value} (r : RelO o u) : o.isSome = u.isSome := by
  cases o with
  | none => cases u with
    | none => rfl
    | some _ => exact (show False from r).elim
  | some _ => cases u with
    | none => exact (show False from r).elim
    | some _ => rfl
theorem RelO.getD {o : Option V} {u : Option Value} {d : V} {d' : Value} (r : RelO o u) (rd : RelV d d') : RelV (o.getD d) (u.getD d') := by
  cases o with
  | none => cases u with
    | none => exact rd
    | some _ => exact (show False from r).elim
  | some _ => cases u with
    | none => exact (show False from r).elim
    | some _ => exact r
/-- raw tables of the same keys -/
theorem KV.val {kvs : List (κ × V)} {vs : List (κ × Value)} (r : KV kvs vs) (k : κ) : RelO (valV kvs k) (valueAt vs k) := by
  unfold KV at r
  induction r with
  | nil => exact True.intro
  | @cons p q ps qs h t ih =>
    obtain ⟨h1, h2⟩ := h
    by_cases e : p.1 = k
    · have e' : q.1 = k := h1.symm.trans e
      have b : valueAt (q :: qs) k = some q.2 := by simp [valueAt, List.find?_cons, e']
      rw [valV_pos e, b]; exact h2
    · have e' : ¬ q.1 = k := fun z => e (h1.trans z)
      have b : valueAt (q :: qs) k = valueAt qs k := by simp [valueAt, List.find?_cons, e']
      rw [valV_neg e, b]; exact ih
theorem KV.any {kvs : List (κ × V)} {vs : List (κ × Value)} (r : KV kvs vs) (k : κ) : (kvs.any fun kv => decide (kv.1 = k)) = vs.any fun kv => decide (kv.1 = k) := by
  unfold KV at r
  induction r with
  | nil => rfl
  | cons h t ih => rw [List.any_cons, List.any_cons, ih, h.1]
theorem KV.repl {kvs : List (κ × V)} {vs : List (κ × Value)} (r : KV kvs vs) (k : κ) {y : V} {u : Value} (ry : RelV y u) :
    KV (kvs.map fun kv => if kv.1 = k then (kv.1, y) else kv) (vs.map fun kv => if kv.1 = k then (kv.1, u) else kv) := by
  unfold KV at r ⊢
  induction r with
  | nil => exact .nil
  | @cons p q ps qs h t ih =>
    rw [List.map_cons, List.map_cons]
    refine .cons ?_ ih
    obtain ⟨h1, h2⟩ := h
    by_cases e : p.1 = k
    · rw [if_pos e, if_pos (h1.symm.trans e)]; exact ⟨h1, ry⟩
    · rw [if_neg e, if_neg (fun z => e (h1.trans z))]; exact ⟨h1, h2⟩
theorem KV.put {kvs : List (κ × V)} {vs : List (κ × Value)} (r : KV kvs vs) (k : κ) {y : V} {u : Value} (ry : RelV y u) : KV (putK kvs k y) (stored vs k u) := by
  unfold putK stored
  rw [r.any k]
  by_cases e : (vs.any fun kv => decide (kv.1 = k)) = true
  · rw [if_pos e, if_pos e]; exact r.repl k ry
  · rw [if_neg e, if_neg e]; exact Paired.snoc r ⟨rfl, ry⟩
theorem KV.drop {kvs : List (κ × V)} {vs : List (κ × Value)} (r : KV kvs vs) (k : κ) : KV (dropK kvs k) (without vs k) := by
  unfold KV at r ⊢
  unfold dropK without
  induction r with
  | nil => exact .nil
  | @cons p q ps qs h t ih =>
    obtain ⟨h1, h2⟩ := h
    rw [List.filter_cons, List.filter_cons]
    by_cases e : p.1 = k
    · have a : ¬ decide (p.1 ≠ k) = true := by simp [e]
      have b : ¬ decide (q.1 ≠ k) = true := by simp [h1.symm.trans e]
      rw [if_neg a, if_neg b]; exact ih
    · have e' : ¬ q.1 = k := fun z => e (h1.trans z)
      have a : decide (p.1 ≠ k) = true := by simp [e]
      have b : decide (q.1 ≠ k) = true := by simp [e']
      rw [if_pos a, if_pos b]; exact .cons ⟨h1, h2⟩ ih
theorem KV.keys {kvs : List (κ × V)} {vs : List (κ × Value)} (r : KV kvs vs) : kvs.map (·.1) = vs.map (·.1) := by
  unfold KV at r
  induction r with
  | nil => rfl
  | cons h t ih => rw [List.map_cons, List.map_cons, ih, h.1]
theorem KV.length {kvs : List (κ × V)} {vs : List (κ × Value)} (r : KV kvs vs) : kvs.length = vs.length := Paired.length r
end
/-- raw entries of a dict with tuple keys -/
abbrev KT (H : Hp) : List (List Key × V) → List (List Key × Addr × Value) → Prop := Paired fun p q => p.1 = q.1 ∧ H q.2.1 = some (.tup (p.1.map kV)) ∧ RelV p.2 q.2.2
theorem KT.val {H : Hp} {kvs : List (List Key × V)} {xs : List (List Key × Addr × Value)} (r : KT H kvs xs) (k : List Key) : RelO (valV kvs k) ((atKey xs k).map (·.2)) := by
  induction r with
  | nil => exact True.intro
  | @cons p q ps qs h t ih =>
    obtain ⟨h1, _, h2⟩ := h
    by_cases e : p.1 = k
    · have e' : q.1 = k := h1.symm.trans e
      have b : atKey (q :: qs) k = some q.2 := by simp [atKey, List.find?_cons, e']
      rw [valV_pos e, b]; exact h2
    · have e' : ¬ q.1 = k := fun z => e (h1.trans z)
      have b : atKey (q :: qs) k = atKey qs k := by simp [atKey, List.find?_cons, e']
      rw [valV_neg e, b]; exact ih
theorem KT.repl {H : Hp} {kvs : List (List Key × V)} {xs : List (List Key × Addr × Value)} (r : KT H kvs xs) (k : List Key) {y : V} {u : Value} (ry : RelV y u) :
    KT H (kvs.map fun kv => if kv.1 = k then (kv.1, y) else kv) (xs.map (putAt k u)) := by
  induction r with
  | nil => exact .nil
  | @cons p q ps qs h t ih =>
    rw [List.map_cons, List.map_cons]
    refine .cons ?_ ih
    obtain ⟨h1, h2, h3⟩ := h
    unfold putAt
    by_cases e : p.1 = k
    · rw [if_pos e, if_pos (h1.symm.trans e)]; exact ⟨h1, h2, ry⟩
    · rw [if_neg e, if_neg (fun z => e (h1.trans z))]; exact ⟨h1, h2, h3⟩
theorem KT.put {H : Hp} {kvs : List (List Key × V)} {xs : List (List Key × Addr × Value)} (r : KT H kvs xs) (k : List Key) {b : Addr} {y : V} {u : Value} (hb : H b = some (.tup (k.map kV))) (ry : RelV y u) :
    KT H (putK kvs k y) (storedH xs k b u) := by
  have e : (kvs.any fun kv => decide (kv.1 = k)) = (atKey xs k).isSome := by
    rw [valV_any, (r.val k).isSome_eq, Option.isSome_map]
  unfold putK storedH
  rw [e]
  by_cases q : (atKey xs k).isSome = true
  · rw [if_pos q, if_pos q]; exact r.repl k ry
  · rw [if_neg q, if_neg q]; exact Paired.snoc r ⟨rfl, hb, ry⟩
theorem KT.keeps {H H' : Hp} {kvs : List (List Key × V)} {xs : List (List Key × Addr × Value)} (r : KT H kvs xs) (ht : ∀ b ys, H b = some (.tup ys) → H' b = some (.tup ys)) : KT H' kvs xs :=
  Paired.mapP r fun _ _ z => ⟨z.1, ht _ _ z.2.1, z.2.2⟩
section
variable {P : Program} {w : World} {H : Hp} {h : Heap} {a : Addr}
end
/-- what the dict at a holds at the key y -/
def DGet (H : Hp) (a : Addr) (y : V) (r : Option V) : Prop :=
  (∃ kvs k, Rd H a (.dK kvs) ∧ y = kV k ∧ r = valV kvs k) ∨ ∃ kvs k b, Rd H a (.dT kvs) ∧ y = .ref b ∧ H b = some (.tup (k.map kV)) ∧ r = valV kvs k
/-- the heap behind a[y] = v -/
def DPut (H : Hp) (a : Addr) (y v : V) (H' : Hp) : Prop :=
  (∃ kvs k, H a = some (.dK kvs) ∧ y = kV k ∧ kvs.length < sizeLine ∧ H' = upd H a (.dK (putK kvs k v))) ∨
  ∃ kvs k b, H a = some (.dT kvs) ∧ y = .ref b ∧ H b = some (.tup (k.map kV)) ∧ kvs.length < sizeLine ∧ H' = upd H a (.dT (putK kvs k v))
theorem DGet.k {H : Hp} {a : Addr} {kvs : List (Key × V)} {k : Key} (e : H a = some (.dK kvs)) : DGet H a (kV k) (valV kvs k) := .inl ⟨kvs, k, .inl e, rfl, rfl⟩
theorem DGet.t {H : Hp} {a b : Addr} {kvs : List (List Key × V)} {k : List Key} (e : H a = some (.dT kvs)) (eb : H b = some (.tup (k.map kV))) : DGet H a (.ref b) (valV kvs k) := .inr ⟨kvs, k, b, .inl e, rfl, eb, rfl⟩
theorem DPut.k {H : Hp} {a : Addr} {kvs : List (Key × V)} {k : Key} {v : V} (e : H a = some (.dK kvs)) (hl : kvs.length < sizeLine) : DPut H a (kV k) v (upd H a (.dK (putK kvs k v))) := .inl ⟨kvs, k, e, rfl, hl, rfl⟩
theorem DPut.t {H : Hp} {a b : Addr} {kvs : List (List Key × V)} {k : List Key} {v : V} (e : H a = some (.dT kvs)) (eb : H b = some (.tup (k.map kV))) (hl : kvs.length < sizeLine) :
    DPut H a (.ref b) v (upd H a (.dT (putK kvs k v))) := .inr ⟨kvs, k, b, e, rfl, eb, hl, rfl⟩
section
variable {X : Cx} {pins : List (Addr × Obj)} {σ : St} {H : Hp} {s : Shared} {a : Addr} {y v : V} {u r : Value} {o : Option V} {A : Around} {E : Value → Shared → Prop}
end
section
variable {X : Cx} {pins : List (Addr × Obj)} {σ : St} {H : Hp} {s : Shared} {a : Addr} {kvs : List (Key × V)} {k : Key} {u : Value} {A : Around} {E : Value → Shared → Prop}
end
section
variable {X : Cx} {o i e value : Expr} {pos pos' tpos : Pos} {td ty tv : TE}
end
section
variable {X : Cx} {pos : Pos}
end
structure M2 (X : Cx) (o : Expr) (m : Str) (apos : Pos) (e f : Expr) (cpos : Pos) : Prop where
  base : attributeBase o m X.env (eval o X.env) = eval o X.env
  few : ((backTo cpos (starEach [e, f] X.env)).all (fun x => !x.1) && (backToKw cpos (keywordEach [] X.env)).all (fun x => x.1.isSome)
    && decide (([e, f] : List Expr).length + ([] : List Keyword).length + (if ([] : List Keyword).isEmpty then 0 else 1) < 30)) = true
  line : (apos.endLine == cpos.line) = true
  trees : backTo cpos (starEach [e, f] X.env) = [(false, eval e X.env), (false, eval f X.env)]
section
variable {X : Cx} {pins : List (Addr × Obj)} {σ : St} {H : Hp} {s : Shared} {a : Addr} {y d : V} {u r : Value} {o : Option V} {A : Around} {E : Value → Shared → Prop}
end
section
variable {X : Cx} {o e f : Expr} {apos cpos : Pos} {td ty tx : TE}
end
section
variable {X : Cx} {pins : List (Addr × Obj)} {σ : St} {H : Hp} {s : Shared} {a : Addr} {kvs : List (Key × V)} {A : Around} {E : Value → Shared → Prop}
end
section
variable {X : Cx} {pins : List (Addr × Obj)} {σ : St} {H : Hp} {s : Shared} {a : Addr} {y : V} {u : Value} {A : Around} {E : Value → Shared → Prop}
end
end L2
namespace Att
open PySem PySem.W PySem.Calls PyProof.Rows
theorem ints_of_wellAll {P : Params} {h : Heap} : ∀ (ns : List Int) (vs : List Value), WellAll P h vs (ns.map WData.int) → IntsAre vs ns := by
  intro ns
  induction ns with
  | nil =>
    intro vs w
    rw [List.map_nil] at w
    cases w
    exact .nil
  | cons n ns ih =>
    intro vs w
    rw [List.map_cons] at w
    cases w with
    | cons a b =>
      cases a
      exact .cons _ _ (ih _ b)
theorem script_of {l : OpenLaw} {n : Nat} (hn : l.most = some n) {P : Params} {h : Heap} {args : List WData} {vals : List Value}
    (hpre : l.row.toRowW.claim.pre args = true) (hwl : WellAll P h vals args) :
    ∃ a vs ns, vals = [Value.ref a] ∧ args = [WData.list (ns.map WData.int)] ∧ h.get? a = some { cls := .type "list", data := .seq vs.toArray } ∧ IntsAre vs ns ∧ ns.length ≤ n := by
  have hsh : WShape.hasAll [] args [.list .int] = true := (pre_splitW hpre).1
  have hc : l.pre.holds [] { args := args } = true := (pre_splitW hpre).2
  obtain ⟨d, r, rfl, h1, h2⟩ := hasAllW_cons hsh
  obtain rfl := hasAllW_nil h2
  obtain ⟨xs, rfl, h3⟩ := hasW_list h1
  obtain ⟨ns, rfl⟩ := items_int h3
  have hlen : ns.length ≤ n := by
    unfold OpenLaw.pre at hc
    have h4 : (WTm.not (.lt (.lit (.int (n : Int))) (.len (.arg 0)))).holds [] { args := [.list (ns.map .int)] } = true := by
      have h4 := (holds_andW hc).1
      rw [hn] at h4
      exact h4
    have h5 := condW_of h4 (w_not (w_lt w_lit (w_len_list (w_arg rfl))))
    rw [List.length_map] at h5
    refine Nat.le_of_not_lt fun q => ?_
    have q' : (n : Int) < ((ns.length : Nat) : Int) := by omega
    first
      | (rw [decide_eq_true q'] at h5; exact absurd h5 (by decide))
      | (simp at h5; omega)
  cases hwl with
  | cons w1 w2 =>
    cases w2
    cases w1 with
    | list ho hall => exact ⟨_, _, ns, rfl, rfl, ho, ints_of_wellAll ns _ hall, hlen⟩
theorem post_true (l : OpenLaw) (args : List WData) : l.row.toRowW.claim.post args (.bool true) args = true :=
  postW_of (r := l.row.toRowW) (X := (true == true))
    (show WShape.has [] (.bool true) .bool = true by first | rfl | decide | simp [WShape.has, WShape.arms, WShape.armsAll])
    (show (WTm.eq .res (.lit (.bool true))).value [] { args := args, res := some (.bool true), after := args } = some (.bool (true == true)) from w_eq_bool (w_res rfl) w_lit) rfl
/-- the same from a codeAny of the CALL (for a layer whose function contracts speak of calls) -/
theorem attach_call {l : OpenLaw} {n : Nat} {q : Program} {loose : List Str} {XP : (Str → Option Value) → Heap → Prop} {YP : World → Heap → Prop} {d : DefRec}
    (hn : l.most = some n) (hdf : d.params.defaults = [])
    (call : ∀ (w : World) (s₀ s₁ : Shared) (mg mb : Str → Option Value) (fa : Addr) (o : Obj) (pm cd doc : Value) (a : Addr) (vs : List Value) (ns : List Int),
      Ground q loose [] XP w s₀ mg mb s₁.heap → YP w s₁.heap →
      s₁.heap.get? fa = some o → o.data = .func (docDef d.name d.params d.body d.scope pm cd doc) → s₁.heap.CodeRec cd d.name → mg d.name = some (.ref fa) →
      s₁.heap.get? a = some { cls := .type "list", data := .seq vs.toArray } → IntsAre vs ns → ns.length ≤ n → s₁.gens = #[] →
      codeAny (model l.prog w) callerA (.call (.ref fa) ⟨[.ref a], []⟩) (fun r s' => r = .ok (.ret (.bool true)) ∧ OldK s₁.heap s'.heap ∧ s'.os = s₁.os ∧ AllBare s'.gens) s₁) :
    WalkO q loose XP YP l.row.toRowW d [] (fun f vs => PySem.call f vs) := by
  intro w s₀ s₁ mg mb G Y fa o pm cd doc dV kV ho hd hcd hD hmg hg args vals as hpre hlay hrd hwl hlo
  obtain rfl : dV = .none := Dflts.none hD hdf
  obtain rfl : kV = .none := Dflts.noKw hD
  obtain ⟨a, vs, ns, rfl, rfl, hobj, hints, hlen⟩ := script_of hn hpre hwl
  refine enter_call (codeAny_mono (call w s₀ s₁ mg mb fa o pm cd doc a vs ns G Y ho (fd_plain hd) hcd hmg hobj hints hlen hg) fun r s' hq => ?_)
  obtain ⟨rfl, h2, h3, h4⟩ := hq
  exact ⟨.inl ⟨.bool true, .bool true, [], rfl, fun _ => rfl, .bool true, post_true l _, fun _ => ⟨List.Pairwise.nil, fun _ hm => (nomatch hm)⟩⟩, h2, h3, h4⟩
section
variable {prog : Program} {w : World} {A : Around} {E : Value → Shared → Prop} {s : Shared} {K : Frag}
end
end Att
namespace L2
open PySem PySem.Spec PyProof.Rows
theorem vals_ints : ∀ {vs : List Value} {ns : List Int}, IntsAre vs ns → Vals (ns.map V.int) vs
  | _, _, .nil => .nil
  | _, _, .cons n t h => .cons ⟨t, rfl⟩ (vals_ints h)
/-- nothing is tracked but the script, known to the object (or it is an object of the module) -/
def Only (H : Hp) : Prop := ∀ b, H b = none ∨ ∃ o xs, H b = some (.frz o (.lst xs))
/-- THE HEAD: the law's promise, at the heap behind the top. F, the promise of the law's def, may use that base is part of the heap (so K.In base, base.Ns mainGlobals mg stand in Mod) -/
theorem law_call {P : Program} {w : World} {K : PySem.W.Frag} {mg mb : Str → Option Value} {CX : CXT} {k : Nat} {fa a : Addr} {fd : FuncData} {x : Str} {sp : Sp} {s₁ : Shared} {vs : List Value} {ns : List Int}
    (KX : K.In s₁.heap) (hns : s₁.heap.Ns mainGlobals mg) (hb : s₁.heap.Ns builtinsNs mb) (hbb : ∀ x : Str, x ≠ "__name__" → mb x = bootBuiltins x) (hlim : s₁.heap.NoLimit) (hg : s₁.gens = #[])
    (ha : s₁.heap.get? a = some { cls := .type "list", data := .seq vs.toArray }) (hi : IntsAre vs ns) (hl : ns.length ≤ sizeLine) (hr : Room k callerA)
    (F : ∀ base : Heap, K.In base → base.Ns mainGlobals mg → FnOk P w K mg base CX k fa fd [x] sp) (hbind : ∀ (s : Shared) (u : Value), BindsTo s fd ⟨[u], []⟩ [(x, u)])
    (hsp : ∀ H : Hp, Only H → SqL K H a (ns.map V.int) → sp [.ref a] H (fun v _ => v = .bl true) fun _ _ _ => False)
    (hCX : ∀ H e s', CX [] H s₁ (fun _ _ _ => False) e s' → False) :
    codeAny (model P w) callerA (.call (.ref fa) ⟨[.ref a], []⟩) (fun r s' => r = .ok (.ret (.bool true)) ∧ OldK s₁.heap s'.heap ∧ s'.os = s₁.os ∧ AllBare s'.gens) s₁ := by
  have rv := vals_ints hi
  have lenV := hi.length
  -- from an abstract heap in which nothing but the script may be tracked
  have core : ∀ H : Hp, Only H → SqL K H a (ns.map V.int) → HOk P w H s₁.heap → (∀ b, H b ≠ none → b = a) → (H a ≠ none → K.lookup a = none) →
      codeAny (model P w) callerA (.call (.ref fa) ⟨[.ref a], []⟩) (fun r s' => r = .ok (.ret (.bool true)) ∧ OldK s₁.heap s'.heap ∧ s'.os = s₁.os ∧ AllBare s'.gens) s₁ := by
    intro H hO hS hok hA hK
    have base_of : ∀ {b : Addr} {o : Obj}, s₁.heap.get? b = some o → H b = none → (hidT s₁.heap H).get? b = some o := fun e n => hidT_get e n
    have noA : ∀ {b : Addr} {o : Obj} {es : Array DictEntry} {ep : Nat}, s₁.heap.get? b = some o → o.data = .dict es ep → H b = none := fun {b o es ep} e d => by
      cases q : H b with
      | none => rfl
      | some u =>
        have e' : b = a := hA b (by rw [q]; simp)
        subst e'
        rw [ha] at e; cases e
        have d' : Data.seq vs.toArray _ = Data.dict es ep := d
        cases d'
    have nsK : ∀ {b : Addr} {m : Str → Option Value}, s₁.heap.Ns b m → (hidT s₁.heap H).Ns b m := fun {b m} ⟨o, es, ep, e, d, r⟩ => ⟨o, es, ep, base_of e (noA e d), d, r⟩
    have hKb : K.In (hidT s₁.heap H) := fun b o e => base_of (KX b o e) (by
      cases q : H b with
      | none => rfl
      | some u =>
        have e' : b = a := hA b (by rw [q]; simp)
        subst e'
        rw [hK (by rw [q]; simp)] at e; cases e)
    have hM : Mod K mg (hidT s₁.heap H) := ⟨hKb, nsK hns, ⟨mb, nsK hb, hbb⟩, let ⟨mc, h1, h2⟩ := hlim; ⟨mc, nsK h1, h2⟩⟩
    have e0 : Env0 P w K mg (hidT s₁.heap H) callerA [] s₁ H := ⟨rfl, hM, fun b o e => of_hidT e, Nat.le_of_eq (hidT_size _ _), trivial, fun b hb => absurd (show b ∈ ([] : List Addr) from hb) (by simp), hok, .of_eq hg⟩
    refine codeAny_mono ((F _ hKb (nsK hns)).run callerA [] s₁ H ⟨[.ref a], []⟩ [.ref a] [.ref a] _ _ hr e0 (hbind s₁ (.ref a)) (.cons rfl .nil) (hsp H hO hS)) fun r s' h => ?_
    cases r with
    | error e => exact (hCX H e s' h).elim
    | ok fl =>
      cases fl with
      | next => exact False.elim h
      | brk => exact False.elim h
      | cont => exact False.elim h
      | ret u =>
        obtain ⟨v, H', os, bare, un, hok', r', q⟩ := h
        have q' : v = .bl true := q
        subst q'
        obtain rfl : u = Value.bool true := r'
        refine ⟨rfl, OldK.of_keep fun b o e => ?_, os, bare⟩
        cases q : H b with
        | none => exact un.keep b o e q (by intro z; exact absurd (show b ∈ ([] : List Addr) from z) (by simp)) (by simp)
        | some u =>
          rcases hO b with z | ⟨ob, xs, z⟩
          · rw [q] at z; cases z
          · have z2 := un.frzs b ob _ z
            obtain ⟨e1, _⟩ := hok b _ z
            obtain ⟨e2, _⟩ := hok' b _ z2
            rw [e] at e1; cases e1
            exact e2
  cases hk : K.lookup a with
  | some o =>
    -- the script is one of the module's own objects
    have e := KX a o hk
    rw [ha] at e
    cases e
    refine core (fun _ => none) (fun _ => .inl rfl) (.inr ⟨_, vs.toArray, _, hk, rfl, rfl, rfl, by rw [List.size_toArray, lenV]; exact hl, by simpa using rv⟩) (fun b u z => by have z' : (none : Option HO) = some u := z; cases z') (fun b z => absurd rfl z) fun z => absurd rfl z
  | none =>
    refine core (fun b => if b = a then some (.frz { cls := .type "list", data := .seq vs.toArray } (.lst (ns.map V.int))) else none) (fun b => ?_) (.inl (.inr ⟨{ cls := .type "list", data := .seq vs.toArray }, if_pos rfl⟩)) (fun b u z => ?_) (fun b z => ?_) fun _ => hk
    · by_cases hb : b = a
      · exact .inr ⟨_, _, if_pos hb⟩
      · exact .inl (if_neg hb)
    · by_cases hb : b = a
      · have z' := (if_pos hb).symm.trans z
        cases z'
        subst hb
        exact ⟨ha, by rw [List.length_map]; exact hl, vs, _, rv, ha⟩
      · have z' := (if_neg hb).symm.trans z
        cases z'
    · by_cases hb : b = a
      · exact hb
      · exact absurd (if_neg hb) z
end L2
namespace L2
open PySem PySem.Spec PyProof.Rows
/-- the goal that k_head leaves (case hc), from the law's promise. F gives the function object fd (K's own) once, then the promise over every base -/
theorem walk_of {l : PySem.W.OpenLaw} {n k : Nat} {q : Program} {loose : List Str} {XP : (Str → Option Value) → Heap → Prop} {YP : World → Heap → Prop} {d : DefRec} {K : Params → PySem.W.Frag} {CX : World → CXT} {sp : World → Sp} {x : Str}
    (hn : l.most = some n) (hn2 : n ≤ sizeLine) (hdf : d.params.defaults = []) (hr : Room k callerA)
    (hY : ∀ (w : World) (h : Heap), YP w h → (K w.params).In h)
    (F : ∀ (w : World) (mg : Str → Option Value) (fa : Addr) (h : Heap), (K w.params).In h → h.Ns mainGlobals mg → mg d.name = some (.ref fa) →
      ∃ fd : FuncData, (∀ (s : Shared) (u : Value), BindsTo s fd ⟨[u], []⟩ [(x, u)]) ∧
        ∀ base : Heap, (K w.params).In base → base.Ns mainGlobals mg → FnOk l.prog w (K w.params) mg base (CX w) k fa fd [x] (sp w))
    (hsp : ∀ (w : World) (H : Hp) (a : Addr) (ns : List Int), ns.length ≤ n → Only H → SqL (K w.params) H a (ns.map V.int) → sp w [.ref a] H (fun v _ => v = .bl true) fun _ _ _ => False)
    (hCX : ∀ (w : World) (H : Hp) (s : Shared) (e : Value) (s' : Shared), CX w [] H s (fun _ _ _ => False) e s' → False) :
    PySem.W.WalkO q loose XP YP l.row.toRowW d [] (fun f vs => PySem.call f vs) := by
  refine Att.attach_call hn hdf fun w s₀ s₁ mg mb fa o pm cd doc a vs ns G Y ho hd hcd hmg hobj hints hlen hg => ?_
  have KX := hY w _ Y
  obtain ⟨fd, hb, hF⟩ := F w mg fa _ KX G.T.g hmg
  exact law_call KX G.T.g G.T.b G.T.builtins G.T.nolimit hg hobj hints (Nat.le_trans hlen hn2) hr hF hb (fun H hO hS => hsp w H a ns hlen hO hS) fun H e s' => hCX w H s₁ e s'
end L2
namespace L2
open PySem PySem.Spec PyProof.Rows
def defArgs (s : Stmt) : Arguments := match s with
  | .FunctionDef _ a _ _ _ _ _ _ _ _ => a
  | _ => { posonlyargs := [], args := [], vararg := none, kwonlyargs := [], kw_defaults := [], kwarg := none, defaults := [] }
def defBody (s : Stmt) : List Stmt := match s with
  | .FunctionDef _ _ b _ _ _ _ _ _ _ => b
  | _ => []
def defScope (s : Stmt) : Scope := match s with
  | .FunctionDef _ _ _ _ _ _ sc _ _ _ => sc
  | _ => { kind := .function, names := [], isGenerator := false, isCoroutine := false }
abbrev CX0 : CXT := fun _ _ _ _ _ _ => False
abbrev E0 : XK := fun _ _ _ => False
theorem pass0 {X : Cx} : Passes CX0 X E0 := fun _ _ _ _ _ _ _ h => h.elim
structure Fun (K : PySem.W.Frag) (x qual : Str) (st : Stmt) (f : Addr) (fd : FuncData) : Prop where
  ex : ∃ (oc : Value) (od : Option Addr) (kV doc pm : Value) (an : Option Addr) (cdv ct : Value) (osl : Array (Option Value)),
    fd = PySem.W.fnOf x qual (defArgs st) (defBody st) (defScope st) .none kV doc pm an cdv ct ∧ K.lookup f = some ⟨oc, od, .func fd, osl⟩ ∧ PySem.W.codeIn K cdv qual = true
  kp : PySem.W.keepIn K (.ref f) = true
section
variable {P : Program} {w : World} {K : PySem.W.Frag} {mg : Str → Option Value} {base : Heap}
/-- THE RULE for a def: its body as a term of rules, and the reading of that term -/
theorem Fun.ok {x qual : Str} {st : Stmt} {f : Addr} {fd : FuncData} {N ps : List Str} {k : Nat} {sp : Sp} (F : Fun K x qual st f fd) (S : FnScope N ps (defScope st)) (len : ∀ vs H Q E, sp vs H Q E → vs.length = ps.length)
    (hbody : ∀ (cdv : Value) (A : Around) (outer : List Env) (s : Shared) (H : Hp) (vs : List V) (Q : VK) (E : XK), Room k (A.deeper (envOfC qual (defScope st) s.heap.objs.size f cdv)) → sp vs H Q E →
      ∃ t, PSs (cxOf CX0 P w K mg base N qual (defScope st) f cdv A outer s H E).nox (defBody st) t ∧ t { nx := fun _ H' => Q .non H', rt := Q } (start N vs) H) : FnOk P w K mg base CX0 (k + 1) f fd ps sp := by
  obtain ⟨oc, od, kV, doc, pm, an, cdv, ct, osl, rfl, lk, hcd⟩ := F.ex
  refine fn_of lk hcd S len fun A outer s H vs Q E hr hsp => ?_
  obtain ⟨t, h, q⟩ := hbody cdv A outer s H vs Q E hr hsp
  exact ⟨t, h.nox, q⟩
/-- how its arguments bind (no defaults): h is «fun _ _ _ _ _ _ us hl => match us, hl with | [_, _], _ => rfl», one _ a parameter -/
theorem Fun.binds {x qual : Str} {st : Stmt} {f : Addr} {fd : FuncData} {ps : List Str} (F : Fun K x qual st f fd)
    (h : ∀ (kV doc pm : Value) (an : Option Addr) (cdv ct : Value) (us : List Value), us.length = ps.length → bindArgs (PySem.W.fnOf x qual (defArgs st) (defBody st) (defScope st) .none kV doc pm an cdv ct) ⟨us, []⟩ = pure (ps.zip us)) : Binds K fd ps [] := by
  obtain ⟨oc, od, kV, doc, pm, an, cdv, ct, osl, rfl, lk, hcd⟩ := F.ex
  exact .all (h kV doc pm an cdv ct)
theorem fun_mk {x qual : Str} {st : Stmt} {f : Addr} {oc : Value} {od an : Option Addr} {osl : Array (Option Value)} {kV doc pm cdv ct : Value} (l : K.lookup f = some ⟨oc, od, .func (PySem.W.fnOf x qual (defArgs st) (defBody st) (defScope st) .none kV doc pm an cdv ct), osl⟩)
    (c : PySem.W.codeIn K cdv qual = true) (k : PySem.W.keepIn K (.ref f) = true) : Fun K x qual st f (PySem.W.fnOf x qual (defArgs st) (defBody st) (defScope st) .none kV doc pm an cdv ct) := ⟨⟨oc, od, kV, doc, pm, an, cdv, ct, osl, rfl, l, c⟩, k⟩
end
theorem small1000 {n : Nat} (h : n ≤ 1000) : n < sizeLine := Nat.lt_of_le_of_lt h (by decide)
section
variable {X : Cx}
theorem pv (i : Nat) {x : Str} {pos : Pos} (hN : X.N[i]? = some x := by rfl) (hv : Vis X.env.scope x := by first | exact Or.inl rfl | exact Or.inr (Or.inl rfl) | exact Or.inr (Or.inr rfl)) (hd : (x == ("__debug__" : Str)) = false := by decide)
    (hcd : (x == ("__classdict__" : Str)) = false := by decide) : PE X (.Name x pos) (tVar i) := pe_var hN hv hd hcd
end
theorem iteF {A B : Prop} (h : B) : if false = true then A else B := by
  rw [if_neg Bool.false_ne_true]
  exact h
theorem iteT {A B : Prop} (h : A) : if true = true then A else B := by
  rw [if_pos rfl]
  exact h
/-- all that was tracked is as it was -/
def Same (H H' : Hp) : Prop := ∀ b o, H b = some o → H' b = some o
theorem Same.refl (H : Hp) : Same H H := fun _ _ h => h
theorem Same.trans {H H1 H2 : Hp} (a : Same H H1) (b : Same H1 H2) : Same H H2 := fun c o h => b c o (a c o h)
theorem Same.free {H H' : Hp} (e : Same H H') {l : Addr} (h : H' l = Option.none) : H l = Option.none := by
  cases q : H l with
  | none => rfl
  | some o =>
    rw [e l o q] at h
    cases h
theorem Same.seq {K : PySem.W.Frag} {H H' : Hp} {a : Addr} {xs : List V} (e : Same H H') (h : SqL K H a xs) : SqL K H' a xs := by
  rcases h with (h | ⟨o, h⟩) | h
  · exact .inl (.inl (e _ _ h))
  · exact .inl (.inr ⟨o, e _ _ h⟩)
  · exact .inr h
section
variable {κ : Type} [DecidableEq κ]
end
end L2
set_option Elab.async false
set_option linter.all false
set_option maxRecDepth 100000
namespace L2
open PySem PySem.Spec PyProof.Rows
theorem lsz {h : Heap} {b : Nat} {o : Obj} (e : h.get? b = some o) : b < h.objs.size := Heap.lt_size e
theorem neN {a b : Nat} (h : a ≠ b) : a ≠ b := h
theorem ltN {a b : Nat} (h : a < b) : a < b := h
theorem cellN {h : Heap} {c : Nat} {v : Option Value} (q : h.IsCell c v) : c < h.objs.size := q.lt
structure LcScope (Xs : Scope) (N : List Str) (sc : Scope) (N' : List Str) (ix : List (Option Nat)) : Prop where
  kind : sc.kind = .function
  nc : ∀ y ∈ sc.names, y.2 ≠ .cell
  loc : ∀ y ∈ sc.names, y.2 = .local → sc.names.lookup y.1 = some .local
  fr : ∀ y ∈ sc.names, y.2 = .free → (Xs.names.lookup y.1 = some .cell ∨ Xs.names.lookup y.1 = some .free)
  nd : N'.Nodup
  len : ix.length = N'.length
  map : ((ix.zip N').all fun p => match p.1 with | none => true | some j => decide (N[j]? = some p.2) && decide (sc.names.lookup p.2 = some .free)) = true
theorem LcScope.at {Xs : Scope} {N : List Str} {sc : Scope} {N' : List Str} {ix : List (Option Nat)} (S : LcScope Xs N sc N' ix) {i j : Nat} {x : Str} (h1 : ix[i]? = some (some j)) (h2 : N'[i]? = some x) :
    N[j]? = some x ∧ sc.names.lookup x = some .free := by
  have hm : ((some j, x) : Option Nat × Str) ∈ ix.zip N' := by
    refine List.mem_of_getElem? (i := i) ?_
    rw [List.getElem?_zip_eq_some]
    exact ⟨h1, h2⟩
  have q := List.all_eq_true.mp S.map _ hm
  simp only [Bool.and_eq_true, decide_eq_true_eq] at q
  exact q
/-- the block's first state -/
def blkSt (ix : List (Option Nat)) (σ : St) : St := ix.map fun o => match o with | some j => (σ[j]?).getD none | none => none
def blk (X : Cx) (sc : Scope) (N' : List Str) (cl : List (Str × Addr)) (C : Addr) (s2 : Shared) (H2 : Hp) (fp : List Addr) : Cx where
  prog := X.prog
  w := X.w
  K := X.K
  mg := X.mg
  base := X.base
  A := X.A
  N := N'
  s₀ := s2
  H₀ := H2
  env := compEnvC sc cl C X.env
  outer := X.stack
  stack := X.stack
  ex := fp
  calm := X.calm
  fn := fun _ => false
  pn := []
  xe := fun _ _ => False
/-- the closure of a block -/
theorem closure_ok {env : Env} : ∀ (names : List (Str × NameKind)) (cs : List (Str × Addr)), (∀ y ∈ names, y.2 = .free → ∃ c, env.cells.lookup y.1 = some c) →
    ∃ cl, (forIn names cs fun (x : Str × NameKind) (c : List (Str × Addr)) => (match x with | (name, kind) => do
        let c ← if (kind == NameKind.free) = true then do let a ← cellOf env name; pure ((name, a) :: c) else pure c
        pure (ForInStep.yield c) : Sem (ForInStep (List (Str × Addr))))) = pure cl ∧ (∀ x c, cl.lookup x = some c → cs.lookup x = some c ∨ (env.cells.lookup x = some c ∧ (x, NameKind.free) ∈ names)) ∧ (∀ x, ((x, NameKind.free) ∈ names ∨ (∃ c, cs.lookup x = some c)) → ∃ c, cl.lookup x = some c)
  | [], cs, _ => ⟨cs, rfl, fun _ _ h => .inl h, fun x h => h.elim (fun z => nomatch z) fun z => z⟩
  | (n, k) :: r, cs, h => by
    by_cases hk : k = .free
    · subst hk
      obtain ⟨c, hc⟩ := h (n, .free) List.mem_cons_self rfl
      obtain ⟨cl, e, h1, h2⟩ := closure_ok r ((n, c) :: cs) fun y hy => h y (List.mem_cons_of_mem _ hy)
      refine ⟨cl, ?_, fun x d hd => ?_, fun x hx => ?_⟩
      · rw [List.forIn_cons, ← e]
        simp only [beq_self_eq_true, if_true, cellOf, hc, pure_bind]
      · rcases h1 x d hd with z | ⟨z1, z2⟩
        · rw [List.lookup_cons] at z
          by_cases hx : (x == n) = true
          · rw [hx] at z
            have hx' : x = n := eq_of_beq hx
            subst hx'
            cases z
            exact .inr ⟨hc, List.mem_cons_self⟩
          · have hx' : (x == n) = false := by simpa using hx
            rw [hx'] at z
            exact .inl z
        · exact .inr ⟨z1, List.mem_cons_of_mem _ z2⟩
      · refine h2 x ?_
        rcases hx with hx | ⟨d, hd⟩
        · rcases List.mem_cons.mp hx with z | z
          · injection z with z1 _
            subst z1
            exact .inr ⟨c, by rw [List.lookup_cons]; simp⟩
          · exact .inl z
        · by_cases hx : (x == n) = true
          · exact .inr ⟨c, by rw [List.lookup_cons, hx]⟩
          · have hx' : (x == n) = false := by simpa using hx
            exact .inr ⟨d, by rw [List.lookup_cons, hx']; exact hd⟩
    · obtain ⟨cl, e, h1, h2⟩ := closure_ok r cs fun y hy => h y (List.mem_cons_of_mem _ hy)
      refine ⟨cl, ?_, fun x d hd => ?_, fun x hx => ?_⟩
      · have hb : (k == NameKind.free) = false := by simpa using hk
        rw [List.forIn_cons, ← e]
        simp only [hb, Bool.false_eq_true, if_false, pure_bind]
      · rcases h1 x d hd with z | ⟨z1, z2⟩
        · exact .inl z
        · exact .inr ⟨z1, List.mem_cons_of_mem _ z2⟩
      · refine h2 x ?_
        rcases hx with hx | hx
        · rcases List.mem_cons.mp hx with z | z
          · injection z with _ z2
            exact absurd z2.symm hk
          · exact .inl z
        · exact .inr hx
theorem closureFor_ok {sc : Scope} {env : Env} (h : ∀ y ∈ sc.names, y.2 = .free → ∃ c, env.cells.lookup y.1 = some c) :
    ∃ cl, closureFor sc env = pure cl ∧ (∀ x c, cl.lookup x = some c → env.cells.lookup x = some c ∧ (x, NameKind.free) ∈ sc.names) ∧ (∀ x, (x, NameKind.free) ∈ sc.names → ∃ c, cl.lookup x = some c) := by
  obtain ⟨cl, e, h1, h2⟩ := closure_ok (env := env) sc.names [] h
  refine ⟨cl, ?_, fun x c hc => (h1 x c hc).resolve_left (fun z => nomatch z), fun x hx => h2 x (.inl hx)⟩
  unfold closureFor
  have e' : (forIn sc.names ([] : List (Str × Addr)) fun x r => (match x with | (name, kind) => if (kind == NameKind.free) = true then do let a ← cellOf env name; pure (ForInStep.yield ((name, a) :: r)) else pure (ForInStep.yield r) : Sem (ForInStep (List (Str × Addr))))) = pure cl := by
    rw [← e]
    first
      | rfl
      | (congr 1
         funext x r
         obtain ⟨n, k⟩ := x
         by_cases hk : (k == NameKind.free) = true
         · simp only [hk, if_true, pure_bind]
         · simp only [hk, if_false, pure_bind, Bool.false_eq_true])
      | simp only [pure_bind]
  simpa using e'
theorem lookup_relabel {env : Env} : ∀ {names : List (Str × NameKind)} {x : Str},
    (names.map fun (n, k) => if (k == NameKind.free && env.scope.kind == .function && env.kindOf n == some .cell) then (n, NameKind.cell) else (n, k)).lookup x =
      (names.lookup x).map fun k => if (k == NameKind.free && env.scope.kind == .function && env.kindOf x == some .cell) then NameKind.cell else k
  | [], _ => rfl
  | (n, k) :: r, x => by
    have ih := @lookup_relabel env r x
    show List.lookup x ((if (k == NameKind.free && env.scope.kind == .function && env.kindOf n == some .cell) = true then (n, NameKind.cell) else (n, k)) :: _) = _
    cases hx : x == n with
    | true =>
      have e : x = n := eq_of_beq hx
      subst e
      by_cases hc : (k == NameKind.free && env.scope.kind == .function && env.kindOf x == some .cell) = true
      · rw [if_pos hc, List.lookup_cons, List.lookup_cons, hx]
        simp only [Option.map_some, hc, if_true]
      · rw [if_neg hc, List.lookup_cons, List.lookup_cons, hx]
        simp only [Option.map_some, hc, if_false]
        simp
    | false =>
      by_cases hc : (k == NameKind.free && env.scope.kind == .function && env.kindOf n == some .cell) = true
      · rw [if_pos hc, List.lookup_cons, List.lookup_cons, hx]; exact ih
      · rw [if_neg hc, List.lookup_cons, List.lookup_cons, hx]; exact ih
/-- the tests of a clause -/
def PFs (X : Cx) (ifs : List Expr) (t : TT) : Prop :=
  ∀ (pins : List (Addr × Obj)) (s : Shared) (σ : St) (H : Hp) (Q : Bool → Hp → Prop), Inv X pins σ H s → t σ H Q →
    wpAny (model X.prog X.w) X.A (forIn ifs true fun c r => if r = true then do let ok ← isTrue c X.env (eval c X.env); pure (ForInStep.yield ok) else pure (ForInStep.yield r)) (TP X pins σ Q) X.xe s
def tAll : TT := fun _ H Q => Q true H
theorem pfs_nil {X : Cx} : PFs X [] tAll := fun pins s σ H Q I h => by
  rw [List.forIn_nil]
  exact wpAny_pure ⟨H, I, h⟩
theorem pfs_one {X : Cx} {c : Expr} {t : TT} (hc : PT X c t) : PFs X [c] t := fun pins s σ H Q I h => by
  rw [List.forIn_cons]
  simp only [if_true, bind_assoc, pure_bind]
  refine wpAny_bind (thn (hc pins s σ H Q I h) fun b s1 q => ?_)
  rw [List.forIn_nil]
  exact wpAny_pure q
/-- [elt for tg in iter if tests]: D the new list; W by the turn, a measure, the block's names, the list so far, the heap -/
def tLc (ix : List (Option Nat)) (wi : TI) (g : TG) (tf : TT) (te : TE) : TE := fun σ H Q => wi σ H fun J H1 => ∀ D, H1 D = none → ∃ W : Nat → Nat → St → List V → Hp → Prop,
  (∃ m, W 0 m (blkSt ix σ) [] (upd H1 D (.lst []))) ∧ ∀ i m σ' ys H, W i m σ' ys H → H D = some (.lst ys) ∧
    ((J.stop i H ∧ Q (.ref D) H) ∨ (J.go i H ∧ ∀ x H', J.yld i H x H' → g x σ' H' fun σ2 H2 => tf σ2 H2 fun b H3 =>
      if b = true then te σ2 H3 fun y H4 => H4 D = some (.lst ys) ∧ ys.length + 1 ≤ sizeLine ∧ ∃ m', m' < m ∧ W (i + 1) m' σ2 (ys ++ [y]) (upd H4 D (.lst (ys ++ [y]))) else ∃ m', m' < m ∧ W (i + 1) m' σ2 ys H3))
theorem codeAny_compLoop_go {prog : Program} {w : World} {A : Around} {R : Result → Shared → Prop} {s : Shared} {elt target iter : Expr} {ifs : List Expr} {scope : Scope} {pos : Pos} {it acc : Value} {env : Env} (I : Nat → Shared → Prop)
    (turn : ∀ n s, I n s → wpAny (model prog w) A (pyNext it) (fun r s₁ => match r with
      | none => R (.ok .next) s₁
      | some v => wpAny (model prog w) A (letOwnedTupleGo target it v) (fun _ s₁' => wpAny (model prog w) A (assign target env v) (fun _ s₂ =>
          wpAny (model prog w) A (forIn ifs true fun c r => if r = true then do let ok ← isTrue c env (eval c env); pure (ForInStep.yield ok) else pure (ForInStep.yield r)) (fun ok s₃ =>
            if ok = true then wpAny (model prog w) A (eval elt env) (fun x s₄ =>
              wpAny (model prog w) A (call (.builtin "list.append") [acc, x]) (fun _ s₅ => ∃ m, m < n ∧ I m s₅) (fun _ _ => False) s₄) (fun _ _ => False) s₃
            else ∃ m, m < n ∧ I m s₃) (fun _ _ => False) s₂) (fun _ _ => False) s₁') (fun _ _ => False) s₁) (fun _ _ => False) s)
    (n : Nat) (h : I n s) :
    codeAny (model prog w) A (.compLoop (.ListComp elt [⟨target, iter, ifs, 0⟩] scope pos) 0 it acc env) R s := by
  refine codeAny_loop rfl I (fun n s hI => ?_) n h
  show wpAny _ A ((compTurn (.ListComp elt [⟨target, iter, ifs, 0⟩] scope pos) 0 it acc env).onRaise (fun x => do noteFrame x env; theTreesLotGoes x)) _ _ s
  refine wpAny_noted ?_
  rw [compTurn_list]
  refine wpAny_bind (wpAny_standAt (wpAny_bind (wpAny_mono (turn n s hI) (fun r s₁ h₁ => ?_) fun _ _ h' => h'.elim)))
  cases r with
  | none => exact wpAny_pure h₁
  | some v =>
    refine wpAny_bind (wpAny_mono h₁ (fun _ s₁' h₁' => ?_) fun _ _ h' => h'.elim)
    refine wpAny_bind (wpAny_mono h₁' (fun _ s₂ h₂ => wpAny_bind (wpAny_mono h₂ (fun ok s₃ h₃ => ?_) fun _ _ h' => h'.elim)) fun _ _ h' => h'.elim)
    cases ok with
    | false => exact wpAny_pure ⟨rfl, h₃⟩
    | true =>
      have h₃' : wpAny (model prog w) A (eval elt env) (fun x s₄ =>
              wpAny (model prog w) A (call (.builtin "list.append") [acc, x]) (fun _ s₅ => ∃ m, m < n ∧ I m s₅) (fun _ _ => False) s₄) (fun _ _ => False) s₃ := h₃
      exact wpAny_bind (wpAny_bind (wpAny_mono h₃' (fun x s₄ h₄ => wpAny_bind (wpAny_mono h₄ (fun _ s₅ h₅ => wpAny_pure (wpAny_pure ⟨rfl, h₅⟩)) fun _ _ h' => h'.elim)) fun _ _ h' => h'.elim))
section
variable {X : Cx} {elt tg iter : Expr} {ifs : List Expr} {sc : Scope} {pos : Pos} {N' : List Str} {ix : List (Option Nat)} {wi : TI} {g : TG} {tf : TT} {te : TE}
/-- what is known of the block's own dict behind it -/
structure CFree (X : Cx) (pins : List (Addr × Obj)) (H : Hp) (C : Addr) : Prop where
  hn : H C = none
  hL : C ≠ X.env.locals
  ab : X.s₀.heap.objs.size ≤ C
  cl : ∀ x c, X.env.cells.lookup x = some c → c ≠ C
  pn : ∀ p ∈ X.pn ++ pins, p.1 ≠ C
theorem lc_core (hc : X.calm = true) (S : LcScope X.env.scope X.N sc N' ix)
    (hg : ∀ cl C s2 H2 fp, PG (blk X sc N' cl C s2 H2 fp) tg g) (hf : ∀ cl C s2 H2 fp, PFs (blk X sc N' cl C s2 H2 fp) ifs tf) (he : ∀ cl C s2 H2 fp, PE (blk X sc N' cl C s2 H2 fp) elt te)
    {pins : List (Addr × Obj)} {σ : St} {H2 : Hp} {s2 : Shared} {cl : List (Str × Addr)} (hcl1 : ∀ x c, cl.lookup x = some c → X.env.cells.lookup x = some c ∧ (x, NameKind.free) ∈ sc.names) (hcl2 : ∀ x, (x, NameKind.free) ∈ sc.names → ∃ c, cl.lookup x = some c)
    {it : Addr} {fp : List Addr} {tn : Nat → Heap → Prop} {J : It} {Q : VK} (I2 : Inv X pins σ H2 s2) (T : Turn X.prog X.w X.K tg J fp it tn) (st2 : tn 0 s2.heap) (f2 : ∀ b ∈ fp, FpOk X pins H2 b)
    (hW : ∀ D, H2 D = none → ∃ W : Nat → Nat → St → List V → Hp → Prop,
      (∃ m, W 0 m (blkSt ix σ) [] (upd H2 D (.lst []))) ∧ ∀ i m σ' ys H, W i m σ' ys H → H D = some (.lst ys) ∧
        ((J.stop i H ∧ Q (.ref D) H) ∨ (J.go i H ∧ ∀ x H', J.yld i H x H' → g x σ' H' fun σ2 H2 => tf σ2 H2 fun b H3 =>
          if b = true then te σ2 H3 fun y H4 => H4 D = some (.lst ys) ∧ ys.length + 1 ≤ sizeLine ∧ ∃ m', m' < m ∧ W (i + 1) m' σ2 (ys ++ [y]) (upd H4 D (.lst (ys ++ [y]))) else ∃ m', m' < m ∧ W (i + 1) m' σ2 ys H3)))
    {RR : Value → Addr → Result → Shared → Prop} {E : Value → Shared → Prop}
    (hRR : ∀ D C m s' H', Inv X pins σ H' s' → Q (.ref D) H' → s'.heap.Ns C m → CFree X pins H' C → RR (.ref D) C (.ok .next) s') :
    wpAny (model X.prog X.w) X.A (newList []) (fun acc s₃ => wpAny (model X.prog X.w) X.A (newFunctionEnv sc X.env.globals cl [] X.env.qual none .none (some X.env)) (fun cenv s₄ =>
      codeAny (model X.prog X.w) X.A (.compStart (.ListComp elt [⟨tg, iter, ifs, 0⟩] sc pos) 0 (.ref it) acc { cenv with scope := relabel sc X.env }) (RR acc cenv.locals) s₄) E s₃) E s2 := by
  refine wpAny_newObj_type (wpAny_newFunctionEnv S.nc (by intro y hy; simp at hy) (fun h₁ hns₁ hsb₁ => ?_) S.kind)
  dsimp only at hns₁ hsb₁ ⊢
  generalize hH2 : s2.heap.push { cls := .type "list", dict := none, data := .seq ([] : List Value).toArray } = G2 at hns₁ hsb₁ ⊢
  have hC : G2.objs.size = s2.heap.objs.size + 1 := by rw [← hH2, Heap.size_push]
  obtain ⟨D, hD⟩ : ∃ D : Nat, s2.heap.objs.size = D := ⟨_, rfl⟩
  obtain ⟨C, hCC⟩ : ∃ C : Nat, G2.objs.size = C := ⟨_, rfl⟩
  simp only [hD, hCC] at hns₁ hsb₁ hC ⊢
  have hDC : D ≠ C := by omega
  have old : ∀ b o, s2.heap.get? b = some o → h₁.get? b = some o := fun b o e => by
    have hb := lsz e
    exact hsb₁.extBut b o (neN (by omega)) (Heap.get?_push_of_some _ (hH2 ▸ Heap.get?_push_of_some _ e))
  have hacc : h₁.get? D = some { cls := .type "list", data := .seq ([] : List Value).toArray } := by
    refine hsb₁.extBut D _ hDC (Heap.get?_push_of_some _ ?_)
    rw [← hH2, ← hD]
    exact Heap.get?_push_size _ rfl
  have hD2 : H2 D = none := I2.hok.fresh (by omega)
  have hC2 : H2 C = none := I2.hok.fresh (by omega)
  obtain ⟨W, ⟨m0, w0⟩, turn⟩ := hW D hD2
  have cellX : ∀ x c, cl.lookup x = some c → ∃ v, s2.heap.IsCell c v := fun x c e => I2.cell x c (hcl1 x c e).1
  have cltD : ∀ x c, cl.lookup x = some c → c < D := fun x c e => by
    obtain ⟨v, q⟩ := cellX x c e
    have := cellN q
    exact ltN (by omega)
  have fpD : ∀ b ∈ fp, b < D := fun b hb => by
    obtain ⟨o, e, _⟩ := T.obj 0 _ st2 b hb
    have := lsz e
    exact ltN (by omega)
  -- the block's context
  have Yok : (blk X sc N' cl C s2 H2 fp).Ok := by
    refine ⟨I2.ok.mod, S.kind, I2.ok.glob, I2.ok.blt, ?_, ?_, ?_, ?_, I2.ok.hd, I2.ok.frames, .inl rfl, ?_, I2.bs, ?_, ?_, ?_, I2.stack, I2.stkFree⟩
    · show s2.heap.objs.size ≤ C
      omega
    · intro x y c e1 e2
      exact I2.ok.inj x y c (hcl1 x c e1).1 (hcl1 y c e2).1
    · intro x hx
      have hx' : (relabel sc X.env).names.lookup x = some .cell ∨ (relabel sc X.env).names.lookup x = some .free := hx
      unfold relabel at hx'
      rw [lookup_relabel] at hx'
      cases q : sc.names.lookup x with
      | none => rw [q] at hx'; simp at hx'
      | some k =>
        have hm := PySem.mem_of_lookup q
        by_cases hk : k = .free
        · subst hk
          exact hcl2 x hm
        · have hk2 : k ≠ .cell := S.nc _ hm
          rw [q] at hx'
          have hb : (k == NameKind.free) = false := by simpa using hk
          simp only [Option.map_some, hb, Bool.false_and, Bool.false_eq_true, if_false] at hx'
          rcases hx' with z | z
          · exact absurd (Option.some.inj z) hk2
          · exact absurd (Option.some.inj z) hk
    · intro x c hfn
      exact absurd hfn Bool.false_ne_true
    · intro b hb
      refine ⟨?_, fun x c e z => (f2 b hb).2.2.2.2.1 x c (hcl1 x c e).1 z⟩
      show b ≠ C
      have := ltN (fpD b hb)
      exact neN (by omega)
    · show X.base.objs.size ≤ s2.heap.objs.size
      exact Nat.le_trans I2.ok.bsz I2.sz
    · intro b o e hb
      rcases (f2 b hb).2.2.2.1 with z | z
      · exact I2.ok.noex b o e z
      · have h1 := lsz (h := X.base) e
        have h2 := I2.ok.bsz
        omega
    · intro b hb z
      rcases List.mem_cons.mp (I2.stkSub b z) with q | q
      · exact (f2 b hb).2.1 q
      · exact (f2 b hb).2.2.1 q
  have un0 : Un (frs X.stack) fp H2 (upd H2 D (.lst [])) s2.heap h₁ := Un.laid old (by omega) hD2
  have hok0 : HOk X.prog X.w (upd H2 D (.lst [])) h₁ := I2.hok.laid old (by omega) ⟨Nat.zero_le _, [], 0, .nil, hacc⟩
  have IY : ∀ tk, Inv (blk X sc N' cl C s2 H2 fp) [] (blkSt ix σ) (upd H2 D (.lst [])) { s2 with heap := h₁, toks := tk } := fun tk => by
    refine ⟨Yok, rfl, I2.bare, un0, ⟨_, hns₁, fun i x v e1 e2 e3 => ?_⟩, fun x c e => ?_, ?_, fun x c e => ?_, fun p hp => absurd (show p ∈ ([] : List (Addr × Obj)) from hp) (by simp), hok0, ?_⟩
    · have e1' : N'[i]? = some x := e1
      unfold blkSt at e2
      rw [List.getElem?_map] at e2
      cases q : ix[i]? with
      | none => rw [q] at e2; cases e2
      | some o =>
        cases o with
        | none => rw [q] at e2; cases e2
        | some j =>
          rw [q] at e2
          have e2' : (σ[j]?).getD none = some v := Option.some.inj e2
          have e4 : σ[j]? = some (some v) := by
            cases z : σ[j]? with
            | none => rw [z] at e2'; cases e2'
            | some y => rw [z] at e2'; exact congrArg some e2'
          obtain ⟨a1, a2⟩ := S.at q e1'
          have hmem := PySem.mem_of_lookup a2
          have hk := S.fr _ hmem rfl
          obtain ⟨m, _, hl⟩ := I2.loc
          obtain ⟨u, r, l⟩ := hl j x v a1 e4 (.inr hk)
          refine ⟨u, r, .inr ⟨?_, ?_⟩⟩
          · show (relabel sc X.env).names.lookup x = some .cell ∨ (relabel sc X.env).names.lookup x = some .free
            unfold relabel
            rw [lookup_relabel, a2]
            by_cases hb : (X.env.scope.kind == .function && X.env.kindOf x == some .cell) = true
            · left
              simp only [Option.map_some, beq_self_eq_true, Bool.true_and, hb, if_true]
            · right
              simp only [Option.map_some, beq_self_eq_true, Bool.true_and, hb, if_false, Bool.false_eq_true]
          · obtain ⟨c, hcx⟩ := hcl2 x hmem
            have hcX := (hcl1 x c hcx).1
            refine ⟨c, hcx, ?_⟩
            rcases l with ⟨k, _⟩ | ⟨k, c', e', z⟩
            · have k' : X.env.scope.names.lookup x = some .local := k
              rcases hk with y | y <;> rw [k'] at y <;> cases y
            · rw [hcX] at e'
              cases e'
              obtain ⟨o, ho, hd⟩ := z
              exact ⟨o, old _ _ ho, hd⟩
    · obtain ⟨v, o, ho, hd⟩ := cellX x c e
      exact ⟨v, o, old _ _ ho, hd⟩
    · show upd H2 D (.lst []) C = none
      rw [upd_ne (Ne.symm hDC)]
      exact hC2
    · have hlt := ltN (cltD x c e)
      show upd H2 D (.lst []) c = none
      rw [upd_ne (neN (by omega))]
      exact I2.freeC x c (hcl1 x c e).1
    · unfold blkSt
      rw [List.length_map]
      exact S.len
  have fpY : ∀ {pins' : List (Addr × Obj)} {H' : Hp}, (∀ b ∈ fp, H' b = none) → (∀ p ∈ pins', p.1 ∉ fp) → ∀ b ∈ fp, FpOk (blk X sc N' cl C s2 H2 fp) pins' H' b := fun hn hp b hb => by
    refine ⟨hn b hb, ?_, ?_, .inl hb, fun x c e z => (f2 b hb).2.2.2.2.1 x c (hcl1 x c e).1 z, fun p hpp z => ?_⟩
    · show b ≠ C
      have := ltN (fpD b hb)
      exact neN (by omega)
    · exact Yok.exfs b hb
    · have hpp' : p ∈ ([] : List (Addr × Obj)) ++ _ := hpp
      rw [List.nil_append] at hpp'
      exact hp p hpp' (z ▸ hb)
  have loop : ∀ s₃ : Shared, s₃ = { s2 with heap := h₁, toks := s2.toks + ([] : List (Str × Value)).length } →
      codeAny (model X.prog X.w) X.A (.compLoop (.ListComp elt [⟨tg, iter, ifs, 0⟩] sc pos) 0 (.ref it) (.ref D) (compEnvC sc cl C X.env)) (RR (.ref D) C) s₃ := by
    rintro s₃ rfl
    refine codeAny_compLoop_go (fun n s' => ∃ i σ' ys H', Inv (blk X sc N' cl C s2 H2 fp) [] σ' H' s' ∧ tn i s'.heap ∧ (∀ b ∈ fp, H' b = none) ∧ W i n σ' ys H') ?_ m0
      ⟨0, _, [], _, IY _, T.keep _ _ _ st2 (fun b _ o e => old b o e), fun b hb => by rw [upd_ne (Nat.ne_of_lt (fpD b hb))]; exact (f2 b hb).1, w0⟩
    rintro n s3 ⟨i, σ3, ys, H3, I3, st3, fr3, w3⟩
    obtain ⟨hDl, w3⟩ := turn i n σ3 ys H3 w3
    rcases w3 with ⟨stop, qn⟩ | ⟨go, step⟩
    · refine thn (T.done (blk X sc N' cl C s2 H2 fp) rfl rfl rfl hc i [] s3 σ3 H3 _ I3 (fpY fr3 (by simp)) st3 stop) fun r s4 ⟨hr, I4⟩ => ?_
      subst hr
      obtain ⟨m, hn, _⟩ := I4.loc
      refine hRR D C m s4 H3 (I2.call' (ch := fp) I4.os I4.base I4.hok I4.bare fun b hb => ?_) qn hn ?_
      · obtain ⟨a0, a1, a2, a3, a4, a5⟩ := f2 b hb
        exact ⟨a3, a1, a4, a5⟩
      · refine ⟨I4.free, ?_, ?_, fun x c e z => ?_, fun p hp z => ?_⟩
        · have := ltN I2.lt
          exact neN (by omega)
        · have := I2.sz
          omega
        · obtain ⟨v, q⟩ := I2.cell x c e
          have := cellN q
          exact neN (a := c) (b := C) (by omega) z
        · have := lsz (I2.pin p hp).1
          exact neN (a := p.1) (b := C) (by omega) z
    · refine thn (T.item (blk X sc N' cl C s2 H2 fp) rfl rfl rfl hc i [] s3 σ3 H3 (fun _ _ => False) I3 (fpY fr3 (by simp)) st3 go) fun r s4 ⟨u, hr, h4⟩ => ?_
      subst hr
      refine thn h4 fun _ s5 ⟨x, H5, I5, r5, y5, st5, fr5⟩ => ?_
      have I5' := I5.pinned (fpY fr5 (by simp)) (T.obj _ _ st5)
      refine thn (hg _ _ _ _ _ _ s5 σ3 H5 x u _ I5' r5 (step x H5 y5)) fun _ s6 ⟨σ6, H6, I6, q6⟩ => ?_
      refine thn (hf _ _ _ _ _ _ s6 σ6 H6 _ I6 q6) fun b s7 ⟨H7, I7, q7⟩ => ?_
      have keepT : ∀ {s8 : Shared} {σ8 : St} {H8 : Hp}, Inv (blk X sc N' cl C s2 H2 fp) ([] ++ pinsAt fp s5.heap) σ8 H8 s8 → tn (i + 1) s8.heap ∧ ∀ b ∈ fp, H8 b = none := fun {s8 σ8 H8} I8 => by
        refine ⟨T.keep _ _ _ st5 fun b hb o e => (I8.pin (b, o) (List.mem_append_right _ (List.mem_append_right _ (mem_pinsAt hb e)))).1, fun b hb => ?_⟩
        obtain ⟨o, e, d⟩ := T.obj _ _ st5 b hb
        exact (I8.pin (b, o) (List.mem_append_right _ (List.mem_append_right _ (mem_pinsAt hb e)))).2.1
      cases b with
      | false =>
        have q7' : ∃ m', m' < n ∧ W (i + 1) m' σ6 ys H7 := q7
        obtain ⟨m', hm, w7⟩ := q7'
        rw [if_neg Bool.false_ne_true]
        obtain ⟨t7, fr7⟩ := keepT I7
        exact ⟨m', hm, i + 1, σ6, ys, H7, I7.unpinned, t7, fr7, w7⟩
      | true =>
        rw [if_pos rfl]
        rw [if_pos rfl] at q7
        refine thn (he _ _ _ _ _ _ s7 σ6 H7 _ I7 q7) fun yv s8 ⟨y, H8, I8, r8, hD8, hz8, m', hm, w8⟩ => ?_
        obtain ⟨z, its, k, rv, hl8, e8⟩ := I8.lstM hD8
        obtain ⟨t8, fr8⟩ := keepT I8
        refine wpAny_list_append_plain (s := s8) (items := its.toArray) (hsz := by rw [List.size_toArray]; omega) ⟨_, e8⟩ fun h9 hl9 hs9 => ?_
        obtain ⟨k9, e9⟩ := hl9
        have hv9 : Vals (ys ++ [y]) (its ++ [yv]) := Vals.append rv (.cons r8 .nil)
        have I9 : Inv (blk X sc N' cl C s2 H2 fp) ([] ++ pinsAt fp s5.heap) σ6 (upd H8 D (.lst (ys ++ [y]))) { s8 with heap := h9, toks := s8.toks } := by
          refine I8.write (x := D) (e := D) (by rw [hD8]; exact trivial) (.inl rfl) (fun b u hb hu => (hs9.2 b hb).trans hu) ⟨_, e9⟩ ?_
          refine ⟨by rw [List.length_append, List.length_singleton]; exact hz8, its ++ [yv], k9, hv9, ?_⟩
          rw [e9]
          simp
        obtain ⟨t9, fr9⟩ := keepT I9
        exact ⟨m', hm, i + 1, σ6, _, _, I9.unpinned, t9, fr9, w8⟩
  exact codeAny_compStart_list (loop _ rfl) (T.self _ 0 _ _ _ (T.keep _ _ _ st2 fun b _ o e => old b o e) (loop _ rfl))
theorem pe_lc (hc : X.calm = true) (S : LcScope X.env.scope X.N sc N' ix) (hi : PI X tg iter wi)
    (hg : ∀ cl C s2 H2 fp, PG (blk X sc N' cl C s2 H2 fp) tg g) (hf : ∀ cl C s2 H2 fp, PFs (blk X sc N' cl C s2 H2 fp) ifs tf) (he : ∀ cl C s2 H2 fp, PE (blk X sc N' cl C s2 H2 fp) elt te)
    (hs : ∀ x, foldedSetIterable iter X.env x = pure x := by intro _; rfl) : PE X (.ListComp elt [⟨tg, iter, ifs, 0⟩] sc pos) (tLc ix wi g tf te) := by
  intro pins s σ H Q I h
  rw [eval_ListComp]
  have hcells : ∀ y ∈ sc.names, y.2 = .free → ∃ c, X.env.cells.lookup y.1 = some c := fun y hy hk => I.ok.has y.1 (S.fr y hy hk)
  obtain ⟨cl, hclos, hcl1, hcl2⟩ := closureFor_ok hcells
  refine wpAny_comprehension_free (use := none) rfl hs hclos S.kind S.loc (thn (hi pins s σ H _ I h) fun v s1 h1 => thn h1 fun itv s2 h2 => ?_)
  obtain ⟨it, fp, tn, J, H2, rfl, I2, T, st2, f2, hW⟩ := h2
  refine lc_core (RR := fun acc C => compPost (model X.prog X.w) X.A X.xe none (EP X pins σ Q) acc C) hc S hg hf he hcl1 hcl2 I2 T st2 f2 hW fun D C m s' H' I' q hn F => ?_
  refine ⟨m, hn, fun h' hs' => ⟨.ref D, H', ?_, rfl, q⟩⟩
  exact I'.turned (it := C) (t' := s'.toks) (fun b o hb e => (hs'.2 b hb).trans e) F.hn F.hL (.inr F.ab) F.cl F.pn
/-- name = [..] where the store comes ahead of the block's end -/
theorem ps_setlc {i : Nat} {x : Str} {px spos : Pos} (hc : X.calm = true) (hN : X.N.Nodup) (hi' : X.N[i]? = some x) (hx : X.env.scope.names.lookup x = some .local) (S : LcScope X.env.scope X.N sc N' ix) (hi : PI X tg iter wi)
    (hg : ∀ cl C s2 H2 fp, PG (blk X sc N' cl C s2 H2 fp) tg g) (hf : ∀ cl C s2 H2 fp, PFs (blk X sc N' cl C s2 H2 fp) ifs tf) (he : ∀ cl C s2 H2 fp, PE (blk X sc N' cl C s2 H2 fp) elt te)
    (hsw : swapsWith (.ListComp elt [⟨tg, iter, ifs, 0⟩] sc pos) (some (.Name x px)) spos.line X.env = pure true := by rfl)
    (hs : ∀ x, foldedSetIterable iter X.env x = pure x := by intro _; rfl) : PS X (.Assign [.Name x px] (.ListComp elt [⟨tg, iter, ifs, 0⟩] sc pos) spos) (tAsg (tLc ix wi g tf te) (gName i)) := by
  intro pins s σ H D0 I h
  rw [exec_Assign_Name_used _ _ _ _ hsw]
  refine wpAny_bind (wpAny_standAt (wpAny_bind ?_))
  show wpAny _ X.A (do let _ ← comprehension (.ListComp elt [⟨tg, iter, ifs, 0⟩] sc pos) sc X.env _ (newList []) false (eval iter X.env) (some (assign (.Name x px) X.env))) _ _ s
  have hcells : ∀ y ∈ sc.names, y.2 = .free → ∃ c, X.env.cells.lookup y.1 = some c := fun y hy hk => I.ok.has y.1 (S.fr y hy hk)
  obtain ⟨cl, hclos, hcl1, hcl2⟩ := closureFor_ok hcells
  refine wpAny_bind (wpAny_mono (wpAny_comprehension_free (use := some (assign (.Name x px) X.env)) (Q := fun _ s' => SP X pins D0 .next s') rfl hs hclos S.kind S.loc (thn (hi pins s σ H _ I h) fun v s1 h1 => thn h1 fun itv s2 h2 => ?_)) (fun _ s' hq => wpAny_pure (wpAny_pure hq)) fun _ _ e => e)
  obtain ⟨it, fp, tn, J, H2, rfl, I2, T, st2, f2, hW⟩ := h2
  refine lc_core (RR := fun acc C => compPost (model X.prog X.w) X.A X.xe (some (assign (.Name x px) X.env)) (fun _ s' => SP X pins D0 .next s') acc C) (Q := fun x H1 => gName i x σ H1 D0.nx) hc S hg hf he hcl1 hcl2 I2 T st2 f2 hW fun D C m s' H' I' q hn F => ?_
  show wpAny _ X.A (assign (.Name x px) X.env (.ref D)) _ _ _
  refine wpAny_assign_Name (store_ok2 (v := .ref D) I' hN hi' (.inl hx) rfl (fun s'' I'' hsb => ?_) (.inr hx))
  obtain ⟨a, hsb, ha⟩ := hsb
  have haC : C ≠ a := by
    rcases ha with z | z
    · rw [z]; exact F.hL
    · exact Ne.symm (F.cl _ _ z)
  refine ⟨m, hn.sameBut hsb haC, fun h' hs' => ⟨_, H', ?_, q⟩⟩
  exact I''.turned (it := C) (t' := s''.toks) (fun b o hb e => (hs'.2 b hb).trans e) F.hn F.hL (.inr F.ab) F.cl F.pn
end
end L2
set_option Elab.async false
set_option linter.all false
set_option maxRecDepth 100000
namespace L2
open PySem PySem.Spec PyProof.Rows
section
variable {X : Cx} {a b e : Expr} {ta tb : TE} {pos : Pos}
theorem call_isinst : CallR X (.builtin "isinstance") (fun xs H Q => ∃ x c t b, xs = [x, .ty c] ∧ TyOf X.K H x t ∧ PySem.W.kitOne X.K t (.type c) = some b ∧ Q (.bl b) H) := by
  intro pins s σ H xs us Q I r h
  obtain ⟨x, c, t, b, rfl, ty, hk, q⟩ := h
  obtain ⟨u, w', rfl, ru, rw'⟩ := vals2 r
  cases (show w' = Value.type c from rw')
  exact isinst_ok I ru ty hk fun tk => ⟨.bl b, H, I.tok _, rfl, q⟩
theorem bools_of {bs : List Bool} : ∀ {us : List Value}, Vals (bs.map V.bl) us → us = bs.map Value.bool := by
  induction bs with
  | nil => intro us r; rw [List.map_nil] at r; cases r; rfl
  | cons n ns ih =>
    intro us r
    rw [List.map_cons] at r
    cases r with
    | cons r1 r2 =>
      cases r1
      rw [ih r2]
      rfl
theorem call_all_l (hc : X.calm = true) : CallR X (.builtin "all") (fun xs H Q => ∃ (p : Addr) (bs : List Bool), xs = [.ref p] ∧ SqL X.K H p (bs.map V.bl) ∧ Q (.bl (bs.all id)) H) := by
  intro pins s σ H xs us Q I r h
  obtain ⟨p, bs, rfl, hp, q⟩ := h
  obtain ⟨u, rfl, ru⟩ := vals1 r
  cases ru
  obtain ⟨its, rv, pl, hz⟩ := I.list hp
  have eb := bools_of rv
  subst eb
  have hl := pl.isList
  have hlt : p < s.heap.objs.size := by obtain ⟨_, e, _⟩ := hl; exact Heap.lt_size e
  refine call_all_walk (wpAny_pyIter_list hl ?_)
  refine ⟨s.heap.objs.size, [s.heap.objs.size, p], [s.heap.objs.size], (bs.map Value.bool).toArray.size, _, _, fun i => (bs[i]?).getD true, rfl, Walks.list (A := X.A.in1) (I.ok.hd hc) _ p (Nat.ne_of_lt hlt) (bs.map Value.bool).toArray,
    ⟨⟨_, Heap.get?_push_size _ rfl, rfl, rfl⟩, hl.push _⟩, fun i v s' Q' E' hP hQ => ?_, fun h' tk hk => ?_⟩
  · have hP' : (bs.map Value.bool)[i]? = some v := by simpa using hP
    rw [List.getElem?_map] at hP'
    cases e : bs[i]? with
    | none => rw [e] at hP'; cases hP'
    | some b =>
      rw [e] at hP'
      cases hP'
      simp only [e, Option.getD_some] at hQ
      exact wpAny_truthy_bool hQ
  · have e : ((List.range (bs.map Value.bool).toArray.size).all fun i => (bs[i]?).getD true) = bs.all id := by
      rw [List.size_toArray, List.length_map]; exact LSm.range_all bs
    rw [e]
    exact ⟨.bl (bs.all id), H, I.kept (LSm.kept_iter hk), rfl, q⟩
theorem list_extend_tup (l : Addr) (items : Array Value) (n : Nat) (b : Addr) (items2 : Array Value) (n2 : Nat) (dd : Option Addr) (sl : Array (Option Value)) (hs0 : ¬(!items.isEmpty && Builtin.List.listTooLong (items.size + items2.size)) = true) (hs1 : items.size ≤ sizeLine) (hs2 : items.size + items2.size ≤ sizeLine + 1) :
    Meets (Builtin.«list.extend» ⟨[.ref l, .ref b], []⟩) (fun _ R s => s.heap.get? l = some { cls := .type "list", dict := none, data := .seq items n, slots := #[] } ∧ s.heap.get? b = some { cls := .type "tuple", dict := dd, data := .seq items2 n2, slots := sl } ∧ R (.ok (.ret Value.none)) { s with heap := s.heap.update l (Obj.mapSeq fun x => x ++ items2), toks := s.toks }) :=
  .of_wp fun prog w A R s h => by
    obtain ⟨hp, g, d, tk, os⟩ := s; obtain ⟨hl, hb, h⟩ := h; have f1 := PySem.AutoSeq1.idx_int; have f2 := PySem.AutoSeq1.sub_tuple_tuple; have f3 := PySem.AutoSeq1.sub_list_list; have f4 := PySem.AutoSeq1.sub_tuple_list; have f5 := PySem.AutoSeq1.sub_list_tuple;
    have hz' : (items ++ items2).size ≤ sizeLine + 1 := by rw [Array.size_append]; exact hs2
    wp_walk using (wpAny_updateSeq hl rfl (hz := hs1) (_hz' := hz')), PySem.AutoSeq1.wpAny_loadPart' hl, PySem.AutoSeq1.wpAny_loadPart' hb; exact ⟨_, rfl, h⟩
def rExtendT (K : PySem.W.Frag) : V → List V → Hp → VK → Prop := fun x vs H Q => ∃ l b xs zs, x = .ref l ∧ vs = [.ref b] ∧ H l = some (.lst xs) ∧ SqT K H b zs ∧ xs.length + zs.length ≤ sizeLine ∧ Q .non (upd H l (.lst (xs ++ zs)))
theorem mt_extendT : MtM X "list.extend" (rExtendT X.K) := by
  intro pins s σ H x vs v us Q I rx rv h
  obtain ⟨l, b, xs, zs, rfl, rfl, hH, hB, hz, q⟩ := h
  cases rx
  obtain ⟨u, rfl, ru⟩ := rv.one
  cases ru
  obtain ⟨z, its, n, r, hl, e⟩ := I.lstM hH
  obtain ⟨its2, r2, ⟨⟨cls, dd, data, sl⟩, e2, hc, n2, hd⟩, z2⟩ := I.tuple hB
  simp only at hc hd
  subst hc hd
  have hl2 := r2.length
  have hsz : its.toArray.size + its2.toArray.size ≤ sizeLine := by rw [List.size_toArray, List.size_toArray]; omega
  have hlong : ¬ (!its.toArray.isEmpty && Builtin.List.listTooLong (its.toArray.size + its2.toArray.size)) = true := by
    rw [notLongL hsz, Bool.and_false]
    exact Bool.false_ne_true
  refine call_meets F.slot_list_extend ⟨_, e, rfl⟩ F.entry_list_extend (F.args_list_extend_2 _ _)
    (list_extend_tup l its.toArray n b its2.toArray n2 dd sl hlong (by rw [List.size_toArray]; omega) (by omega)) ⟨e, e2, ?_⟩
  refine ⟨.non, _, I.lset (its' := its ++ its2) hH e (by simp) (r.append r2) ?_, rfl, q⟩
  rw [List.length_append]
  omega
end
section
variable {X : Cx} {CX : CXT} {k : Nat} {f : Addr} {fd : FuncData} {ps : List Str} {sp : Sp} {dvs : List V} {ds : List Value} {E : XK} {x : Str} {p pos : Pos} {e : Expr} {es : List Expr} {ta : TE} {t : TA}
end
section
variable {X : Cx} {o : Expr} {lo hi : Expr} {to tl th : TE} {pos p2 : Pos}
end
end L2
set_option Elab.async false
set_option linter.all false
set_option maxRecDepth 100000
namespace L2
open PySem PySem.Spec PyProof.Rows
def SameX (l : Addr) (H H' : Hp) : Prop := ∀ b u, b ≠ l → H b = some u → H' b = some u
theorem same_new {H : Hp} {p : Addr} (h : H p = none) (o : HO) : Same H (upd H p o) := fun b u q => by rw [upd_ne (ne_of_none q h)]; exact q
theorem samex_upd {H : Hp} {p : Addr} (o : HO) : SameX p H (upd H p o) := fun b u n q => by rw [upd_ne n]; exact q
theorem Same.x {H H' : Hp} (h : Same H H') (l : Addr) : SameX l H H' := fun b u _ q => h b u q
theorem SameX.trans {l : Addr} {H H1 H2 : Hp} (a : SameX l H H1) (b : SameX l H1 H2) : SameX l H H2 := fun c u n q => b c u n (a c u n q)
/-- tuples stay -/
def Tups (H H' : Hp) : Prop := ∀ b xs, H b = some (.tup xs) → H' b = some (.tup xs)
theorem Same.tups {H H' : Hp} (h : Same H H') : Tups H H' := fun b xs q => h b _ q
theorem SameX.tups {l : Addr} {H H' : Hp} {ys : List V} (h : SameX l H H') (hl : H l = some (.lst ys)) : Tups H H' := fun b xs q => h b _ (ne_of q hl (by intro z; cases z)) q
theorem SameX.tupsK {l : Addr} {H H' : Hp} {ys : List (Key × V)} (h : SameX l H H') (hl : H l = some (.dK ys)) : Tups H H' := fun b xs q => h b _ (ne_of q hl (by intro z; cases z)) q
theorem Tups.trans {H H1 H2 : Hp} (a : Tups H H1) (b : Tups H1 H2) : Tups H H2 := fun c xs q => b c xs (a c xs q)
theorem Tups.refl (H : Hp) : Tups H H := fun _ _ q => q
def newO (H : Hp) (o : HO) (Q : VK) : Prop := ∀ p H', Same H H' → H' p = some o → H p = none → Q (.ref p) H'
theorem newO.at {H : Hp} {o : HO} {Q : VK} (h : newO H o Q) (p : Addr) (hp : H p = none) : Q (.ref p) (upd H p o) := h p _ (same_new hp o) upd_same hp
def updO (H : Hp) (l : Addr) (o : HO) (Q : Hp → Prop) : Prop := ∀ H', SameX l H H' → H' l = some o → Q H'
theorem updO.at {H : Hp} {l : Addr} {o : HO} {Q : Hp → Prop} (h : updO H l o Q) : Q (upd H l o) := h _ (samex_upd o) upd_same
theorem OpR.mono {X : Cx} {f : Value → Value → Sem Value} {r r' : R2} (h : OpR X f r) (hr : ∀ x y H Q, r' x y H Q → r x y H Q) : OpR X f r' := fun pins s σ H x y v u Q I rx ry q => h pins s σ H x y v u Q I rx ry (hr _ _ _ _ q)
theorem CallR.mono {X : Cx} {f : Value} {r r' : List V → Hp → VK → Prop} (h : CallR X f r) (hr : ∀ xs H Q, r' xs H Q → r xs H Q) : CallR X f r' := fun pins s σ H xs us Q I rx q => h pins s σ H xs us Q I rx (hr _ _ _ q)
theorem MtM.mono {X : Cx} {id : String} {r r' : V → List V → Hp → VK → Prop} (h : MtM X id r) (hr : ∀ x xs H Q, r' x xs H Q → r x xs H Q) : MtM X id r' := fun pins s σ H x xs v us Q I rx rv q => h pins s σ H x xs v us Q I rx rv (hr _ _ _ _ q)
theorem PSet.mono {X : Cx} {r r' : TSet} (h : PSet X r) (hr : ∀ o i v H Q, r' o i v H Q → r o i v H Q) : PSet X r' := fun pins s σ H o i v ov iv u Q I ro ri rv q => h pins s σ H o i v ov iv u Q I ro ri rv (hr _ _ _ _ _ q)
theorem SlR.mono {X : Cx} {r r' : V → Option Int → Option Int → Hp → VK → Prop} (h : SlR X r) (hr : ∀ x lo hi H Q, r' x lo hi H Q → r x lo hi H Q) : SlR X r' := fun pins s σ H x v vl vu lo hi sl Q I rx hs pl pu q => h pins s σ H x v vl vu lo hi sl Q I rx hs pl pu (hr _ _ _ _ _ q)
section
variable {X : Cx} {e o : Expr} {es : List Expr} {te : TE} {t : TA} {pos : Pos}
def tTupN (t : TA) : TE := fun σ H Q => t σ H fun xs H1 => xs.length ≤ sizeLine ∧ newO H1 (.tup xs) Q
def tLstN (t : TA) : TE := fun σ H Q => t σ H fun xs H1 => xs.length ≤ sizeLine ∧ newO H1 (.lst xs) Q
theorem pe_tupN {x1} (h : PA X es t) : PE X (.Tuple es x1 pos) (tTupN t) := by
  intro pins s σ H Q I hq
  refine wpAny_Tuple_spliced (thn (h pos pins s σ H _ I hq) fun us s1 ⟨xs, H1, I1, r, z, q⟩ => ⟨by rw [← r.length]; exact z, ?_⟩)
  have hf : H1 s1.heap.objs.size = none := I1.hok.fresh (Nat.le_refl _)
  refine ⟨.ref s1.heap.objs.size, upd H1 s1.heap.objs.size (.tup xs), I1.laid (t' := s1.toks) (fun b u e => Heap.get?_push_of_some _ e) (Nat.le_refl _) ?_, rfl, q.at _ hf⟩
  exact ⟨z, us, r, ⟨_, Heap.get?_push_size _ rfl, rfl, _, rfl⟩⟩
theorem pe_lstN (h : PA X es t) : PE X (.List es pos) (tLstN t) := by
  intro pins s σ H Q I hq
  refine wpAny_List_spliced (thn (h pos pins s σ H _ I hq) fun us s1 ⟨xs, H1, I1, r, z, q⟩ => ⟨by rw [← r.length]; exact z, ?_⟩)
  have hf : H1 s1.heap.objs.size = none := I1.hok.fresh (Nat.le_refl _)
  refine ⟨.ref s1.heap.objs.size, upd H1 s1.heap.objs.size (.lst xs), I1.laid (t' := s1.toks) (fun b u e => Heap.get?_push_of_some _ e) (Nat.le_refl _) ?_, rfl, q.at _ hf⟩
  exact ⟨z, us, 0, r, Heap.get?_push_size _ rfl⟩
/-- a + b: ints, texts, lists, tuples -/
def rPlus (K : PySem.W.Frag) : R2 := fun x y H Q => match x with
  | .int i => ∃ j, y = .int j ∧ Q (.int (i + j)) H
  | .str i => ∃ j, y = .str j ∧ i.length + j.length ≤ sizeLine ∧ Q (.str (i ++ j)) H
  | .ref a => (∃ b xs zs, y = .ref b ∧ H a = some (.lst xs) ∧ H b = some (.lst zs) ∧ xs.length + zs.length ≤ sizeLine ∧ newO H (.lst (xs ++ zs)) Q) ∨ rCatT K x y H Q
  | _ => False
theorem op_addA : OpR X (binaryOp .Add) (rPlus X.K) := by
  refine ((op_add.or op_add_str).or (op_cat.or op_catT)).mono fun x y H Q h => ?_
  unfold rPlus at h
  cases x with
  | int i => obtain ⟨j, rfl, q⟩ := h; exact .inl (.inl ⟨i, j, rfl, rfl, q⟩)
  | str i => obtain ⟨j, rfl, hl, q⟩ := h; exact .inl (.inr ⟨i, j, rfl, rfl, hl, q⟩)
  | ref a =>
    rcases h with ⟨b, xs, zs, rfl, h1, h2, hz, q⟩ | h
    · exact .inr (.inl ⟨a, b, xs, zs, rfl, rfl, h1, h2, hz, fun p hp => q.at p hp⟩)
    · exact .inr (.inr h)
  | _ => exact h.elim
theorem op_mulA : OpR X (binaryOp .Mult) (rI IntMulOk fun i j => .int (i * j)) := opI fun _ _ _ _ _ _ _ hc q => mul_int q hc
def rSlLN (K : PySem.W.Frag) : V → Option Int → Option Int → Hp → VK → Prop := fun x lo hi H Q => ∃ a xs, x = .ref a ∧ SqL K H a xs ∧ newO H (.lst (cutV xs lo hi)) Q
theorem sl_listN : SlR X (rSlLN X.K) := sl_list.mono fun x lo hi H Q ⟨a, xs, e, h, q⟩ => ⟨a, xs, e, h, fun p hp => q.at p hp⟩
def rAppendN : V → List V → Hp → VK → Prop := fun x vs H Q => ∃ l xs y, x = .ref l ∧ vs = [y] ∧ H l = some (.lst xs) ∧ xs.length < sizeLine ∧ updO H l (.lst (xs ++ [y])) (Q .non)
theorem mt_appendN : MtM X "list.append" rAppendN := mt_append.mono fun x xs H Q ⟨l, ys, y, e1, e2, h, hz, q⟩ => ⟨l, ys, y, e1, e2, h, hz, q.at⟩
def rExtendTN (K : PySem.W.Frag) : V → List V → Hp → VK → Prop := fun x vs H Q => ∃ l b xs zs, x = .ref l ∧ vs = [.ref b] ∧ H l = some (.lst xs) ∧ SqT K H b zs ∧ xs.length + zs.length ≤ sizeLine ∧ updO H l (.lst (xs ++ zs)) (Q .non)
theorem mt_extendTN : MtM X "list.extend" (rExtendTN X.K) := mt_extendT.mono fun x xs H Q ⟨l, b, ys, zs, e1, e2, h1, h2, hz, q⟩ => ⟨l, b, ys, zs, e1, e2, h1, h2, hz, q.at⟩
def rPopN : V → List V → Hp → VK → Prop := fun x vs H Q => ∃ l xs y, x = .ref l ∧ vs = [] ∧ H l = some (.lst (xs ++ [y])) ∧ updO H l (.lst xs) (Q y)
theorem mt_popN : MtM X "list.pop" rPopN := mt_pop.mono fun x xs H Q ⟨l, ys, y, e1, e2, h, q⟩ => ⟨l, ys ++ [y], y, e1, e2, h, by simp, by rw [List.dropLast_concat]; exact q.at⟩
def rSetLN : TSet := fun o i v H Q => ∃ p xs k j, o = .ref p ∧ i = .int k ∧ H p = some (.lst xs) ∧ ixN xs.length k = some j ∧ updO H p (.lst (xs.set j v)) Q
theorem set_listN : PSet X rSetLN := set_list.mono fun o i v H Q ⟨p, xs, k, j, e1, e2, h, hj, q⟩ => ⟨p, xs, k, j, e1, e2, h, hj, q.at⟩
end
section
variable {X : Cx} (K : PySem.W.Frag) (hK : X.K = K) {a e o : Expr} {es : List Expr} {ta to : TE} {t : TA} {pos : Pos} {name : Str} {apos cpos : Pos} {T idn : String} {r : V → List V → Hp → VK → Prop} {tg l : Expr} {tl : TE}
include hK
theorem ix_seqk : IxR X (rIx K) := hK ▸ ix_seq
theorem op_addk : OpR X (binaryOp .Add) (rPlus K) := hK ▸ op_addA
theorem sl_listk : SlR X (rSlLN K) := hK ▸ sl_listN
theorem mt_extendTk : MtM X "list.extend" (rExtendTN K) := hK ▸ mt_extendTN
def rLen (K : PySem.W.Frag) : List V → Hp → VK → Prop := fun xs H Q => ∃ x n, xs = [x] ∧ LenV K x H n ∧ Q (.int n) H
theorem call_lenk : CallR X (.builtin "len") (rLen K) := hK ▸ call_len
def rAllB (K : PySem.W.Frag) : List V → Hp → VK → Prop := fun xs H Q => ∃ (p : Addr) (bs : List Bool), xs = [.ref p] ∧ SqL K H p (bs.map V.bl) ∧ Q (.bl (bs.all id)) H
theorem call_allk (hc : X.calm = true) : CallR X (.builtin "all") (rAllB K) := hK ▸ call_all_l hc
def tTru (K : PySem.W.Frag) (ta : TE) : TT := fun σ H Q => ta σ H fun x H' => ∃ k, TruV K x H' k ∧ Q k H'
theorem pt_truthk (ha : PE X a ta) (he : ∀ whole, isTrue a X.env whole = (do let v ← whole; standAt a.pos; holding [v] (truthy v))) : PT X a (tTru K ta) := hK ▸ pt_truth ha he
theorem pe_bm0k (pa : PlainAttrs T) (slot : Slot T name idn) (hty : typeOf (.builtin idn) = pure (.type "method_descriptor")) (hm : MtR X idn r) (ho : PE X o to)
    (hbase : attributeBase o name X.env (eval o X.env) = eval o X.env := by rfl) (hline : (apos.endLine == cpos.line) = true := by rfl) : PE X (.Call (.Attribute o name apos) [] [] cpos) (tBM0 K T r to) := hK ▸ pe_bm0 pa slot hty hm ho hbase hline
theorem pe_bmk (pa : PlainAttrs T) (slot : Slot T name idn) (hty : typeOf (.builtin idn) = pure (.type "method_descriptor")) (hm : MtR X idn r) (ho : PE X o to) (ha : PA X (e :: es) t)
    (hbase : attributeBase o name X.env (eval o X.env) = eval o X.env := by rfl)
    (hfew : ((backTo cpos (starEach (e :: es) X.env)).all (fun x => !x.1) && (backToKw cpos (keywordEach [] X.env)).all (fun x => x.1.isSome)
      && decide ((e :: es).length + ([] : List Keyword).length + (if ([] : List Keyword).isEmpty then 0 else 1) < 30)) = true := by rfl)
    (hline : (apos.endLine == cpos.line) = true := by rfl) (hs : starEach (e :: es) X.env = (false, eval e X.env) :: starEach es X.env := by rfl) (hplain : (backTo cpos (starEach es X.env)).any (·.1) = false := by rfl) :
    PE X (.Call (.Attribute o name apos) (e :: es) [] cpos) (tBM K T r to t) := hK ▸ pe_bm pa slot hty hm ho ha hbase hfew hline hs hplain
omit hK
end
structure Cal (P : Program) (w : World) (K : PySem.W.Frag) (mg : Str → Option Value) (base : Heap) (x : Str) (k : Nat) (ps : List Str) (sp : Sp) where
  f : Addr
  fd : FuncData
  ok : FnOk P w K mg base CX0 k f fd ps sp
  bi : Binds K fd ps []
  kp : PySem.W.keepIn K (.ref f) = true
  at' : mg x = some (.ref f)
section
variable {X : Cx} {k k' : Nat} {ps : List Str} {sp : Sp} {x : Str} {p pos : Pos} {e : Expr} {es : List Expr} {t : TA} {ta : TE}
def tCalC (sp : Sp) (t : TA) : TE := fun σ H Q => t σ H fun vs H1 => sp vs H1 Q E0
theorem pe_cal (G : Cal X.prog X.w X.K X.mg X.base x k ps sp) (hr : Room k' X.A) (hk : k ≤ k') (hg : Gl X x) (ha : PA X (e :: es) t) (hdb : (x == ("__debug__" : Str)) = false := by decide)
    (he : starEach (e :: es) X.env = (false, eval e X.env) :: starEach es X.env := by rfl) (hpl : (backTo pos (starEach es X.env)).any (·.1) = false := by rfl) :
    PE X (.Call (.Name x p) (e :: es) [] pos) (tCalC sp t) := by
  intro pins s σ H Q I h
  refine wpAny_Call_Name_kw (ld_glob I hg G.at' ?_ hdb)
  refine PySem.W.callWith_K (h₀ := X.base) I.ok.mod.kin G.kp (thn (ha pos pins s σ H _ I h) fun us s1 ⟨vs, H1, I1, r, q⟩ => ⟨I1.kIn, ?_⟩) he hpl
  refine run_fn (dvs := []) (ds := []) G.ok (hr.mono hk) G.bi .nil pass0 I1 r ?_
  rw [List.append_nil]
  exact q
end
section
variable {g : TG} {tb : TS} {D : Ends} {σ : St} {H : Hp}
end
section
variable {t u : TS} {D : Ends} {σ : St} {H : Hp} {te ta tb : TE} {tA tB' : TT} {g : TG} {Q : VK} {QT : Bool → Hp → Prop} {QA : List V → Hp → Prop} {QS : St → Hp → Prop} {i : Nat} {v : V} {ts : TA}
end
section
variable {σ : St} {H : Hp} {Q : VK} {v : V} {D : Ends} {ts : TA} {te ta : TE} {QS : St → Hp → Prop} {R : It → Hp → Prop}
theorem atI_lt {α : Type} {xs : List α} {i : Int} (h0 : 0 ≤ i) (h1 : i < xs.length) : ∃ v, atI xs i = some v ∧ xs[i.toNat]? = some v := by
  have hk : i.toNat < xs.length := by omega
  have q : atI xs ((i.toNat : Nat) : Int) = some xs[i.toNat] := atI_nat (by rw [List.getElem?_eq_getElem hk])
  have e : ((i.toNat : Nat) : Int) = i := by omega
  rw [e] at q
  exact ⟨_, q, by rw [List.getElem?_eq_getElem hk]⟩
theorem mul_l {i j : Int} (h1 : -18446744073709551616 < i) (h2 : i < 18446744073709551616) : IntMulOk i j := CMul.ok (.inl ⟨h1, h2⟩)
theorem mul_r {i j : Int} (h1 : -18446744073709551616 < j) (h2 : j < 18446744073709551616) : IntMulOk i j := CMul.ok (.inr ⟨h1, h2⟩)
theorem ite_bl {c : Prop} [Decidable c] {A B : Prop} (h1 : c → A) (h2 : ¬ c → B) : if (decide c) = true then A else B := by
  by_cases h : c
  · rw [decide_eq_true h, if_pos rfl]; exact h1 h
  · rw [decide_eq_false h, if_neg Bool.false_ne_true]; exact h2 h
end
theorem ite01 {b : Bool} : (0 : Int) ≤ if b = true then 1 else 0 := by cases b <;> decide
theorem small' {n : Nat} (h : n ≤ 1000) : n ≤ sizeLine := Nat.le_of_lt (small1000 h)
/-- the list comprehension by an invariant -/
def LcW (n : Nat) (P : Nat → St → List V → Hp → Addr → Prop) (D : Addr) : Nat → Nat → St → List V → Hp → Prop := fun i m σ' ys H => m = n - i ∧ i ≤ n ∧ P i σ' ys H D
def LcEnd (n : Nat) (P : Nat → St → List V → Hp → Addr → Prop) (D : Addr) (i : Nat) (ys : List V) (σ2 : St) (y : V) (H4 : Hp) : Prop :=
  H4 D = some (.lst ys) ∧ ys.length + 1 ≤ sizeLine ∧ ∃ m', m' < n - i ∧ LcW n P D (i + 1) m' σ2 (ys ++ [y]) (upd H4 D (.lst (ys ++ [y])))
def LcSkip (n : Nat) (P : Nat → St → List V → Hp → Addr → Prop) (D : Addr) (i : Nat) (ys : List V) (σ2 : St) (H3 : Hp) : Prop := ∃ m', m' < n - i ∧ LcW n P D (i + 1) m' σ2 ys H3
theorem LcEnd.mk {n : Nat} {P : Nat → St → List V → Hp → Addr → Prop} {D : Addr} {i : Nat} {ys : List V} {σ2 : St} {y : V} {H4 : Hp} (hi : i < n) (h1 : H4 D = some (.lst ys)) (h2 : ys.length + 1 ≤ sizeLine)
    (h3 : ∀ H5, SameX D H4 H5 → H5 D = some (.lst (ys ++ [y])) → P (i + 1) σ2 (ys ++ [y]) H5 D) : LcEnd n P D i ys σ2 y H4 :=
  ⟨h1, h2, n - (i + 1), by omega, rfl, hi, h3 _ (samex_upd _) upd_same⟩
theorem LcSkip.mk {n : Nat} {P : Nat → St → List V → Hp → Addr → Prop} {D : Addr} {i : Nat} {ys : List V} {σ2 : St} {H3 : Hp} (hi : i < n) (h3 : P (i + 1) σ2 ys H3 D) : LcSkip n P D i ys σ2 H3 :=
  ⟨n - (i + 1), by omega, rfl, hi, h3⟩
end L2
set_option Elab.async false
set_option linter.all false
set_option maxRecDepth 100000
namespace L2
open PySem PySem.Spec PyProof.Rows
section
variable {X : Cx} (K : PySem.W.Frag) (hK : X.K = K)
include hK
end
end L2
set_option Elab.async false
set_option linter.all false
set_option maxRecDepth 100000
namespace L2
open PySem PySem.Spec PyProof.Rows
theorem PE.mono {X : Cx} {e : Expr} {t t' : TE} (h : PE X e t) (ht : ∀ σ H Q, t' σ H Q → t σ H Q) : PE X e t' := fun pins s σ H Q I q => h pins s σ H Q I (ht _ _ _ q)
section
variable {X : Cx} (K : PySem.W.Frag) (hK : X.K = K) {pos : Pos}
include hK
omit hK
def rExtendLN : V → List V → Hp → VK → Prop := fun x vs H Q => ∃ l b xs zs, x = .ref l ∧ vs = [.ref b] ∧ H l = some (.lst xs) ∧ H b = some (.lst zs) ∧ xs.length + zs.length ≤ sizeLine ∧ updO H l (.lst (xs ++ zs)) (Q .non)
theorem mt_extendLN : MtM X "list.extend" rExtendLN := mt_extend.mono fun x xs H Q ⟨l, b, ys, zs, e1, e2, h1, h2, hz, q⟩ => ⟨l, b, ys, zs, e1, e2, h1, h2, hz, q.at⟩
end
end L2
set_option Elab.async false
set_option linter.all false
set_option maxRecDepth 100000
namespace L2
open PySem PySem.Spec PyProof.Rows
theorem Vals.reverse' : ∀ {xs : List V} {us : List Value}, Vals xs us → Vals xs.reverse us.reverse
  | _, _, .nil => .nil
  | _, _, .cons h t => by rw [List.reverse_cons, List.reverse_cons]; exact (Vals.reverse' t).append (.cons h .nil)
theorem lk_len : typeLookup (.type "list_reverseiterator") (Str.ofString "__len__") = pure none := by kernel_rfl
theorem lk_hint : typeLookup (.type "list_reverseiterator") (Str.ofString "__length_hint__") = pure (some (.builtin "list_reverseiterator.__length_hint__")) := by kernel_rfl
theorem sp_hint : splitId "list_reverseiterator.__length_hint__" = some ("list_reverseiterator", "__length_hint__") := by kernel_rfl
theorem sub_rev : isSubtype (.type "list_reverseiterator") (.type "list_reverseiterator") = pure true := by kernel_rfl
theorem hint_rev {prog : Program} {w : World} {A : Around} {E : Value → Shared → Prop} {s : Shared} {r l : Addr} {i : Int} {Q : Bool → Shared → Prop} (h : s.heap.IsRevIter r l i) (q : Q false s) : wpAny (model prog w) A (Builtin.List.listLengthHint (Value.ref r)) Q E s := by
  unfold Builtin.List.listLengthHint
  refine wpAny_bind (wpAny_specialOf h.typeIs lk_len ?_)
  refine wpAny_bind (wpAny_specialOf h.typeIs lk_hint ?_)
  dsimp only
  rw [sp_hint]
  dsimp only
  refine wpAny_bind (wpAny_isInstance h.typeIs sub_rev ?_)
  rw [if_neg (by decide)]
  rw [if_pos (by decide)]
  rw [if_neg (by decide)]
  exact wpAny_pure q
theorem list_init_rev {prog : Program} {w : World} {A : Around} {s : Shared} {R : Result → Shared → Prop} {r l S : Addr} {items : Array Value} (hA : A.handled = none) (h : s.heap.IsRevIter r l (items.size - 1)) (hl : s.heap.IsList l items) (hne : l ≠ r) (hSr : S ≠ r) (hSl : S ≠ l) (hz : items.size ≤ sizeLine)
    (hS : s.heap.get? S = some { cls := Value.type "list", data := Data.seq #[] })
    (q : ∀ (h' : Heap) (tk : Nat) (acc : Array Value) (c : Nat), (∀ b o, b ≠ S → b ≠ r → s.heap.get? b = some o → h'.get? b = some o) → h'.get? S = some { cls := Value.type "list", data := Data.seq acc c } → ItemsOf (fun i v => items[items.size - 1 - i]? = some v) acc items.size → R (.ok (.ret .none)) { s with heap := h', toks := tk }) :
    wpAny (model prog w) A.in1 (Builtin.«list.__init__» { pos := [Value.ref S, Value.ref r] })
      (fun fin s' => match fin with | Fin.done f => R (Except.ok f) s' | Fin.again c' => c'.quiet = true ∧ codeAny (model prog w) A c' R s') (fun e s' => R (Except.error e) s') s := by
  unfold Builtin.«list.__init__»
  dsimp only
  rw [if_neg (by decide), if_neg (by simp)]
  refine wpAny_bind (wpAny_listItems hS rfl ?_)
  refine wpAny_bind ?_
  unfold Builtin.List.listUpdate
  dsimp only
  refine wpAny_updateSeq hS rfl ?_ (by simp) (by simp)
  refine wpAny_bind (wpAny_letGo ?_)
  have k1 : ∀ b o, b ≠ S → s.heap.get? b = some o → (s.heap.update S (Obj.mapSeq fun _ => #[])).get? b = some o := fun b o hb e => by rw [Heap.get?_update_other _ _ (Ne.symm hb)]; exact e
  have hS1 := Heap.get?_update_self (Obj.mapSeq fun _ => #[]) hS rfl
  generalize s.heap.update S (Obj.mapSeq fun _ => #[]) = h1 at k1 hS1 ⊢
  have hr1 : h1.IsRevIter r l (items.size - 1) := let ⟨o, e, p⟩ := h; ⟨o, k1 _ _ (Ne.symm hSr) e, p⟩
  have hl1 : h1.IsList l items := let ⟨o, e, p⟩ := hl; ⟨o, k1 _ _ (Ne.symm hSl) e, p⟩
  unfold Builtin.List.listExtendWith
  refine wpAny_bind (wpAny_typeOf (T := "list_reverseiterator") hr1.typeIs ?_)
  rw [if_neg (by
    have e1 : Builtin.List.listSameRef (Value.ref S) (Value.ref r) = false := by
      unfold Builtin.List.listSameRef
      simpa using hSr
    rw [e1]
    decide)]
  refine wpAny_bind (wpAny_pyIter_revIter hr1 ?_)
  refine wpAny_bind (wpAny_holding (hint_rev hr1 ?_))
  rw [if_neg (by decide)]
  refine wpAny_pure ⟨plainId_quiet F.plain_extend_loop _, ?_⟩
  refine codeAny_extend_loopS (Walks.toS (Walks.listRev (A := A.in1) hA r l hne items)) hz S (by simp [hSr, hSl]) .none items.size 0 _ #[] _ (Nat.sub_zero _) (Nat.zero_le _) ⟨Nat.zero_le _, by simpa using hr1, hl1⟩ hS1 (ItemsOf.nil _) ?_
  intro s' acc c mv e io
  rw [mv.eq_with]
  exact q s'.heap s'.toks acc c (fun b o n1 n2 e' => mv.heap b o (by simp [n1, n2]) (k1 b o n1 e')) e io
theorem call_list_rev {prog : Program} {w : World} {A : Around} {E : Value → Shared → Prop} {s : Shared} {r l : Addr} {items : Array Value} {Q : Value → Shared → Prop} (hA : A.handled = none) (h : s.heap.IsRevIter r l (items.size - 1)) (hl : s.heap.IsList l items) (hne : l ≠ r) (hz : items.size ≤ sizeLine)
    (q : ∀ (h' : Heap) (tk : Nat) (acc : Array Value) (c : Nat), (∀ b o, b ≠ r → s.heap.get? b = some o → h'.get? b = some o) → h'.get? s.heap.objs.size = some { cls := Value.type "list", data := Data.seq acc c } → ItemsOf (fun i v => items[items.size - 1 - i]? = some v) acc items.size → Q (.ref s.heap.objs.size) { s with heap := h', toks := tk }) :
    wpAny (model prog w) A (call (Value.type "list") [Value.ref r]) Q E s := by
  have lr : r < s.heap.objs.size := let ⟨_, e, _⟩ := h; Heap.lt_size e
  have ll : l < s.heap.objs.size := let ⟨_, e, _⟩ := hl; Heap.lt_size e
  refine callType_codes F.called_list (F.typeCall_list_1 _) F.entry_list_init (code_list_new (Q₁ := fun v s₁ => v = .ref s.heap.objs.size ∧ s₁ = { s with heap := s.heap.push { cls := Value.type "list", data := Data.seq #[] } }) _ ⟨rfl, rfl⟩) ?_
  rintro obj s₁ ⟨rfl, rfl⟩
  refine ⟨⟨_, Heap.get?_push_size _ rfl, rfl⟩, F.args_list_init_2 _ _, ?_⟩
  have kp : ∀ b o, s.heap.get? b = some o → (s.heap.push { cls := Value.type "list", data := Data.seq #[] }).get? b = some o := fun b o e => Heap.get?_push_of_some _ e
  refine list_init_rev (A := A.in1) (items := items) (l := l) hA (let ⟨o, e, p⟩ := h; ⟨o, kp _ _ e, p⟩) (let ⟨o, e, p⟩ := hl; ⟨o, kp _ _ e, p⟩) hne (fun z => by rw [z] at lr; exact Nat.lt_irrefl _ lr) (fun z => by rw [z] at ll; exact Nat.lt_irrefl _ ll) hz (Heap.get?_push_size _ rfl) ?_
  intro h' tk acc c k e io
  exact ⟨rfl, q h' tk acc c (fun b o n e' => k b o (fun z => by rw [z] at e'; exact Nat.lt_irrefl _ (Heap.lt_size e')) n (kp b o e')) e io⟩
def tLR (K : PySem.W.Frag) (te : TE) : TE := fun σ H Q => te σ H fun x H1 => ∃ p ys, x = .ref p ∧ SqL K H1 p ys ∧ newO H1 (.lst ys.reverse) Q
section
variable {X : Cx} (K : PySem.W.Frag) (hK : X.K = K) {e : Expr} {te : TE} {p1 p2 q1 q2 : Pos}
include hK
theorem pe_listrev (hc : X.calm = true) (hg1 : Gl X "list") (hm1 : X.mg "list" = none) (hg2 : Gl X "reversed") (hm2 : X.mg "reversed" = none) (he : PE X e te)
    (hs1 : starEach [.Call (.Name "reversed" q1) [e] [] q2] X.env = (false, eval (.Call (.Name "reversed" q1) [e] [] q2) X.env) :: starEach [] X.env := by rfl) (hs2 : starEach [e] X.env = (false, eval e X.env) :: starEach [] X.env := by rfl) :
    PE X (.Call (.Name "list" p1) [.Call (.Name "reversed" q1) [e] [] q2] [] p2) (tLR K te) := by
  intro pins s σ H Q I h
  subst hK
  refine wpAny_Call_Name_kw (ld_blt I hg1 hm1 boot_list ?_ (by decide) (by decide))
  refine PyProof.Rows.callWith_type1 ?_ hs1 rfl
  rw [hs1]
  show wpAny _ _ (spliced ((false, eval (.Call (.Name "reversed" q1) [e] [] q2) X.env) :: backTo p2 (starEach [] X.env))) _ _ s
  refine Calls.spliced_cons ?_
  refine wpAny_Call_Name_kw (ld_blt I hg2 hm2 boot_reversed ?_ (by decide) (by decide))
  refine PyProof.Rows.callWith_type1 ?_ hs2 rfl
  rw [hs2]
  show wpAny _ _ (spliced ((false, eval e X.env) :: backTo q2 (starEach [] X.env))) _ _ s
  refine Calls.spliced_cons (thn (he pins s σ H _ I h) fun u s1 ⟨x, H1, I1, r1, pa, ys, ex, hS, q⟩ => Calls.spliced_nil ?_)
  subst ex
  cases r1
  obtain ⟨its, rv, pl, hz⟩ := I1.list hS
  have hlen := rv.length
  have lp : pa < s1.heap.objs.size := let ⟨_, e, _⟩ := pl.isList; Heap.lt_size e
  refine call_reversed_list pl.isList ?_
  refine Calls.spliced_nil ?_
  have kp : ∀ b o, s1.heap.get? b = some o → (s1.heap.push (revObj pa (its.toArray.size - 1))).get? b = some o := fun b o e => Heap.get?_push_of_some _ e
  refine call_list_rev (items := its.toArray) (l := pa) (r := s1.heap.objs.size) (I1.ok.hd hc) ⟨_, Heap.get?_push_size _ rfl, rfl, rfl⟩ (let ⟨o, e, p⟩ := pl.isList; ⟨o, kp _ _ e, p⟩) (fun z => by rw [z] at lp; exact Nat.lt_irrefl _ lp) (by rw [List.size_toArray]; omega) ?_
  intro h' tk acc c k e io
  have kk : ∀ b o, s1.heap.get? b = some o → h'.get? b = some o := fun b o eb => k b o (fun z => by rw [z] at eb; exact Nat.lt_irrefl _ (Heap.lt_size eb)) (kp b o eb)
  have ea : acc = its.reverse.toArray := by
    obtain ⟨z1, z2⟩ := io
    apply Array.ext
    · rw [z1, List.size_toArray, List.size_toArray, List.length_reverse]
    · intro j h1 h2
      have := z2 j acc[j] (Array.getElem?_eq_getElem h1)
      rw [List.size_toArray] at this
      have hj : j < its.length := by rw [z1, List.size_toArray] at h1; exact h1
      rw [List.getElem?_toArray] at this
      have e3 : its.reverse[j]? = some acc[j] := by rw [List.getElem?_reverse hj]; exact this
      rw [List.getElem_toArray]
      exact (Option.some.inj (((List.getElem?_eq_getElem (by rw [List.length_reverse]; exact hj)).symm.trans e3))).symm
  subst ea
  have hs2 : s1.heap.objs.size ≤ (s1.heap.push (revObj pa (its.toArray.size - 1))).objs.size := by simp [Heap.push]
  refine ⟨.ref _, upd H1 _ (.lst ys.reverse), I1.laid (t' := tk) kk hs2 ?_, rfl, q.at _ (I1.hok.fresh hs2)⟩
  exact ⟨by rw [List.length_reverse]; exact hz, its.reverse, c, rv.reverse', e⟩
end
end L2
set_option Elab.async false
set_option linter.all false
set_option maxRecDepth 100000
namespace My
open PySem PySem.Spec PyProof.Rows L2
def handOk (xs : List V) : Prop := ∃ g s : Int, xs = [.int g, .int s] ∧ 0 ≤ g ∧ 0 ≤ s ∧ s < 2305843009213693951
/-- the hand at h -/
def Hand (H : Hp) (h : Addr) : Prop := ∃ xs, H h = some (.lst xs) ∧ handOk xs
/-- behind a draw: the hand is one, all else is as it was -/
structure Drew (h : Addr) (H H' : Hp) : Prop where
  x : SameX h H H'
  hand : Hand H' h
theorem Drew.trans {h : Addr} {H H1 H2 : Hp} (a : Drew h H H1) (b : Drew h H1 H2) : Drew h H H2 := ⟨a.x.trans b.x, b.hand⟩
theorem Hand.same {H H' : Hp} {h : Addr} (a : Hand H h) (s : Same H H') : Hand H' h := let ⟨xs, e, o⟩ := a; ⟨xs, s _ _ e, o⟩
theorem Hand.ne {H H' : Hp} {h l : Addr} (a : Hand H h) (s : SameX l H H') (n : h ≠ l) : Hand H' h := let ⟨xs, e, o⟩ := a; ⟨xs, s _ _ n e, o⟩
theorem Drew.same {h : Addr} {H H1 H2 : Hp} (a : Drew h H H1) (b : Same H1 H2) : Drew h H H2 := ⟨a.x.trans (b.x h), a.hand.same b⟩
theorem Drew.of {h : Addr} {H H1 : Hp} (a : Hand H h) (b : Same H H1) : Drew h H H1 := ⟨b.x h, a.same b⟩
theorem Drew.tups {h : Addr} {H H1 : Hp} (a : Drew h H H1) (b : Hand H h) : Tups H H1 := let ⟨_, e, _⟩ := b; a.x.tups e
/-- what was a list stays, but the hand -/
theorem Drew.keep {h l : Addr} {H H1 : Hp} (a : Drew h H H1) {o : HO} (n : l ≠ h) (e : H l = some o) : H1 l = some o := a.x l o n e
theorem Drew.sq {K : PySem.W.Frag} {h l : Addr} {H H1 : Hp} {xs : List V} (a : Drew h H H1) (b : Hand H h) (n : l ≠ h) (e : SqL K H l xs) : SqL K H1 l xs := by
  rcases e with (e | ⟨o, e⟩) | e
  · exact .inl (.inl (a.x l _ n e))
  · exact .inl (.inr ⟨o, a.x l _ n e⟩)
  · exact .inr e
def Wd (x : Str) : Prop := 1 ≤ x.length ∧ x.length ≤ 8 ∧ ∀ c ∈ x.cps.toList, 97 ≤ c ∧ c < 123
/-- a piece of a word -/
def Part (x : Str) (n : Nat) : Prop := x.length ≤ n ∧ ∀ c ∈ x.cps.toList, 97 ≤ c ∧ c < 123
theorem Part.append {x y : Str} {m n : Nat} (a : Part x m) (b : Part y n) : Part (x ++ y) (m + n) := by
  refine ⟨?_, fun c hc => ?_⟩
  · rw [Str.length_append]; have := a.1; have := b.1; omega
  · rw [Str.cps_append, Array.toList_append] at hc
    rcases List.mem_append.mp hc with h | h
    · exact a.2 c h
    · exact b.2 c h
/-- the letters are unlike -/
theorem letters_nodup {d st : Int} (h : st = 1 ∨ st = 3 ∨ st = 5 ∨ st = 7 ∨ st = 9 ∨ st = 11) {n : Nat} (hn : n ≤ 26) : ((List.range n).map fun k : Nat => some (97 + ((d + st * (0 + (k : Int))) % 26).toNat)).Nodup := by
  unfold List.Nodup
  rw [List.pairwise_map]
  refine List.Pairwise.imp_of_mem ?_ List.pairwise_lt_range
  intro a b ha hb hab hz
  have hb' := List.mem_range.mp hb
  have hz' := Option.some.inj hz
  rcases h with rfl | rfl | rfl | rfl | rfl | rfl <;> omega
theorem nodup_of_map {α β : Type} {g : α → β} {l : List α} (h : (l.map g).Nodup) : l.Nodup := (List.pairwise_map.mp h).imp fun h e => h (congrArg g e)
theorem word_sign (x y : Str) (c : Nat) : (x ++ ⟨#[c]⟩ ++ y).cps[x.length]? = some c := by
  rw [Str.cps_append, Str.cps_append]
  show ((x.cps ++ #[c]) ++ y.cps)[x.cps.size]? = some c
  rw [Array.getElem?_append_left (by simp), Array.getElem?_append_right (Nat.le_refl _)]
  simp
theorem letter_all : ∀ k : _root_.Fin 26, atI ("abcdefghijklmnopqrstuvwxyz" : Str).cps.toList (k.val : Int) = some (97 + k.val) := by decide +kernel
theorem letter_at {n : Int} (h0 : 0 ≤ n) (h1 : n < 26) : atI ("abcdefghijklmnopqrstuvwxyz" : Str).cps.toList n = some (97 + n.toNat) := by
  have e := letter_all ⟨n.toNat, by omega⟩
  have e2 : ((n.toNat : Nat) : Int) = n := by omega
  rw [e2] at e
  exact e
theorem one_part {c : Nat} (h0 : 97 ≤ c) (h1 : c < 123) : Part ⟨#[c]⟩ 1 := by
  refine ⟨Nat.le_refl _, fun d hd => ?_⟩
  have : d = c := by simpa using hd
  subst this
  exact ⟨h0, h1⟩
inductive Tr where
  | leaf (x : Str)
  | node (l r : Tr)
def Tr.leaves : Tr → List Str
  | .leaf x => [x]
  | .node l r => l.leaves ++ r.leaves
def Tr.size : Tr → Nat
  | .leaf _ => 1
  | .node l r => l.size + r.size + 1
def Tr.depth : Tr → Nat
  | .leaf _ => 0
  | .node l r => max l.depth r.depth + 1
inductive TAt (H : Hp) : V → Tr → Prop where
  | leaf (x : Str) : TAt H (.str x) (.leaf x)
  | node {a : Addr} {x y : V} {l r : Tr} : H a = some (.tup [x, y]) → TAt H x l → TAt H y r → TAt H (.ref a) (.node l r)
theorem TAt.mono {H H' : Hp} (h : Tups H H') {v : V} {t : Tr} (a : TAt H v t) : TAt H' v t := by
  induction a with
  | leaf x => exact .leaf x
  | node e _ _ i1 i2 => exact .node (h _ _ e) i1 i2
def Tr.Ws (t : Tr) : Prop := ∀ x ∈ t.leaves, Wd x
/-- trees side by side -/
inductive TAts (H : Hp) : List V → List Tr → Prop where
  | nil : TAts H [] []
  | cons {x : V} {t : Tr} {xs : List V} {ts : List Tr} : TAt H x t → TAts H xs ts → TAts H (x :: xs) (t :: ts)
theorem TAts.mono {H H' : Hp} (h : Tups H H') {vs : List V} {ts : List Tr} (a : TAts H vs ts) : TAts H' vs ts := by
  induction a with
  | nil => exact .nil
  | cons e _ i => exact .cons (e.mono h) i
theorem TAts.length {H : Hp} {vs : List V} {ts : List Tr} (a : TAts H vs ts) : vs.length = ts.length := by
  induction a with
  | nil => rfl
  | cons _ _ i => simp [i]
theorem TAts.append {H : Hp} {xs ys : List V} {ts us : List Tr} (a : TAts H xs ts) (b : TAts H ys us) : TAts H (xs ++ ys) (ts ++ us) := by
  induction a with
  | nil => exact b
  | cons e _ i => exact .cons e i
theorem TAts.take {H : Hp} : ∀ {xs : List V} {ts : List Tr} (n : Nat), TAts H xs ts → TAts H (xs.take n) (ts.take n)
  | _, _, 0, _ => by simp; exact .nil
  | _, _, _ + 1, .nil => .nil
  | _, _, n + 1, .cons e r => .cons e (TAts.take n r)
theorem TAts.drop {H : Hp} : ∀ {xs : List V} {ts : List Tr} (n : Nat), TAts H xs ts → TAts H (xs.drop n) (ts.drop n)
  | _, _, 0, r => r
  | _, _, _ + 1, .nil => .nil
  | _, _, n + 1, .cons _ r => TAts.drop n r
theorem TAts.get {H : Hp} : ∀ {xs : List V} {ts : List Tr} {n : Nat} {x : V}, TAts H xs ts → xs[n]? = some x → ∃ t, ts[n]? = some t ∧ TAt H x t
  | _, _, _, _, .nil, e => by simp at e
  | _, _, 0, _, .cons h _, e => by simp at e; subst e; exact ⟨_, rfl, h⟩
  | _, _, n + 1, x, .cons _ r, e => by
    obtain ⟨t, h1, h2⟩ := TAts.get (n := n) (x := x) r (by simpa using e)
    exact ⟨t, by simpa using h1, h2⟩
theorem SqL.keep {K : PySem.W.Frag} {H : Hp} {a h : Addr} {xs : List V} (hS : SqL K H a xs) (n : H h = none) {H' : Hp} (x : SameX h H H') : SqL K H' a xs := by
  rcases hS with (e | ⟨o, e⟩) | e
  · exact .inl (.inl (x _ _ (ne_of_none e n) e))
  · exact .inl (.inr ⟨o, x _ _ (ne_of_none e n) e⟩)
  · exact .inr e
theorem Hand.fresh {H : Hp} {h p : Addr} (a : Hand H h) (n : H p = none) : p ≠ h := fun z => by obtain ⟨xs, e, _⟩ := a; rw [z, e] at n; cases n
theorem in_letters_all : ∀ k : _root_.Fin 26, (!(Builtin.Str.occurrences ("abcdefghijklmnopqrstuvwxyz" : Str) ⟨#[97 + k.val]⟩ 0 ("abcdefghijklmnopqrstuvwxyz" : Str).length 1).isEmpty) = true := by decide +kernel
theorem in_letters {c : Nat} (h0 : 97 ≤ c) (h1 : c < 123) : (!(Builtin.Str.occurrences ("abcdefghijklmnopqrstuvwxyz" : Str) ⟨#[c]⟩ 0 ("abcdefghijklmnopqrstuvwxyz" : Str).length 1).isEmpty) = true := by
  have e := in_letters_all ⟨c - 97, by omega⟩
  have e2 : 97 + (c - 97) = c := by omega
  simp only [e2] at e
  exact e
def sizes (ts : List Tr) : Nat := (ts.map Tr.size).sum
theorem sizes_append (a b : List Tr) : sizes (a ++ b) = sizes a + sizes b := by unfold sizes; rw [List.map_append, List.sum_append]
theorem sizes_one (t : Tr) : sizes [t] = t.size := by simp [sizes]
theorem Tr.size_pos : ∀ t : Tr, 1 ≤ t.size
  | .leaf _ => Nat.le_refl _
  | .node l r => by show 1 ≤ l.size + r.size + 1; omega
theorem len_sizes : ∀ ts : List Tr, ts.length ≤ sizes ts
  | [] => Nat.le_refl _
  | t :: r => by have := len_sizes r; have := t.size_pos; show r.length + 1 ≤ t.size + sizes r; omega
/-- the last of some trees -/
theorem TAts.last {H : Hp} : ∀ {xs : List V} {ts : List Tr}, TAts H xs ts → xs ≠ [] → ∃ ys y us u, xs = ys ++ [y] ∧ ts = us ++ [u] ∧ TAts H ys us ∧ TAt H y u
  | _, _, .nil, h => absurd rfl h
  | _, _, .cons (x := x) (t := t) h .nil, _ => ⟨[], x, [], t, rfl, rfl, .nil, h⟩
  | _, _, .cons (x := x) (t := t) h (.cons h' r), _ => by
    obtain ⟨ys, y, us, u, e1, e2, q1, q2⟩ := TAts.last (.cons h' r) (by simp)
    exact ⟨x :: ys, y, t :: us, u, by rw [e1]; rfl, by rw [e2]; rfl, .cons h q1, q2⟩
end My
set_option Elab.async false
set_option linter.all false
set_option maxRecDepth 100000
namespace L2
open PySem PySem.Spec PyProof.Rows
section
variable {X : Cx} (K : PySem.W.Frag) (hK : X.K = K) {pos p1 p2 : Pos} {k1 k2 k3 e1 e2 : Expr} {t1 t2 : TE}
include hK
end
end L2
set_option Elab.async false
set_option linter.all false
set_option maxRecDepth 100000
namespace My
open PySem PySem.Spec PyProof.Rows L2
def inL (c : Nat) : Bool := !(Builtin.Str.occurrences ("abcdefghijklmnopqrstuvwxyz" : Str) ⟨#[c]⟩ 0 ("abcdefghijklmnopqrstuvwxyz" : Str).length 1).isEmpty
theorem inL_wd {x : Str} (h : Wd x) : (x.cps.toList.map inL).all id = true := by
  rw [List.all_eq_true]
  intro b hb
  obtain ⟨c, hc, rfl⟩ := List.mem_map.mp hb
  obtain ⟨c0, c1⟩ := h.2.2 c hc
  exact in_letters c0 c1
theorem TyOf.same {K : PySem.W.Frag} {H H' : Hp} {v : V} {t : Value} (s : Same H H') (h : TyOf K H v t) : TyOf K H' v t := by
  cases h with
  | non => exact .non
  | bl x => exact .bl x
  | int i => exact .int i
  | str x => exact .str x
  | flt x => exact .flt x
  | lst e => exact .lst (s _ _ e)
  | frz e => exact .frz (s _ _ e)
  | tup e => exact .tup (s _ _ e)
  | dK e => exact .dK (s _ _ e)
  | dT e => exact .dT (s _ _ e)
  | ins e cl ha hn htk hm => exact .ins (s _ _ e) cl ha hn htk hm
end My
set_option Elab.async false
set_option linter.all false
set_option maxRecDepth 100000
namespace My
open PySem PySem.Spec PyProof.Rows L2
inductive Th where
  | str (x : Str)
  | node (l r : Th)
  | bad
def Th.size : Th → Nat
  | .str _ => 1
  | .node l r => l.size + r.size + 1
  | .bad => 1
theorem Th.size_pos : ∀ t : Th, 1 ≤ t.size
  | .str _ => Nat.le_refl _
  | .node l r => by show 1 ≤ l.size + r.size + 1; omega
  | .bad => Nat.le_refl _
/-- a text of which both looks tell the same -/
def Fit (x : Str) : Prop := x.length ≤ 9 ∧ decide (Txt.stripChars x "abcdefghijklmnopqrstuvwxyz" = "") = (x.cps.toList.map inL).all id
inductive ThAt (K : PySem.W.Frag) (H : Hp) : V → Th → Prop where
  | str {x : Str} : Fit x → ThAt K H (.str x) (.str x)
  | node {a : Addr} {x y : V} {l r : Th} : H a = some (.tup [x, y]) → ThAt K H x l → ThAt K H y r → ThAt K H (.ref a) (.node l r)
  | tup {a : Addr} {xs : List V} : H a = some (.tup xs) → xs.length ≠ 2 → ThAt K H (.ref a) .bad
  | oth {v : V} {t : Value} : TyOf K H v t → PySem.W.kitOne K t (.type "tuple") = some false → PySem.W.kitOne K t (.type "str") = some false → ThAt K H v .bad
theorem ThAt.same {K : PySem.W.Frag} {H H' : Hp} (s : Same H H') {v : V} {t : Th} (a : ThAt K H v t) : ThAt K H' v t := by
  induction a with
  | str h => exact .str h
  | node e _ _ i1 i2 => exact .node (s _ _ e) i1 i2
  | tup e h => exact .tup (s _ _ e) h
  | oth t h1 h2 => exact .oth (TyOf.same s t) h1 h2
inductive ThAts (K : PySem.W.Frag) (H : Hp) : List V → List Th → Prop where
  | nil : ThAts K H [] []
  | cons {x : V} {t : Th} {xs : List V} {ts : List Th} : ThAt K H x t → ThAts K H xs ts → ThAts K H (x :: xs) (t :: ts)
theorem ThAts.length {K : PySem.W.Frag} {H : Hp} {vs : List V} {ts : List Th} (a : ThAts K H vs ts) : vs.length = ts.length := by
  induction a with
  | nil => rfl
  | cons _ _ i => simp [i]
theorem ThAts.append {K : PySem.W.Frag} {H : Hp} {xs ys : List V} {ts us : List Th} (a : ThAts K H xs ts) (b : ThAts K H ys us) : ThAts K H (xs ++ ys) (ts ++ us) := by
  induction a with
  | nil => exact b
  | cons e _ i => exact .cons e i
theorem ThAts.last {K : PySem.W.Frag} {H : Hp} : ∀ {xs : List V} {ts : List Th}, ThAts K H xs ts → xs ≠ [] → ∃ ys y us u, xs = ys ++ [y] ∧ ts = us ++ [u] ∧ ThAts K H ys us ∧ ThAt K H y u
  | _, _, .nil, h => absurd rfl h
  | _, _, .cons (x := x) (t := t) h .nil, _ => ⟨[], x, [], t, rfl, rfl, .nil, h⟩
  | _, _, .cons (x := x) (t := t) h (.cons h' r), _ => by
    obtain ⟨ys, y, us, u, e1, e2, q1, q2⟩ := ThAts.last (.cons h' r) (by simp)
    exact ⟨x :: ys, y, t :: us, u, by rw [e1]; rfl, by rw [e2]; rfl, .cons h q1, q2⟩
theorem cont_all : ∀ k : _root_.Fin 26, ("abcdefghijklmnopqrstuvwxyz" : Str).cps.contains (97 + k.val) = true := by decide +kernel
theorem cont_of {c : Nat} (h0 : 97 ≤ c) (h1 : c < 123) : ("abcdefghijklmnopqrstuvwxyz" : Str).cps.contains c = true := by
  have e := cont_all ⟨c - 97, by omega⟩
  have e2 : 97 + (c - 97) = c := by omega
  simp only [e2] at e
  exact e
theorem takeWhile_all {g : Nat → Bool} : ∀ {l : List Nat}, (∀ c ∈ l, g c = true) → l.takeWhile g = l
  | [], _ => rfl
  | c :: l, h => by
    rw [List.takeWhile_cons, if_pos (h c (List.mem_cons_self ..)), takeWhile_all fun d hd => h d (List.mem_cons_of_mem _ hd)]
theorem strip_wd {x : Str} (h : Wd x) : Txt.stripChars x "abcdefghijklmnopqrstuvwxyz" = "" := by
  have hg : ∀ c ∈ x.cps.toList, ("abcdefghijklmnopqrstuvwxyz" : Str).cps.contains c = true := fun c hc => cont_of (h.2.2 c hc).1 (h.2.2 c hc).2
  have e1 : stripLo ("abcdefghijklmnopqrstuvwxyz" : Str).cps.contains true x = x.length := by
    unfold stripLo
    rw [if_pos rfl, takeWhile_all hg]
    exact Array.length_toList ..
  have e2 : stripHi ("abcdefghijklmnopqrstuvwxyz" : Str).cps.contains true x x.length = x.length := by
    unfold stripHi
    rw [if_pos rfl]
    have : List.drop x.length x.cps.toList = [] := List.drop_eq_nil_of_le (Nat.le_of_eq (Array.length_toList ..))
    rw [this]
    rfl
  unfold Txt.stripChars Txt.stripBy
  rw [if_neg]
  · unfold stripped
    rw [e1, e2]
    unfold Builtin.Str.strSub
    have : x.cps.extract x.length x.length = #[] := by simp; exact Nat.min_le_left _ _
    rw [this]
    rfl
  · unfold stripSame
    rw [e1]
    have := h.1
    have : (x.length == 0) = false := by simp; omega
    rw [this]
    simp
theorem fit_wd {x : Str} (h : Wd x) : Fit x := ⟨by have := h.2.1; omega, by rw [strip_wd h, inL_wd h]; exact decide_eq_true rfl⟩
theorem TAt.th {K : PySem.W.Frag} {H : Hp} {v : V} {t : Tr} (h : TAt H v t) : t.Ws → ∃ u, ThAt K H v u ∧ u.size = t.size := by
  induction h with
  | leaf x => exact fun hw => ⟨.str x, .str (fit_wd (hw x (List.mem_singleton.mpr rfl))), rfl⟩
  | node e _ _ i1 i2 =>
    intro hw
    obtain ⟨u1, h1, s1⟩ := i1 fun x hx => hw x (List.mem_append_left _ hx)
    obtain ⟨u2, h2, s2⟩ := i2 fun x hx => hw x (List.mem_append_right _ hx)
    exact ⟨.node u1 u2, .node e h1 h2, by show u1.size + u2.size + 1 = _; rw [s1, s2]; rfl⟩
section
variable {K : PySem.W.Frag} {H : Hp} {a : Addr}
end
end My
set_option Elab.async false
set_option linter.all false
set_option maxRecDepth 100000
namespace My
open PySem PySem.Spec PyProof.Rows L2
theorem TAt.fn {H : Hp} {v : V} {t : Tr} (h : TAt H v t) : ∀ {u : Tr}, TAt H v u → t = u := by
  induction h with
  | leaf x => intro u h; cases h; rfl
  | node e _ _ i1 i2 =>
    intro u h
    cases h with
    | node e' h1 h2 =>
      rw [e] at e'
      cases e'
      rw [i1 h1, i2 h2]
section
variable {X : Cx} {pins : List (Addr × Obj)} {σ : L2.St} {H : Hp} {s : Shared}
end
theorem room200 {k : Nat} {A : Around} (r : Room k A) : A.units + 200 < cLine := by have := r.un; omega
def Tr.post : Tr → List Tr
  | .leaf x => [.leaf x]
  | .node l r => l.post ++ r.post ++ [.node l r]
theorem Tr.post_len : ∀ t : Tr, t.post.length = t.size
  | .leaf _ => rfl
  | .node l r => by show (l.post ++ r.post ++ [_]).length = l.size + r.size + 1; rw [List.length_append, List.length_append, l.post_len, r.post_len]; rfl
def posts (ts : List Tr) : List Tr := (ts.map Tr.post).flatten
theorem posts_append (a b : List Tr) : posts (a ++ b) = posts a ++ posts b := by unfold posts; rw [List.map_append, List.flatten_append]
theorem posts_one (t : Tr) : posts [t] = t.post := by simp [posts]
theorem posts_two (t u : Tr) : posts [t, u] = t.post ++ u.post := by simp [posts]
/-- a row of nodes -/
inductive Ent where
  | word (x : Str)
  | pair (a b : Nat)
def Tr.nd : Tr → Nat → List Ent
  | .leaf x, _ => [.word x]
  | .node l r, o => l.nd o ++ r.nd (o + l.size) ++ [.pair (o + l.size - 1) (o + l.size + r.size - 1)]
theorem Tr.nd_len : ∀ (t : Tr) (o : Nat), (t.nd o).length = t.size
  | .leaf _, _ => rfl
  | .node l r, o => by show (l.nd o ++ r.nd (o + l.size) ++ [_]).length = l.size + r.size + 1; rw [List.length_append, List.length_append, l.nd_len, r.nd_len]; rfl
/-- what the loop over the parts does; the loose ones with the last ahead -/
def run : List Tr → List Ent → List Nat → Option (List Ent × List Nat)
  | [], told, ls => some (told, ls)
  | .leaf x :: k, told, ls => run k (told ++ [.word x]) (told.length :: ls)
  | .node _ _ :: k, told, b :: a :: ls => run k (told ++ [.pair a b]) (told.length :: ls)
  | .node _ _ :: _, _, _ => none
theorem run_post : ∀ (t : Tr) (k : List Tr) (told : List Ent) (ls : List Nat), run (t.post ++ k) told ls = run k (told ++ t.nd told.length) ((told.length + t.size - 1) :: ls)
  | .leaf x, k, told, ls => rfl
  | .node l r, k, told, ls => by
    have e1 : (Tr.node l r).post ++ k = l.post ++ (r.post ++ (Tr.node l r :: k)) := by show l.post ++ r.post ++ [_] ++ k = _; simp
    rw [e1, run_post l, run_post r]
    have e2 : (told ++ l.nd told.length).length = told.length + l.size := by rw [List.length_append, l.nd_len]
    rw [e2]
    show run k _ _ = run k _ _
    have e3 : (told ++ l.nd told.length ++ r.nd (told.length + l.size)).length = told.length + (Tr.node l r).size - 1 := by
      rw [List.length_append, List.length_append, l.nd_len, r.nd_len]; show _ = told.length + (l.size + r.size + 1) - 1; omega
    rw [e3]
    have e4 : told ++ (Tr.node l r).nd told.length = told ++ l.nd told.length ++ r.nd (told.length + l.size) ++ [.pair (told.length + l.size - 1) (told.length + l.size + r.size - 1)] := by
      show told ++ (l.nd told.length ++ r.nd (told.length + l.size) ++ [_]) = _
      simp
    rw [e4]
theorem run_whole (t : Tr) : run t.post [] [] = some (t.nd 0, [t.size - 1]) := by
  have := run_post t [] [] []
  rw [List.append_nil] at this
  rw [this]
  show some ([] ++ t.nd 0, [0 + t.size - 1]) = _
  simp
def Tr.text : Tr → Str
  | .leaf x => x
  | .node l r => Str.empty ++ "(" ++ l.text ++ "," ++ r.text ++ ")"
def Tr.tl (t : Tr) : List Nat := t.text.cps.toList
end My
set_option Elab.async false
set_option linter.all false
set_option maxRecDepth 100000
namespace L2
open PySem PySem.Spec PyProof.Rows
theorem nextOf_tuple_item {prog : Program} {w : World} {A : Around} {E : Value → Shared → Prop} {s : Shared} {it t : Addr} {i : Nat} {items : Array Value} {x : Value} {Q : Value → Shared → Prop} (h : s.heap.IsTupleIter it t i) (ht : s.heap.IsTuple t items) (hx : items[i]? = some x)
    (q : ∀ h' : Heap, h'.IsTupleIter it t (i + 1) → Heap.SameBut it s.heap h' → Q x { s with heap := h' }) : wpAny (model prog w) A (Builtin.SmallTypes.nextOf (.ref it)) Q E s := by
  unfold Builtin.SmallTypes.nextOf
  refine wpAny_bind (wpAny_callSpecial?_slot h.typeIs F.slot_tuple_iterator_next (wpAny_call_entry F.slot_tuple_iterator_next h.typeIs F.entry_tuple_iterator_next ?_ (F.args_tuple_iterator_next_1 _)))
  obtain ⟨o, ho, hc, hd⟩ := id h
  obtain ⟨ot, hot, htc, n, htd⟩ := id ht
  show wpAny _ _ (field (.ref it) 0 >>= fun seq => _) _ _ s
  refine wpAny_bind (wpAny_field ho hd rfl ?_)
  show wpAny _ _ (field (.ref it) 1 >>= fun seq => _) _ _ s
  refine wpAny_bind (wpAny_field ho hd rfl ?_)
  show wpAny _ _ (seqItems? (.ref t) >>= fun seq => _) _ _ s
  refine wpAny_bind (wpAny_seqItems hot htd ?_)
  show wpAny _ _ (match items[i]? with | some x => (do setField (.ref it) 1 (rawInt ((i : Int) + 1)); ret x) | none => _) _ _ s
  rw [hx]
  refine wpAny_bind (wpAny_setField ho hd (show 1 < 2 by decide) ?_)
  refine wpAny_pure ⟨x, rfl, wpAny_pure (q _ ⟨_, Heap.get?_update_self _ ho (by rw [Obj.isFreed_of_fields (Obj.data_mapFields hd _)]), by rw [Obj.cls_mapFields]; exact hc, by rw [Obj.data_mapFields hd]; rfl⟩ (Heap.SameBut.update ..))⟩
theorem stop_it {prog : Program} {w : World} {A : Around} {E : Value → Shared → Prop} {s : Shared} {α : Type} {Q : α → Shared → Prop} (hA : A.handled = none)
    (q : ∀ (h' : Heap) (e : Addr), (∀ b o, s.heap.get? b = some o → h'.get? b = some o) → (∃ o, h'.get? e = some o ∧ o.cls = .type "StopIteration") → E (.ref e) { s with heap := h' }) : wpAny (model prog w) A (Builtin.SmallTypes.stopIteration (α := α)) Q E s := by
  unfold Builtin.SmallTypes.stopIteration newExc
  refine wpAny_bind ?_
  refine wpAny_bind (wpAny_newTuple ?_ (by show 0 ≤ sizeLine; decide))
  refine wpAny_bind (wpAny_of_eq (a := Value.none) rfl ?_)
  refine wpAny_newObj_type ?_ (sizeOk_excFields ..)
  unfold raiseNew
  refine wpAny_bind (wpAny_handled ?_)
  rw [hA]
  refine wpAny_throw (q _ _ (fun b o e => Heap.get?_push_of_some _ (Heap.get?_push_of_some _ e)) ⟨_, Heap.get?_push_size _ rfl, rfl⟩)
theorem nextOf_tuple_end {prog : Program} {w : World} {A : Around} {E : Value → Shared → Prop} {s : Shared} {it t : Addr} {i : Nat} {items : Array Value} {Q : Value → Shared → Prop} (hA : A.handled = none) (h : s.heap.IsTupleIter it t i) (ht : s.heap.IsTuple t items) (hx : items[i]? = none)
    (q : ∀ (h' : Heap) (e : Addr), Heap.ExtBut it s.heap h' → (∃ o, h'.get? e = some o ∧ o.cls = .type "StopIteration") → E (.ref e) { s with heap := h' }) : wpAny (model prog w) A (Builtin.SmallTypes.nextOf (.ref it)) Q E s := by
  unfold Builtin.SmallTypes.nextOf
  refine wpAny_bind (wpAny_callSpecial?_slot h.typeIs F.slot_tuple_iterator_next (wpAny_call_entry F.slot_tuple_iterator_next h.typeIs F.entry_tuple_iterator_next ?_ (F.args_tuple_iterator_next_1 _)))
  obtain ⟨o, ho, hc, hd⟩ := id h
  obtain ⟨ot, hot, htc, n, htd⟩ := id ht
  show wpAny _ _ (field (.ref it) 0 >>= fun seq => _) _ _ s
  refine wpAny_bind (wpAny_field ho hd rfl ?_)
  show wpAny _ _ (field (.ref it) 1 >>= fun seq => _) _ _ s
  refine wpAny_bind (wpAny_field ho hd rfl ?_)
  show wpAny _ _ (seqItems? (.ref t) >>= fun seq => _) _ _ s
  refine wpAny_bind (wpAny_seqItems hot htd ?_)
  show wpAny _ _ (match items[i]? with | some x => (do setField (.ref it) 1 (rawInt ((i : Int) + 1)); ret x) | none => (do rule _; setField (.ref it) 0 .none; Builtin.SmallTypes.stopIteration)) _ _ s
  rw [hx]
  refine wpAny_bind (wpAny_rule ?_)
  refine wpAny_bind (wpAny_setField ho hd (show 0 < 2 by decide) ?_)
  refine stop_it (A := A.in1) hA fun h' e k ex => q h' e (fun b o n eb => k b o ?_) ex
  rw [(Heap.SameBut.update _ _ _).2 b n]
  exact eb
/-- what the zip's objects are -/
structure ZipAt (h : Heap) (z TI TO i1 i2 a1 a2 : Addr) (f0 : Value) (k1 k2 : Nat) : Prop where
  zip : IsZip h z TI TO f0
  ti : IsPair h TI (.ref i1) (.ref i2)
  to : ∃ a b, IsPair h TO a b
  it1 : h.IsTupleIter i1 a1 k1
  it2 : h.IsTupleIter i2 a2 k2
theorem zip_next_itemT {prog : Program} {w : World} {A : Around} {E : Value → Shared → Prop} {s : Shared} {z TI TO i1 i2 a1 a2 : Addr} {k1 k2 : Nat} {xs ys : Array Value} {x y : Value} {Q : Value → Shared → Prop} (hA : ZipApart z TI TO i1 i2 a1 a2)
    (hz : ZipAt s.heap z TI TO i1 i2 a1 a2 .none k1 k2) (ht1 : s.heap.IsTuple a1 xs) (ht2 : s.heap.IsTuple a2 ys) (hx : xs[k1]? = some x) (hy : ys[k2]? = some y)
    (q : ∀ h' : Heap, ZipAt h' z TI TO i1 i2 a1 a2 (rawInt s.heap.objs.size) (k1 + 1) (k2 + 1) → IsPair h' s.heap.objs.size x y → (∀ c o, c ≠ z → c ≠ TO → c ≠ i1 → c ≠ i2 → s.heap.get? c = some o → h'.get? c = some o) → Q (.ref s.heap.objs.size) { s with heap := h' }) :
    wpAny (model prog w) A (Builtin.«zip.__next__» { pos := [.ref z] }) (fun fin s' => ∃ v, fin = Fin.done (Flow.ret v) ∧ Q v s') E s := by
  obtain ⟨hz, hti, ⟨ta, tb, hto⟩, hi1, hi2⟩ := hz
  show wpAny _ _ (field (.ref z) 2 >>= fun r => _) _ _ s
  refine wpAny_bind (wpAny_field hz rfl rfl ?_)
  show wpAny _ _ (field (.ref z) 3 >>= fun r => _) _ _ s
  refine wpAny_bind (wpAny_field hz rfl rfl ?_)
  show wpAny _ _ (seqItems? (.ref TI) >>= fun r => _) _ _ s
  refine wpAny_bind (wpAny_seqItems hti rfl ?_)
  show wpAny _ _ (Builtin.SmallTypes.ownedTupleIsFree (.ref z) >>= fun r => _) _ _ s
  refine wpAny_bind ?_
  unfold Builtin.SmallTypes.ownedTupleIsFree
  refine wpAny_bind (wpAny_field hz rfl rfl ?_)
  refine wpAny_pure ?_
  show wpAny _ _ (rule "zip.__next__.owned-tuple-again" >>= fun r => _) _ _ s
  refine wpAny_bind (wpAny_rule ?_)
  refine wpAny_bind (wpAny_field hz rfl rfl ?_)
  show wpAny _ _ (setField (.ref z) 0 .ellipsis >>= fun r => _) _ _ s
  refine wpAny_bind (wpAny_setField_rec hz (show 0 < 5 by decide) fun h1 z1 b1 => ?_)
  show wpAny _ _ ((forIn [(Value.ref i1, 0), (Value.ref i2, 1)] _ _) >>= fun r => _) _ _ _
  refine wpAny_bind ?_
  rw [List.forIn_cons]
  have get1 : ∀ b, b ≠ z → h1.get? b = s.heap.get? b := b1.2
  refine wpAny_bind ?_
  refine wpAny_bind (wpAny_onRaise ?_)
  show wpAny _ _ (Builtin.SmallTypes.nextOf (.ref i1) >>= fun v => pure (some v)) _ _ _
  refine wpAny_bind (nextOf_tuple_item (let ⟨o, e, p⟩ := hi1; ⟨o, (get1 _ hA.i1z).trans e, p⟩) (let ⟨o, e, p⟩ := ht1; ⟨o, (get1 _ hA.l1z).trans e, p⟩) hx fun h2 j2 b2 => wpAny_pure ?_)
  have get2 : ∀ b, b ≠ z → b ≠ i1 → h2.get? b = s.heap.get? b := fun b n1 n2 => (b2.2 b n2).trans (get1 b n1)
  have to2 : IsPair h2 TO ta tb := (get2 _ hA.TOz hA.TOi1).trans hto
  show wpAny _ _ (seqItems? (.ref TO) >>= fun r => _) _ _ _
  refine wpAny_bind (wpAny_seqItems to2 rfl ?_)
  refine wpAny_bind (wpAny_updateSeq_pair to2 fun h3 t3 b3 => ?_)
  have get3 : ∀ b, b ≠ z → b ≠ i1 → b ≠ TO → h3.get? b = s.heap.get? b := fun b n1 n2 n3 => (b3.2 b n3).trans (get2 b n1 n2)
  refine wpAny_bind (wpAny_letGo (wpAny_pure ?_))
  show wpAny _ _ (forIn [(Value.ref i2, 1)] _ _) _ _ _
  rw [List.forIn_cons]
  refine wpAny_bind ?_
  refine wpAny_bind (wpAny_onRaise ?_)
  show wpAny _ _ (Builtin.SmallTypes.nextOf (.ref i2) >>= fun v => pure (some v)) _ _ _
  refine wpAny_bind (nextOf_tuple_item (let ⟨o, e, p⟩ := hi2; ⟨o, (get3 _ hA.i2z hA.i12.symm hA.TOi2.symm).trans e, p⟩) (let ⟨o, e, p⟩ := ht2; ⟨o, (get3 _ hA.l2z hA.l2i1 hA.l2TO).trans e, p⟩) hy fun h4 j4 b4 => wpAny_pure ?_)
  have to4 : IsPair h4 TO x tb := (b4.2 _ hA.TOi2).trans t3
  show wpAny _ _ (seqItems? (.ref TO) >>= fun r => _) _ _ _
  refine wpAny_bind (wpAny_seqItems to4 rfl ?_)
  refine wpAny_bind (wpAny_updateSeq_pair to4 fun h5 t5 b5 => ?_)
  have to5 : IsPair h5 TO x y := t5
  refine wpAny_bind (wpAny_letGo (wpAny_pure ?_))
  show wpAny _ _ (forIn [] _ _) _ _ _
  rw [List.forIn_nil]
  refine wpAny_pure ?_
  show wpAny _ _ (seqItems? (.ref TO) >>= fun r => _) _ _ _
  refine wpAny_bind (wpAny_seqItems to5 rfl ?_)
  show wpAny _ _ (newTuple [x, y] >>= fun r => _) _ _ _
  have sz5 : h5.objs.size = s.heap.objs.size := b5.1.trans (b4.1.trans (b3.1.trans (b2.1.trans b1.1)))
  refine wpAny_bind (wpAny_newTuple ?_ (by show 2 ≤ sizeLine; decide))
  have get5 : ∀ b, b ≠ z → b ≠ i1 → b ≠ TO → b ≠ i2 → h5.get? b = s.heap.get? b := fun b n1 n2 n3 n4 => (b5.2 b n3).trans ((b4.2 b n4).trans (get3 b n1 n2 n3))
  have z5 : h5.get? z = some { cls := .type "zip", data := .fields #[.ellipsis, .bool false, .bool false, .ref TI, .ref TO] } := (b5.2 _ hA.TOz.symm).trans ((b4.2 _ hA.i2z.symm).trans ((b3.2 _ hA.TOz.symm).trans ((b2.2 _ hA.i1z.symm).trans z1)))
  have kp : ∀ b o, h5.get? b = some o → (h5.push { cls := .type "tuple", data := .seq #[x, y] }).get? b = some o := fun b o e => Heap.get?_push_of_some _ e
  have new6 : (h5.push { cls := .type "tuple", data := .seq #[x, y] }).get? h5.objs.size = some { cls := .type "tuple", data := .seq #[x, y] } := Heap.get?_push_size _ rfl
  refine wpAny_bind ?_
  show wpAny _ _ (setField (.ref z) 0 (rawInt h5.objs.size) >>= fun _ => setField (.ref z) 1 (.bool false)) _ _ _
  refine wpAny_bind (wpAny_setField_rec (kp _ _ z5) (show 0 < 5 by decide) fun h7 z7 b7 => ?_)
  refine wpAny_setField_rec z7 (show 1 < 5 by decide) fun h8 z8 b8 => ?_
  have get8 : ∀ b, b ≠ z → h8.get? b = (h5.push { cls := .type "tuple", data := .seq #[x, y] }).get? b := fun b n => (b8.2 b n).trans (b7.2 b n)
  have nz : s.heap.objs.size ≠ z := fun e => by have := Heap.lt_size hz; rw [← e] at this; exact Nat.lt_irrefl _ this
  refine wpAny_pure ⟨.ref h5.objs.size, rfl, ?_⟩
  rw [sz5]
  refine q h8 ⟨?_, ?_, ?_, ?_, ?_⟩ ?_ ?_
  · rw [← sz5]; exact z8
  · rw [IsPair, get8 _ hA.TIz]; exact kp _ _ ((get5 _ hA.TIz hA.TIi1 hA.TITO hA.TIi2).trans hti)
  · exact ⟨x, y, by rw [IsPair, get8 _ hA.TOz]; exact kp _ _ to5⟩
  · obtain ⟨o, e, p⟩ := j2
    refine ⟨o, ?_, p⟩
    rw [get8 _ hA.i1z]
    exact kp _ _ ((b5.2 _ hA.TOi1.symm).trans ((b4.2 _ hA.i12).trans ((b3.2 _ hA.TOi1.symm).trans e)))
  · obtain ⟨o, e, p⟩ := j4
    refine ⟨o, ?_, p⟩
    rw [get8 _ hA.i2z]
    exact kp _ _ ((b5.2 _ hA.TOi2.symm).trans e)
  · rw [IsPair, get8 _ nz, ← sz5]; exact new6
  · intro c o n1 n2 n3 n4 e
    rw [get8 _ n1]
    exact kp _ _ ((get5 _ n1 n3 n2 n4).trans e)
theorem zip_next_endT {prog : Program} {w : World} {A : Around} {E : Value → Shared → Prop} {s : Shared} {z TI TO i1 i2 a1 a2 : Addr} {k1 k2 : Nat} {xs ys : Array Value} {Q : PySem.Fin → Shared → Prop} (hh : A.handled = none) (hA : ZipApart z TI TO i1 i2 a1 a2)
    (hz : ZipAt s.heap z TI TO i1 i2 a1 a2 .none k1 k2) (ht1 : s.heap.IsTuple a1 xs) (hx : xs[k1]? = none)
    (q : ∀ (h' : Heap) (e : Addr), (∀ c o, c ≠ z → c ≠ i1 → s.heap.get? c = some o → h'.get? c = some o) → (∃ o, h'.get? e = some o ∧ o.cls = .type "StopIteration") → E (.ref e) { s with heap := h' }) :
    wpAny (model prog w) A (Builtin.«zip.__next__» { pos := [.ref z] }) Q E s := by
  obtain ⟨hz, hti, ⟨ta, tb, hto⟩, hi1, hi2⟩ := hz
  show wpAny _ _ (field (.ref z) 2 >>= fun r => _) _ _ s
  refine wpAny_bind (wpAny_field hz rfl rfl ?_)
  show wpAny _ _ (field (.ref z) 3 >>= fun r => _) _ _ s
  refine wpAny_bind (wpAny_field hz rfl rfl ?_)
  show wpAny _ _ (seqItems? (.ref TI) >>= fun r => _) _ _ s
  refine wpAny_bind (wpAny_seqItems hti rfl ?_)
  show wpAny _ _ (Builtin.SmallTypes.ownedTupleIsFree (.ref z) >>= fun r => _) _ _ s
  refine wpAny_bind ?_
  unfold Builtin.SmallTypes.ownedTupleIsFree
  refine wpAny_bind (wpAny_field hz rfl rfl ?_)
  refine wpAny_pure ?_
  show wpAny _ _ (rule "zip.__next__.owned-tuple-again" >>= fun r => _) _ _ s
  refine wpAny_bind (wpAny_rule ?_)
  refine wpAny_bind (wpAny_field hz rfl rfl ?_)
  show wpAny _ _ (setField (.ref z) 0 .ellipsis >>= fun r => _) _ _ s
  refine wpAny_bind (wpAny_setField_rec hz (show 0 < 5 by decide) fun h1 z1 b1 => ?_)
  show wpAny _ _ ((forIn [(Value.ref i1, 0), (Value.ref i2, 1)] _ _) >>= fun r => _) _ _ _
  refine wpAny_bind ?_
  rw [List.forIn_cons]
  have get1 : ∀ b, b ≠ z → h1.get? b = s.heap.get? b := b1.2
  refine wpAny_bind ?_
  refine wpAny_bind (wpAny_onRaise ?_)
  show wpAny _ _ (Builtin.SmallTypes.nextOf (.ref i1) >>= fun v => pure (some v)) _ _ _
  refine wpAny_bind (nextOf_tuple_end hh (let ⟨o, e, p⟩ := hi1; ⟨o, (get1 _ hA.i1z).trans e, p⟩) (let ⟨o, e, p⟩ := ht1; ⟨o, (get1 _ hA.l1z).trans e, p⟩) hx fun h2 e k ex => ?_)
  have z2 : h2.get? z = some { cls := .type "zip", data := .fields #[.ellipsis, .bool false, .bool false, .ref TI, .ref TO] } := k _ _ hA.i1z.symm z1
  refine wpAny_setField_rec z2 (show 0 < 5 by decide) fun h3 z3 b3 => ?_
  refine q h3 e (fun c o n1 n2 ec => ?_) ?_
  · rw [b3.2 _ n1]
    exact k _ _ n2 ((get1 _ n1).trans ec)
  · obtain ⟨o, eo, hc⟩ := ex
    by_cases he : e = z
    · subst he
      rw [z2] at eo
      cases eo
      exact absurd (show Value.type "zip" = Value.type "StopIteration" from hc) (by decide)
    · exact ⟨o, (b3.2 _ he).trans eo, hc⟩
theorem pyNext_zip_itemT {prog : Program} {w : World} {A : Around} {E : Value → Shared → Prop} {s : Shared} {z TI TO i1 i2 a1 a2 : Addr} {k1 k2 : Nat} {xs ys : Array Value} {x y : Value} {Q : Option Value → Shared → Prop} (hA : ZipApart z TI TO i1 i2 a1 a2)
    (hz : ZipAt s.heap z TI TO i1 i2 a1 a2 .none k1 k2) (ht1 : s.heap.IsTuple a1 xs) (ht2 : s.heap.IsTuple a2 ys) (hx : xs[k1]? = some x) (hy : ys[k2]? = some y)
    (q : ∀ h' : Heap, ZipAt h' z TI TO i1 i2 a1 a2 (rawInt s.heap.objs.size) (k1 + 1) (k2 + 1) → IsPair h' s.heap.objs.size x y → (∀ c o, c ≠ z → c ≠ TO → c ≠ i1 → c ≠ i2 → s.heap.get? c = some o → h'.get? c = some o) → Q (some (.ref s.heap.objs.size)) { s with heap := h' }) :
    wpAny (model prog w) A (pyNext (.ref z)) Q E s := by
  have ty : s.TypeIs (.ref z) "zip" := ⟨_, hz.zip, rfl⟩
  unfold pyNext
  refine wpAny_bind (wpAny_attempt (wpAny_callSpecial?_slot ty F.slot_zip_next (wpAny_call_entry F.slot_zip_next ty F.entry_zip_next ?_ (F.args_zip_next_1 _))))
  exact zip_next_itemT hA hz ht1 ht2 hx hy fun h' a b c => wpAny_pure (q h' a b c)
theorem pyNext_zip_endT {prog : Program} {w : World} {A : Around} {E : Value → Shared → Prop} {s : Shared} {z TI TO i1 i2 a1 a2 : Addr} {k1 k2 : Nat} {xs ys : Array Value} {Q : Option Value → Shared → Prop} (hh : A.handled = none) (hA : ZipApart z TI TO i1 i2 a1 a2)
    (hz : ZipAt s.heap z TI TO i1 i2 a1 a2 .none k1 k2) (ht1 : s.heap.IsTuple a1 xs) (hx : xs[k1]? = none)
    (q : ∀ h' : Heap, (∀ c o, c ≠ z → c ≠ i1 → s.heap.get? c = some o → h'.get? c = some o) → Q none { s with heap := h' }) :
    wpAny (model prog w) A (pyNext (.ref z)) Q E s := by
  have ty : s.TypeIs (.ref z) "zip" := ⟨_, hz.zip, rfl⟩
  unfold pyNext
  refine wpAny_bind (wpAny_attempt (wpAny_callSpecial?_slot ty F.slot_zip_next (wpAny_call_entry F.slot_zip_next ty F.entry_zip_next ?_ (F.args_zip_next_1 _))))
  refine zip_next_endT (A := A.in1) (ys := ys) hh hA hz ht1 hx fun h' e k ex => ?_
  obtain ⟨o, eo, hc⟩ := ex
  refine wpAny_bind (wpAny_isInstance (T := "StopIteration") ⟨o, eo, hc⟩ isSubtype_stop ?_)
  rw [if_pos rfl]
  exact wpAny_pure (q h' k)
theorem meets_zip_newT (a1 a2 : Addr) (xs ys : Array Value) : Meets (Builtin.«zip.__new__» { pos := [.type "zip", .ref a1, .ref a2] }) (fun _ R s => s.heap.IsTuple a1 xs ∧ s.heap.IsTuple a2 ys ∧
    ∀ h' : Heap, ZipAt h' (s.heap.objs.size + 4) (s.heap.objs.size + 2) (s.heap.objs.size + 3) s.heap.objs.size (s.heap.objs.size + 1) a1 a2 .none 0 0 → (∀ b o, s.heap.get? b = some o → h'.get? b = some o) → R (.ok (.ret (.ref (s.heap.objs.size + 4)))) { s with heap := h' }) :=
  .of_wp fun prog w A R s h => by
    obtain ⟨h1, h2, q⟩ := h
    unfold Builtin.«zip.__new__»
    refine wpAny_bind ?_
    unfold Builtin.SmallTypes.newClass
    refine wpAny_bind (wpAny_of_eq (a := true) rfl ?_)
    rw [if_neg (by decide)]
    refine wpAny_bind (wpAny_of_eq sub_zip ?_)
    rw [if_neg (by decide)]
    refine wpAny_pure ?_
    show wpAny _ _ (Builtin.SmallTypes.iterAll [.ref a1, .ref a2] >>= fun r => _) _ _ s
    refine wpAny_bind ?_
    unfold Builtin.SmallTypes.iterAll
    refine wpAny_bind ?_
    rw [List.forIn_cons]
    refine wpAny_bind ?_
    refine wpAny_bind (wpAny_holding (wpAny_pyIter_tuple h1 (wpAny_pure ?_)))
    have k1 : ∀ b o, s.heap.get? b = some o → (s.heap.push { cls := .type "tuple_iterator", data := .fields #[.ref a1, .int 0 0] }).get? b = some o := fun b o e => Heap.get?_push_of_some _ e
    have g1 : (s.heap.push { cls := .type "tuple_iterator", data := .fields #[.ref a1, .int 0 0] }).get? s.heap.objs.size = some { cls := .type "tuple_iterator", data := .fields #[.ref a1, .int 0 0] } := Heap.get?_push_size _ rfl
    have z1 : (s.heap.push { cls := .type "tuple_iterator", data := .fields #[.ref a1, .int 0 0] }).objs.size = s.heap.objs.size + 1 := Heap.size_push ..
    generalize s.heap.push { cls := .type "tuple_iterator", data := .fields #[.ref a1, .int 0 0] } = hp1 at k1 g1 z1 ⊢
    show wpAny _ _ (forIn [Value.ref a2] _ _) _ _ _
    rw [List.forIn_cons]
    refine wpAny_bind ?_
    refine wpAny_bind (wpAny_holding (wpAny_pyIter_tuple (items := ys) (let ⟨o, e, p⟩ := h2; ⟨o, k1 _ _ e, p⟩) (wpAny_pure ?_)))
    show wpAny _ _ (forIn [] _ _) _ _ _
    rw [List.forIn_nil]
    refine wpAny_pure (wpAny_pure ?_)
    have k2 : ∀ b o, hp1.get? b = some o → (hp1.push { cls := .type "tuple_iterator", data := .fields #[.ref a2, .int 0 0] }).get? b = some o := fun b o e => Heap.get?_push_of_some _ e
    have g2 : (hp1.push { cls := .type "tuple_iterator", data := .fields #[.ref a2, .int 0 0] }).get? hp1.objs.size = some { cls := .type "tuple_iterator", data := .fields #[.ref a2, .int 0 0] } := Heap.get?_push_size _ rfl
    have z2 : (hp1.push { cls := .type "tuple_iterator", data := .fields #[.ref a2, .int 0 0] }).objs.size = hp1.objs.size + 1 := Heap.size_push ..
    show wpAny _ _ (newTuple [.ref s.heap.objs.size, .ref hp1.objs.size] >>= fun r => _) _ _ { s with heap := hp1.push { cls := .type "tuple_iterator", data := .fields #[.ref a2, .int 0 0] } }
    generalize hp1.push { cls := .type "tuple_iterator", data := .fields #[.ref a2, .int 0 0] } = hp2 at k2 g2 z2 ⊢
    refine wpAny_bind (wpAny_newTuple ?_ (by show 2 ≤ sizeLine; decide))
    have k3 : ∀ b o, hp2.get? b = some o → (hp2.push { cls := .type "tuple", data := .seq [Value.ref s.heap.objs.size, Value.ref hp1.objs.size].toArray }).get? b = some o := fun b o e => Heap.get?_push_of_some _ e
    have g3 : (hp2.push { cls := .type "tuple", data := .seq [Value.ref s.heap.objs.size, Value.ref hp1.objs.size].toArray }).get? hp2.objs.size = some { cls := .type "tuple", data := .seq #[.ref s.heap.objs.size, .ref hp1.objs.size] } := Heap.get?_push_size _ rfl
    have z3 : (hp2.push { cls := .type "tuple", data := .seq [Value.ref s.heap.objs.size, Value.ref hp1.objs.size].toArray }).objs.size = hp2.objs.size + 1 := Heap.size_push ..
    show wpAny _ _ (newTuple [.none, .none] >>= fun r => _) _ _ { s with heap := hp2.push { cls := .type "tuple", data := .seq [Value.ref s.heap.objs.size, Value.ref hp1.objs.size].toArray } }
    generalize hp2.push { cls := .type "tuple", data := .seq [Value.ref s.heap.objs.size, Value.ref hp1.objs.size].toArray } = hp3 at k3 g3 z3 ⊢
    refine wpAny_bind (wpAny_newTuple ?_ (by show 2 ≤ sizeLine; decide))
    have k4 : ∀ b o, hp3.get? b = some o → (hp3.push { cls := .type "tuple", data := .seq [Value.none, Value.none].toArray }).get? b = some o := fun b o e => Heap.get?_push_of_some _ e
    have g4 : (hp3.push { cls := .type "tuple", data := .seq [Value.none, Value.none].toArray }).get? hp3.objs.size = some { cls := .type "tuple", data := .seq #[.none, .none] } := Heap.get?_push_size _ rfl
    have z4 : (hp3.push { cls := .type "tuple", data := .seq [Value.none, Value.none].toArray }).objs.size = hp3.objs.size + 1 := Heap.size_push ..
    show wpAny _ _ (newObj (.type "zip") (.fields #[.none, .bool false, .bool false, .ref hp2.objs.size, .ref hp3.objs.size]) >>= fun r => _) _ _ { s with heap := hp3.push { cls := .type "tuple", data := .seq [Value.none, Value.none].toArray } }
    generalize hp3.push { cls := .type "tuple", data := .seq [Value.none, Value.none].toArray } = hp4 at k4 g4 z4 ⊢
    refine wpAny_bind (wpAny_newObj_type ?_ (by simp [sizeOk]; decide))
    have k5 : ∀ b o, hp4.get? b = some o → (hp4.push { cls := .type "zip", data := .fields #[.none, .bool false, .bool false, .ref hp2.objs.size, .ref hp3.objs.size] }).get? b = some o := fun b o e => Heap.get?_push_of_some _ e
    have g5 : (hp4.push { cls := .type "zip", data := .fields #[.none, .bool false, .bool false, .ref hp2.objs.size, .ref hp3.objs.size] }).get? hp4.objs.size = some { cls := .type "zip", data := .fields #[.none, .bool false, .bool false, .ref hp2.objs.size, .ref hp3.objs.size] } := Heap.get?_push_size _ rfl
    have e1 : hp1.objs.size = s.heap.objs.size + 1 := z1
    have e2 : hp2.objs.size = s.heap.objs.size + 2 := by rw [z2, e1]
    have e3 : hp3.objs.size = s.heap.objs.size + 3 := by rw [z3, e2]
    have e4 : hp4.objs.size = s.heap.objs.size + 4 := by rw [z4, e3]
    refine wpAny_pure ⟨.ref hp4.objs.size, rfl, ?_⟩
    rw [e2, e3] at g5 k5 ⊢
    rw [e4] at g5 ⊢
    rw [e3] at g4
    rw [e1, e2] at g3
    rw [e1] at g2
    refine q _ ⟨g5, k5 _ _ (k4 _ _ g3), ⟨_, _, k5 _ _ g4⟩, ⟨_, k5 _ _ (k4 _ _ (k3 _ _ (k2 _ _ g1))), rfl, rfl⟩, ⟨_, k5 _ _ (k4 _ _ (k3 _ _ g2)), rfl, rfl⟩⟩ fun b o e => k5 _ _ (k4 _ _ (k3 _ _ (k2 _ _ (k1 _ _ e))))
theorem call_zipT {prog : Program} {w : World} {A : Around} {E : Value → Shared → Prop} {s : Shared} {a1 a2 : Addr} {xs ys : Array Value} {Q : Value → Shared → Prop} (h1 : s.heap.IsTuple a1 xs) (h2 : s.heap.IsTuple a2 ys)
    (q : ∀ h' : Heap, ZipAt h' (s.heap.objs.size + 4) (s.heap.objs.size + 2) (s.heap.objs.size + 3) s.heap.objs.size (s.heap.objs.size + 1) a1 a2 .none 0 0 → (∀ b o, s.heap.get? b = some o → h'.get? b = some o) → Q (.ref (s.heap.objs.size + 4)) { s with heap := h' }) :
    wpAny (model prog w) A (call (.type "zip") [.ref a1, .ref a2]) Q E s :=
  callType_new F.called_zip (by decide) (F.typeCall_zip_2 _ _) (F.newCall_zip_2 _ _) (fun o => F.args_object_init_3 o _ _) F.entry_zip_new (meets_zip_newT a1 a2 xs ys) ⟨h1, h2, fun h' z k => ⟨⟨_, z.zip, rfl⟩, q h' z k⟩⟩
theorem Inv.turnLaid {X : Cx} {pins : List (Addr × Obj)} {σ : L2.St} {H : Hp} {s : Shared} {h' : Heap} {t' : Nat} {ch : List Addr} {a : Addr} {o : HO} (I : Inv X pins σ H s) (hf : ∀ b ∈ ch, FpOk X pins H b) (k : ∀ b u, b ∉ ch → s.heap.get? b = some u → h'.get? b = some u)
    (hp : s.heap.objs.size ≤ a) (new : ObjOk X.prog X.w (upd H a o) h' a o) : Inv X pins σ (upd H a o) { s with heap := h', toks := t' } := by
  have hn := I.hok.fresh hp
  have nit : ∀ b u, H b = some u → b ∉ ch := fun b u e z => by rw [(hf b z).1] at e; cases e
  have nL : X.env.locals ∉ ch := fun z => (hf _ z).2.1 rfl
  refine I.step (g' := s.gens) (d' := s.drawn) (ch := ch) (fun b hb => ⟨(hf b hb).2.2.2.1, (hf b hb).2.1, (hf b hb).2.2.2.2.1, (hf b hb).2.2.2.2.2⟩) (fun b u _ _ hc e _ => k b u hc e) (fun b u _ _ hc e _ => ⟨u.slots, k b u hc e⟩)
    (fun b u _ e n => by rw [upd_ne (Nat.ne_of_lt (Nat.lt_of_lt_of_le (Heap.lt_size e) hp))]; exact n) (fun b u hc e => ⟨u, k b u hc e⟩) (fun b xs e => by rw [upd_ne (ne_of_none e hn)]; exact e) (fun b u xs e => by rw [upd_ne (ne_of_none e hn)]; exact e)
    (fun b ps e => ⟨#[], by rw [upd_ne (ne_of_none e hn), e]; simp⟩) (fun m hm => ?_) (fun b u e => ?_) I.bare
  · obtain ⟨o', es, ep, ho, r⟩ := hm
    exact ⟨o', es, ep, k _ o' nL ho, r⟩
  · by_cases hb : b = a
    · subst hb; rw [upd_same] at e; cases e; exact new
    · rw [upd_ne hb] at e
      refine (I.hok b u e).stay (fun c v hc q => k c v ?_ q) (fun c q => by rw [upd_ne (ne_of_none q hn)]; exact q) fun c xs q => by rw [upd_ne (ne_of_none q hn)]; exact q
      rcases hc with z | z
      · rw [z]; exact nit b u e
      · exact nit c _ z
theorem Inv.turnedN {X : Cx} {pins : List (Addr × Obj)} {σ : L2.St} {H : Hp} {s : Shared} {h' : Heap} {t' : Nat} {ch : List Addr} (I : Inv X pins σ H s) (hf : ∀ b ∈ ch, FpOk X pins H b) (k : ∀ b u, b ∉ ch → s.heap.get? b = some u → h'.get? b = some u) :
    Inv X pins σ H { s with heap := h', toks := t' } := by
  have nit : ∀ b u, H b = some u → b ∉ ch := fun b u e z => by rw [(hf b z).1] at e; cases e
  have nL : X.env.locals ∉ ch := fun z => (hf _ z).2.1 rfl
  refine I.step (g' := s.gens) (d' := s.drawn) (ch := ch) (fun b hb => ⟨(hf b hb).2.2.2.1, (hf b hb).2.1, (hf b hb).2.2.2.2.1, (hf b hb).2.2.2.2.2⟩) (fun b u _ _ hc e _ => k b u hc e) (fun b u _ _ hc e _ => ⟨u.slots, k b u hc e⟩)
    (fun _ _ _ _ n => n) (fun b u hc e => ⟨u, k b u hc e⟩) (fun _ _ e => e) (fun _ _ _ e => e) (fun b ps e => ⟨#[], by rw [e]; simp⟩) (fun m hm => ?_) (fun b u e => ?_) I.bare
  · obtain ⟨o', es, ep, ho, r⟩ := hm
    exact ⟨o', es, ep, k _ o' nL ho, r⟩
  · refine (I.hok b u e).stay (fun c v hc q => k c v ?_ q) (fun _ q => q) fun _ _ q => q
    rcases hc with z | z
    · rw [z]; exact nit b u e
    · exact nit c _ z
def Itz (K : PySem.W.Frag) (a1 a2 : Addr) : It where
  go := fun i H => ∃ xs ys x y, SqT K H a1 xs ∧ SqT K H a2 ys ∧ xs[i]? = some x ∧ ys[i]? = some y
  yld := fun i H v H' => ∃ p x y, v = .ref p ∧ H p = none ∧ H' = upd H p (.tup [x, y]) ∧ (∀ xs, SqT K H a1 xs → xs[i]? = some x) ∧ ∀ ys, SqT K H a2 ys → ys[i]? = some y
  stop := fun i H => ∃ xs, SqT K H a1 xs ∧ xs.length ≤ i
theorem vals_get {xs : List V} {us : List Value} (h : Vals xs us) : ∀ {i : Nat} {x : V}, xs[i]? = some x → ∃ u, us[i]? = some u ∧ RelV x u := by
  induction h with
  | nil => intro i x e; simp at e
  | cons r t ih =>
    intro i x e
    cases i with
    | zero => simp at e; subst e; exact ⟨_, rfl, r⟩
    | succ i => exact ih (by simpa using e)
theorem turn_zip {P : Program} {w : World} {K : PySem.W.Frag} {elts : List Expr} {kk : Nat} {pos : Pos} {z TI TO i1 i2 a1 a2 : Addr} (hA : ZipApart z TI TO i1 i2 a1 a2) : Turn P w K (.Tuple elts kk pos) (Itz K a1 a2) [z, TI, TO, i1, i2] z (fun i h => ZipAt h z TI TO i1 i2 a1 a2 .none i i) where
  mem := by simp
  obj := fun i h st b hb => by
    simp only [List.mem_cons, List.not_mem_nil, or_false] at hb
    rcases hb with rfl | rfl | rfl | rfl | rfl
    · exact ⟨_, st.zip, fun v z => by cases z⟩
    · exact ⟨_, st.ti, fun v z => by cases z⟩
    · obtain ⟨_, _, e⟩ := st.to; exact ⟨_, e, fun v z => by cases z⟩
    · obtain ⟨o, e, _, d⟩ := st.it1; exact ⟨o, e, fun v z => by rw [d] at z; cases z⟩
    · obtain ⟨o, e, _, d⟩ := st.it2; exact ⟨o, e, fun v z => by rw [d] at z; cases z⟩
  keep := fun i h h' st k => ⟨k z (by simp) _ st.zip, k TI (by simp) _ st.ti, let ⟨a, b, e⟩ := st.to; ⟨a, b, k TO (by simp) _ e⟩, let ⟨o, e, p⟩ := st.it1; ⟨o, k i1 (by simp) _ e, p⟩, let ⟨o, e, p⟩ := st.it2; ⟨o, k i2 (by simp) _ e, p⟩⟩
  item := by
    intro X hP hw hK hc i pins s σ H E I hf st hg
    subst hP hw hK
    obtain ⟨xs, ys, x, y, hx, hy, gx, gy⟩ := hg
    obtain ⟨its, rx, tx, _⟩ := I.tuple hx
    obtain ⟨its2, ry, ty, _⟩ := I.tuple hy
    obtain ⟨u, gu, ru⟩ := vals_get rx gx
    obtain ⟨v, gv, rv⟩ := vals_get ry gy
    refine pyNext_zip_itemT hA st tx ty (by simpa using gu) (by simpa using gv) fun h' zt np k => ?_
    refine ⟨_, rfl, ?_⟩
    show wpAny _ _ (load z >>= fun o => _) _ _ _
    refine wpAny_bind (wpAny_load zt.zip ?_)
    show wpAny _ _ (if ((["enumerate", "zip", "dict_itemiterator", "dict_reverseitemiterator", "odict_iterator", "itertools.zip_longest", "itertools.pairwise"].contains "zip" && (some (rawInt s.heap.objs.size) == some (rawInt s.heap.objs.size))) = true) then (do rule "for.unpacks-the-owned-tuple"; setField (.ref z) 0 .none) else pure ()) _ _ _
    rw [if_pos (by rw [beq_self_eq_true]; decide)]
    refine wpAny_bind (wpAny_rule ?_)
    refine wpAny_setField_rec zt.zip (show 0 < 5 by decide) fun h2 z2 b2 => ?_
    have lt : ∀ b ∈ [z, TI, TO, i1, i2], b < s.heap.objs.size := fun b hb => by
      simp only [List.mem_cons, List.not_mem_nil, or_false] at hb
      rcases hb with rfl | rfl | rfl | rfl | rfl
      · exact Heap.lt_size st.zip
      · exact Heap.lt_size st.ti
      · obtain ⟨_, _, e⟩ := st.to; exact Heap.lt_size e
      · obtain ⟨o, e, _⟩ := st.it1; exact Heap.lt_size e
      · obtain ⟨o, e, _⟩ := st.it2; exact Heap.lt_size e
    have nz : s.heap.objs.size ≠ z := fun e => Nat.lt_irrefl _ (by have := lt z (by simp); rw [← e] at this; exact this)
    have kk' : ∀ b o, b ∉ [z, TI, TO, i1, i2] → s.heap.get? b = some o → h2.get? b = some o := fun b o hb e => by
      have hz' : b ≠ z := fun q => hb (by simp [q])
      rw [b2.2 b hz']
      exact k b o hz' (fun q => hb (by simp [q])) (fun q => hb (by simp [q])) (fun q => hb (by simp [q])) e
    have np2 : h2.get? s.heap.objs.size = some { cls := .type "tuple", data := .seq #[u, v] } := (b2.2 _ nz).trans np
    have hfr := I.hok.fresh (Nat.le_refl s.heap.objs.size)
    refine ⟨.ref s.heap.objs.size, upd H s.heap.objs.size (.tup [x, y]), I.turnLaid (t' := s.toks) hf kk' (Nat.le_refl _) ⟨by show 2 ≤ sizeLine; decide, [u, v], .cons ru (.cons rv .nil), ⟨_, np2, rfl, _, rfl⟩⟩, rfl, ⟨_, x, y, rfl, hfr, rfl, fun xs' h' => ?_, fun ys' h' => ?_⟩, ⟨z2, (b2.2 _ hA.TIz).trans zt.ti, let ⟨p, q, e⟩ := zt.to; ⟨p, q, (b2.2 _ hA.TOz).trans e⟩, let ⟨o, e, p⟩ := zt.it1; ⟨o, (b2.2 _ hA.i1z).trans e, p⟩, let ⟨o, e, p⟩ := zt.it2; ⟨o, (b2.2 _ hA.i2z).trans e, p⟩⟩, fun b hb => ?_⟩
    · rw [I.tuple_inj h' hx]; exact gx
    · rw [I.tuple_inj h' hy]; exact gy
    · rw [upd_ne (Nat.ne_of_lt (lt b hb))]
      exact (hf b hb).1
  done := by
    intro X hP hw hK hc i pins s σ H E I hf st hg
    subst hP hw hK
    obtain ⟨xs, hx, hl⟩ := hg
    obtain ⟨its, rx, tx, _⟩ := I.tuple hx
    have el := rx.length
    refine pyNext_zip_endT (ys := #[]) (I.ok.hd hc) hA st tx (by simp; omega) fun h' k => ⟨rfl, I.turnedN (t' := s.toks) hf fun b o hb e => k b o (fun z => hb (by simp [z])) (fun z => hb (by simp [z])) e⟩
  self := fun A i s Q E st h => wpAny_pyIter_zip st.zip h
def iZip (K : PySem.W.Frag) (t1 t2 : TE) : TI := fun σ H R => t1 σ H fun x H1 => t2 σ H1 fun y H2 => ∃ a b, x = .ref a ∧ y = .ref b ∧ (∃ xs, SqT K H2 a xs) ∧ (∃ ys, SqT K H2 b ys) ∧ R (Itz K a b) H2
theorem pi_zip {X : Cx} (K : PySem.W.Frag) (hK : X.K = K) {e1 e2 : Expr} {t1 t2 : TE} {elts : List Expr} {kk : Nat} {tp p1 p2 : Pos} (hg : Gl X "zip") (hm : X.mg "zip" = none) (h1 : PE X e1 t1) (h2 : PE X e2 t2)
    (hs1 : starEach [e1, e2] X.env = (false, eval e1 X.env) :: starEach [e2] X.env := by rfl) (hs2 : starEach [e2] X.env = (false, eval e2 X.env) :: starEach [] X.env := by rfl) (hpl : (backTo p2 (starEach [e2] X.env)).any (·.1) = false := by rfl) :
    PI X (.Tuple elts kk tp) (.Call (.Name "zip" p1) [e1, e2] [] p2) (iZip K t1 t2) := by
  subst hK
  intro pins s σ H R I h
  refine wpAny_Call_Name_kw (ld_blt I hg hm boot_zip ?_ (by decide) (by decide))
  refine PyProof.Rows.callWith_type1 ?_ hs1 hpl
  rw [hs1, hs2]
  show wpAny _ _ (spliced ((false, eval e1 X.env) :: (false, eval e2 X.env) :: backTo p2 (starEach [] X.env))) _ _ s
  refine Calls.spliced_cons (thn (h1 pins s σ H _ I h) fun u1 s1 ⟨x, H1, I1, r1, q1⟩ => ?_)
  refine Calls.spliced_cons (thn (h2 pins s1 σ H1 _ I1 q1) fun u2 s2 ⟨y, H2, I2, r2, a, b, ex, ey, ⟨xs, hx⟩, ⟨ys, hy⟩, q⟩ => Calls.spliced_nil ?_)
  subst ex
  subst ey
  cases r1
  cases r2
  obtain ⟨its, rx, tx, _⟩ := I2.tuple hx
  obtain ⟨its2, ry, ty, _⟩ := I2.tuple hy
  have l1 : a < s2.heap.objs.size := let ⟨_, e, _⟩ := tx; Heap.lt_size e
  have l2 : b < s2.heap.objs.size := let ⟨_, e, _⟩ := ty; Heap.lt_size e
  refine call_zipT tx ty fun h' zt k => ?_
  refine wpAny_pyIter_zip zt.zip ?_
  have dd : ∀ i j : Nat, i ≠ j → s2.heap.objs.size + i ≠ s2.heap.objs.size + j := fun i j n e => n (Nat.add_left_cancel e)
  have na : ∀ i : Nat, a ≠ s2.heap.objs.size + i := fun i => Nat.ne_of_lt (Nat.lt_of_lt_of_le l1 (Nat.le_add_right _ _))
  have nb : ∀ i : Nat, b ≠ s2.heap.objs.size + i := fun i => Nat.ne_of_lt (Nat.lt_of_lt_of_le l2 (Nat.le_add_right _ _))
  have hA : ZipApart (s2.heap.objs.size + 4) (s2.heap.objs.size + 2) (s2.heap.objs.size + 3) s2.heap.objs.size (s2.heap.objs.size + 1) a b :=
    ⟨dd 2 4 (by decide), dd 3 4 (by decide), dd 0 4 (by decide), dd 1 4 (by decide), dd 2 3 (by decide), dd 2 0 (by decide), dd 2 1 (by decide), dd 3 0 (by decide), dd 3 1 (by decide), dd 0 1 (by decide), na 4, na 3, na 0, na 1, nb 4, nb 3, nb 0, nb 1⟩
  refine ⟨_, _, _, _, H2, rfl, I2.kept (t' := s2.toks) k, turn_zip hA, zt, fun c hc => ?_, q⟩
  have hle : s2.heap.objs.size ≤ c := by
    simp only [List.mem_cons, List.not_mem_nil, or_false] at hc
    rcases hc with rfl | rfl | rfl | rfl | rfl
    · exact Nat.le_add_right _ _
    · exact Nat.le_add_right _ _
    · exact Nat.le_add_right _ _
    · exact Nat.le_refl _
    · exact Nat.le_add_right _ _
  exact I2.fpOk hle (I2.hok.fresh hle)
end L2
set_option Elab.async false
set_option linter.all false
set_option maxRecDepth 100000
namespace My
open PySem PySem.Spec PyProof.Rows L2
/-- an entry of plain: its text and itself -/
def DAt (H : Hp) (v : V) (t : Tr) : Prop := ∃ p w, v = .ref p ∧ H p = some (.tup [.str t.text, w]) ∧ TAt H w t
theorem DAt.mono {H H' : Hp} (h : Tups H H') {v : V} {t : Tr} (a : DAt H v t) : DAt H' v t := let ⟨p, w, e, hp, ht⟩ := a; ⟨p, w, e, h _ _ hp, ht.mono h⟩
inductive DAts (H : Hp) : List V → List Tr → Prop where
  | nil : DAts H [] []
  | cons {x : V} {t : Tr} {xs : List V} {ts : List Tr} : DAt H x t → DAts H xs ts → DAts H (x :: xs) (t :: ts)
theorem DAts.mono {H H' : Hp} (h : Tups H H') {vs : List V} {ts : List Tr} (a : DAts H vs ts) : DAts H' vs ts := by
  induction a with
  | nil => exact .nil
  | cons e _ i => exact .cons (e.mono h) i
theorem DAts.append {H : Hp} {xs ys : List V} {ts us : List Tr} (a : DAts H xs ts) (b : DAts H ys us) : DAts H (xs ++ ys) (ts ++ us) := by
  induction a with
  | nil => exact b
  | cons e _ i => exact .cons e i
theorem DAts.length {H : Hp} {vs : List V} {ts : List Tr} (a : DAts H vs ts) : vs.length = ts.length := by
  induction a with
  | nil => rfl
  | cons _ _ i => simp [i]
theorem DAts.at {H : Hp} : ∀ {xs : List V} {ts : List Tr} {n : Nat} {t : Tr}, DAts H xs ts → ts[n]? = some t → ∃ x, xs[n]? = some x ∧ DAt H x t
  | _, _, _, _, .nil, e => by simp at e
  | _, _, 0, _, .cons h _, e => by simp at e; subst e; exact ⟨_, rfl, h⟩
  | _, _, n + 1, t, .cons _ r, e => by
    obtain ⟨x, h1, h2⟩ := DAts.at (n := n) (t := t) r (by simpa using e)
    exact ⟨x, by simpa using h1, h2⟩
end My
set_option Elab.async false
set_option linter.all false
set_option maxRecDepth 100000
namespace L2
open PySem PySem.Spec PyProof.Rows
theorem enum_next_itemT {prog : Program} {w : World} {A : Around} {E : Value → Shared → Prop} {s : Shared} {e it t : Addr} {i : Nat} {old : Value} {items : Array Value} {x : Value} {Q : Value → Shared → Prop} (hei : e ≠ it) (hte : t ≠ e) (hti : t ≠ it)
    (hz : IsEnum s.heap e it i old) (hi : s.heap.IsTupleIter it t i) (ht : s.heap.IsTuple t items) (hx : items[i]? = some x)
    (q : ∀ (h' : Heap) (tk : Nat), IsEnumOut h' e it (i + 1 : Nat) x s.heap.objs.size → h'.IsTupleIter it t (i + 1) → IsPair h' s.heap.objs.size (.int i s.toks) x → (∀ c o, c ≠ e → c ≠ it → s.heap.get? c = some o → h'.get? c = some o) → Q (.ref s.heap.objs.size) { s with heap := h', toks := tk }) :
    wpAny (model prog w) A (Builtin.«enumerate.__next__» { pos := [.ref e] }) (fun fin s' => ∃ v, fin = Fin.done (Flow.ret v) ∧ Q v s') E s := by
  show wpAny _ _ (field (.ref e) 2 >>= fun r => _) _ _ s
  refine wpAny_bind (wpAny_field hz rfl rfl ?_)
  show wpAny _ _ (Builtin.SmallTypes.nextOf (.ref it) >>= fun r => _) _ _ s
  refine wpAny_bind (nextOf_tuple_item hi ht hx fun h1 j1 b1 => ?_)
  have z1 : IsEnum h1 e it i old := (b1.2 _ hei).trans hz
  refine wpAny_bind (wpAny_field z1 rfl rfl ?_)
  show wpAny _ _ (field (.ref e) 4 >>= fun r => _) _ _ _
  refine wpAny_bind (wpAny_field z1 rfl rfl ?_)
  show wpAny _ _ (mkInt i >>= fun r => _) _ _ _
  refine wpAny_bind (wpAny_mkInt ?_)
  refine wpAny_bind (wpAny_setField_rec z1 (show 3 < 6 by decide) fun h2 z2 b2 => ?_)
  refine wpAny_bind (wpAny_setField_rec z2 (show 4 < 6 by decide) fun h3 z3 b3 => ?_)
  have sz3 : h3.objs.size = s.heap.objs.size := b3.1.trans (b2.1.trans b1.1)
  have get3 : ∀ b, b ≠ e → b ≠ it → h3.get? b = s.heap.get? b := fun b n1 n2 => (b3.2 b n1).trans ((b2.2 b n1).trans (b1.2 b n2))
  refine wpAny_bind (wpAny_newTuple ?_ (by show 2 ≤ sizeLine; decide))
  have kp : ∀ b o, h3.get? b = some o → (h3.push { cls := .type "tuple", data := .seq [Value.int i s.toks, x].toArray }).get? b = some o := fun b o e => Heap.get?_push_of_some _ e
  have new4 : (h3.push { cls := .type "tuple", data := .seq [Value.int i s.toks, x].toArray }).get? h3.objs.size = some { cls := .type "tuple", data := .seq #[.int i s.toks, x] } := Heap.get?_push_size _ rfl
  generalize h3.push { cls := .type "tuple", data := .seq [Value.int i s.toks, x].toArray } = h4 at kp new4 ⊢
  have z4 : h4.get? e = some { cls := .type "enumerate", data := .fields #[.none, .bool false, .ref it, rawInt (i + 1), .none, old] } := kp _ _ z3
  refine wpAny_bind ?_
  unfold Builtin.SmallTypes.ownedTupleIsFree
  refine wpAny_bind (wpAny_field z4 rfl rfl ?_)
  refine wpAny_pure ?_
  show wpAny _ _ (rule "enumerate.__next__.owned-tuple-again" >>= fun r => _) _ _ _
  refine wpAny_bind (wpAny_rule ?_)
  refine wpAny_bind (wpAny_field z4 rfl rfl ?_)
  refine wpAny_bind (wpAny_setField_rec z4 (show 5 < 6 by decide) fun h5 z5 b5 => ?_)
  refine wpAny_bind ?_
  show wpAny _ _ (setField (.ref e) 0 (rawInt h3.objs.size) >>= fun _ => setField (.ref e) 1 (.bool false)) _ _ _
  refine wpAny_bind (wpAny_setField_rec z5 (show 0 < 6 by decide) fun h6 z6 b6 => ?_)
  refine wpAny_setField_rec z6 (show 1 < 6 by decide) fun h7 z7 b7 => ?_
  refine wpAny_bind (wpAny_letGo ?_)
  have get7 : ∀ b, b ≠ e → h7.get? b = h4.get? b := fun b n => (b7.2 b n).trans ((b6.2 b n).trans (b5.2 b n))
  have ne : s.heap.objs.size ≠ e := fun z => by have := Heap.lt_size hz; rw [← z] at this; exact Nat.lt_irrefl _ this
  refine wpAny_pure ⟨.ref h3.objs.size, rfl, ?_⟩
  rw [sz3] at z7 new4 ⊢
  refine q h7 _ ?_ ?_ ?_ ?_
  · exact z7
  · obtain ⟨o, eo, p⟩ := j1
    refine ⟨o, ?_, p⟩
    rw [get7 _ (Ne.symm hei)]
    exact kp _ _ ((b3.2 _ (Ne.symm hei)).trans ((b2.2 _ (Ne.symm hei)).trans eo))
  · rw [IsPair, get7 _ ne]; exact new4
  · intro c o n1 n2 ec
    rw [get7 _ n1]
    exact kp _ _ ((get3 _ n1 n2).trans ec)
theorem enum_next_endT {prog : Program} {w : World} {A : Around} {E : Value → Shared → Prop} {s : Shared} {e it t : Addr} {i : Nat} {old : Value} {items : Array Value} {Q : PySem.Fin → Shared → Prop} (hA : A.handled = none)
    (hz : IsEnum s.heap e it i old) (hi : s.heap.IsTupleIter it t i) (ht : s.heap.IsTuple t items) (hx : items[i]? = none)
    (q : ∀ (h' : Heap) (x : Addr), (∀ c o, c ≠ it → s.heap.get? c = some o → h'.get? c = some o) → (∃ o, h'.get? x = some o ∧ o.cls = .type "StopIteration") → E (.ref x) { s with heap := h' }) :
    wpAny (model prog w) A (Builtin.«enumerate.__next__» { pos := [.ref e] }) Q E s := by
  show wpAny _ _ (field (.ref e) 2 >>= fun r => _) _ _ s
  refine wpAny_bind (wpAny_field hz rfl rfl ?_)
  show wpAny _ _ (Builtin.SmallTypes.nextOf (.ref it) >>= fun r => _) _ _ s
  exact wpAny_bind (nextOf_tuple_end hA hi ht hx fun h' x k ex => q h' x (fun c o n e' => k c o n e') ex)
theorem pyNext_enum_itemT {prog : Program} {w : World} {A : Around} {E : Value → Shared → Prop} {s : Shared} {e it t : Addr} {i : Nat} {old : Value} {items : Array Value} {x : Value} {Q : Option Value → Shared → Prop} (hei : e ≠ it) (hte : t ≠ e) (hti : t ≠ it)
    (hz : IsEnum s.heap e it i old) (hi : s.heap.IsTupleIter it t i) (ht : s.heap.IsTuple t items) (hx : items[i]? = some x)
    (q : ∀ (h' : Heap) (tk : Nat), IsEnumOut h' e it (i + 1 : Nat) x s.heap.objs.size → h'.IsTupleIter it t (i + 1) → IsPair h' s.heap.objs.size (.int i s.toks) x → (∀ c o, c ≠ e → c ≠ it → s.heap.get? c = some o → h'.get? c = some o) → Q (some (.ref s.heap.objs.size)) { s with heap := h', toks := tk }) :
    wpAny (model prog w) A (pyNext (.ref e)) Q E s := by
  have ty : s.TypeIs (.ref e) "enumerate" := ⟨_, hz, rfl⟩
  unfold pyNext
  refine wpAny_bind (wpAny_attempt (wpAny_callSpecial?_slot ty F.slot_enumerate_next (wpAny_call_entry F.slot_enumerate_next ty F.entry_enumerate_next ?_ (F.args_enumerate_next_1 _))))
  exact enum_next_itemT hei hte hti hz hi ht hx fun h' tk a b c d => wpAny_pure (q h' tk a b c d)
theorem pyNext_enum_endT {prog : Program} {w : World} {A : Around} {E : Value → Shared → Prop} {s : Shared} {e it t : Addr} {i : Nat} {old : Value} {items : Array Value} {Q : Option Value → Shared → Prop} (hA : A.handled = none)
    (hz : IsEnum s.heap e it i old) (hi : s.heap.IsTupleIter it t i) (ht : s.heap.IsTuple t items) (hx : items[i]? = none)
    (q : ∀ h' : Heap, (∀ c o, c ≠ it → s.heap.get? c = some o → h'.get? c = some o) → Q none { s with heap := h' }) :
    wpAny (model prog w) A (pyNext (.ref e)) Q E s := by
  have ty : s.TypeIs (.ref e) "enumerate" := ⟨_, hz, rfl⟩
  unfold pyNext
  refine wpAny_bind (wpAny_attempt (wpAny_callSpecial?_slot ty F.slot_enumerate_next (wpAny_call_entry F.slot_enumerate_next ty F.entry_enumerate_next ?_ (F.args_enumerate_next_1 _))))
  refine enum_next_endT (A := A.in1) hA hz hi ht hx fun h' x k ex => ?_
  obtain ⟨o, eo, hc⟩ := ex
  refine wpAny_bind (wpAny_isInstance (T := "StopIteration") ⟨o, eo, hc⟩ isSubtype_stop ?_)
  rw [if_pos rfl]
  exact wpAny_pure (q h' k)
theorem meets_enum_newT (t : Addr) (items : Array Value) : Meets (Builtin.«enumerate.__new__» { pos := [.type "enumerate", .ref t] }) (fun _ R s => s.heap.IsTuple t items ∧
    ∀ h' : Heap, IsEnum h' (s.heap.objs.size + 1) s.heap.objs.size (0 : Nat) .none → h'.IsTupleIter s.heap.objs.size t 0 → (∀ b o, s.heap.get? b = some o → h'.get? b = some o) → R (.ok (.ret (.ref (s.heap.objs.size + 1)))) { s with heap := h' }) :=
  .of_wp fun prog w A R s h => by
    obtain ⟨h1, q⟩ := h
    unfold Builtin.«enumerate.__new__»
    refine wpAny_bind ?_
    unfold Builtin.SmallTypes.newClass
    refine wpAny_bind (wpAny_of_eq (a := true) rfl ?_)
    rw [if_neg (by decide)]
    refine wpAny_bind (wpAny_of_eq sub_enumerate ?_)
    rw [if_neg (by decide)]
    refine wpAny_pure ?_
    show wpAny _ _ (Builtin.SmallTypes.calledThroughType (.type "enumerate") >>= fun r => _) _ _ s
    refine wpAny_bind ?_
    unfold Builtin.SmallTypes.calledThroughType
    refine wpAny_bind (wpAny_stack_any fun st => wpAny_pure ?_)
    have fin : wpAny (model prog w) A.in1 (pyIter (.ref t) >>= fun it => (Builtin.SmallTypes.newRecord (.type "enumerate") (Builtin.SmallTypes.ownedTupleFields ++ [it, rawInt 0, .none, .none]) >>= fun r => ret r)) (fun fin s' => ∃ v, fin = Fin.done (Flow.ret v) ∧ R (Except.ok (Flow.ret v)) s') (fun e s' => R (Except.error e) s') s := by
      refine wpAny_bind (wpAny_pyIter_tuple h1 ?_)
      have k1 : ∀ b o, s.heap.get? b = some o → (s.heap.push { cls := .type "tuple_iterator", data := .fields #[.ref t, .int 0 0] }).get? b = some o := fun b o e => Heap.get?_push_of_some _ e
      have g1 : (s.heap.push { cls := .type "tuple_iterator", data := .fields #[.ref t, .int 0 0] }).get? s.heap.objs.size = some { cls := .type "tuple_iterator", data := .fields #[.ref t, .int 0 0] } := Heap.get?_push_size _ rfl
      have z1 : (s.heap.push { cls := .type "tuple_iterator", data := .fields #[.ref t, .int 0 0] }).objs.size = s.heap.objs.size + 1 := Heap.size_push ..
      generalize s.heap.push { cls := .type "tuple_iterator", data := .fields #[.ref t, .int 0 0] } = hp1 at k1 g1 z1 ⊢
      show wpAny _ _ (newObj (.type "enumerate") (.fields #[.none, .bool false, .ref s.heap.objs.size, rawInt 0, .none, .none]) >>= fun r => ret r) _ _ _
      refine wpAny_bind (wpAny_newObj_type ?_ (by simp [sizeOk]; decide))
      have g2 : (hp1.push { cls := .type "enumerate", data := .fields #[.none, .bool false, .ref s.heap.objs.size, rawInt 0, .none, .none] }).get? hp1.objs.size = some { cls := .type "enumerate", data := .fields #[.none, .bool false, .ref s.heap.objs.size, rawInt 0, .none, .none] } := Heap.get?_push_size _ rfl
      refine wpAny_pure ⟨.ref hp1.objs.size, rfl, ?_⟩
      rw [z1] at g2 ⊢
      exact q _ g2 ⟨_, Heap.get?_push_of_some _ g1, rfl, rfl⟩ fun b o e => Heap.get?_push_of_some _ (k1 _ _ e)
    dsimp only
    refine wpAny_ite_split (fun _ => ?_) (fun _ => ?_)
    · exact wpAny_bind (wpAny_of_eq (a := (Value.ref t, none)) rfl fin)
    · exact wpAny_bind (wpAny_of_eq (a := (Value.ref t, none)) rfl fin)
theorem call_enumT {prog : Program} {w : World} {A : Around} {E : Value → Shared → Prop} {s : Shared} {t : Addr} {items : Array Value} {Q : Value → Shared → Prop} (h1 : s.heap.IsTuple t items)
    (q : ∀ h' : Heap, IsEnum h' (s.heap.objs.size + 1) s.heap.objs.size (0 : Nat) .none → h'.IsTupleIter s.heap.objs.size t 0 → (∀ b o, s.heap.get? b = some o → h'.get? b = some o) → Q (.ref (s.heap.objs.size + 1)) { s with heap := h' }) :
    wpAny (model prog w) A (call (.type "enumerate") [.ref t]) Q E s :=
  callType_new F.called_enumerate (by decide) (F.typeCall_enumerate_1 _) (F.newCall_enumerate_1 _) (fun o => F.args_object_init_2 o _) F.entry_enumerate_new (meets_enum_newT t items) ⟨h1, fun h' z i k => ⟨⟨_, z, rfl⟩, q h' z i k⟩⟩
def Ite (K : PySem.W.Frag) (a : Addr) : It where
  go := fun i H => ∃ xs x, SqT K H a xs ∧ xs[i]? = some x
  yld := fun i H v H' => ∃ p x, v = .ref p ∧ H p = none ∧ H' = upd H p (.tup [.int i, x]) ∧ ∀ xs, SqT K H a xs → xs[i]? = some x
  stop := fun i H => ∃ xs, SqT K H a xs ∧ xs.length ≤ i
theorem turn_enum {P : Program} {w : World} {K : PySem.W.Frag} {elts : List Expr} {kk : Nat} {pos : Pos} {e it t : Addr} (hei : e ≠ it) (hte : t ≠ e) (hti : t ≠ it) : Turn P w K (.Tuple elts kk pos) (Ite K t) [e, it] e (fun i h => (∃ old, IsEnum h e it (i : Nat) old) ∧ h.IsTupleIter it t i) where
  mem := by simp
  obj := fun i h st b hb => by
    simp only [List.mem_cons, List.not_mem_nil, or_false] at hb
    rcases hb with rfl | rfl
    · obtain ⟨⟨_, e⟩, _⟩ := st; exact ⟨_, e, fun v z => by cases z⟩
    · obtain ⟨_, ⟨o, e, _, d⟩⟩ := st; exact ⟨o, e, fun v z => by rw [d] at z; cases z⟩
  keep := fun i h h' st k => ⟨let ⟨o, e'⟩ := st.1; ⟨o, k e (by simp) _ e'⟩, let ⟨o, e', p⟩ := st.2; ⟨o, k it (by simp) _ e', p⟩⟩
  item := by
    intro X hP hw hK hc i pins s σ H E I hf st hg
    subst hP hw hK
    obtain ⟨xs, x, hx, gx⟩ := hg
    obtain ⟨its, rx, tx, _⟩ := I.tuple hx
    obtain ⟨u, gu, ru⟩ := vals_get rx gx
    obtain ⟨⟨old, hz⟩, hi⟩ := st
    refine pyNext_enum_itemT hei hte hti hz hi tx (by simpa using gu) fun h' tk zo j np k => ?_
    refine ⟨_, rfl, ?_⟩
    refine wpAny_letOwnedTupleGo_enum zo fun h2 z2 b2 => ?_
    have le : e < s.heap.objs.size := Heap.lt_size hz
    have li : it < s.heap.objs.size := let ⟨_, e', _⟩ := hi; Heap.lt_size e'
    have lt : ∀ b ∈ [e, it], b < s.heap.objs.size := fun b hb => by
      simp only [List.mem_cons, List.not_mem_nil, or_false] at hb
      rcases hb with rfl | rfl
      · exact le
      · exact li
    have nz : s.heap.objs.size ≠ e := fun z => Nat.lt_irrefl _ (by have := le; rw [← z] at this; exact this)
    have kk' : ∀ b o, b ∉ [e, it] → s.heap.get? b = some o → h2.get? b = some o := fun b o hb e' => by
      have hz' : b ≠ e := fun q => hb (by simp [q])
      rw [b2.2 b hz']
      exact k b o hz' (fun q => hb (by simp [q])) e'
    have np2 : h2.get? s.heap.objs.size = some { cls := .type "tuple", data := .seq #[.int i s.toks, u] } := (b2.2 _ nz).trans np
    have hfr := I.hok.fresh (Nat.le_refl s.heap.objs.size)
    refine ⟨.ref s.heap.objs.size, upd H s.heap.objs.size (.tup [.int i, x]), I.turnLaid (t' := tk) hf kk' (Nat.le_refl _) ⟨by show 2 ≤ sizeLine; decide, [.int i s.toks, u], .cons ⟨_, rfl⟩ (.cons ru .nil), ⟨_, np2, rfl, _, rfl⟩⟩, rfl, ⟨_, x, rfl, hfr, rfl, fun xs' h' => by rw [I.tuple_inj h' hx]; exact gx⟩, ⟨⟨_, z2⟩, let ⟨o, e', p⟩ := j; ⟨o, (b2.2 _ (Ne.symm hei)).trans e', p⟩⟩, fun b hb => ?_⟩
    rw [upd_ne (Nat.ne_of_lt (lt b hb))]
    exact (hf b hb).1
  done := by
    intro X hP hw hK hc i pins s σ H E I hf st hg
    subst hP hw hK
    obtain ⟨xs, hx, hl⟩ := hg
    obtain ⟨its, rx, tx, _⟩ := I.tuple hx
    have el := rx.length
    obtain ⟨⟨old, hz⟩, hi⟩ := st
    refine pyNext_enum_endT (I.ok.hd hc) hz hi tx (by simp; omega) fun h' k => ⟨rfl, I.turnedN (t' := s.toks) hf fun b o hb e' => k b o (fun z => hb (by simp [z])) e'⟩
  self := fun A i s Q E st h => let ⟨_, e'⟩ := st.1; wpAny_pyIter_enum e' h
end L2
set_option Elab.async false
set_option linter.all false
set_option maxRecDepth 100000
namespace L2
open PySem PySem.Spec PyProof.Rows
section
variable {X : Cx} {pos : Pos}
end
end L2
set_option Elab.async false
set_option linter.all false
set_option maxRecDepth 100000
namespace My
open PySem PySem.Spec PyProof.Rows L2
theorem valV_app (a b : List (Key × V)) (k : Key) : valV (a ++ b) k = (valV a k).or (valV b k) := by
  unfold valV
  rw [List.find?_append]
  cases a.find? fun kv => decide (kv.1 = k) with
  | some w => rfl
  | none => rfl
inductive EAt (H : Hp) : V → Ent → Prop where
  | word (x : Str) : EAt H (.str x) (.word x)
  | pair {a : Addr} {i j : Nat} : H a = some (.tup [.int i, .int j]) → EAt H (.ref a) (.pair i j)
theorem EAt.mono {H H' : Hp} (h : Tups H H') {v : V} {e : Ent} (a : EAt H v e) : EAt H' v e := by
  cases a with
  | word x => exact .word x
  | pair e => exact .pair (h _ _ e)
inductive DkAt (H : Hp) : List (Key × V) → Tr → Nat → Prop where
  | leaf (x : Str) (o : Nat) : DkAt H [(Sum.inl (o : Int), .str x)] (.leaf x) o
  | node {l r : Tr} {o : Nat} {p : Addr} {k1 k2 : List (Key × V)} : H p = some (.tup [.int (o + l.size - 1 : Nat), .int (o + l.size + r.size - 1 : Nat)]) → DkAt H k1 l o → DkAt H k2 r (o + l.size) →
      DkAt H ((Sum.inl ((o + l.size + r.size : Nat) : Int), .ref p) :: (k1 ++ k2)) (.node l r) o
theorem DkAt.mono {H H' : Hp} (h : Tups H H') {kvs : List (Key × V)} {t : Tr} {o : Nat} (a : DkAt H kvs t o) : DkAt H' kvs t o := by
  induction a with
  | leaf x o => exact .leaf x o
  | node e _ _ i1 i2 => exact .node (h _ _ e) i1 i2
theorem DkAt.len {H : Hp} {kvs : List (Key × V)} {t : Tr} {o : Nat} (a : DkAt H kvs t o) : kvs.length = t.size := by
  induction a with
  | leaf => rfl
  | @node l r o p k1 k2 _ _ _ i1 i2 => rw [List.length_cons, List.length_append, i1, i2]; rfl
theorem DkAt.keys {H : Hp} {kvs : List (Key × V)} {t : Tr} {o : Nat} (a : DkAt H kvs t o) : ∀ p ∈ kvs, ∃ j : Nat, o ≤ j ∧ j < o + t.size ∧ p.1 = Sum.inl (j : Int) := by
  induction a with
  | leaf x o =>
    intro p hp
    rw [List.mem_singleton.mp hp]
    exact ⟨o, Nat.le_refl _, Nat.lt_succ_self _, rfl⟩
  | @node l r o p k1 k2 _ _ _ i1 i2 =>
    have e : (Tr.node l r).size = l.size + r.size + 1 := rfl
    intro q hq
    rcases List.mem_cons.mp hq with z | z
    · rw [z]; exact ⟨_, by omega, by omega, rfl⟩
    · rcases List.mem_append.mp z with z | z
      · obtain ⟨j, h1, h2, h3⟩ := i1 q z; exact ⟨j, h1, by omega, h3⟩
      · obtain ⟨j, h1, h2, h3⟩ := i2 q z; exact ⟨j, by omega, by omega, h3⟩
theorem val_none {kvs : List (Key × V)} {k : Key} (h : ∀ p ∈ kvs, p.1 ≠ k) : valV kvs k = none := by
  unfold valV
  rw [List.find?_eq_none.mpr fun p hp => by simpa using h p hp]
  rfl
theorem DkAt.out {H : Hp} {kvs : List (Key × V)} {t : Tr} {o : Nat} (a : DkAt H kvs t o) {j : Nat} (h : j < o ∨ o + t.size ≤ j) : valV kvs (Sum.inl (j : Int)) = none := val_none fun p hp z => by
  obtain ⟨i, h1, h2, h3⟩ := a.keys p hp
  rw [h3] at z
  injection z with z
  omega
theorem DkAt.get {H : Hp} {kvs : List (Key × V)} {t : Tr} {o : Nat} (a : DkAt H kvs t o) : ∀ j : Nat, j < t.size → ∃ v e, valV kvs (Sum.inl ((o + j : Nat) : Int)) = some v ∧ (t.nd o)[j]? = some e ∧ EAt H v e := by
  induction a with
  | leaf x o =>
    intro j hj
    have : j = 0 := by have : j < 1 := hj; omega
    subst this
    refine ⟨.str x, .word x, ?_, rfl, .word x⟩
    exact valV_pos rfl
  | @node l r o p k1 k2 hp d1 d2 i1 i2 =>
    intro j hj
    have es : (Tr.node l r).size = l.size + r.size + 1 := rfl
    have hn : (Tr.node l r).nd o = l.nd o ++ r.nd (o + l.size) ++ [.pair (o + l.size - 1) (o + l.size + r.size - 1)] := rfl
    have ln := l.nd_len o
    have rn := r.nd_len (o + l.size)
    by_cases c1 : j < l.size
    · obtain ⟨v, e, h1, h2, h3⟩ := i1 j c1
      refine ⟨v, e, ?_, ?_, h3⟩
      · rw [valV_neg (by show ¬ (Sum.inl _ : Key) = Sum.inl _; intro z; injection z with z; omega), valV_app, h1]; rfl
      · rw [hn, List.append_assoc, List.getElem?_append_left (by omega)]; exact h2
    · by_cases c2 : j < l.size + r.size
      · obtain ⟨v, e, h1, h2, h3⟩ := i2 (j - l.size) (by omega)
        have ej : o + l.size + (j - l.size) = o + j := by omega
        rw [ej] at h1
        refine ⟨v, e, ?_, ?_, h3⟩
        · rw [valV_neg (by show ¬ (Sum.inl _ : Key) = Sum.inl _; intro z; injection z with z; omega), valV_app, d1.out (.inr (by omega)), h1]; rfl
        · rw [hn, List.append_assoc, List.getElem?_append_right (by omega), List.getElem?_append_left (by omega), ln]; exact h2
      · have ej : j = l.size + r.size := by omega
        subst ej
        refine ⟨.ref p, _, valV_pos (by show (Sum.inl _ : Key) = Sum.inl _; rw [Nat.add_assoc]), ?_, .pair hp⟩
        rw [hn, List.getElem?_append_right (by rw [List.length_append]; omega), List.length_append, ln, rn, Nat.sub_self]
        rfl
def ahS (l : List V) (i : Nat) : Ent → List V
  | .word _ => l
  | .pair a b => (l.set a (.int i)).set b (.int i)
def ah : List Ent → Nat → List V → List V
  | [], _, l => l
  | e :: es, i, l => ah es (i + 1) (ahS l i e)
theorem ah_snoc : ∀ (es : List Ent) (e : Ent) (i : Nat) (l : List V), ah (es ++ [e]) i l = ahS (ah es i l) (i + es.length) e
  | [], e, i, l => rfl
  | x :: es, e, i, l => by
    show ah (es ++ [e]) (i + 1) (ahS l i x) = ahS (ah es (i + 1) (ahS l i x)) (i + (es.length + 1)) e
    rw [ah_snoc es e]
    congr 1
    omega
theorem ahS_len (l : List V) (i : Nat) (e : Ent) : (ahS l i e).length = l.length := by cases e with
  | word => rfl
  | pair => show ((l.set _ _).set _ _).length = _; rw [List.length_set, List.length_set]
theorem ah_len : ∀ (es : List Ent) (i : Nat) (l : List V), (ah es i l).length = l.length
  | [], _, _ => rfl
  | e :: es, i, l => by show (ah es (i + 1) (ahS l i e)).length = _; rw [ah_len es, ahS_len]
def NI (v : V) : Prop := v = .non ∨ ∃ i : Int, v = .int i
def Vq (H : Hp) : Nat → V → V → Prop
  | 0, v, v' => v = v' ∧ ((∃ x, v = .str x) ∨ NI v)
  | n + 1, v, v' => (v = v' ∧ ((∃ x, v = .str x) ∨ NI v)) ∨ ∃ a b xs ys, v = .ref a ∧ v' = .ref b ∧ H a = some (.tup xs) ∧ H b = some (.tup ys) ∧ xs.length = ys.length ∧ xs.length ≤ 500 ∧ ∀ (i : Nat) x y, xs[i]? = some x → ys[i]? = some y → Vq H n x y
theorem Vq.mono {H H' : Hp} (h : Tups H H') : ∀ {n : Nat} {v v' : V}, Vq H n v v' → Vq H' n v v'
  | 0, _, _, q => q
  | n + 1, _, _, q => by
    rcases q with q | ⟨a, b, xs, ys, e1, e2, h1, h2, hl, hz, f⟩
    · exact .inl q
    · exact .inr ⟨a, b, xs, ys, e1, e2, h _ _ h1, h _ _ h2, hl, hz, fun i x y gx gy => (f i x y gx gy).mono h⟩
end My
set_option Elab.async false
set_option linter.all false
set_option maxRecDepth 100000
namespace L2
open PySem PySem.Spec PyProof.Rows
def rGetP (K : PySem.W.Frag) : V → V → Hp → VK → Prop := fun o i H Q => ∃ p xs k x, o = .ref p ∧ i = .int k ∧ SqL K H p xs ∧ 0 ≤ k ∧ k < 1000 ∧ xs[k.toNat]? = some x ∧ Q x H
theorem get_seqk {X : Cx} (K : PySem.W.Frag) (hK : X.K = K) : PGet X (rGetP K) := fun pins s σ H o i ov iv Q I ro ri h => by
  obtain ⟨p, xs, k, x, rfl, rfl, hp, k0, k1, hx, q⟩ := h
  subst hK
  cases ro
  obtain ⟨t, rfl⟩ := ri
  obtain ⟨its, r, pl, hz⟩ := I.list hp
  obtain ⟨u, gu, ru⟩ := vals_get r hx
  exact wpAny_getItem_list pl.isList k0 (by omega) (by simpa using gu) ⟨x, H, I, ru, q⟩
end L2
namespace My
open PySem PySem.Spec PyProof.Rows L2
def potOk (xs : List V) : Prop := ∃ g s c : Int, xs = [.int g, .int s, .int c] ∧ 0 ≤ g ∧ 0 ≤ s ∧ s < 2305843009213693951 ∧ 0 ≤ c
/-- the hand at h -/
def Pot (H : Hp) (h : Addr) : Prop := ∃ xs, H h = some (.lst xs) ∧ potOk xs
/-- behind a draw: the hand is one, all else is as it was -/
structure Pour (h : Addr) (H H' : Hp) : Prop where
  x : SameX h H H'
  hand : Pot H' h
theorem Pour.trans {h : Addr} {H H1 H2 : Hp} (a : Pour h H H1) (b : Pour h H1 H2) : Pour h H H2 := ⟨a.x.trans b.x, b.hand⟩
theorem Pot.same {H H' : Hp} {h : Addr} (a : Pot H h) (s : Same H H') : Pot H' h := let ⟨xs, e, o⟩ := a; ⟨xs, s _ _ e, o⟩
theorem Pot.ne {H H' : Hp} {h l : Addr} (a : Pot H h) (s : SameX l H H') (n : h ≠ l) : Pot H' h := let ⟨xs, e, o⟩ := a; ⟨xs, s _ _ n e, o⟩
theorem Pour.same {h : Addr} {H H1 H2 : Hp} (a : Pour h H H1) (b : Same H1 H2) : Pour h H H2 := ⟨a.x.trans (b.x h), a.hand.same b⟩
theorem Pour.of {h : Addr} {H H1 : Hp} (a : Pot H h) (b : Same H H1) : Pour h H H1 := ⟨b.x h, a.same b⟩
theorem Pour.tups {h : Addr} {H H1 : Hp} (a : Pour h H H1) (b : Pot H h) : Tups H H1 := let ⟨_, e, _⟩ := b; a.x.tups e
/-- what was a list stays, but the hand -/
theorem Pour.keep {h l : Addr} {H H1 : Hp} (a : Pour h H H1) {o : HO} (n : l ≠ h) (e : H l = some o) : H1 l = some o := a.x l o n e
theorem Pour.sq {K : PySem.W.Frag} {h l : Addr} {H H1 : Hp} {xs : List V} (a : Pour h H H1) (b : Pot H h) (n : l ≠ h) (e : SqL K H l xs) : SqL K H1 l xs := by
  rcases e with (e | ⟨o, e⟩) | e
  · exact .inl (.inl (a.x l _ n e))
  · exact .inl (.inr ⟨o, a.x l _ n e⟩)
  · exact .inr e
theorem Pot.fresh {H : Hp} {h p : Addr} (a : Pot H h) (n : H p = none) : p ≠ h := fun z => by obtain ⟨xs, e, _⟩ := a; rw [z, e] at n; cases n
theorem word_of9 {x y : Str} {c : Nat} (a : Part x 1) (b : Part y 6) (h0 : 97 ≤ c) (h1 : c < 123) : Wd (x ++ ⟨#[c]⟩ ++ y) := by
  have q := (a.append (one_part h0 h1)).append b
  refine ⟨?_, q.1, q.2⟩
  rw [Str.length_append, Str.length_append]
  show 1 ≤ x.length + 1 + y.length
  omega
end My
set_option Elab.async false
set_option linter.all false
set_option maxRecDepth 100000
namespace L2
open PySem PySem.Spec PyProof.Rows
def Itd (lo : Int) (n : Nat) : It := ⟨fun i _ => i < n, fun i H x H' => H' = H ∧ x = .int (lo - i), fun i _ => n ≤ i⟩
theorem turn_rangeD {P : Program} {w : World} {K : PySem.W.Frag} {tg : Expr} (it : Addr) (lo : Int) (n : Nat) : Turn P w K tg (Itd lo n) [it] it (fun i h => IsRangeIter h it (lo + (i : Nat) * (-1)) ((n : Int) - (i : Nat)) (-1)) where
  mem := by simp
  obj := fun i h st b hb => by
    have e : b = it := by simpa using hb
    subst e
    exact ⟨_, st, fun v z => by
      have z' : Data.fields _ = Data.cell v := z
      cases z'⟩
  keep := fun i h h' st k => k it (by simp) _ st
  item := by
    intro X hP hw hK hc i pins s σ H E I hf st hg
    subst hP hw hK
    obtain ⟨f0, f1, f2, f3, f4, f5⟩ := hf it (by simp)
    have W := Walks.range (prog := X.prog) (w := X.w) (I.ok.hd hc) it lo (-1) n
    refine W.item i s _ _ hg st fun v h' tk hv st' kk => ?_
    obtain ⟨t, rfl⟩ := hv
    have I1 : Inv X pins σ H { s with heap := h', toks := tk } := I.turned (fun b o hb e => kk b o (by simpa using hb) e) f0 f1 f3 f4 f5
    refine ⟨_, rfl, go_of (s := { s with heap := h', toks := tk }) (n := "range_iterator") st' rfl rfl (by decide) ⟨.int (lo - i), H, I1, ⟨t, ?_⟩, ⟨rfl, rfl⟩, st', fun b hb => (hf b hb).1⟩⟩
    rw [show lo + (i : Int) * (-1) = lo - i by omega]
  done := by
    intro X hP hw hK hc i pins s σ H E I hf st hg
    subst hP hw hK
    obtain ⟨f0, f1, f2, f3, f4, f5⟩ := hf it (by simp)
    exact wpAny_pyNext_range_end (I.ok.hd hc) st (by have : n ≤ i := hg; omega) fun h' eb => ⟨rfl, I.turned (t' := s.toks) (fun b o hb e => eb b o hb e) f0 f1 f3 f4 f5⟩
  self := fun _ _ _ _ _ st h => wpAny_pyIter_rangeiter st h
section
variable {X : Cx} {tg : Expr}
theorem range_itD {pins : List (Addr × Obj)} {σ : St} {H : Hp} {s : Shared} {R : It → Hp → Prop} {E : Value → Shared → Prop} {lo hi : Int} {t u v : Tok} {tk : Nat} (I : Inv X pins σ H s) (h1 : -(2 ^ 62) ≤ lo) (h2 : lo < 2 ^ 62) (h3 : -(2 ^ 62) ≤ hi) (h4 : hi < 2 ^ 62)
    (q : R (Itd lo (lo - hi).toNat) H) : wpAny (model X.prog X.w) X.A (pyIter (.ref s.heap.objs.size)) (PIE X pins σ tg R) E { s with heap := s.heap.push { cls := .type "range", data := .fields #[.int lo t, .int hi u, .int (-1) v] }, toks := tk } := by
  refine wpAny_pyIter_range (IsRange.new ..) (PySem.W.small_down h1 h2 h3 h4) ?_
  have I1 : Inv X pins σ H { s with heap := s.heap.push { cls := .type "range", data := .fields #[.int lo t, .int hi u, .int (-1) v] }, toks := tk } := I.kept fun b o e => Heap.get?_push_of_some _ e
  refine ⟨(s.heap.push { cls := .type "range", data := .fields #[.int lo t, .int hi u, .int (-1) v] }).objs.size, [(s.heap.push { cls := .type "range", data := .fields #[.int lo t, .int hi u, .int (-1) v] }).objs.size], _, _, H, rfl,
    I1.kept (t' := tk) fun b o e => Heap.get?_push_of_some _ e, turn_rangeD _ lo (lo - hi).toNat, ?_, fun b hb => ?_, q⟩
  · have e1 : lo + ((0 : Nat) : Int) * (-1) = lo := by simp
    have e2 : (((lo - hi).toNat : Nat) : Int) - ((0 : Nat) : Int) = Builtin.Range.rangeSize lo hi (-1) := by rw [PySem.W.rangeSize_down]; split <;> omega
    show IsRangeIter _ _ (lo + ((0 : Nat) : Int) * (-1)) ((((lo - hi).toNat : Nat) : Int) - ((0 : Nat) : Int)) (-1)
    rw [e1, e2]
    exact Heap.get?_push_size _ rfl
  · have e : b = (s.heap.push { cls := .type "range", data := .fields #[.int lo t, .int hi u, .int (-1) v] }).objs.size := by simpa using hb
    subst e
    exact I1.fpOk (Nat.le_refl _) (I1.hok.fresh (Nat.le_refl _))
def iRng3 (ta : TA) : TI := fun σ H R => ta σ H fun vs H1 => ∃ i j : Int, vs = [.int i, .int j, .int (-1)] ∧ (-(2 ^ 62) ≤ i ∧ i < 2 ^ 62 ∧ -(2 ^ 62) ≤ j ∧ j < 2 ^ 62) ∧ R (Itd i (i - j).toNat) H1
theorem pi_range3 {a b c : Expr} {ta : TA} {p pos : Pos} (hg : Gl X "range") (hm : X.mg "range" = none) (ha : PA X [a, b, c] ta) (hs : starEach [a, b, c] X.env = [(false, eval a X.env), (false, eval b X.env), (false, eval c X.env)] := by rfl) (hs2 : starEach [b, c] X.env = [(false, eval b X.env), (false, eval c X.env)] := by rfl) :
    PI X tg (.Call (.Name "range" p) [a, b, c] [] pos) (iRng3 ta) := by
  intro pins s σ H R I h
  refine Call_ (ld_blt I hg hm boot_range (PyProof.Rows.callWith_type1 (thn (ha pos pins s σ H _ I h) fun us s1 ⟨vs, H1, I1, r1, q1⟩ => ?_) (by rw [hs, hs2]) (by rw [hs2]; rfl)))
  obtain ⟨i, j, e, ⟨q1, q2, q3, q4⟩, q⟩ := q1
  subst e
  cases r1 with
  | cons r rr =>
    cases rr with
    | cons r' rr =>
      cases rr with
      | cons r'' rr =>
        cases rr
        obtain ⟨t, rfl⟩ := r
        obtain ⟨t', rfl⟩ := r'
        obtain ⟨t'', rfl⟩ := r''
        refine call_range_3 (by decide) (range_itD I1 q1 q2 q3 q4 q) (.inl ?_)
        unfold Builtin.divisionGoesByPylong
        have e1 : decide ((if ((-1 : Int) == 0) = true then 0 else (-1 : Int).natAbs.log2 / 30 + 1) > 300) = false := by decide
        simp only [e1, Bool.false_and]
end
def Itel (K : PySem.W.Frag) (a : Addr) : It where
  go := fun i H => ∃ xs x, SqL K H a xs ∧ xs[i]? = some x
  yld := fun i H v H' => ∃ p x, v = .ref p ∧ H p = none ∧ H' = upd H p (.tup [.int i, x]) ∧ ∀ xs, SqL K H a xs → xs[i]? = some x
  stop := fun i H => ∃ xs, SqL K H a xs ∧ xs.length ≤ i
theorem turn_enumL {P : Program} {w : World} {K : PySem.W.Frag} {elts : List Expr} {kk : Nat} {pos : Pos} {e it t : Addr} (hei : e ≠ it) : Turn P w K (.Tuple elts kk pos) (Itel K t) [e, it] e (fun i h => (∃ old, IsEnum h e it (i : Nat) old) ∧ h.IsListIter it t i) where
  mem := by simp
  obj := fun i h st b hb => by
    simp only [List.mem_cons, List.not_mem_nil, or_false] at hb
    rcases hb with rfl | rfl
    · obtain ⟨⟨_, e⟩, _⟩ := st; exact ⟨_, e, fun v z => by cases z⟩
    · obtain ⟨_, ⟨o, e, _, d⟩⟩ := st; exact ⟨o, e, fun v z => by rw [d] at z; cases z⟩
  keep := fun i h h' st k => ⟨let ⟨o, e'⟩ := st.1; ⟨o, k e (by simp) _ e'⟩, let ⟨o, e', p⟩ := st.2; ⟨o, k it (by simp) _ e', p⟩⟩
  item := by
    intro X hP hw hK hc i pins s σ H E I hf st hg
    subst hP hw hK
    obtain ⟨xs, x, hx, gx⟩ := hg
    obtain ⟨its, rx, tx, _⟩ := I.list hx
    obtain ⟨u, gu, ru⟩ := vals_get rx gx
    obtain ⟨⟨old, hz⟩, hi⟩ := st
    refine wpAny_pyNext_enum_item hz hi tx.isList (by simpa using gu) hei fun h' zo j np _ k => ?_
    refine ⟨_, rfl, ?_⟩
    refine wpAny_letOwnedTupleGo_enum zo fun h2 z2 b2 => ?_
    have le : e < s.heap.objs.size := Heap.lt_size hz
    have li : it < s.heap.objs.size := let ⟨_, e', _⟩ := hi; Heap.lt_size e'
    have lt : ∀ b ∈ [e, it], b < s.heap.objs.size := fun b hb => by
      simp only [List.mem_cons, List.not_mem_nil, or_false] at hb
      rcases hb with rfl | rfl
      · exact le
      · exact li
    have nz : s.heap.objs.size ≠ e := fun z => Nat.lt_irrefl _ (by have := le; rw [← z] at this; exact this)
    have kk' : ∀ b o, b ∉ [e, it] → s.heap.get? b = some o → h2.get? b = some o := fun b o hb e' => by
      have hz' : b ≠ e := fun q => hb (by simp [q])
      rw [b2.2 b hz']
      exact k b o hz' (fun q => hb (by simp [q])) e'
    have np2 : h2.get? s.heap.objs.size = some { cls := .type "tuple", data := .seq #[.int i s.toks, u] } := (b2.2 _ nz).trans np
    have hfr := I.hok.fresh (Nat.le_refl s.heap.objs.size)
    refine ⟨.ref s.heap.objs.size, upd H s.heap.objs.size (.tup [.int i, x]), I.turnLaid (t' := s.toks + 1) hf kk' (Nat.le_refl _) ⟨by show 2 ≤ sizeLine; decide, [.int i s.toks, u], .cons ⟨_, rfl⟩ (.cons ru .nil), ⟨_, np2, rfl, _, rfl⟩⟩, rfl, ⟨_, x, rfl, hfr, rfl, fun xs' h' => by rw [I.list_inj h' hx]; exact gx⟩, ⟨⟨_, z2⟩, let ⟨o, e', p⟩ := j; ⟨o, (b2.2 _ (Ne.symm hei)).trans e', p⟩⟩, fun b hb => ?_⟩
    rw [upd_ne (Nat.ne_of_lt (lt b hb))]
    exact (hf b hb).1
  done := by
    intro X hP hw hK hc i pins s σ H E I hf st hg
    subst hP hw hK
    obtain ⟨xs, hx, hl⟩ := hg
    obtain ⟨its, rx, tx, _⟩ := I.list hx
    have el := rx.length
    obtain ⟨⟨old, hz⟩, hi⟩ := st
    refine wpAny_pyNext_enum_end (I.ok.hd hc) hz hi tx.isList (by simp; omega) fun h' k => ⟨rfl, I.turnedN (t' := s.toks) hf fun b o hb e' => k b o (fun z => hb (by simp [z])) e'⟩
  self := fun A i s Q E st h => let ⟨_, e'⟩ := st.1; wpAny_pyIter_enum e' h
end L2
set_option Elab.async false
set_option linter.all false
set_option maxRecDepth 100000
namespace My
open PySem PySem.Spec PyProof.Rows L2
def en : Tr → Nat → Nat → Ent
  | .leaf x, _, _ => .word x
  | .node l r, o, j => if j < l.size then en l o j else if j < l.size + r.size then en r (o + l.size) (j - l.size) else .pair (o + l.size - 1) (o + l.size + r.size - 1)
/-- a house and those above it -/
def up : Tr → Nat → Nat → List Nat → List Nat
  | .leaf _, o, _, ab => o :: ab
  | .node l r, o, j, ab => if j < l.size then up l o j ((o + l.size + r.size) :: ab) else if j < l.size + r.size then up r (o + l.size) (j - l.size) ((o + l.size + r.size) :: ab) else (o + l.size + r.size) :: ab
/-- the one ahead -/
def ahd : Tr → Nat → Nat → V → V
  | .leaf _, _, _, p => p
  | .node l r, o, j, p => if j < l.size then ahd l o j (.int (o + l.size + r.size : Nat)) else if j < l.size + r.size then ahd r (o + l.size) (j - l.size) (.int (o + l.size + r.size : Nat)) else p
/-- the leaves under a house -/
def be : Tr → Nat → Nat → List Nat
  | .leaf _, o, _ => [o]
  | .node l r, o, j => if j < l.size then be l o j else if j < l.size + r.size then be r (o + l.size) (j - l.size) else be l o (l.size - 1) ++ be r (o + l.size) (r.size - 1)
theorem nd_en : ∀ (t : Tr) (o j : Nat), j < t.size → (t.nd o)[j]? = some (en t o j)
  | .leaf x, o, j, h => by
    have : j = 0 := by have : j < 1 := h; omega
    subst this; rfl
  | .node l r, o, j, h => by
    have es : (Tr.node l r).size = l.size + r.size + 1 := rfl
    have hn : (Tr.node l r).nd o = l.nd o ++ r.nd (o + l.size) ++ [.pair (o + l.size - 1) (o + l.size + r.size - 1)] := rfl
    have ln := l.nd_len o
    have rn := r.nd_len (o + l.size)
    unfold en
    by_cases c1 : j < l.size
    · rw [if_pos c1, hn, List.append_assoc, List.getElem?_append_left (by omega)]; exact nd_en l o j c1
    · rw [if_neg c1]
      by_cases c2 : j < l.size + r.size
      · rw [if_pos c2, hn, List.append_assoc, List.getElem?_append_right (by omega), List.getElem?_append_left (by omega), ln]
        exact nd_en r _ _ (by omega)
      · rw [if_neg c2, hn, List.getElem?_append_right (by rw [List.length_append]; omega), List.length_append, ln, rn]
        have : j - (l.size + r.size) = 0 := by omega
        rw [this]; rfl
theorem up_ab : ∀ (t : Tr) (o j : Nat) (ab : List Nat), ∀ x ∈ ab, x ∈ up t o j ab
  | .leaf _, o, j, ab, x, h => List.mem_cons_of_mem _ h
  | .node l r, o, j, ab, x, h => by
    unfold up
    split
    · exact up_ab l _ _ _ _ (List.mem_cons_of_mem _ h)
    · split
      · exact up_ab r _ _ _ _ (List.mem_cons_of_mem _ h)
      · exact List.mem_cons_of_mem _ h
theorem up_in : ∀ (t : Tr) (o j : Nat) (ab : List Nat), ∀ x ∈ up t o j ab, (o ≤ x ∧ x < o + t.size) ∨ x ∈ ab
  | .leaf _, o, j, ab, x, h => by
    have es : (Tr.leaf ‹_›).size = 1 := rfl
    rcases List.mem_cons.mp h with z | z
    · left; omega
    · exact .inr z
  | .node l r, o, j, ab, x, h => by
    have es : (Tr.node l r).size = l.size + r.size + 1 := rfl
    unfold up at h
    split at h
    · rcases up_in l _ _ _ _ h with z | z
      · left; omega
      · rcases List.mem_cons.mp z with z | z
        · left; omega
        · exact .inr z
    · split at h
      · rcases up_in r _ _ _ _ h with z | z
        · left; omega
        · rcases List.mem_cons.mp z with z | z
          · left; omega
          · exact .inr z
      · rcases List.mem_cons.mp h with z | z
        · left; omega
        · exact .inr z
theorem up_root (t : Tr) (o j : Nat) (ab : List Nat) : (o + t.size - 1) ∈ up t o j ab := by
  cases t with
  | leaf _ => exact List.mem_cons_self ..
  | node l r =>
    have es : (Tr.node l r).size = l.size + r.size + 1 := rfl
    have e : o + (Tr.node l r).size - 1 = o + l.size + r.size := by omega
    rw [e]
    unfold up
    split
    · exact up_ab l _ _ _ _ (List.mem_cons_self ..)
    · split
      · exact up_ab r _ _ _ _ (List.mem_cons_self ..)
      · exact List.mem_cons_self ..
theorem be_in : ∀ (t : Tr) (o j : Nat), ∀ x ∈ be t o j, o ≤ x ∧ x < o + t.size
  | .leaf _, o, j, x, h => by
    have es : (Tr.leaf ‹_›).size = 1 := rfl
    have := List.mem_singleton.mp h
    omega
  | .node l r, o, j, x, h => by
    have es : (Tr.node l r).size = l.size + r.size + 1 := rfl
    unfold be at h
    split at h
    · have := be_in l _ _ _ h; omega
    · split at h
      · have := be_in r _ _ _ h; omega
      · rcases List.mem_append.mp h with z | z
        · have := be_in l _ _ _ z; omega
        · have := be_in r _ _ _ z; omega
theorem be_ne : ∀ (t : Tr) (o j : Nat), ∃ x, x ∈ be t o j
  | .leaf _, o, j => ⟨o, List.mem_cons_self ..⟩
  | .node l r, o, j => by
    unfold be
    split
    · exact be_ne l _ _
    · split
      · exact be_ne r _ _
      · obtain ⟨x, h⟩ := be_ne l o (l.size - 1)
        exact ⟨x, List.mem_append_left _ h⟩
theorem be_root : ∀ (t : Tr) (o j : Nat), j < t.size → ∀ x ∈ be t o j, x ∈ be t o (t.size - 1)
  | .leaf _, o, j, _, x, h => h
  | .node l r, o, j, hj, x, h => by
    have es : (Tr.node l r).size = l.size + r.size + 1 := rfl
    have ez : be (.node l r) o ((Tr.node l r).size - 1) = be l o (l.size - 1) ++ be r (o + l.size) (r.size - 1) := by
      rw [be, if_neg (by omega), if_neg (by omega)]
    rw [ez]
    unfold be at h
    split at h
    · exact List.mem_append_left _ (be_root l _ _ ‹_› _ h)
    · split at h
      · exact List.mem_append_right _ (be_root r _ _ (by omega) _ h)
      · exact h
/-- neither above nor under just where no leaf is in both -/
theorem apart : ∀ (t : Tr) (o : Nat) (ab : List Nat), (∀ x ∈ ab, o + t.size ≤ x) → ∀ i j, i < t.size → j < t.size → (((o + j) ∉ up t o i ab ∧ (o + i) ∉ up t o j ab) ↔ ¬ ∃ x ∈ be t o j, x ∈ be t o i)
  | .leaf x, o, ab, hab, i, j, hi, hj => by
    have : i = 0 := by have : i < 1 := hi; omega
    subst this
    have : j = 0 := by have : j < 1 := hj; omega
    subst this
    constructor
    · intro h; exact absurd (List.mem_cons_self ..) h.1
    · intro h; exact absurd ⟨o, List.mem_cons_self .., List.mem_cons_self ..⟩ h
  | .node l r, o, ab, hab, i, j, hi, hj => by
    have es : (Tr.node l r).size = l.size + r.size + 1 := rfl
    have lp := l.size_pos
    have rp := r.size_pos
    have ab' : ∀ x ∈ ((o + l.size + r.size) :: ab), o + l.size + r.size ≤ x := fun x hx => by
      rcases List.mem_cons.mp hx with z | z
      · omega
      · have := hab x z; omega
    have rootI : i = l.size + r.size → (((o + j) ∉ up (.node l r) o i ab ∧ (o + i) ∉ up (.node l r) o j ab) ↔ ¬ ∃ x ∈ be (.node l r) o j, x ∈ be (.node l r) o i) := fun ei => by
      have e1 : o + (Tr.node l r).size - 1 = o + i := by omega
      have e2 : i = (Tr.node l r).size - 1 := by omega
      have h1 := up_root (.node l r) o j ab
      rw [e1] at h1
      obtain ⟨x, hx⟩ := be_ne (.node l r) o j
      have h2 := be_root (.node l r) o j hj x hx
      rw [← e2] at h2
      exact ⟨fun h => absurd h1 h.2, fun h => absurd ⟨x, hx, h2⟩ h⟩
    have rootJ : j = l.size + r.size → (((o + j) ∉ up (.node l r) o i ab ∧ (o + i) ∉ up (.node l r) o j ab) ↔ ¬ ∃ x ∈ be (.node l r) o j, x ∈ be (.node l r) o i) := fun ei => by
      have e1 : o + (Tr.node l r).size - 1 = o + j := by omega
      have e2 : j = (Tr.node l r).size - 1 := by omega
      have h1 := up_root (.node l r) o i ab
      rw [e1] at h1
      obtain ⟨x, hx⟩ := be_ne (.node l r) o i
      have h2 := be_root (.node l r) o i hi x hx
      rw [← e2] at h2
      exact ⟨fun h => absurd h1 h.1, fun h => absurd ⟨x, h2, hx⟩ h⟩
    by_cases ci : i = l.size + r.size
    · exact rootI ci
    by_cases cj : j = l.size + r.size
    · exact rootJ cj
    have uL : ∀ k, k < l.size → up (.node l r) o k ab = up l o k ((o + l.size + r.size) :: ab) := fun k hk => by rw [up, if_pos hk]
    have uR : ∀ k, ¬ k < l.size → k < l.size + r.size → up (.node l r) o k ab = up r (o + l.size) (k - l.size) ((o + l.size + r.size) :: ab) := fun k h1 h2 => by rw [up, if_neg h1, if_pos h2]
    have bL : ∀ k, k < l.size → be (.node l r) o k = be l o k := fun k hk => by rw [be, if_pos hk]
    have bR : ∀ k, ¬ k < l.size → k < l.size + r.size → be (.node l r) o k = be r (o + l.size) (k - l.size) := fun k h1 h2 => by rw [be, if_neg h1, if_pos h2]
    by_cases i1 : i < l.size
    · rw [uL i i1, bL i i1]
      by_cases j1 : j < l.size
      · rw [uL j j1, bL j j1]
        exact apart l o _ (fun x hx => by have := ab' x hx; omega) i j i1 j1
      · rw [uR j j1 (by omega), bR j j1 (by omega)]
        refine ⟨fun _ ⟨x, h1, h2⟩ => ?_, fun _ => ⟨fun z => ?_, fun z => ?_⟩⟩
        · have := be_in r _ _ _ h1; have := be_in l _ _ _ h2; omega
        · rcases up_in l _ _ _ _ z with z | z
          · omega
          · have := ab' _ z; omega
        · rcases up_in r _ _ _ _ z with z | z
          · omega
          · have := ab' _ z; omega
    · rw [uR i i1 (by omega), bR i i1 (by omega)]
      by_cases j1 : j < l.size
      · rw [uL j j1, bL j j1]
        refine ⟨fun _ ⟨x, h1, h2⟩ => ?_, fun _ => ⟨fun z => ?_, fun z => ?_⟩⟩
        · have := be_in l _ _ _ h1; have := be_in r _ _ _ h2; omega
        · rcases up_in r _ _ _ _ z with z | z
          · omega
          · have := ab' _ z; omega
        · rcases up_in l _ _ _ _ z with z | z
          · omega
          · have := ab' _ z; omega
      · rw [uR j j1 (by omega), bR j j1 (by omega)]
        have h := apart r (o + l.size) ((o + l.size + r.size) :: ab) (fun x hx => by have := ab' x hx; omega) (i - l.size) (j - l.size) (by omega) (by omega)
        have e1 : o + l.size + (j - l.size) = o + j := by omega
        have e2 : o + l.size + (i - l.size) = o + i := by omega
        rw [e1, e2] at h
        exact h
/-- the leaves under a house, by those under its halves -/
theorem be_en : ∀ (t : Tr) (o j : Nat), j < t.size → (∃ x, en t o j = .word x ∧ be t o j = [o + j]) ∨ ∃ a b, en t o j = .pair (o + a) (o + b) ∧ a < j ∧ b < j ∧ be t o j = be t o a ++ be t o b
  | .leaf x, o, j, h => by
    have : j = 0 := by have : j < 1 := h; omega
    subst this
    exact .inl ⟨x, rfl, rfl⟩
  | .node l r, o, j, h => by
    have es : (Tr.node l r).size = l.size + r.size + 1 := rfl
    have lp := l.size_pos
    have rp := r.size_pos
    by_cases c1 : j < l.size
    · have e1 : en (.node l r) o j = en l o j := by rw [en, if_pos c1]
      have e2 : ∀ k, k < l.size → be (.node l r) o k = be l o k := fun k hk => by rw [be, if_pos hk]
      rw [e1]
      rcases be_en l o j c1 with ⟨x, q1, q2⟩ | ⟨a, b, q1, q2, q3, q4⟩
      · exact .inl ⟨x, q1, by rw [e2 j c1]; exact q2⟩
      · exact .inr ⟨a, b, q1, q2, q3, by rw [e2 j c1, e2 a (by omega), e2 b (by omega)]; exact q4⟩
    · by_cases c2 : j < l.size + r.size
      · have e1 : en (.node l r) o j = en r (o + l.size) (j - l.size) := by rw [en, if_neg c1, if_pos c2]
        have e2 : ∀ k, k < r.size → be (.node l r) o (l.size + k) = be r (o + l.size) k := fun k hk => by
          rw [be, if_neg (by omega), if_pos (by omega)]; congr 1; omega
        have ej : j = l.size + (j - l.size) := by omega
        rw [e1]
        rcases be_en r (o + l.size) (j - l.size) (by omega) with ⟨x, q1, q2⟩ | ⟨a, b, q1, q2, q3, q4⟩
        · refine .inl ⟨x, q1, ?_⟩
          rw [ej, e2 _ (by omega), q2]
          congr 1; omega
        · refine .inr ⟨l.size + a, l.size + b, ?_, by omega, by omega, ?_⟩
          · rw [q1, Nat.add_assoc, Nat.add_assoc]
          · rw [e2 a (by omega), e2 b (by omega), ej, e2 _ (by omega), q4]
      · have ej : j = l.size + r.size := by omega
        refine .inr ⟨l.size - 1, l.size + r.size - 1, ?_, by omega, by omega, ?_⟩
        · rw [en, if_neg c1, if_neg c2]
          congr 1 <;> omega
        · rw [be, if_neg c1, if_neg c2, be, if_pos (by omega), be, if_neg (by omega), if_pos (by omega)]
          congr 2; omega
/-- a house and those above it, by those above the one ahead -/
theorem up_ahd : ∀ (t : Tr) (o j : Nat) (p : V) (ab : List Nat), j < t.size → (j = t.size - 1 ∧ ahd t o j p = p ∧ up t o j ab = (o + j) :: ab) ∨ ∃ a, j < a ∧ a < t.size ∧ ahd t o j p = .int (o + a : Nat) ∧ up t o j ab = (o + j) :: up t o a ab
  | .leaf x, o, j, p, ab, h => by
    have : j = 0 := by have : j < 1 := h; omega
    subst this
    exact .inl ⟨rfl, rfl, rfl⟩
  | .node l r, o, j, p, ab, h => by
    have es : (Tr.node l r).size = l.size + r.size + 1 := rfl
    have lp := l.size_pos
    have rp := r.size_pos
    have er : up (.node l r) o (l.size + r.size) ab = (o + l.size + r.size) :: ab := by rw [up, if_neg (by omega), if_neg (by omega)]
    by_cases c1 : j < l.size
    · have e1 : ahd (.node l r) o j p = ahd l o j (.int (o + l.size + r.size : Nat)) := by rw [ahd, if_pos c1]
      have e2 : ∀ k, k < l.size → up (.node l r) o k ab = up l o k ((o + l.size + r.size) :: ab) := fun k hk => by rw [up, if_pos hk]
      rw [e1, e2 j c1]
      rcases up_ahd l o j (.int (o + l.size + r.size : Nat)) ((o + l.size + r.size) :: ab) c1 with ⟨q1, q2, q3⟩ | ⟨a, q1, q2, q3, q4⟩
      · refine .inr ⟨l.size + r.size, by omega, by omega, by rw [q2, Nat.add_assoc], by rw [q3, er]⟩
      · exact .inr ⟨a, q1, by omega, q3, by rw [q4, e2 a q2]⟩
    · by_cases c2 : j < l.size + r.size
      · have e1 : ahd (.node l r) o j p = ahd r (o + l.size) (j - l.size) (.int (o + l.size + r.size : Nat)) := by rw [ahd, if_neg c1, if_pos c2]
        have e2 : ∀ k, k < r.size → up (.node l r) o (l.size + k) ab = up r (o + l.size) k ((o + l.size + r.size) :: ab) := fun k hk => by
          rw [up, if_neg (by omega), if_pos (by omega)]; congr 1; omega
        obtain ⟨i, rfl⟩ : ∃ i, j = l.size + i := ⟨j - l.size, by omega⟩
        have ei : l.size + i - l.size = i := by omega
        rw [e1, e2 i (by omega), ei]
        rcases up_ahd r (o + l.size) i (.int (o + l.size + r.size : Nat)) ((o + l.size + r.size) :: ab) (by omega) with ⟨q1, q2, q3⟩ | ⟨a, q1, q2, q3, q4⟩
        · refine .inr ⟨l.size + r.size, by omega, by omega, by rw [q2, Nat.add_assoc], by rw [q3, er, Nat.add_assoc]⟩
        · exact .inr ⟨l.size + a, by omega, by omega, by rw [q3, Nat.add_assoc], by rw [q4, e2 a q2, Nat.add_assoc]⟩
      · have ej : j = l.size + r.size := by omega
        refine .inl ⟨by omega, by rw [ahd, if_neg c1, if_neg c2], ?_⟩
        rw [ej, er, Nat.add_assoc]
def ahs : Tr → Nat → V → List V
  | .leaf _, _, p => [p]
  | .node l r, o, p => ahs l o (.int (o + l.size + r.size : Nat)) ++ ahs r (o + l.size) (.int (o + l.size + r.size : Nat)) ++ [p]
theorem ahs_len : ∀ (t : Tr) (o : Nat) (p : V), (ahs t o p).length = t.size
  | .leaf _, _, _ => rfl
  | .node l r, o, p => by
    unfold ahs
    rw [List.length_append, List.length_append, ahs_len l, ahs_len r]; rfl
theorem ahs_set (t : Tr) (o : Nat) (p q : V) (A B : List V) : (A ++ ahs t o p ++ B).set (A.length + t.size - 1) q = A ++ ahs t o q ++ B := by
  have key : ∃ I, ahs t o p = I ++ [p] ∧ ahs t o q = I ++ [q] := by
    cases t with
    | leaf _ => exact ⟨[], rfl, rfl⟩
    | node l r => exact ⟨_, rfl, rfl⟩
  obtain ⟨I, e1, e2⟩ := key
  have h1 := ahs_len t o p
  rw [e1, List.length_append] at h1
  have h1' : I.length + 1 = t.size := h1
  rw [e1, e2]
  have ei : A.length + t.size - 1 = (A ++ I).length := by rw [List.length_append]; omega
  rw [ei, show A ++ (I ++ [p]) ++ B = (A ++ I) ++ p :: B by simp, List.set_append_right _ _ (Nat.le_refl _), Nat.sub_self]
  simp
theorem ah_app : ∀ (es fs : List Ent) (i : Nat) (l : List V), ah (es ++ fs) i l = ah fs (i + es.length) (ah es i l)
  | [], fs, i, l => rfl
  | e :: es, fs, i, l => by
    show ah (es ++ fs) (i + 1) (ahS l i e) = ah fs (i + (es.length + 1)) (ah es (i + 1) (ahS l i e))
    rw [ah_app es fs]
    congr 1
    omega
theorem ah_ahs : ∀ (t : Tr) (A B : List V), ah (t.nd A.length) A.length (A ++ List.replicate t.size .non ++ B) = A ++ ahs t A.length .non ++ B
  | .leaf x, A, B => rfl
  | .node l r, A, B => by
    have es : (Tr.node l r).size = l.size + r.size + 1 := rfl
    have lp := l.size_pos
    have rp := r.size_pos
    have hn : (Tr.node l r).nd A.length = l.nd A.length ++ r.nd (A.length + l.size) ++ [.pair (A.length + l.size - 1) (A.length + l.size + r.size - 1)] := rfl
    have ln := l.nd_len A.length
    have rn := r.nd_len (A.length + l.size)
    have h1 := ah_ahs l A (List.replicate r.size .non ++ ([V.non] ++ B))
    have e0 : A ++ List.replicate (Tr.node l r).size V.non ++ B = A ++ List.replicate l.size .non ++ (List.replicate r.size .non ++ ([V.non] ++ B)) := by
      rw [es, ← List.replicate_append_replicate, ← List.replicate_append_replicate]
      simp only [List.append_assoc]
      rfl
    rw [hn, ah_snoc, ah_app, e0, h1, ln]
    have la : (A ++ ahs l A.length V.non).length = A.length + l.size := by rw [List.length_append, ahs_len]
    have h2 := ah_ahs r (A ++ ahs l A.length V.non) ([V.non] ++ B)
    rw [la] at h2
    have e1 : A ++ ahs l A.length V.non ++ (List.replicate r.size V.non ++ ([V.non] ++ B)) = A ++ ahs l A.length V.non ++ List.replicate r.size V.non ++ ([V.non] ++ B) := by simp [List.append_assoc]
    rw [e1, h2, List.length_append, ln, rn]
    show ((_ : List V).set (A.length + l.size - 1) _).set (A.length + l.size + r.size - 1) _ = _
    have s1 := ahs_set l A.length .non (.int (A.length + (l.size + r.size) : Nat)) A (ahs r (A.length + l.size) V.non ++ ([V.non] ++ B))
    have e2 : A ++ ahs l A.length V.non ++ ahs r (A.length + l.size) V.non ++ ([V.non] ++ B) = A ++ ahs l A.length V.non ++ (ahs r (A.length + l.size) V.non ++ ([V.non] ++ B)) := by simp [List.append_assoc]
    rw [e2, s1]
    have lb : (A ++ ahs l A.length (V.int (A.length + (l.size + r.size) : Nat))).length = A.length + l.size := by rw [List.length_append, ahs_len]
    have s2 := ahs_set r (A.length + l.size) .non (.int (A.length + (l.size + r.size) : Nat)) (A ++ ahs l A.length (V.int (A.length + (l.size + r.size) : Nat))) ([V.non] ++ B)
    rw [lb] at s2
    have e3 : A ++ ahs l A.length (V.int (A.length + (l.size + r.size) : Nat)) ++ (ahs r (A.length + l.size) V.non ++ ([V.non] ++ B)) = A ++ ahs l A.length (V.int (A.length + (l.size + r.size) : Nat)) ++ ahs r (A.length + l.size) V.non ++ ([V.non] ++ B) := by simp [List.append_assoc]
    rw [e3, s2]
    have e4 : ahs (.node l r) A.length .non = ahs l A.length (.int (A.length + l.size + r.size : Nat)) ++ ahs r (A.length + l.size) (.int (A.length + l.size + r.size : Nat)) ++ [.non] := rfl
    rw [e4, Nat.add_assoc A.length l.size r.size]
    simp [List.append_assoc]
theorem ahs_get : ∀ (t : Tr) (o j : Nat) (p : V), j < t.size → (ahs t o p)[j]? = some (ahd t o j p)
  | .leaf x, o, j, p, h => by
    have : j = 0 := by have : j < 1 := h; omega
    subst this; rfl
  | .node l r, o, j, p, h => by
    have es : (Tr.node l r).size = l.size + r.size + 1 := rfl
    have ln := ahs_len l o (.int (o + l.size + r.size : Nat))
    have rn := ahs_len r (o + l.size) (.int (o + l.size + r.size : Nat))
    unfold ahs ahd
    by_cases c1 : j < l.size
    · rw [if_pos c1, List.append_assoc, List.getElem?_append_left (by omega)]; exact ahs_get l _ _ _ c1
    · rw [if_neg c1]
      by_cases c2 : j < l.size + r.size
      · rw [if_pos c2, List.append_assoc, List.getElem?_append_right (by omega), List.getElem?_append_left (by omega), ln]
        exact ahs_get r _ _ _ (by omega)
      · rw [if_neg c2, List.getElem?_append_right (by rw [List.length_append]; omega), List.length_append, ln, rn]
        have : j - (l.size + r.size) = 0 := by omega
        rw [this]; rfl
theorem ah_get (t : Tr) {j : Nat} (h : j < t.size) : (ah (t.nd 0) 0 (List.replicate t.size .non))[j]? = some (ahd t 0 j .non) := by
  have q := ah_ahs t [] []
  have e : ([] : List V) ++ List.replicate t.size .non ++ [] = List.replicate t.size .non := by simp
  have e2 : ([] : List V) ++ ahs t ([] : List V).length .non ++ [] = ahs t 0 .non := by simp
  rw [e, e2] at q
  have q' : ah (t.nd 0) 0 (List.replicate t.size .non) = ahs t 0 .non := q
  rw [q']
  exact ahs_get t 0 j .non h
end My
set_option Elab.async false
set_option linter.all false
set_option maxRecDepth 100000
namespace PL
open PySem PySem.Spec PyProof.Rows L2
variable {K : PySem.W.Frag}
/-- a list that nobody writes: frozen, or the module's -/
def FzL (K : PySem.W.Frag) (H : Hp) (a : Addr) (xs : List V) : Prop := (∃ o, H a = some (.frz o (.lst xs))) ∨
    ∃ (o : Obj) (its : Array Value) (n : Nat), K.lookup a = some o ∧ o.cls = .type "list" ∧ o.dict = none ∧ o.data = .seq its n ∧ its.size ≤ sizeLine ∧ Vals xs its.toList
theorem FzL.sq {H : Hp} {a : Addr} {xs : List V} (h : FzL K H a xs) : SqL K H a xs := h.elim (fun h => .inl (.inr h)) .inr
/-- tuples (and such lists) stay -/
structure TupsK (K : PySem.W.Frag) (H H' : Hp) : Prop where
  t : ∀ p vs, SqT K H p vs → SqT K H' p vs
  f : ∀ p vs, FzL K H p vs → FzL K H' p vs
theorem TupsK.refl (H : Hp) : TupsK K H H := ⟨fun _ _ h => h, fun _ _ h => h⟩
theorem _root_.L2.Same.tupsK {H H' : Hp} (s : Same H H') : TupsK K H H' := ⟨fun p vs h => by
  rcases h with (h | ⟨o, h⟩) | h
  · exact .inl (.inl (s _ _ h))
  · exact .inl (.inr ⟨o, s _ _ h⟩)
  · exact .inr h, fun p vs h => h.elim (fun ⟨o, h⟩ => .inl ⟨o, s _ _ h⟩) .inr⟩
inductive PV where
  | non | bl (b : Bool) | int (i : Int) | str (x : Str) | tup (l : List PV) | ref (n : Nat) | ty (n : String) | cl (l : List PV)
inductive PO where
  | lst (xs : List PV) | dk (kvs : List (Key × PV)) | dt (kvs : List (List Key × PV)) | opq (φ : List V → Prop)
abbrev PH := List PO
abbrev PSt := List (Option PV)
mutual
inductive VR (K : PySem.W.Frag) (ι : List Addr) (H : Hp) : V → PV → Prop
  | non : VR K ι H .non .non
  | bl (b : Bool) : VR K ι H (.bl b) (.bl b)
  | int (i : Int) : VR K ι H (.int i) (.int i)
  | str (x : Str) : VR K ι H (.str x) (.str x)
  | ty (n : String) : VR K ι H (.ty n) (.ty n)
  | tup {p : Addr} {vs : List V} {l : List PV} (h : SqT K H p vs) (r : VRs K ι H vs l) : VR K ι H (.ref p) (.tup l)
  | ref {n : Nat} {a : Addr} (h : ι[n]? = some a) : VR K ι H (.ref a) (.ref n)
  | cl {a : Addr} {vs : List V} {l : List PV} (h : FzL K H a vs) (r : VRs K ι H vs l) : VR K ι H (.ref a) (.cl l)
inductive VRs (K : PySem.W.Frag) (ι : List Addr) (H : Hp) : List V → List PV → Prop
  | nil : VRs K ι H [] []
  | cons {v : V} {p : PV} {vs : List V} {ps : List PV} (r : VR K ι H v p) (t : VRs K ι H vs ps) : VRs K ι H (v :: vs) (p :: ps)
end
section
variable {ι ι' : List Addr} {H H' : Hp}
mutual
theorem VR.mono (ht : TupsK K H H') (hi : ∀ (n : Nat) (a : Addr), ι[n]? = some a → ι'[n]? = some a) : ∀ {v : V} {p : PV}, VR K ι H v p → VR K ι' H' v p
  | _, _, .non => .non
  | _, _, .bl b => .bl b
  | _, _, .int i => .int i
  | _, _, .str x => .str x
  | _, _, .ty n => .ty n
  | _, _, .tup h r => .tup (ht.t _ _ h) (VRs.mono ht hi r)
  | _, _, .cl h r => .cl (ht.f _ _ h) (VRs.mono ht hi r)
  | _, _, .ref h => .ref (hi _ _ h)
theorem VRs.mono (ht : TupsK K H H') (hi : ∀ (n : Nat) (a : Addr), ι[n]? = some a → ι'[n]? = some a) : ∀ {vs : List V} {ps : List PV}, VRs K ι H vs ps → VRs K ι' H' vs ps
  | _, _, .nil => .nil
  | _, _, .cons r t => .cons (VR.mono ht hi r) (VRs.mono ht hi t)
end
theorem VRs.length : ∀ {vs : List V} {ps : List PV}, VRs K ι H vs ps → vs.length = ps.length
  | _, _, .nil => rfl
  | _, _, .cons _ t => by rw [List.length_cons, List.length_cons, VRs.length t]
theorem VRs.get : ∀ {vs : List V} {ps : List PV} {i : Nat} {p : PV}, VRs K ι H vs ps → ps[i]? = some p → ∃ v, vs[i]? = some v ∧ VR K ι H v p
  | _, _, _, _, .nil, e => by simp at e
  | _, _, 0, _, .cons r _, e => by simp at e; subst e; exact ⟨_, rfl, r⟩
  | _, _, i + 1, p, .cons _ t, e => by
    obtain ⟨v, h1, h2⟩ := VRs.get (i := i) (p := p) t (by simpa using e)
    exact ⟨v, by simpa using h1, h2⟩
theorem VRs.set {v : V} {p : PV} (r : VR K ι H v p) : ∀ {vs : List V} {ps : List PV} (i : Nat), VRs K ι H vs ps → VRs K ι H (vs.set i v) (ps.set i p)
  | _, _, _, .nil => .nil
  | _, _, 0, .cons _ t => .cons r t
  | _, _, i + 1, .cons q t => .cons q (VRs.set r i t)
theorem VRs.append : ∀ {xs ys : List V} {us ws : List PV}, VRs K ι H xs us → VRs K ι H ys ws → VRs K ι H (xs ++ ys) (us ++ ws)
  | _, _, _, _, .nil, s => s
  | _, _, _, _, .cons r t, s => .cons r (VRs.append t s)
theorem VRs.take : ∀ {xs : List V} {us : List PV} (n : Nat), VRs K ι H xs us → VRs K ι H (xs.take n) (us.take n)
  | _, _, 0, _ => .nil
  | _, _, _ + 1, .nil => .nil
  | _, _, n + 1, .cons r t => .cons r (VRs.take n t)
theorem VRs.drop : ∀ {xs : List V} {us : List PV} (n : Nat), VRs K ι H xs us → VRs K ι H (xs.drop n) (us.drop n)
  | _, _, 0, r => r
  | _, _, _ + 1, .nil => .nil
  | _, _, n + 1, .cons _ t => VRs.drop n t
theorem VRs.reverse : ∀ {xs : List V} {us : List PV}, VRs K ι H xs us → VRs K ι H xs.reverse us.reverse
  | _, _, .nil => .nil
  | _, _, .cons r t => by rw [List.reverse_cons, List.reverse_cons]; exact (VRs.reverse t).append (.cons r .nil)
theorem VRs.one {v : V} {p : PV} (r : VR K ι H v p) : VRs K ι H [v] [p] := .cons r .nil
end
structure Go (ι ι' : List Addr) (H H' : Hp) : Prop where
  ext : ∃ m, ι' = ι ++ m
  new : ∀ a, a ∈ ι' → a ∉ ι → H a = none
  keep : ∀ a o, a ∉ ι → H a = some o → H' a = some o
theorem Go.refl (ι : List Addr) (H : Hp) : Go ι ι H H := ⟨⟨[], by simp⟩, fun a h n => absurd h n, fun _ _ _ h => h⟩
theorem Go.trans {ι ι1 ι2 : List Addr} {H H1 H2 : Hp} (a : Go ι ι1 H H1) (b : Go ι1 ι2 H1 H2) : Go ι ι2 H H2 := by
  obtain ⟨m1, e1⟩ := a.ext
  obtain ⟨m2, e2⟩ := b.ext
  refine ⟨⟨m1 ++ m2, by rw [e2, e1, List.append_assoc]⟩, fun c h n => ?_, fun c o n h => ?_⟩
  · by_cases h1 : c ∈ ι1
    · exact a.new c h1 n
    · have q := b.new c h h1
      cases z : H c with
      | none => rfl
      | some o => rw [a.keep c o n z] at q; cases q
  · refine b.keep c o (fun h1 => ?_) (a.keep c o n h)
    rw [a.new c h1 n] at h; cases h
theorem Go.at {ι ι' : List Addr} {H H' : Hp} (g : Go ι ι' H H') {n : Nat} {a : Addr} (h : ι[n]? = some a) : ι'[n]? = some a := by
  obtain ⟨m, rfl⟩ := g.ext
  rw [List.getElem?_append_left (List.getElem?_eq_some_iff.mp h).1]; exact h
theorem Go.same {ι : List Addr} {H H' : Hp} (s : Same H H') : Go ι ι H H' := ⟨⟨[], by simp⟩, fun a h n => absurd h n, fun a o _ h => s a o h⟩
def OR (K : PySem.W.Frag) (ι : List Addr) (H : Hp) (a : Addr) : PO → Prop
  | .lst xs => ∃ vs, H a = some (.lst vs) ∧ VRs K ι H vs xs
  | .dk kvs => ∃ vs : List (Key × V), H a = some (.dK vs) ∧ vs.map (·.1) = kvs.map (·.1) ∧ VRs K ι H (vs.map (·.2)) (kvs.map (·.2))
  | .dt kvs => ∃ vs : List (List Key × V), H a = some (.dT vs) ∧ vs.map (·.1) = kvs.map (·.1) ∧ VRs K ι H (vs.map (·.2)) (kvs.map (·.2))
  | .opq φ => ∃ vs, H a = some (.lst vs) ∧ φ vs
structure HR (K : PySem.W.Frag) (ι : List Addr) (H : Hp) (h : PH) : Prop where
  nd : ι.Nodup
  len : ι.length = h.length
  obj : ∀ (n : Nat) (a : Addr) (o : PO), ι[n]? = some a → h[n]? = some o → OR K ι H a o
theorem HR.hv {ι : List Addr} {H : Hp} {h : PH} (r : HR K ι H h) {a : Addr} (ha : a ∈ ι) : H a ≠ none := by
  obtain ⟨n, hn⟩ := List.getElem?_of_mem ha
  have hl : n < h.length := by rw [← r.len]; exact (List.getElem?_eq_some_iff.mp hn).1
  have q := r.obj n a _ hn (List.getElem?_eq_getElem hl)
  intro z
  revert q
  cases h[n] with
  | lst xs => rintro ⟨ws, e, _⟩; rw [z] at e; cases e
  | dk xs => rintro ⟨ws, e, _⟩; rw [z] at e; cases e
  | dt xs => rintro ⟨ws, e, _⟩; rw [z] at e; cases e
  | opq φ => rintro ⟨ws, e, _⟩; rw [z] at e; cases e
theorem HR.nofz {ι : List Addr} {H : Hp} {h : PH} (r : HR K ι H h) {a : Addr} (ha : a ∈ ι) (o : Obj) (u : HO) : H a ≠ some (.frz o u) := by
  obtain ⟨n, hn⟩ := List.getElem?_of_mem ha
  have hl : n < h.length := by rw [← r.len]; exact (List.getElem?_eq_some_iff.mp hn).1
  have q := r.obj n a _ hn (List.getElem?_eq_getElem hl)
  intro z
  revert q
  cases h[n] with
  | lst xs => rintro ⟨ws, e, _⟩; rw [z] at e; cases e
  | dk xs => rintro ⟨ws, e, _⟩; rw [z] at e; cases e
  | dt xs => rintro ⟨ws, e, _⟩; rw [z] at e; cases e
  | opq φ => rintro ⟨ws, e, _⟩; rw [z] at e; cases e
theorem HR.notup {ι : List Addr} {H : Hp} {h : PH} (r : HR K ι H h) {a : Addr} (ha : a ∈ ι) (vs : List V) : ¬ Rd H a (.tup vs) := by
  obtain ⟨n, hn⟩ := List.getElem?_of_mem ha
  have hl : n < h.length := by rw [← r.len]; exact (List.getElem?_eq_some_iff.mp hn).1
  have q := r.obj n a _ hn (List.getElem?_eq_getElem hl)
  rintro (z | ⟨_, z⟩) <;> revert q
  all_goals (cases h[n] with
    | lst xs => rintro ⟨ws, e, _⟩; rw [z] at e; cases e
    | dk xs => rintro ⟨ws, e, _⟩; rw [z] at e; cases e
    | dt xs => rintro ⟨ws, e, _⟩; rw [z] at e; cases e
    | opq φ => rintro ⟨ws, e, _⟩; rw [z] at e; cases e)
theorem Go.tups {ι ι' : List Addr} {H H' : Hp} {h : PH} (g : Go ι ι' H H') (r : HR K ι H h) : TupsK K H H' := ⟨fun a vs e => by
  rcases e with e | e
  · have hn : a ∉ ι := fun z => r.notup z vs e
    rcases e with e | ⟨o, e⟩
    · exact .inl (.inl (g.keep a _ hn e))
    · exact .inl (.inr ⟨o, g.keep a _ hn e⟩)
  · exact .inr e, fun a vs e => e.elim (fun ⟨o, e⟩ => .inl ⟨o, g.keep a _ (fun z => r.nofz z o _ e) e⟩) .inr⟩
theorem Go.vr {ι ι' : List Addr} {H H' : Hp} {h : PH} (g : Go ι ι' H H') (r : HR K ι H h) {v : V} {p : PV} (x : VR K ι H v p) : VR K ι' H' v p := x.mono (g.tups r) fun _ _ e => g.at e
theorem Go.vrs {ι ι' : List Addr} {H H' : Hp} {h : PH} (g : Go ι ι' H H') (r : HR K ι H h) {v : List V} {p : List PV} (x : VRs K ι H v p) : VRs K ι' H' v p := x.mono (g.tups r) fun _ _ e => g.at e
/-- an object whose own place is kept -/
theorem OR.mono {ι ι' : List Addr} {H H' : Hp} (ht : TupsK K H H') (hi : ∀ (n : Nat) (a : Addr), ι[n]? = some a → ι'[n]? = some a) {a : Addr} (hk : H' a = H a) : ∀ {o : PO}, OR K ι H a o → OR K ι' H' a o
  | .lst _, ⟨vs, e, r⟩ => ⟨vs, hk.trans e, r.mono ht hi⟩
  | .dk _, ⟨vs, e, k, r⟩ => ⟨vs, hk.trans e, k, r.mono ht hi⟩
  | .dt _, ⟨vs, e, k, r⟩ => ⟨vs, hk.trans e, k, r.mono ht hi⟩
  | .opq _, ⟨vs, e, k⟩ => ⟨vs, hk.trans e, k⟩
theorem HR.same {ι : List Addr} {H H' : Hp} {h : PH} (r : HR K ι H h) (s : Same H H') : HR K ι H' h := ⟨r.nd, r.len, fun n a o e1 e2 => by
  refine (r.obj n a o e1 e2).mono s.tupsK (fun _ _ e => e) ?_
  cases z : H a with
  | none => exact absurd z (r.hv (List.mem_of_getElem? e1))
  | some u => exact s a u z⟩
theorem getElem?_snoc {α : Type} {l : List α} {x y : α} {n : Nat} (h : (l ++ [x])[n]? = some y) : l[n]? = some y ∨ (n = l.length ∧ y = x) := by
  by_cases hn : n < l.length
  · rw [List.getElem?_append_left hn] at h; exact .inl h
  · rw [List.getElem?_append_right (by omega)] at h
    obtain ⟨k, hk⟩ : ∃ k, k = n - l.length := ⟨_, rfl⟩
    rw [← hk] at h
    cases k with
    | zero => simp at h; exact .inr ⟨by omega, h.symm⟩
    | succ k => simp at h
/-- a new object -/
theorem HR.new {ι : List Addr} {H H' : Hp} {h : PH} {p : Addr} {o : PO} (r : HR K ι H h) (s : Same H H') (hp : H p = none) (ho : OR K ι H' p o) : HR K (ι ++ [p]) H' (h ++ [o]) ∧ Go ι (ι ++ [p]) H H' ∧ VR K (ι ++ [p]) H' (.ref p) (.ref h.length) := by
  have hm : ∀ (n : Nat) (a : Addr), ι[n]? = some a → (ι ++ [p])[n]? = some a := fun n a e => by rw [List.getElem?_append_left (List.getElem?_eq_some_iff.mp e).1]; exact e
  have hnew : p ∉ ι := fun z => r.hv z hp
  refine ⟨⟨?_, by simp [r.len], fun n a u e1 e2 => ?_⟩, ⟨⟨[p], rfl⟩, fun a h1 h2 => ?_, fun a u _ e => s a u e⟩, .ref (by rw [← r.len, List.getElem?_append_right (Nat.le_refl _)]; simp)⟩
  · exact List.nodup_append.mpr ⟨r.nd, by simp, fun a ha b hb => by simp at hb; subst hb; intro z; subst z; exact hnew ha⟩
  · rcases getElem?_snoc e1 with e1 | ⟨n1, rfl⟩
    · rcases getElem?_snoc e2 with e2 | ⟨n2, rfl⟩
      · exact ((r.same s).obj n a u e1 e2).mono (TupsK.refl _) hm rfl
      · have := (List.getElem?_eq_some_iff.mp e1).1; rw [r.len] at this; omega
    · rcases getElem?_snoc e2 with e2 | ⟨n2, rfl⟩
      · have := (List.getElem?_eq_some_iff.mp e2).1; rw [← r.len] at this; omega
      · exact ho.mono (TupsK.refl _) hm rfl
  · rcases List.mem_append.mp h1 with z | z
    · exact absurd z h2
    · simp at z; subst z; exact hp
/-- an object is changed -/
theorem HR.put {ι : List Addr} {H H' : Hp} {h : PH} {n : Nat} {a : Addr} {o : PO} (r : HR K ι H h) (hn : ι[n]? = some a) (s : SameX a H H') (ho : TupsK K H H' → OR K ι H' a o) : HR K ι H' (h.set n o) ∧ Go ι ι H H' ∧ TupsK K H H' := by
  have ha : a ∈ ι := List.mem_of_getElem? hn
  have ht : TupsK K H H' := ⟨fun b vs e => by
    rcases e with e | e
    · have hn : b ≠ a := fun z => by subst z; exact r.notup ha vs e
      rcases e with e | ⟨o, e⟩
      · exact .inl (.inl (s b _ hn e))
      · exact .inl (.inr ⟨o, s b _ hn e⟩)
    · exact .inr e, fun b vs e => e.elim (fun ⟨o, e⟩ => .inl ⟨o, s b _ (fun z => by subst z; exact r.nofz ha o _ e) e⟩) .inr⟩
  refine ⟨⟨r.nd, by rw [List.length_set]; exact r.len, fun m b u e1 e2 => ?_⟩, ⟨⟨[], by simp⟩, fun b h1 h2 => absurd h1 h2, fun b u h1 e => s b u (fun z => h1 (z ▸ ha)) e⟩, ht⟩
  by_cases hm : n = m
  · subst hm
    rw [hn] at e1
    cases e1
    have hl : n < h.length := by rw [← r.len]; exact (List.getElem?_eq_some_iff.mp hn).1
    rw [List.getElem?_set_self hl] at e2
    cases e2
    exact ho ht
  · rw [List.getElem?_set_ne hm] at e2
    refine (r.obj m b u e1 e2).mono ht (fun _ _ e => e) ?_
    have hb : b ≠ a := fun z => by
      subst z
      have h1 := List.getElem?_eq_some_iff.mp hn
      have h2 := List.getElem?_eq_some_iff.mp e1
      exact hm ((List.getElem_inj r.nd).mp (h1.2.trans h2.2.symm))
    cases z : H b with
    | none => exact absurd z (r.hv (List.mem_of_getElem? e1))
    | some w => exact s b w hb z
/-- what a place holds -/
theorem HR.at {ι : List Addr} {H : Hp} {h : PH} (r : HR K ι H h) {n : Nat} {a : Addr} {o : PO} (hv : VR K ι H (.ref a) (.ref n)) (ho : h[n]? = some o) : ι[n]? = some a ∧ OR K ι H a o := by
  cases hv with
  | ref e => exact ⟨e, r.obj n a o e ho⟩
def SR (K : PySem.W.Frag) (ι : List Addr) (H : Hp) (σ : L2.St) (ps : PSt) : Prop := σ.length = ps.length ∧ ∀ (i : Nat) (p : PV), ps[i]? = some (some p) → ∃ v, σ[i]? = some (some v) ∧ VR K ι H v p
theorem SR.go {ι ι' : List Addr} {H H' : Hp} {h : PH} {σ : L2.St} {ps : PSt} (s : SR K ι H σ ps) (r : HR K ι H h) (g : Go ι ι' H H') : SR K ι' H' σ ps := ⟨s.1, fun i p e => let ⟨v, e1, e2⟩ := s.2 i p e; ⟨v, e1, g.vr r e2⟩⟩
theorem SR.set {ι : List Addr} {H : Hp} {σ : L2.St} {ps : PSt} {v : V} {p : PV} (s : SR K ι H σ ps) (r : VR K ι H v p) (i : Nat) : SR K ι H (σ.set i (some v)) (ps.set i (some p)) := by
  refine ⟨by rw [List.length_set, List.length_set]; exact s.1, fun j q e => ?_⟩
  by_cases h : i = j
  · subst h
    by_cases hl : i < ps.length
    · rw [List.getElem?_set_self hl] at e
      cases e
      exact ⟨v, by rw [List.getElem?_set_self (by rw [s.1]; exact hl)], r⟩
    · rw [List.getElem?_eq_none (by rw [List.length_set]; omega)] at e; cases e
  · rw [List.getElem?_set_ne h] at e
    obtain ⟨w, e1, e2⟩ := s.2 j q e
    exact ⟨w, by rw [List.getElem?_set_ne h]; exact e1, e2⟩
end PL
set_option Elab.async false
set_option linter.all false
set_option maxRecDepth 100000
namespace PL
open PySem PySem.Spec PyProof.Rows L2
variable {K : PySem.W.Frag}
abbrev QV := PV → PH → Prop
structure ME where
  run : PSt → PH → QV → Prop
  mono : ∀ {ps h} {Q Q' : QV}, (∀ v h', Q v h' → Q' v h') → run ps h Q → run ps h Q'
structure MT where
  run : PSt → PH → (Bool → PH → Prop) → Prop
  mono : ∀ {ps h} {Q Q' : Bool → PH → Prop}, (∀ v h', Q v h' → Q' v h') → run ps h Q → run ps h Q'
structure MA where
  run : PSt → PH → (List PV → PH → Prop) → Prop
  mono : ∀ {ps h} {Q Q' : List PV → PH → Prop}, (∀ v h', Q v h' → Q' v h') → run ps h Q → run ps h Q'
/-- a list of its own, just made -/
structure ML where
  run : PSt → PH → (List PV → PH → Prop) → Prop
  mono : ∀ {ps h} {Q Q' : List PV → PH → Prop}, (∀ v h', Q v h' → Q' v h') → run ps h Q → run ps h Q'
/-- what is walked: the items, and what must stay true meanwhile -/
structure Src where
  items : List PV
  ok : PH → Prop
  fz : Bool
structure MI where
  run : PSt → PH → (Src → PH → Prop) → Prop
  mono : ∀ {ps h} {Q Q' : Src → PH → Prop}, (∀ v h', Q v h' → Q' v h') → run ps h Q → run ps h Q'
structure PD where
  nx : PSt → PH → Prop
  rt : QV
  bk : PSt → PH → Prop
  ct : PSt → PH → Prop
structure PD.Le (D D' : PD) : Prop where
  nx : ∀ ps h, D.nx ps h → D'.nx ps h
  rt : ∀ v h, D.rt v h → D'.rt v h
  bk : ∀ ps h, D.bk ps h → D'.bk ps h
  ct : ∀ ps h, D.ct ps h → D'.ct ps h
structure MS where
  run : PD → PSt → PH → Prop
  mono : ∀ {D D' ps h}, PD.Le D D' → run D ps h → run D' ps h
structure MG where
  run : PV → PSt → PH → (PSt → PH → Prop) → Prop
  mono : ∀ {v ps h} {Q Q' : PSt → PH → Prop}, (∀ ps h, Q ps h → Q' ps h) → run v ps h Q → run v ps h Q'
def pQ (K : PySem.W.Frag) (ι : List Addr) (H : Hp) (Q : VK) : QV := fun p h' => ∀ ι' v H', Go ι ι' H H' → HR K ι' H' h' → VR K ι' H' v p → Q v H'
theorem pQ.go {ι ι' : List Addr} {H H' : Hp} {Q : VK} (g : Go ι ι' H H') {p : PV} {h : PH} (q : pQ K ι H Q p h) : pQ K ι' H' Q p h := fun ι2 v H2 g2 r x => q ι2 v H2 (g.trans g2) r x
def lE (K : PySem.W.Frag) (m : ME) : TE := fun σ H Q => ∃ ι ps h, SR K ι H σ ps ∧ HR K ι H h ∧ m.run ps h (pQ K ι H Q)
def lT (K : PySem.W.Frag) (m : MT) : TT := fun σ H Q => ∃ ι ps h, SR K ι H σ ps ∧ HR K ι H h ∧ m.run ps h fun b h' => ∀ ι' H', Go ι ι' H H' → HR K ι' H' h' → Q b H'
def lA (K : PySem.W.Frag) (m : MA) : TA := fun σ H Q => ∃ ι ps h, SR K ι H σ ps ∧ HR K ι H h ∧ m.run ps h fun l h' => ∀ ι' vs H', Go ι ι' H H' → HR K ι' H' h' → VRs K ι' H' vs l → Q vs H'
/-- the list at a is nobody's -/
def Own (K : PySem.W.Frag) (ι : List Addr) (H : Hp) (a : Addr) (l : List PV) : Prop := a ∉ ι ∧ ∃ vs, H a = some (.lst vs) ∧ VRs K ι H vs l
def lL (K : PySem.W.Frag) (m : ML) : TE := fun σ H Q => ∃ ι ps h, SR K ι H σ ps ∧ HR K ι H h ∧ m.run ps h fun l h' => ∀ ι' a H', Go ι ι' H H' → HR K ι' H' h' → H a = none → Own K ι' H' a l → Q (.ref a) H'
/-- the walk yields the items, whatever comes, as long as ok -/
def JS (K : PySem.W.Frag) (ι : List Addr) (H : Hp) (J : It) (S : Src) : Prop := ∀ ι' H' h', Go ι ι' H H' → HR K ι' H' h' → S.ok h' →
  (∀ (i : Nat) (p : PV), S.items[i]? = some p → J.go i H' ∧ ∀ x H2, J.yld i H' x H2 → Same H' H2 ∧ VR K ι' H2 x p) ∧ J.stop S.items.length H'
def lI (K : PySem.W.Frag) (m : MI) : TI := fun σ H R => ∃ ι ps h, SR K ι H σ ps ∧ HR K ι H h ∧ m.run ps h fun S h' => ∀ ι' J H', Go ι ι' H H' → HR K ι' H' h' → JS K ι' H' J S → R J H'
def pN (K : PySem.W.Frag) (ι : List Addr) (H : Hp) (N : L2.St → Hp → Prop) : PSt → PH → Prop := fun ps' h' => ∀ ι' σ' H', Go ι ι' H H' → HR K ι' H' h' → SR K ι' H' σ' ps' → N σ' H'
theorem pN.go {ι ι' : List Addr} {H H' : Hp} {N : L2.St → Hp → Prop} (g : Go ι ι' H H') {p : PSt} {h : PH} (q : pN K ι H N p h) : pN K ι' H' N p h := fun ι2 v H2 g2 r x => q ι2 v H2 (g.trans g2) r x
def pD (K : PySem.W.Frag) (ι : List Addr) (H : Hp) (D : Ends) : PD := ⟨pN K ι H D.nx, pQ K ι H D.rt, pN K ι H D.bk, pN K ι H D.ct⟩
theorem pD.go {ι ι' : List Addr} {H H' : Hp} (g : Go ι ι' H H') (D : Ends) : PD.Le (pD K ι H D) (pD K ι' H' D) := ⟨fun _ _ q => pN.go g q, fun _ _ q => pQ.go g q, fun _ _ q => pN.go g q, fun _ _ q => pN.go g q⟩
def lS (K : PySem.W.Frag) (m : MS) : TS := fun D σ H => ∃ ι ps h, SR K ι H σ ps ∧ HR K ι H h ∧ m.run (pD K ι H D) ps h
def lG (K : PySem.W.Frag) (m : MG) : TG := fun v σ H Q => ∃ ι ps h p, SR K ι H σ ps ∧ HR K ι H h ∧ VR K ι H v p ∧ m.run p ps h (pN K ι H Q)
theorem PE.imp {X : Cx} {e : Expr} {t t' : TE} (h : PE X e t) (f : ∀ σ H Q, t' σ H Q → t σ H Q) : PE X e t' := fun pins s σ H Q I q => h pins s σ H Q I (f _ _ _ q)
theorem PT.imp {X : Cx} {e : Expr} {t t' : TT} (h : PT X e t) (f : ∀ σ H Q, t' σ H Q → t σ H Q) : PT X e t' := fun pins s σ H Q I q => h pins s σ H Q I (f _ _ _ q)
theorem PW.imp {X : Cx} {e : Expr} {t t' : TT} (h : PW X e t) (f : ∀ σ H Q, t' σ H Q → t σ H Q) : PW X e t' := fun w pins s σ H Q I q => h w pins s σ H Q I (f _ _ _ q)
theorem PA.imp {X : Cx} {e : List Expr} {t t' : TA} (h : PA X e t) (f : ∀ σ H Q, t' σ H Q → t σ H Q) : PA X e t' := fun pos pins s σ H Q I q => h pos pins s σ H Q I (f _ _ _ q)
theorem PS.imp {X : Cx} {e : Stmt} {t t' : TS} (h : PS X e t) (f : ∀ D σ H, t' D σ H → t D σ H) : PS X e t' := fun pins s σ H D I q => h pins s σ H D I (f _ _ _ q)
theorem PSs.imp {X : Cx} {e : List Stmt} {t t' : TS} (h : PSs X e t) (f : ∀ D σ H, t' D σ H → t D σ H) : PSs X e t' := fun pins s σ H D I q => h pins s σ H D I (f _ _ _ q)
theorem PG.imp {X : Cx} {e : Expr} {t t' : TG} (h : PG X e t) (f : ∀ v σ H Q, t' v σ H Q → t v σ H Q) : PG X e t' := fun pins s σ H v u Q I r q => h pins s σ H v u Q I r (f _ _ _ _ q)
theorem PI.imp {X : Cx} {tg e : Expr} {t t' : TI} (h : PI X tg e t) (f : ∀ σ H Q, t' σ H Q → t σ H Q) : PI X tg e t' := fun pins s σ H R I q => h pins s σ H R I (f _ _ _ q)
section
variable {X : Cx} {a b c e : Expr} {pos : Pos}
def mVar (i : Nat) : ME := ⟨fun ps h Q => match ps[i]? with | some (some v) => Q v h | _ => False, fun {ps h Q Q'} hq q => by
  revert q
  split
  · exact hq _ _
  · exact fun z => z⟩
def mC (v : PV) : ME := ⟨fun _ h Q => Q v h, fun hq q => hq _ _ q⟩
theorem q_var {i : Nat} (h : PE X e (tVar i)) : PE X e (lE K (mVar i)) := PE.imp h fun σ H Q ⟨ι, ps, h, sr, hr, q⟩ => by
  have q : (match ps[i]? with | some (some v) => pQ K ι H Q v h | _ => False) := q
  revert q
  split
  · rename_i v e
    intro q
    obtain ⟨u, e1, e2⟩ := sr.2 i v e
    exact ⟨u, e1, q ι u H (Go.refl _ _) hr e2⟩
  · exact False.elim
theorem q_c {v : V} {p : PV} (hv : ∀ ι H, VR K ι H v p) (h : PE X e (tC v)) : PE X e (lE K (mC p)) := PE.imp h fun σ H Q ⟨ι, ps, h, sr, hr, q⟩ => q ι v H (Go.refl _ _) hr (hv _ _)
theorem q_int {i j} : PE X (.Constant (.int i) j pos) (lE K (mC (.int i))) := q_c (fun _ _ => .int i) pe_int
theorem q_bl {b j} : PE X (.Constant (.bool b) j pos) (lE K (mC (.bl b))) := q_c (fun _ _ => .bl b) pe_bl
theorem q_non {j} : PE X (.Constant .none j pos) (lE K (mC .non)) := q_c (fun _ _ => .non) pe_non
theorem q_str {x j} : PE X (.Constant (.str x) j pos) (lE K (mC (.str x))) := q_c (fun _ _ => .str x) pe_str
abbrev P2 := PV → PV → PH → QV → Prop
structure M2 where
  f : P2
  mono : ∀ {x y h} {Q Q' : QV}, (∀ v h', Q v h' → Q' v h') → f x y h Q → f x y h Q'
def M2.Ok (K : PySem.W.Frag) (r : R2) (m : M2) : Prop := ∀ {ι H h u v x y Q}, HR K ι H h → VR K ι H u x → VR K ι H v y → m.f x y h (pQ K ι H Q) → r u v H Q
def mOp (m : M2) (a b : ME) : ME := ⟨fun ps h Q => a.run ps h fun x h1 => b.run ps h1 fun y h2 => m.f x y h2 Q, fun hq q => a.mono (fun _ _ q => b.mono (fun _ _ q => m.mono hq q) q) q⟩
theorem lE_op {r : R2} {m : M2} (hm : M2.Ok K r m) {ma mb : ME} : ∀ σ H Q, lE K (mOp m ma mb) σ H Q → tOp r (lE K ma) (lE K mb) σ H Q := by
  rintro σ H Q ⟨ι, ps, h, sr, hr, q⟩
  refine ⟨ι, ps, h, sr, hr, ma.mono (fun x h1 q1 ι1 u1 H1 g1 r1 v1 => ?_) q⟩
  refine ⟨ι1, ps, h1, sr.go hr g1, r1, mb.mono (fun y h2 q2 ι2 u2 H2 g2 r2 v2 => ?_) q1⟩
  exact hm r2 (g2.vr r1 v1) v2 (m.mono (fun _ _ z => pQ.go (g1.trans g2) z) q2)
theorem q_op {op : Operator} {r : R2} {m : M2} (ho : OpR X (binaryOp op) r) (hm : M2.Ok K r m) {ma mb : ME} (ha : PE X a (lE K ma)) (hb : PE X b (lE K mb)) : PE X (.BinOp a op b pos) (lE K (mOp m ma mb)) := PE.imp (pe_op ho ha hb) (lE_op hm)
theorem q_cmp {op : CmpOp} {r : R2} {m : M2} (ho : OpR X (compareOp op) r) (hm : M2.Ok K r m) {ma mb : ME} (ha : PE X a (lE K ma)) (hb : PE X b (lE K mb)) (hk : behindInMarks op b = false) : PE X (.Compare a [op] [b] pos) (lE K (mOp m ma mb)) := PE.imp (pe_cmpR ho ha hb hk) (lE_op hm)
theorem q_ix {r : R2} {m : M2} (hr : IxR X r) (hm : M2.Ok K r m) {ma mb : ME} (ha : PE X a (lE K ma)) (hb : PE X b (lE K mb)) (hs : PlainIx b) : PE X (.Subscript a b pos) (lE K (mOp m ma mb)) := PE.imp (pe_ix hr ha hb hs) (lE_op hm)
/-- .. as a test -/
def mB (m : ME) : MT := ⟨fun ps h Q => m.run ps h fun x h1 => match x with | .bl b => Q b h1 | _ => False, fun hq q => m.mono (fun x h1 z => by
  cases x with
  | bl b => exact hq _ _ z
  | _ => exact z) q⟩
theorem lT_B {m : ME} : ∀ σ H Q, lT K (mB m) σ H Q → (lE K m) σ H fun x H' => ∃ k, x = .bl k ∧ Q k H' := by
  rintro σ H Q ⟨ι, ps, h, sr, hr, q⟩
  refine ⟨ι, ps, h, sr, hr, m.mono (fun x h1 q1 ι1 u1 H1 g1 r1 v1 => ?_) q⟩
  cases x with
  | bl b => cases v1; exact ⟨b, rfl, q1 ι1 H1 g1 r1⟩
  | _ => exact q1.elim
theorem q_tcmp {op : CmpOp} {r : R2} {m : M2} (ho : OpR X (compareOp op) r) (hm : M2.Ok K r m) {ma mb : ME} (ha : PE X a (lE K ma)) (hb : PE X b (lE K mb)) (hk : behindInMarks op b = false) : PT X (.Compare a [op] [b] pos) (lT K (mB (mOp m ma mb))) :=
  PT.imp (pt_cmpR ho ha hb hk) fun σ H Q q => by
    have q := lT_B σ H Q q
    exact lE_op hm σ H _ q
end
end PL
set_option Elab.async false
set_option linter.all false
set_option maxRecDepth 100000
namespace PL
open PySem PySem.Spec PyProof.Rows L2
variable {K : PySem.W.Frag}
theorem HR.adopt {ι : List Addr} {H : Hp} {h : PH} {p : Addr} {o : PO} (r : HR K ι H h) (hnew : p ∉ ι) (ho : OR K ι H p o) : HR K (ι ++ [p]) H (h ++ [o]) ∧ VR K (ι ++ [p]) H (.ref p) (.ref h.length) := by
  have hm : ∀ (n : Nat) (a : Addr), ι[n]? = some a → (ι ++ [p])[n]? = some a := fun n a e => by rw [List.getElem?_append_left (List.getElem?_eq_some_iff.mp e).1]; exact e
  refine ⟨⟨?_, by simp [r.len], fun n a u e1 e2 => ?_⟩, .ref (by rw [← r.len, List.getElem?_append_right (Nat.le_refl _)]; simp)⟩
  · exact List.nodup_append.mpr ⟨r.nd, by simp, fun a ha b hb => by simp at hb; subst hb; intro z; subst z; exact hnew ha⟩
  · rcases getElem?_snoc e1 with e1 | ⟨n1, rfl⟩
    · rcases getElem?_snoc e2 with e2 | ⟨n2, rfl⟩
      · exact (r.obj n a u e1 e2).mono (TupsK.refl _) hm rfl
      · have := (List.getElem?_eq_some_iff.mp e1).1; rw [r.len] at this; omega
    · rcases getElem?_snoc e2 with e2 | ⟨n2, rfl⟩
      · have := (List.getElem?_eq_some_iff.mp e2).1; rw [← r.len] at this; omega
      · exact ho.mono (TupsK.refl _) hm rfl
theorem Go.adopt {ι ι' : List Addr} {H H' : Hp} {p : Addr} (g : Go ι ι' H H') (hp : H p = none) : Go ι (ι' ++ [p]) H H' := by
  obtain ⟨m, e⟩ := g.ext
  refine ⟨⟨m ++ [p], by rw [e, List.append_assoc]⟩, fun a h1 h2 => ?_, g.keep⟩
  rcases List.mem_append.mp h1 with z | z
  · exact g.new a z h2
  · simp at z; subst z; exact hp
theorem Own.go {ι ι' : List Addr} {H H' : Hp} {h : PH} {a : Addr} {l : List PV} (o : Own K ι H a l) (r : HR K ι H h) (g : Go ι ι' H H') : Own K ι' H' a l := by
  obtain ⟨n, vs, e, v⟩ := o
  refine ⟨fun z => ?_, vs, g.keep a _ n e, g.vrs r v⟩
  rw [g.new a z n] at e; cases e
theorem Own.newO {ι : List Addr} {H H' : Hp} {h : PH} {p : Addr} {vs : List V} {l : List PV} (r : HR K ι H h) (s : Same H H') (e : H' p = some (.lst vs)) (hp : H p = none) (v : VRs K ι H vs l) : HR K ι H' h ∧ Go ι ι H H' ∧ Own K ι H' p l :=
  ⟨r.same s, Go.same s, fun z => r.hv z hp, vs, e, (Go.same s).vrs r v⟩
section
variable {X : Cx} {a b c e : Expr} {es : List Expr} {pos : Pos}
def mAndV (a b : ME) : ME := ⟨fun ps h Q => a.run ps h fun x h1 => match x with | .bl true => b.run ps h1 Q | .bl false => Q (.bl false) h1 | _ => False, fun hq q => a.mono (fun x h1 q => by
  revert q
  split
  · exact b.mono hq
  · exact hq _ _
  · exact fun z => z) q⟩
def mOrV (a b : ME) : ME := ⟨fun ps h Q => a.run ps h fun x h1 => match x with | .bl true => Q (.bl true) h1 | .bl false => b.run ps h1 Q | _ => False, fun hq q => a.mono (fun x h1 q => by
  revert q
  split
  · exact hq _ _
  · exact b.mono hq
  · exact fun z => z) q⟩
def mNotV (a : ME) : ME := ⟨fun ps h Q => a.run ps h fun x h1 => match x with | .bl b => Q (.bl (!b)) h1 | _ => False, fun hq q => a.mono (fun x h1 q => by
  revert q
  split
  · exact hq _ _
  · exact fun z => z) q⟩
theorem q_and {rest : List Expr} {ma mb : ME} (ha : PE X a (lE K ma)) (hb : PE X (.BoolOp .And (b :: rest) pos) (lE K mb)) : PE X (.BoolOp .And (a :: b :: rest) pos) (lE K (mAndV ma mb)) := PE.imp (pe_and ha hb) fun σ H Q ⟨ι, ps, h, sr, hr, q⟩ => by
  refine ⟨ι, ps, h, sr, hr, ma.mono (fun x h1 q1 ι1 u1 H1 g1 r1 v1 => ?_) q⟩
  revert q1
  split
  · intro q1; cases v1; exact ⟨true, rfl, by rw [if_pos rfl]; exact ⟨ι1, ps, h1, sr.go hr g1, r1, mb.mono (fun _ _ z => pQ.go g1 z) q1⟩⟩
  · intro q1; cases v1; exact ⟨false, rfl, by rw [if_neg Bool.false_ne_true]; exact q1 ι1 _ H1 g1 r1 (.bl false)⟩
  · exact False.elim
theorem q_one {op} {ma : ME} (h : PE X a (lE K ma)) : PE X (.BoolOp op [a] pos) (lE K ma) := pe_one h
theorem q_not {ma : ME} (ha : PE X a (lE K ma)) : PE X (.UnaryOp .Not a pos) (lE K (mNotV ma)) := PE.imp (pe_not ha) fun σ H Q ⟨ι, ps, h, sr, hr, q⟩ => by
  refine ⟨ι, ps, h, sr, hr, ma.mono (fun x h1 q1 ι1 u1 H1 g1 r1 v1 => ?_) q⟩
  revert q1
  split
  · intro q1; cases v1; exact ⟨_, rfl, q1 ι1 _ H1 g1 r1 (.bl _)⟩
  · exact False.elim
def mAndT (a b : MT) : MT := ⟨fun ps h Q => a.run ps h fun c h1 => if c = true then b.run ps h1 Q else Q false h1, fun hq q => a.mono (fun c h1 q => by
  cases c with
  | true => rw [if_pos rfl] at q ⊢; exact b.mono hq q
  | false => rw [if_neg Bool.false_ne_true] at q ⊢; exact hq _ _ q) q⟩
def mOrT (a b : MT) : MT := ⟨fun ps h Q => a.run ps h fun c h1 => if c = true then Q true h1 else b.run ps h1 Q, fun hq q => a.mono (fun c h1 q => by
  cases c with
  | true => rw [if_pos rfl] at q ⊢; exact hq _ _ q
  | false => rw [if_neg Bool.false_ne_true] at q ⊢; exact b.mono hq q) q⟩
def mNotT (a : MT) : MT := ⟨fun ps h Q => a.run ps h fun c h1 => Q (!c) h1, fun hq q => a.mono (fun c h1 q => hq _ _ q) q⟩
theorem qw_and1 {m : MT} (h : PT X a (lT K m)) : PW X (.BoolOp .And [a] pos) (lT K m) := pw_and1 h
theorem qw_or1 {m : MT} (h : PT X a (lT K m)) : PW X (.BoolOp .Or [a] pos) (lT K m) := pw_or1 h
theorem qw_and {rest : List Expr} {ma mb : MT} (ha : PT X a (lT K ma)) (hb : PW X (.BoolOp .And (b :: rest) pos) (lT K mb)) : PW X (.BoolOp .And (a :: b :: rest) pos) (lT K (mAndT ma mb)) := PW.imp (pw_and ha hb) fun σ H Q ⟨ι, ps, h, sr, hr, q⟩ => by
  refine ⟨ι, ps, h, sr, hr, ma.mono (fun c h1 q1 ι1 H1 g1 r1 => ?_) q⟩
  cases c with
  | true => rw [if_pos rfl] at q1 ⊢; exact ⟨ι1, ps, h1, sr.go hr g1, r1, mb.mono (fun _ _ z ι2 H2 g2 r2 => z ι2 H2 (g1.trans g2) r2) q1⟩
  | false => rw [if_neg Bool.false_ne_true] at q1 ⊢; exact q1 ι1 H1 g1 r1
theorem qw_or {rest : List Expr} {ma mb : MT} (ha : PT X a (lT K ma)) (hb : PW X (.BoolOp .Or (b :: rest) pos) (lT K mb)) : PW X (.BoolOp .Or (a :: b :: rest) pos) (lT K (mOrT ma mb)) := PW.imp (pw_or ha hb) fun σ H Q ⟨ι, ps, h, sr, hr, q⟩ => by
  refine ⟨ι, ps, h, sr, hr, ma.mono (fun c h1 q1 ι1 H1 g1 r1 => ?_) q⟩
  cases c with
  | true => rw [if_pos rfl] at q1 ⊢; exact q1 ι1 H1 g1 r1
  | false => rw [if_neg Bool.false_ne_true] at q1 ⊢; exact ⟨ι1, ps, h1, sr.go hr g1, r1, mb.mono (fun _ _ z ι2 H2 g2 r2 => z ι2 H2 (g1.trans g2) r2) q1⟩
theorem qt_not {ma : MT} (ha : PT X a (lT K ma)) : PT X (.UnaryOp .Not a pos) (lT K (mNotT ma)) := PT.imp (pt_not ha) fun σ H Q ⟨ι, ps, h, sr, hr, q⟩ => ⟨ι, ps, h, sr, hr, q⟩
def mIf (c : MT) (a b : ME) : ME := ⟨fun ps h Q => c.run ps h fun k h1 => if k = true then a.run ps h1 Q else b.run ps h1 Q, fun hq q => c.mono (fun k h1 q => by
  cases k with
  | true => rw [if_pos rfl] at q ⊢; exact a.mono hq q
  | false => rw [if_neg Bool.false_ne_true] at q ⊢; exact b.mono hq q) q⟩
theorem q_if {mc : MT} {ma mb : ME} (hc : PT X c (lT K mc)) (ha : PE X a (lE K ma)) (hb : PE X b (lE K mb)) : PE X (.IfExp c a b pos) (lE K (mIf mc ma mb)) := PE.imp (pe_ifExp hc ha hb) fun σ H Q ⟨ι, ps, h, sr, hr, q⟩ => by
  refine ⟨ι, ps, h, sr, hr, mc.mono (fun c h1 q1 ι1 H1 g1 r1 => ?_) q⟩
  cases c with
  | true => rw [if_pos rfl] at q1 ⊢; exact ⟨ι1, ps, h1, sr.go hr g1, r1, ma.mono (fun _ _ z => pQ.go g1 z) q1⟩
  | false => rw [if_neg Bool.false_ne_true] at q1 ⊢; exact ⟨ι1, ps, h1, sr.go hr g1, r1, mb.mono (fun _ _ z => pQ.go g1 z) q1⟩
/-- a value's truth -/
def pTru (x : PV) (h : PH) (Q : Bool → Prop) : Prop := match x with
  | .non => Q false
  | .bl b => Q b
  | .int i => Q (i != 0)
  | .str y => y.length ≤ sizeLine ∧ Q ((y.length : Int) != 0)
  | .tup l => Q (!l.isEmpty)
  | .ref n => match h[n]? with
    | some (.lst xs) => Q (!xs.isEmpty)
    | some (.dk kvs) => Q (!kvs.isEmpty)
    | _ => False
  | .ty _ => False
  | .cl l => Q (!l.isEmpty)
theorem pTru.mono {x : PV} {h : PH} {Q Q' : Bool → Prop} (f : ∀ b, Q b → Q' b) (q : pTru x h Q) : pTru x h Q' := by
  unfold pTru at q ⊢
  cases x with
  | str y => exact ⟨q.1, f _ q.2⟩
  | ref n =>
    dsimp only at q ⊢
    revert q
    split <;> first | exact f _ | exact fun z => z
  | ty _ => exact q
  | _ => exact f _ q
theorem isEmpty_vrs {ι : List Addr} {H : Hp} : ∀ {vs : List V} {l : List PV}, VRs K ι H vs l → (!l.isEmpty) = !vs.isEmpty
  | _, _, .nil => rfl
  | _, _, .cons _ _ => rfl
theorem pTru.ok {K : PySem.W.Frag} {ι : List Addr} {H : Hp} {h : PH} {v : V} {x : PV} {Q : Bool → Prop} (r : HR K ι H h) (hv : VR K ι H v x) (q : pTru x h Q) : ∃ k, TruV K v H k ∧ Q k := by
  unfold pTru at q
  cases hv with
  | non => exact ⟨false, rfl, q⟩
  | bl b => exact ⟨b, rfl, q⟩
  | int i => exact ⟨_, rfl, q⟩
  | str y => exact ⟨_, ⟨q.1, rfl⟩, q.2⟩
  | ty _ => exact q.elim
  | tup e rs => exact ⟨_, .inr (.inl ⟨_, e, rfl⟩), by dsimp only at q; rw [isEmpty_vrs rs] at q; exact q⟩
  | cl e rs => exact ⟨_, .inl ⟨_, e.sq, rfl⟩, by dsimp only at q; rw [isEmpty_vrs rs] at q; exact q⟩
  | @ref n a e =>
    dsimp only at q
    revert q
    split
    · rename_i xs hn
      intro q
      obtain ⟨vs, e1, e2⟩ := r.obj n a _ e hn
      exact ⟨_, .inl ⟨vs, SqL.of e1, rfl⟩, by rw [isEmpty_vrs e2] at q; exact q⟩
    · rename_i xs hn
      intro q
      obtain ⟨vs, e1, e2, e3⟩ := r.obj n a _ e hn
      refine ⟨_, .inr (.inr ⟨vs, e1, rfl⟩), ?_⟩
      have : (!xs.isEmpty) = !vs.isEmpty := by
        have := congrArg List.isEmpty e2
        simp at this
        cases vs <;> cases xs <;> simp_all
      rw [this] at q
      exact q
    · exact False.elim
def mTru (m : ME) : MT := ⟨fun ps h Q => m.run ps h fun x h1 => pTru x h1 fun b => Q b h1, fun hq q => m.mono (fun x h1 q => q.mono fun b z => hq _ _ z) q⟩
theorem qt_tru (K : PySem.W.Frag) (hK : X.K = K) {m : ME} (ha : PE X a (lE K m)) (he : ∀ whole, isTrue a X.env whole = (do let v ← whole; standAt a.pos; holding [v] (truthy v))) : PT X a (lT K (mTru m)) := PT.imp (pt_truthk K hK ha he) fun σ H Q ⟨ι, ps, h, sr, hr, q⟩ =>
  ⟨ι, ps, h, sr, hr, m.mono (fun x h1 q1 ι1 u1 H1 g1 r1 v1 => by
    obtain ⟨k, t, q2⟩ := q1.ok (K := K) r1 v1
    exact ⟨k, t, q2 ι1 H1 g1 r1⟩) q⟩
def mNil : MA := ⟨fun _ h Q => Q [] h, fun hq q => hq _ _ q⟩
def mCons (a : ME) (r : MA) : MA := ⟨fun ps h Q => a.run ps h fun x h1 => r.run ps h1 fun l h2 => Q (x :: l) h2, fun hq q => a.mono (fun _ _ q => r.mono (fun _ _ q => hq _ _ q) q) q⟩
theorem qa_nil : PA X [] (lA K mNil) := PA.imp pa_nil fun σ H Q ⟨ι, ps, h, sr, hr, q⟩ => q ι [] H (Go.refl _ _) hr .nil
theorem qa_cons {m : ME} {r : MA} (ha : PE X e (lE K m)) (hr : PA X es (lA K r)) (hs : starEach (e :: es) X.env = (false, eval e X.env) :: starEach es X.env := by rfl) : PA X (e :: es) (lA K (mCons m r)) := PA.imp (pa_cons ha hr hs) fun σ H Q ⟨ι, ps, h, sr, hr, q⟩ => by
  refine ⟨ι, ps, h, sr, hr, m.mono (fun x h1 q1 ι1 u1 H1 g1 r1 v1 => ?_) q⟩
  refine ⟨ι1, ps, h1, sr.go hr g1, r1, r.mono (fun l h2 q2 ι2 vs H2 g2 r2 v2 => ?_) q1⟩
  exact q2 ι2 _ H2 (g1.trans g2) r2 (.cons (g2.vr r1 v1) v2)
def mTup (m : MA) : ME := ⟨fun ps h Q => m.run ps h fun l h1 => l.length ≤ sizeLine ∧ Q (.tup l) h1, fun hq q => m.mono (fun _ _ q => ⟨q.1, hq _ _ q.2⟩) q⟩
theorem q_tup {x1} {m : MA} (h : PA X es (lA K m)) : PE X (.Tuple es x1 pos) (lE K (mTup m)) := PE.imp (pe_tupN h) fun σ H Q ⟨ι, ps, h, sr, hr, q⟩ => by
  refine ⟨ι, ps, h, sr, hr, m.mono (fun l h1 q1 ι1 vs H1 g1 r1 v1 => ?_) q⟩
  refine ⟨by rw [v1.length]; exact q1.1, fun p H2 s2 e2 n2 => ?_⟩
  exact q1.2 ι1 _ H2 (g1.trans (Go.same s2)) (r1.same s2) (.tup (SqT.of e2) ((Go.same s2).vrs r1 v1))
def mLst (m : MA) : ML := ⟨fun ps h Q => m.run ps h fun l h1 => l.length ≤ sizeLine ∧ Q l h1, fun hq q => m.mono (fun _ _ q => ⟨q.1, hq _ _ q.2⟩) q⟩
theorem Go.free {ι ι' : List Addr} {H H' : Hp} {h : PH} {a : Addr} (g : Go ι ι' H H') (r : HR K ι' H' h) (hr : ∀ b ∈ ι, H b ≠ none) (hn : H' a = none) : H a = none := by
  cases z : H a with
  | none => rfl
  | some o =>
    by_cases ha : a ∈ ι
    · obtain ⟨m, e⟩ := g.ext
      exact absurd hn (r.hv (by rw [e]; exact List.mem_append_left _ ha))
    · rw [g.keep a o ha z] at hn; cases hn
theorem Go.free' {ι ι' : List Addr} {H H' : Hp} {h : PH} {a : Addr} (g : Go ι ι' H H') (r : HR K ι' H' h) (hn : H' a = none) : H a = none := by
  cases z : H a with
  | none => rfl
  | some o =>
    by_cases ha : a ∈ ι
    · obtain ⟨m, e⟩ := g.ext
      exact absurd hn (r.hv (by rw [e]; exact List.mem_append_left _ ha))
    · rw [g.keep a o ha z] at hn; cases hn
theorem q_lst {m : MA} (h : PA X es (lA K m)) : PE X (.List es pos) (lL K (mLst m)) := PE.imp (pe_lstN h) fun σ H Q ⟨ι, ps, h, sr, hr, q⟩ => by
  refine ⟨ι, ps, h, sr, hr, m.mono (fun l h1 q1 ι1 vs H1 g1 r1 v1 => ?_) q⟩
  refine ⟨by rw [v1.length]; exact q1.1, fun p H2 s2 e2 n2 => ?_⟩
  obtain ⟨a1, a2, a3⟩ := Own.newO r1 s2 e2 n2 v1
  exact q1.2 ι1 p H2 (g1.trans a2) a1 (g1.free' r1 n2) a3
def mAlloc (m : ML) : ME := ⟨fun ps h Q => m.run ps h fun l h1 => Q (.ref h1.length) (h1 ++ [.lst l]), fun hq q => m.mono (fun _ _ q => hq _ _ q) q⟩
theorem q_alloc {m : ML} (h : PE X e (lL K m)) : PE X e (lE K (mAlloc m)) := PE.imp h fun σ H Q ⟨ι, ps, h, sr, hr, q⟩ => by
  refine ⟨ι, ps, h, sr, hr, m.mono (fun l h1 q1 ι1 a H1 g1 r1 n1 o1 => ?_) q⟩
  obtain ⟨vs, e1, e2⟩ := o1.2
  obtain ⟨b1, b2⟩ := r1.adopt (o := .lst l) o1.1 ⟨vs, e1, e2⟩
  exact q1 _ _ H1 (g1.adopt n1) b1 b2
def LsA (K : PySem.W.Frag) (S : Src) (H : Hp) (a : Addr) (vs : List V) : Prop := SqL K H a vs ∧ (S.fz = false → H a = some (.lst vs))
def SqS (K : PySem.W.Frag) (ι : List Addr) (H : Hp) (v : V) (S : Src) : Prop := ∃ a, v = .ref a ∧
  ((∀ ι' H' h', Go ι ι' H H' → HR K ι' H' h' → S.ok h' → ∃ vs, LsA K S H' a vs ∧ VRs K ι' H' vs S.items) ∨ (∀ ι' H' h', Go ι ι' H H' → HR K ι' H' h' → S.ok h' → ∃ vs, SqT K H' a vs ∧ VRs K ι' H' vs S.items))
theorem SqS.go {K : PySem.W.Frag} {ι ι' : List Addr} {H H' : Hp} {v : V} {S : Src} (s : SqS K ι H v S) (g : Go ι ι' H H') : SqS K ι' H' v S := by
  obtain ⟨a, e, h | h⟩ := s
  · exact ⟨a, e, .inl fun i2 H2 h2 g2 r2 o2 => h i2 H2 h2 (g.trans g2) r2 o2⟩
  · exact ⟨a, e, .inr fun i2 H2 h2 g2 r2 o2 => h i2 H2 h2 (g.trans g2) r2 o2⟩
structure MQ where
  run : PSt → PH → (Src → PH → Prop) → Prop
  mono : ∀ {ps h} {Q Q' : Src → PH → Prop}, (∀ v h', Q v h' → Q' v h') → run ps h Q → run ps h Q'
def lQ (K : PySem.W.Frag) (m : MQ) : TE := fun σ H Q => ∃ ι ps h, SR K ι H σ ps ∧ HR K ι H h ∧ m.run ps h fun S h' => ∀ ι' v H', Go ι ι' H H' → HR K ι' H' h' → SqS K ι' H' v S → S.ok h' → Q v H'
def mOwn (m : ML) : MQ := ⟨fun ps h Q => m.run ps h fun l h1 => Q ⟨l, fun _ => True, false⟩ h1, fun hq q => m.mono (fun _ _ q => hq _ _ q) q⟩
theorem q_own (K : PySem.W.Frag) {m : ML} (h : PE X e (lL K m)) : PE X e (lQ K (mOwn m)) := PE.imp h fun σ H Q ⟨ι, ps, h, sr, hr, q⟩ => by
  refine ⟨ι, ps, h, sr, hr, m.mono (fun l h1 q1 ι1 a H1 g1 r1 n1 o1 => ?_) q⟩
  refine q1 ι1 _ H1 g1 r1 ⟨a, rfl, .inl fun ι2 H2 h2 g2 r2 _ => ?_⟩ trivial
  obtain ⟨n, vs, e, v⟩ := o1.go r1 g2
  exact ⟨vs, ⟨SqL.of e, fun _ => e⟩, v⟩
def mSq (m : ME) : MQ := ⟨fun ps h Q => m.run ps h fun x h1 => match x with
    | .tup l => Q ⟨l, fun _ => True, false⟩ h1
    | .cl l => Q ⟨l, fun _ => True, true⟩ h1
    | .ref n => match h1[n]? with
      | some (.lst xs) => Q ⟨xs, fun h2 => h2[n]? = some (.lst xs), false⟩ h1
      | _ => False
    | _ => False, fun hq q => m.mono (fun x h1 q => by
  revert q
  split
  · exact hq _ _
  · exact hq _ _
  · split
    · exact hq _ _
    · exact fun z => z
  · exact fun z => z) q⟩
theorem q_sq (K : PySem.W.Frag) {m : ME} (h : PE X e (lE K m)) : PE X e (lQ K (mSq m)) := PE.imp h fun σ H Q ⟨ι, ps, h, sr, hr, q⟩ => by
  refine ⟨ι, ps, h, sr, hr, m.mono (fun x h1 q1 ι1 u1 H1 g1 r1 v1 => ?_) q⟩
  revert q1
  split
  · rename_i l
    intro q1
    cases v1 with
    | tup e vs => exact q1 ι1 _ H1 g1 r1 ⟨_, rfl, .inr fun ι2 H2 h2 g2 r2 _ => ⟨_, (g2.tups r1).t _ _ e, g2.vrs r1 vs⟩⟩ trivial
  · rename_i l
    intro q1
    cases v1 with
    | cl e vs => exact q1 ι1 _ H1 g1 r1 ⟨_, rfl, .inl fun ι2 H2 h2 g2 r2 _ => ⟨_, ⟨((g2.tups r1).f _ _ e).sq, fun z => nomatch z⟩, g2.vrs r1 vs⟩⟩ trivial
  · rename_i n
    cases v1 with
    | @ref _ a e =>
    split
    · rename_i xs hn
      intro q1
      refine q1 ι1 _ H1 g1 r1 ⟨a, rfl, .inl fun ι2 H2 h2 g2 r2 ok => ?_⟩ hn
      obtain ⟨vs, e1, e2⟩ := r2.obj n a _ (g2.at e) ok
      exact ⟨vs, ⟨SqL.of e1, fun _ => e1⟩, e2⟩
    · exact False.elim
  · exact False.elim
/-- a sequence as what a loop walks -/
def iSeq (K : PySem.W.Frag) (tl : TE) : TI := fun σ H R => tl σ H fun x H1 => ∃ a, x = .ref a ∧ (((∃ xs, SqL K H1 a xs) ∧ R (Itl K a) H1) ∨ ((∃ xs, SqT K H1 a xs) ∧ R (Itt K a) H1))
theorem pi_seq {tg l : Expr} {tl : TE} (K : PySem.W.Frag) (hK : X.K = K) (hl : PE X l tl) : PI X tg l (iSeq K tl) := by
  subst hK
  intro pins s σ H R I h
  refine thn (hl pins s σ H _ I h) fun v s1 ⟨x, H1, I1, r1, q1⟩ => ?_
  obtain ⟨a, e, ⟨⟨xs, hq⟩, q⟩ | ⟨⟨xs, hq⟩, q⟩⟩ := q1
  · subst e
    cases r1
    obtain ⟨its, rv, p, hz⟩ := I1.list hq
    refine wpAny_pyIter_list p.isList ?_
    refine ⟨s1.heap.objs.size, [s1.heap.objs.size], _, _, H1, rfl, I1.kept (t' := s1.toks) fun b o e => Heap.get?_push_of_some _ e, turn_list a _, ⟨_, Heap.get?_push_size _ rfl, rfl, rfl⟩, fun b hb => ?_, q⟩
    have e : b = s1.heap.objs.size := by simpa using hb
    subst e
    exact I1.fpOk (Nat.le_refl _) (I1.hok.fresh (Nat.le_refl _))
  · subst e
    cases r1
    obtain ⟨its, rv, p, hz⟩ := I1.tuple hq
    refine wpAny_pyIter_tuple (show s1.heap.IsTuple a its.toArray from p) ?_
    refine ⟨s1.heap.objs.size, [s1.heap.objs.size], _, _, H1, rfl, I1.kept (t' := s1.toks) fun b o e => Heap.get?_push_of_some _ e, turn_tuple a _, ⟨_, Heap.get?_push_size _ rfl, rfl, rfl⟩, fun b hb => ?_, q⟩
    have e : b = s1.heap.objs.size := by simpa using hb
    subst e
    exact I1.fpOk (Nat.le_refl _) (I1.hok.fresh (Nat.le_refl _))
def mWalk (m : MQ) : MI := ⟨m.run, m.mono⟩
theorem qi_seq {tg : Expr} (K : PySem.W.Frag) (hK : X.K = K) {m : MQ} (h : PE X e (lQ K m)) : PI X tg e (lI K (mWalk m)) := PI.imp (pi_seq K hK h) fun σ H R ⟨ι, ps, h, sr, hr, q⟩ => by
  refine ⟨ι, ps, h, sr, hr, m.mono (fun S h1 q1 ι1 u1 H1 g1 r1 v1 ok => ?_) q⟩
  obtain ⟨a, rfl, hs | hs⟩ := v1
  · refine ⟨a, rfl, .inl ⟨let ⟨vs, h1, _⟩ := hs ι1 H1 h1 (Go.refl _ _) r1 ok; ⟨vs, h1.1⟩, q1 ι1 _ H1 g1 r1 fun ι2 H2 h2 g2 r2 ok2 => ?_⟩⟩
    obtain ⟨vs, ⟨e1, _⟩, e2⟩ := hs ι2 H2 h2 g2 r2 ok2
    refine ⟨fun i p hp => ?_, vs, e1, by rw [e2.length]; exact Nat.le_refl _⟩
    obtain ⟨v, h3, h4⟩ := e2.get hp
    refine ⟨⟨vs, v, e1, h3⟩, fun x H3 y => ?_⟩
    obtain ⟨rfl, y⟩ := y
    have := y vs e1
    rw [h3] at this
    cases this
    exact ⟨Same.refl _, h4⟩
  · refine ⟨a, rfl, .inr ⟨let ⟨vs, h1, _⟩ := hs ι1 H1 h1 (Go.refl _ _) r1 ok; ⟨vs, h1⟩, q1 ι1 _ H1 g1 r1 fun ι2 H2 h2 g2 r2 ok2 => ?_⟩⟩
    obtain ⟨vs, e1, e2⟩ := hs ι2 H2 h2 g2 r2 ok2
    refine ⟨fun i p hp => ?_, vs, e1, by rw [e2.length]; exact Nat.le_refl _⟩
    obtain ⟨v, h3, h4⟩ := e2.get hp
    refine ⟨⟨vs, v, e1, h3⟩, fun x H3 y => ?_⟩
    obtain ⟨rfl, y⟩ := y
    have := y vs e1
    rw [h3] at this
    cases this
    exact ⟨Same.refl _, h4⟩
end
end PL
set_option Elab.async false
set_option linter.all false
set_option maxRecDepth 100000
namespace PL
open PySem PySem.Spec PyProof.Rows L2
variable {K : PySem.W.Frag}
section
variable {X : Cx} {a b c e : Expr} {es : List Expr} {pos : Pos} {st : Stmt} {rest : List Stmt}
theorem MS.le (m : MS) {D D' : PD} {ps : PSt} {h : PH} (q : m.run D ps h) (l : PD.Le D D') : m.run D' ps h := m.mono l q
def mNext : MS := ⟨fun D ps h => D.nx ps h, fun l q => l.nx _ _ q⟩
def mSeq (a b : MS) : MS := ⟨fun D ps h => a.run ⟨b.run D, D.rt, D.bk, D.ct⟩ ps h, fun l q => a.le q ⟨fun _ _ q => b.mono l q, l.rt, l.bk, l.ct⟩⟩
theorem lS_next : ∀ D σ H, lS K mNext D σ H → tNext D σ H := fun D σ H ⟨ι, ps, h, sr, hr, q⟩ => q ι σ H (Go.refl _ _) hr sr
theorem qss_nil : PSs X [] (lS K mNext) := PSs.imp pss_nil lS_next
theorem qss_one {m : MS} (h : PS X st (lS K m)) : PSs X [st] (lS K m) := pss_one h
theorem qss_cons {m n : MS} (h1 : PS X st (lS K m)) (h2 : PSs X rest (lS K n)) : PSs X (st :: rest) (lS K (mSeq m n)) := PSs.imp (pss_cons h1 h2) fun D σ H ⟨ι, ps, h, sr, hr, q⟩ =>
  ⟨ι, ps, h, sr, hr, m.le q ⟨fun ps1 h1 q1 ι1 σ1 H1 g1 r1 s1 => ⟨ι1, ps1, h1, s1, r1, n.mono (pD.go g1 D) q1⟩, fun _ _ q => q, fun _ _ q => q, fun _ _ q => q⟩⟩
def mDrop (m : ME) : MS := ⟨fun D ps h => m.run ps h fun _ h1 => D.nx ps h1, fun l q => m.mono (fun _ _ q => l.nx _ _ q) q⟩
theorem q_expr {m : ME} (he : PE X e (lE K m)) (hs : swapsWith e none pos.line X.env = pure false := by rfl) : PS X (.Expr e pos) (lS K (mDrop m)) := PS.imp (ps_expr he hs) fun D σ H ⟨ι, ps, h, sr, hr, q⟩ =>
  ⟨ι, ps, h, sr, hr, m.mono (fun v h1 q1 ι1 u1 H1 g1 r1 v1 => q1 ι1 σ H1 g1 r1 (sr.go hr g1)) q⟩
def mRet (m : ME) : MS := ⟨fun D ps h => m.run ps h D.rt, fun l q => m.mono l.rt q⟩
theorem q_ret {m : ME} (he : PE X e (lE K m)) : PS X (.Return (some e) pos) (lS K (mRet m)) := PS.imp (ps_ret he) fun D σ H ⟨ι, ps, h, sr, hr, q⟩ => ⟨ι, ps, h, sr, hr, q⟩
def mIfS (c : MT) (a b : MS) : MS := ⟨fun D ps h => c.run ps h fun k h1 => if k = true then a.run D ps h1 else b.run D ps h1, fun l q => c.mono (fun k h1 q => by
  cases k with
  | true => rw [if_pos rfl] at q ⊢; exact a.mono l q
  | false => rw [if_neg Bool.false_ne_true] at q ⊢; exact b.mono l q) q⟩
theorem qs_if {sa sb : List Stmt} {mc : MT} {ma mb : MS} (hc : PT X c (lT K mc)) (ha : PSs X sa (lS K ma)) (hb : PSs X sb (lS K mb)) : PS X (.If c sa sb pos) (lS K (mIfS mc ma mb)) := PS.imp (ps_if hc ha hb) fun D σ H ⟨ι, ps, h, sr, hr, q⟩ => by
  refine ⟨ι, ps, h, sr, hr, mc.mono (fun k h1 q1 ι1 H1 g1 r1 => ?_) q⟩
  cases k with
  | true => rw [if_pos rfl] at q1 ⊢; exact ⟨ι1, ps, h1, sr.go hr g1, r1, ma.mono (pD.go g1 D) q1⟩
  | false => rw [if_neg Bool.false_ne_true] at q1 ⊢; exact ⟨ι1, ps, h1, sr.go hr g1, r1, mb.mono (pD.go g1 D) q1⟩
def gSet (i : Nat) : MG := ⟨fun v ps h Q => Q (ps.set i (some v)) h, fun f q => f _ _ q⟩
theorem qg_name {i : Nat} (h : PG X e (gName i)) : PG X e (lG K (gSet i)) := PG.imp h fun v σ H Q ⟨ι, ps, h, p, sr, hr, hv, q⟩ => q ι _ H (Go.refl _ _) hr (sr.set hv i)
structure MGs where
  run : List PV → PSt → PH → (PSt → PH → Prop) → Prop
  mono : ∀ {v ps h} {Q Q' : PSt → PH → Prop}, (∀ ps h, Q ps h → Q' ps h) → run v ps h Q → run v ps h Q'
def lGs (K : PySem.W.Frag) (m : MGs) : TGs := fun vs σ H Q => ∃ ι ps h l, SR K ι H σ ps ∧ HR K ι H h ∧ VRs K ι H vs l ∧ m.run l ps h (pN K ι H Q)
theorem PGs.imp {e : List Expr} {t t' : TGs} (h : PGs X e t) (f : ∀ v σ H Q, t' v σ H Q → t v σ H Q) : PGs X e t' := fun pins s σ H v u Q I r q => h pins s σ H v u Q I r (f _ _ _ _ q)
def gsNil : MGs := ⟨fun l ps h Q => match l with | [] => Q ps h | _ => False, fun f q => by
  revert q
  split
  · exact f _ _
  · exact fun z => z⟩
def gsCons (g : MG) (r : MGs) : MGs := ⟨fun l ps h Q => match l with | x :: l => g.run x ps h fun ps1 h1 => r.run l ps1 h1 Q | [] => False, fun f q => by
  revert q
  split
  · exact g.mono fun _ _ q => r.mono f q
  · exact fun z => z⟩
theorem qgs_nil : PGs X [] (lGs K gsNil) := PGs.imp pgs_nil fun vs σ H Q ⟨ι, ps, h, l, sr, hr, hv, q⟩ => by
  cases hv with
  | nil => exact ⟨rfl, q ι σ H (Go.refl _ _) hr sr⟩
  | cons _ _ => exact q.elim
theorem qgs_cons {g : MG} {r : MGs} (h1 : PG X e (lG K g)) (h2 : PGs X es (lGs K r)) (hs : (assignEach (e :: es) X.env).map (·.2) = assign e X.env :: (assignEach es X.env).map (·.2) := by rfl) : PGs X (e :: es) (lGs K (gsCons g r)) := PGs.imp (pgs_cons h1 h2 hs) fun vs σ H Q ⟨ι, ps, h, l, sr, hr, hv, q⟩ => by
  cases hv with
  | nil => exact q.elim
  | @cons v p vs l x t =>
    refine ⟨v, vs, rfl, ι, ps, h, p, sr, hr, x, g.mono (fun ps1 h1 q1 ι1 σ1 H1 g1 r1 s1 => ?_) q⟩
    exact ⟨ι1, ps1, h1, l, s1, r1, g1.vrs hr t, r.mono (fun _ _ z => pN.go g1 z) q1⟩
def gTupM (n : Nat) (r : MGs) : MG := ⟨fun v ps h Q => match v with | .tup l => l.length = n ∧ r.run l ps h Q | _ => False, fun f q => by
  revert q
  split
  · exact fun q => ⟨q.1, r.mono f q.2⟩
  · exact fun z => z⟩
theorem qg_tup (K : PySem.W.Frag) (hK : X.K = K) {k n : Nat} {r : MGs} (hc : X.calm = true) (h : PGs X es (lGs K r)) (hn : (assignEach es X.env).length = n := by rfl) (hst : (assignEach es X.env).findIdx? (·.1) = none := by rfl) : PG X (.Tuple es k pos) (lG K (gTupM n r)) := by
  subst hK
  refine PG.imp (pg_tup hc h hn hst) fun v σ H Q ⟨ι, ps, h, p, sr, hr, hv, q⟩ => ?_
  cases hv with
  | tup e rs => exact ⟨_, _, rfl, e, by rw [rs.length]; exact q.1, ι, ps, h, _, sr, hr, rs, q.2⟩
  | _ => exact q.elim
structure MSet where
  f : PV → PV → PV → PH → (PH → Prop) → Prop
  mono : ∀ {o i v h} {Q Q' : PH → Prop}, (∀ h, Q h → Q' h) → f o i v h Q → f o i v h Q'
def MSet.Ok (K : PySem.W.Frag) (t : TSet) (m : MSet) : Prop := ∀ {ι H h o i v x y z} {Q : Hp → Prop}, HR K ι H h → VR K ι H o x → VR K ι H i y → VR K ι H v z → m.f x y z h (fun h' => ∀ H', Go ι ι H H' → HR K ι H' h' → Q H') → t o i v H Q
def gSubM (o i : ME) (m : MSet) : MG := ⟨fun v ps h Q => o.run ps h fun x h1 => i.run ps h1 fun y h2 => m.f x y v h2 fun h3 => Q ps h3, fun f q => o.mono (fun _ _ q => i.mono (fun _ _ q => m.mono (fun _ q => f _ _ q) q) q) q⟩
theorem qg_sub {o i : Expr} {mo mi : ME} {t : TSet} {m : MSet} (ho : PE X o (lE K mo)) (hi : PE X i (lE K mi)) (hs : PSet X t) (hm : MSet.Ok K t m) (ha : ∀ v, assign (.Subscript o i pos) X.env v = (do
      let ov ← holding [v] (eval o X.env)
      let iv ← holding [v, ov] (eval i X.env)
      standAt pos
      holding [v, ov, iv] (setItem ov iv v)
      release [v, ov, iv] []) := by intro _; rfl) : PG X (.Subscript o i pos) (lG K (gSubM mo mi m)) := PG.imp (pg_sub ho hi hs ha) fun v σ H Q ⟨ι, ps, h, p, sr, hr, hv, q⟩ => by
  refine ⟨ι, ps, h, sr, hr, mo.mono (fun x h1 q1 ι1 u1 H1 g1 r1 v1 => ?_) q⟩
  refine ⟨ι1, ps, h1, sr.go hr g1, r1, mi.mono (fun y h2 q2 ι2 u2 H2 g2 r2 v2 => ?_) q1⟩
  refine hm r2 (g2.vr r1 v1) v2 ((g1.trans g2).vr hr hv) (m.mono (fun h3 q3 H3 g3 r3 => ?_) q2)
  exact q3 ι2 σ H3 ((g1.trans g2).trans g3) r3 (sr.go hr ((g1.trans g2).trans g3))
def sList : MSet := ⟨fun x y z h Q => match x, y with
  | .ref n, .int k => match h[n]? with
    | some (.lst xs) => match ixN xs.length k with
      | some j => Q (h.set n (.lst (xs.set j z)))
      | none => False
    | _ => False
  | _, _ => False, fun f q => by
    revert q
    split
    · split
      · split
        · exact f _
        · exact fun z => z
      · exact fun z => z
    · exact fun z => z⟩
theorem sList_ok : MSet.Ok K rSetLN sList := by
  intro ι H h o i v x y z Q hr ho hi hv q
  unfold sList at q
  dsimp only at q
  revert q
  split
  · rename_i n k
    split
    · rename_i xs hn
      split
      · rename_i j hj
        intro q
        cases ho with
        | @ref _ a e =>
        cases hi
        obtain ⟨vs, e1, e2⟩ := hr.obj n a _ e hn
        refine ⟨a, vs, k, j, rfl, rfl, e1, by rw [e2.length]; exact hj, fun H2 s2 h2 => ?_⟩
        obtain ⟨b1, b2, b3⟩ := hr.put (o := .lst (xs.set j z)) e s2 fun ht => ⟨_, h2, (e2.mono ht fun _ _ e => e).set (hv.mono ht fun _ _ e => e) j⟩
        exact q H2 b2 b1
      · exact False.elim
    · exact False.elim
  · exact False.elim
def mAsg (m : ME) (g : MG) : MS := ⟨fun D ps h => m.run ps h fun v h1 => g.run v ps h1 D.nx, fun l q => m.mono (fun _ _ q => g.mono l.nx q) q⟩
theorem lS_asg {m : ME} {g : MG} : ∀ D σ H, lS K (mAsg m g) D σ H → tAsg (lE K m) (lG K g) D σ H := fun D σ H ⟨ι, ps, h, sr, hr, q⟩ =>
  ⟨ι, ps, h, sr, hr, m.mono (fun v h1 q1 ι1 u1 H1 g1 r1 v1 => ⟨ι1, ps, h1, v, sr.go hr g1, r1, v1, g.mono (fun _ _ z => pN.go g1 z) q1⟩) q⟩
theorem q_asg {tg : Expr} {m : ME} {g : MG} (he : PE X e (lE K m)) (hg : PG X tg (lG K g)) (hs : swapsWithSole [tg] e pos.line X.env = pure false := by rfl) (hw : swappedStores [tg] e X.env = pure none := by rfl)
    (h1 : (assignEach [tg] X.env).map (·.2) = [assign tg X.env] := by rfl) : PS X (.Assign [tg] e pos) (lS K (mAsg m g)) := PS.imp (ps_asg he hg hs hw h1) lS_asg
theorem tAsg_name {m : ME} {i : Nat} : ∀ D σ H, lS K (mAsg m (gSet i)) D σ H → tAsg (lE K m) (gName i) D σ H := fun D σ H ⟨ι, ps, h, sr, hr, q⟩ =>
  ⟨ι, ps, h, sr, hr, m.mono (fun v h1 q1 ι1 u1 H1 g1 r1 v1 => q1 ι1 _ H1 g1 r1 ((sr.go hr g1).set v1 i)) q⟩
theorem q_set {i : Nat} {m : ME} {x : Str} {pos' : Pos} (hN : X.N.Nodup) (hi : X.N[i]? = some x) (hx : Loc X.env.scope x) (he : PE X e (lE K m)) (hs : swapsWith e (some (.Name x pos')) pos.line X.env = pure false := by rfl)
    (hf : X.fn x = true ∨ X.env.scope.names.lookup x = some .local := by first | exact .inl rfl | exact .inr rfl | assumption) : PS X (.Assign [.Name x pos'] e pos) (lS K (mAsg m (gSet i))) := PS.imp (ps_set hN hi hx he hs hf) tAsg_name
def mPar (i j : Nat) (m : MA) : MS := ⟨fun D ps h => m.run ps h fun l h1 => match l with | [v, w] => D.nx ((ps.set i (some v)).set j (some w)) h1 | _ => False, fun l q => m.mono (fun v h1 q => by
    revert q
    split
    · exact l.nx _ _
    · exact fun z => z) q⟩
theorem MG.le (g : MG) {v : PV} {ps : PSt} {h : PH} {Q Q' : PSt → PH → Prop} (q : g.run v ps h Q) (f : ∀ ps h, Q ps h → Q' ps h) : g.run v ps h Q' := g.mono f q
def forV (S : Src) (g : MG) (b : MS) (D : PD) : List PV → PSt → PH → Prop
  | [], ps, h => S.ok h ∧ D.nx ps h
  | x :: r, ps, h => S.ok h ∧ g.run x ps h fun ps1 h1 => b.run ⟨forV S g b D r, D.rt, D.nx, forV S g b D r⟩ ps1 h1
theorem forV.mono {S : Src} {g : MG} {b : MS} {D D' : PD} (l : PD.Le D D') : ∀ {xs : List PV} {ps h}, forV S g b D xs ps h → forV S g b D' xs ps h
  | [], _, _, q => ⟨q.1, l.nx _ _ q.2⟩
  | x :: r, _, _, q => ⟨q.1, g.le q.2 fun _ _ q => b.le q ⟨fun _ _ q => forV.mono l q, l.rt, l.nx, fun _ _ q => forV.mono l q⟩⟩
def mFor (mi : MI) (g : MG) (b : MS) : MS := ⟨fun D ps h => mi.run ps h fun S h1 => forV S g b D S.items ps h1, fun l q => mi.mono (fun _ _ q => forV.mono l q) q⟩
theorem qs_for {tg iter : Expr} {body : List Stmt} {mi : MI} {g : MG} {b : MS} (hp : PassesOwn (model X.prog X.w) X.A X.env X.xe) (hc : X.calm = true) (hi : PI X tg iter (lI K mi)) (hg : PG X tg (lG K g)) (hb : PSs X body (lS K b))
    (hs : ∀ x, foldedSetIterable iter X.env x = pure x := by intro _; rfl) : PS X (.For tg iter body [] pos) (lS K (mFor mi g b)) := PS.imp (ps_for hp hc hi hg hb hs) fun D σ H ⟨ι, ps, h, sr, hr, q⟩ => by
  refine ⟨ι, ps, h, sr, hr, mi.mono (fun S h1 q1 ι1 J H1 g1 r1 js => ?_) q⟩
  refine ⟨fun i m σ' H' => ∃ ι' ps' h', Go ι1 ι' H1 H' ∧ SR K ι' H' σ' ps' ∧ HR K ι' H' h' ∧ m = S.items.length - i ∧ i ≤ S.items.length ∧ forV S g b (pD K ι H D) (S.items.drop i) ps' h', ⟨S.items.length, ι1, ps, h1, Go.refl _ _, sr.go hr g1, r1, by simp, Nat.zero_le _, by simpa using q1⟩, ?_⟩
  rintro i m σ2 H2 ⟨ι2, ps2, h2, g2, s2, r2, rfl, hi, q2⟩
  by_cases hlt : i < S.items.length
  · have ed : S.items.drop i = S.items[i] :: S.items.drop (i + 1) := (List.drop_eq_getElem_cons hlt)
    rw [ed] at q2
    obtain ⟨ok, q2⟩ := q2
    obtain ⟨j1, j2⟩ := js ι2 H2 h2 g2 r2 ok
    obtain ⟨go, yl⟩ := j1 i _ (List.getElem?_eq_getElem hlt)
    refine .inr ⟨go, fun σ3 H3 => ∃ ι3 ps3 h3, Go ι1 ι3 H1 H3 ∧ SR K ι3 H3 σ3 ps3 ∧ HR K ι3 H3 h3 ∧ forV S g b (pD K ι H D) (S.items.drop (i + 1)) ps3 h3, fun σ3 H3 ⟨ι3, ps3, h3, a1, a2, a3, a4⟩ => ⟨S.items.length - (i + 1), by omega, ι3, ps3, h3, a1, a2, a3, rfl, hlt, a4⟩, fun x H3 y => ?_⟩
    obtain ⟨sm, vx⟩ := yl x H3 y
    refine ⟨ι2, ps2, h2, _, s2.go r2 (Go.same sm), r2.same sm, vx, g.mono (fun ps4 h4 q4 ι4 σ4 H4 g4 r4 s4 => ?_) q2⟩
    have gg : Go ι ι4 H H4 := ((g1.trans g2).trans (Go.same sm)).trans g4
    refine ⟨ι4, ps4, h4, s4, r4, b.le q4 ⟨fun ps5 h5 q5 ι5 σ5 H5 g5 r5 s5 => ?_, fun _ _ z => pQ.go gg z, fun _ _ z => pN.go gg z, fun ps5 h5 q5 ι5 σ5 H5 g5 r5 s5 => ?_⟩⟩
    · exact ⟨ι5, ps5, h5, ((g2.trans (Go.same sm)).trans g4).trans g5, s5, r5, q5⟩
    · exact ⟨ι5, ps5, h5, ((g2.trans (Go.same sm)).trans g4).trans g5, s5, r5, q5⟩
  · have e : i = S.items.length := by omega
    subst e
    rw [List.drop_length] at q2
    obtain ⟨ok, q2⟩ := q2
    exact .inl ⟨(js ι2 H2 h2 g2 r2 ok).2, q2 ι2 σ2 H2 (g1.trans g2) r2 s2⟩
def whileN (t : MT) (b : MS) (D : PD) : Nat → PSt → PH → Prop
  | 0, _, _ => False
  | n + 1, ps, h => t.run ps h fun c h1 => if c = true then b.run ⟨whileN t b D n, D.rt, D.nx, whileN t b D n⟩ ps h1 else D.nx ps h1
theorem whileN.mono {t : MT} {b : MS} {D D' : PD} (l : PD.Le D D') : ∀ {n : Nat} {ps h}, whileN t b D n ps h → whileN t b D' n ps h
  | 0, _, _, q => q
  | n + 1, _, _, q => t.mono (fun c h1 q => by
    cases c with
    | true => rw [if_pos rfl] at q ⊢; exact b.le q ⟨fun _ _ q => whileN.mono l q, l.rt, l.nx, fun _ _ q => whileN.mono l q⟩
    | false => rw [if_neg Bool.false_ne_true] at q ⊢; exact l.nx _ _ q) q
def mWhile (t : MT) (b : MS) : MS := ⟨fun D ps h => ∃ n, whileN t b D n ps h, fun l ⟨n, q⟩ => ⟨n, whileN.mono l q⟩⟩
theorem qs_while {body : List Stmt} {t : MT} {b : MS} (hp : PassesOwn (model X.prog X.w) X.A X.env X.xe) (hc : PT X c (lT K t)) (hb : PSs X body (lS K b)) : PS X (.While c body [] pos) (lS K (mWhile t b)) := PS.imp (ps_while hp hc hb) fun D σ H ⟨ι, ps, h, sr, hr, n, q⟩ => by
  refine ⟨fun m σ' H' => ∃ ι' ps' h', Go ι ι' H H' ∧ SR K ι' H' σ' ps' ∧ HR K ι' H' h' ∧ whileN t b (pD K ι H D) m ps' h', ⟨n, ι, ps, h, Go.refl _ _, sr, hr, q⟩, ?_⟩
  rintro m σ1 H1 ⟨ι1, ps1, h1, g1, s1, r1, q1⟩
  cases m with
  | zero => exact q1.elim
  | succ m =>
    refine ⟨ι1, ps1, h1, s1, r1, t.mono (fun k h2 q2 ι2 H2 g2 r2 => ?_) q1⟩
    cases k with
    | false => rw [if_neg Bool.false_ne_true] at q2 ⊢; exact q2 ι2 σ1 H2 (g1.trans g2) r2 (s1.go r1 g2)
    | true =>
      rw [if_pos rfl] at q2 ⊢
      refine ⟨fun σ3 H3 => ∃ ι3 ps3 h3, Go ι ι3 H H3 ∧ SR K ι3 H3 σ3 ps3 ∧ HR K ι3 H3 h3 ∧ whileN t b (pD K ι H D) m ps3 h3, fun σ3 H3 ⟨ι3, ps3, h3, a1, a2, a3, a4⟩ => ⟨m, Nat.lt_succ_self m, ι3, ps3, h3, a1, a2, a3, a4⟩, ?_⟩
      have gg := g1.trans g2
      refine ⟨ι2, ps1, h2, s1.go r1 g2, r2, b.le q2 ⟨fun ps5 h5 q5 ι5 σ5 H5 g5 r5 s5 => ?_, fun _ _ z => pQ.go gg z, fun _ _ z => pN.go gg z, fun ps5 h5 q5 ι5 σ5 H5 g5 r5 s5 => ?_⟩⟩
      · exact ⟨ι5, ps5, h5, gg.trans g5, s5, r5, q5⟩
      · exact ⟨ι5, ps5, h5, gg.trans g5, s5, r5, q5⟩
end
end PL
set_option Elab.async false
set_option linter.all false
set_option maxRecDepth 100000
namespace PL
open PySem PySem.Spec PyProof.Rows L2
variable {K : PySem.W.Frag}
section
variable {X : Cx} {a b c e : Expr} {es : List Expr} {pos : Pos}
def pblk (ix : List (Option Nat)) (ps : PSt) : PSt := ix.map fun o => match o with | some j => (ps[j]?).getD none | none => none
theorem SR.blk {ι : List Addr} {H : Hp} {σ : L2.St} {ps : PSt} (s : SR K ι H σ ps) (ix : List (Option Nat)) : SR K ι H (blkSt ix σ) (pblk ix ps) := by
  unfold blkSt pblk
  refine ⟨by rw [List.length_map, List.length_map], fun i p e => ?_⟩
  rw [List.getElem?_map] at e ⊢
  cases q : ix[i]? with
  | none => rw [q] at e; cases e
  | some o =>
    rw [q] at e
    cases o with
    | none => cases e
    | some j =>
      have e' : (ps[j]?).getD none = some p := Option.some.inj e
      have e2 : ps[j]? = some (some p) := by
        cases z : ps[j]? with
        | none => rw [z] at e'; cases e'
        | some y => rw [z] at e'; exact congrArg some e'
      obtain ⟨v, h1, h2⟩ := s.2 j p e2
      exact ⟨v, by show some ((σ[j]?).getD none) = _; rw [h1]; rfl, h2⟩
def lcV (S : Src) (g : MG) (tf : MT) (te : ME) (Q : List PV → PH → Prop) : List PV → List PV → PSt → PH → Prop
  | [], acc, _, h => S.ok h ∧ Q acc h
  | x :: r, acc, ps, h => S.ok h ∧ g.run x ps h fun ps1 h1 => tf.run ps1 h1 fun k h2 => if k = true then te.run ps1 h2 fun y h3 => acc.length + 1 ≤ sizeLine ∧ lcV S g tf te Q r (acc ++ [y]) ps1 h3 else lcV S g tf te Q r acc ps1 h2
theorem lcV.mono {S : Src} {g : MG} {tf : MT} {te : ME} {Q Q' : List PV → PH → Prop} (f : ∀ l h, Q l h → Q' l h) : ∀ {xs acc : List PV} {ps h}, lcV S g tf te Q xs acc ps h → lcV S g tf te Q' xs acc ps h
  | [], _, _, _, q => ⟨q.1, f _ _ q.2⟩
  | x :: r, _, _, _, q => ⟨q.1, g.le q.2 fun ps1 h1 q => tf.mono (fun k h2 q => by
    cases k with
    | true => rw [if_pos rfl] at q ⊢; exact te.mono (fun _ _ q => ⟨q.1, lcV.mono f q.2⟩) q
    | false => rw [if_neg Bool.false_ne_true] at q ⊢; exact lcV.mono f q) q⟩
def mLc (ix : List (Option Nat)) (mi : MI) (g : MG) (tf : MT) (te : ME) : ML := ⟨fun ps h Q => mi.run ps h fun S h1 => lcV S g tf te Q S.items [] (pblk ix ps) h1, fun f q => mi.mono (fun _ _ q => lcV.mono f q) q⟩
theorem HR.side {ι : List Addr} {H : Hp} {h : PH} {D : Addr} {ys zs : List V} (r : HR K ι H h) (hD : D ∉ ι) (e : H D = some (.lst ys)) : HR K ι (upd H D (.lst zs)) h ∧ TupsK K H (upd H D (.lst zs)) := by
  have ht : TupsK K H (upd H D (.lst zs)) := ⟨fun b vs q => by
    rcases q with (q | ⟨o, q⟩) | q
    · exact .inl (.inl (by rw [upd_ne (ne_of q e (by intro z; cases z))]; exact q))
    · exact .inl (.inr ⟨o, by rw [upd_ne (ne_of q e (by intro z; cases z))]; exact q⟩)
    · exact .inr q, fun b vs q => q.elim (fun ⟨o, q⟩ => .inl ⟨o, by rw [upd_ne (ne_of q e (by intro z; cases z))]; exact q⟩) .inr⟩
  refine ⟨⟨r.nd, r.len, fun n a o e1 e2 => (r.obj n a o e1 e2).mono ht (fun _ _ z => z) (upd_ne fun z => hD (z ▸ List.mem_of_getElem? e1))⟩, ht⟩
theorem lL_lc {ix : List (Option Nat)} {mi : MI} {g : MG} {tf : MT} {te : ME} : ∀ σ H Q, lL K (mLc ix mi g tf te) σ H Q → tLc ix (lI K mi) (lG K g) (lT K tf) (lE K te) σ H Q := by
  rintro σ H Q ⟨ι, ps, h, sr, hr, q⟩
  refine ⟨ι, ps, h, sr, hr, mi.mono (fun S h1 q1 ι1 J H1 g1 r1 js D hD => ?_) q⟩
  have hD1 : D ∉ ι1 := fun z => r1.hv z hD
  refine ⟨fun i m σ' ys H' => ∃ ι' ps' h' acc, Go ι1 ι' H1 H' ∧ D ∉ ι' ∧ SR K ι' H' σ' ps' ∧ HR K ι' H' h' ∧ H' D = some (.lst ys) ∧ VRs K ι' H' ys acc ∧ m = S.items.length - i ∧ i ≤ S.items.length ∧
    lcV S g tf te (fun l h' => ∀ ι' a H', Go ι ι' H H' → HR K ι' H' h' → H a = none → Own K ι' H' a l → Q (.ref a) H') (S.items.drop i) acc ps' h', ⟨S.items.length, ι1, pblk ix ps, h1, [], ?_, hD1, ?_, r1.same (same_new hD _), upd_same, .nil, by simp, Nat.zero_le _, by simpa using q1⟩, ?_⟩
  · exact Go.same (same_new hD _)
  · exact ((sr.go hr g1).go r1 (Go.same (same_new hD _))).blk ix
  rintro i m σ2 ys H2 ⟨ι2, ps2, h2, acc, g2, d2, s2, r2, hy, vy, rfl, hi, q2⟩
  refine ⟨hy, ?_⟩
  by_cases hlt : i < S.items.length
  · have ed : S.items.drop i = S.items[i] :: S.items.drop (i + 1) := (List.drop_eq_getElem_cons hlt)
    rw [ed] at q2
    obtain ⟨ok, q2⟩ := q2
    obtain ⟨j1, j2⟩ := js ι2 H2 h2 g2 r2 ok
    obtain ⟨go, yl⟩ := j1 i _ (List.getElem?_eq_getElem hlt)
    refine .inr ⟨go, fun x H3 y => ?_⟩
    obtain ⟨sm, vx⟩ := yl x H3 y
    have g3 := g2.trans (Go.same sm)
    have r3 := r2.same sm
    have s3 := s2.go r2 (Go.same sm)
    refine ⟨ι2, ps2, h2, _, s3, r3, vx, g.mono (fun ps4 h4 q4 ι4 σ4 H4 g4 r4 s4 => ?_) q2⟩
    refine ⟨ι4, ps4, h4, s4, r4, tf.mono (fun k h5 q5 ι5 H5 g5 r5 => ?_) q4⟩
    -- the new list is nobody's, all the while
    have own5 : Own K ι5 H5 D acc := by
      have o2 : Own K ι2 H2 D acc := ⟨d2, ys, hy, vy⟩
      exact ((o2.go r2 (Go.same sm)).go r3 g4).go r4 g5
    have hy5 : H5 D = some (.lst ys) := g5.keep _ _ ((Own.go (⟨d2, ys, hy, vy⟩ : Own K ι2 H2 D acc) r2 ((Go.same sm).trans g4)).1) (g4.keep _ _ d2 (sm _ _ hy))
    have vy5 : VRs K ι5 H5 ys acc := g5.vrs r4 (g4.vrs r3 ((Go.same sm).vrs r2 vy))
    cases k with
    | false =>
      rw [if_neg Bool.false_ne_true] at q5
      refine iteF ?_
      exact ⟨S.items.length - (i + 1), by omega, ι5, ps4, h5, acc, (g3.trans g4).trans g5, own5.1, s4.go r4 g5, r5, hy5, vy5, rfl, hlt, q5⟩
    | true =>
      rw [if_pos rfl] at q5
      refine iteT ?_
      refine ⟨ι5, ps4, h5, s4.go r4 g5, r5, te.mono (fun w h6 q6 ι6 u6 H6 g6 r6 v6 => ?_) q5⟩
      have hy6 : H6 D = some (.lst ys) := g6.keep _ _ own5.1 hy5
      have own6 := own5.go r5 g6
      have vy6 := g6.vrs r5 vy5
      refine ⟨hy6, by rw [vy6.length]; exact q6.1, S.items.length - (i + 1), by omega, ι6, ps4, h6, acc ++ [w], ?_, own6.1, ?_, (r6.side own6.1 hy6).1, upd_same, ?_, rfl, hlt, q6.2⟩
      · have gg := ((g3.trans g4).trans g5).trans g6
        refine ⟨gg.ext, gg.new, fun b o hb hq => ?_⟩
        rw [upd_ne (fun z => by rw [z, hD] at hq; cases hq)]
        exact gg.keep b o hb hq
      · have ht := (r6.side (zs := ys ++ [u6]) own6.1 hy6).2
        have s6 := (s4.go r4 g5).go r5 g6
        exact ⟨s6.1, fun i p e => let ⟨v, e1, e2⟩ := s6.2 i p e; ⟨v, e1, e2.mono ht fun _ _ z => z⟩⟩
      · have ht := (r6.side (zs := ys ++ [u6]) own6.1 hy6).2
        exact (vy6.append (.cons v6 .nil)).mono ht fun _ _ z => z
  · have e : i = S.items.length := by omega
    subst e
    rw [List.drop_length] at q2
    obtain ⟨ok, q2⟩ := q2
    have n0 : H D = none := g1.free' r1 hD
    exact .inl ⟨(js ι2 H2 h2 g2 r2 ok).2, q2 ι2 D H2 (g1.trans g2) r2 n0 ⟨d2, ys, hy, vy⟩⟩
def mAll : MT := ⟨fun _ h Q => Q true h, fun f q => f _ _ q⟩
theorem qfs_nil : PFs X [] (lT K mAll) := fun pins s σ H Q I ⟨ι, ps, h, sr, hr, q⟩ => pfs_nil pins s σ H Q I (q ι H (Go.refl _ _) hr)
theorem qfs_one {m : MT} (h : PT X c (lT K m)) : PFs X [c] (lT K m) := pfs_one h
section
variable {elt tg iter : Expr} {ifs : List Expr} {sc : Scope} {N' : List Str} {ix : List (Option Nat)} {mi : MI} {g : MG} {tf : MT} {te : ME}
theorem q_lc (hc : X.calm = true) (S : LcScope X.env.scope X.N sc N' ix) (hi : PI X tg iter (lI K mi))
    (hg : ∀ cl C s2 H2 fp, PG (blk X sc N' cl C s2 H2 fp) tg (lG K g)) (hf : ∀ cl C s2 H2 fp, PFs (blk X sc N' cl C s2 H2 fp) ifs (lT K tf)) (he : ∀ cl C s2 H2 fp, PE (blk X sc N' cl C s2 H2 fp) elt (lE K te))
    (hs : ∀ x, foldedSetIterable iter X.env x = pure x := by intro _; rfl) : PE X (.ListComp elt [⟨tg, iter, ifs, 0⟩] sc pos) (lL K (mLc ix mi g tf te)) := PE.imp (pe_lc hc S hi hg hf he hs) lL_lc
theorem q_setlc {i : Nat} {x : Str} {px spos : Pos} (hc : X.calm = true) (hN : X.N.Nodup) (hi' : X.N[i]? = some x) (hx : X.env.scope.names.lookup x = some .local) (S : LcScope X.env.scope X.N sc N' ix) (hi : PI X tg iter (lI K mi))
    (hg : ∀ cl C s2 H2 fp, PG (blk X sc N' cl C s2 H2 fp) tg (lG K g)) (hf : ∀ cl C s2 H2 fp, PFs (blk X sc N' cl C s2 H2 fp) ifs (lT K tf)) (he : ∀ cl C s2 H2 fp, PE (blk X sc N' cl C s2 H2 fp) elt (lE K te))
    (hsw : swapsWith (.ListComp elt [⟨tg, iter, ifs, 0⟩] sc pos) (some (.Name x px)) spos.line X.env = pure true := by rfl)
    (hs : ∀ x, foldedSetIterable iter X.env x = pure x := by intro _; rfl) : PS X (.Assign [.Name x px] (.ListComp elt [⟨tg, iter, ifs, 0⟩] sc pos) spos) (lS K (mAsg (mAlloc (mLc ix mi g tf te)) (gSet i))) :=
  PS.imp (ps_setlc hc hN hi' hx S hi hg hf he hsw hs) fun D σ H ⟨ι, ps, h, sr, hr, q⟩ => lL_lc σ H _ ⟨ι, ps, h, sr, hr, (mLc ix mi g tf te).mono (fun l h1 q1 ι1 a H1 g1 r1 n1 o1 => by
    obtain ⟨vs, e1, e2⟩ := o1.2
    obtain ⟨b1, b2⟩ := r1.adopt (o := .lst l) o1.1 ⟨vs, e1, e2⟩
    have gg := g1.adopt n1
    exact q1 _ _ H1 gg b1 ((sr.go hr gg).set b2 i)) q⟩
end
structure MF where
  run : List PV → PH → QV → Prop
  mono : ∀ {l h} {Q Q' : QV}, (∀ v h', Q v h' → Q' v h') → run l h Q → run l h Q'
def spOf (K : PySem.W.Frag) (F : MF) : Sp := fun vs H Q _ => ∃ ι h l, HR K ι H h ∧ VRs K ι H vs l ∧ F.run l h (pQ K ι H Q)
def mCall (F : MF) (m : MA) : ME := ⟨fun ps h Q => m.run ps h fun l h1 => F.run l h1 Q, fun f q => m.mono (fun _ _ q => F.mono f q) q⟩
theorem lE_call {F : MF} {m : MA} : ∀ σ H Q, lE K (mCall F m) σ H Q → tCalC (spOf K F) (lA K m) σ H Q := fun σ H Q ⟨ι, ps, h, sr, hr, q⟩ =>
  ⟨ι, ps, h, sr, hr, m.mono (fun l h1 q1 ι1 vs H1 g1 r1 v1 => ⟨ι1, h1, l, r1, v1, F.mono (fun _ _ z => pQ.go g1 z) q1⟩) q⟩
theorem q_call {k k' : Nat} {ps : List Str} {F : MF} {x : Str} {p : Pos} {m : MA} (G : Cal X.prog X.w X.K X.mg X.base x k ps (spOf K F)) (hr : Room k' X.A) (hk : k ≤ k') (hg : Gl X x) (ha : PA X (e :: es) (lA K m)) (hdb : (x == ("__debug__" : Str)) = false := by decide)
    (he : starEach (e :: es) X.env = (false, eval e X.env) :: starEach es X.env := by rfl) (hpl : (backTo pos (starEach es X.env)).any (·.1) = false := by rfl) : PE X (.Call (.Name x p) (e :: es) [] pos) (lE K (mCall F m)) := PE.imp (pe_cal G hr hk hg ha hdb he hpl) lE_call
/-- a def that hands back a list of its own -/
structure MFL where
  run : List PV → PH → (List PV → PH → Prop) → Prop
  mono : ∀ {l h} {Q Q' : List PV → PH → Prop}, (∀ v h', Q v h' → Q' v h') → run l h Q → run l h Q'
def spL (K : PySem.W.Frag) (F : MFL) : Sp := fun vs H Q _ => ∃ ι h l, HR K ι H h ∧ VRs K ι H vs l ∧ F.run l h fun l h' => ∀ ι' a H', Go ι ι' H H' → HR K ι' H' h' → H a = none → Own K ι' H' a l → Q (.ref a) H'
def mCallL (F : MFL) (m : MA) : ML := ⟨fun ps h Q => m.run ps h fun l h1 => F.run l h1 Q, fun f q => m.mono (fun _ _ q => F.mono f q) q⟩
theorem q_callL {k k' : Nat} {ps : List Str} {F : MFL} {x : Str} {p : Pos} {m : MA} (G : Cal X.prog X.w X.K X.mg X.base x k ps (spL K F)) (hr : Room k' X.A) (hk : k ≤ k') (hg : Gl X x) (ha : PA X (e :: es) (lA K m)) (hdb : (x == ("__debug__" : Str)) = false := by decide)
    (he : starEach (e :: es) X.env = (false, eval e X.env) :: starEach es X.env := by rfl) (hpl : (backTo pos (starEach es X.env)).any (·.1) = false := by rfl) : PE X (.Call (.Name x p) (e :: es) [] pos) (lL K (mCallL F m)) := PE.imp (pe_cal G hr hk hg ha hdb he hpl) fun σ H Q ⟨ι, ps, h, sr, hr, q⟩ =>
  ⟨ι, ps, h, sr, hr, m.mono (fun l h1 q1 ι1 vs H1 g1 r1 v1 => ⟨ι1, h1, l, r1, v1, F.mono (fun _ _ z ι2 a H2 g2 r2 n2 o2 => z ι2 a H2 (g1.trans g2) r2 (g1.free' r1 n2) o2) q1⟩) q⟩
structure MB1 where
  f : List PV → PH → QV → Prop
  mono : ∀ {l h} {Q Q' : QV}, (∀ v h', Q v h' → Q' v h') → f l h Q → f l h Q'
def MB1.Ok (K : PySem.W.Frag) (r : List V → Hp → VK → Prop) (m : MB1) : Prop := ∀ {ι H h vs l Q}, HR K ι H h → VRs K ι H vs l → m.f l h (pQ K ι H Q) → r vs H Q
def mBi (B : MB1) (m : MA) : ME := ⟨fun ps h Q => m.run ps h fun l h1 => B.f l h1 Q, fun f q => m.mono (fun _ _ q => B.mono f q) q⟩
theorem lE_bi {r : List V → Hp → VK → Prop} {B : MB1} (hB : MB1.Ok K r B) {m : MA} : ∀ σ H Q, lE K (mBi B m) σ H Q → tCB r (lA K m) σ H Q := fun σ H Q ⟨ι, ps, h, sr, hr, q⟩ =>
  ⟨ι, ps, h, sr, hr, m.mono (fun l h1 q1 ι1 vs H1 g1 r1 v1 => hB r1 v1 (B.mono (fun _ _ z => pQ.go g1 z) q1)) q⟩
/-- one argument, a sequence that is read -/
structure MB2 where
  f : Src → PH → QV → Prop
  mono : ∀ {l h} {Q Q' : QV}, (∀ v h', Q v h' → Q' v h') → f l h Q → f l h Q'
def MB2.Ok (K : PySem.W.Frag) (r : List V → Hp → VK → Prop) (m : MB2) : Prop := ∀ {ι H h v S Q}, HR K ι H h → SqS K ι H v S → S.ok h → m.f S h (pQ K ι H Q) → r [v] H Q
def mBiQ (B : MB2) (m : MQ) : ME := ⟨fun ps h Q => m.run ps h fun l h1 => B.f l h1 Q, fun f q => m.mono (fun _ _ q => B.mono f q) q⟩
theorem lE_biQ {K : PySem.W.Frag} {r : List V → Hp → VK → Prop} {B : MB2} (hB : MB2.Ok K r B) {m : MQ} : ∀ σ H Q, lE K (mBiQ B m) σ H Q → tCB r (tCons (lQ K m) tNil) σ H Q := fun σ H Q ⟨ι, ps, h, sr, hr, q⟩ =>
  ⟨ι, ps, h, sr, hr, m.mono (fun l h1 q1 ι1 v H1 g1 r1 v1 ok => hB r1 v1 ok (B.mono (fun _ _ z => pQ.go g1 z) q1)) q⟩
/-- .. that hands back a list of its own -/
structure MB3 where
  f : Src → PH → (List PV → PH → Prop) → Prop
  mono : ∀ {l h} {Q Q' : List PV → PH → Prop}, (∀ v h', Q v h' → Q' v h') → f l h Q → f l h Q'
def MB3.Ok (K : PySem.W.Frag) (r : List V → Hp → VK → Prop) (m : MB3) : Prop := ∀ {ι H h v S Q}, HR K ι H h → SqS K ι H v S → S.ok h → m.f S h (fun l h' => ∀ ι' a H', Go ι ι' H H' → HR K ι' H' h' → H a = none → Own K ι' H' a l → Q (V.ref a) H') → r [v] H Q
def mBiL (B : MB3) (m : MQ) : ML := ⟨fun ps h Q => m.run ps h fun l h1 => B.f l h1 Q, fun f q => m.mono (fun _ _ q => B.mono f q) q⟩
section
variable {x : Str} {p : Pos} {id : String} {r : List V → Hp → VK → Prop}
theorem q_callB {B : MB1} {m : MA} (hc : CallR X (.builtin id) r) (hB : MB1.Ok K r B) (hg : Gl X x) (hm : X.mg x = none) (hv : bootBuiltins x = some (.builtin id)) (ha : PA X (e :: es) (lA K m)) (hn : x ≠ "__name__" := by decide) (hdb : (x == ("__debug__" : Str)) = false := by decide)
    (he : starEach (e :: es) X.env = (false, eval e X.env) :: starEach es X.env := by rfl) (hpl : (backTo pos (starEach es X.env)).any (·.1) = false := by rfl) : PE X (.Call (.Name x p) (e :: es) [] pos) (lE K (mBi B m)) := PE.imp (pe_callB hc hg hm hv ha hn hdb he hpl) (lE_bi hB)
theorem q_callTy {B : MB1} {m : MA} (hc : CallR X (.type id) r) (hB : MB1.Ok K r B) (hg : Gl X x) (hm : X.mg x = none) (hv : bootBuiltins x = some (.type id)) (ha : PA X (e :: es) (lA K m)) (hn : x ≠ "__name__" := by decide) (hdb : (x == ("__debug__" : Str)) = false := by decide)
    (he : starEach (e :: es) X.env = (false, eval e X.env) :: starEach es X.env := by rfl) (hpl : (backTo pos (starEach es X.env)).any (·.1) = false := by rfl) : PE X (.Call (.Name x p) (e :: es) [] pos) (lE K (mBi B m)) := PE.imp (pe_callTy hc hg hm hv ha hn hdb he hpl) (lE_bi hB)
theorem q_callTyQ {K : PySem.W.Frag} {B : MB2} {m : MQ} (hc : CallR X (.type id) r) (hB : MB2.Ok K r B) (hg : Gl X x) (hm : X.mg x = none) (hv : bootBuiltins x = some (.type id)) (ha : PE X e (lQ K m)) (hn : x ≠ "__name__" := by decide) (hdb : (x == ("__debug__" : Str)) = false := by decide)
    (he : starEach [e] X.env = (false, eval e X.env) :: starEach [] X.env := by rfl) (hpl : (backTo pos (starEach [] X.env)).any (·.1) = false := by rfl) : PE X (.Call (.Name x p) [e] [] pos) (lE K (mBiQ B m)) := PE.imp (pe_callTy hc hg hm hv (pa_cons ha pa_nil he) hn hdb he hpl) (lE_biQ hB)
end
end
end PL
set_option Elab.async false
set_option linter.all false
set_option maxRecDepth 100000
namespace PL
open PySem PySem.Spec PyProof.Rows L2
variable {K : PySem.W.Frag}
def aI (g : Int → Int → PV) : M2 := ⟨fun x y h Q => match x, y with | .int i, .int j => Q (g i j) h | _, _ => False, fun f q => by
  revert q
  split
  · exact f _ _
  · exact fun z => z⟩
def aIc (C : Int → Int → Prop) (g : Int → Int → PV) : M2 := ⟨fun x y h Q => match x, y with | .int i, .int j => C i j ∧ Q (g i j) h | _, _ => False, fun f q => by
  revert q
  split
  · exact fun q => ⟨q.1, f _ _ q.2⟩
  · exact fun z => z⟩
theorem aI_ok {g : Int → Int → PV} {g' : Int → Int → V} (hg : ∀ ι H i j, VR K ι H (g' i j) (g i j)) : M2.Ok K (rI0 g') (aI g) := by
  intro ι H h u v x y Q hr hu hv q
  unfold aI at q
  dsimp only at q
  revert q
  split
  · intro q; cases hu; cases hv; exact ⟨_, _, rfl, rfl, q ι _ H (Go.refl _ _) hr (hg _ _ _ _)⟩
  · exact False.elim
theorem aIc_ok {C : Int → Int → Prop} {g : Int → Int → PV} {g' : Int → Int → V} (hg : ∀ ι H i j, VR K ι H (g' i j) (g i j)) : M2.Ok K (rI C g') (aIc C g) := by
  intro ι H h u v x y Q hr hu hv q
  unfold aIc at q
  dsimp only at q
  revert q
  split
  · intro q; cases hu; cases hv; exact ⟨_, _, rfl, rfl, q.1, q.2 ι _ H (Go.refl _ _) hr (hg _ _ _ _)⟩
  · exact False.elim
def oSub := aI fun i j => .int (i - j)
def oMul := aIc IntMulOk fun i j => .int (i * j)
def oDiv := aIc CDiv fun i j => .int (i / j)
def oMod := aIc (fun _ j => 0 < j) fun i j => .int (i % j)
def oPow := aIc CPow fun i j => .int (i ^ j.toNat)
def oLt := aI fun i j => .bl (decide (i < j))
def oLe := aI fun i j => .bl (decide (i ≤ j))
def oGt := aI fun i j => .bl (decide (j < i))
def oGe := aI fun i j => .bl (decide (j ≤ i))
/-- + of ints, texts, tuples -/
def oAdd : M2 := ⟨fun x y h Q => match x, y with
  | .int i, .int j => Q (.int (i + j)) h
  | .str a, .str b => a.length + b.length ≤ sizeLine ∧ Q (.str (a ++ b)) h
  | .tup a, .tup b => a ≠ [] ∧ a.length + b.length ≤ sizeLine ∧ Q (.tup (a ++ b)) h
  | _, _ => False, fun f q => by
    revert q
    split
    · exact f _ _
    · exact fun q => ⟨q.1, f _ _ q.2⟩
    · exact fun q => ⟨q.1, q.2.1, f _ _ q.2.2⟩
    · exact fun z => z⟩
section
variable {ι : List Addr} {H : Hp}
theorem VRs.nil_iff : ∀ {vs : List V} {l : List PV}, VRs K ι H vs l → (vs = [] ↔ l = [])
  | _, _, .nil => by simp
  | _, _, .cons _ _ => by simp
end
theorem oAdd_ok (K : PySem.W.Frag) : M2.Ok K (rPlus K) oAdd := by
  intro ι H h u v x y Q hr hu hv q
  unfold oAdd at q
  dsimp only at q
  revert q
  split
  · intro q; cases hu; cases hv; exact ⟨_, rfl, q ι _ H (Go.refl _ _) hr (.int _)⟩
  · intro q; cases hu; cases hv; exact ⟨_, rfl, q.1, q.2 ι _ H (Go.refl _ _) hr (.str _)⟩
  · intro q
    cases hu with
    | @tup p vs l e r =>
    cases hv with
    | @tup p' vs' l' e' r' =>
    refine .inr ⟨p, p', vs, vs', rfl, rfl, e, e', fun z => q.1 (r.nil_iff.mp z), by rw [r.length, r'.length]; exact q.2.1, fun z => ?_, fun z a ha => ?_⟩
    · have z' := r'.nil_iff.mp z
      subst z'
      have q2 := q.2.2
      rw [List.append_nil] at q2
      exact q2 ι _ H (Go.refl _ _) hr (.tup e r)
    · have s := same_new ha (.tup (vs ++ vs'))
      exact q.2.2 ι _ _ (Go.same s) (hr.same s) (.tup (SqT.of upd_same) ((Go.same s).vrs hr (r.append r')))
  · exact False.elim
mutual
def PV.dat : PV → Bool
  | .tup l => datL l
  | .ref _ => false
  | .ty _ => false
  | .cl _ => false
  | _ => true
def datL : List PV → Bool
  | [] => true
  | x :: l => x.dat && datL l
end
mutual
def PV.dep : PV → Nat
  | .tup l => depL l + 1
  | _ => 0
def depL : List PV → Nat
  | [] => 0
  | x :: l => max x.dep (depL l)
end
mutual
def peq : PV → PV → Bool
  | .non, .non => true
  | .bl a, .bl b => a == b
  | .bl a, .int b => (if a then 1 else 0) == b
  | .int a, .bl b => a == (if b then 1 else 0)
  | .int a, .int b => a == b
  | .str a, .str b => a == b
  | .tup l, .tup m => peqs l m
  | _, _ => false
def peqs : List PV → List PV → Bool
  | [], [] => true
  | x :: l, y :: m => peq x y && peqs l m
  | _, _ => false
end
theorem datL_get : ∀ {l : List PV} {j : Nat} {x : PV}, datL l = true → l[j]? = some x → x.dat = true
  | [], _, _, _, e => by simp at e
  | y :: l, 0, x, h, e => by
    simp at e; subst e
    rw [datL, Bool.and_eq_true] at h; exact h.1
  | y :: l, j + 1, x, h, e => by
    rw [datL, Bool.and_eq_true] at h
    exact datL_get h.2 (by simpa using e)
theorem depL_get : ∀ {l : List PV} {j : Nat} {x : PV}, l[j]? = some x → x.dep ≤ depL l
  | [], _, _, e => by simp at e
  | y :: l, 0, x, e => by
    simp at e; subst e
    rw [depL]; omega
  | y :: l, j + 1, x, e => by
    have := depL_get (l := l) (j := j) (x := x) (by simpa using e)
    rw [depL]; omega
mutual
theorem peq_refl : ∀ (x : PV), x.dat = true → peq x x = true
  | .non, _ => rfl
  | .bl b, _ => by rw [peq]; simp
  | .int i, _ => by rw [peq]; simp
  | .str i, _ => by rw [peq]; simp
  | .tup l, h => by rw [peq]; exact peqs_refl l (by rw [PV.dat] at h; exact h)
  | .ref _, h => by rw [PV.dat] at h; cases h
  | .ty _, h => by rw [PV.dat] at h; cases h
  | .cl _, h => by rw [PV.dat] at h; cases h
theorem peqs_refl : ∀ (l : List PV), datL l = true → peqs l l = true
  | [], _ => by rw [peqs]
  | x :: l, h => by
    rw [datL, Bool.and_eq_true] at h
    rw [peqs, peq_refl x h.1, peqs_refl l h.2]; rfl
end
section
variable {ι : List Addr} {H : Hp}
/-- what a tuple holds is one thing -/
def InjT (K : PySem.W.Frag) (H : Hp) : Prop := ∀ a vs ws, SqT K H a vs → SqT K H a ws → vs = ws
mutual
theorem VR.fn (inj : InjT K H) : ∀ {v : V} {x y : PV}, VR K ι H v x → VR K ι H v y → x.dat = true → y.dat = true → x = y
  | _, _, _, .non, h, _, _ => by cases h; rfl
  | _, _, _, .bl b, h, _, _ => by cases h; rfl
  | _, _, _, .int b, h, _, _ => by cases h; rfl
  | _, _, _, .str b, h, _, _ => by cases h; rfl
  | _, _, _, .ty b, h, _, _ => by cases h; rfl
  | _, _, _, .ref e, h, d, _ => by rw [PV.dat] at d; cases d
  | _, _, _, .cl e _, h, d, _ => by rw [PV.dat] at d; cases d
  | _, _, _, .tup e r, h, d, d' => by
    cases h with
    | tup e' r' =>
      have ee := inj _ _ _ e e'
      subst ee
      rw [PV.dat] at d d'
      rw [VRs.fn inj r r' d d']
    | ref e => rw [PV.dat] at d'; cases d'
    | cl e _ => rw [PV.dat] at d'; cases d'
theorem VRs.fn (inj : InjT K H) : ∀ {v : List V} {x y : List PV}, VRs K ι H v x → VRs K ι H v y → datL x = true → datL y = true → x = y
  | _, _, _, .nil, h, _, _ => by cases h; rfl
  | _, _, _, .cons r t, h, d, d' => by
    cases h with
    | cons r' t' =>
      rw [datL, Bool.and_eq_true] at d d'
      rw [VR.fn inj r r' d.1 d'.1, VRs.fn inj t t' d.2 d'.2]
end
end
def eqJ (l m : List PV) (j : Nat) : Bool := match l[j]?, m[j]? with | some x, some y => peq x y | _, _ => true
theorem peqs_all : ∀ (l m : List PV), ((List.range (min l.length m.length)).all (eqJ l m) && l.length == m.length) = peqs l m
  | [], [] => by rw [peqs]; rfl
  | [], _ :: _ => by
    rw [peqs]
    · simp
    · intros; simp_all
    · intros; simp_all
  | _ :: _, [] => by
    rw [peqs]
    · simp
    · intros; simp_all
    · intros; simp_all
  | x :: l, y :: m => by
    rw [peqs, ← peqs_all l m]
    have e : min (x :: l).length (y :: m).length = min l.length m.length + 1 := by simp only [List.length_cons]; omega
    rw [e, List.range_succ_eq_map, List.all_cons, List.all_map]
    have e2 : ((x :: l).length == (y :: m).length) = (l.length == m.length) := by simp
    rw [e2, Bool.and_assoc]
    rfl
section
variable {X : Cx} {pins : List (Addr × Obj)} {σ : L2.St} {H : Hp} {s : Shared} {ι : List Addr}
theorem rc_pv (I : Inv X pins σ H s) {A : Around} {a b : Addr} {vs ws : List V} {l m : List PV} (e : SqT X.K H a vs) (e' : SqT X.K H b ws) (r1 : VRs K ι H vs l) (r2 : VRs K ι H ws m) (hu : A.units < cLine)
    (ih : ∀ (j : Nat) (x y : PV) (v v' : V) (w w' : Value), l[j]? = some x → m[j]? = some y → VR K ι H v x → VR K ι H v' y → RelV v w → RelV v' w' → SeqAt.EqAt A.in1 s w w' (peq x y)) : SeqAt.RcAt A s (.ref a) (.ref b) (peqs l m) := by
  obtain ⟨its, r, ht, _⟩ := I.tuple e
  obtain ⟨its', r', ht', _⟩ := I.tuple e'
  have q := SeqAt.RcAt.tuples (A := A) (e := eqJ l m) ht ht' hu (fun j g1 g2 => by
    have h1 : j < its.length := by simpa using g1
    have h2 : j < its'.length := by simpa using g2
    have hl : j < l.length := by rw [← r1.length, r.length]; exact h1
    have hm : j < m.length := by rw [← r2.length, r'.length]; exact h2
    obtain ⟨v, v1, v2⟩ := r1.get (List.getElem?_eq_getElem hl)
    obtain ⟨v', v1', v2'⟩ := r2.get (List.getElem?_eq_getElem hm)
    obtain ⟨u, u1, u2⟩ := r.get v1
    obtain ⟨u', u1', u2'⟩ := r'.get v1'
    rw [List.getElem?_eq_getElem h1] at u1
    rw [List.getElem?_eq_getElem h2] at u1'
    cases u1
    cases u1'
    unfold eqJ
    rw [List.getElem?_eq_getElem hl, List.getElem?_eq_getElem hm]
    have := ih j _ _ v v' _ _ (List.getElem?_eq_getElem hl) (List.getElem?_eq_getElem hm) v2 v2' u2 u2'
    simpa using this)
  have e1 : its.toArray.size = l.length := by rw [List.size_toArray, ← r.length, r1.length]
  have e2 : its'.toArray.size = m.length := by rw [List.size_toArray, ← r'.length, r2.length]
  rw [e1, e2, peqs_all] at q
  exact q
theorem eq_pv (hK : X.K = K) (I : Inv X pins σ H s) : ∀ (n : Nat) (x y : PV) (A : Around) (v v' : V) (w w' : Value), x.dep ≤ n → x.dat = true → y.dat = true → VR K ι H v x → VR K ι H v' y → RelV v w → RelV v' w' → A.units + n + 1 < cLine → SeqAt.EqAt A s w w' (peq x y) := by
  subst hK
  intro n
  induction n with
  | zero =>
    intro x y A v v' w w' hd dx dy hv hv' r1 r2 hu
    cases hv with
    | tup e r => rw [PV.dep] at hd; omega
    | ref e => rw [PV.dat] at dx; cases dx
    | ty e => rw [PV.dat] at dx; cases dx
    | cl e _ => rw [PV.dat] at dx; cases dx
    | non =>
      cases r1
      cases hv' with
      | non => cases r2; exact SeqAt.EqAt.same _
      | bl b => cases r2; exact SeqAt.EqAt.none_bool b
      | int b => obtain ⟨t, rfl⟩ := r2; exact SeqAt.EqAt.none_int b t
      | str b => obtain ⟨t, rfl⟩ := r2; exact SeqAt.EqAt.none_str b t
      | tup e r => cases r2; obtain ⟨its, _, ht, _⟩ := I.tuple e; exact SeqAt.EqAt.none_tuple ht (by omega)
      | ref e => rw [PV.dat] at dy; cases dy
      | ty e => rw [PV.dat] at dy; cases dy
      | cl e _ => rw [PV.dat] at dy; cases dy
    | bl a =>
      cases r1
      cases hv' with
      | non => cases r2; exact SeqAt.EqAt.bool_none a
      | bl b => cases r2; exact SeqAt.EqAt.bool_bool a b
      | int b => obtain ⟨t, rfl⟩ := r2; exact SeqAt.EqAt.bool_int a b t
      | str b => obtain ⟨t, rfl⟩ := r2; exact SeqAt.EqAt.bool_str a b t
      | tup e r => cases r2; obtain ⟨its, _, ht, _⟩ := I.tuple e; exact SeqAt.EqAt.bool_tuple a ht (by omega)
      | ref e => rw [PV.dat] at dy; cases dy
      | ty e => rw [PV.dat] at dy; cases dy
      | cl e _ => rw [PV.dat] at dy; cases dy
    | int a =>
      obtain ⟨t', rfl⟩ := r1
      cases hv' with
      | non => cases r2; exact SeqAt.EqAt.int_none a t'
      | bl b => cases r2; exact SeqAt.EqAt.int_bool a t' b
      | int b => obtain ⟨t, rfl⟩ := r2; exact SeqAt.EqAt.int_int a t' b t
      | str b => obtain ⟨t, rfl⟩ := r2; exact SeqAt.EqAt.int_str a t' b t
      | tup e r => cases r2; obtain ⟨its, _, ht, _⟩ := I.tuple e; exact SeqAt.EqAt.int_tuple a t' ht (by omega)
      | ref e => rw [PV.dat] at dy; cases dy
      | ty e => rw [PV.dat] at dy; cases dy
      | cl e _ => rw [PV.dat] at dy; cases dy
    | str a =>
      obtain ⟨t', rfl⟩ := r1
      cases hv' with
      | non => cases r2; exact SeqAt.EqAt.str_none a t'
      | bl b => cases r2; exact SeqAt.EqAt.str_bool a t' b
      | int b => obtain ⟨t, rfl⟩ := r2; exact SeqAt.EqAt.str_int a t' b t
      | str b => obtain ⟨t, rfl⟩ := r2; exact SeqAt.EqAt.str_str a t' b t
      | tup e r => cases r2; obtain ⟨its, _, ht, _⟩ := I.tuple e; exact SeqAt.EqAt.str_tuple a t' ht (by omega)
      | ref e => rw [PV.dat] at dy; cases dy
      | ty e => rw [PV.dat] at dy; cases dy
      | cl e _ => rw [PV.dat] at dy; cases dy
  | succ n ih =>
    intro x y A v v' w w' hd dx dy hv hv' r1 r2 hu
    cases hv with
    | tup e r =>
      cases r1
      cases hv' with
      | non => cases r2; obtain ⟨its, _, ht, _⟩ := I.tuple e; exact SeqAt.EqAt.tuple_none ht (by omega)
      | bl b => cases r2; obtain ⟨its, _, ht, _⟩ := I.tuple e; exact SeqAt.EqAt.tuple_bool b ht (by omega)
      | int b => obtain ⟨t, rfl⟩ := r2; obtain ⟨its, _, ht, _⟩ := I.tuple e; exact SeqAt.EqAt.tuple_int b t ht (by omega)
      | str b => obtain ⟨t, rfl⟩ := r2; obtain ⟨its, _, ht, _⟩ := I.tuple e; exact SeqAt.EqAt.tuple_str b t ht (by omega)
      | ref e => rw [PV.dat] at dy; cases dy
      | ty e => rw [PV.dat] at dy; cases dy
      | cl e _ => rw [PV.dat] at dy; cases dy
      | @tup b ws m e' r' =>
        cases r2
        rename_i a vs l
        have dl : datL l = true := by rw [PV.dat] at dx; exact dx
        have dm : datL m = true := by rw [PV.dat] at dy; exact dy
        by_cases hab : a = b
        · subst hab
          have et := VR.fn (fun a vs ws h1 h2 => I.tuple_inj h1 h2) (VR.tup e r) (VR.tup e' r') dx dy
          rw [← et, peq_refl _ dx]
          exact SeqAt.EqAt.same _
        · have := rc_pv I e e' r r' (A := A) (by omega) fun j x y v v' w w' hx hy vx vy rx ry => by
            have d1 := depL_get hx
            rw [PV.dep] at hd
            exact ih x y A.in1 v v' w w' (by omega) (datL_get dl hx) (datL_get dm hy) vx vy rx ry (by show A.units + 1 + n + 1 < _; omega)
          rw [peq]
          exact SeqAt.EqAt.of_refs hab this
    | non => exact ih _ y A _ v' _ w' (by simp [PV.dep]) dx dy .non hv' r1 r2 (by omega)
    | bl b => exact ih _ y A _ v' _ w' (by simp [PV.dep]) dx dy (.bl b) hv' r1 r2 (by omega)
    | int b => exact ih _ y A _ v' _ w' (by simp [PV.dep]) dx dy (.int b) hv' r1 r2 (by omega)
    | str b => exact ih _ y A _ v' _ w' (by simp [PV.dep]) dx dy (.str b) hv' r1 r2 (by omega)
    | ref e => rw [PV.dat] at dx; cases dx
    | ty e => rw [PV.dat] at dx; cases dx
    | cl e _ => rw [PV.dat] at dx; cases dx
end
/-- == -/
def pEqB (x y : PV) (h : PH) (Q : Bool → Prop) : Prop := match x, y with
  | .int a, .int b => Q (decide (a = b))
  | .str a, .str b => Q (decide (a = b))
  | .bl a, .bl b => Q (decide (a = b))
  | .non, .non => Q true
  | .non, .int _ => Q false
  | .non, .str _ => Q false
  | .non, .bl _ => Q false
  | .int _, .non => Q false
  | .str _, .non => Q false
  | .bl _, .non => Q false
  | .int _, .str _ => Q false
  | .str _, .int _ => Q false
  | .bl _, .str _ => Q false
  | .str _, .bl _ => Q false
  | .tup l, .tup m => datL l = true ∧ datL m = true ∧ depL l ≤ 100 ∧ Q (peqs l m)
  | _, _ => False
theorem pEqB.mono {x y : PV} {h : PH} {Q Q' : Bool → Prop} (f : ∀ b, Q b → Q' b) (q : pEqB x y h Q) : pEqB x y h Q' := by
  unfold pEqB at q ⊢
  revert q
  split <;> first | exact f _ | exact (fun q => ⟨q.1, q.2.1, q.2.2.1, f _ q.2.2.2⟩) | exact fun z => z
def oEq : M2 := ⟨fun x y h Q => pEqB x y h fun b => Q (.bl b) h, fun f q => pEqB.mono (fun b q => f _ _ q) q⟩
def oNe : M2 := ⟨fun x y h Q => pEqB x y h fun b => Q (.bl (!b)) h, fun f q => pEqB.mono (fun b q => f _ _ q) q⟩
def rEqP (K : PySem.W.Frag) (neg : Bool) : R2 := fun x y H Q => (scal x y = true ∧ Q (.bl (if neg then !decide (x = y) else decide (x = y))) H) ∨ ∃ ι a b vs ws l m, x = .ref a ∧ y = .ref b ∧ SqT K H a vs ∧ SqT K H b ws ∧ VRs K ι H vs l ∧ VRs K ι H ws m ∧ datL l = true ∧ datL m = true ∧ depL l ≤ 100 ∧ Q (.bl (if neg then !peqs l m else peqs l m)) H
theorem op_eqP {X : Cx} (K : PySem.W.Frag) (hK : X.K = K) (hu : X.A.units + 200 < cLine) : OpR X (compareOp .Eq) (rEqP K false) := by
  subst hK
  refine OpR.mono (r := fun x y H Q => rEq x y H Q ∨ ∃ ι a b vs ws l m, x = .ref a ∧ y = .ref b ∧ SqT X.K H a vs ∧ SqT X.K H b ws ∧ VRs X.K ι H vs l ∧ VRs X.K ι H ws m ∧ datL l = true ∧ datL m = true ∧ depL l ≤ 100 ∧ Q (.bl (peqs l m)) H) (op_eq.or ?_) (fun x y H Q h => h)
  intro pins s σ H x y v u Q I rx ry h
  obtain ⟨ι, a, b, vs, ws, l, m, rfl, rfl, e, e', r, r', dl, dm, hd, q⟩ := h
  cases rx
  cases ry
  refine EqBoolInt.of_rc (rc_pv I e e' r r' (by omega) fun j x y v v' w w' hx hy vx vy rx ry => ?_) ?_
  · have d1 := depL_get hx
    exact eq_pv rfl I 100 x y _ v v' w w' (by omega) (datL_get dl hx) (datL_get dm hy) vx vy rx ry (by show X.A.units + 1 + 100 + 1 < _; omega)
  · exact ⟨.bl _, H, I, rfl, q⟩
theorem oEq_ok : M2.Ok K (rEqP K false) oEq := by
  intro ι H h u v x y Q hr hu hv q
  have q : pEqB x y h fun b => pQ K ι H Q (.bl b) h := q
  have fin : ∀ {b : Bool} {z : V}, pQ K ι H Q (.bl b) h → z = .bl b → Q z H := fun q e => by subst e; exact q ι _ H (Go.refl _ _) hr (.bl _)
  unfold pEqB at q
  cases hu with
  | tup e r =>
    cases hv with
    | tup e' r' => exact .inr ⟨ι, _, _, _, _, _, _, rfl, rfl, e, e', r, r', q.1, q.2.1, q.2.2.1, fin q.2.2.2 (by simp)⟩
    | _ => exact q.elim
  | _ => cases hv <;> first | exact q.elim | exact .inl ⟨rfl, fin q (by simp)⟩
end PL
set_option Elab.async false
set_option linter.all false
set_option maxRecDepth 100000
namespace PL
open PySem PySem.Spec PyProof.Rows L2
variable {K : PySem.W.Frag}
section
variable {X : Cx} {a b c e : Expr} {es : List Expr} {pos : Pos}
def PV.isNon : PV → Bool
  | .non => true
  | _ => false
def oIsN : M2 := ⟨fun x y h Q => match y with | .non => Q (.bl x.isNon) h | _ => False, fun f q => by
  revert q
  split
  · exact f _ _
  · exact fun z => z⟩
def oNotN : M2 := ⟨fun x y h Q => match y with | .non => Q (.bl (!x.isNon)) h | _ => False, fun f q => by
  revert q
  split
  · exact f _ _
  · exact fun z => z⟩
theorem isNon_dec {ι : List Addr} {H : Hp} {v : V} {x : PV} (h : VR K ι H v x) : decide (v = .non) = x.isNon := by cases h <;> simp [PV.isNon]
theorem oIsN_ok : M2.Ok K (fun x y H Q => y = .non ∧ Q (.bl (decide (x = .non))) H) oIsN := by
  intro ι H h u v x y Q hr hu hv q
  cases hv with
  | non => exact ⟨rfl, q ι _ H (Go.refl _ _) hr (by rw [isNon_dec hu]; exact .bl _)⟩
  | _ => exact q.elim
def oIsB : M2 := ⟨fun x y h Q => match x, y with | .bl i, .bl j => Q (.bl (i == j)) h | _, _ => False, fun f q => by
  revert q
  split
  · exact f _ _
  · exact fun z => z⟩
def oIsNotB : M2 := ⟨fun x y h Q => match x, y with | .bl i, .bl j => Q (.bl (!(i == j))) h | _, _ => False, fun f q => by
  revert q
  split
  · exact f _ _
  · exact fun z => z⟩
theorem op_neP (K : PySem.W.Frag) (hK : X.K = K) (hu : X.A.units + 200 < cLine) : OpR X (compareOp .NotEq) (rEqP K true) := by
  subst hK
  refine OpR.mono (r := fun x y H Q => rNe x y H Q ∨ ∃ ι a b vs ws l m, x = .ref a ∧ y = .ref b ∧ SqT X.K H a vs ∧ SqT X.K H b ws ∧ VRs X.K ι H vs l ∧ VRs X.K ι H ws m ∧ datL l = true ∧ datL m = true ∧ depL l ≤ 100 ∧ Q (.bl (!peqs l m)) H) (op_ne.or ?_) (fun x y H Q h => h)
  intro pins s σ H x y v u Q I rx ry h
  obtain ⟨ι, a, b, vs, ws, l, m, rfl, rfl, e, e', r, r', dl, dm, hd, q⟩ := h
  cases rx
  cases ry
  have q0 : SeqAt.RcNeAt X.A s (.ref a) (.ref b) (!peqs l m) := by
    obtain ⟨its, rr, ht, _⟩ := I.tuple e
    obtain ⟨its', rr', ht', _⟩ := I.tuple e'
    have q := SeqAt.RcNeAt.tuples (A := X.A) (e := eqJ l m) ht ht' (by omega) (fun j g1 g2 => by
      have h1 : j < its.length := by simpa using g1
      have h2 : j < its'.length := by simpa using g2
      have hl : j < l.length := by rw [← r.length, rr.length]; exact h1
      have hm : j < m.length := by rw [← r'.length, rr'.length]; exact h2
      obtain ⟨v, v1, v2⟩ := r.get (List.getElem?_eq_getElem hl)
      obtain ⟨v', v1', v2'⟩ := r'.get (List.getElem?_eq_getElem hm)
      obtain ⟨u, u1, u2⟩ := rr.get v1
      obtain ⟨u', u1', u2'⟩ := rr'.get v1'
      rw [List.getElem?_eq_getElem h1] at u1
      rw [List.getElem?_eq_getElem h2] at u1'
      cases u1
      cases u1'
      unfold eqJ
      rw [List.getElem?_eq_getElem hl, List.getElem?_eq_getElem hm]
      have d1 := depL_get (List.getElem?_eq_getElem hl)
      have := eq_pv rfl I 100 _ _ X.A.in1 v v' _ _ (by omega) (datL_get dl (List.getElem?_eq_getElem hl)) (datL_get dm (List.getElem?_eq_getElem hm)) v2 v2' u2 u2' (by show X.A.units + 1 + 100 + 1 < _; omega)
      simpa using this)
    have e1 : its.toArray.size = l.length := by rw [List.size_toArray, ← rr.length, r.length]
    have e2 : its'.toArray.size = m.length := by rw [List.size_toArray, ← rr'.length, r'.length]
    rw [e1, e2, peqs_all] at q
    exact q
  exact EqBoolInt.of_rcne q0 ⟨.bl _, H, I, rfl, q⟩
theorem oNe_ok : M2.Ok K (rEqP K true) oNe := by
  intro ι H h u v x y Q hr hu hv q
  have q : pEqB x y h fun b => pQ K ι H Q (.bl (!b)) h := q
  have fin : ∀ {b : Bool} {z : V}, pQ K ι H Q (.bl b) h → z = .bl b → Q z H := fun q e => by subst e; exact q ι _ H (Go.refl _ _) hr (.bl _)
  unfold pEqB at q
  cases hu with
  | tup e r =>
    cases hv with
    | tup e' r' => exact .inr ⟨ι, _, _, _, _, _, _, rfl, rfl, e, e', r, r', q.1, q.2.1, q.2.2.1, fin q.2.2.2 (by simp)⟩
    | _ => exact q.elim
  | _ => cases hv <;> first | exact q.elim | exact .inl ⟨rfl, fin q (by simp)⟩
end
end PL
set_option Elab.async false
set_option linter.all false
set_option maxRecDepth 100000
namespace PL
open PySem PySem.Spec PyProof.Rows L2
variable {K : PySem.W.Frag}
section
variable {X : Cx} {pins : List (Addr × Obj)} {σ : L2.St} {H : Hp} {s : Shared} {ι : List Addr}
open Classical in
noncomputable def eqF (K : PySem.W.Frag) (ι : List Addr) (H : Hp) (x : PV) (w : Value) : Bool := decide (∃ p v, RelV v w ∧ VR K ι H v p ∧ p.dat = true ∧ peq p x = true)
theorem relV_inj {v v' : V} {w : Value} (h : RelV v w) (h' : RelV v' w) : v = v' := Option.some.inj (h.abs.symm.trans h'.abs)
open Classical in
theorem eqF_of (inj : InjT K H) {x p : PV} {v : V} {w : Value} (r : RelV v w) (h : VR K ι H v p) (d : p.dat = true) : eqF K ι H x w = peq p x := by
  unfold eqF
  cases e : peq p x with
  | true => exact decide_eq_true ⟨p, v, r, h, d, e⟩
  | false =>
    refine decide_eq_false ?_
    rintro ⟨p', v', r', h', d', e'⟩
    have := relV_inj r r'
    subst this
    rw [VR.fn inj h h' d d', e'] at e
    cases e
theorem eqF_any (inj : InjT K H) {x : PV} : ∀ {vs : List V} {its : List Value} {l : List PV}, Vals vs its → VRs K ι H vs l → datL l = true → its.any (eqF K ι H x) = l.any fun y => peq y x
  | _, _, _, .nil, .nil, _ => rfl
  | _, _, _, .cons r t, .cons q z, d => by
    rw [datL, Bool.and_eq_true] at d
    rw [List.any_cons, List.any_cons, eqF_of inj r q d.1, eqF_any inj t z d.2]
theorem eqF_at (hK : X.K = K) (I : Inv X pins σ H s) {A : Around} {x : PV} {v : V} {w : Value} (hx : VR K ι H v x) (rx : RelV v w) (dx : x.dat = true) (hu : A.units + 101 + 1 < cLine) :
    ∀ {vs : List V} {its : List Value} {l : List PV}, Vals vs its → VRs K ι H vs l → datL l = true → depL l ≤ 101 → ∀ u ∈ its, SeqAt.EqAt A s u w (eqF K ι H x u)
  | _, _, _, .nil, .nil, _, _, u, hu => by cases hu
  | _, _, _, .cons r t, .cons q z, d, dd, u, hm => by
    rw [datL, Bool.and_eq_true] at d
    rw [depL] at dd
    rcases List.mem_cons.mp hm with rfl | hm
    · rw [eqF_of (fun a vs ws h1 h2 => by subst hK; exact I.tuple_inj h1 h2) r q d.1]
      exact eq_pv hK I 101 _ x A _ v _ w (by omega) d.1 dx q hx r rx hu
    · exact eqF_at hK I hx rx dx hu t z d.2 (by omega) u hm
end
/-- x in S: neg says 'not' -/
def rInP (K : PySem.W.Frag) (neg : Bool) : R2 := fun x y H Q => ∃ ι p vs l xp, y = .ref p ∧ (SqL K H p vs ∨ SqT K H p vs) ∧ VRs K ι H vs l ∧ VR K ι H x xp ∧ xp.dat = true ∧ datL l = true ∧ depL l ≤ 101 ∧ Q (.bl (if neg then !(l.any fun y => peq y xp) else l.any fun y => peq y xp)) H
section
variable {X : Cx}
theorem op_notInP (K : PySem.W.Frag) (hK : X.K = K) (hu : X.A.units + 200 < cLine) : OpR X (compareOp .NotIn) (rInP K true) := by
  subst hK
  intro pins s σ H x y v u Q I rx ry h
  obtain ⟨ι, p, vs, l, xp, rfl, hq, hl, hx, dx, dl, dd, q⟩ := h
  cases ry
  have hu' : X.A.in1.units + 101 + 1 < cLine := by show X.A.units + 1 + 101 + 1 < _; omega
  rcases hq with hq | hq
  · obtain ⟨its, r, pl, hz⟩ := I.list hq
    refine SeqAt.notIn_listAt (eqF X.K ι H xp) pl.isList (fun w hw => eqF_at rfl I hx rx dx hu' r hl dl dd w (by simpa using hw)) ⟨.bl _, H, I, rfl, ?_⟩
    rw [show its.toArray.any (eqF X.K ι H xp) = its.any (eqF X.K ι H xp) by simp, eqF_any (fun a vs ws h1 h2 => I.tuple_inj h1 h2) r hl dl]
    exact q
  · obtain ⟨its, r, pl, hz⟩ := I.tuple hq
    refine SeqAt.notIn_tupleAt (eqF X.K ι H xp) pl (fun w hw => eqF_at rfl I hx rx dx hu' r hl dl dd w (by simpa using hw)) ⟨.bl _, H, I, rfl, ?_⟩
    rw [show its.toArray.any (eqF X.K ι H xp) = its.any (eqF X.K ι H xp) by simp, eqF_any (fun a vs ws h1 h2 => I.tuple_inj h1 h2) r hl dl]
    exact q
end
structure M2Q where
  f : PV → Src → PH → QV → Prop
  mono : ∀ {x y h} {Q Q' : QV}, (∀ v h', Q v h' → Q' v h') → f x y h Q → f x y h Q'
def M2Q.Ok (K : PySem.W.Frag) (r : R2) (m : M2Q) : Prop := ∀ {ι H h u v x S Q}, HR K ι H h → VR K ι H u x → SqS K ι H v S → S.ok h → m.f x S h (pQ K ι H Q) → r u v H Q
def mOpQ (m : M2Q) (a : ME) (b : MQ) : ME := ⟨fun ps h Q => a.run ps h fun x h1 => b.run ps h1 fun S h2 => m.f x S h2 Q, fun f q => a.mono (fun _ _ q => b.mono (fun _ _ q => m.mono f q) q) q⟩
theorem lE_opQ {K : PySem.W.Frag} {r : R2} {m : M2Q} (hm : M2Q.Ok K r m) {ma : ME} {mb : MQ} : ∀ σ H Q, lE K (mOpQ m ma mb) σ H Q → tOp r (lE K ma) (lQ K mb) σ H Q := by
  rintro σ H Q ⟨ι, ps, h, sr, hr, q⟩
  refine ⟨ι, ps, h, sr, hr, ma.mono (fun x h1 q1 ι1 u1 H1 g1 r1 v1 => ?_) q⟩
  refine ⟨ι1, ps, h1, sr.go hr g1, r1, mb.mono (fun y h2 q2 ι2 u2 H2 g2 r2 v2 ok => ?_) q1⟩
  exact hm r2 (g2.vr r1 v1) v2 ok (m.mono (fun _ _ z => pQ.go (g1.trans g2) z) q2)
def inB (x : PV) (l : List PV) : Bool := l.any fun y => peq y x
def oNotIn : M2Q := ⟨fun x S h Q => x.dat = true ∧ datL S.items = true ∧ depL S.items ≤ 101 ∧ Q (.bl (!inB x S.items)) h, fun f q => ⟨q.1, q.2.1, q.2.2.1, f _ _ q.2.2.2⟩⟩
theorem oNotIn_ok (K : PySem.W.Frag) : M2Q.Ok K (rInP K true) oNotIn := by
  intro ι H h u v x S Q hr hu hs ok q
  obtain ⟨p, rfl, z | z⟩ := hs
  · obtain ⟨vs, e1, e2⟩ := z ι H h (Go.refl _ _) hr ok
    exact ⟨ι, p, vs, _, x, rfl, .inl e1.1, e2, hu, q.1, q.2.1, q.2.2.1, q.2.2.2 ι _ H (Go.refl _ _) hr (.bl _)⟩
  · obtain ⟨vs, e1, e2⟩ := z ι H h (Go.refl _ _) hr ok
    exact ⟨ι, p, vs, _, x, rfl, .inr e1, e2, hu, q.1, q.2.1, q.2.2.1, q.2.2.2 ι _ H (Go.refl _ _) hr (.bl _)⟩
section
variable {X : Cx} {a b c e : Expr} {es : List Expr} {pos : Pos}
theorem q_tcmpQ {K : PySem.W.Frag} {op : CmpOp} {r : R2} {m : M2Q} (ho : OpR X (compareOp op) r) (hm : M2Q.Ok K r m) {ma : ME} {mb : MQ} (ha : PE X a (lE K ma)) (hb : PE X b (lQ K mb)) (hk : behindInMarks op b = false) : PT X (.Compare a [op] [b] pos) (lT K (mB (mOpQ m ma mb))) :=
  PT.imp (pt_cmpR ho ha hb hk) fun σ H Q q => by
    have q := lT_B σ H Q q
    exact lE_opQ hm σ H _ q
def mIx (a : MQ) (b : ME) : ME := ⟨fun ps h Q => a.run ps h fun S h1 => b.run ps h1 fun y h2 => match y with
  | .int k => S.ok h2 ∧ match atI S.items k with | some v => Q v h2 | none => False
  | _ => False, fun f q => a.mono (fun _ _ q => b.mono (fun _ _ q => by
    revert q
    split
    · rintro ⟨q0, q⟩
      refine ⟨q0, ?_⟩
      revert q
      split
      · exact f _ _
      · exact fun z => z
    · exact fun z => z) q) q⟩
theorem VRs.atI {ι : List Addr} {H : Hp} {vs : List V} {l : List PV} (r : VRs K ι H vs l) {k : Int} {p : PV} (e : L2.atI l k = some p) : ∃ v, L2.atI vs k = some v ∧ VR K ι H v p := by
  unfold L2.atI at e ⊢
  rw [r.length]
  cases z : ixN l.length k with
  | none => rw [z] at e; cases e
  | some j =>
    rw [z] at e
    exact r.get e
theorem lE_ix {K : PySem.W.Frag} {ma : MQ} {mb : ME} : ∀ σ H Q, lE K (mIx ma mb) σ H Q → tOp (rIx K) (lQ K ma) (lE K mb) σ H Q := by
  rintro σ H Q ⟨ι, ps, h, sr, hr, q⟩
  refine ⟨ι, ps, h, sr, hr, ma.mono (fun S h1 q1 ι1 u1 H1 g1 r1 v1 ok => ?_) q⟩
  refine ⟨ι1, ps, h1, sr.go hr g1, r1, mb.mono (fun y h2 q2 ι2 u2 H2 g2 r2 v2 => ?_) q1⟩
  revert q2
  split
  · rename_i k
    rintro ⟨ok2, q2⟩
    cases v2
    cases z : L2.atI S.items k with
    | none => rw [z] at q2; exact q2.elim
    | some p =>
      rw [z] at q2
      obtain ⟨a, rfl, hs | hs⟩ := v1
      · obtain ⟨vs, e1, e2⟩ := hs ι2 H2 h2 g2 r2 ok2
        obtain ⟨v, e3, e4⟩ := e2.atI z
        exact .inl ⟨a, vs, k, v, rfl, rfl, e1.1, e3, q2 ι2 v H2 (g1.trans g2) r2 e4⟩
      · obtain ⟨vs, e1, e2⟩ := hs ι2 H2 h2 g2 r2 ok2
        obtain ⟨v, e3, e4⟩ := e2.atI z
        exact .inr (.inl ⟨a, vs, k, v, rfl, rfl, e1, e3, q2 ι2 v H2 (g1.trans g2) r2 e4⟩)
  · exact False.elim
theorem q_ixQ (K : PySem.W.Frag) (hK : X.K = K) {ma : MQ} {mb : ME} (ha : PE X a (lQ K ma)) (hb : PE X b (lE K mb)) (hs : PlainIx b) : PE X (.Subscript a b pos) (lE K (mIx ma mb)) := PE.imp (pe_ix (ix_seqk K hK) ha hb hs) lE_ix
/-- a sign of a text -/
def oIxS : M2 := ⟨fun x y h Q => match x, y with
  | .str z, .int k => z.length ≤ sizeLine ∧ match L2.atI z.cps.toList k with | some c => Q (.str ⟨#[c]⟩) h | none => False
  | _, _ => False, fun f q => by
    revert q
    split
    · rintro ⟨q0, q⟩
      refine ⟨q0, ?_⟩
      revert q
      split
      · exact f _ _
      · exact fun z => z
    · exact fun z => z⟩
theorem oIxS_ok : M2.Ok K rIxS oIxS := by
  intro ι H h u v x y Q hr hu hv q
  unfold oIxS at q
  dsimp only at q
  revert q
  split
  · rename_i z k
    rintro ⟨q0, q⟩
    cases hu
    cases hv
    cases e : L2.atI z.cps.toList k with
    | none => rw [e] at q; exact q.elim
    | some c => rw [e] at q; exact ⟨z, k, c, rfl, rfl, q0, e, q ι _ H (Go.refl _ _) hr (.str _)⟩
  · exact False.elim
theorem q_ixS {ma mb : ME} (ha : PE X a (lE K ma)) (hb : PE X b (lE K mb)) (hs : PlainIx b) : PE X (.Subscript a b pos) (lE K (mOp oIxS ma mb)) := q_ix ix_str oIxS_ok ha hb hs
def bLenQ : MB2 := ⟨fun S h Q => Q (.int S.items.length) h, fun f q => f _ _ q⟩
def bLen : MB1 := ⟨fun l h Q => match l with
  | [.str y] => y.length ≤ sizeLine ∧ Q (.int y.length) h
  | [.tup l] => Q (.int l.length) h
  | [.cl l] => Q (.int l.length) h
  | [.ref n] => match h[n]? with
    | some (.lst xs) => Q (.int xs.length) h
    | _ => False
  | _ => False, fun f q => by
    revert q
    split
    · exact fun q => ⟨q.1, f _ _ q.2⟩
    · exact f _ _
    · exact f _ _
    · split
      · exact f _ _
      · exact fun z => z
    · exact fun z => z⟩
theorem bLen_ok (K : PySem.W.Frag) : MB1.Ok K (rLen K) bLen := by
  intro ι H h vs l Q hr hv q
  unfold bLen at q
  dsimp only at q
  revert q
  split
  · intro q
    cases hv with
    | cons x t => cases t; cases x; exact ⟨_, _, rfl, ⟨q.1, rfl⟩, q.2 ι _ H (Go.refl _ _) hr (.int _)⟩
  · intro q
    cases hv with
    | cons x t =>
      cases t
      cases x with
      | tup e r => exact ⟨_, _, rfl, .inr ⟨_, e, r.length.symm⟩, q ι _ H (Go.refl _ _) hr (.int _)⟩
  · intro q
    cases hv with
    | cons x t =>
      cases t
      cases x with
      | cl e r => exact ⟨_, _, rfl, .inl ⟨_, e.sq, r.length.symm⟩, q ι _ H (Go.refl _ _) hr (.int _)⟩
  · rename_i n
    cases hv with
    | cons x t =>
      cases t
      cases x with
      | @ref _ a e =>
      split
      · rename_i xs hn
        intro q
        obtain ⟨ws, e1, e2⟩ := hr.obj n a _ e hn
        exact ⟨_, _, rfl, .inl ⟨ws, SqL.of e1, e2.length.symm⟩, q ι _ H (Go.refl _ _) hr (.int _)⟩
      · exact False.elim
  · exact False.elim
inductive Kd where
  | str | tup | int | bool
def Kd.name : Kd → String
  | .str => "str" | .tup => "tuple" | .int => "int" | .bool => "bool"
def Kd.is : Kd → PV → Bool
  | .str, .str _ => true
  | .tup, .tup _ => true
  | .int, .int _ => true
  | .int, .bl _ => true
  | .bool, .bl _ => true
  | _, _ => false
def mIsi (k : Kd) (m : ME) : ME := ⟨fun ps h Q => m.run ps h fun x h1 => (match x with | .ref n => (h1[n]?).isSome = true | .ty _ => False | .cl _ => False | _ => True) ∧ Q (.bl (k.is x)) h1, fun f q => m.mono (fun _ _ q => ⟨q.1, f _ _ q.2⟩) q⟩
def rIsiT (K : PySem.W.Frag) : List V → Hp → VK → Prop := fun xs H Q => ∃ x c t b, xs = [x, .ty c] ∧ (TyOf K H x t ∨ (t = .type "tuple" ∧ ∃ a vs, x = .ref a ∧ SqT K H a vs)) ∧ PySem.W.kitOne K t (.type c) = some b ∧ Q (.bl b) H
theorem call_isiT (K : PySem.W.Frag) (hK : X.K = K) : CallR X (.builtin "isinstance") (rIsiT K) := by
  subst hK
  intro pins s σ H xs us Q I r h
  obtain ⟨x, c, t, b, rfl, ty | ⟨rfl, a, vs, rfl, hT⟩, e, q⟩ := h
  · exact call_isinst pins s σ H _ us Q I r ⟨x, c, t, b, rfl, ty, e, q⟩
  · obtain ⟨u, w, rfl, r1, r2⟩ := vals2 r
    cases r1
    cases r2
    obtain ⟨its, _, ⟨o, h1, h2, _⟩, _⟩ := I.tuple hT
    exact PySem.W.kia_one PySem.W.kitx_tuple I.kIn ⟨o, h1, h2⟩ e (fun z => nomatch z) fun tk => ⟨.bl b, H, I.tok _, rfl, q⟩
theorem kit_all (K : PySem.W.Frag) : (∀ k : Kd, PySem.W.kitOne K (.type "NoneType") (.type k.name) = some false) ∧ (∀ k : Kd, PySem.W.kitOne K (.type "list") (.type k.name) = some false) ∧ (∀ k : Kd, PySem.W.kitOne K (.type "dict") (.type k.name) = some false) :=
  ⟨fun k => by cases k <;> kernel_rfl, fun k => by cases k <;> kernel_rfl, fun k => by cases k <;> kernel_rfl⟩
theorem kit_bl (K : PySem.W.Frag) (b : Bool) (k : Kd) : PySem.W.kitOne K (.type "bool") (.type k.name) = some (k.is (.bl b)) := by cases k <;> kernel_rfl
theorem kit_int (K : PySem.W.Frag) (b : Int) (k : Kd) : PySem.W.kitOne K (.type "int") (.type k.name) = some (k.is (.int b)) := by cases k <;> kernel_rfl
theorem kit_str (K : PySem.W.Frag) (b : Str) (k : Kd) : PySem.W.kitOne K (.type "str") (.type k.name) = some (k.is (.str b)) := by cases k <;> kernel_rfl
theorem kit_tup (K : PySem.W.Frag) (b : List PV) (k : Kd) : PySem.W.kitOne K (.type "tuple") (.type k.name) = some (k.is (.tup b)) := by cases k <;> kernel_rfl
theorem lE_isi {K : PySem.W.Frag} {k : Kd} {m : ME} : ∀ σ H Q, lE K (mIsi k m) σ H Q → tCB (rIsiT K) (tCons (lE K m) (tCons (tC (.ty k.name)) tNil)) σ H Q := by
  rintro σ H Q ⟨ι, ps, h, sr, hr, q⟩
  refine ⟨ι, ps, h, sr, hr, m.mono (fun x h1 q1 ι1 u1 H1 g1 r1 v1 => ?_) q⟩
  obtain ⟨q0, q1⟩ := q1
  have fin : ∀ {t : Value}, TyOf K H1 u1 t → PySem.W.kitOne K t (.type k.name) = some (k.is x) → rIsiT K [u1, .ty k.name] H1 Q := fun ty e => ⟨_, _, _, _, rfl, .inl ty, e, q1 ι1 _ H1 g1 r1 (.bl _)⟩
  show rIsiT K [u1, .ty k.name] H1 Q
  cases v1 with
  | non => exact fin .non (by rw [(kit_all K).1 k]; cases k <;> rfl)
  | bl b => exact fin (.bl b) (kit_bl K b k)
  | int b => exact fin (.int b) (kit_int K b k)
  | str b => exact fin (.str b) (kit_str K b k)
  | ty n => exact q0.elim
  | cl _ _ => exact q0.elim
  | tup e r => exact ⟨_, _, _, _, rfl, .inr ⟨rfl, _, _, rfl, e⟩, kit_tup K _ k, q1 ι1 _ H1 g1 r1 (.bl _)⟩
  | @ref n a e =>
    dsimp only at q0
    cases z : h1[n]? with
    | none => rw [z] at q0; cases q0
    | some o =>
      have ob := r1.obj n a o e z
      have ek : ∀ (t : String), (t = "list" ∨ t = "dict") → PySem.W.kitOne K (.type t) (.type k.name) = some (k.is (.ref n)) := fun t ht => by
        rcases ht with rfl | rfl
        · rw [(kit_all K).2.1 k]; cases k <;> rfl
        · rw [(kit_all K).2.2 k]; cases k <;> rfl
      cases o with
      | lst xs => obtain ⟨vs, e1, _⟩ := ob; exact fin (.lst e1) (ek _ (.inl rfl))
      | dk xs => obtain ⟨vs, e1, _⟩ := ob; exact fin (.dK e1) (ek _ (.inr rfl))
      | dt xs => obtain ⟨vs, e1, _⟩ := ob; exact fin (.dT e1) (ek _ (.inr rfl))
      | opq φ => obtain ⟨vs, e1, _⟩ := ob; exact fin (.lst e1) (ek _ (.inl rfl))
theorem q_isi (K : PySem.W.Frag) (hK : X.K = K) (k : Kd) {m : ME} {p p2 : Pos} {x : Str} (hg : Gl X "isinstance") (hm : X.mg "isinstance" = none) (ha : PE X a (lE K m)) (hb : PE X (.Name x p2) (tC (.ty k.name)))
    (he : starEach [a, .Name x p2] X.env = (false, eval a X.env) :: starEach [.Name x p2] X.env := by rfl) (he2 : starEach [Expr.Name x p2] X.env = (false, eval (.Name x p2) X.env) :: starEach [] X.env := by rfl)
    (hpl : (backTo pos (starEach [Expr.Name x p2] X.env)).any (·.1) = false := by rfl) : PE X (.Call (.Name "isinstance" p) [a, .Name x p2] [] pos) (lE K (mIsi k m)) :=
  PE.imp (pe_callB (call_isiT K hK) hg hm boot_isinstance (pa_cons ha (pa_cons hb pa_nil he2) he) (by decide) (by decide) he hpl) lE_isi
def bAbs : MB1 := ⟨fun l h Q => match l with | [.int i] => Q (.int (if i < 0 then -i else i)) h | _ => False, fun f q => by
  revert q
  split
  · exact f _ _
  · exact fun z => z⟩
theorem bAbs_ok : MB1.Ok K (fun xs H Q => ∃ i, xs = [.int i] ∧ Q (.int (if i < 0 then -i else i)) H) bAbs := by
  intro ι H h vs l Q hr hv q
  unfold bAbs at q
  dsimp only at q
  revert q
  split
  · intro q
    cases hv with
    | cons x t => cases t; cases x; exact ⟨_, rfl, q ι _ H (Go.refl _ _) hr (.int _)⟩
  · exact False.elim
def bInt : MB1 := ⟨fun l h Q => match l with | [.int i] => Q (.int i) h | [.bl k] => Q (.int (if k then 1 else 0)) h | _ => False, fun f q => by
  revert q
  split
  · exact f _ _
  · exact f _ _
  · exact fun z => z⟩
theorem bInt_ok : MB1.Ok K (fun xs H Q => (∃ i, xs = [.int i] ∧ Q (.int i) H) ∨ ∃ k, xs = [.bl k] ∧ Q (.int (if k then 1 else 0)) H) bInt := by
  intro ι H h vs l Q hr hv q
  unfold bInt at q
  dsimp only at q
  revert q
  split
  · intro q
    cases hv with
    | cons x t => cases t; cases x; exact .inl ⟨_, rfl, q ι _ H (Go.refl _ _) hr (.int _)⟩
  · intro q
    cases hv with
    | cons x t => cases t; cases x; exact .inr ⟨_, rfl, q ι _ H (Go.refl _ _) hr (.int _)⟩
  · exact False.elim
def bMax : MB1 := ⟨fun l h Q => match l with | [.int i, .int j] => Q (.int (if j > i then j else i)) h | _ => False, fun f q => by
  revert q
  split
  · exact f _ _
  · exact fun z => z⟩
def bMin : MB1 := ⟨fun l h Q => match l with | [.int i, .int j] => Q (.int (if j < i then j else i)) h | _ => False, fun f q => by
  revert q
  split
  · exact f _ _
  · exact fun z => z⟩
theorem bMax_ok : MB1.Ok K (fun xs H Q => ∃ i j, xs = [.int i, .int j] ∧ Q (.int (if j > i then j else i)) H) bMax := by
  intro ι H h vs l Q hr hv q
  unfold bMax at q
  dsimp only at q
  revert q
  split
  · intro q
    cases hv with
    | cons x t => cases t with
      | cons y t => cases t; cases x; cases y; exact ⟨_, _, rfl, q ι _ H (Go.refl _ _) hr (.int _)⟩
  · exact False.elim
theorem bMin_ok : MB1.Ok K (fun xs H Q => ∃ i j, xs = [.int i, .int j] ∧ Q (.int (if j < i then j else i)) H) bMin := by
  intro ι H h vs l Q hr hv q
  unfold bMin at q
  dsimp only at q
  revert q
  split
  · intro q
    cases hv with
    | cons x t => cases t with
      | cons y t => cases t; cases x; cases y; exact ⟨_, _, rfl, q ι _ H (Go.refl _ _) hr (.int _)⟩
  · exact False.elim
end
end PL
set_option Elab.async false
set_option linter.all false
set_option maxRecDepth 100000
namespace PL
open PySem PySem.Spec PyProof.Rows L2
variable {K : PySem.W.Frag}
section
variable {X : Cx} {a b c e o : Expr} {es : List Expr} {pos : Pos}
def bTup : MB2 := ⟨fun S h Q => Q (.tup S.items) h, fun f q => f _ _ q⟩
def rTupT (K : PySem.W.Frag) : List V → Hp → VK → Prop := fun xs H Q => ∃ p ys, xs = [.ref p] ∧ ((SqL K H p ys ∧ newO H (.tup ys) Q) ∨ (SqT K H p ys ∧ Q (.ref p) H))
theorem call_tupT (K : PySem.W.Frag) (hK : X.K = K) : CallR X (.type "tuple") (rTupT K) := by
  subst hK
  exact call_tuple_of.mono fun xs H Q ⟨p, ys, e, h⟩ => ⟨p, ys, e, h.imp (fun ⟨h1, h2⟩ => ⟨h1, fun l hl => h2.at l hl⟩) fun z => z⟩
theorem bTup_ok (K : PySem.W.Frag) : MB2.Ok K (rTupT K) bTup := by
  intro ι H h v S Q hr hs ok q
  obtain ⟨a, rfl, z | z⟩ := hs
  · obtain ⟨vs, e1, e2⟩ := z ι H h (Go.refl _ _) hr ok
    exact ⟨a, vs, rfl, .inl ⟨e1.1, fun p H2 s2 h2 n2 => q ι _ H2 (Go.same s2) (hr.same s2) (.tup (SqT.of h2) ((Go.same s2).vrs hr e2))⟩⟩
  · obtain ⟨vs, e1, e2⟩ := z ι H h (Go.refl _ _) hr ok
    exact ⟨a, vs, rfl, .inr ⟨e1, q ι _ H (Go.refl _ _) hr (.tup e1 e2)⟩⟩
def bList : MB3 := ⟨fun S h Q => Q S.items h, fun f q => f _ _ q⟩
theorem bools_vrs {ι : List Addr} {H : Hp} : ∀ {bs : List Bool} {vs : List V}, VRs K ι H vs (bs.map PV.bl) → vs = bs.map V.bl
  | [], _, h => by cases h; rfl
  | b :: bs, _, h => by
    cases h with
    | cons x t => cases x; rw [bools_vrs t]; rfl
def mAllB (m : ML) : ME := ⟨fun ps h Q => m.run ps h fun l h1 => ∃ bs : List Bool, l = bs.map PV.bl ∧ Q (.bl (bs.all id)) h1, fun f q => m.mono (fun _ _ ⟨bs, e, q⟩ => ⟨bs, e, f _ _ q⟩) q⟩
def mAnyB (m : ML) : ME := ⟨fun ps h Q => m.run ps h fun l h1 => ∃ bs : List Bool, l = bs.map PV.bl ∧ Q (.bl (bs.any id)) h1, fun f q => m.mono (fun _ _ ⟨bs, e, q⟩ => ⟨bs, e, f _ _ q⟩) q⟩
section
variable {p : Pos}
theorem q_all (K : PySem.W.Frag) (hK : X.K = K) {m : ML} (hc : X.calm = true) (hg : Gl X "all") (hm : X.mg "all" = none) (ha : PE X e (lL K m)) (he : starEach [e] X.env = (false, eval e X.env) :: starEach [] X.env := by rfl) (hpl : (backTo pos (starEach [] X.env)).any (·.1) = false := by rfl) :
    PE X (.Call (.Name "all" p) [e] [] pos) (lE K (mAllB m)) := PE.imp (pe_callB (call_allk K hK hc) hg hm boot_all (pa_cons ha pa_nil he) (by decide) (by decide) he hpl) fun σ H Q ⟨ι, ps, h, sr, hr, q⟩ =>
  ⟨ι, ps, h, sr, hr, m.mono (fun l h1 q1 ι1 a H1 g1 r1 n1 o1 => by
    obtain ⟨bs, rfl, q1⟩ := q1
    obtain ⟨_, vs, e1, e2⟩ := o1
    have := bools_vrs e2
    subst this
    exact ⟨a, bs, rfl, SqL.of e1, q1 ι1 _ H1 g1 r1 (.bl _)⟩) q⟩
end
/-- the list side of a source -/
def SqLs (K : PySem.W.Frag) (ι : List Addr) (H : Hp) (v : V) (S : Src) : Prop := ∃ a, v = .ref a ∧ ∀ ι' H' h', Go ι ι' H H' → HR K ι' H' h' → S.ok h' → ∃ vs, LsA K S H' a vs ∧ VRs K ι' H' vs S.items
/-- a source that is a list (not a tuple) -/
structure MQL where
  run : PSt → PH → (Src → PH → Prop) → Prop
  mono : ∀ {ps h} {Q Q' : Src → PH → Prop}, (∀ v h', Q v h' → Q' v h') → run ps h Q → run ps h Q'
def lQL (K : PySem.W.Frag) (m : MQL) : TE := fun σ H Q => ∃ ι ps h, SR K ι H σ ps ∧ HR K ι H h ∧ m.run ps h fun S h' => ∀ ι' v H', Go ι ι' H H' → HR K ι' H' h' → SqLs K ι' H' v S → S.ok h' → Q v H'
def mOwnL (m : ML) : MQL := ⟨fun ps h Q => m.run ps h fun l h1 => Q ⟨l, fun _ => True, false⟩ h1, fun hq q => m.mono (fun _ _ q => hq _ _ q) q⟩
theorem q_ownL (K : PySem.W.Frag) {m : ML} (h : PE X e (lL K m)) : PE X e (lQL K (mOwnL m)) := PE.imp h fun σ H Q ⟨ι, ps, h, sr, hr, q⟩ => by
  refine ⟨ι, ps, h, sr, hr, m.mono (fun l h1 q1 ι1 a H1 g1 r1 n1 o1 => ?_) q⟩
  refine q1 ι1 _ H1 g1 r1 ⟨a, rfl, fun ι2 H2 h2 g2 r2 _ => ?_⟩ trivial
  obtain ⟨n, vs, e, v⟩ := o1.go r1 g2
  exact ⟨vs, ⟨SqL.of e, fun _ => e⟩, v⟩
def mSqL (m : ME) : MQL := ⟨fun ps h Q => m.run ps h fun x h1 => match x with
    | .cl l => Q ⟨l, fun _ => True, true⟩ h1
    | .ref n => match h1[n]? with
      | some (.lst xs) => Q ⟨xs, fun h2 => h2[n]? = some (.lst xs), false⟩ h1
      | _ => False
    | _ => False, fun hq q => m.mono (fun x h1 q => by
  revert q
  split
  · exact hq _ _
  · split
    · exact hq _ _
    · exact fun z => z
  · exact fun z => z) q⟩
theorem q_sqL (K : PySem.W.Frag) {m : ME} (h : PE X e (lE K m)) : PE X e (lQL K (mSqL m)) := PE.imp h fun σ H Q ⟨ι, ps, h, sr, hr, q⟩ => by
  refine ⟨ι, ps, h, sr, hr, m.mono (fun x h1 q1 ι1 u1 H1 g1 r1 v1 => ?_) q⟩
  revert q1
  split
  · rename_i l
    intro q1
    cases v1 with
    | cl e vs => exact q1 ι1 _ H1 g1 r1 ⟨_, rfl, fun ι2 H2 h2 g2 r2 _ => ⟨_, ⟨((g2.tups r1).f _ _ e).sq, fun z => nomatch z⟩, g2.vrs r1 vs⟩⟩ trivial
  · rename_i n
    cases v1 with
    | @ref _ a e =>
    split
    · rename_i xs hn
      intro q1
      refine q1 ι1 _ H1 g1 r1 ⟨a, rfl, fun ι2 H2 h2 g2 r2 ok => ?_⟩ hn
      obtain ⟨vs, e1, e2⟩ := r2.obj n a _ (g2.at e) ok
      exact ⟨vs, ⟨SqL.of e1, fun _ => e1⟩, e2⟩
    · exact False.elim
  · exact False.elim
theorem SqLs.go {ι ι' : List Addr} {H H' : Hp} {v : V} {S : Src} (s : SqLs K ι H v S) (g : Go ι ι' H H') : SqLs K ι' H' v S := by
  obtain ⟨a, e, h⟩ := s
  exact ⟨a, e, fun i2 H2 h2 g2 r2 o2 => h i2 H2 h2 (g.trans g2) r2 o2⟩
def mCatL (a b : MQL) : ML := ⟨fun ps h Q => a.run ps h fun S h1 => b.run ps h1 fun T h2 => S.ok h2 ∧ S.fz = false ∧ T.fz = false ∧ S.items.length + T.items.length ≤ sizeLine ∧ Q (S.items ++ T.items) h2, fun f q => a.mono (fun _ _ q => b.mono (fun _ _ q => ⟨q.1, q.2.1, q.2.2.1, q.2.2.2.1, f _ _ q.2.2.2.2⟩) q) q⟩
theorem q_cat (K : PySem.W.Frag) (hK : X.K = K) {ma mb : MQL} (ha : PE X a (lQL K ma)) (hb : PE X b (lQL K mb)) : PE X (.BinOp a .Add b pos) (lL K (mCatL ma mb)) := PE.imp (pe_op (op_addk K hK) ha hb) fun σ H Q ⟨ι, ps, h, sr, hr, q⟩ => by
  refine ⟨ι, ps, h, sr, hr, ma.mono (fun S h1 q1 ι1 u1 H1 g1 r1 v1 ok => ?_) q⟩
  refine ⟨ι1, ps, h1, sr.go hr g1, r1, mb.mono (fun T h2 q2 ι2 u2 H2 g2 r2 v2 ok2 => ?_) q1⟩
  obtain ⟨o1, f1, f2, hl, q3⟩ := q2
  obtain ⟨a, rfl, hs⟩ := v1
  obtain ⟨b, rfl, ht⟩ := v2
  obtain ⟨vs, ⟨_, e1⟩, e2⟩ := hs ι2 H2 h2 g2 r2 o1
  obtain ⟨ws, ⟨_, e3⟩, e4⟩ := ht ι2 H2 h2 (Go.refl _ _) r2 ok2
  refine .inl ⟨b, vs, ws, rfl, e1 f1, e3 f2, by rw [e2.length, e4.length]; exact hl, fun p H3 s3 h3 n3 => ?_⟩
  obtain ⟨a1, a2, a3⟩ := Own.newO r2 s3 h3 n3 (e2.append e4)
  exact q3 ι2 p H3 ((g1.trans g2).trans a2) a1 ((g1.trans g2).free' r2 n3) a3
def mRevL (m : MQL) : ML := ⟨fun ps h Q => m.run ps h fun S h1 => Q S.items.reverse h1, fun f q => m.mono (fun _ _ q => f _ _ q) q⟩
theorem q_listrev (K : PySem.W.Frag) (hK : X.K = K) {m : MQL} {p1 p2 q1 q2 : Pos} (hc : X.calm = true) (hg1 : Gl X "list") (hm1 : X.mg "list" = none) (hg2 : Gl X "reversed") (hm2 : X.mg "reversed" = none) (he : PE X e (lQL K m))
    (hs1 : starEach [.Call (.Name "reversed" q1) [e] [] q2] X.env = (false, eval (.Call (.Name "reversed" q1) [e] [] q2) X.env) :: starEach [] X.env := by rfl) (hs2 : starEach [e] X.env = (false, eval e X.env) :: starEach [] X.env := by rfl) :
    PE X (.Call (.Name "list" p1) [.Call (.Name "reversed" q1) [e] [] q2] [] p2) (lL K (mRevL m)) := PE.imp (pe_listrev K hK hc hg1 hm1 hg2 hm2 he hs1 hs2) fun σ H Q ⟨ι, ps, h, sr, hr, q⟩ => by
  refine ⟨ι, ps, h, sr, hr, m.mono (fun S h1 q1 ι1 u1 H1 g1 r1 v1 ok => ?_) q⟩
  obtain ⟨a, rfl, hs⟩ := v1
  obtain ⟨vs, ⟨e1, _⟩, e2⟩ := hs ι1 H1 h1 (Go.refl _ _) r1 ok
  refine ⟨a, vs, rfl, e1, fun p H3 s3 h3 n3 => ?_⟩
  obtain ⟨a1, a2, a3⟩ := Own.newO r1 s3 h3 n3 e2.reverse
  exact q1 ι1 p H3 (g1.trans a2) a1 (g1.free' r1 n3) a3
structure MO where
  run : PSt → PH → (Option Int → PH → Prop) → Prop
  mono : ∀ {ps h} {Q Q' : Option Int → PH → Prop}, (∀ v h', Q v h' → Q' v h') → run ps h Q → run ps h Q'
def lO (K : PySem.W.Frag) (m : MO) : TO := fun σ H Q => ∃ ι ps h, SR K ι H σ ps ∧ HR K ι H h ∧ m.run ps h fun b h' => ∀ ι' H', Go ι ι' H H' → HR K ι' H' h' → Q b H'
def moNone : MO := ⟨fun _ h Q => Q none h, fun f q => f _ _ q⟩
def moSome (m : ME) : MO := ⟨fun ps h Q => m.run ps h fun x h1 => match x with | .int i => Q (some i) h1 | _ => False, fun f q => m.mono (fun x h1 q => by
  revert q
  split
  · exact f _ _
  · exact fun z => z) q⟩
theorem PO.imp {e : Option Expr} {t t' : TO} (h : L2.PO X e t) (f : ∀ σ H Q, t' σ H Q → t σ H Q) : L2.PO X e t' := fun pins s σ H Q I q => h pins s σ H Q I (f _ _ _ q)
theorem qo_none : L2.PO X none (lO K moNone) := PO.imp po_none fun σ H Q ⟨ι, ps, h, sr, hr, q⟩ => q ι H (Go.refl _ _) hr
theorem qo_some {m : ME} (h : PE X e (lE K m)) : L2.PO X (some e) (lO K (moSome m)) := PO.imp (po_some h) fun σ H Q ⟨ι, ps, h, sr, hr, q⟩ => by
  refine ⟨ι, ps, h, sr, hr, m.mono (fun x h1 q1 ι1 u1 H1 g1 r1 v1 => ?_) q⟩
  revert q1
  split
  · intro q1; cases v1; exact ⟨_, rfl, q1 ι1 H1 g1 r1⟩
  · exact False.elim
def cutP (xs : List PV) (lo hi : Option Int) : List PV := (xs.drop (HT.sIx xs.length 0 lo)).take (HT.sIx xs.length xs.length hi - HT.sIx xs.length 0 lo)
theorem VRs.cut {ι : List Addr} {H : Hp} {vs : List V} {l : List PV} (r : VRs K ι H vs l) (lo hi : Option Int) : VRs K ι H (cutV vs lo hi) (cutP l lo hi) := by
  unfold cutV cutP
  rw [r.length]
  exact (r.drop _).take _
def mSlL (m : MQL) (lo hi : MO) : ML := ⟨fun ps h Q => m.run ps h fun S h1 => lo.run ps h1 fun i h2 => hi.run ps h2 fun j h3 => S.ok h3 ∧ Q (cutP S.items i j) h3, fun f q => m.mono (fun _ _ q => lo.mono (fun _ _ q => hi.mono (fun _ _ q => ⟨q.1, f _ _ q.2⟩) q) q) q⟩
theorem q_slL (K : PySem.W.Frag) (hK : X.K = K) {m : MQL} {lo hi : MO} {el eh : Option Expr} {p2 : Pos} (he : PE X e (lQL K m)) (hl : L2.PO X el (lO K lo)) (hh : L2.PO X eh (lO K hi)) : PE X (.Subscript e (.Slice el eh none p2) pos) (lL K (mSlL m lo hi)) := PE.imp (pe_slice (sl_listk K hK) he hl hh) fun σ H Q ⟨ι, ps, h, sr, hr, q⟩ => by
  refine ⟨ι, ps, h, sr, hr, m.mono (fun S h1 q1 ι1 u1 H1 g1 r1 v1 ok => ?_) q⟩
  refine ⟨ι1, ps, h1, sr.go hr g1, r1, lo.mono (fun i h2 q2 ι2 H2 g2 r2 => ?_) q1⟩
  refine ⟨ι2, ps, h2, sr.go hr (g1.trans g2), r2, hi.mono (fun j h3 q3 ι3 H3 g3 r3 => ?_) q2⟩
  obtain ⟨a, rfl, hs⟩ := v1
  obtain ⟨vs, ⟨e1, _⟩, e2⟩ := hs ι3 H3 h3 (g2.trans g3) r3 q3.1
  refine ⟨a, vs, rfl, e1, fun p H4 s4 h4 n4 => ?_⟩
  obtain ⟨a1, a2, a3⟩ := Own.newO r3 s4 h4 n4 (e2.cut i j)
  exact q3.2 ι3 p H4 (((g1.trans g2).trans g3).trans a2) a1 (((g1.trans g2).trans g3).free' r3 n4) a3
def listAt (x : PV) (h : PH) : Prop := match x with | .ref n => (match h[n]? with | some (.lst _) => True | _ => False) | _ => False
theorem listAt.ty {ι : List Addr} {H : Hp} {h : PH} {v : V} {x : PV} (hr : HR K ι H h) (hv : VR K ι H v x) (hl : listAt x h) : tyV K "list" v H := by
  unfold listAt at hl
  cases hv with
  | @ref n a e =>
    dsimp only at hl
    revert hl
    split
    · rename_i xs hn
      intro _
      obtain ⟨vs, e1, e2⟩ := hr.obj n a _ e hn
      exact .inl ⟨rfl, vs, SqL.of e1⟩
    · exact False.elim
  | _ => exact hl.elim
structure MM where
  f : PV → List PV → PH → QV → Prop
  mono : ∀ {x l h} {Q Q' : QV}, (∀ v h', Q v h' → Q' v h') → f x l h Q → f x l h Q'
def MM.Ok (K : PySem.W.Frag) (r : V → List V → Hp → VK → Prop) (m : MM) : Prop := ∀ {ι H h v x vs l Q}, HR K ι H h → VR K ι H v x → VRs K ι H vs l → m.f x l h (pQ K ι H Q) → r v vs H Q
def mLM (M : MM) (o : ME) (as : MA) : ME := ⟨fun ps h Q => o.run ps h fun x h1 => listAt x h1 ∧ as.run ps h1 fun l h2 => M.f x l h2 Q, fun f q => o.mono (fun _ _ q => ⟨q.1, as.mono (fun _ _ q => M.mono f q) q.2⟩) q⟩
section
variable {name : Str} {apos cpos : Pos} {idn : String} {r : V → List V → Hp → VK → Prop}
theorem q_lm (K : PySem.W.Frag) (hK : X.K = K) {M : MM} {mo : ME} {as : MA} (slot : Slot "list" name idn) (hty : typeOf (.builtin idn) = pure (.type "method_descriptor")) (hm : MtR X idn r) (hM : MM.Ok K r M) (ho : PE X o (lE K mo)) (ha : PA X (e :: es) (lA K as))
    (hbase : attributeBase o name X.env (eval o X.env) = eval o X.env := by rfl)
    (hfew : ((backTo cpos (starEach (e :: es) X.env)).all (fun x => !x.1) && (backToKw cpos (keywordEach [] X.env)).all (fun x => x.1.isSome)
      && decide ((e :: es).length + ([] : List Keyword).length + (if ([] : List Keyword).isEmpty then 0 else 1) < 30)) = true := by rfl)
    (hline : (apos.endLine == cpos.line) = true := by rfl) (hs : starEach (e :: es) X.env = (false, eval e X.env) :: starEach es X.env := by rfl) (hplain : (backTo cpos (starEach es X.env)).any (·.1) = false := by rfl) :
    PE X (.Call (.Attribute o name apos) (e :: es) [] cpos) (lE K (mLM M mo as)) := PE.imp (pe_bmk K hK PySem.F.plainAttrs_list slot hty hm ho ha hbase hfew hline hs hplain) fun σ H Q ⟨ι, ps, h, sr, hr, q⟩ => by
  refine ⟨ι, ps, h, sr, hr, mo.mono (fun x h1 q1 ι1 u1 H1 g1 r1 v1 => ?_) q⟩
  refine ⟨q1.1.ty r1 v1, ι1, ps, h1, sr.go hr g1, r1, as.mono (fun l h2 q2 ι2 vs H2 g2 r2 v2 => ?_) q1.2⟩
  exact hM r2 (g2.vr r1 v1) v2 (M.mono (fun _ _ z => pQ.go (g1.trans g2) z) q2)
theorem q_lm0 (K : PySem.W.Frag) (hK : X.K = K) {M : MM} {mo : ME} (slot : Slot "list" name idn) (hty : typeOf (.builtin idn) = pure (.type "method_descriptor")) (hm : MtR X idn r) (hM : MM.Ok K r M) (ho : PE X o (lE K mo))
    (hbase : attributeBase o name X.env (eval o X.env) = eval o X.env := by rfl) (hline : (apos.endLine == cpos.line) = true := by rfl) :
    PE X (.Call (.Attribute o name apos) [] [] cpos) (lE K (mLM M mo mNil)) := PE.imp (pe_bm0k K hK PySem.F.plainAttrs_list slot hty hm ho hbase hline) fun σ H Q ⟨ι, ps, h, sr, hr, q⟩ => by
  refine ⟨ι, ps, h, sr, hr, mo.mono (fun x h1 q1 ι1 u1 H1 g1 r1 v1 => ?_) q⟩
  exact ⟨q1.1.ty r1 v1, hM r1 v1 .nil (M.mono (fun _ _ z => pQ.go g1 z) q1.2)⟩
/-- .. whose one argument is a sequence that is read -/
structure MMQ where
  f : PV → Src → PH → QV → Prop
  mono : ∀ {x l h} {Q Q' : QV}, (∀ v h', Q v h' → Q' v h') → f x l h Q → f x l h Q'
def MMQ.Ok (K : PySem.W.Frag) (r : V → List V → Hp → VK → Prop) (m : MMQ) : Prop := ∀ {ι H h v x u S Q}, HR K ι H h → VR K ι H v x → SqS K ι H u S → S.ok h → m.f x S h (pQ K ι H Q) → r v [u] H Q
def mLMQ (M : MMQ) (o : ME) (a : MQ) : ME := ⟨fun ps h Q => o.run ps h fun x h1 => listAt x h1 ∧ a.run ps h1 fun l h2 => M.f x l h2 Q, fun f q => o.mono (fun _ _ q => ⟨q.1, a.mono (fun _ _ q => M.mono f q) q.2⟩) q⟩
theorem q_lmQ (K : PySem.W.Frag) (hK : X.K = K) {M : MMQ} {mo : ME} {ma : MQ} (slot : Slot "list" name idn) (hty : typeOf (.builtin idn) = pure (.type "method_descriptor")) (hm : MtR X idn r) (hM : MMQ.Ok K r M) (ho : PE X o (lE K mo)) (ha : PE X e (lQ K ma))
    (hbase : attributeBase o name X.env (eval o X.env) = eval o X.env := by rfl)
    (hfew : ((backTo cpos (starEach [e] X.env)).all (fun x => !x.1) && (backToKw cpos (keywordEach [] X.env)).all (fun x => x.1.isSome)
      && decide ([e].length + ([] : List Keyword).length + (if ([] : List Keyword).isEmpty then 0 else 1) < 30)) = true := by rfl)
    (hline : (apos.endLine == cpos.line) = true := by rfl) (hs : starEach [e] X.env = (false, eval e X.env) :: starEach [] X.env := by rfl) (hplain : (backTo cpos (starEach [] X.env)).any (·.1) = false := by rfl) :
    PE X (.Call (.Attribute o name apos) [e] [] cpos) (lE K (mLMQ M mo ma)) := PE.imp (pe_bmk K hK PySem.F.plainAttrs_list slot hty hm ho (pa_cons ha pa_nil hs) hbase hfew hline hs hplain) fun σ H Q ⟨ι, ps, h, sr, hr, q⟩ => by
  refine ⟨ι, ps, h, sr, hr, mo.mono (fun x h1 q1 ι1 u1 H1 g1 r1 v1 => ?_) q⟩
  refine ⟨q1.1.ty r1 v1, ι1, ps, h1, sr.go hr g1, r1, ma.mono (fun l h2 q2 ι2 u2 H2 g2 r2 v2 ok => ?_) q1.2⟩
  exact hM r2 (g2.vr r1 v1) v2 ok (M.mono (fun _ _ z => pQ.go (g1.trans g2) z) q2)
end
def mmAppend : MM := ⟨fun x l h Q => match x, l with
  | .ref n, [y] => match h[n]? with | some (.lst xs) => xs.length < sizeLine ∧ Q .non (h.set n (.lst (xs ++ [y]))) | _ => False
  | _, _ => False, fun f q => by
    revert q
    split
    · split
      · exact fun q => ⟨q.1, f _ _ q.2⟩
      · exact fun z => z
    · exact fun z => z⟩
theorem mmAppend_ok : MM.Ok K rAppendN mmAppend := by
  intro ι H h v x vs l Q hr hv hl q
  unfold mmAppend at q
  dsimp only at q
  revert q
  split
  · rename_i n y
    cases hv with
    | @ref _ a e =>
    cases hl with
    | cons hy t =>
    cases t
    split
    · rename_i xs hn
      intro q
      obtain ⟨ws, e1, e2⟩ := hr.obj n a _ e hn
      refine ⟨a, ws, _, rfl, rfl, e1, by rw [e2.length]; exact q.1, fun H2 s2 h2 => ?_⟩
      obtain ⟨b1, b2, b3⟩ := hr.put (o := .lst (xs ++ [y])) e s2 fun ht => ⟨_, h2, (e2.append (.cons hy .nil)).mono ht fun _ _ e => e⟩
      exact q.2 ι _ H2 b2 b1 .non
    · exact False.elim
  · exact False.elim
def mmPop : MM := ⟨fun x l h Q => match x, l with
  | .ref n, [] => match h[n]? with | some (.lst xs) => (match xs.getLast? with | some y => Q y (h.set n (.lst xs.dropLast)) | none => False) | _ => False
  | _, _ => False, fun f q => by
    revert q
    split
    · split
      · split
        · exact f _ _
        · exact fun z => z
      · exact fun z => z
    · exact fun z => z⟩
theorem mmPop_ok : MM.Ok K rPopN mmPop := by
  intro ι H h v x vs l Q hr hv hl q
  unfold mmPop at q
  dsimp only at q
  revert q
  split
  · rename_i n
    cases hv with
    | @ref _ a e =>
    cases hl
    split
    · rename_i xs hn
      split
      · rename_i y hy
        intro q
        obtain ⟨ws, e1, e2⟩ := hr.obj n a _ e hn
        obtain ⟨zs, rfl⟩ : ∃ zs, xs = zs ++ [y] := List.getLast?_eq_some_iff.mp hy
        rw [List.dropLast_concat] at q
        have hne : ws ≠ [] := fun z => by have := e2.length; rw [z] at this; simp at this
        have ew : ws = ws.dropLast ++ [ws.getLast hne] := (List.dropLast_concat_getLast hne).symm
        have hz : VRs K ι H ws.dropLast zs ∧ VR K ι H (ws.getLast hne) y := by
          have hl2 := e2.length
          rw [List.length_append, List.length_singleton] at hl2
          have h1 := e2.take zs.length
          rw [List.take_left, show zs.length = ws.length - 1 by omega, ← List.dropLast_eq_take] at h1
          obtain ⟨v, g1, g2⟩ := e2.get (i := zs.length) (p := y) (by simp)
          refine ⟨h1, ?_⟩
          have : v = ws.getLast hne := by
            rw [List.getLast_eq_getElem]
            have g3 := List.getElem?_eq_some_iff.mp g1
            obtain ⟨g3, g4⟩ := g3
            rw [← g4]
            congr 1
            omega
          rw [← this]; exact g2
        refine ⟨a, ws.dropLast, ws.getLast hne, rfl, rfl, by rw [← ew]; exact e1, fun H2 s2 h2 => ?_⟩
        obtain ⟨b1, b2, b3⟩ := hr.put (o := .lst zs) e s2 fun ht => ⟨_, h2, hz.1.mono ht fun _ _ e => e⟩
        exact q ι _ H2 b2 b1 (b2.vr hr hz.2)
      · exact False.elim
    · exact False.elim
  · exact False.elim
/-- extend by a list or a tuple -/
def rExt (K : PySem.W.Frag) : V → List V → Hp → VK → Prop := fun x vs H Q => rExtendTN K x vs H Q ∨ rExtendLN x vs H Q
theorem mt_ext (K : PySem.W.Frag) (hK : X.K = K) : MtM X "list.extend" (rExt K) := by
  intro pins s σ H x xs v us Q I rx rv q
  rcases q with q | q
  · exact mt_extendTk K hK pins s σ H x xs v us Q I rx rv q
  · exact mt_extendLN pins s σ H x xs v us Q I rx rv q
def mmExtend : MMQ := ⟨fun x S h Q => match x with
  | .ref n => match h[n]? with | some (.lst xs) => S.fz = false ∧ xs.length + S.items.length ≤ sizeLine ∧ Q .non (h.set n (.lst (xs ++ S.items))) | _ => False
  | _ => False, fun f q => by
    revert q
    split
    · split
      · exact fun q => ⟨q.1, q.2.1, f _ _ q.2.2⟩
      · exact fun z => z
    · exact fun z => z⟩
theorem mmExtend_ok : MMQ.Ok K (rExt K) mmExtend := by
  intro ι H h v x u S Q hr hv hs ok q
  unfold mmExtend at q
  dsimp only at q
  revert q
  split
  · rename_i n
    cases hv with
    | @ref _ a e =>
    split
    · rename_i xs hn
      rintro ⟨f1, hl, q⟩
      obtain ⟨ws, e1, e2⟩ := hr.obj n a _ e hn
      obtain ⟨b, rfl, z | z⟩ := hs
      · obtain ⟨us, ⟨_, e3⟩, e4⟩ := z ι H h (Go.refl _ _) hr ok
        refine .inr ⟨a, b, ws, us, rfl, rfl, e1, e3 f1, by rw [e2.length, e4.length]; exact hl, fun H2 s2 h2 => ?_⟩
        obtain ⟨b1, b2, b3⟩ := hr.put (o := .lst (xs ++ S.items)) e s2 fun ht => ⟨_, h2, (e2.append e4).mono ht fun _ _ e => e⟩
        exact q ι _ H2 b2 b1 .non
      · obtain ⟨us, e3, e4⟩ := z ι H h (Go.refl _ _) hr ok
        refine .inl ⟨a, b, ws, us, rfl, rfl, e1, e3, by rw [e2.length, e4.length]; exact hl, fun H2 s2 h2 => ?_⟩
        obtain ⟨b1, b2, b3⟩ := hr.put (o := .lst (xs ++ S.items)) e s2 fun ht => ⟨_, h2, (e2.append e4).mono ht fun _ _ e => e⟩
        exact q ι _ H2 b2 b1 .non
    · exact False.elim
  · exact False.elim
end
end PL
set_option Elab.async false
set_option linter.all false
set_option maxRecDepth 100000
namespace PL
open PySem PySem.Spec PyProof.Rows L2
variable {K : PySem.W.Frag}
section
variable {X : Cx} {a b c e o tg : Expr} {es : List Expr} {pos p : Pos}
def intsV (lo : Int) (n : Nat) : List PV := (List.range n).map fun (i : Nat) => .int (lo + (i : Int))
theorem intsV_len (lo : Int) (n : Nat) : (intsV lo n).length = n := by unfold intsV; simp
theorem intsV_get {lo : Int} {n i : Nat} {p : PV} (h : (intsV lo n)[i]? = some p) : i < n ∧ p = .int (lo + i) := by
  unfold intsV at h
  rw [List.getElem?_map] at h
  cases z : (List.range n)[i]? with
  | none => rw [z] at h; cases h
  | some k =>
    rw [z] at h
    obtain ⟨h1, h2⟩ := List.getElem?_eq_some_iff.mp z
    simp at h1 h2
    subst h2
    exact ⟨h1, (Option.some.inj h).symm⟩
def downV (lo : Int) (n : Nat) : List PV := (List.range n).map fun (i : Nat) => .int (lo - (i : Int))
theorem downV_len (lo : Int) (n : Nat) : (downV lo n).length = n := by unfold downV; simp
theorem downV_get {lo : Int} {n i : Nat} {p : PV} (h : (downV lo n)[i]? = some p) : i < n ∧ p = .int (lo - i) := by
  unfold downV at h
  rw [List.getElem?_map] at h
  cases z : (List.range n)[i]? with
  | none => rw [z] at h; cases h
  | some k =>
    rw [z] at h
    obtain ⟨h1, h2⟩ := List.getElem?_eq_some_iff.mp z
    simp at h1 h2
    subst h2
    exact ⟨h1, (Option.some.inj h).symm⟩
def small62 (i : Int) : Prop := -(2 ^ 62) ≤ i ∧ i < 2 ^ 62
def mRange1 (m : MA) : MI := ⟨fun ps h Q => m.run ps h fun l h1 => match l with | [.int j] => small62 j ∧ Q ⟨intsV 0 j.toNat, fun _ => True, false⟩ h1 | _ => False, fun f q => m.mono (fun l h1 q => by
  revert q
  split
  · exact fun q => ⟨q.1, f _ _ q.2⟩
  · exact fun z => z) q⟩
theorem JS_int {ι : List Addr} {H : Hp} (lo : Int) (n : Nat) : JS K ι H (Itr lo n) ⟨intsV lo n, fun _ => True, false⟩ := fun ι' H' h' g r ok =>
  ⟨fun i p hp => by
    obtain ⟨h1, rfl⟩ := intsV_get hp
    refine ⟨h1, fun x H2 y => ?_⟩
    obtain ⟨rfl, rfl⟩ := y
    exact ⟨Same.refl _, .int _⟩, by show n ≤ (intsV lo n).length; rw [intsV_len]; exact Nat.le_refl _⟩
theorem qi_range1 {m : MA} (hg : Gl X "range") (hm : X.mg "range" = none) (ha : PA X [a] (lA K m)) (hs : starEach [a] X.env = [(false, eval a X.env)] := by rfl) : PI X tg (.Call (.Name "range" p) [a] [] pos) (lI K (mRange1 m)) := PI.imp (pi_range1 hg hm ha hs) fun σ H R ⟨ι, ps, h, sr, hr, q⟩ => by
  refine ⟨ι, ps, h, sr, hr, m.mono (fun l h1 q1 ι1 vs H1 g1 r1 v1 => ?_) q⟩
  revert q1
  split
  · intro q1
    cases v1 with
    | cons x t => cases t; cases x; exact ⟨_, rfl, q1.1.1, q1.1.2, q1.2 ι1 _ H1 g1 r1 (JS_int _ _)⟩
  · exact False.elim
def mRange2 (m : MA) : MI := ⟨fun ps h Q => m.run ps h fun l h1 => match l with | [.int i, .int j] => small62 i ∧ small62 j ∧ Q ⟨intsV i (j - i).toNat, fun _ => True, false⟩ h1 | _ => False, fun f q => m.mono (fun l h1 q => by
  revert q
  split
  · exact fun q => ⟨q.1, q.2.1, f _ _ q.2.2⟩
  · exact fun z => z) q⟩
theorem qi_range2 {m : MA} (hg : Gl X "range") (hm : X.mg "range" = none) (ha : PA X [a, b] (lA K m)) (hs : starEach [a, b] X.env = [(false, eval a X.env), (false, eval b X.env)] := by rfl) (hs2 : starEach [b] X.env = [(false, eval b X.env)] := by rfl) : PI X tg (.Call (.Name "range" p) [a, b] [] pos) (lI K (mRange2 m)) := PI.imp (pi_range2 hg hm ha hs hs2) fun σ H R ⟨ι, ps, h, sr, hr, q⟩ => by
  refine ⟨ι, ps, h, sr, hr, m.mono (fun l h1 q1 ι1 vs H1 g1 r1 v1 => ?_) q⟩
  revert q1
  split
  · intro q1
    cases v1 with
    | cons x t => cases t with
      | cons y t => cases t; cases x; cases y; exact ⟨_, _, rfl, ⟨q1.1.1, q1.1.2, q1.2.1.1, q1.2.1.2⟩, q1.2.2 ι1 _ H1 g1 r1 (JS_int _ _)⟩
  · exact False.elim
def mRange3 (m : MA) : MI := ⟨fun ps h Q => m.run ps h fun l h1 => match l with | [.int i, .int j, .int k] => k = -1 ∧ small62 i ∧ small62 j ∧ Q ⟨downV i (i - j).toNat, fun _ => True, false⟩ h1 | _ => False, fun f q => m.mono (fun l h1 q => by
  revert q
  split
  · exact fun q => ⟨q.1, q.2.1, q.2.2.1, f _ _ q.2.2.2⟩
  · exact fun z => z) q⟩
theorem qi_range3 {m : MA} (hg : Gl X "range") (hm : X.mg "range" = none) (ha : PA X [a, b, c] (lA K m)) (hs : starEach [a, b, c] X.env = [(false, eval a X.env), (false, eval b X.env), (false, eval c X.env)] := by rfl) (hs2 : starEach [b, c] X.env = [(false, eval b X.env), (false, eval c X.env)] := by rfl) : PI X tg (.Call (.Name "range" p) [a, b, c] [] pos) (lI K (mRange3 m)) := PI.imp (pi_range3 hg hm ha hs hs2) fun σ H R ⟨ι, ps, h, sr, hr, q⟩ => by
  refine ⟨ι, ps, h, sr, hr, m.mono (fun l h1 q1 ι1 vs H1 g1 r1 v1 => ?_) q⟩
  revert q1
  split
  · rintro ⟨rfl, q1, q2, q3⟩
    cases v1 with
    | cons x t => cases t with
      | cons y t => cases t with
        | cons z t =>
          cases t; cases x; cases y; cases z
          refine ⟨_, _, rfl, ⟨q1.1, q1.2, q2.1, q2.2⟩, q3 ι1 _ H1 g1 r1 fun ι' H' h' g r ok => ⟨fun i p hp => ?_, ?_⟩⟩
          · obtain ⟨h1, rfl⟩ := downV_get hp
            refine ⟨h1, fun x H2 y => ?_⟩
            obtain ⟨rfl, rfl⟩ := y
            exact ⟨Same.refl _, .int _⟩
          · exact Nat.le_of_eq (downV_len _ _).symm
  · exact False.elim
/-- a text's signs -/
def mSigns (m : ME) : MI := ⟨fun ps h Q => m.run ps h fun x h1 => match x with | .str z => Q ⟨z.cps.toList.map fun c => .str ⟨#[c]⟩, fun _ => True, false⟩ h1 | _ => False, fun f q => m.mono (fun l h1 q => by
  revert q
  split
  · exact f _ _
  · exact fun z => z) q⟩
def enumV (k : Nat) : List PV → List PV
  | [] => []
  | x :: l => .tup [.int (k : Int), x] :: enumV (k + 1) l
theorem enumV_len : ∀ (k : Nat) (l : List PV), (enumV k l).length = l.length
  | _, [] => rfl
  | k, x :: l => by rw [enumV, List.length_cons, List.length_cons, enumV_len]
theorem enumV_get : ∀ {k : Nat} {l : List PV} {i : Nat} {p : PV}, (enumV k l)[i]? = some p → ∃ x, l[i]? = some x ∧ p = .tup [.int ((k + i : Nat) : Int), x]
  | _, [], _, _, h => by simp [enumV] at h
  | k, x :: l, 0, p, h => by simp [enumV] at h; subst h; exact ⟨x, rfl, by simp⟩
  | k, x :: l, i + 1, p, h => by
    obtain ⟨y, h1, h2⟩ := enumV_get (k := k + 1) (l := l) (i := i) (p := p) (by simpa [enumV] using h)
    exact ⟨y, by simpa using h1, by rw [h2, show k + 1 + i = k + (i + 1) by omega]⟩
def mEnum (m : MQ) : MI := ⟨fun ps h Q => m.run ps h fun S h1 => Q ⟨enumV 0 S.items, S.ok, S.fz⟩ h1, fun f q => m.mono (fun _ _ q => f _ _ q) q⟩
def iEnumA (K : PySem.W.Frag) (t1 : TE) : TI := fun σ H R => t1 σ H fun x H1 => ∃ a, x = .ref a ∧ (((∃ xs, SqL K H1 a xs) ∧ R (Itel K a) H1) ∨ ((∃ xs, SqT K H1 a xs) ∧ R (Ite K a) H1))
theorem pi_enumA {X : Cx} (K : PySem.W.Frag) (hK : X.K = K) {e1 : Expr} {t1 : TE} {elts : List Expr} {kk : Nat} {tp p1 p2 : Pos} (hg : Gl X "enumerate") (hm : X.mg "enumerate" = none) (h1 : PE X e1 t1)
    (hs1 : starEach [e1] X.env = (false, eval e1 X.env) :: starEach [] X.env := by rfl) : PI X (.Tuple elts kk tp) (.Call (.Name "enumerate" p1) [e1] [] p2) (iEnumA K t1) := by
  subst hK
  intro pins s σ H R I h
  refine wpAny_Call_Name_kw (ld_blt I hg hm boot_enumerate ?_ (by decide) (by decide))
  refine PyProof.Rows.callWith_type1 ?_ hs1 rfl
  rw [hs1]
  show wpAny _ _ (spliced ((false, eval e1 X.env) :: backTo p2 (starEach [] X.env))) _ _ s
  refine Calls.spliced_cons (thn (h1 pins s σ H _ I h) fun u1 s1 ⟨x, H1, I1, r1, a, ex, hh⟩ => Calls.spliced_nil ?_)
  subst ex
  cases r1
  have d1 : s1.heap.objs.size + 1 ≠ s1.heap.objs.size := Nat.succ_ne_self _
  rcases hh with ⟨⟨xs, hx⟩, q⟩ | ⟨⟨xs, hx⟩, q⟩
  · obtain ⟨its, rx, tx, _⟩ := I1.list hx
    refine call_enumerate_list tx.isList fun h' ze hi _ k => ?_
    refine wpAny_pyIter_enum ze ?_
    refine ⟨_, _, _, _, H1, rfl, I1.kept (t' := s1.toks) k, turn_enumL d1, ⟨⟨_, ze⟩, hi⟩, fun c hc => ?_, q⟩
    have hle : s1.heap.objs.size ≤ c := by
      simp only [List.mem_cons, List.not_mem_nil, or_false] at hc
      rcases hc with rfl | rfl
      · exact Nat.le_add_right _ _
      · exact Nat.le_refl _
    exact I1.fpOk hle (I1.hok.fresh hle)
  · obtain ⟨its, rx, tx, _⟩ := I1.tuple hx
    have l1 : a < s1.heap.objs.size := let ⟨_, e, _⟩ := tx; Heap.lt_size e
    refine call_enumT tx fun h' ze hi k => ?_
    refine wpAny_pyIter_enum ze ?_
    refine ⟨_, _, _, _, H1, rfl, I1.kept (t' := s1.toks) k, turn_enum d1 (Nat.ne_of_lt (Nat.lt_of_lt_of_le l1 (Nat.le_add_right _ 1))) (Nat.ne_of_lt l1), ⟨⟨_, ze⟩, hi⟩, fun c hc => ?_, q⟩
    have hle : s1.heap.objs.size ≤ c := by
      simp only [List.mem_cons, List.not_mem_nil, or_false] at hc
      rcases hc with rfl | rfl
      · exact Nat.le_add_right _ _
      · exact Nat.le_refl _
    exact I1.fpOk hle (I1.hok.fresh hle)
theorem qi_enum (K : PySem.W.Frag) (hK : X.K = K) {m : MQ} {elts : List Expr} {kk : Nat} {tp p1 p2 : Pos} (hg : Gl X "enumerate") (hm : X.mg "enumerate" = none) (h : PE X e (lQ K m)) (hs1 : starEach [e] X.env = (false, eval e X.env) :: starEach [] X.env := by rfl) :
    PI X (.Tuple elts kk tp) (.Call (.Name "enumerate" p1) [e] [] p2) (lI K (mEnum m)) := PI.imp (pi_enumA K hK hg hm h hs1) fun σ H R ⟨ι, ps, h, sr, hr, q⟩ => by
  refine ⟨ι, ps, h, sr, hr, m.mono (fun S h1 q1 ι1 u1 H1 g1 r1 v1 ok => ?_) q⟩
  obtain ⟨a, rfl, hs | hs⟩ := v1
  · refine ⟨a, rfl, .inl ⟨let ⟨vs, h1, _⟩ := hs ι1 H1 h1 (Go.refl _ _) r1 ok; ⟨vs, h1.1⟩, q1 ι1 _ H1 g1 r1 fun ι2 H2 h2 g2 r2 ok2 => ?_⟩⟩
    obtain ⟨vs, ⟨e1, _⟩, e2⟩ := hs ι2 H2 h2 g2 r2 ok2
    refine ⟨fun i p hp => ?_, vs, e1, by rw [e2.length, enumV_len]; exact Nat.le_refl _⟩
    obtain ⟨y, hy, rfl⟩ := enumV_get hp
    obtain ⟨v, h3, h4⟩ := e2.get hy
    refine ⟨⟨vs, v, e1, h3⟩, fun x H3 z => ?_⟩
    obtain ⟨pp, x0, rfl, hn, rfl, hz⟩ := z
    have := hz vs e1
    rw [h3] at this
    cases this
    have sm := same_new hn (.tup [.int (i : Int), v])
    exact ⟨sm, .tup (SqT.of upd_same) (.cons (by rw [Nat.zero_add]; exact .int _) (.cons ((Go.same sm).vr r2 h4) .nil))⟩
  · refine ⟨a, rfl, .inr ⟨let ⟨vs, h1, _⟩ := hs ι1 H1 h1 (Go.refl _ _) r1 ok; ⟨vs, h1⟩, q1 ι1 _ H1 g1 r1 fun ι2 H2 h2 g2 r2 ok2 => ?_⟩⟩
    obtain ⟨vs, e1, e2⟩ := hs ι2 H2 h2 g2 r2 ok2
    refine ⟨fun i p hp => ?_, vs, e1, by rw [e2.length, enumV_len]; exact Nat.le_refl _⟩
    obtain ⟨y, hy, rfl⟩ := enumV_get hp
    obtain ⟨v, h3, h4⟩ := e2.get hy
    refine ⟨⟨vs, v, e1, h3⟩, fun x H3 z => ?_⟩
    obtain ⟨pp, x0, rfl, hn, rfl, hz⟩ := z
    have := hz vs e1
    rw [h3] at this
    cases this
    have sm := same_new hn (.tup [.int (i : Int), v])
    exact ⟨sm, .tup (SqT.of upd_same) (.cons (by rw [Nat.zero_add]; exact .int _) (.cons ((Go.same sm).vr r2 h4) .nil))⟩
def zipV : List PV → List PV → List PV
  | x :: l, y :: m => .tup [x, y] :: zipV l m
  | _, _ => []
theorem zipV_len : ∀ {l m : List PV}, l.length = m.length → (zipV l m).length = l.length
  | [], [], _ => rfl
  | x :: l, y :: m, h => by rw [zipV, List.length_cons, List.length_cons, zipV_len (by simpa using h)]
theorem zipV_get : ∀ {l m : List PV} {i : Nat} {p : PV}, (zipV l m)[i]? = some p → ∃ x y, l[i]? = some x ∧ m[i]? = some y ∧ p = .tup [x, y]
  | [], m, i, p, h => by simp [zipV] at h
  | x :: l, [], i, p, h => by simp [zipV] at h
  | x :: l, y :: m, 0, p, h => by simp [zipV] at h; subst h; exact ⟨x, y, rfl, rfl, rfl⟩
  | x :: l, y :: m, i + 1, p, h => by
    obtain ⟨u, w, h1, h2, h3⟩ := zipV_get (l := l) (m := m) (i := i) (p := p) (by simpa [zipV] using h)
    exact ⟨u, w, by simpa using h1, by simpa using h2, h3⟩
def mZip (a b : ME) : MI := ⟨fun ps h Q => a.run ps h fun x h1 => b.run ps h1 fun y h2 => match x, y with | .tup l, .tup m => l.length = m.length ∧ Q ⟨zipV l m, fun _ => True, false⟩ h2 | _, _ => False, fun f q => a.mono (fun _ _ q => b.mono (fun _ _ q => by
  revert q
  split
  · exact fun q => ⟨q.1, f _ _ q.2⟩
  · exact fun z => z) q) q⟩
theorem qi_zip (K : PySem.W.Frag) (hK : X.K = K) {ma mb : ME} {elts : List Expr} {kk : Nat} {tp p1 p2 : Pos} (hg : Gl X "zip") (hm : X.mg "zip" = none) (ha : PE X a (lE K ma)) (hb : PE X b (lE K mb))
    (hs1 : starEach [a, b] X.env = (false, eval a X.env) :: starEach [b] X.env := by rfl) (hs2 : starEach [b] X.env = (false, eval b X.env) :: starEach [] X.env := by rfl) (hpl : (backTo p2 (starEach [b] X.env)).any (·.1) = false := by rfl) :
    PI X (.Tuple elts kk tp) (.Call (.Name "zip" p1) [a, b] [] p2) (lI K (mZip ma mb)) := PI.imp (pi_zip K hK hg hm ha hb hs1 hs2 hpl) fun σ H R ⟨ι, ps, h, sr, hr, q⟩ => by
  refine ⟨ι, ps, h, sr, hr, ma.mono (fun x h1 q1 ι1 u1 H1 g1 r1 v1 => ?_) q⟩
  refine ⟨ι1, ps, h1, sr.go hr g1, r1, mb.mono (fun y h2 q2 ι2 u2 H2 g2 r2 v2 => ?_) q1⟩
  revert q2
  split
  · rename_i l m
    rintro ⟨hlen, q2⟩
    have v1' := g2.vr r1 v1
    cases v1' with
    | @tup pa vs _ e1 t1 =>
    cases v2 with
    | @tup pb ws _ e2 t2 =>
    refine ⟨pa, pb, rfl, rfl, ⟨_, e1⟩, ⟨_, e2⟩, q2 ι2 _ H2 (g1.trans g2) r2 fun ι3 H3 h3 g3 r3 ok3 => ?_⟩
    have f1 := (g3.tups r2).t _ _ e1
    have f2 := (g3.tups r2).t _ _ e2
    have t1' := g3.vrs r2 t1
    have t2' := g3.vrs r2 t2
    refine ⟨fun i p hp => ?_, vs, f1, by rw [t1.length]; show _ ≤ (zipV l m).length; rw [zipV_len hlen]; exact Nat.le_refl _⟩
    obtain ⟨x, y, hx, hy, rfl⟩ := zipV_get hp
    obtain ⟨v, h3', h4⟩ := t1'.get hx
    obtain ⟨w, h5, h6⟩ := t2'.get hy
    refine ⟨⟨vs, ws, v, w, f1, f2, h3', h5⟩, fun z H4 zz => ?_⟩
    obtain ⟨pp, x0, y0, rfl, hn, rfl, hz1, hz2⟩ := zz
    have k1 := hz1 vs f1
    have k2 := hz2 ws f2
    rw [h3'] at k1
    rw [h5] at k2
    cases k1
    cases k2
    have sm := same_new hn (.tup [v, w])
    exact ⟨sm, .tup (SqT.of upd_same) (.cons ((Go.same sm).vr r3 h4) (.cons ((Go.same sm).vr r3 h6) .nil))⟩
  · exact False.elim
end
end PL
set_option Elab.async false
set_option linter.all false
set_option maxRecDepth 100000
namespace PL
open PySem PySem.Spec PyProof.Rows L2
variable {K : PySem.W.Frag}
mutual
def PV.lim (n : Nat) : PV → Bool
  | .tup l => limL n l
  | .cl l => limL n l
  | .ref k => decide (k < n)
  | _ => true
def limL (n : Nat) : List PV → Bool
  | [] => true
  | x :: l => x.lim n && limL n l
end
def PO.lim (n : Nat) : PO → Bool
  | .lst xs => limL n xs
  | .dk kvs => limL n (kvs.map (·.2))
  | .dt kvs => limL n (kvs.map (·.2))
  | .opq _ => true
def limH (n : Nat) (h : PH) : Prop := ∀ o ∈ h, PO.lim n o = true
section
variable {ι m : List Addr} {H : Hp}
mutual
theorem VR.lim : ∀ {v : V} {p : PV}, VR K ι H v p → p.lim ι.length = true
  | _, _, .non => by rw [PV.lim] <;> simp
  | _, _, .bl _ => by rw [PV.lim] <;> simp
  | _, _, .int _ => by rw [PV.lim] <;> simp
  | _, _, .str _ => by rw [PV.lim] <;> simp
  | _, _, .ty _ => by rw [PV.lim] <;> simp
  | _, _, .tup _ r => by rw [PV.lim]; exact VRs.lim r
  | _, _, .cl _ r => by rw [PV.lim]; exact VRs.lim r
  | _, _, .ref e => by rw [PV.lim]; exact decide_eq_true (List.getElem?_eq_some_iff.mp e).1
theorem VRs.lim : ∀ {v : List V} {p : List PV}, VRs K ι H v p → limL ι.length p = true
  | _, _, .nil => by rw [limL]
  | _, _, .cons r t => by rw [limL, VR.lim r, VRs.lim t]; rfl
end
mutual
theorem VR.shrink : ∀ {v : V} {p : PV}, VR K (ι ++ m) H v p → p.lim ι.length = true → VR K ι H v p
  | _, _, .non, _ => .non
  | _, _, .bl b, _ => .bl b
  | _, _, .int i, _ => .int i
  | _, _, .str x, _ => .str x
  | _, _, .ty n, _ => .ty n
  | _, _, .tup h r, e => .tup h (VRs.shrink r (by rw [PV.lim] at e; exact e))
  | _, _, .cl h r, e => .cl h (VRs.shrink r (by rw [PV.lim] at e; exact e))
  | _, _, .ref h, e => .ref (by
    rw [PV.lim] at e
    have := of_decide_eq_true e
    rw [List.getElem?_append_left this] at h; exact h)
theorem VRs.shrink : ∀ {v : List V} {p : List PV}, VRs K (ι ++ m) H v p → limL ι.length p = true → VRs K ι H v p
  | _, _, .nil, _ => .nil
  | _, _, .cons r t, e => by
    rw [limL, Bool.and_eq_true] at e
    exact .cons (VR.shrink r e.1) (VRs.shrink t e.2)
end
theorem OR.shrink {a : Addr} {o : PO} (h : OR K (ι ++ m) H a o) (e : o.lim ι.length = true) : OR K ι H a o := by
  cases o with
  | lst xs => obtain ⟨vs, h1, h2⟩ := h; exact ⟨vs, h1, h2.shrink e⟩
  | dk xs => obtain ⟨vs, h1, h0, h2⟩ := h; exact ⟨vs, h1, h0, h2.shrink e⟩
  | dt xs => obtain ⟨vs, h1, h0, h2⟩ := h; exact ⟨vs, h1, h0, h2.shrink e⟩
  | opq φ => exact h
theorem OR.lim {a : Addr} {o : PO} (h : OR K ι H a o) : o.lim ι.length = true := by
  cases o with
  | lst xs => obtain ⟨vs, h1, h2⟩ := h; exact h2.lim
  | dk xs => obtain ⟨vs, h1, h0, h2⟩ := h; exact h2.lim
  | dt xs => obtain ⟨vs, h1, h0, h2⟩ := h; exact h2.lim
  | opq φ => rfl
theorem HR.lim {h : PH} (r : HR K ι H h) : limH h.length h := fun o ho => by
  obtain ⟨n, hn⟩ := List.getElem?_of_mem ho
  have hl := (List.getElem?_eq_some_iff.mp hn).1
  rw [← r.len] at hl
  rw [← r.len]
  exact (r.obj n _ o (List.getElem?_eq_getElem hl) hn).lim
theorem HR.shrink {h g : PH} (r : HR K (ι ++ m) H (h ++ g)) (hl : ι.length = h.length) (e : limH h.length h) : HR K ι H h := by
  refine ⟨(List.nodup_append.mp r.nd).1, hl, fun n a o e1 e2 => ?_⟩
  have n1 := (List.getElem?_eq_some_iff.mp e1).1
  have n2 := (List.getElem?_eq_some_iff.mp e2).1
  have := r.obj n a o (by rw [List.getElem?_append_left n1]; exact e1) (by rw [List.getElem?_append_left n2]; exact e2)
  exact this.shrink (by rw [hl]; exact e o (List.mem_of_getElem? e2))
end
theorem Go.shrink {ι m : List Addr} {H H' : Hp} (g : Go ι (ι ++ m) H H') : Go ι ι H H' := ⟨⟨[], by simp⟩, fun a h n => absurd h n, g.keep⟩
def exitV (n : Nat) (Q : QV) (v : PV) (h' : PH) : Prop := ∃ h0 g, h' = h0 ++ g ∧ h0.length = n ∧ v.lim n = true ∧ limH n h0 ∧ Q v h0
def exitD (n : Nat) (Q : QV) : PD := ⟨fun _ h' => exitV n Q .non h', exitV n Q, fun _ _ => False, fun _ _ => False⟩
def exitL (n : Nat) (Q : List PV → PH → Prop) (v : PV) (h' : PH) : Prop := ∃ k h0 g xs, v = .ref k ∧ n ≤ k ∧ h' = h0 ++ g ∧ h0.length = n ∧ h'[k]? = some (.lst xs) ∧ limL n xs = true ∧ limH n h0 ∧ Q xs h0
def exitLD (n : Nat) (Q : List PV → PH → Prop) : PD := ⟨fun _ _ => False, exitL n Q, fun _ _ => False, fun _ _ => False⟩
def begin (n : Nat) (l : List PV) : PSt := l.map some ++ List.replicate (n - l.length) none
theorem SR.begin {ι : List Addr} {H : Hp} {vs : List V} {l : List PV} (N : List Str) (r : VRs K ι H vs l) : SR K ι H (L2.start N vs) (begin N.length l) := by
  unfold L2.start PL.begin
  refine ⟨by simp [r.length], fun i p e => ?_⟩
  by_cases hi : i < l.length
  · rw [List.getElem?_append_left (by simpa using hi), List.getElem?_map] at e
    cases z : l[i]? with
    | none => rw [z] at e; cases e
    | some q =>
      rw [z] at e
      cases e
      obtain ⟨v, h1, h2⟩ := r.get z
      exact ⟨v, by rw [List.getElem?_append_left (by rw [List.length_map, r.length]; exact hi), List.getElem?_map, h1]; rfl, h2⟩
  · rw [List.getElem?_append_right (by simpa using hi)] at e
    rw [List.getElem?_replicate] at e
    split at e <;> cases e
section
variable {P : Program} {w : World} {mg : Str → Option Value} {base : Heap} {x qual : Str} {st : Stmt} {f : Addr} {fd : FuncData} {N ps : List Str} {k : Nat}
theorem fn_ok (Fn : Fun K x qual st f fd) (S : FnScope N ps (defScope st)) (F : MF) (body : MS) (hlen : ∀ l h Q, F.run l h Q → l.length = ps.length)
    (cert : ∀ (cdv : Value) (A : Around) (outer : List Env) (s : Shared) (H : Hp) (E : XK), Room k (A.deeper (envOfC qual (defScope st) s.heap.objs.size f cdv)) → PSs (cxOf CX0 P w K mg base N qual (defScope st) f cdv A outer s H E).nox (defBody st) (lS K body))
    (hF : ∀ l h Q, limH h.length h → limL h.length l = true → F.run l h Q → body.run (exitD h.length Q) (begin N.length l) h) : FnOk P w K mg base CX0 (k + 1) f fd ps (spOf K F) := by
  refine Fn.ok S (fun vs H Q E h => ?_) (fun cdv A outer s H vs Q E hr h => ?_)
  · obtain ⟨ι, h, l, hr, hv, q⟩ := h
    rw [hv.length]; exact hlen l h _ q
  obtain ⟨ι, h, l, hr', hv, q⟩ := h
  refine ⟨_, cert cdv A outer s H E hr, ι, begin N.length l, h, SR.begin N hv, hr', ?_⟩
  have fin : ∀ v h', exitV h.length (pQ K ι H Q) v h' → pQ K ι H Q v h' := fun v h' q ι' u H' g r vu => by
    obtain ⟨h0, gg, rfl, hl, lv, lh, q⟩ := q
    obtain ⟨m, e⟩ := g.ext
    subst e
    have hl' : ι.length = h0.length := by rw [hr'.len, hl]
    exact q ι u H' g.shrink (r.shrink hl' (by rw [hl]; exact lh)) (vu.shrink (by rw [hr'.len]; exact lv))
  refine body.le (hF l h _ hr'.lim (by rw [← hr'.len]; exact hv.lim) q) ⟨fun _ h' q ι' σ' H' g r s' => fin .non h' q ι' .non H' g r .non, fin, fun _ _ z => z.elim, fun _ _ z => z.elim⟩
theorem fnL_ok (Fn : Fun K x qual st f fd) (S : FnScope N ps (defScope st)) (F : MFL) (body : MS) (hlen : ∀ l h Q, F.run l h Q → l.length = ps.length)
    (cert : ∀ (cdv : Value) (A : Around) (outer : List Env) (s : Shared) (H : Hp) (E : XK), Room k (A.deeper (envOfC qual (defScope st) s.heap.objs.size f cdv)) → PSs (cxOf CX0 P w K mg base N qual (defScope st) f cdv A outer s H E).nox (defBody st) (lS K body))
    (hF : ∀ l h Q, limH h.length h → limL h.length l = true → F.run l h Q → body.run (exitLD h.length Q) (begin N.length l) h) : FnOk P w K mg base CX0 (k + 1) f fd ps (spL K F) := by
  refine Fn.ok S (fun vs H Q E h => ?_) (fun cdv A outer s H vs Q E hr h => ?_)
  · obtain ⟨ι, h, l, hr, hv, q⟩ := h
    rw [hv.length]; exact hlen l h _ q
  obtain ⟨ι, h, l, hr', hv, q⟩ := h
  refine ⟨_, cert cdv A outer s H E hr, ι, begin N.length l, h, SR.begin N hv, hr', ?_⟩
  refine body.le (hF l h _ hr'.lim (by rw [← hr'.len]; exact hv.lim) q) ⟨fun _ _ z => z.elim, fun v h' q ι' u H' g r vu => ?_, fun _ _ z => z.elim, fun _ _ z => z.elim⟩
  obtain ⟨n, h0, gg, xs, rfl, hn, rfl, hl, hx, lx, lh, q⟩ := q
  obtain ⟨m, e⟩ := g.ext
  subst e
  have hl' : ι.length = h0.length := by rw [hr'.len, hl]
  cases vu with
  | @ref _ a ea =>
  obtain ⟨vs, e1, e2⟩ := r.obj n a _ ea hx
  have na : a ∉ ι := fun z => by
    obtain ⟨j, hj⟩ := List.getElem?_of_mem z
    have j1 := (List.getElem?_eq_some_iff.mp hj).1
    have j2 : (ι ++ m)[j]? = some a := by rw [List.getElem?_append_left j1]; exact hj
    have k1 := List.getElem?_eq_some_iff.mp ea
    have k2 := List.getElem?_eq_some_iff.mp j2
    have := (List.getElem_inj r.nd).mp (k1.2.trans k2.2.symm)
    omega
  exact q ι a H' g.shrink (r.shrink hl' (by rw [hl]; exact lh)) (g.new a (List.mem_of_getElem? ea) na) ⟨na, vs, e1, e2.shrink (by rw [hr'.len]; exact lx)⟩
end
section
variable {X : Cx} {a b c e o : Expr} {pos : Pos}
def ipAdd : M2 := aI fun i j => .int (i + j)
def mAug (i : Nat) (m : ME) (M : M2) : MS := ⟨fun D ps h => match ps[i]? with | some (some x) => m.run ps h fun y h1 => M.f x y h1 fun z h2 => D.nx (ps.set i (some z)) h2 | _ => False, fun l q => by
  revert q
  split
  · exact m.mono fun _ _ q => M.mono (fun _ _ q => l.nx _ _ q) q
  · exact fun z => z⟩
theorem ip_ok {g : Int → Int → Int} : M2.Ok K (ipI g) (aI fun i j => .int (g i j)) := by
  intro ι H h u v x y Q hr hu hv q
  unfold aI at q
  dsimp only at q
  revert q
  split
  · intro q; cases hu; cases hv; exact ⟨_, _, rfl, rfl, q ι _ H (Go.refl _ _) hr (.int _)⟩
  · exact False.elim
def oGetL : M2 := ⟨fun x y h Q => match x, y with
  | .ref n, .int k => match h[n]? with | some (.lst xs) => (0 ≤ k ∧ k < 1000 ∧ match xs[k.toNat]? with | some v => Q v h | none => False) | _ => False
  | _, _ => False, fun f q => by
    revert q
    split
    · split
      · rintro ⟨k0, k1, q⟩
        refine ⟨k0, k1, ?_⟩
        revert q
        split
        · exact f _ _
        · exact fun z => z
      · exact fun z => z
    · exact fun z => z⟩
theorem oGetL_ok : M2.Ok K (rGetP K) oGetL := by
  intro ι H h u v x y Q hr hu hv q
  unfold oGetL at q
  dsimp only at q
  revert q
  split
  · rename_i n k
    cases hu with
    | @ref _ a ea =>
    cases hv
    split
    · rename_i xs hn
      rintro ⟨k0, k1, q⟩
      cases hp : xs[k.toNat]? with
      | none => rw [hp] at q; exact q.elim
      | some p =>
        rw [hp] at q
        obtain ⟨vs, e1, e2⟩ := hr.obj n a _ ea hn
        obtain ⟨v, e3, e4⟩ := e2.get hp
        exact ⟨a, vs, k, v, rfl, rfl, SqL.of e1, k0, k1, e3, q ι v H (Go.refl _ _) hr e4⟩
    · exact False.elim
  · exact False.elim
def mAugS (o i m : ME) (M : M2) : MS := ⟨fun D ps h => o.run ps h fun x h1 => i.run ps h1 fun y h2 => oGetL.f x y h2 fun z h3 => m.run ps h3 fun u h4 => M.f z u h4 fun w h5 => sList.f x y w h5 fun h6 => D.nx ps h6,
  fun l q => o.mono (fun _ _ q => i.mono (fun _ _ q => oGetL.mono (fun _ _ q => m.mono (fun _ _ q => M.mono (fun _ _ q => sList.mono (fun _ q => l.nx _ _ q) q) q) q) q) q) q⟩
theorem q_augS {i : Expr} {op : Operator} {tip : TIp} {tpos : Pos} {M : M2} {mo mi m : ME} (K : PySem.W.Frag) (hK : X.K = K) (ho : PE X o (lE K mo)) (hi : PE X i (lE K mi)) (hg : PGet X (rGetP K)) (he : PE X e (lE K m)) (hp : PIp X op tip) (hM : M2.Ok K tip M)
    (ha : ∀ ov iv new, augStore i ov iv new = (do holding [new, ov, iv] (setItem ov iv new); release [new, ov, iv] []; pure .next) := by intros; rfl) : PS X (.AugAssign (.Subscript o i tpos) op e pos) (lS K (mAugS mo mi m M)) := PS.imp (ps_augS ho hi hg he hp set_listN ha) fun D σ H ⟨ι, ps, h, sr, hr, q⟩ => by
  refine ⟨ι, ps, h, sr, hr, mo.mono (fun x h1 q1 ι1 u1 H1 g1 r1 v1 => ?_) q⟩
  refine ⟨ι1, ps, h1, sr.go hr g1, r1, mi.mono (fun y h2 q2 ι2 u2 H2 g2 r2 v2 => ?_) q1⟩
  refine oGetL_ok r2 (g2.vr r1 v1) v2 (oGetL.mono (fun z h3 q3 ι3 u3 H3 g3 r3 v3 => ?_) q2)
  refine ⟨ι3, ps, h3, sr.go hr ((g1.trans g2).trans g3), r3, m.mono (fun u h4 q4 ι4 u4 H4 g4 r4 v4 => ?_) q3⟩
  refine hM r4 (g4.vr r3 v3) v4 (M.mono (fun w h5 q5 ι5 u5 H5 g5 r5 v5 => ?_) q4)
  refine sList_ok r5 (((g2.trans g3).trans (g4.trans g5)).vr r1 v1) ((g3.trans (g4.trans g5)).vr r2 v2) v5 (sList.mono (fun h6 q6 H6 g6 r6 => ?_) q5)
  have gg := (((g1.trans g2).trans g3).trans (g4.trans g5)).trans g6
  exact q6 ι5 σ H6 gg r6 (sr.go hr gg)
/-- o[a:b] = a list of its own -/
def mSlSet (o lo hi : ME) (m : ML) : MS := ⟨fun D ps h => m.run ps h fun l h1 => o.run ps h1 fun x h2 => lo.run ps h2 fun i h3 => hi.run ps h3 fun j h4 => match x, i, j with
  | .ref n, .int a, .int c => (match h4[n]? with | some (.lst xs) => 0 ≤ a ∧ a ≤ c ∧ c ≤ xs.length ∧ xs.length + l.length ≤ sizeLine ∧ D.nx ps (h4.set n (.lst (xs.take a.toNat ++ l ++ xs.drop c.toNat))) | _ => False)
  | _, _, _ => False, fun l q => m.mono (fun _ _ q => o.mono (fun _ _ q => lo.mono (fun _ _ q => hi.mono (fun _ _ q => by
    revert q
    split
    · split
      · exact fun q => ⟨q.1, q.2.1, q.2.2.1, q.2.2.2.1, l.nx _ _ q.2.2.2.2⟩
      · exact fun z => z
    · exact fun z => z) q) q) q) q⟩
end
end PL
set_option Elab.async false
set_option linter.all false
set_option maxRecDepth 100000
namespace PL
open PySem PySem.Spec PyProof.Rows L2
structure JE (X : Cx) (K : PySem.W.Frag) (e : Expr) (m : ME) : Prop where p : PE X e (lE K m)
structure JT (X : Cx) (K : PySem.W.Frag) (e : Expr) (m : MT) : Prop where p : PT X e (lT K m)
structure JW (X : Cx) (K : PySem.W.Frag) (e : Expr) (m : MT) : Prop where p : PW X e (lT K m)
structure JA (X : Cx) (K : PySem.W.Frag) (e : List Expr) (m : MA) : Prop where p : PA X e (lA K m)
structure JL (X : Cx) (K : PySem.W.Frag) (e : Expr) (m : ML) : Prop where p : PE X e (lL K m)
structure JQ (X : Cx) (K : PySem.W.Frag) (e : Expr) (m : MQ) : Prop where p : PE X e (lQ K m)
structure JQL (X : Cx) (K : PySem.W.Frag) (e : Expr) (m : MQL) : Prop where p : PE X e (lQL K m)
structure JI (X : Cx) (K : PySem.W.Frag) (tg e : Expr) (m : MI) : Prop where p : PI X tg e (lI K m)
structure JG (X : Cx) (K : PySem.W.Frag) (e : Expr) (m : MG) : Prop where p : PG X e (lG K m)
structure JGs (X : Cx) (K : PySem.W.Frag) (e : List Expr) (m : MGs) : Prop where p : PGs X e (lGs K m)
structure JS' (X : Cx) (K : PySem.W.Frag) (e : Stmt) (m : MS) : Prop where p : PS X e (lS K m)
structure JSs (X : Cx) (K : PySem.W.Frag) (e : List Stmt) (m : MS) : Prop where p : PSs X e (lS K m)
structure JF (X : Cx) (K : PySem.W.Frag) (e : List Expr) (m : MT) : Prop where p : PFs X e (lT K m)
structure JO (X : Cx) (K : PySem.W.Frag) (e : Option Expr) (m : MO) : Prop where p : L2.PO X e (lO K m)
section
variable {X : Cx} {K : PySem.W.Frag} {a b c e o tg iter : Expr} {es rest : List Expr} {pos p p1 p2 p3 p4 : Pos}
theorem j_var (i : Nat) {x : Str} (hN : X.N[i]? = some x := by rfl) (hv : Vis X.env.scope x := by first | exact Or.inl rfl | exact Or.inr (Or.inl rfl) | exact Or.inr (Or.inr rfl)) (hd : (x == ("__debug__" : Str)) = false := by decide) (hcd : (x == ("__classdict__" : Str)) = false := by decide) : JE X K (.Name x pos) (mVar i) := ⟨q_var (pe_var hN hv hd hcd)⟩
theorem j_int {i j} : JE X K (.Constant (.int i) j pos) (mC (.int i)) := ⟨q_int⟩
theorem j_bl {b j} : JE X K (.Constant (.bool b) j pos) (mC (.bl b)) := ⟨q_bl⟩
theorem j_non {j} : JE X K (.Constant .none j pos) (mC .non) := ⟨q_non⟩
theorem j_str {x j} : JE X K (.Constant (.str x) j pos) (mC (.str x)) := ⟨q_str⟩
section
variable {ma mb mc : ME}
theorem j_add (hK : X.K = K) (ha : JE X K a ma) (hb : JE X K b mb) : JE X K (.BinOp a .Add b pos) (mOp oAdd ma mb) := ⟨q_op (op_addk K hK) (oAdd_ok K) ha.p hb.p⟩
theorem j_sub (ha : JE X K a ma) (hb : JE X K b mb) : JE X K (.BinOp a .Sub b pos) (mOp oSub ma mb) := ⟨q_op op_sub (aI_ok fun _ _ _ _ => .int _) ha.p hb.p⟩
theorem j_mul (ha : JE X K a ma) (hb : JE X K b mb) : JE X K (.BinOp a .Mult b pos) (mOp oMul ma mb) := ⟨q_op op_mulA (aIc_ok fun _ _ _ _ => .int _) ha.p hb.p⟩
theorem j_div (ha : JE X K a ma) (hb : JE X K b mb) : JE X K (.BinOp a .FloorDiv b pos) (mOp oDiv ma mb) := ⟨q_op op_fdiv (aIc_ok fun _ _ _ _ => .int _) ha.p hb.p⟩
theorem j_mod (ha : JE X K a ma) (hb : JE X K b mb) : JE X K (.BinOp a .Mod b pos) (mOp oMod ma mb) := ⟨q_op op_mod (aIc_ok fun _ _ _ _ => .int _) ha.p hb.p⟩
theorem j_pow (ha : JE X K a ma) (hb : JE X K b mb) : JE X K (.BinOp a .Pow b pos) (mOp oPow ma mb) := ⟨q_op op_pow (aIc_ok fun _ _ _ _ => .int _) ha.p hb.p⟩
def mNeg (m : ME) : ME := ⟨fun ps h Q => m.run ps h fun x h1 => match x with | .int i => Q (.int (-i)) h1 | _ => False, fun f q => m.mono (fun x h1 q => by
  revert q
  split
  · exact f _ _
  · exact fun z => z) q⟩
theorem j_neg (ha : JE X K a ma) : JE X K (.UnaryOp .USub a pos) (mNeg ma) := ⟨PE.imp (pe_un un_neg ha.p) fun σ H Q ⟨ι, ps, h, sr, hr, q⟩ => by
  refine ⟨ι, ps, h, sr, hr, ma.mono (fun x h1 q1 ι1 u1 H1 g1 r1 v1 => ?_) q⟩
  revert q1
  split
  · intro q1; cases v1; exact ⟨_, rfl, q1 ι1 _ H1 g1 r1 (.int _)⟩
  · exact False.elim⟩
/-- a comparison that is known -/
structure JC (X : Cx) (K : PySem.W.Frag) (op : CmpOp) (b : Expr) (m : M2) : Prop where
  p : ∃ r, OpR X (compareOp op) r ∧ M2.Ok K r m
  k : behindInMarks op b = false
theorem jc_lt : JC X K .Lt b oLt := ⟨⟨_, op_lt, aI_ok fun _ _ _ _ => .bl _⟩, nomark _⟩
theorem jc_gt : JC X K .Gt b oGt := ⟨⟨_, op_gt, aI_ok fun _ _ _ _ => .bl _⟩, nomark _⟩
theorem jc_ge : JC X K .GtE b oGe := ⟨⟨_, op_ge, aI_ok fun _ _ _ _ => .bl _⟩, nomark _⟩
theorem jc_eq (hK : X.K = K) (hu : X.A.units + 200 < cLine) : JC X K .Eq b oEq := ⟨⟨_, op_eqP K hK hu, oEq_ok⟩, nomark _⟩
theorem jc_ne (hK : X.K = K) (hu : X.A.units + 200 < cLine) : JC X K .NotEq b oNe := ⟨⟨_, op_neP K hK hu, oNe_ok⟩, nomark _⟩
theorem jc_isN : JC X K .Is b oIsN := ⟨⟨_, op_isN, oIsN_ok⟩, nomark _⟩
variable {op op' : CmpOp} {m m' : M2}
theorem j_cmp (hc : JC X K op b m) (ha : JE X K a ma) (hb : JE X K b mb) : JE X K (.Compare a [op] [b] pos) (mOp m ma mb) := let ⟨_, h1, h2⟩ := hc.p; ⟨q_cmp h1 h2 ha.p hb.p hc.k⟩
theorem jt_cmp (hc : JC X K op b m) (ha : JE X K a ma) (hb : JE X K b mb) : JT X K (.Compare a [op] [b] pos) (mB (mOp m ma mb)) := let ⟨_, h1, h2⟩ := hc.p; ⟨q_tcmp h1 h2 ha.p hb.p hc.k⟩
variable {mq : MQ}
theorem jt_notIn (hK : X.K = K) (hu : X.A.units + 200 < cLine) (ha : JE X K a ma) (hb : JQ X K b mq) (hk : behindInMarks .NotIn b = false := by rfl) : JT X K (.Compare a [.NotIn] [b] pos) (mB (mOpQ oNotIn ma mq)) := ⟨q_tcmpQ (op_notInP K hK hu) (oNotIn_ok K) ha.p hb.p hk⟩
theorem j_and (ha : JE X K a ma) (hb : JE X K (.BoolOp .And (b :: rest) pos) mb) : JE X K (.BoolOp .And (a :: b :: rest) pos) (mAndV ma mb) := ⟨q_and ha.p hb.p⟩
theorem j_one {op} (h : JE X K a ma) : JE X K (.BoolOp op [a] pos) ma := ⟨q_one h.p⟩
theorem j_not (h : JE X K a ma) : JE X K (.UnaryOp .Not a pos) (mNotV ma) := ⟨q_not h.p⟩
end
section
variable {ma mb : ME} {mt mt' : MT}
theorem jw_and1 (h : JT X K a mt) : JW X K (.BoolOp .And [a] pos) mt := ⟨qw_and1 h.p⟩
theorem jw_or1 (h : JT X K a mt) : JW X K (.BoolOp .Or [a] pos) mt := ⟨qw_or1 h.p⟩
theorem jw_and (ha : JT X K a mt) (hb : JW X K (.BoolOp .And (b :: rest) pos) mt') : JW X K (.BoolOp .And (a :: b :: rest) pos) (mAndT mt mt') := ⟨qw_and ha.p hb.p⟩
theorem jw_or (ha : JT X K a mt) (hb : JW X K (.BoolOp .Or (b :: rest) pos) mt') : JW X K (.BoolOp .Or (a :: b :: rest) pos) (mOrT mt mt') := ⟨qw_or ha.p hb.p⟩
theorem JW.t (h : JW X K a mt) : JT X K a mt := ⟨PW.pt h.p⟩
theorem jt_not (h : JT X K a mt) : JT X K (.UnaryOp .Not a pos) (mNotT mt) := ⟨qt_not h.p⟩
theorem jt_tru (hK : X.K = K) (h : JE X K a ma) (he : ∀ whole, isTrue a X.env whole = (do let v ← whole; standAt a.pos; holding [v] (truthy v))) : JT X K a (mTru ma) := ⟨qt_tru K hK h.p he⟩
theorem j_if (hc : JT X K c mt) (ha : JE X K a ma) (hb : JE X K b mb) : JE X K (.IfExp c a b pos) (mIf mt ma mb) := ⟨q_if hc.p ha.p hb.p⟩
end
section
variable {m : ME} {r : MA} {l : ML} {q : MQ} {ql ql' : MQL} {mi : ME}
theorem ja_nil : JA X K [] mNil := ⟨qa_nil⟩
theorem ja_cons (ha : JE X K e m) (hr : JA X K es r) (hs : starEach (e :: es) X.env = (false, eval e X.env) :: starEach es X.env := by rfl) : JA X K (e :: es) (mCons m r) := ⟨qa_cons ha.p hr.p hs⟩
theorem j_tup {x1} (h : JA X K es r) : JE X K (.Tuple es x1 pos) (mTup r) := ⟨q_tup h.p⟩
theorem jl_lst (h : JA X K es r) : JL X K (.List es pos) (mLst r) := ⟨q_lst h.p⟩
theorem j_alloc (h : JL X K e l) : JE X K e (mAlloc l) := ⟨q_alloc h.p⟩
theorem jq_own (h : JL X K e l) : JQ X K e (mOwn l) := ⟨q_own K h.p⟩
theorem jq_sq (h : JE X K e m) : JQ X K e (mSq m) := ⟨q_sq K h.p⟩
theorem jql_own (h : JL X K e l) : JQL X K e (mOwnL l) := ⟨q_ownL K h.p⟩
theorem jql_sq (h : JE X K e m) : JQL X K e (mSqL m) := ⟨q_sqL K h.p⟩
theorem j_ix (hK : X.K = K) (ha : JQ X K a q) (hb : JE X K b mi) (hs : PlainIx b) : JE X K (.Subscript a b pos) (mIx q mi) := ⟨q_ixQ K hK ha.p hb.p hs⟩
theorem j_ixS (ha : JE X K a m) (hb : JE X K b mi) (hs : PlainIx b) : JE X K (.Subscript a b pos) (mOp oIxS m mi) := ⟨q_ixS ha.p hb.p hs⟩
theorem jl_cat (hK : X.K = K) (ha : JQL X K a ql) (hb : JQL X K b ql') : JL X K (.BinOp a .Add b pos) (mCatL ql ql') := ⟨q_cat K hK ha.p hb.p⟩
theorem jl_rev (hK : X.K = K) (hc : X.calm = true) (hg1 : Gl X "list") (hm1 : X.mg "list" = none) (hg2 : Gl X "reversed") (hm2 : X.mg "reversed" = none) (he : JQL X K e ql)
    (hs1 : starEach [.Call (.Name "reversed" p3) [e] [] p4] X.env = (false, eval (.Call (.Name "reversed" p3) [e] [] p4) X.env) :: starEach [] X.env := by rfl) (hs2 : starEach [e] X.env = (false, eval e X.env) :: starEach [] X.env := by rfl) :
    JL X K (.Call (.Name "list" p1) [.Call (.Name "reversed" p3) [e] [] p4] [] p2) (mRevL ql) := ⟨q_listrev K hK hc hg1 hm1 hg2 hm2 he.p hs1 hs2⟩
theorem jo_none : JO X K none moNone := ⟨qo_none⟩
theorem jo_some (h : JE X K e m) : JO X K (some e) (moSome m) := ⟨qo_some h.p⟩
variable {lo hi : MO} {el eh : Option Expr}
theorem jl_sl (hK : X.K = K) (he : JQL X K e ql) (hl : JO X K el lo) (hh : JO X K eh hi) : JL X K (.Subscript e (.Slice el eh none p2) pos) (mSlL ql lo hi) := ⟨q_slL K hK he.p hl.p hh.p⟩
section
variable {k k' : Nat} {ps : List Str} {x : Str}
theorem j_call {F : MF} (G : Cal X.prog X.w X.K X.mg X.base x k ps (spOf K F)) (hr : Room k' X.A) (hk : k ≤ k') (hg : Gl X x) (ha : JA X K (e :: es) r) (hdb : (x == ("__debug__" : Str)) = false := by decide)
    (he : starEach (e :: es) X.env = (false, eval e X.env) :: starEach es X.env := by rfl) (hpl : (backTo pos (starEach es X.env)).any (·.1) = false := by rfl) : JE X K (.Call (.Name x p) (e :: es) [] pos) (mCall F r) := ⟨q_call G hr hk hg ha.p hdb he hpl⟩
theorem jl_call {F : MFL} (G : Cal X.prog X.w X.K X.mg X.base x k ps (spL K F)) (hr : Room k' X.A) (hk : k ≤ k') (hg : Gl X x) (ha : JA X K (e :: es) r) (hdb : (x == ("__debug__" : Str)) = false := by decide)
    (he : starEach (e :: es) X.env = (false, eval e X.env) :: starEach es X.env := by rfl) (hpl : (backTo pos (starEach es X.env)).any (·.1) = false := by rfl) : JL X K (.Call (.Name x p) (e :: es) [] pos) (mCallL F r) := ⟨q_callL G hr hk hg ha.p hdb he hpl⟩
end
section
variable (he : starEach [e] X.env = (false, eval e X.env) :: starEach [] X.env) (hpl : (backTo pos (starEach [] X.env)).any (·.1) = false)
include he hpl
theorem j_len' (hK : X.K = K) (hg : Gl X "len") (hm : X.mg "len" = none) (ha : JE X K e m) : JE X K (.Call (.Name "len" p) [e] [] pos) (mBi bLen (mCons m mNil)) := ⟨q_callB (call_lenk K hK) (bLen_ok K) hg hm boot_len (qa_cons ha.p qa_nil he) (by decide) (by decide) he hpl⟩
theorem j_abs' (hg : Gl X "abs") (hm : X.mg "abs" = none) (ha : JE X K e m) : JE X K (.Call (.Name "abs" p) [e] [] pos) (mBi bAbs (mCons m mNil)) := ⟨q_callB call_abs bAbs_ok hg hm boot_abs (qa_cons ha.p qa_nil he) (by decide) (by decide) he hpl⟩
theorem j_toInt' (hg : Gl X "int") (hm : X.mg "int" = none) (ha : JE X K e m) : JE X K (.Call (.Name "int" p) [e] [] pos) (mBi bInt (mCons m mNil)) := ⟨q_callTy call_int1 bInt_ok hg hm boot_int (qa_cons ha.p qa_nil he) (by decide) (by decide) he hpl⟩
theorem j_tuple' (hK : X.K = K) (hg : Gl X "tuple") (hm : X.mg "tuple" = none) (ha : JQ X K e q) : JE X K (.Call (.Name "tuple" p) [e] [] pos) (mBiQ bTup q) := ⟨q_callTyQ (call_tupT K hK) (bTup_ok K) hg hm boot_tuple ha.p (by decide) (by decide) he hpl⟩
theorem j_all' (hK : X.K = K) (hc : X.calm = true) (hg : Gl X "all") (hm : X.mg "all" = none) (ha : JL X K e l) : JE X K (.Call (.Name "all" p) [e] [] pos) (mAllB l) := ⟨q_all K hK hc hg hm ha.p he hpl⟩
end
theorem j_max (hc : X.calm = true) (hg : Gl X "max") (hm : X.mg "max" = none) (ha : JA X K [a, b] r) (he : starEach [a, b] X.env = (false, eval a X.env) :: starEach [b] X.env := by rfl) (hpl : (backTo pos (starEach [b] X.env)).any (·.1) = false := by rfl) : JE X K (.Call (.Name "max" p) [a, b] [] pos) (mBi bMax r) := ⟨q_callB (call_max2 hc) bMax_ok hg hm boot_max ha.p (by decide) (by decide) he hpl⟩
theorem j_min (hc : X.calm = true) (hg : Gl X "min") (hm : X.mg "min" = none) (ha : JA X K [a, b] r) (he : starEach [a, b] X.env = (false, eval a X.env) :: starEach [b] X.env := by rfl) (hpl : (backTo pos (starEach [b] X.env)).any (·.1) = false := by rfl) : JE X K (.Call (.Name "min" p) [a, b] [] pos) (mBi bMin r) := ⟨q_callB (call_min2 hc) bMin_ok hg hm boot_min ha.p (by decide) (by decide) he hpl⟩
section
variable (he : starEach [a, .Name x p2] X.env = (false, eval a X.env) :: starEach [.Name x p2] X.env) (he2 : starEach [Expr.Name x p2] X.env = (false, eval (.Name x p2) X.env) :: starEach [] X.env) (hpl : (backTo pos (starEach [Expr.Name x p2] X.env)).any (·.1) = false)
end
theorem j_isi (hK : X.K = K) (k : Kd) {x : Str} (hg : Gl X "isinstance") (hm : X.mg "isinstance" = none) (ha : JE X K a m) (hgx : Gl X x) (hmx : X.mg x = none) (hv : bootBuiltins x = some (.type k.name)) (hn : x ≠ "__name__" := by decide) (hd : (x == ("__debug__" : Str)) = false := by decide)
    (he : starEach [a, .Name x p2] X.env = (false, eval a X.env) :: starEach [.Name x p2] X.env := by rfl) (he2 : starEach [Expr.Name x p2] X.env = (false, eval (.Name x p2) X.env) :: starEach [] X.env := by rfl)
    (hpl : (backTo pos (starEach [Expr.Name x p2] X.env)).any (·.1) = false := by rfl) : JE X K (.Call (.Name "isinstance" p) [a, .Name x p2] [] pos) (mIsi k m) := ⟨q_isi K hK k hg hm ha.p (pe_bltn hgx hmx hv rfl hn hd) he he2 hpl⟩
section
variable {apos cpos : Pos} {mo : ME}
theorem j_append (hK : X.K = K) (ho : JE X K o mo) (ha : JE X K e m) (hbase : attributeBase o "append" X.env (eval o X.env) = eval o X.env := by rfl)
    (hfew : ((backTo cpos (starEach [e] X.env)).all (fun x => !x.1) && (backToKw cpos (keywordEach [] X.env)).all (fun x => x.1.isSome)
      && decide ([e].length + ([] : List Keyword).length + (if ([] : List Keyword).isEmpty then 0 else 1) < 30)) = true := by rfl)
    (hline : (apos.endLine == cpos.line) = true := by rfl) (hs : starEach [e] X.env = (false, eval e X.env) :: starEach [] X.env := by rfl) (hplain : (backTo cpos (starEach [] X.env)).any (·.1) = false := by rfl) :
    JE X K (.Call (.Attribute o "append" apos) [e] [] cpos) (mLM mmAppend mo (mCons m mNil)) := ⟨q_lm K hK PySem.F.slot_list_append PySem.F.type_list_append mt_appendN mmAppend_ok ho.p (qa_cons ha.p qa_nil hs) hbase hfew hline hs hplain⟩
theorem j_pop (hK : X.K = K) (ho : JE X K o mo) (hbase : attributeBase o "pop" X.env (eval o X.env) = eval o X.env := by rfl) (hline : (apos.endLine == cpos.line) = true := by rfl) :
    JE X K (.Call (.Attribute o "pop" apos) [] [] cpos) (mLM mmPop mo mNil) := ⟨q_lm0 K hK PySem.F.slot_list_pop PySem.F.type_list_pop mt_popN mmPop_ok ho.p hbase hline⟩
theorem j_extend (hK : X.K = K) (ho : JE X K o mo) (ha : JQ X K e q) (hbase : attributeBase o "extend" X.env (eval o X.env) = eval o X.env := by rfl)
    (hfew : ((backTo cpos (starEach [e] X.env)).all (fun x => !x.1) && (backToKw cpos (keywordEach [] X.env)).all (fun x => x.1.isSome)
      && decide ([e].length + ([] : List Keyword).length + (if ([] : List Keyword).isEmpty then 0 else 1) < 30)) = true := by rfl)
    (hline : (apos.endLine == cpos.line) = true := by rfl) (hs : starEach [e] X.env = (false, eval e X.env) :: starEach [] X.env := by rfl) (hplain : (backTo cpos (starEach [] X.env)).any (·.1) = false := by rfl) :
    JE X K (.Call (.Attribute o "extend" apos) [e] [] cpos) (mLMQ mmExtend mo q) := ⟨q_lmQ K hK PySem.F.slot_list_extend PySem.F.type_list_extend (mt_ext K hK) mmExtend_ok ho.p ha.p hbase hfew hline hs hplain⟩
end
end
section
variable {m ma mb : ME} {r : MA} {q : MQ} {elts : List Expr} {kk : Nat} {tp : Pos}
theorem ji_seq (hK : X.K = K) (h : JQ X K e q) : JI X K tg e (mWalk q) := ⟨qi_seq K hK h.p⟩
theorem ji_range1 (hg : Gl X "range") (hm : X.mg "range" = none) (ha : JA X K [a] r) (hs : starEach [a] X.env = [(false, eval a X.env)] := by rfl) : JI X K tg (.Call (.Name "range" p) [a] [] pos) (mRange1 r) := ⟨qi_range1 hg hm ha.p hs⟩
theorem ji_range2 (hg : Gl X "range") (hm : X.mg "range" = none) (ha : JA X K [a, b] r) (hs : starEach [a, b] X.env = [(false, eval a X.env), (false, eval b X.env)] := by rfl) (hs2 : starEach [b] X.env = [(false, eval b X.env)] := by rfl) : JI X K tg (.Call (.Name "range" p) [a, b] [] pos) (mRange2 r) := ⟨qi_range2 hg hm ha.p hs hs2⟩
theorem ji_range3 (hg : Gl X "range") (hm : X.mg "range" = none) (ha : JA X K [a, b, c] r) (hs : starEach [a, b, c] X.env = [(false, eval a X.env), (false, eval b X.env), (false, eval c X.env)] := by rfl) (hs2 : starEach [b, c] X.env = [(false, eval b X.env), (false, eval c X.env)] := by rfl) : JI X K tg (.Call (.Name "range" p) [a, b, c] [] pos) (mRange3 r) := ⟨qi_range3 hg hm ha.p hs hs2⟩
theorem ji_enum (hK : X.K = K) (hg : Gl X "enumerate") (hm : X.mg "enumerate" = none) (h : JQ X K e q) (hs1 : starEach [e] X.env = (false, eval e X.env) :: starEach [] X.env := by rfl) : JI X K (.Tuple elts kk tp) (.Call (.Name "enumerate" p1) [e] [] p2) (mEnum q) := ⟨qi_enum K hK hg hm h.p hs1⟩
theorem ji_zip (hK : X.K = K) (hg : Gl X "zip") (hm : X.mg "zip" = none) (ha : JE X K a ma) (hb : JE X K b mb) (hs1 : starEach [a, b] X.env = (false, eval a X.env) :: starEach [b] X.env := by rfl) (hs2 : starEach [b] X.env = (false, eval b X.env) :: starEach [] X.env := by rfl) (hpl : (backTo p2 (starEach [b] X.env)).any (·.1) = false := by rfl) :
    JI X K (.Tuple elts kk tp) (.Call (.Name "zip" p1) [a, b] [] p2) (mZip ma mb) := ⟨qi_zip K hK hg hm ha.p hb.p hs1 hs2 hpl⟩
theorem jg_name {i : Nat} {x : Str} (hN : X.N.Nodup) (hi : X.N[i]? = some x) (hx : Loc X.env.scope x) (hf : X.fn x = true ∨ X.env.scope.names.lookup x = some .local := by first | exact .inl rfl | exact .inr rfl | assumption) : JG X K (.Name x pos) (gSet i) := ⟨qg_name (pg_name hN hi hx hf)⟩
variable {g : MG} {gs : MGs}
theorem jgs_nil : JGs X K [] gsNil := ⟨qgs_nil⟩
theorem jgs_cons (h1 : JG X K e g) (h2 : JGs X K es gs) (hs : (assignEach (e :: es) X.env).map (·.2) = assign e X.env :: (assignEach es X.env).map (·.2) := by rfl) : JGs X K (e :: es) (gsCons g gs) := ⟨qgs_cons h1.p h2.p hs⟩
theorem jg_tup (hK : X.K = K) {k n : Nat} (hc : X.calm = true) (h : JGs X K es gs) (hn : (assignEach es X.env).length = n := by rfl) (hst : (assignEach es X.env).findIdx? (·.1) = none := by rfl) : JG X K (.Tuple es k pos) (gTupM n gs) := ⟨qg_tup K hK hc h.p hn hst⟩
theorem jg_sub {mo mi : ME} {i : Expr} (ho : JE X K o mo) (hi : JE X K i mi) (ha : ∀ v, assign (.Subscript o i pos) X.env v = (do
      let ov ← holding [v] (eval o X.env)
      let iv ← holding [v, ov] (eval i X.env)
      standAt pos
      holding [v, ov, iv] (setItem ov iv v)
      release [v, ov, iv] []) := by intro _; rfl) : JG X K (.Subscript o i pos) (gSubM mo mi sList) := ⟨qg_sub ho.p hi.p set_listN sList_ok ha⟩
end
section
variable {elt : Expr} {ifs : List Expr} {sc : Scope} {N' : List Str} {ix : List (Option Nat)} {mi : MI} {g : MG} {tf : MT} {te : ME} {mt : MT}
theorem jf_nil : JF X K [] mAll := ⟨qfs_nil⟩
theorem jf_one (h : JT X K c mt) : JF X K [c] mt := ⟨qfs_one h.p⟩
theorem jl_lc (hc : X.calm = true) (S : LcScope X.env.scope X.N sc N' ix) (hi : JI X K tg iter mi)
    (hg : ∀ cl C s2 H2 fp, JG (blk X sc N' cl C s2 H2 fp) K tg g) (hf : ∀ cl C s2 H2 fp, JF (blk X sc N' cl C s2 H2 fp) K ifs tf) (he : ∀ cl C s2 H2 fp, JE (blk X sc N' cl C s2 H2 fp) K elt te)
    (hs : ∀ x, foldedSetIterable iter X.env x = pure x := by intro _; rfl) : JL X K (.ListComp elt [⟨tg, iter, ifs, 0⟩] sc pos) (mLc ix mi g tf te) := ⟨q_lc hc S hi.p (fun _ _ _ _ _ => (hg _ _ _ _ _).p) (fun _ _ _ _ _ => (hf _ _ _ _ _).p) (fun _ _ _ _ _ => (he _ _ _ _ _).p) hs⟩
theorem js_setlc {i : Nat} {x : Str} {px spos : Pos} (hc : X.calm = true) (hN : X.N.Nodup) (hi' : X.N[i]? = some x) (hx : X.env.scope.names.lookup x = some .local) (S : LcScope X.env.scope X.N sc N' ix) (hi : JI X K tg iter mi)
    (hg : ∀ cl C s2 H2 fp, JG (blk X sc N' cl C s2 H2 fp) K tg g) (hf : ∀ cl C s2 H2 fp, JF (blk X sc N' cl C s2 H2 fp) K ifs tf) (he : ∀ cl C s2 H2 fp, JE (blk X sc N' cl C s2 H2 fp) K elt te)
    (hsw : swapsWith (.ListComp elt [⟨tg, iter, ifs, 0⟩] sc pos) (some (.Name x px)) spos.line X.env = pure true := by rfl)
    (hs : ∀ x, foldedSetIterable iter X.env x = pure x := by intro _; rfl) : JS' X K (.Assign [.Name x px] (.ListComp elt [⟨tg, iter, ifs, 0⟩] sc pos) spos) (mAsg (mAlloc (mLc ix mi g tf te)) (gSet i)) :=
  ⟨q_setlc hc hN hi' hx S hi.p (fun _ _ _ _ _ => (hg _ _ _ _ _).p) (fun _ _ _ _ _ => (hf _ _ _ _ _).p) (fun _ _ _ _ _ => (he _ _ _ _ _).p) hsw hs⟩
end
section
variable {st : Stmt} {sts sa sb body : List Stmt} {m n : MS} {me : ME} {mt : MT} {mi : MI} {g : MG} {ra : MA} {l : ML}
theorem jss_nil : JSs X K [] mNext := ⟨qss_nil⟩
theorem jss_one (h : JS' X K st m) : JSs X K [st] m := ⟨qss_one h.p⟩
theorem jss_cons (h1 : JS' X K st m) (h2 : JSs X K sts n) : JSs X K (st :: sts) (mSeq m n) := ⟨qss_cons h1.p h2.p⟩
theorem js_expr (he : JE X K e me) (hs : swapsWith e none pos.line X.env = pure false := by rfl) : JS' X K (.Expr e pos) (mDrop me) := ⟨q_expr he.p hs⟩
theorem js_ret (he : JE X K e me) : JS' X K (.Return (some e) pos) (mRet me) := ⟨q_ret he.p⟩
theorem js_if (hc : JT X K c mt) (ha : JSs X K sa m) (hb : JSs X K sb n) : JS' X K (.If c sa sb pos) (mIfS mt m n) := ⟨qs_if hc.p ha.p hb.p⟩
theorem js_while (hp : PassesOwn (model X.prog X.w) X.A X.env X.xe) (hc : JT X K c mt) (hb : JSs X K body m) : JS' X K (.While c body [] pos) (mWhile mt m) := ⟨qs_while hp hc.p hb.p⟩
theorem js_for (hp : PassesOwn (model X.prog X.w) X.A X.env X.xe) (hc : X.calm = true) (hi : JI X K tg iter mi) (hg : JG X K tg g) (hb : JSs X K body m) (hs : ∀ x, foldedSetIterable iter X.env x = pure x := by intro _; rfl) : JS' X K (.For tg iter body [] pos) (mFor mi g m) := ⟨qs_for hp hc hi.p hg.p hb.p hs⟩
theorem js_set {i : Nat} {x : Str} {pos' : Pos} (hN : X.N.Nodup) (hi : X.N[i]? = some x) (hx : Loc X.env.scope x) (he : JE X K e me) (hs : swapsWith e (some (.Name x pos')) pos.line X.env = pure false := by rfl)
    (hf : X.fn x = true ∨ X.env.scope.names.lookup x = some .local := by first | exact .inl rfl | exact .inr rfl | assumption) : JS' X K (.Assign [.Name x pos'] e pos) (mAsg me (gSet i)) := ⟨q_set hN hi hx he.p hs hf⟩
theorem js_asg (he : JE X K e me) (hg : JG X K tg g) (hs : swapsWithSole [tg] e pos.line X.env = pure false := by rfl) (hw : swappedStores [tg] e X.env = pure none := by rfl)
    (h1 : (assignEach [tg] X.env).map (·.2) = [assign tg X.env] := by rfl) : JS' X K (.Assign [tg] e pos) (mAsg me g) := ⟨q_asg he.p hg.p hs hw h1⟩
theorem js_augS_add (hK : X.K = K) {i : Expr} {tpos : Pos} {mo mi : ME} (ho : JE X K o mo) (hi : JE X K i mi) (he : JE X K e me) (ha : ∀ ov iv new, augStore i ov iv new = (do holding [new, ov, iv] (setItem ov iv new); release [new, ov, iv] []; pure .next) := by intros; rfl) : JS' X K (.AugAssign (.Subscript o i tpos) .Add e pos) (mAugS mo mi me ipAdd) := ⟨q_augS K hK ho.p hi.p (get_seqk K hK) he.p ip_add ip_ok ha⟩
end
end
end PL
set_option Elab.async false
set_option linter.all false
set_option maxRecDepth 100000
namespace PL
open PySem PySem.Spec PyProof.Rows L2
section
variable {a b s t : MS} {D : PD} {ps : PSt} {h : PH} {m m1 m2 m3 : ME} {g : MG} {gs : MGs} {Q : QV} {QS : PSt → PH → Prop} {QT : Bool → PH → Prop} {QL : List PV → PH → Prop} {QR : Src → PH → Prop} {QO : Option Int → PH → Prop} {i j n : Nat} {v x y : PV} {tc td : MT} {ra : MA} {ml : ML} {mq : MQ} {ql ql' : MQL} {mi : MI} {M : M2} {xs l : List PV} {ix : List (Option Nat)} {lo hi : MO}
theorem r_seq (q : a.run ⟨b.run D, D.rt, D.bk, D.ct⟩ ps h) : (mSeq a b).run D ps h := q
theorem r_next (q : D.nx ps h) : mNext.run D ps h := q
theorem r_asg (q : m.run ps h fun v h1 => g.run v ps h1 D.nx) : (mAsg m g).run D ps h := q
theorem r_gset (q : QS (ps.set i (some v)) h) : (gSet i).run v ps h QS := q
theorem r_var (e : ps[i]? = some (some v)) (q : Q v h) : (mVar i).run ps h Q := by unfold mVar; dsimp only; rw [e]; exact q
theorem r_c (q : Q v h) : (mC v).run ps h Q := q
theorem r_op (q : m1.run ps h fun x h1 => m2.run ps h1 fun y h2 => M.f x y h2 Q) : (mOp M m1 m2).run ps h Q := q
section
variable {i j : Int} {p q' : Str}
theorem r_addI (q : Q (.int (i + j)) h) : oAdd.f (.int i) (.int j) h Q := q
theorem r_addS (z : p.length + q'.length ≤ sizeLine) (q : Q (.str (p ++ q')) h) : oAdd.f (.str p) (.str q') h Q := ⟨z, q⟩
theorem r_addT (c : xs ≠ []) (z : xs.length + l.length ≤ sizeLine) (q : Q (.tup (xs ++ l)) h) : oAdd.f (.tup xs) (.tup l) h Q := ⟨c, z, q⟩
theorem r_sub (q : Q (.int (i - j)) h) : oSub.f (.int i) (.int j) h Q := q
theorem r_mul (c : IntMulOk i j) (q : Q (.int (i * j)) h) : oMul.f (.int i) (.int j) h Q := ⟨c, q⟩
theorem r_div (c : CDiv i j) (q : Q (.int (i / j)) h) : oDiv.f (.int i) (.int j) h Q := ⟨c, q⟩
theorem r_mod (c : 0 < j) (q : Q (.int (i % j)) h) : oMod.f (.int i) (.int j) h Q := ⟨c, q⟩
theorem r_pow (c : CPow i j) (q : Q (.int (i ^ j.toNat)) h) : oPow.f (.int i) (.int j) h Q := ⟨c, q⟩
theorem r_lt (q : Q (.bl (decide (i < j))) h) : oLt.f (.int i) (.int j) h Q := q
theorem r_le (q : Q (.bl (decide (i ≤ j))) h) : oLe.f (.int i) (.int j) h Q := q
theorem r_gt (q : Q (.bl (decide (j < i))) h) : oGt.f (.int i) (.int j) h Q := q
theorem r_ge (q : Q (.bl (decide (j ≤ i))) h) : oGe.f (.int i) (.int j) h Q := q
theorem r_eqI (q : Q (.bl (decide (i = j))) h) : oEq.f (.int i) (.int j) h Q := q
theorem r_neI (q : Q (.bl (!decide (i = j))) h) : oNe.f (.int i) (.int j) h Q := q
theorem r_eqS (q : Q (.bl (decide (p = q'))) h) : oEq.f (.str p) (.str q') h Q := q
theorem r_neS (q : Q (.bl (!decide (p = q'))) h) : oNe.f (.str p) (.str q') h Q := q
theorem r_eqB {b c : Bool} (q : Q (.bl (decide (b = c))) h) : oEq.f (.bl b) (.bl c) h Q := q
theorem r_neB {b c : Bool} (q : Q (.bl (!decide (b = c))) h) : oNe.f (.bl b) (.bl c) h Q := q
theorem r_eqN (q : Q (.bl true) h) : oEq.f .non .non h Q := q
theorem r_isB {b c : Bool} (q : Q (.bl (b == c)) h) : oIsB.f (.bl b) (.bl c) h Q := q
theorem r_isNotB {b c : Bool} (q : Q (.bl (!(b == c))) h) : oIsNotB.f (.bl b) (.bl c) h Q := q
theorem r_ixS {c : Nat} (z : p.length ≤ sizeLine) (e : L2.atI p.cps.toList i = some c) (q : Q (.str ⟨#[c]⟩) h) : oIxS.f (.str p) (.int i) h Q := ⟨z, by rw [e]; exact q⟩
end
def kB (Q : Bool → PH → Prop) : QV := fun x h1 => match x with | .bl b => Q b h1 | _ => False
theorem r_B (q : m.run ps h (kB QT)) : (mB m).run ps h QT := q
theorem r_kB {c : Bool} (q : QT c h) : kB QT (.bl c) h := q
def kAnd (b : ME) (ps : PSt) (Q : QV) : QV := fun x h1 => match x with | .bl true => b.run ps h1 Q | .bl false => Q (.bl false) h1 | _ => False
def kOr (b : ME) (ps : PSt) (Q : QV) : QV := fun x h1 => match x with | .bl true => Q (.bl true) h1 | .bl false => b.run ps h1 Q | _ => False
def kNot (Q : QV) : QV := fun x h1 => match x with | .bl b => Q (.bl (!b)) h1 | _ => False
theorem r_andV (q : m1.run ps h (kAnd m2 ps Q)) : (mAndV m1 m2).run ps h Q := q
theorem r_orV (q : m1.run ps h (kOr m2 ps Q)) : (mOrV m1 m2).run ps h Q := q
theorem r_notV (q : m.run ps h (kNot Q)) : (mNotV m).run ps h Q := q
theorem r_kAndT (q : m.run ps h Q) : kAnd m ps Q (.bl true) h := q
theorem r_kAndF (q : Q (.bl false) h) : kAnd m ps Q (.bl false) h := q
theorem r_kOrT (q : Q (.bl true) h) : kOr m ps Q (.bl true) h := q
theorem r_kOrF (q : m.run ps h Q) : kOr m ps Q (.bl false) h := q
theorem r_kNot {c : Bool} (q : Q (.bl (!c)) h) : kNot Q (.bl c) h := q
theorem r_andT (q : tc.run ps h fun c h1 => if c = true then td.run ps h1 QT else QT false h1) : (mAndT tc td).run ps h QT := q
theorem r_orT (q : tc.run ps h fun c h1 => if c = true then QT true h1 else td.run ps h1 QT) : (mOrT tc td).run ps h QT := q
theorem r_if (q : tc.run ps h fun k h1 => if k = true then m1.run ps h1 Q else m2.run ps h1 Q) : (mIf tc m1 m2).run ps h Q := q
theorem r_ifS (q : tc.run ps h fun k h1 => if k = true then a.run D ps h1 else b.run D ps h1) : (mIfS tc a b).run D ps h := q
theorem r_tru (q : m.run ps h fun x h1 => pTru x h1 fun b => QT b h1) : (mTru m).run ps h QT := q
section
variable {R : Bool → Prop}
theorem r_pTruB {c : Bool} (q : R c) : pTru (.bl c) h R := q
theorem r_pTruL (e : h[n]? = some (.lst l)) (q : R (!l.isEmpty)) : pTru (.ref n) h R := by unfold pTru; dsimp only; rw [e]; exact q
end
theorem r_nil (q : QL [] h) : mNil.run ps h QL := q
theorem r_cons (q : m.run ps h fun x h1 => ra.run ps h1 fun l h2 => QL (x :: l) h2) : (mCons m ra).run ps h QL := q
theorem r_tup (q : ra.run ps h fun l h1 => l.length ≤ sizeLine ∧ Q (.tup l) h1) : (mTup ra).run ps h Q := q
theorem r_lst (q : ra.run ps h fun l h1 => l.length ≤ sizeLine ∧ QL l h1) : (mLst ra).run ps h QL := q
theorem r_own (q : ml.run ps h fun l h1 => QR ⟨l, fun _ => True, false⟩ h1) : (mOwn ml).run ps h QR := q
theorem r_ownL (q : ml.run ps h fun l h1 => QR ⟨l, fun _ => True, false⟩ h1) : (mOwnL ml).run ps h QR := q
def kSq (Q : Src → PH → Prop) : QV := fun x h1 => match x with
    | .tup l => Q ⟨l, fun _ => True, false⟩ h1
    | .cl l => Q ⟨l, fun _ => True, true⟩ h1
    | .ref n => match h1[n]? with
      | some (.lst xs) => Q ⟨xs, fun h2 => h2[n]? = some (.lst xs), false⟩ h1
      | _ => False
    | _ => False
def kSqL (Q : Src → PH → Prop) : QV := fun x h1 => match x with
    | .cl l => Q ⟨l, fun _ => True, true⟩ h1
    | .ref n => match h1[n]? with
      | some (.lst xs) => Q ⟨xs, fun h2 => h2[n]? = some (.lst xs), false⟩ h1
      | _ => False
    | _ => False
theorem r_sq (q : m.run ps h (kSq QR)) : (mSq m).run ps h QR := q
theorem r_sqL (q : m.run ps h (kSqL QR)) : (mSqL m).run ps h QR := q
theorem r_kSqT (q : QR ⟨l, fun _ => True, false⟩ h) : kSq QR (.tup l) h := q
theorem r_kSqC (q : QR ⟨l, fun _ => True, true⟩ h) : kSq QR (.cl l) h := q
theorem r_kSqR (e : h[n]? = some (.lst l)) (q : QR ⟨l, fun h2 => h2[n]? = some (.lst l), false⟩ h) : kSq QR (.ref n) h := by unfold kSq; dsimp only; rw [e]; exact q
theorem r_kSqLC (q : QR ⟨l, fun _ => True, true⟩ h) : kSqL QR (.cl l) h := q
theorem r_kSqLR (e : h[n]? = some (.lst l)) (q : QR ⟨l, fun h2 => h2[n]? = some (.lst l), false⟩ h) : kSqL QR (.ref n) h := by unfold kSqL; dsimp only; rw [e]; exact q
def kIx (S : Src) (Q : QV) : QV := fun y h2 => match y with
  | .int k => S.ok h2 ∧ match L2.atI S.items k with | some v => Q v h2 | none => False
  | _ => False
theorem r_ix (q : mq.run ps h fun S h1 => m.run ps h1 (kIx S Q)) : (mIx mq m).run ps h Q := q
theorem r_kIx {S : Src} {k : Int} (ok : S.ok h) (e : L2.atI S.items k = some v) (q : Q v h) : kIx S Q (.int k) h := ⟨ok, by rw [e]; exact q⟩
theorem r_catL (q : ql.run ps h fun S h1 => ql'.run ps h1 fun T h2 => S.ok h2 ∧ S.fz = false ∧ T.fz = false ∧ S.items.length + T.items.length ≤ sizeLine ∧ QL (S.items ++ T.items) h2) : (mCatL ql ql').run ps h QL := q
theorem r_revL (q : ql.run ps h fun S h1 => QL S.items.reverse h1) : (mRevL ql).run ps h QL := q
theorem r_slL (q : ql.run ps h fun S h1 => lo.run ps h1 fun i h2 => hi.run ps h2 fun j h3 => S.ok h3 ∧ QL (cutP S.items i j) h3) : (mSlL ql lo hi).run ps h QL := q
theorem r_moN (q : QO none h) : moNone.run ps h QO := q
def kO (Q : Option Int → PH → Prop) : QV := fun x h1 => match x with | .int i => Q (some i) h1 | _ => False
theorem r_moS (q : m.run ps h (kO QO)) : (moSome m).run ps h QO := q
theorem r_kO {k : Int} (q : QO (some k) h) : kO QO (.int k) h := q
theorem r_call {F : MF} (q : ra.run ps h fun l h1 => F.run l h1 Q) : (mCall F ra).run ps h Q := q
theorem r_callL {F : MFL} (q : ra.run ps h fun l h1 => F.run l h1 QL) : (mCallL F ra).run ps h QL := q
theorem r_bi {B : MB1} (q : ra.run ps h fun l h1 => B.f l h1 Q) : (mBi B ra).run ps h Q := q
theorem r_biQ {B : MB2} (q : mq.run ps h fun l h1 => B.f l h1 Q) : (mBiQ B mq).run ps h Q := q
theorem r_biL {B : MB3} (q : mq.run ps h fun l h1 => B.f l h1 QL) : (mBiL B mq).run ps h QL := q
theorem r_lenT (q : Q (.int l.length) h) : bLen.f [.tup l] h Q := q
theorem r_lenC (q : Q (.int l.length) h) : bLen.f [.cl l] h Q := q
theorem r_lenR (e : h[n]? = some (.lst l)) (q : Q (.int l.length) h) : bLen.f [.ref n] h Q := by unfold bLen; dsimp only; rw [e]; exact q
theorem r_lenQ {S : Src} (q : Q (.int S.items.length) h) : bLenQ.f S h Q := q
theorem r_abs {i : Int} (q : Q (.int (if i < 0 then -i else i)) h) : bAbs.f [.int i] h Q := q
theorem r_toIntI {i : Int} (q : Q (.int i) h) : bInt.f [.int i] h Q := q
theorem r_toIntB {c : Bool} (q : Q (.int (if c then 1 else 0)) h) : bInt.f [.bl c] h Q := q
theorem r_max {i j : Int} (q : Q (.int (if j > i then j else i)) h) : bMax.f [.int i, .int j] h Q := q
theorem r_min {i j : Int} (q : Q (.int (if j < i then j else i)) h) : bMin.f [.int i, .int j] h Q := q
theorem r_toTup {S : Src} (q : Q (.tup S.items) h) : bTup.f S h Q := q
theorem r_toList {S : Src} (q : QL S.items h) : bList.f S h QL := q
theorem r_all (q : ml.run ps h fun l h1 => ∃ bs : List Bool, l = bs.map PV.bl ∧ Q (.bl (bs.all id)) h1) : (mAllB ml).run ps h Q := q
theorem r_any (q : ml.run ps h fun l h1 => ∃ bs : List Bool, l = bs.map PV.bl ∧ Q (.bl (bs.any id)) h1) : (mAnyB ml).run ps h Q := q
def kIsi (k : Kd) (Q : QV) : QV := fun x h1 => (match x with | .ref n => (h1[n]?).isSome = true | .ty _ => False | .cl _ => False | _ => True) ∧ Q (.bl (k.is x)) h1
theorem r_isi {k : Kd} (q : m.run ps h (kIsi k Q)) : (mIsi k m).run ps h Q := q
theorem r_opQ {O : M2Q} (q : m.run ps h fun x h1 => mq.run ps h1 fun S h2 => O.f x S h2 Q) : (mOpQ O m mq).run ps h Q := q
theorem r_notIn {S : Src} (d1 : x.dat = true) (d2 : datL S.items = true) (d3 : depL S.items ≤ 101) (q : Q (.bl (!inB x S.items)) h) : oNotIn.f x S h Q := ⟨d1, d2, d3, q⟩
theorem r_lm {W : MM} (q : m.run ps h fun x h1 => listAt x h1 ∧ ra.run ps h1 fun l h2 => W.f x l h2 Q) : (mLM W m ra).run ps h Q := q
theorem r_lmQ {W : MMQ} (q : m.run ps h fun x h1 => listAt x h1 ∧ mq.run ps h1 fun l h2 => W.f x l h2 Q) : (mLMQ W m mq).run ps h Q := q
theorem r_listAt (e : h[n]? = some (.lst l)) : listAt (.ref n) h := by unfold listAt; dsimp only; rw [e]; trivial
theorem r_append (e : h[n]? = some (.lst l)) (z : l.length < sizeLine) (q : Q .non (h.set n (.lst (l ++ [y])))) : mmAppend.f (.ref n) [y] h Q := by unfold mmAppend; dsimp only; rw [e]; exact ⟨z, q⟩
theorem r_pop (e : h[n]? = some (.lst (l ++ [y]))) (q : Q y (h.set n (.lst l))) : mmPop.f (.ref n) [] h Q := by
  unfold mmPop; dsimp only; rw [e]; dsimp only
  rw [List.getLast?_concat, List.dropLast_concat]; exact q
theorem r_extend {S : Src} (e : h[n]? = some (.lst l)) (f : S.fz = false) (z : l.length + S.items.length ≤ sizeLine) (q : Q .non (h.set n (.lst (l ++ S.items)))) : mmExtend.f (.ref n) S h Q := by unfold mmExtend; dsimp only; rw [e]; exact ⟨f, z, q⟩
theorem r_gsub {mo mk : ME} {W : MSet} (q : mo.run ps h fun x h1 => mk.run ps h1 fun y h2 => W.f x y v h2 fun h3 => QS ps h3) : (gSubM mo mk W).run v ps h QS := q
theorem r_sList {k : Int} {QH : PH → Prop} (e : h[n]? = some (.lst l)) (ej : ixN l.length k = some j) (q : QH (h.set n (.lst (l.set j v)))) : sList.f (.ref n) (.int k) v h QH := by unfold sList; dsimp only; rw [e]; dsimp only; rw [ej]; exact q
theorem r_gtup (z : l.length = n) (q : gs.run l ps h QS) : (gTupM n gs).run (.tup l) ps h QS := ⟨z, q⟩
theorem r_gscons (q : g.run x ps h fun ps1 h1 => gs.run l ps1 h1 QS) : (gsCons g gs).run (x :: l) ps h QS := q
theorem r_gsnil (q : QS ps h) : gsNil.run [] ps h QS := q
theorem r_drop (q : m.run ps h fun _ h1 => D.nx ps h1) : (mDrop m).run D ps h := q
theorem r_ret (q : m.run ps h D.rt) : (mRet m).run D ps h := q
theorem r_par (q : ra.run ps h fun l h1 => match l with | [v, w] => D.nx ((ps.set i (some v)).set j (some w)) h1 | _ => False) : (mPar i j ra).run D ps h := q
theorem r_aug (e : ps[i]? = some (some x)) (q : m.run ps h fun y h1 => M.f x y h1 fun z h2 => D.nx (ps.set i (some z)) h2) : (mAug i m M).run D ps h := by unfold mAug; dsimp only; rw [e]; exact q
theorem r_ipAdd {i j : Int} (q : Q (.int (i + j)) h) : ipAdd.f (.int i) (.int j) h Q := q
theorem r_for {g : MG} (q : mi.run ps h fun S h1 => forV S g b D S.items ps h1) : (mFor mi g b).run D ps h := q
theorem r_lc {te : ME} (q : mi.run ps h fun S h1 => lcV S g tc te QL S.items [] (pblk ix ps) h1) : (mLc ix mi g tc te).run ps h QL := q
theorem r_walk (q : mq.run ps h QR) : (mWalk mq).run ps h QR := q
theorem r_mAll (q : QT true h) : mAll.run ps h QT := q
def kR1 (Q : Src → PH → Prop) : List PV → PH → Prop := fun l h1 => match l with | [.int j] => small62 j ∧ Q ⟨intsV 0 j.toNat, fun _ => True, false⟩ h1 | _ => False
def kR2 (Q : Src → PH → Prop) : List PV → PH → Prop := fun l h1 => match l with | [.int i, .int j] => small62 i ∧ small62 j ∧ Q ⟨intsV i (j - i).toNat, fun _ => True, false⟩ h1 | _ => False
def kR3 (Q : Src → PH → Prop) : List PV → PH → Prop := fun l h1 => match l with | [.int i, .int j, .int k] => k = -1 ∧ small62 i ∧ small62 j ∧ Q ⟨downV i (i - j).toNat, fun _ => True, false⟩ h1 | _ => False
theorem r_range1 (q : ra.run ps h (kR1 QR)) : (mRange1 ra).run ps h QR := q
theorem r_range2 (q : ra.run ps h (kR2 QR)) : (mRange2 ra).run ps h QR := q
theorem r_range3 (q : ra.run ps h (kR3 QR)) : (mRange3 ra).run ps h QR := q
theorem r_kR1 {j : Int} (c : small62 j) (q : QR ⟨intsV 0 j.toNat, fun _ => True, false⟩ h) : kR1 QR [.int j] h := ⟨c, q⟩
theorem r_kR2 {i j : Int} (c : small62 i) (d : small62 j) (q : QR ⟨intsV i (j - i).toNat, fun _ => True, false⟩ h) : kR2 QR [.int i, .int j] h := ⟨c, d, q⟩
theorem r_kR3 {i j k : Int} (e : k = -1) (c : small62 i) (d : small62 j) (q : QR ⟨downV i (i - j).toNat, fun _ => True, false⟩ h) : kR3 QR [.int i, .int j, .int k] h := ⟨e, c, d, q⟩
theorem r_enum (q : mq.run ps h fun S h1 => QR ⟨enumV 0 S.items, S.ok, S.fz⟩ h1) : (mEnum mq).run ps h QR := q
def kZ (x : PV) (Q : Src → PH → Prop) : QV := fun y h2 => match x, y with | .tup l, .tup m => l.length = m.length ∧ Q ⟨zipV l m, fun _ => True, false⟩ h2 | _, _ => False
theorem r_zip (q : m1.run ps h fun x h1 => m2.run ps h1 (kZ x QR)) : (mZip m1 m2).run ps h QR := q
theorem r_kZ (e : xs.length = l.length) (q : QR ⟨zipV xs l, fun _ => True, false⟩ h) : kZ (.tup xs) QR (.tup l) h := ⟨e, q⟩
def kSg (Q : Src → PH → Prop) : QV := fun x h1 => match x with | .str z => Q ⟨z.cps.toList.map fun c => .str ⟨#[c]⟩, fun _ => True, false⟩ h1 | _ => False
theorem r_signs (q : m.run ps h (kSg QR)) : (mSigns m).run ps h QR := q
theorem r_kSg {z : Str} (q : QR ⟨z.cps.toList.map fun c => .str ⟨#[c]⟩, fun _ => True, false⟩ h) : kSg QR (.str z) h := q
def kNeg (Q : QV) : QV := fun x h1 => match x with | .int i => Q (.int (-i)) h1 | _ => False
theorem r_neg (q : m.run ps h (kNeg Q)) : (mNeg m).run ps h Q := q
theorem r_kNeg {i : Int} (q : Q (.int (-i)) h) : kNeg Q (.int i) h := q
end
theorem for_inv {S : Src} {g : MG} {b : MS} {D : PD} (I : Nat → PSt → PH → Prop) (hok : ∀ i ps h, I i ps h → S.ok h)
    (hs : ∀ i x ps h, S.items[i]? = some x → I i ps h → g.run x ps h fun ps1 h1 => b.run ⟨I (i + 1), D.rt, D.nx, I (i + 1)⟩ ps1 h1) (hd : ∀ ps h, I S.items.length ps h → D.nx ps h) {ps : PSt} {h : PH} (h0 : I 0 ps h) : forV S g b D S.items ps h := by
  have go : ∀ (k : Nat) (i : Nat) (ps : PSt) (h : PH), i + k = S.items.length → I i ps h → forV S g b D (S.items.drop i) ps h := by
    intro k
    induction k with
    | zero =>
      intro i ps h e q
      have : i = S.items.length := by omega
      subst this
      rw [List.drop_length]
      exact ⟨hok _ _ _ q, hd ps h q⟩
    | succ k ih =>
      intro i ps h e q
      have hi : i < S.items.length := by omega
      rw [List.drop_eq_getElem_cons hi]
      refine ⟨hok _ _ _ q, g.le (hs i _ ps h (List.getElem?_eq_getElem hi) q) fun ps1 h1 q1 => b.le q1 ⟨fun _ _ z => ih (i + 1) _ _ (by omega) z, fun _ _ z => z, fun _ _ z => z, fun _ _ z => ih (i + 1) _ _ (by omega) z⟩⟩
  exact go S.items.length 0 ps h (by omega) h0
theorem while_inv {t : MT} {b : MS} {D : PD} (I : Nat → PSt → PH → Prop)
    (hs : ∀ n ps h, I n ps h → t.run ps h fun c h1 => if c = true then b.run ⟨fun ps h => ∃ m, m < n ∧ I m ps h, D.rt, D.nx, fun ps h => ∃ m, m < n ∧ I m ps h⟩ ps h1 else D.nx ps h1) {n : Nat} {ps : PSt} {h : PH} (h0 : I n ps h) : (mWhile t b).run D ps h := by
  have go : ∀ (n m : Nat) (ps : PSt) (h : PH), m < n → I m ps h → whileN t b D n ps h := by
    intro n
    induction n with
    | zero => intro m ps h hm _; omega
    | succ n ih =>
      intro m ps h hm q
      refine t.mono (fun c h1 q1 => ?_) (hs m ps h q)
      cases c with
      | true =>
        rw [if_pos rfl] at q1 ⊢
        exact b.le q1 ⟨fun _ _ ⟨k, hk, z⟩ => ih k _ _ (by omega) z, fun _ _ z => z, fun _ _ z => z, fun _ _ ⟨k, hk, z⟩ => ih k _ _ (by omega) z⟩
      | false => rw [if_neg Bool.false_ne_true] at q1 ⊢; exact q1
  exact ⟨n + 1, go (n + 1) n ps h (by omega) h0⟩
theorem lc_inv {S : Src} {g : MG} {tf : MT} {te : ME} {Q : List PV → PH → Prop} (I : Nat → List PV → PSt → PH → Prop) (hok : ∀ i acc ps h, I i acc ps h → S.ok h)
    (hs : ∀ i x acc ps h, S.items[i]? = some x → I i acc ps h → g.run x ps h fun ps1 h1 => tf.run ps1 h1 fun k h2 => if k = true then te.run ps1 h2 fun y h3 => acc.length + 1 ≤ sizeLine ∧ I (i + 1) (acc ++ [y]) ps1 h3 else I (i + 1) acc ps1 h2)
    (hd : ∀ acc ps h, I S.items.length acc ps h → Q acc h) {ps : PSt} {h : PH} (h0 : I 0 [] ps h) : lcV S g tf te Q S.items [] ps h := by
  have go : ∀ (k : Nat) (i : Nat) (acc : List PV) (ps : PSt) (h : PH), i + k = S.items.length → I i acc ps h → lcV S g tf te Q (S.items.drop i) acc ps h := by
    intro k
    induction k with
    | zero =>
      intro i acc ps h e q
      have : i = S.items.length := by omega
      subst this
      rw [List.drop_length]
      exact ⟨hok _ _ _ _ q, hd acc ps h q⟩
    | succ k ih =>
      intro i acc ps h e q
      have hi : i < S.items.length := by omega
      rw [List.drop_eq_getElem_cons hi]
      refine ⟨hok _ _ _ _ q, g.le (hs i _ acc ps h (List.getElem?_eq_getElem hi) q) fun ps1 h1 q1 => tf.mono (fun c h2 q2 => ?_) q1⟩
      cases c with
      | true => rw [if_pos rfl] at q2 ⊢; exact te.mono (fun y h3 q3 => ⟨q3.1, ih (i + 1) _ _ _ (by omega) q3.2⟩) q2
      | false => rw [if_neg Bool.false_ne_true] at q2 ⊢; exact ih (i + 1) _ _ _ (by omega) q2
  exact go S.items.length 0 [] ps h (by omega) h0
/-- a comprehension of values alone: what stays true of the block's names is P; f tells an item's worth -/
theorem lc_map {S : Src} {g : MG} {tf : MT} {te : ME} {Q : List PV → PH → Prop} {h : PH} (P : PSt → Prop) (f : PV → Option PV) (ok : S.ok h) (z : S.items.length ≤ sizeLine)
    (hs : ∀ x, x ∈ S.items → ∀ ps, P ps → ∀ R : PH → Prop, R h → g.run x ps h fun ps1 h1 => tf.run ps1 h1 fun k h2 => if k = true then te.run ps1 h2 fun y h3 => f x = some y ∧ P ps1 ∧ R h3 else f x = none ∧ P ps1 ∧ R h2)
    (q : Q (S.items.filterMap f) h) {ps : PSt} (h0 : P ps) : lcV S g tf te Q S.items [] ps h := by
  refine lc_inv (fun i acc ps h' => h' = h ∧ P ps ∧ acc = (S.items.take i).filterMap f ∧ i ≤ S.items.length) (fun _ _ _ _ q => by rw [q.1]; exact ok) (fun i x acc ps h' hx q => ?_) (fun acc ps h' q => ?_) ⟨rfl, h0, by simp, Nat.zero_le _⟩
  · obtain ⟨rfl, p, rfl, hi⟩ := q
    have hi' := (List.getElem?_eq_some_iff.mp hx).1
    have hx' := (List.getElem?_eq_some_iff.mp hx).2
    have et : S.items.take (i + 1) = S.items.take i ++ [x] := by rw [List.take_succ, hx]; rfl
    have hl : ((S.items.take i).filterMap f).length ≤ i := Nat.le_trans (List.length_filterMap_le _ _) (by simp; omega)
    refine g.le (hs x (List.mem_of_getElem? hx) ps p (fun h'' => h'' = h') rfl) fun ps1 h1 q1 => tf.mono (fun c h2 q2 => ?_) q1
    cases c with
    | true =>
      rw [if_pos rfl] at q2 ⊢
      refine te.mono (fun y h3 q3 => ⟨by omega, q3.2.2, q3.2.1, ?_, hi'⟩) q2
      rw [et, List.filterMap_append]
      simp [q3.1]
    | false =>
      rw [if_neg Bool.false_ne_true] at q2 ⊢
      refine ⟨q2.2.2, q2.2.1, ?_, hi'⟩
      rw [et, List.filterMap_append]
      simp [q2.1]
  · obtain ⟨rfl, p, rfl, hi⟩ := q
    rw [List.take_length]
    exact q
section
variable {n : Nat} {Q : QV} {v : PV} {h g : PH} {QL : List PV → PH → Prop}
theorem exit_same (hl : v.lim n = true) (hh : limH n h) (hn : h.length = n) (q : Q v h) : exitV n Q v h := ⟨h, [], by simp, hn, hl, hh, q⟩
theorem exit_drop (hl : v.lim n = true) (hh : limH n h) (hn : h.length = n) (q : Q v h) : exitV n Q v (h ++ g) := ⟨h, g, rfl, hn, hl, hh, q⟩
/-- a list of its own, at the k-th place behind -/
theorem exit_list {xs : List PV} {k : Nat} (e : g[k]? = some (.lst xs)) (hl : limL n xs = true) (hh : limH n h) (hn : h.length = n) (q : QL xs h) : exitL n QL (.ref (n + k)) (h ++ g) :=
  ⟨n + k, h, g, xs, rfl, Nat.le_add_right _ _, rfl, hn, by rw [List.getElem?_append_right (by omega), show n + k - h.length = k by omega]; exact e, hl, hh, q⟩
end
section
variable {h t : PH} {n : Nat} {o : PO}
theorem get_app (n : Nat) : (h ++ t)[h.length + n]? = t[n]? := by rw [List.getElem?_append_right (by omega)]; congr 1; omega
theorem get_app0 : (h ++ t)[h.length]? = t[0]? := get_app 0
theorem set_app (n : Nat) : (h ++ t).set (h.length + n) o = h ++ t.set n o := by rw [List.set_append_right _ _ (by omega)]; congr 2; omega
theorem set_app0 : (h ++ t).set h.length o = h ++ t.set 0 o := set_app 0
theorem get_old (hn : n < h.length) : (h ++ t)[n]? = h[n]? := List.getElem?_append_left hn
theorem lt_get {o : PO} (e : h[n]? = some o) : n < h.length := (List.getElem?_eq_some_iff.mp e).1
theorem get_old' {o : PO} (e : h[n]? = some o) : (h ++ t)[n]? = some o := by rw [get_old (lt_get e)]; exact e
end
section
variable {P : Program} {w : World} {K : PySem.W.Frag} {mg : Str → Option Value} {base : Heap} {k : Nat} {f : Addr} {fd : FuncData} {ps : List Str}
theorem HR.opq {ι : List Addr} {H H' : Hp} {h : PH} {n : Nat} {a : Addr} {φ : List V → Prop} {vs : List V} (r : HR K ι H h) (hn : ι[n]? = some a) (ho : h[n]? = some (.opq φ)) (s : SameX a H H') (e : H' a = some (.lst vs)) (p : φ vs) : HR K ι H' h ∧ Go ι ι H H' := by
  have q := r.put (o := .opq φ) hn s fun _ => ⟨vs, e, p⟩
  have es : h.set n (.opq φ) = h := by
    obtain ⟨h1, h2⟩ := List.getElem?_eq_some_iff.mp ho
    rw [← h2, List.set_getElem_self]
  rw [es] at q
  exact ⟨q.1, q.2.1⟩
end
end PL
set_option Elab.async false
set_option linter.all false
set_option maxRecDepth 100000
namespace L2
open PySem PySem.Spec PyProof.Rows
def intsL (lo : Int) (n : Nat) : List V := (List.range n).map fun (i : Nat) => .int (lo + (i : Int))
theorem vals_items {lo : Int} {n : Nat} {acc : Array Value} (h : ItemsOf (fun (i : Nat) v => ∃ t, v = .int (lo + (i : Int) * 1) t) acc n) : Vals (intsL lo n) acc.toList := by
  obtain ⟨hs, hi⟩ := h
  have go : ∀ (k : Nat), k ≤ n → Vals ((List.range k).map fun (i : Nat) => V.int (lo + (i : Int))) (acc.toList.take k) := by
    intro k
    induction k with
    | zero => intro _; simp; exact .nil
    | succ k ih =>
      intro hk
      have hk' : k < acc.size := by omega
      rw [List.range_succ, List.map_append, List.take_succ]
      have e : acc.toList[k]? = some acc[k] := by simp [hk']
      rw [e]
      refine Vals.append (ih (by omega)) ?_
      obtain ⟨t, ht⟩ := hi k acc[k] (by simp [hk'])
      refine .cons ⟨t, ?_⟩ .nil
      rw [ht]
      simp
  have := go n (Nat.le_refl _)
  rw [List.take_of_length_le (by simp [hs])] at this
  exact this
theorem collect_range {prog : Program} {w : World} {A : Around} {E : Value → Shared → Prop} {s : Shared} {Q : List Value → Shared → Prop} {r : Addr} {a b c : Int} {t u v : Tok} {n : Nat} (hh : A.handled = none) (hr : IsRange s.heap r a b c t u v) (hsmall : Builtin.Range.small a b c = true)
    (hn : Builtin.Range.rangeSize a b c = n) (hlen : n ≤ 2 ^ 24)
    (hQ : ∀ h' tk acc', (∀ b o', s.heap.get? b = some o' → h'.get? b = some o') → ItemsOf (fun i v => ∃ t, v = .int (a + i * c) t) acc' n → Q acc'.toList { s with heap := h', toks := tk }) : wpAny (model prog w) A (collect (.ref r)) Q E s := by
  unfold collect
  refine wpAny_bind (wpAny_runValue (codeAny_builtin F.entry_proto_collect ?_))
  rw [Around.under_plainId F.plain_proto_collect _]
  show wpAny _ A.in1 (newList [] >>= fun l => again (.builtin "list.__iadd__" ⟨[l, .ref r], []⟩)) _ _ s
  refine wpAny_bind (wpAny_newObj_type ?_)
  refine wpAny_pure ⟨plainId_quiet F.plain_list_iadd _, codeAny_builtin F.entry_list_iadd ?_⟩
  rw [Around.under_plainId F.plain_list_iadd _]
  show wpAny _ A.in1 (Builtin.List.listExtendWith (.ref s.heap.objs.size) (.ref r) (.ref s.heap.objs.size)) _ _ _
  have hS : (s.heap.push { cls := .type "list", data := .seq ([] : List Value).toArray }).get? s.heap.objs.size = some { cls := .type "list", data := .seq #[] 0 } := Heap.get?_push_size _ rfl
  refine wpAny_mono (wpAny_extend_range (A := A) (s := { s with heap := s.heap.push { cls := .type "list", data := .seq ([] : List Value).toArray } }) (R := fun r' s' => r' = .ok (.ret (.ref s.heap.objs.size)) ∧ ∃ h' tk acc' c', s' = { s with heap := h', toks := tk } ∧
      (∀ b o, b ≠ s.heap.objs.size → (s.heap.push { cls := .type "list", data := .seq ([] : List Value).toArray }).get? b = some o → h'.get? b = some o) ∧ h'.get? s.heap.objs.size = some { cls := .type "list", dict := none, data := .seq acc' c', slots := #[] } ∧ ItemsOf (fun i v => ∃ t, v = .int (a + i * c) t) acc' n)
    hh (Heap.get?_push_of_some _ hr) hsmall hn hlen s.heap.objs.size _ 0 hS fun h' tk acc' c' k1 k2 k3 => ⟨rfl, h', tk, acc', c', rfl, k1, k2, k3⟩) (fun fin s' h => ?_) (fun e s' h => ?_)
  · have fin' : ∀ s'', (∃ h' tk acc' c', s'' = { s with heap := h', toks := tk } ∧
      (∀ b o, b ≠ s.heap.objs.size → (s.heap.push { cls := .type "list", data := .seq ([] : List Value).toArray }).get? b = some o → h'.get? b = some o) ∧ h'.get? s.heap.objs.size = some { cls := .type "list", dict := none, data := .seq acc' c', slots := #[] } ∧ ItemsOf (fun i v => ∃ t, v = .int (a + i * c) t) acc' n) →
      wpAny (model prog w) A (match Value.ref s.heap.objs.size with
      | Value.ref a => do
        match (← load a).data with
          | Data.seq xs _ => pure xs.toList
          | _ => unsupported "internal:collect"
      | _ => unsupported "internal:collect") Q E s'' := by
      rintro s'' ⟨h', tk, acc', c', rfl, k1, k2, k3⟩
      show wpAny _ A (load s.heap.objs.size >>= _) _ _ _
      refine wpAny_bind (wpAny_load k2 ?_)
      exact wpAny_pure (hQ h' tk acc' (fun b o' hb => k1 b o' (Nat.ne_of_lt (Heap.lt_size hb)) (Heap.get?_push_of_some _ hb)) k3)
    cases fin with
    | done f =>
      obtain ⟨e, h⟩ := h
      cases e
      exact fin' _ h
    | again c' => exact ⟨h.1, codeAny_mono h.2 fun r s'' hr => by obtain ⟨rfl, h⟩ := hr; exact fin' _ h⟩
  · exact absurd h.1 (by simp)
theorem meets_tuple_new_range (r : Addr) (a b : Int) (t u v : Tok) (n : Nat) (hsmall : Builtin.Range.small a b 1 = true) (hn : Builtin.Range.rangeSize a b 1 = n) (hlen : n ≤ 2 ^ 24) :
    Meets (Builtin.«tuple.__new__» ⟨[.type "tuple", .ref r], []⟩)
      (fun A R s => A.handled = none ∧ IsRange s.heap r a b 1 t u v ∧ ∀ (h' : Heap) (tk : Nat) (acc : Array Value), (∀ b o', s.heap.get? b = some o' → h'.get? b = some o') → ItemsOf (fun (i : Nat) v => ∃ t, v = .int (a + (i : Int) * 1) t) acc n → R (.ok (.ret (.ref h'.objs.size))) { s with heap := h'.push { cls := .type "tuple", data := .seq acc }, toks := tk }) :=
  .of_wp fun prog w A R s h => by
    obtain ⟨hp, g, d, tk, os⟩ := s; obtain ⟨hh, ht, h⟩ := h
    have hsub := sub_tuple_self
    have hinit := init_tuple_lookup
    have hmh := madeHere_tuple
    have hT : Shared.TypeIs ⟨hp, g, d, tk, os⟩ (.ref r) "range" := ⟨_, ht, rfl⟩
    have ht' : hp.get? r = some { cls := .type "range", data := .fields #[.int a t, .int b u, .int 1 v] } := ht
    wp_walk using PySem.AutoSeq1.wpAny_loadPart' ht', wpAny_typeOf hT, collect_range (by exact hh) ht hsmall hn hlen
    intro h' tk' acc hk hacc
    show wpAny _ _ (Builtin.Tuple.tupleExact acc.toList.toArray >>= fun v => ret v) _ _ _
    unfold Builtin.Tuple.tupleExact
    have hz : acc.size ≤ sizeLine := by rw [hacc.1, sizeLine_eq]; omega
    refine wpAny_bind (wpAny_newObj_type ?_ (by show acc.toList.toArray.size ≤ sizeLine; simpa using hz))
    refine wpAny_pure ⟨_, rfl, ?_⟩
    have e : acc.toList.toArray = acc := by simp
    rw [e]
    exact h h' tk' acc hk hacc
theorem call_tuple_range {prog : Program} {w : World} {A : Around} {E : Value → Shared → Prop} {s : Shared} {r : Addr} {a b : Int} {t u v : Tok} {n : Nat} {Q : Value → Shared → Prop} (hh : A.handled = none) (hr : IsRange s.heap r a b 1 t u v) (hsmall : Builtin.Range.small a b 1 = true)
    (hn : Builtin.Range.rangeSize a b 1 = n) (hlen : n ≤ 2 ^ 24)
    (h : ∀ (h' : Heap) (tk : Nat) (acc : Array Value), (∀ b o', s.heap.get? b = some o' → h'.get? b = some o') → ItemsOf (fun (i : Nat) v => ∃ t, v = .int (a + (i : Int) * 1) t) acc n → Q (.ref h'.objs.size) { s with heap := h'.push { cls := .type "tuple", data := .seq acc }, toks := tk }) :
    wpAny (model prog w) A (call (.type "tuple") [.ref r]) Q E s :=
  callType_new F.called_tuple (by decide) (F.typeCall_tuple_1 _) (F.newCall_tuple_1 _) (fun obj => F.args_object_init_2 obj _) F.entry_tuple_new
    (meets_tuple_new_range r a b t u v n hsmall hn hlen) ⟨hh, hr, fun h' tk acc hk hacc => ⟨⟨_, Heap.get?_push_size _ rfl, rfl⟩, h h' tk acc hk hacc⟩⟩
section
variable {X : Cx} {a b : Expr} {ta : TA} {p p1 p2 pos : Pos}
theorem rng_size {i j : Int} : Builtin.Range.rangeSize i j 1 = (((j - i).toNat : Nat) : Int) := by rw [rangeSize_one]; split <;> omega
theorem rng_tup {pins : List (Addr × Obj)} {σ : St} {H : Hp} {s : Shared} {Q : VK} {E : Value → Shared → Prop} {i j : Int} {t u v : Tok} {tk : Nat} (hc : X.calm = true) (I : Inv X pins σ H s) (hb : -(2 ^ 62) ≤ i ∧ i < 2 ^ 62 ∧ -(2 ^ 62) ≤ j ∧ j < 2 ^ 62) (hz : (j - i).toNat ≤ 1000000)
    (q : newO H (.tup (intsL i (j - i).toNat)) Q) : wpAny (model X.prog X.w) X.A (call (.type "tuple") [.ref s.heap.objs.size]) (EP X pins σ Q) E { s with heap := s.heap.push { cls := .type "range", data := .fields #[.int i t, .int j u, .int 1 v] }, toks := tk } := by
  have I1 : Inv X pins σ H { s with heap := s.heap.push { cls := .type "range", data := .fields #[.int i t, .int j u, .int 1 v] }, toks := tk } := I.kept fun b o e => Heap.get?_push_of_some _ e
  refine call_tuple_range (s := { s with heap := s.heap.push { cls := .type "range", data := .fields #[.int i t, .int j u, .int 1 v] }, toks := tk }) (I.ok.hd hc) (IsRange.new ..) (small_one hb.1 hb.2.1 hb.2.2.1 hb.2.2.2) rng_size (by omega) fun h' tk' acc kp it => ?_
  have I2 : Inv X pins σ H { s with heap := h', toks := tk' } := I1.kept (h' := h') (t' := tk') kp
  obtain ⟨its, rfl⟩ : ∃ its : List Value, acc = its.toArray := ⟨acc.toList, by simp⟩
  have rv := vals_items it
  have hl : (intsL i (j - i).toNat).length ≤ sizeLine := by unfold intsL; rw [List.length_map, List.length_range, sizeLine_eq]; omega
  refine ⟨.ref h'.objs.size, upd H h'.objs.size (.tup (intsL i (j - i).toNat)), I2.laid (t' := tk') (fun b o e => Heap.get?_push_of_some _ e) (Nat.le_refl _) ?_, rfl, q.at _ (I2.hok.fresh (Nat.le_refl _))⟩
  exact ⟨hl, its, by simpa using rv, ⟨_, Heap.get?_push_size _ rfl, rfl, _, rfl⟩⟩
theorem rng_lst {pins : List (Addr × Obj)} {σ : St} {H : Hp} {s : Shared} {Q : VK} {E : Value → Shared → Prop} {i j : Int} {t u v : Tok} {tk : Nat} (hc : X.calm = true) (I : Inv X pins σ H s) (hb : -(2 ^ 62) ≤ i ∧ i < 2 ^ 62 ∧ -(2 ^ 62) ≤ j ∧ j < 2 ^ 62) (hz : (j - i).toNat ≤ 1000000)
    (q : newO H (.lst (intsL i (j - i).toNat)) Q) : wpAny (model X.prog X.w) X.A (call (.type "list") [.ref s.heap.objs.size]) (EP X pins σ Q) E { s with heap := s.heap.push { cls := .type "range", data := .fields #[.int i t, .int j u, .int 1 v] }, toks := tk } := by
  have I1 : Inv X pins σ H { s with heap := s.heap.push { cls := .type "range", data := .fields #[.int i t, .int j u, .int 1 v] }, toks := tk } := I.kept fun b o e => Heap.get?_push_of_some _ e
  refine call_list_range (s := { s with heap := s.heap.push { cls := .type "range", data := .fields #[.int i t, .int j u, .int 1 v] }, toks := tk }) (I.ok.hd hc) (IsRange.new ..) (small_one hb.1 hb.2.1 hb.2.2.1 hb.2.2.2) rng_size (by omega) fun h' tk' acc c' kp hS it => ?_
  have rv := vals_items it
  have hl : (intsL i (j - i).toNat).length ≤ sizeLine := by unfold intsL; rw [List.length_map, List.length_range, sizeLine_eq]; omega
  refine ⟨.ref (s.heap.push { cls := .type "range", data := .fields #[.int i t, .int j u, .int 1 v] }).objs.size, upd H _ (.lst (intsL i (j - i).toNat)), I1.laid (h' := h') (t' := tk') kp (Nat.le_refl _) ?_, rfl, q.at _ (I1.hok.fresh (Nat.le_refl _))⟩
  exact ⟨hl, acc.toList, c', rv, by simpa using hS⟩
/-- what is asked of a range's bounds -/
def okR (i j : Int) : Prop := (-(2 ^ 62) ≤ i ∧ i < 2 ^ 62 ∧ -(2 ^ 62) ≤ j ∧ j < 2 ^ 62) ∧ (j - i).toNat ≤ 1000000
section
variable {T : Str} {Tn : String} {r : VK → Hp → Int → Int → Prop}
theorem rng1_core (hg2 : Gl X "range") (hm2 : X.mg "range" = none) (hg1 : Gl X T) (hm1 : X.mg T = none) (hb1 : bootBuiltins T = some (.type Tn)) (ha : PA X [a] ta)
    (core : ∀ {pins : List (Addr × Obj)} {σ : St} {H : Hp} {s : Shared} {Q : VK} {i j : Int} {t u v : Tok} {tk : Nat}, Inv X pins σ H s → r Q H i j → wpAny (model X.prog X.w) X.A (call (.type Tn) [.ref s.heap.objs.size]) (EP X pins σ Q) X.xe { s with heap := s.heap.push { cls := .type "range", data := .fields #[.int i t, .int j u, .int 1 v] }, toks := tk })
    (hn : T ≠ "__name__") (hd : (T == ("__debug__" : Str)) = false) (hs0 : starEach [.Call (.Name "range" p1) [a] [] p2] X.env = (false, eval (.Call (.Name "range" p1) [a] [] p2) X.env) :: starEach [] X.env) (hs : starEach [a] X.env = [(false, eval a X.env)]) :
    PE X (.Call (.Name T p) [.Call (.Name "range" p1) [a] [] p2] [] pos) (fun σ H Q => ta σ H fun vs H1 => ∃ j : Int, vs = [.int j] ∧ r Q H1 0 j) := by
  intro pins s σ H Q I h
  refine wpAny_Call_Name_kw (ld_blt I hg1 hm1 hb1 ?_ hn hd)
  refine PyProof.Rows.callWith_type1 ?_ hs0 rfl
  rw [hs0]
  show wpAny _ _ (spliced ((false, eval (.Call (.Name "range" p1) [a] [] p2) X.env) :: backTo pos (starEach [] X.env))) _ _ s
  refine Calls.spliced_cons ?_
  refine Call_ (ld_blt I hg2 hm2 boot_range (PyProof.Rows.callWith_type1 (thn (ha p2 pins s σ H _ I h) fun us s1 ⟨vs, H1, I1, r1, q1⟩ => ?_) hs rfl))
  obtain ⟨j, rfl, q⟩ := q1
  obtain ⟨w, rfl, t, rfl⟩ := vals1 r1
  exact call_range_1 (Calls.spliced_nil (core I1 q))
theorem rng2_core (hg2 : Gl X "range") (hm2 : X.mg "range" = none) (hg1 : Gl X T) (hm1 : X.mg T = none) (hb1 : bootBuiltins T = some (.type Tn)) (ha : PA X [a, b] ta)
    (core : ∀ {pins : List (Addr × Obj)} {σ : St} {H : Hp} {s : Shared} {Q : VK} {i j : Int} {t u v : Tok} {tk : Nat}, Inv X pins σ H s → r Q H i j → wpAny (model X.prog X.w) X.A (call (.type Tn) [.ref s.heap.objs.size]) (EP X pins σ Q) X.xe { s with heap := s.heap.push { cls := .type "range", data := .fields #[.int i t, .int j u, .int 1 v] }, toks := tk })
    (hn : T ≠ "__name__") (hd : (T == ("__debug__" : Str)) = false) (hs0 : starEach [.Call (.Name "range" p1) [a, b] [] p2] X.env = (false, eval (.Call (.Name "range" p1) [a, b] [] p2) X.env) :: starEach [] X.env) (hs : starEach [a, b] X.env = [(false, eval a X.env), (false, eval b X.env)]) (hs2 : starEach [b] X.env = [(false, eval b X.env)]) :
    PE X (.Call (.Name T p) [.Call (.Name "range" p1) [a, b] [] p2] [] pos) (fun σ H Q => ta σ H fun vs H1 => ∃ i j : Int, vs = [.int i, .int j] ∧ r Q H1 i j) := by
  intro pins s σ H Q I h
  refine wpAny_Call_Name_kw (ld_blt I hg1 hm1 hb1 ?_ hn hd)
  refine PyProof.Rows.callWith_type1 ?_ hs0 rfl
  rw [hs0]
  show wpAny _ _ (spliced ((false, eval (.Call (.Name "range" p1) [a, b] [] p2) X.env) :: backTo pos (starEach [] X.env))) _ _ s
  refine Calls.spliced_cons ?_
  refine Call_ (ld_blt I hg2 hm2 boot_range (PyProof.Rows.callWith_type1 (thn (ha p2 pins s σ H _ I h) fun us s1 ⟨vs, H1, I1, r1, q1⟩ => ?_) (by rw [hs, hs2]) (by rw [hs2]; rfl)))
  obtain ⟨i, j, rfl, q⟩ := q1
  obtain ⟨w, w', rfl, ⟨t, rfl⟩, ⟨t', rfl⟩⟩ := vals2 r1
  exact call_range_2 (Calls.spliced_nil (core I1 q))
end
end
def pickV {α : Type} (xs : List α) (lo hi st : Option Int) : List α := (sliceRange (sliceBounds lo hi st xs.length).1 (sliceBounds lo hi st xs.length).2.1 (sliceBounds lo hi st xs.length).2.2).filterMap (xs[·]?)
theorem pick_vals {xs : List V} {its : List Value} (r : Vals xs its) (lo hi st : Option Int) : Vals (pickV xs lo hi st) (slicePick its.toArray lo hi st).toList := by
  unfold pickV slicePick
  rw [List.size_toArray, r.length]
  generalize sliceRange _ _ _ = l
  induction l with
  | nil => exact .nil
  | cons k l ih =>
    rw [List.filterMap_cons, List.filterMap_cons]
    cases e : xs[k]? with
    | none =>
      have e2 := r.none_of e
      have e3 : its.toArray[k]? = none := by simpa using e2
      rw [e3]
      exact ih
    | some x =>
      obtain ⟨u, hu, ru⟩ := r.get e
      have e3 : its.toArray[k]? = some u := by simpa using hu
      rw [e3]
      exact .cons ru ih
section
variable {X : Cx} {e st : Expr} {te : TE} {lo hi : Option Expr} {tl th ts : TO} {pos p2 : Pos}
def tSl3 (K : PySem.W.Frag) (te : TE) (tl th ts : TO) : TE := fun σ H Q => te σ H fun x H1 => tl σ H1 fun l H2 => th σ H2 fun u H3 => ts σ H3 fun s H4 => ∃ a xs, x = .ref a ∧ SqL K H4 a xs ∧ s ≠ some 0 ∧ newO H4 (.lst (pickV xs l u s)) Q
theorem pe_slice3 (K : PySem.W.Frag) (hK : X.K = K) (he : PE X e te) (hl : PO X lo tl) (hu : PO X hi th) (hs : PO X (some st) ts) : PE X (.Subscript e (.Slice lo hi (some st) p2) pos) (tSl3 K te tl th ts) := by
  subst hK
  intro pins s σ H Q I h
  refine Subscript_ (thn (he pins s σ H _ I h) fun v s1 ⟨x, H1, I1, r1, q1⟩ => ?_)
  refine wpAny_Slice (thn (hl pins s1 σ H1 _ I1 q1) fun vl s2 ⟨l, H2, I2, pl, q2⟩ => thn (hu pins s2 σ H2 _ I2 q2) fun vu s3 ⟨u, H3, I3, pu, q3⟩ => thn (hs pins s3 σ H3 _ I3 q3) fun vs s4 ⟨c, H4, I4, ps, a, xs, ea, hx, c0, q⟩ => ?_)
  subst ea
  cases r1
  have I5 : Inv X pins σ H4 { s4 with heap := s4.heap.push { cls := .type "slice", data := .fields #[vl, vu, vs] } } := I4.kept (t' := s4.toks) fun b ob q => Heap.get?_push_of_some _ q
  obtain ⟨its, r, pL, hz⟩ := I5.list hx
  have hlen := r.length
  refine tail_any (ops := [.ref a, .ref s4.heap.objs.size]) pL.isList.typeIs list_getitem_lookup ?_ (by with_unfolding_all rfl)
  refine wpAny_getItem_list_slice pL.isList (Heap.IsSliceOf.new ..) pl pu ps c0 ?_ (by simp only [List.size_toArray]; omega)
  have hz2 : (pickV xs l u c).length ≤ sizeLine := by
    have h1 := (pick_vals r l u c).length
    have h2 := slicePick_size_le its.toArray l u c
    have h3 : (slicePick its.toArray l u c).toList.length = (slicePick its.toArray l u c).size := by simp
    have h4 : its.toArray.size = its.length := by simp
    omega
  refine ⟨.ref _, upd H4 _ (.lst (pickV xs l u c)), I5.laid (t' := s4.toks) (fun b ob q => Heap.get?_push_of_some _ q) (Nat.le_refl _) ?_, rfl, q.at _ (I5.hok.fresh (Nat.le_refl _))⟩
  exact ⟨hz2, _, 0, pick_vals r l u c, by rw [show (slicePick its.toArray l u c).toList.toArray = slicePick its.toArray l u c by simp]; exact Heap.get?_push_size _ rfl⟩
end
end L2
namespace PL
open PySem PySem.Spec PyProof.Rows L2
variable {K : PySem.W.Frag}
section
variable {X : Cx} {a b e st : Expr} {pos p p1 p2 : Pos}
theorem vrs_ints {ι : List Addr} {H : Hp} (lo : Int) (n : Nat) : VRs K ι H (intsL lo n) (intsV lo n) := by
  unfold intsL intsV
  induction List.range n with
  | nil => exact .nil
  | cons k l ih => exact .cons (.int _) ih
def mTupR1 (m : MA) : ME := ⟨fun ps h Q => m.run ps h fun l h1 => match l with | [.int j] => okR 0 j ∧ Q (.tup (intsV 0 (j - 0).toNat)) h1 | _ => False, fun f q => m.mono (fun l h1 q => by
  revert q
  split
  · exact fun q => ⟨q.1, f _ _ q.2⟩
  · exact fun z => z) q⟩
def mListR2 (m : MA) : ML := ⟨fun ps h Q => m.run ps h fun l h1 => match l with | [.int i, .int j] => okR i j ∧ Q (intsV i (j - i).toNat) h1 | _ => False, fun f q => m.mono (fun l h1 q => by
  revert q
  split
  · exact fun q => ⟨q.1, f _ _ q.2⟩
  · exact fun z => z) q⟩
theorem j_tupR1 {m : MA} (hc : X.calm = true) (hg1 : Gl X "tuple") (hm1 : X.mg "tuple" = none) (hg2 : Gl X "range") (hm2 : X.mg "range" = none) (ha : JA X K [a] m)
    (hs0 : starEach [.Call (.Name "range" p1) [a] [] p2] X.env = (false, eval (.Call (.Name "range" p1) [a] [] p2) X.env) :: starEach [] X.env := by rfl) (hs : starEach [a] X.env = [(false, eval a X.env)] := by rfl) :
    JE X K (.Call (.Name "tuple" p) [.Call (.Name "range" p1) [a] [] p2] [] pos) (mTupR1 m) := ⟨PE.imp (rng1_core (r := fun Q H i j => okR i j ∧ newO H (.tup (intsL i (j - i).toNat)) Q) hg2 hm2 hg1 hm1 boot_tuple ha.p (fun I q => rng_tup hc I q.1.1 q.1.2 q.2) (by decide) (by decide) hs0 hs) fun σ H Q ⟨ι, ps, h, sr, hr, q⟩ => by
  refine ⟨ι, ps, h, sr, hr, m.mono (fun l h1 q1 ι1 vs H1 g1 r1 v1 => ?_) q⟩
  revert q1
  split
  · rintro ⟨q0, q1⟩
    cases v1 with
    | cons x t =>
      cases t; cases x
      exact ⟨_, rfl, q0, fun p H2 s2 h2 n2 => q1 ι1 _ H2 (g1.trans (Go.same s2)) (r1.same s2) (.tup (SqT.of h2) (vrs_ints _ _))⟩
  · exact False.elim⟩
theorem jl_listR2 {m : MA} (hc : X.calm = true) (hg1 : Gl X "list") (hm1 : X.mg "list" = none) (hg2 : Gl X "range") (hm2 : X.mg "range" = none) (ha : JA X K [a, b] m)
    (hs0 : starEach [.Call (.Name "range" p1) [a, b] [] p2] X.env = (false, eval (.Call (.Name "range" p1) [a, b] [] p2) X.env) :: starEach [] X.env := by rfl) (hs : starEach [a, b] X.env = [(false, eval a X.env), (false, eval b X.env)] := by rfl) (hs2 : starEach [b] X.env = [(false, eval b X.env)] := by rfl) :
    JL X K (.Call (.Name "list" p) [.Call (.Name "range" p1) [a, b] [] p2] [] pos) (mListR2 m) := ⟨PE.imp (rng2_core (r := fun Q H i j => okR i j ∧ newO H (.lst (intsL i (j - i).toNat)) Q) hg2 hm2 hg1 hm1 boot_list ha.p (fun I q => rng_lst hc I q.1.1 q.1.2 q.2) (by decide) (by decide) hs0 hs hs2) fun σ H Q ⟨ι, ps, h, sr, hr, q⟩ => by
  refine ⟨ι, ps, h, sr, hr, m.mono (fun l h1 q1 ι1 vs H1 g1 r1 v1 => ?_) q⟩
  revert q1
  split
  · rintro ⟨q0, q1⟩
    cases v1 with
    | cons x t => cases t with
      | cons y t =>
        cases t; cases x; cases y
        refine ⟨_, _, rfl, q0, fun p H2 s2 h2 n2 => ?_⟩
        obtain ⟨a1, a2, a3⟩ := Own.newO r1 s2 h2 n2 (vrs_ints _ _)
        exact q1 ι1 p H2 (g1.trans a2) a1 (g1.free' r1 n2) a3
  · exact False.elim⟩
theorem VRs.pick {ι : List Addr} {H : Hp} {vs : List V} {l : List PV} (r : VRs K ι H vs l) (lo hi st : Option Int) : VRs K ι H (pickV vs lo hi st) (pickV l lo hi st) := by
  unfold pickV
  rw [r.length]
  generalize sliceRange _ _ _ = ks
  induction ks with
  | nil => exact .nil
  | cons k ks ih =>
    rw [List.filterMap_cons, List.filterMap_cons]
    cases e : l[k]? with
    | none =>
      have e2 : vs[k]? = none := by
        rw [List.getElem?_eq_none_iff] at e ⊢
        rw [r.length]; exact e
      rw [e2]
      exact ih
    | some x =>
      obtain ⟨u, hu, ru⟩ := r.get e
      rw [hu]
      exact .cons ru ih
def mSl3 (m : MQL) (lo hi st : MO) : ML := ⟨fun ps h Q => m.run ps h fun S h1 => lo.run ps h1 fun i h2 => hi.run ps h2 fun j h3 => st.run ps h3 fun c h4 => S.ok h4 ∧ c ≠ some 0 ∧ Q (pickV S.items i j c) h4, fun f q => m.mono (fun _ _ q => lo.mono (fun _ _ q => hi.mono (fun _ _ q => st.mono (fun _ _ q => ⟨q.1, q.2.1, f _ _ q.2.2⟩) q) q) q) q⟩
theorem jl_sl3 (hK : X.K = K) {m : MQL} {lo hi ms : MO} {el eh : Option Expr} (he : JQL X K e m) (hl : JO X K el lo) (hh : JO X K eh hi) (hs : JO X K (some st) ms) : JL X K (.Subscript e (.Slice el eh (some st) p2) pos) (mSl3 m lo hi ms) := ⟨PE.imp (pe_slice3 K hK he.p hl.p hh.p hs.p) fun σ H Q ⟨ι, ps, h, sr, hr, q⟩ => by
  refine ⟨ι, ps, h, sr, hr, m.mono (fun S h1 q1 ι1 u1 H1 g1 r1 v1 ok => ?_) q⟩
  refine ⟨ι1, ps, h1, sr.go hr g1, r1, lo.mono (fun i h2 q2 ι2 H2 g2 r2 => ?_) q1⟩
  refine ⟨ι2, ps, h2, sr.go hr (g1.trans g2), r2, hi.mono (fun j h3 q3 ι3 H3 g3 r3 => ?_) q2⟩
  refine ⟨ι3, ps, h3, sr.go hr ((g1.trans g2).trans g3), r3, ms.mono (fun c h4 q4 ι4 H4 g4 r4 => ?_) q3⟩
  obtain ⟨a, rfl, hs⟩ := v1
  obtain ⟨vs, ⟨e1, _⟩, e2⟩ := hs ι4 H4 h4 (g2.trans (g3.trans g4)) r4 q4.1
  refine ⟨a, vs, rfl, e1, q4.2.1, fun p H5 s5 h5 n5 => ?_⟩
  obtain ⟨a1, a2, a3⟩ := Own.newO r4 s5 h5 n5 (e2.pick i j c)
  have gg := (g1.trans g2).trans (g3.trans g4)
  exact q4.2.2 ι4 p H5 (gg.trans a2) a1 (gg.free' r4 n5) a3⟩
end
end PL
set_option Elab.async false
set_option linter.all false
set_option maxRecDepth 100000
namespace PL
open PySem PySem.Spec PyProof.Rows L2
section
variable {D : PD} {ps : PSt} {h : PH} {m m1 m2 m3 mo mk : ME} {Q : QV} {QS : PSt → PH → Prop} {QL : List PV → PH → Prop} {QR : Src → PH → Prop} {i j n : Nat} {v x y : PV} {ra : MA} {ml : ML} {ql : MQL} {M : M2} {xs l : List PV} {lo hi st : MO} {t : PH} {A B C E F G : PO}
theorem r_augS (q : mo.run ps h fun x h1 => mk.run ps h1 fun y h2 => oGetL.f x y h2 fun z h3 => m.run ps h3 fun u h4 => M.f z u h4 fun w h5 => sList.f x y w h5 fun h6 => D.nx ps h6) : (mAugS mo mk m M).run D ps h := q
theorem r_oGetL {k : Int} (e : h[n]? = some (.lst l)) (k0 : 0 ≤ k) (k1 : k < 1000) (e2 : l[k.toNat]? = some v) (q : Q v h) : oGetL.f (.ref n) (.int k) h Q := by unfold oGetL; dsimp only; rw [e]; dsimp only; exact ⟨k0, k1, by rw [e2]; exact q⟩
def kTR1 (Q : QV) : List PV → PH → Prop := fun l h1 => match l with | [.int j] => okR 0 j ∧ Q (.tup (intsV 0 (j - 0).toNat)) h1 | _ => False
theorem r_tupR1 (q : ra.run ps h (kTR1 Q)) : (mTupR1 ra).run ps h Q := q
theorem r_kTR1 {j : Int} (c : okR 0 j) (q : Q (.tup (intsV 0 (j - 0).toNat)) h) : kTR1 Q [.int j] h := ⟨c, q⟩
def kLR2 (Q : List PV → PH → Prop) : List PV → PH → Prop := fun l h1 => match l with | [.int i, .int j] => okR i j ∧ Q (intsV i (j - i).toNat) h1 | _ => False
theorem r_listR2 (q : ra.run ps h (kLR2 QL)) : (mListR2 ra).run ps h QL := q
theorem r_kLR2 {i j : Int} (c : okR i j) (q : QL (intsV i (j - i).toNat) h) : kLR2 QL [.int i, .int j] h := ⟨c, q⟩
theorem r_sl3 (q : ql.run ps h fun S h1 => lo.run ps h1 fun i h2 => hi.run ps h2 fun j h3 => st.run ps h3 fun c h4 => S.ok h4 ∧ c ≠ some 0 ∧ QL (pickV S.items i j c) h4) : (mSl3 ql lo hi st).run ps h QL := q
def kAl (Q : QV) : List PV → PH → Prop := fun l h1 => Q (.ref h1.length) (h1 ++ [.lst l])
theorem r_al (q : ml.run ps h (kAl Q)) : (mAlloc ml).run ps h Q := q
theorem r_kAl (q : Q (.ref h.length) (h ++ [.lst l])) : kAl Q l h := q
theorem r_kAl1 (q : Q (.ref (h.length + 1)) (h ++ [A, .lst l])) : kAl Q l (h ++ [A]) := by unfold kAl; simpa using q
theorem r_kAl2 (q : Q (.ref (h.length + 2)) (h ++ [A, B, .lst l])) : kAl Q l (h ++ [A, B]) := by unfold kAl; simpa using q
theorem r_kAl3 (q : Q (.ref (h.length + 3)) (h ++ [A, B, C, .lst l])) : kAl Q l (h ++ [A, B, C]) := by unfold kAl; simpa using q
theorem r_kAl4 (q : Q (.ref (h.length + 4)) (h ++ [A, B, C, E, .lst l])) : kAl Q l (h ++ [A, B, C, E]) := by unfold kAl; simpa using q
theorem r_appendA (e : t[n]? = some (.lst l)) (z : l.length < sizeLine) (q : Q .non (h ++ t.set n (.lst (l ++ [y])))) : mmAppend.f (.ref (h.length + n)) [y] (h ++ t) Q := r_append ((get_app n).trans e) z (by rw [set_app]; exact q)
theorem r_appendA0 (e : t[0]? = some (.lst l)) (z : l.length < sizeLine) (q : Q .non (h ++ t.set 0 (.lst (l ++ [y])))) : mmAppend.f (.ref h.length) [y] (h ++ t) Q := r_appendA (n := 0) e z q
theorem r_popA (e : t[n]? = some (.lst (l ++ [y]))) (q : Q y (h ++ t.set n (.lst l))) : mmPop.f (.ref (h.length + n)) [] (h ++ t) Q := r_pop ((get_app n).trans e) (by rw [set_app]; exact q)
theorem r_extendA {S : Src} (e : t[n]? = some (.lst l)) (f : S.fz = false) (z : l.length + S.items.length ≤ sizeLine) (q : Q .non (h ++ t.set n (.lst (l ++ S.items)))) : mmExtend.f (.ref (h.length + n)) S (h ++ t) Q := r_extend ((get_app n).trans e) f z (by rw [set_app]; exact q)
theorem r_sListA {k : Int} {QH : PH → Prop} (e : t[n]? = some (.lst l)) (ej : ixN l.length k = some j) (q : QH (h ++ t.set n (.lst (l.set j v)))) : sList.f (.ref (h.length + n)) (.int k) v (h ++ t) QH := r_sList ((get_app n).trans e) ej (by rw [set_app]; exact q)
theorem r_sListA0 {k : Int} {QH : PH → Prop} (e : t[0]? = some (.lst l)) (ej : ixN l.length k = some j) (q : QH (h ++ t.set 0 (.lst (l.set j v)))) : sList.f (.ref h.length) (.int k) v (h ++ t) QH := r_sListA (n := 0) e ej q
theorem r_listAtA (e : t[n]? = some (.lst l)) : listAt (.ref (h.length + n)) (h ++ t) := r_listAt ((get_app n).trans e)
theorem r_listAtA0 (e : t[0]? = some (.lst l)) : listAt (.ref h.length) (h ++ t) := r_listAtA (n := 0) e
def kSlSet (l : List PV) (ps : PSt) (N : PSt → PH → Prop) (x i : PV) : QV := fun j h4 => match x, i, j with
  | .ref n, .int a, .int c => (match h4[n]? with | some (.lst xs) => 0 ≤ a ∧ a ≤ c ∧ c ≤ xs.length ∧ xs.length + l.length ≤ sizeLine ∧ N ps (h4.set n (.lst (xs.take a.toNat ++ l ++ xs.drop c.toNat))) | _ => False)
  | _, _, _ => False
theorem r_slset {mlo mhi : ME} (q : ml.run ps h fun l h1 => mo.run ps h1 fun x h2 => mlo.run ps h2 fun i h3 => mhi.run ps h3 (kSlSet l ps D.nx x i)) : (mSlSet mo mlo mhi ml).run D ps h := q
end
section
variable {Q : QV} {h : PH} {QT : Bool → PH → Prop} {ps : PSt} {tc : MT}
theorem r_kNotT (q : Q (.bl false) h) : kNot Q (.bl true) h := q
theorem r_kNotF (q : Q (.bl true) h) : kNot Q (.bl false) h := q
def kNt (Q : Bool → PH → Prop) : Bool → PH → Prop := fun c h => Q (!c) h
theorem r_nt (q : tc.run ps h (kNt QT)) : (mNotT tc).run ps h QT := q
theorem r_kNtT (q : QT false h) : kNt QT true h := q
theorem r_kNtF (q : QT true h) : kNt QT false h := q
theorem r_kNt {c : Bool} (q : QT (!c) h) : kNt QT c h := q
theorem r_eqIs {i : Int} (q : Q (.bl true) h) : oEq.f (.int i) (.int i) h Q := r_eqI (by rw [decide_eq_true rfl]; exact q)
theorem r_eqSs {i : Str} (q : Q (.bl true) h) : oEq.f (.str i) (.str i) h Q := r_eqS (by rw [decide_eq_true rfl]; exact q)
theorem r_eqBs {i : Bool} (q : Q (.bl true) h) : oEq.f (.bl i) (.bl i) h Q := r_eqB (by rw [decide_eq_true rfl]; exact q)
theorem r_neIs {i : Int} (q : Q (.bl false) h) : oNe.f (.int i) (.int i) h Q := r_neI (by rw [decide_eq_true rfl]; exact q)
theorem r_neSs {i : Str} (q : Q (.bl false) h) : oNe.f (.str i) (.str i) h Q := r_neS (by rw [decide_eq_true rfl]; exact q)
end
theorem r_kIsi_str_S {Q : QV} {h : PH} {p : Str} (q : Q (.bl true) h) : kIsi .str Q (.str p) h := ⟨trivial, q⟩
theorem r_kIsi_str_T {Q : QV} {h : PH} {l : List PV} (q : Q (.bl false) h) : kIsi .str Q (.tup l) h := ⟨trivial, q⟩
theorem r_kIsi_str_I {Q : QV} {h : PH} {i : Int} (q : Q (.bl false) h) : kIsi .str Q (.int i) h := ⟨trivial, q⟩
theorem r_kIsi_str_B {Q : QV} {h : PH} {c : Bool} (q : Q (.bl false) h) : kIsi .str Q (.bl c) h := ⟨trivial, q⟩
theorem r_kIsi_str_N {Q : QV} {h : PH}  (q : Q (.bl false) h) : kIsi .str Q .non h := ⟨trivial, q⟩
theorem r_kIsi_tup_S {Q : QV} {h : PH} {p : Str} (q : Q (.bl false) h) : kIsi .tup Q (.str p) h := ⟨trivial, q⟩
theorem r_kIsi_tup_T {Q : QV} {h : PH} {l : List PV} (q : Q (.bl true) h) : kIsi .tup Q (.tup l) h := ⟨trivial, q⟩
theorem r_kIsi_tup_I {Q : QV} {h : PH} {i : Int} (q : Q (.bl false) h) : kIsi .tup Q (.int i) h := ⟨trivial, q⟩
theorem r_kIsi_tup_B {Q : QV} {h : PH} {c : Bool} (q : Q (.bl false) h) : kIsi .tup Q (.bl c) h := ⟨trivial, q⟩
theorem r_kIsi_tup_N {Q : QV} {h : PH}  (q : Q (.bl false) h) : kIsi .tup Q .non h := ⟨trivial, q⟩
theorem r_kIsi_int_S {Q : QV} {h : PH} {p : Str} (q : Q (.bl false) h) : kIsi .int Q (.str p) h := ⟨trivial, q⟩
theorem r_kIsi_int_T {Q : QV} {h : PH} {l : List PV} (q : Q (.bl false) h) : kIsi .int Q (.tup l) h := ⟨trivial, q⟩
theorem r_kIsi_int_I {Q : QV} {h : PH} {i : Int} (q : Q (.bl true) h) : kIsi .int Q (.int i) h := ⟨trivial, q⟩
theorem r_kIsi_int_B {Q : QV} {h : PH} {c : Bool} (q : Q (.bl true) h) : kIsi .int Q (.bl c) h := ⟨trivial, q⟩
theorem r_kIsi_int_N {Q : QV} {h : PH}  (q : Q (.bl false) h) : kIsi .int Q .non h := ⟨trivial, q⟩
theorem r_kIsi_bool_S {Q : QV} {h : PH} {p : Str} (q : Q (.bl false) h) : kIsi .bool Q (.str p) h := ⟨trivial, q⟩
theorem r_kIsi_bool_T {Q : QV} {h : PH} {l : List PV} (q : Q (.bl false) h) : kIsi .bool Q (.tup l) h := ⟨trivial, q⟩
theorem r_kIsi_bool_I {Q : QV} {h : PH} {i : Int} (q : Q (.bl false) h) : kIsi .bool Q (.int i) h := ⟨trivial, q⟩
theorem r_kIsi_bool_B {Q : QV} {h : PH} {c : Bool} (q : Q (.bl true) h) : kIsi .bool Q (.bl c) h := ⟨trivial, q⟩
theorem r_kIsi_bool_N {Q : QV} {h : PH}  (q : Q (.bl false) h) : kIsi .bool Q .non h := ⟨trivial, q⟩
theorem r_isN_S {Q : QV} {h : PH} {p : Str} (q : Q (.bl false) h) : oIsN.f (.str p) .non h Q := q
theorem r_notN_S {Q : QV} {h : PH} {p : Str} (q : Q (.bl true) h) : oNotN.f (.str p) .non h Q := q
theorem r_isN_T {Q : QV} {h : PH} {l : List PV} (q : Q (.bl false) h) : oIsN.f (.tup l) .non h Q := q
theorem r_notN_T {Q : QV} {h : PH} {l : List PV} (q : Q (.bl true) h) : oNotN.f (.tup l) .non h Q := q
theorem r_isN_I {Q : QV} {h : PH} {i : Int} (q : Q (.bl false) h) : oIsN.f (.int i) .non h Q := q
theorem r_notN_I {Q : QV} {h : PH} {i : Int} (q : Q (.bl true) h) : oNotN.f (.int i) .non h Q := q
theorem r_isN_B {Q : QV} {h : PH} {c : Bool} (q : Q (.bl false) h) : oIsN.f (.bl c) .non h Q := q
theorem r_notN_B {Q : QV} {h : PH} {c : Bool} (q : Q (.bl true) h) : oNotN.f (.bl c) .non h Q := q
theorem r_isN_N {Q : QV} {h : PH}  (q : Q (.bl true) h) : oIsN.f .non .non h Q := q
theorem r_notN_N {Q : QV} {h : PH}  (q : Q (.bl false) h) : oNotN.f .non .non h Q := q
mutual
theorem dat_lim (n : Nat) : ∀ (v : PV), v.dat = true → v.lim n = true
  | .non, _ => by rw [PV.lim] <;> simp
  | .bl _, _ => by rw [PV.lim] <;> simp
  | .int _, _ => by rw [PV.lim] <;> simp
  | .str _, _ => by rw [PV.lim] <;> simp
  | .ty _, h => by rw [PV.dat] at h; cases h
  | .ref _, h => by rw [PV.dat] at h; cases h
  | .cl _, h => by rw [PV.dat] at h; cases h
  | .tup l, h => by rw [PV.lim]; exact datL_lim n l (by rw [PV.dat] at h; exact h)
theorem datL_lim (n : Nat) : ∀ (l : List PV), datL l = true → limL n l = true
  | [], _ => by rw [limL]
  | x :: l, h => by
    rw [datL, Bool.and_eq_true] at h
    rw [limL, dat_lim n x h.1, datL_lim n l h.2]; rfl
end
theorem datL_iff : ∀ {l : List PV}, datL l = true ↔ ∀ x ∈ l, x.dat = true
  | [] => by simp [datL]
  | x :: l => by rw [datL, Bool.and_eq_true, datL_iff]; simp
theorem depL_le {n : Nat} : ∀ {l : List PV}, (∀ x ∈ l, x.dep ≤ n) → depL l ≤ n
  | [], _ => by rw [depL]; omega
  | x :: l, h => by
    have h1 := h x List.mem_cons_self
    have h2 := depL_le (l := l) fun y hy => h y (List.mem_cons_of_mem _ hy)
    rw [depL]; omega
theorem limL_iff {n : Nat} : ∀ {l : List PV}, limL n l = true ↔ ∀ x ∈ l, x.lim n = true
  | [] => by simp [limL]
  | x :: l => by rw [limL, Bool.and_eq_true, limL_iff]; simp
theorem limH_set {n k : Nat} {h : PH} {o : PO} (a : limH n h) (b : PO.lim n o = true) : limH n (h.set k o) := fun u hu => by
  rcases List.mem_or_eq_of_mem_set hu with z | z
  · exact a u z
  · rw [z]; exact b
mutual
/-- plain data: texts, None, whole numbers, and tuples of such -/
def PV.pl : PV → Bool
  | .non => true
  | .int _ => true
  | .str _ => true
  | .tup l => plL l
  | _ => false
def plL : List PV → Bool
  | [] => true
  | x :: l => x.pl && plL l
end
mutual
def PV.wid (n : Nat) : PV → Bool
  | .tup l => decide (l.length ≤ n) && widL n l
  | _ => true
def widL (n : Nat) : List PV → Bool
  | [] => true
  | x :: l => x.wid n && widL n l
end
theorem plL_iff : ∀ {l : List PV}, plL l = true ↔ ∀ x ∈ l, x.pl = true
  | [] => by simp [plL]
  | x :: l => by rw [plL, Bool.and_eq_true, plL_iff]; simp
theorem widL_iff {n : Nat} : ∀ {l : List PV}, widL n l = true ↔ ∀ x ∈ l, x.wid n = true
  | [] => by simp [widL]
  | x :: l => by rw [widL, Bool.and_eq_true, widL_iff]; simp
section
variable {K : PySem.W.Frag}
theorem HR.relabel {ι : List Addr} {H : Hp} {h : PH} {n : Nat} {a : Addr} {o : PO} (r : HR K ι H h) (hn : ι[n]? = some a) (ho : OR K ι H a o) : HR K ι H (h.set n o) := (r.put hn (fun _ _ _ q => q) fun _ => ho).1
theorem set_same {α : Type} {h : List α} {n : Nat} {o : α} (e : h[n]? = some o) : h.set n o = h := by
  obtain ⟨h1, h2⟩ := List.getElem?_eq_some_iff.mp e
  rw [← h2, List.set_getElem_self]
theorem spOf_opq {F0 F1 : MF} {φ : List V → Prop} (hφ : ∀ ι H vs, φ vs → ∃ xs, VRs K ι H vs xs)
    (hF : ∀ l h Q, F1.run l h Q → ∃ n, h[n]? = some (.opq φ) ∧ ∀ ι H vs xs, φ vs → VRs K ι H vs xs → F0.run l (h.set n (.lst xs)) fun v h' => ∃ xs', h' = h.set n (.lst xs') ∧ (∀ ι H vs, VRs K ι H vs xs' → φ vs) ∧ Q v h) :
    ∀ vs H Q E, spOf K F1 vs H Q E → spOf K F0 vs H Q E := by
  rintro vs H Q E ⟨ι, h, l, hr, hv, q⟩
  obtain ⟨n, ho, hF⟩ := hF l h _ q
  have hn : n < ι.length := by rw [hr.len]; exact lt_get ho
  have ha := List.getElem?_eq_getElem hn
  obtain ⟨ws, e1, e2⟩ := hr.obj n _ _ ha ho
  obtain ⟨xs, hx⟩ := hφ ι H ws e2
  refine ⟨ι, h.set n (.lst xs), l, hr.relabel ha ⟨ws, e1, hx⟩, hv, F0.mono (fun v h' => ?_) (hF ι H ws xs e2 hx)⟩
  rintro ⟨xs', rfl, p, qv⟩ ι' u H' g r' vu
  have ha' := g.at ha
  have hl : n < h.length := lt_get ho
  obtain ⟨ws', f1, f2⟩ := r'.obj n _ _ ha' (by rw [List.getElem?_set_self hl])
  have := r'.relabel (o := .opq φ) ha' ⟨ws', f1, p _ _ _ f2⟩
  rw [List.set_set, set_same ho] at this
  exact qv ι' u H' g this vu
theorem spL_opq {F0 : MFL} {F1 : MF} {φ : List V → Prop} (hF : ∀ l h Q, F1.run l h Q → F0.run l h fun xs h' => (∀ ι H vs, VRs K ι H vs xs → φ vs) ∧ Q (.ref h'.length) (h' ++ [.opq φ])) :
    ∀ vs H Q E, spOf K F1 vs H Q E → spL K F0 vs H Q E := by
  rintro vs H Q E ⟨ι, h, l, hr, hv, q⟩
  refine ⟨ι, h, l, hr, hv, F0.mono (fun xs h' q1 ι' a H' g r n o => ?_) (hF l h _ q)⟩
  obtain ⟨na, ws, e1, e2⟩ := o
  obtain ⟨b1, b2⟩ := r.adopt (o := .opq φ) na ⟨ws, e1, q1.1 _ _ _ e2⟩
  exact q1.2 _ _ H' (g.adopt n) b1 b2
end
end PL
set_option Elab.async false
set_option linter.all false
set_option maxRecDepth 100000
set_option maxHeartbeats 1000000
namespace My
open PySem PySem.Spec PyProof.Rows L2 PL
def b_parts_of : MS :=
  (mSeq (mAsg (mAlloc (mLst mNil)) (gSet 1))
  (mSeq (mAsg (mAlloc (mLst (mCons (mVar 0) mNil))) (gSet 2))
  (mSeq (mWhile (mTru (mVar 2)) (mSeq (mAsg (mLM mmPop (mVar 2) mNil) (gSet 3))
  (mSeq (mDrop (mLM mmAppend (mVar 1) (mCons (mVar 3) mNil)))
  (mIfS (mNotT (mTru (mIsi .str (mVar 3)))) (mDrop (mLMQ mmExtend (mVar 2) (mSq (mVar 3)))) mNext))))
  (mRet (mAlloc (mRevL (mSqL (mVar 1))))))))
def b_nodes (F_parts_of : MFL) : MS :=
  (mSeq (mAsg (mAlloc (mLst mNil)) (gSet 1))
  (mSeq (mAsg (mAlloc (mLst mNil)) (gSet 2))
  (mSeq (mFor (mWalk (mOwn (mCallL F_parts_of (mCons (mVar 0) mNil)))) (gSet 3) (mSeq (mIfS (mTru (mIsi .str (mVar 3))) (mDrop (mLM mmAppend (mVar 1) (mCons (mVar 3) mNil))) (mSeq (mAsg (mLM mmPop (mVar 2) mNil) (gSet 4))
  (mSeq (mAsg (mLM mmPop (mVar 2) mNil) (gSet 5))
  (mDrop (mLM mmAppend (mVar 1) (mCons (mTup (mCons (mVar 5) (mCons (mVar 4) mNil))) mNil))))))
  (mDrop (mLM mmAppend (mVar 2) (mCons (mOp oSub (mBi bLen (mCons (mVar 1) mNil)) (mC (.int 1))) mNil)))))
  (mRet (mBiQ bTup (mSq (mVar 1)))))))
def b_halves : MS :=
  (mRet (mIf (mTru (mIsi .str (mVar 0))) (mTup mNil) (mVar 0)))
def b_ahead_of (F_nodes : MF) (F_halves : MF) : MS :=
  (mSeq (mAsg (mCall F_nodes (mCons (mVar 0) mNil)) (gSet 1))
  (mSeq (mAsg (mAlloc (mLc [none] (mWalk (mSq (mVar 1))) (gSet 0) mAll (mC .non))) (gSet 3))
  (mSeq (mFor (mEnum (mSq (mVar 1))) (gTupM 2 (gsCons (gSet 4) (gsCons (gSet 2) gsNil))) (mFor (mWalk (mSq (mCall F_halves (mCons (mVar 2) mNil)))) (gSet 5) (mAsg (mVar 4) (gSubM (mVar 3) (mVar 5) sList))))
  (mRet (mBiQ bTup (mSq (mVar 3)))))))
def b_name_of : MS :=
  (mRet (mIf (mTru (mIsi .str (mIx (mSq (mVar 0)) (mVar 1)))) (mIx (mSq (mVar 0)) (mVar 1)) (mVar 1)))
def b_lines_up (F_ahead_of : MF) : MS :=
  (mSeq (mAsg (mCall F_ahead_of (mCons (mVar 0) mNil)) (gSet 1))
  (mSeq (mAsg (mAlloc (mLc [none] (mWalk (mSq (mVar 1))) (gSet 0) mAll (mTup mNil))) (gSet 3))
  (mSeq (mFor (mRange3 (mCons (mOp oSub (mBi bLen (mCons (mVar 1) mNil)) (mC (.int 1))) (mCons (mNeg (mC (.int 1))) (mCons (mNeg (mC (.int 1))) mNil)))) (gSet 2) (mSeq (mAsg (mIf (mB (mOp oIsN (mIx (mSq (mVar 1)) (mVar 2)) (mC .non))) (mTup mNil) (mIx (mSq (mVar 3)) (mIx (mSq (mVar 1)) (mVar 2)))) (gSet 4))
  (mAsg (mOp oAdd (mTup (mCons (mVar 2) mNil)) (mVar 4)) (gSubM (mVar 3) (mVar 2) sList))))
  (mRet (mVar 3)))))
def b_apart_from : MS :=
  (mRet (mBiQ bTup (mOwn (mLc [none, some 1, some 0] (mRange1 (mCons (mBi bLen (mCons (mVar 0) mNil)) mNil)) (gSet 0) (mAndT (mB (mOpQ oNotIn (mVar 0) (mSq (mIx (mSq (mVar 2)) (mVar 1))))) (mB (mOpQ oNotIn (mVar 1) (mSq (mIx (mSq (mVar 2)) (mVar 0)))))) (mVar 0)))))
def b_ground (F_nodes : MF) (F_lines_up : MFL) (F_apart_from : MF) (F_halves : MF) (F_name_of : MF) : MS :=
  (mSeq (mAsg (mCall F_nodes (mCons (mVar 0) mNil)) (gSet 1))
  (mSeq (mAsg (mAlloc (mCallL F_lines_up (mCons (mVar 0) mNil))) (gSet 2))
  (mRet (mBiQ bTup (mOwn (mLc [none, some 1, some 2] (mRange1 (mCons (mBi bLen (mCons (mVar 1) mNil)) mNil)) (gSet 0) mAll (mTup (mCons (mCall F_name_of (mCons (mVar 1) (mCons (mVar 0) mNil))) (mCons (mC (.int 0)) (mCons (mCall F_halves (mCons (mIx (mSq (mVar 1)) (mVar 0)) mNil)) (mCons (mCall F_apart_from (mCons (mVar 2) (mCons (mVar 0) mNil))) mNil)))))))))))
def b__law_pot : MS :=
  (mSeq (mAsg (mC (.int 0)) (gSet 2))
  (mSeq (mIfS (mB (mOp oLt (mVar 1) (mBi bLen (mCons (mVar 0) mNil)))) (mAsg (mBi bAbs (mCons (mIx (mSq (mVar 0)) (mVar 1)) mNil)) (gSet 2)) mNext)
  (mSeq (mAsg (mOp oMul (mOp oMod (mVar 2) (mOp oMul (mOp oPow (mC (.int 10)) (mC (.int 60))) (mOp oPow (mC (.int 10)) (mC (.int 60))))) (mBi bInt (mCons (mOp oGe (mVar 2) (mOp oPow (mC (.int 10)) (mC (.int 18)))) mNil))) (gSet 3))
  (mRet (mAlloc (mLst (mCons (mVar 3) (mCons (mOp oMod (mOp oAdd (mOp oAdd (mVar 2) (mOp oMul (mC (.int 104729)) (mVar 1))) (mC (.int 7))) (mC (.int 2305843009213693951))) (mCons (mC (.int 0)) mNil)))))))))
def b__law_take : MS :=
  (mSeq (mIfS (mB (mOp oGt (mIx (mSq (mVar 0)) (mC (.int 0))) (mC (.int 0)))) (mSeq (mAsg (mOp oMod (mIx (mSq (mVar 0)) (mC (.int 0))) (mVar 1)) (gSet 2))
  (mSeq (mAsg (mOp oDiv (mIx (mSq (mVar 0)) (mC (.int 0))) (mVar 1)) (gSubM (mVar 0) (mC (.int 0)) sList))
  (mRet (mVar 2)))) mNext)
  (mSeq (mAugS (mVar 0) (mC (.int 2)) (mC (.int 1)) ipAdd)
  (mSeq (mAsg (mOp oMod (mOp oAdd (mOp oAdd (mOp oMul (mIx (mSq (mVar 0)) (mC (.int 1))) (mC (.int 69069))) (mOp oMul (mC (.int 9973)) (mIx (mSq (mVar 0)) (mC (.int 2))))) (mC (.int 5))) (mC (.int 2305843009213693921))) (gSet 3))
  (mSeq (mAsg (mOp oMod (mOp oMul (mVar 3) (mOp oAdd (mOp oAdd (mOp oMod (mVar 3) (mC (.int 999983))) (mOp oMul (mC (.int 2)) (mIx (mSq (mVar 0)) (mC (.int 2))))) (mC (.int 3)))) (mC (.int 2305843009213693907))) (gSubM (mVar 0) (mC (.int 1)) sList))
  (mRet (mOp oMod (mOp oDiv (mIx (mSq (mVar 0)) (mC (.int 1))) (mC (.int 65537))) (mVar 1)))))))
def b__law_words (F__law_take : MF) : MS :=
  (mSeq (mAsg (mC (.str "abcdefghijklmnopqrstuvwxyz")) (gSet 2))
  (mSeq (mAsg (mCall F__law_take (mCons (mVar 0) (mCons (mC (.int 26)) mNil))) (gSet 3))
  (mSeq (mAsg (mIx (mOwn (mLst (mCons (mC (.int 1)) (mCons (mC (.int 3)) (mCons (mC (.int 5)) (mCons (mC (.int 7)) (mCons (mC (.int 9)) (mCons (mC (.int 11)) mNil)))))))) (mCall F__law_take (mCons (mVar 0) (mCons (mC (.int 6)) mNil)))) (gSet 4))
  (mSeq (mAsg (mIx (mOwn (mLst (mCons (mC (.str "")) (mCons (mC (.str "k")) mNil)))) (mCall F__law_take (mCons (mVar 0) (mCons (mC (.int 2)) mNil)))) (gSet 5))
  (mSeq (mAsg (mAlloc (mLst (mCons (mC (.str "")) (mCons (mC (.str "q")) (mCons (mC (.str "zz")) (mCons (mC (.str "abcdef")) mNil)))))) (gSet 6))
  (mSeq (mAsg (mAlloc (mLst mNil)) (gSet 7))
  (mSeq (mFor (mRange1 (mCons (mVar 1) mNil)) (gSet 8) (mSeq (mAsg (mOp oIxS (mVar 2) (mOp oMod (mOp oAdd (mVar 3) (mOp oMul (mVar 4) (mVar 8))) (mC (.int 26)))) (gSet 9))
  (mDrop (mLM mmAppend (mVar 7) (mCons (mOp oAdd (mOp oAdd (mVar 5) (mVar 9)) (mIx (mSq (mVar 6)) (mOp oMod (mOp oAdd (mVar 3) (mVar 8)) (mC (.int 4))))) mNil)))))
  (mRet (mVar 7)))))))))
def b__law_same (F__law_same : MF) : MS :=
  (mSeq (mIfS (mTru (mIsi .tup (mVar 1))) (mSeq (mIfS (mOrT (mNotT (mTru (mIsi .tup (mVar 0)))) (mB (mOp oNe (mBi bLen (mCons (mVar 0) mNil)) (mBi bLen (mCons (mVar 1) mNil))))) (mRet (mC (.bl false))) mNext)
  (mRet (mAllB (mLc [none, none] (mZip (mVar 0) (mVar 1)) (gTupM 2 (gsCons (gSet 0) (gsCons (gSet 1) gsNil))) mAll (mCall F__law_same (mCons (mVar 0) (mCons (mVar 1) mNil))))))) mNext)
  (mSeq (mIfS (mOrT (mTru (mIsi .str (mVar 1))) (mB (mOp oIsN (mVar 1) (mC .non)))) (mRet (mAndV (mOp oEq (mIsi .str (mVar 0)) (mIsi .str (mVar 1))) (mOp oEq (mVar 0) (mVar 1)))) mNext)
  (mRet (mAndV (mIsi .int (mVar 0)) (mAndV (mNotV (mIsi .bool (mVar 0))) (mOp oEq (mVar 0) (mVar 1)))))))
def b__law_first_comb : MS :=
  (mSeq (mAsg (mIx (mSq (mVar 0)) (mC (.int 0))) (gSet 1))
  (mSeq (mFor (mWalk (mOwn (mSlL (mSqL (mVar 0)) (moSome (mC (.int 1))) moNone))) (gSet 2) (mAsg (mTup (mCons (mVar 1) (mCons (mVar 2) mNil))) (gSet 1)))
  (mRet (mVar 1))))
def b__law_last_comb : MS :=
  (mSeq (mAsg (mIx (mSq (mVar 0)) (mNeg (mC (.int 1)))) (gSet 1))
  (mSeq (mFor (mWalk (mOwn (mSl3 (mSqL (mVar 0)) (moSome (mNeg (mC (.int 2)))) moNone (moSome (mNeg (mC (.int 1))))))) (gSet 2) (mAsg (mTup (mCons (mVar 2) (mCons (mVar 1) mNil))) (gSet 1)))
  (mRet (mVar 1))))
def b__law_first_stays : MS :=
  (mSeq (mAsg (mBi bLen (mCons (mVar 0) mNil)) (gSet 1))
  (mSeq (mAsg (mAlloc (mLc [none] (mRange2 (mCons (mC (.int 1)) (mCons (mVar 1) mNil))) (gSet 0) mAll (mOp oSub (mOp oMul (mC (.int 2)) (mVar 0)) (mC (.int 1))))) (gSet 3))
  (mSeq (mAsg (mAlloc (mLst (mCons (mTup (mCons (mIx (mSq (mVar 0)) (mC (.int 0))) (mCons (mC (.int 0)) (mCons (mTup mNil) (mCons (mBiQ bTup (mSq (mVar 3))) mNil))))) mNil))) (gSet 4))
  (mSeq (mFor (mRange2 (mCons (mC (.int 1)) (mCons (mVar 1) mNil))) (gSet 2) (mSeq (mAsg (mBiQ bTup (mOwn (mLc [none, some 2] (mWalk (mSq (mVar 3))) (gSet 0) (mB (mOp oGt (mVar 0) (mOp oSub (mOp oMul (mC (.int 2)) (mVar 1)) (mC (.int 1))))) (mVar 0)))) (gSet 5))
  (mSeq (mDrop (mLM mmAppend (mVar 4) (mCons (mTup (mCons (mIx (mSq (mVar 0)) (mVar 2)) (mCons (mC (.int 0)) (mCons (mTup mNil) (mCons (mOp oAdd (mTupR1 (mCons (mOp oSub (mOp oMul (mC (.int 2)) (mVar 2)) (mC (.int 1))) mNil)) (mVar 5)) mNil))))) mNil)))
  (mDrop (mLM mmAppend (mVar 4) (mCons (mTup (mCons (mOp oMul (mC (.int 2)) (mVar 2)) (mCons (mC (.int 0)) (mCons (mTup (mCons (mOp oSub (mOp oMul (mC (.int 2)) (mVar 2)) (mC (.int 2))) (mCons (mOp oSub (mOp oMul (mC (.int 2)) (mVar 2)) (mC (.int 1))) mNil))) (mCons (mVar 5) mNil))))) mNil))))))
  (mRet (mBiQ bTup (mSq (mVar 4))))))))
def b__law_last_stays : MS :=
  (mSeq (mAsg (mBi bLen (mCons (mVar 0) mNil)) (gSet 1))
  (mSeq (mAsg (mAlloc (mLst mNil)) (gSet 2))
  (mSeq (mFor (mRange1 (mCons (mVar 1) mNil)) (gSet 3) (mSeq (mAsg (mAlloc (mCatL (mOwnL (mLc [none, some 3] (mRange1 (mCons (mVar 1) mNil)) (gSet 0) (mB (mOp oNe (mVar 0) (mVar 1))) (mVar 0))) (mOwnL (mListR2 (mCons (mVar 1) (mCons (mBi bMax (mCons (mVar 1) (mCons (mOp oSub (mOp oSub (mOp oMul (mC (.int 2)) (mVar 1)) (mC (.int 2))) (mVar 3)) mNil))) mNil)))))) (gSet 4))
  (mDrop (mLM mmAppend (mVar 2) (mCons (mTup (mCons (mIx (mSq (mVar 0)) (mVar 3)) (mCons (mC (.int 0)) (mCons (mTup mNil) (mCons (mBiQ bTup (mSq (mVar 4))) mNil))))) mNil)))))
  (mSeq (mFor (mRange1 (mCons (mOp oSub (mVar 1) (mC (.int 1))) mNil)) (gSet 3) (mDrop (mLM mmAppend (mVar 2) (mCons (mTup (mCons (mOp oAdd (mVar 1) (mVar 3)) (mCons (mC (.int 0)) (mCons (mTup (mCons (mOp oSub (mOp oSub (mVar 1) (mC (.int 2))) (mVar 3)) (mCons (mOp oSub (mOp oAdd (mVar 1) (mVar 3)) (mC (.int 1))) mNil))) (mCons (mTupR1 (mCons (mOp oSub (mOp oSub (mVar 1) (mC (.int 2))) (mVar 3)) mNil)) mNil))))) mNil))))
  (mRet (mBiQ bTup (mSq (mVar 2))))))))
def b_law (F__law_pot : MF) (F__law_words : MFL) (F__law_take : MF) (F__law_same : MF) (F__law_first_stays : MF) (F_ground : MF) (F__law_first_comb : MF) (F__law_last_stays : MF) (F__law_last_comb : MF) : MS :=
  (mSeq (mFor (mRange1 (mCons (mBi bMax (mCons (mC (.int 1)) (mCons (mBi bMin (mCons (mBi bLen (mCons (mVar 0) mNil)) (mCons (mC (.int 8)) mNil))) mNil))) mNil)) (gSet 1) (mSeq (mAsg (mCall F__law_pot (mCons (mVar 0) (mCons (mVar 1) mNil))) (gSet 2))
  (mSeq (mAsg (mAlloc (mCallL F__law_words (mCons (mVar 2) (mCons (mOp oAdd (mC (.int 1)) (mCall F__law_take (mCons (mVar 2) (mCons (mC (.int 8)) mNil)))) mNil)))) (gSet 3))
  (mSeq (mIfS (mNotT (mTru (mCall F__law_same (mCons (mCall F_ground (mCons (mCall F__law_first_comb (mCons (mVar 3) mNil)) mNil)) (mCons (mCall F__law_first_stays (mCons (mVar 3) mNil)) mNil))))) (mRet (mC (.bl false))) mNext)
  (mIfS (mNotT (mTru (mCall F__law_same (mCons (mCall F_ground (mCons (mCall F__law_last_comb (mCons (mVar 3) mNil)) mNil)) (mCons (mCall F__law_last_stays (mCons (mVar 3) mNil)) mNil))))) (mRet (mC (.bl false))) mNext)))))
  (mRet (mCall F__law_same (mCons (mCall F_ground (mCons (mC (.str "a")) mNil)) (mCons (mTup (mCons (mTup (mCons (mC (.str "a")) (mCons (mC (.int 0)) (mCons (mTup mNil) (mCons (mTup mNil) mNil))))) mNil)) mNil)))))
end My
set_option Elab.async false
set_option linter.all false
set_option maxRecDepth 100000
namespace My
open PySem PySem.Spec PyProof.Rows L2 PL
local macro_rules | `(tactic| mod_arm) => `(tactic| ((try dsimp only [List.set_cons_succ, List.set_cons_zero]); first
  | with_reducible refine r_seq ?_
  | with_reducible refine r_asg ?_
  | with_reducible refine r_gset ?_
  | ((with_reducible refine r_var (v := ?rdV) ?rdE ?_); case rdE => exact rfl)
  | with_reducible refine r_c ?_
  | with_reducible refine r_op ?_
  | with_reducible refine r_addI ?_
  | with_reducible refine r_sub ?_
  | ((with_reducible refine r_mul ?rdC ?_); (case rdC => first | exact mul_l (by omega) (by omega) | exact mul_r (by omega) (by omega)))
  | ((with_reducible refine r_div ?rdC ?_); (case rdC => exact ⟨by omega, by omega⟩))
  | ((with_reducible refine r_mod ?rdC ?_); (case rdC => first | omega | decide))
  | ((with_reducible refine r_pow ?rdC ?_); (case rdC => exact ⟨by decide, by decide, by decide⟩))
  | with_reducible refine r_lt ?_
  | with_reducible refine r_le ?_
  | with_reducible refine r_gt ?_
  | with_reducible refine r_ge ?_
  | with_reducible refine r_eqIs ?_
  | with_reducible refine r_eqSs ?_
  | with_reducible refine r_eqBs ?_
  | with_reducible refine r_neIs ?_
  | with_reducible refine r_neSs ?_
  | with_reducible refine r_eqI ?_
  | with_reducible refine r_neI ?_
  | with_reducible refine r_eqS ?_
  | with_reducible refine r_neS ?_
  | with_reducible refine r_eqB ?_
  | with_reducible refine r_neB ?_
  | with_reducible refine r_eqN ?_
  | with_reducible refine r_isN_S ?_
  | with_reducible refine r_isN_T ?_
  | with_reducible refine r_isN_I ?_
  | with_reducible refine r_isN_B ?_
  | with_reducible refine r_isN_N ?_
  | with_reducible refine r_notN_S ?_
  | with_reducible refine r_notN_T ?_
  | with_reducible refine r_notN_I ?_
  | with_reducible refine r_notN_B ?_
  | with_reducible refine r_notN_N ?_
  | with_reducible refine r_isB ?_
  | with_reducible refine r_isNotB ?_
  | with_reducible refine r_B ?_
  | with_reducible refine r_kB ?_
  | with_reducible refine r_andV ?_
  | with_reducible refine r_orV ?_
  | with_reducible refine r_notV ?_
  | with_reducible refine r_kAndT ?_
  | with_reducible refine r_kAndF ?_
  | with_reducible refine r_kOrT ?_
  | with_reducible refine r_kOrF ?_
  | with_reducible refine r_kNotT ?_
  | with_reducible refine r_kNotF ?_
  | with_reducible refine r_kNot ?_
  | with_reducible refine r_andT ?_
  | with_reducible refine r_orT ?_
  | with_reducible refine r_nt ?_
  | with_reducible refine r_kNtT ?_
  | with_reducible refine r_kNtF ?_
  | with_reducible refine r_kNt ?_
  | with_reducible refine r_if ?_
  | with_reducible refine r_ifS ?_
  | with_reducible refine r_tru ?_
  | with_reducible refine r_pTruB ?_
  | with_reducible refine r_nil ?_
  | with_reducible refine r_cons ?_
  | with_reducible refine r_tup ?_
  | with_reducible refine r_lst ?_
  | with_reducible refine r_al ?_
  | with_reducible refine r_kAl1 ?_
  | with_reducible refine r_kAl2 ?_
  | with_reducible refine r_kAl3 ?_
  | with_reducible refine r_kAl4 ?_
  | with_reducible refine r_kAl ?_
  | with_reducible refine r_augS ?_
  | with_reducible refine r_tupR1 ?_
  | with_reducible refine r_listR2 ?_
  | with_reducible refine r_sl3 ?_
  | with_reducible refine r_slset ?_
  | with_reducible refine r_own ?_
  | with_reducible refine r_ownL ?_
  | with_reducible refine r_sq ?_
  | with_reducible refine r_sqL ?_
  | with_reducible refine r_kSqT ?_
  | with_reducible refine r_kSqC ?_
  | with_reducible refine r_kSqLC ?_
  | ((with_reducible refine r_kSqR (l := ?rdL) ?rdE ?_); case rdE => first | assumption | (refine get_app0.trans ?_; exact rfl) | (refine (get_app _).trans ?_; exact rfl) | exact get_old' (by assumption))
  | ((with_reducible refine r_kSqLR (l := ?rdL) ?rdE ?_); case rdE => first | assumption | (refine get_app0.trans ?_; exact rfl) | (refine (get_app _).trans ?_; exact rfl) | exact get_old' (by assumption))
  | with_reducible refine r_ix ?_
  | ((with_reducible refine r_kIx (v := ?rdV) ?rdO ?rdE ?_); (case rdO => first | exact trivial | assumption | (refine get_app0.trans ?_; exact rfl) | (refine (get_app _).trans ?_; exact rfl) | exact get_old' (by assumption)); (case rdE => exact rfl))
  | with_reducible refine r_catL ?_
  | with_reducible refine r_revL ?_
  | with_reducible refine r_slL ?_
  | with_reducible refine r_moN ?_
  | with_reducible refine r_moS ?_
  | with_reducible refine r_kO ?_
  | with_reducible refine r_call ?_
  | with_reducible refine r_callL ?_
  | with_reducible refine r_bi ?_
  | with_reducible refine r_biQ ?_
  | with_reducible refine r_biL ?_
  | with_reducible refine r_lenT ?_
  | with_reducible refine r_lenC ?_
  | ((with_reducible refine r_lenR (l := ?rdL) ?rdE ?_); case rdE => first | assumption | (refine get_app0.trans ?_; exact rfl) | (refine (get_app _).trans ?_; exact rfl) | exact get_old' (by assumption))
  | with_reducible refine r_lenQ ?_
  | with_reducible refine r_abs ?_
  | with_reducible refine r_toIntI ?_
  | with_reducible refine r_toIntB ?_
  | with_reducible refine r_max ?_
  | with_reducible refine r_min ?_
  | with_reducible refine r_toTup ?_
  | with_reducible refine r_toList ?_
  | with_reducible refine r_all ?_
  | with_reducible refine r_any ?_
  | with_reducible refine r_isi ?_
  | with_reducible refine r_kIsi_str_S ?_
  | with_reducible refine r_kIsi_str_T ?_
  | with_reducible refine r_kIsi_str_I ?_
  | with_reducible refine r_kIsi_str_B ?_
  | with_reducible refine r_kIsi_str_N ?_
  | with_reducible refine r_kIsi_tup_S ?_
  | with_reducible refine r_kIsi_tup_T ?_
  | with_reducible refine r_kIsi_tup_I ?_
  | with_reducible refine r_kIsi_tup_B ?_
  | with_reducible refine r_kIsi_tup_N ?_
  | with_reducible refine r_kIsi_int_S ?_
  | with_reducible refine r_kIsi_int_T ?_
  | with_reducible refine r_kIsi_int_I ?_
  | with_reducible refine r_kIsi_int_B ?_
  | with_reducible refine r_kIsi_int_N ?_
  | with_reducible refine r_kIsi_bool_S ?_
  | with_reducible refine r_kIsi_bool_T ?_
  | with_reducible refine r_kIsi_bool_I ?_
  | with_reducible refine r_kIsi_bool_B ?_
  | with_reducible refine r_kIsi_bool_N ?_
  | with_reducible refine r_opQ ?_
  | with_reducible refine r_lm ?_
  | with_reducible refine r_lmQ ?_
  | with_reducible refine r_gsub ?_
  | ((with_reducible refine r_gtup ?rdC ?_); case rdC => exact rfl)
  | with_reducible refine r_gscons ?_
  | with_reducible refine r_gsnil ?_
  | with_reducible refine r_drop ?_
  | with_reducible refine r_ret ?_
  | with_reducible refine r_par ?_
  | ((with_reducible refine r_aug (x := ?rdV) ?rdE ?_); case rdE => exact rfl)
  | with_reducible refine r_ipAdd ?_
  | with_reducible refine r_for ?_
  | with_reducible refine r_lc ?_
  | with_reducible refine r_walk ?_
  | with_reducible refine r_mAll ?_
  | with_reducible refine r_range1 ?_
  | with_reducible refine r_range2 ?_
  | with_reducible refine r_range3 ?_
  | with_reducible refine r_enum ?_
  | with_reducible refine r_zip ?_
  | with_reducible refine r_signs ?_
  | with_reducible refine r_kSg ?_
  | with_reducible refine r_neg ?_
  | with_reducible refine r_kNeg ?_
  | with_reducible refine iteT ?_
  | with_reducible refine iteF ?_
  | with_reducible refine r_next ?_))
local macro_rules | `(tactic| one_item) => `(tactic| repeat (mod_arm))
def PotP (xs : List PV) : Prop := ∃ g s c : Int, xs = [.int g, .int s, .int c] ∧ 0 ≤ g ∧ 0 ≤ s ∧ s < 2305843009213693951 ∧ 0 ≤ c
abbrev pot : PO := .opq potOk
/-- a draw, the list seen -/
def F_take0 : MF := ⟨fun l h Q => ∃ (p : Nat) (xs : List PV) (m : Int), l = [.ref p, .int m] ∧ h[p]? = some (.lst xs) ∧ PotP xs ∧ 0 < m ∧ m ≤ 1000 ∧ ∀ (d : Int) (ys : List PV), 0 ≤ d → d < m → PotP ys → Q (.int d) (h.set p (.lst ys)),
  fun f ⟨p, xs, m, e, h1, h2, h3, h4, q⟩ => ⟨p, xs, m, e, h1, h2, h3, h4, fun d ys a b c => f _ _ (q d ys a b c)⟩⟩
theorem pot_lim {n : Nat} {xs : List PV} (h : PotP xs) : PO.lim n (.lst xs) = true := by
  obtain ⟨g, s, c, rfl, _⟩ := h
  simp [PO.lim, limL, PV.lim]
theorem R_take (l : List PV) (h : PH) (Q : QV) (hh : limH h.length h) (hl : limL h.length l = true) (q : F_take0.run l h Q) : b__law_take.run (exitD h.length Q) (begin 4 l) h := by
  obtain ⟨p, xs, m, rfl, hp, ⟨g, s, c, rfl, g0, s0, s1, c0⟩, m0, m1, q⟩ := q
  have hpl := lt_get hp
  have fin : ∀ (d : Int) (ys : List PV), 0 ≤ d → d < m → PotP ys → exitV h.length Q (.int d) (h.set p (.lst ys)) := fun d ys d0 d1 hy =>
    exit_same (by simp [PV.lim]) (limH_set hh (pot_lim hy)) (by rw [List.length_set]) (q d ys d0 d1 hy)
  unfold b__law_take
  show MS.run _ _ [some (.ref p), some (.int m), none, none] h
  one_item
  refine ite_bl (fun gp => ?_) (fun gp => ?_)
  · one_item
    refine r_sList hp (j := 0) rfl ?_
    one_item
    exact fin _ _ (Int.emod_nonneg _ (by omega)) (Int.emod_lt_of_pos _ m0) ⟨_, _, _, rfl, Int.ediv_nonneg g0 (by omega), s0, s1, c0⟩
  · one_item
    refine r_oGetL hp (by decide) (by decide) rfl ?_
    one_item
    refine r_sList hp (j := 2) rfl ?_
    have hp2 : (h.set p (.lst [.int g, .int s, .int (c + 1)]))[p]? = some (.lst [.int g, .int s, .int (c + 1)]) := by rw [List.getElem?_set_self hpl]
    generalize hh2 : h.set p (.lst ([PV.int g, .int s, .int c].set 2 (.int (c + 1)))) = h2
    have hp2 : h2[p]? = some (.lst [.int g, .int s, .int (c + 1)]) := by rw [← hh2]; exact hp2
    have e2 : ∀ o, h2.set p o = h.set p o := fun o => by rw [← hh2, List.set_set]
    one_item
    have x0 := Int.emod_nonneg (s * 69069 + 9973 * (c + 1) + 5) (show (2305843009213693921 : Int) ≠ 0 by decide)
    have x1 := Int.emod_lt_of_pos (s * 69069 + 9973 * (c + 1) + 5) (show (0 : Int) < 2305843009213693921 by decide)
    generalize (s * 69069 + 9973 * (c + 1) + 5) % 2305843009213693921 = x at x0 x1 ⊢
    one_item
    have y0 := Int.emod_nonneg (x * (x % 999983 + 2 * (c + 1) + 3)) (show (2305843009213693907 : Int) ≠ 0 by decide)
    have y1 := Int.emod_lt_of_pos (x * (x % 999983 + 2 * (c + 1) + 3)) (show (0 : Int) < 2305843009213693907 by decide)
    generalize x * (x % 999983 + 2 * (c + 1) + 3) % 2305843009213693907 = y at y0 y1 ⊢
    refine r_sList hp2 (j := 1) rfl ?_
    rw [e2]
    have hp3 : (h.set p (.lst ([PV.int g, .int s, .int (c + 1)].set 1 (.int y))))[p]? = some (.lst [.int g, .int y, .int (c + 1)]) := by rw [List.getElem?_set_self hpl]; rfl
    one_item
    exact fin _ _ (Int.emod_nonneg _ (by omega)) (Int.emod_lt_of_pos _ m0) ⟨_, _, _, rfl, g0, y0, by omega, by omega⟩
/-- .. its secret kept -/
def F_take : MF := ⟨fun l h Q => ∃ (p : Nat) (m : Int), l = [.ref p, .int m] ∧ h[p]? = some pot ∧ 0 < m ∧ m ≤ 1000 ∧ ∀ d : Int, 0 ≤ d → d < m → Q (.int d) h,
  fun f ⟨p, m, e, h1, h3, h4, q⟩ => ⟨p, m, e, h1, h3, h4, fun d a b => f _ _ (q d a b)⟩⟩
theorem pot_vrs {K : PySem.W.Frag} (ι : List Addr) (H : Hp) (vs : List V) (h : potOk vs) : ∃ xs, VRs K ι H vs xs := by
  obtain ⟨g, s, c, rfl, _⟩ := h
  exact ⟨[.int g, .int s, .int c], .cons (.int _) (.cons (.int _) (.cons (.int _) .nil))⟩
theorem vrs3 {K : PySem.W.Frag} {ι : List Addr} {H : Hp} {vs : List V} {a b c : Int} (h : VRs K ι H vs [.int a, .int b, .int c]) : vs = [.int a, .int b, .int c] := by
  cases h with
  | cons x t => cases t with
    | cons y t => cases t with
      | cons z t => cases t; cases x; cases y; cases z; rfl
theorem vrs3' {K : PySem.W.Frag} {ι : List Addr} {H : Hp} {xs : List PV} {a b c : Int} (h : VRs K ι H [.int a, .int b, .int c] xs) : xs = [.int a, .int b, .int c] := by
  cases h with
  | cons x t => cases t with
    | cons y t => cases t with
      | cons z t => cases t; cases x; cases y; cases z; rfl
theorem take_opq {K : PySem.W.Frag} : ∀ vs H Q E, spOf K F_take vs H Q E → spOf K F_take0 vs H Q E := spOf_opq (φ := potOk) pot_vrs fun l h Q => by
  rintro ⟨p, m, rfl, hp, m0, m1, q⟩
  refine ⟨p, hp, fun ι H vs xs hv hx => ?_⟩
  obtain ⟨g, s, c, rfl, g0, s0, s1, c0⟩ := hv
  have e := vrs3' hx
  subst e
  refine ⟨p, _, m, rfl, by rw [List.getElem?_set_self (lt_get hp)], ⟨g, s, c, rfl, g0, s0, s1, c0⟩, m0, m1, fun d ys d0 d1 hy => ⟨ys, by rw [List.set_set], fun ι H vs hv => ?_, q d d0 d1⟩⟩
  obtain ⟨g', s', c', rfl, a1, a2, a3, a4⟩ := hy
  exact ⟨g', s', c', vrs3 hv, a1, a2, a3, a4⟩
def F_pot0 : MFL := ⟨fun l h Q => ∃ (ns : List Int) (k : Int), l = [.cl (ns.map PV.int), .int k] ∧ ns.length ≤ 63 ∧ 0 ≤ k ∧ k ≤ 1000 ∧ ∀ xs, PotP xs → Q xs h,
  fun f ⟨ns, k, e, h1, h2, h3, q⟩ => ⟨ns, k, e, h1, h2, h3, fun xs a => f _ _ (q xs a)⟩⟩
def F_pot : MF := ⟨fun l h Q => ∃ (ns : List Int) (k : Int), l = [.cl (ns.map PV.int), .int k] ∧ ns.length ≤ 63 ∧ 0 ≤ k ∧ k ≤ 1000 ∧ Q (.ref h.length) (h ++ [pot]),
  fun f ⟨ns, k, e, h1, h2, h3, q⟩ => ⟨ns, k, e, h1, h2, h3, f _ _ q⟩⟩
theorem pot_opq {K : PySem.W.Frag} : ∀ vs H Q E, spOf K F_pot vs H Q E → spL K F_pot0 vs H Q E := spL_opq (φ := potOk) fun l h Q => by
  rintro ⟨ns, k, rfl, h1, h2, h3, q⟩
  refine ⟨ns, k, rfl, h1, h2, h3, fun xs hx => ⟨fun ι H vs hv => ?_, q⟩⟩
  obtain ⟨g', s', c', rfl, a1, a2, a3, a4⟩ := hx
  exact ⟨g', s', c', vrs3 hv, a1, a2, a3, a4⟩
theorem abs_nn (i : Int) : 0 ≤ (if i < 0 then -i else i) := by split <;> omega
theorem R_pot (l : List PV) (h : PH) (Q : List PV → PH → Prop) (hh : limH h.length h) (hl : limL h.length l = true) (q : F_pot0.run l h Q) : b__law_pot.run (exitLD h.length Q) (begin 4 l) h := by
  obtain ⟨ns, k, rfl, h63, k0, k1, q⟩ := q
  unfold b__law_pot
  show MS.run _ _ [some (.cl (ns.map PV.int)), some (.int k), none, none] h
  obtain ⟨rest, hrest⟩ : ∃ r : MS, r = (mSeq (mAsg (mOp oMul (mOp oMod (mVar 2) (mOp oMul (mOp oPow (mC (.int 10)) (mC (.int 60))) (mOp oPow (mC (.int 10)) (mC (.int 60))))) (mBi bInt (mCons (mOp oGe (mVar 2) (mOp oPow (mC (.int 10)) (mC (.int 18)))) mNil))) (gSet 3))
      (mRet (mAlloc (mLst (mCons (mVar 3) (mCons (mOp oMod (mOp oAdd (mOp oAdd (mVar 2) (mOp oMul (mC (.int 104729)) (mVar 1))) (mC (.int 7))) (mC (.int 2305843009213693951))) (mCons (mC (.int 0)) mNil))))))) := ⟨_, rfl⟩
  have fin : ∀ (x : Int) (D : PD), 0 ≤ x → D.rt = exitL h.length Q → rest.run D [some (.cl (ns.map PV.int)), some (.int k), some (.int x), none] h := by
    rw [hrest]
    intro x D x0 hD
    one_item
    refine r_mul (IntMulOk.of_bits (by decide +kernel) (by decide +kernel)) ?_
    refine r_mod (by decide +kernel) ?_
    one_item
    refine ⟨small' (Nat.le_of_ble_eq_true rfl), ?_⟩
    one_item
    rw [hD]
    refine exit_list (k := 0) (g := [_]) rfl (by simp [limL, PV.lim]) hh rfl (q _ ⟨_, _, 0, rfl, Int.mul_nonneg (Int.emod_nonneg _ (by decide +kernel)) ite01, Int.emod_nonneg _ (by decide), Int.emod_lt_of_pos _ (by decide), Int.le_refl _⟩)
  rw [← hrest]
  one_item
  rw [List.length_map]
  refine ite_bl (fun hlt => ?_) (fun hlt => ?_)
  · one_item
    obtain ⟨v, hv, hv2⟩ := atI_lt (xs := ns.map PV.int) k0 (by rw [List.length_map]; exact hlt)
    rw [List.getElem?_map] at hv2
    obtain ⟨c, rfl⟩ : ∃ c, v = .int c := by
      cases z : ns[k.toNat]? with
      | none => rw [z] at hv2; cases hv2
      | some c => rw [z] at hv2; exact ⟨c, (Option.some.inj hv2).symm⟩
    refine r_kIx trivial hv ?_
    one_item
    refine fin _ _ ?_ ?_
    · exact abs_nn _
    · rfl
  · one_item
    refine fin _ _ ?_ ?_
    · exact Int.le_refl _
    · rfl
theorem menuP_step {d : Int} (h0 : 0 ≤ d) (h1 : d < 6) : ∃ st : Int, atI [PV.int 1, PV.int 3, PV.int 5, PV.int 7, PV.int 9, PV.int 11] d = some (.int st) ∧ (st = 1 ∨ st = 3 ∨ st = 5 ∨ st = 7 ∨ st = 9 ∨ st = 11) := by
  have : d = 0 ∨ d = 1 ∨ d = 2 ∨ d = 3 ∨ d = 4 ∨ d = 5 := by omega
  rcases this with rfl | rfl | rfl | rfl | rfl | rfl
  · exact ⟨1, rfl, by decide⟩
  · exact ⟨3, rfl, by decide⟩
  · exact ⟨5, rfl, by decide⟩
  · exact ⟨7, rfl, by decide⟩
  · exact ⟨9, rfl, by decide⟩
  · exact ⟨11, rfl, by decide⟩
theorem menuP_stem {d : Int} (h0 : 0 ≤ d) (h1 : d < 2) : ∃ bg : Str, atI [PV.str "", PV.str "k"] d = some (.str bg) ∧ Part bg 1 := by
  have : d = 0 ∨ d = 1 := by omega
  rcases this with rfl | rfl
  · exact ⟨"", rfl, by decide +kernel, by decide +kernel⟩
  · exact ⟨"k", rfl, by decide +kernel, by decide +kernel⟩
theorem menuP_ends {d : Int} (h0 : 0 ≤ d) (h1 : d < 4) : ∃ bg : Str, atI [PV.str "", PV.str "q", PV.str "zz", PV.str "abcdef"] d = some (.str bg) ∧ Part bg 6 := by
  have : d = 0 ∨ d = 1 ∨ d = 2 ∨ d = 3 := by omega
  rcases this with rfl | rfl | rfl | rfl
  · exact ⟨"", rfl, by decide +kernel, by decide +kernel⟩
  · exact ⟨"q", rfl, by decide +kernel, by decide +kernel⟩
  · exact ⟨"zz", rfl, by decide +kernel, by decide +kernel⟩
  · exact ⟨"abcdef", rfl, by decide +kernel, by decide +kernel⟩
def F_words : MFL := ⟨fun l h Q => ∃ (p : Nat) (m : Int), l = [.ref p, .int m] ∧ h[p]? = some pot ∧ 0 ≤ m ∧ m ≤ 26 ∧ ∀ ws : List Str, ws.length = m.toNat → (∀ x ∈ ws, Wd x) → ws.Nodup → Q (ws.map PV.str) h,
  fun f ⟨p, m, e, h1, h3, h4, q⟩ => ⟨p, m, e, h1, h3, h4, fun d a b c => f _ _ (q d a b c)⟩⟩
theorem limL_strs (n : Nat) (ws : List Str) : limL n (ws.map PV.str) = true := limL_iff.mpr fun x hx => by
  obtain ⟨w, _, rfl⟩ := List.mem_map.mp hx
  simp [PV.lim]
theorem R_words (l : List PV) (h : PH) (Q : List PV → PH → Prop) (hh : limH h.length h) (hl : limL h.length l = true) (q : F_words.run l h Q) : (b__law_words F_take).run (exitLD h.length Q) (begin 10 l) h := by
  obtain ⟨p, m, rfl, hp, m0, m1, q⟩ := q
  unfold b__law_words
  show MS.run _ _ [some (.ref p), some (.int m), none, none, none, none, none, none, none, none] h
  one_item
  refine ⟨p, 26, rfl, hp, by decide, by decide, fun d1 a1 b1 => ?_⟩
  one_item
  refine ⟨small' (Nat.le_of_ble_eq_true rfl), ?_⟩
  one_item
  refine ⟨p, 6, rfl, hp, by decide, by decide, fun d3 a3 b3 => ?_⟩
  obtain ⟨st, hst, kst⟩ := menuP_step a3 b3
  refine r_kIx trivial hst ?_
  one_item
  refine ⟨small' (Nat.le_of_ble_eq_true rfl), ?_⟩
  one_item
  refine ⟨p, 2, rfl, hp, by decide, by decide, fun d5 a5 b5 => ?_⟩
  obtain ⟨bg, hbg, kbg⟩ := menuP_stem a5 b5
  refine r_kIx trivial hbg ?_
  one_item
  refine ⟨small' (Nat.le_of_ble_eq_true rfl), ?_⟩
  one_item
  refine ⟨small' (Nat.le_of_ble_eq_true rfl), ?_⟩
  one_item
  refine r_kR1 ⟨by omega, by omega⟩ ?_
  refine for_inv (fun i ps h' => i ≤ m.toNat ∧ ∃ (vk ve : Option PV) (ws : List Str), ps = [some (.ref p), some (.int m), some (.str "abcdefghijklmnopqrstuvwxyz"), some (.int d1), some (.int st), some (.str bg), some (.ref h.length), some (.ref (h.length + 1)), vk, ve] ∧
      h' = h ++ [.lst [.str "", .str "q", .str "zz", .str "abcdef"], .lst (ws.map PV.str)] ∧ ws.length = i ∧ (∀ x ∈ ws, Wd x) ∧ (ws.map fun x => x.cps[bg.length]?) = (List.range i).map fun k : Nat => some (97 + ((d1 + st * (0 + (k : Int))) % 26).toNat)) (fun _ _ _ _ => trivial) (fun i x ps h' hx => ?_) (fun ps h' => ?_) ⟨Nat.zero_le _, _, _, [], rfl, rfl, rfl, by simp, rfl⟩
  · obtain ⟨hi, rfl⟩ := intsV_get hx
    rintro ⟨_, vk, ve, ws, rfl, rfl, hl, hw, hs⟩
    one_item
    have e0 : 0 ≤ (d1 + st * (0 + (i : Int))) % 26 := Int.emod_nonneg _ (by decide)
    have e1 : (d1 + st * (0 + (i : Int))) % 26 < 26 := Int.emod_lt_of_pos _ (by decide)
    refine r_ixS (by decide +kernel) (letter_at e0 e1) ?_
    one_item
    refine ⟨r_listAtA (n := 1) rfl, ?_⟩
    one_item
    have lb := kbg.1
    obtain ⟨en, hen, ken⟩ := menuP_ends (d := (d1 + (0 + (i : Int))) % 4) (Int.emod_nonneg _ (by decide)) (Int.emod_lt_of_pos _ (by decide))
    have le := ken.1
    refine r_addS (small' (by show bg.length + 1 ≤ 1000; omega)) ?_
    one_item
    refine r_kIx (get_app0.trans rfl) (by exact hen) ?_
    refine r_addS (small' (by rw [Str.length_append]; show bg.length + 1 + en.length ≤ 1000; omega)) ?_
    one_item
    refine r_appendA (n := 1) rfl ?_ ?_
    · rw [List.length_map]; exact small1000 (by omega)
    refine ⟨by omega, _, _, ws ++ [bg ++ ⟨#[97 + ((d1 + st * (0 + (i : Int))) % 26).toNat]⟩ ++ en], rfl, by rw [List.map_append]; rfl, by rw [List.length_append, hl]; rfl, ?_, by rw [List.map_append, hs, List.range_succ, List.map_append, List.map_singleton, List.map_singleton, word_sign]⟩
    intro x hx
    rcases List.mem_append.mp hx with z | z
    · exact hw x z
    · rw [List.mem_singleton.mp z]
      exact word_of9 kbg ken (by omega) (by omega)
  · rintro ⟨_, vk, ve, ws, rfl, rfl, hl, hw, hs⟩
    rw [intsV_len] at hl hs
    one_item
    refine exit_list (k := 1) rfl (limL_strs _ _) hh rfl (q ws hl hw ?_)
    refine nodup_of_map (g := fun x : Str => x.cps[bg.length]?) ?_
    rw [hs]
    exact letters_nodup kst (by omega)
def F_same : Nat → MF
  | 0 => ⟨fun _ _ _ => False, fun _ q => q⟩
  | n + 1 => ⟨fun l h Q => ∃ x : PV, l = [x, x] ∧ x.pl = true ∧ x.wid 1000 = true ∧ x.dep ≤ n ∧ Q (.bl true) h, fun f ⟨x, e, h1, h2, h3, q⟩ => ⟨x, e, h1, h2, h3, f _ _ q⟩⟩
theorem zip_self : ∀ {l : List PV} {p : PV}, p ∈ zipV l l → ∃ x ∈ l, p = .tup [x, x]
  | [], p, h => by simp [zipV] at h
  | y :: l, p, h => by
    rw [zipV] at h
    rcases List.mem_cons.mp h with rfl | h
    · exact ⟨y, List.mem_cons_self, rfl⟩
    · obtain ⟨x, h1, h2⟩ := zip_self h
      exact ⟨x, List.mem_cons_of_mem _ h1, h2⟩
theorem all_true (l : List PV) : l.filterMap (fun _ => some (PV.bl true)) = (l.map fun _ => true).map PV.bl := by
  induction l with
  | nil => rfl
  | cons x l ih => rw [List.filterMap_cons, ih]; rfl
theorem all_id (l : List PV) : (l.map fun _ => true).all id = true := by
  induction l with
  | nil => rfl
  | cons x l ih => simpa using ih
theorem R_same (n : Nat) (l : List PV) (h : PH) (Q : QV) (hh : limH h.length h) (hl : limL h.length l = true) (q : (F_same (n + 1)).run l h Q) : (b__law_same (F_same n)).run (exitD h.length Q) (begin 2 l) h := by
  obtain ⟨x, rfl, h1, h2, h3, q⟩ := q
  have fin : exitV h.length Q (.bl true) h := exit_same (by simp [PV.lim]) hh rfl q
  unfold b__law_same
  show MS.run _ _ [some x, some x] h
  one_item
  cases x with
  | bl b => simp [PV.pl] at h1
  | ref b => simp [PV.pl] at h1
  | ty b => simp [PV.pl] at h1
  | cl b => simp [PV.pl] at h1
  | non =>
    one_item
    exact fin
  | int i =>
    one_item
    exact fin
  | str i =>
    one_item
    exact fin
  | tup t =>
    rw [PV.pl] at h1
    rw [PV.wid, Bool.and_eq_true, decide_eq_true_eq] at h2
    rw [PV.dep] at h3
    one_item
    refine r_kZ rfl ?_
    refine lc_map (fun ps => ∃ a b, ps = [a, b]) (fun _ => some (.bl true)) trivial (by show (zipV t t).length ≤ _; rw [zipV_len rfl]; exact small' h2.1) (fun p hp ps hps R hR => ?_) ⟨_, all_true _, ?_⟩ ⟨_, _, rfl⟩
    · obtain ⟨x, hx, rfl⟩ := zip_self hp
      obtain ⟨a, b, rfl⟩ := hps
      one_item
      cases n with
      | zero => omega
      | succ n =>
        have hd := depL_get (List.getElem?_of_mem hx).choose_spec
        exact ⟨x, rfl, plL_iff.mp h1 x hx, widL_iff.mp h2.2 x hx, by omega, rfl, ⟨_, _, rfl⟩, hR⟩
    · rw [all_id]
      exact fin
end My
set_option Elab.async false
set_option linter.all false
set_option maxRecDepth 100000
namespace My
open PySem PySem.Spec PyProof.Rows L2 PL
local macro_rules | `(tactic| mod_arm) => `(tactic| ((try dsimp only [List.set_cons_succ, List.set_cons_zero]); first
  | with_reducible refine r_seq ?_
  | with_reducible refine r_asg ?_
  | with_reducible refine r_gset ?_
  | ((with_reducible refine r_var (v := ?rdV) ?rdE ?_); case rdE => exact rfl)
  | with_reducible refine r_c ?_
  | with_reducible refine r_op ?_
  | with_reducible refine r_addI ?_
  | with_reducible refine r_sub ?_
  | ((with_reducible refine r_mul ?rdC ?_); (case rdC => first | exact mul_l (by omega) (by omega) | exact mul_r (by omega) (by omega)))
  | ((with_reducible refine r_div ?rdC ?_); (case rdC => exact ⟨by omega, by omega⟩))
  | ((with_reducible refine r_mod ?rdC ?_); (case rdC => first | omega | decide))
  | ((with_reducible refine r_pow ?rdC ?_); (case rdC => exact ⟨by decide, by decide, by decide⟩))
  | with_reducible refine r_lt ?_
  | with_reducible refine r_le ?_
  | with_reducible refine r_gt ?_
  | with_reducible refine r_ge ?_
  | with_reducible refine r_eqIs ?_
  | with_reducible refine r_eqSs ?_
  | with_reducible refine r_eqBs ?_
  | with_reducible refine r_neIs ?_
  | with_reducible refine r_neSs ?_
  | with_reducible refine r_eqI ?_
  | with_reducible refine r_neI ?_
  | with_reducible refine r_eqS ?_
  | with_reducible refine r_neS ?_
  | with_reducible refine r_eqB ?_
  | with_reducible refine r_neB ?_
  | with_reducible refine r_eqN ?_
  | with_reducible refine r_isN_S ?_
  | with_reducible refine r_isN_T ?_
  | with_reducible refine r_isN_I ?_
  | with_reducible refine r_isN_B ?_
  | with_reducible refine r_isN_N ?_
  | with_reducible refine r_notN_S ?_
  | with_reducible refine r_notN_T ?_
  | with_reducible refine r_notN_I ?_
  | with_reducible refine r_notN_B ?_
  | with_reducible refine r_notN_N ?_
  | with_reducible refine r_isB ?_
  | with_reducible refine r_isNotB ?_
  | with_reducible refine r_B ?_
  | with_reducible refine r_kB ?_
  | with_reducible refine r_andV ?_
  | with_reducible refine r_orV ?_
  | with_reducible refine r_notV ?_
  | with_reducible refine r_kAndT ?_
  | with_reducible refine r_kAndF ?_
  | with_reducible refine r_kOrT ?_
  | with_reducible refine r_kOrF ?_
  | with_reducible refine r_kNotT ?_
  | with_reducible refine r_kNotF ?_
  | with_reducible refine r_kNot ?_
  | with_reducible refine r_andT ?_
  | with_reducible refine r_orT ?_
  | with_reducible refine r_nt ?_
  | with_reducible refine r_kNtT ?_
  | with_reducible refine r_kNtF ?_
  | with_reducible refine r_kNt ?_
  | with_reducible refine r_if ?_
  | with_reducible refine r_ifS ?_
  | with_reducible refine r_tru ?_
  | with_reducible refine r_pTruB ?_
  | with_reducible refine r_nil ?_
  | with_reducible refine r_cons ?_
  | with_reducible refine r_tup ?_
  | with_reducible refine r_lst ?_
  | with_reducible refine r_al ?_
  | with_reducible refine r_kAl1 ?_
  | with_reducible refine r_kAl2 ?_
  | with_reducible refine r_kAl3 ?_
  | with_reducible refine r_kAl4 ?_
  | with_reducible refine r_kAl ?_
  | with_reducible refine r_augS ?_
  | with_reducible refine r_tupR1 ?_
  | with_reducible refine r_listR2 ?_
  | with_reducible refine r_sl3 ?_
  | with_reducible refine r_slset ?_
  | with_reducible refine r_own ?_
  | with_reducible refine r_ownL ?_
  | with_reducible refine r_sq ?_
  | with_reducible refine r_sqL ?_
  | with_reducible refine r_kSqT ?_
  | with_reducible refine r_kSqC ?_
  | with_reducible refine r_kSqLC ?_
  | ((with_reducible refine r_kSqR (l := ?rdL) ?rdE ?_); case rdE => first | assumption | (refine get_app0.trans ?_; exact rfl) | (refine (get_app _).trans ?_; exact rfl) | exact get_old' (by assumption))
  | ((with_reducible refine r_kSqLR (l := ?rdL) ?rdE ?_); case rdE => first | assumption | (refine get_app0.trans ?_; exact rfl) | (refine (get_app _).trans ?_; exact rfl) | exact get_old' (by assumption))
  | with_reducible refine r_ix ?_
  | ((with_reducible refine r_kIx (v := ?rdV) ?rdO ?rdE ?_); (case rdO => first | exact trivial | assumption | (refine get_app0.trans ?_; exact rfl) | (refine (get_app _).trans ?_; exact rfl) | exact get_old' (by assumption)); (case rdE => exact rfl))
  | with_reducible refine r_catL ?_
  | with_reducible refine r_revL ?_
  | with_reducible refine r_slL ?_
  | with_reducible refine r_moN ?_
  | with_reducible refine r_moS ?_
  | with_reducible refine r_kO ?_
  | with_reducible refine r_call ?_
  | with_reducible refine r_callL ?_
  | with_reducible refine r_bi ?_
  | with_reducible refine r_biQ ?_
  | with_reducible refine r_biL ?_
  | with_reducible refine r_lenT ?_
  | with_reducible refine r_lenC ?_
  | ((with_reducible refine r_lenR (l := ?rdL) ?rdE ?_); case rdE => first | assumption | (refine get_app0.trans ?_; exact rfl) | (refine (get_app _).trans ?_; exact rfl) | exact get_old' (by assumption))
  | with_reducible refine r_lenQ ?_
  | with_reducible refine r_abs ?_
  | with_reducible refine r_toIntI ?_
  | with_reducible refine r_toIntB ?_
  | with_reducible refine r_max ?_
  | with_reducible refine r_min ?_
  | with_reducible refine r_toTup ?_
  | with_reducible refine r_toList ?_
  | with_reducible refine r_all ?_
  | with_reducible refine r_any ?_
  | with_reducible refine r_isi ?_
  | with_reducible refine r_kIsi_str_S ?_
  | with_reducible refine r_kIsi_str_T ?_
  | with_reducible refine r_kIsi_str_I ?_
  | with_reducible refine r_kIsi_str_B ?_
  | with_reducible refine r_kIsi_str_N ?_
  | with_reducible refine r_kIsi_tup_S ?_
  | with_reducible refine r_kIsi_tup_T ?_
  | with_reducible refine r_kIsi_tup_I ?_
  | with_reducible refine r_kIsi_tup_B ?_
  | with_reducible refine r_kIsi_tup_N ?_
  | with_reducible refine r_kIsi_int_S ?_
  | with_reducible refine r_kIsi_int_T ?_
  | with_reducible refine r_kIsi_int_I ?_
  | with_reducible refine r_kIsi_int_B ?_
  | with_reducible refine r_kIsi_int_N ?_
  | with_reducible refine r_kIsi_bool_S ?_
  | with_reducible refine r_kIsi_bool_T ?_
  | with_reducible refine r_kIsi_bool_I ?_
  | with_reducible refine r_kIsi_bool_B ?_
  | with_reducible refine r_kIsi_bool_N ?_
  | with_reducible refine r_opQ ?_
  | with_reducible refine r_lm ?_
  | with_reducible refine r_lmQ ?_
  | with_reducible refine r_gsub ?_
  | ((with_reducible refine r_gtup ?rdC ?_); case rdC => exact rfl)
  | with_reducible refine r_gscons ?_
  | with_reducible refine r_gsnil ?_
  | with_reducible refine r_drop ?_
  | with_reducible refine r_ret ?_
  | with_reducible refine r_par ?_
  | ((with_reducible refine r_aug (x := ?rdV) ?rdE ?_); case rdE => exact rfl)
  | with_reducible refine r_ipAdd ?_
  | with_reducible refine r_for ?_
  | with_reducible refine r_lc ?_
  | with_reducible refine r_walk ?_
  | with_reducible refine r_mAll ?_
  | with_reducible refine r_range1 ?_
  | with_reducible refine r_range2 ?_
  | with_reducible refine r_range3 ?_
  | with_reducible refine r_enum ?_
  | with_reducible refine r_zip ?_
  | with_reducible refine r_signs ?_
  | with_reducible refine r_kSg ?_
  | with_reducible refine r_neg ?_
  | with_reducible refine r_kNeg ?_
  | with_reducible refine iteT ?_
  | with_reducible refine iteF ?_
  | with_reducible refine r_next ?_))
local macro_rules | `(tactic| one_item) => `(tactic| repeat (mod_arm))
def Tr.pv : Tr → PV
  | .leaf x => .str x
  | .node l r => .tup [l.pv, r.pv]
def Ent.pv : Ent → PV
  | .word x => .str x
  | .pair a b => .tup [.int (a : Int), .int (b : Int)]
theorem Tr.pv_dat : ∀ t : Tr, t.pv.dat = true
  | .leaf x => by rw [Tr.pv, PV.dat] <;> simp
  | .node l r => by rw [Tr.pv, PV.dat, datL, datL, datL, l.pv_dat, r.pv_dat]; rfl
theorem Ent.pv_dat (e : Ent) : e.pv.dat = true := by cases e <;> simp [Ent.pv, PV.dat, datL]
theorem dat_map {α : Type} {f : α → PV} (h : ∀ a, (f a).dat = true) (l : List α) : datL (l.map f) = true := datL_iff.mpr fun x hx => by
  obtain ⟨a, _, rfl⟩ := List.mem_map.mp hx
  exact h a
theorem lim_map {α : Type} {f : α → PV} (h : ∀ a, (f a).dat = true) (n : Nat) (l : List α) : limL n (l.map f) = true := datL_lim n _ (dat_map h l)
theorem snoc_of {α : Type} {l : List α} (h : l ≠ []) : ∃ a x, l = a ++ [x] := ⟨l.dropLast, l.getLast h, (List.dropLast_concat_getLast h).symm⟩
def F_parts : MFL := ⟨fun l h Q => ∃ t : Tr, l = [t.pv] ∧ t.size ≤ 1000 ∧ Q (t.post.map Tr.pv) h, fun f ⟨t, e, h1, q⟩ => ⟨t, e, h1, f _ _ q⟩⟩
theorem sizes_le {a b : List Tr} {t : Tr} (h : posts a ++ b = t.post) : sizes a + b.length = t.size := by
  have h1 := congrArg List.length h
  rw [List.length_append, t.post_len] at h1
  have h2 : ∀ l : List Tr, (posts l).length = sizes l := by
    intro l
    induction l with
    | nil => rfl
    | cons x l ih =>
      have e1 : posts (x :: l) = x.post ++ posts l := rfl
      have e2 : sizes (x :: l) = x.size + sizes l := rfl
      rw [e1, e2, List.length_append, ih, x.post_len]
  rw [h2] at h1
  exact h1
theorem R_parts (l : List PV) (h : PH) (Q : List PV → PH → Prop) (hh : limH h.length h) (hl : limL h.length l = true) (q : F_parts.run l h Q) : b_parts_of.run (exitLD h.length Q) (begin 4 l) h := by
  obtain ⟨t, rfl, hz, q⟩ := q
  unfold b_parts_of
  show MS.run _ _ [some t.pv, none, none, none] h
  one_item
  refine ⟨small' (Nat.le_of_ble_eq_true rfl), ?_⟩
  one_item
  refine ⟨small' (Nat.le_of_ble_eq_true rfl), ?_⟩
  one_item
  refine while_inv (fun n ps h' => ∃ (o : Option PV) (ts bs : List Tr), n = sizes ts ∧ ps = [some t.pv, some (.ref h.length), some (.ref (h.length + 1)), o] ∧ h' = h ++ [.lst (bs.map Tr.pv), .lst (ts.map Tr.pv)] ∧ posts ts ++ bs.reverse = t.post) (fun n ps h' => ?_) (n := sizes [t]) ⟨_, [t], [], rfl, rfl, rfl, by rw [posts_one]; simp⟩
  rintro ⟨o, ts, bs, rfl, rfl, rfl, hp⟩
  have hs := sizes_le hp
  rw [List.length_reverse] at hs
  one_item
  refine r_pTruL ((get_app 1).trans rfl) ?_
  by_cases he : ts = []
  · subst he
    one_item
    show (if false = true then _ else _)
    one_item
    refine exit_list (k := 2) (xs := t.post.map Tr.pv) ?_ (lim_map Tr.pv_dat _ _) hh rfl q
    have hp' : bs.reverse = t.post := hp
    rw [← hp', List.map_reverse]
    rfl
  · obtain ⟨us, u, rfl⟩ := snoc_of he
    have hl2 := len_sizes us
    have hsu := u.size_pos
    rw [sizes_append, sizes_one] at hs
    have ee : (!((us ++ [u]).map Tr.pv).isEmpty) = true := by simp
    rw [ee]
    one_item
    refine ⟨r_listAtA (n := 1) rfl, ?_⟩
    one_item
    refine r_popA (n := 1) (l := us.map Tr.pv) (y := u.pv) (by rw [List.map_append]; rfl) ?_
    one_item
    refine ⟨r_listAtA0 rfl, ?_⟩
    one_item
    refine r_appendA0 rfl ?_ ?_
    · rw [List.length_map]; exact small1000 (by omega)
    have eb : bs.map Tr.pv ++ [u.pv] = (bs ++ [u]).map Tr.pv := by rw [List.map_append]; rfl
    one_item
    rw [eb]
    cases u with
    | leaf x =>
      rw [Tr.pv]
      one_item
      refine ⟨sizes us, by rw [sizes_append, sizes_one]; show sizes us < sizes us + 1; omega, _, us, bs ++ [.leaf x], rfl, rfl, rfl, ?_⟩
      rw [posts_append, posts_one] at hp
      rw [List.reverse_append, ← hp]
      simp [Tr.post]
    | node a b =>
      rw [Tr.pv]
      one_item
      refine ⟨r_listAtA (n := 1) rfl, ?_⟩
      one_item
      refine r_extendA (n := 1) (l := us.map Tr.pv) rfl rfl ?_ ?_
      · show (us.map Tr.pv).length + 2 ≤ _
        rw [List.length_map]; exact small' (by have : (Tr.node a b).size = a.size + b.size + 1 := rfl; have := a.size_pos; omega)
      have e2 : sizes [Tr.node a b] = a.size + b.size + 1 := by rw [sizes_one]; rfl
      refine ⟨sizes (us ++ [a, b]), ?_, _, us ++ [a, b], bs ++ [.node a b], rfl, rfl, ?_, ?_⟩
      · rw [sizes_append, sizes_append, e2]
        show sizes us + sizes [a, b] < _
        have : sizes [a, b] = a.size + b.size := by simp [sizes]
        omega
      · rw [List.map_append (l₁ := us)]; rfl
      · rw [posts_append, posts_one] at hp
        rw [List.reverse_append, ← hp, posts_append, posts_two]
        simp [Tr.post]
def F_nodes : MF := ⟨fun l h Q => ∃ t : Tr, l = [t.pv] ∧ t.size ≤ 1000 ∧ Q (.tup ((t.nd 0).map Ent.pv)) h, fun f ⟨t, e, h1, q⟩ => ⟨t, e, h1, f _ _ q⟩⟩
theorem R_nodes (l : List PV) (h : PH) (Q : QV) (hh : limH h.length h) (hl : limL h.length l = true) (q : F_nodes.run l h Q) : (b_nodes F_parts).run (exitD h.length Q) (begin 6 l) h := by
  obtain ⟨t, rfl, hz, q⟩ := q
  unfold b_nodes
  show MS.run _ _ [some t.pv, none, none, none, none, none] h
  one_item
  refine ⟨small' (Nat.le_of_ble_eq_true rfl), ?_⟩
  one_item
  refine ⟨small' (Nat.le_of_ble_eq_true rfl), ?_⟩
  one_item
  refine ⟨t, rfl, hz, ?_⟩
  one_item
  refine for_inv (fun i ps h' => ∃ (o3 o4 o5 : Option PV) (told : List Ent) (ls : List Nat), ps = [some t.pv, some (.ref h.length), some (.ref (h.length + 1)), o3, o4, o5] ∧ h' = h ++ [.lst (told.map Ent.pv), .lst (ls.reverse.map fun n : Nat => .int (n : Int))] ∧
      run (t.post.drop i) told ls = some (t.nd 0, [t.size - 1]) ∧ told.length = i ∧ ls.length ≤ i) (fun _ _ _ _ => trivial) (fun i x ps h' hx => ?_) (fun ps h' => ?_) ⟨_, _, _, [], [], rfl, rfl, run_whole t, rfl, Nat.le_refl _⟩
  · rintro ⟨o3, o4, o5, told, ls, rfl, rfl, hr, ht, hls⟩
    have hx' : (t.post.map Tr.pv)[i]? = some x := hx
    rw [List.getElem?_map] at hx'
    cases e : t.post[i]? with
    | none => rw [e] at hx'; cases hx'
    | some u =>
      rw [e] at hx'
      have ex : u.pv = x := Option.some.inj hx'
      subst ex
      have hi : i < t.post.length := (List.getElem?_eq_some_iff.mp e).1
      have hi2 := hi
      rw [t.post_len] at hi2
      have ed : t.post.drop i = u :: t.post.drop (i + 1) := by rw [List.drop_eq_getElem_cons hi, (List.getElem?_eq_some_iff.mp e).2]
      rw [ed] at hr
      cases u with
      | leaf w =>
        rw [Tr.pv]
        one_item
        refine ⟨r_listAtA0 rfl, ?_⟩
        one_item
        refine r_appendA0 rfl ?_ ?_
        · rw [List.length_map]; exact small1000 (by omega)
        one_item
        refine ⟨r_listAtA (n := 1) rfl, ?_⟩
        one_item
        refine r_appendA (n := 1) rfl ?_ ?_
        · rw [List.length_map, List.length_reverse]; exact small1000 (by omega)
        refine ⟨_, _, _, told ++ [.word w], told.length :: ls, rfl, ?_, by rw [run] at hr; exact hr, by rw [List.length_append, ht]; rfl, by rw [List.length_cons]; omega⟩
        have e1 : (((told.map Ent.pv ++ [PV.str w]).length : Nat) : Int) - 1 = (told.length : Int) := by rw [List.length_append, List.length_map]; simp
        rw [e1, List.reverse_cons, List.map_append, List.map_append]
        rfl
      | node a b =>
        rw [Tr.pv]
        one_item
        match ls, hr, hls with
        | [], hr, hls => exact absurd hr (by simp [run])
        | [y], hr, hls => exact absurd hr (by simp [run])
        | y :: z :: ls, hr, hls =>
          refine ⟨r_listAtA (n := 1) rfl, ?_⟩
          one_item
          refine r_popA (n := 1) (l := (z :: ls).reverse.map fun n : Nat => .int (n : Int)) (y := .int (y : Int)) (by rw [List.reverse_cons, List.map_append]; rfl) ?_
          one_item
          refine ⟨r_listAtA (n := 1) rfl, ?_⟩
          one_item
          refine r_popA (n := 1) (l := ls.reverse.map fun n : Nat => .int (n : Int)) (y := .int (z : Int)) (by rw [List.reverse_cons, List.map_append]; rfl) ?_
          one_item
          refine ⟨r_listAtA0 rfl, ?_⟩
          one_item
          refine ⟨small' (Nat.le_of_ble_eq_true rfl), ?_⟩
          one_item
          refine r_appendA0 rfl ?_ ?_
          · rw [List.length_map]; exact small1000 (by omega)
          one_item
          refine ⟨r_listAtA (n := 1) rfl, ?_⟩
          one_item
          rw [List.length_cons, List.length_cons] at hls
          refine r_appendA (n := 1) rfl ?_ ?_
          · rw [List.length_map, List.length_reverse]; exact small1000 (by omega)
          refine ⟨_, _, _, told ++ [.pair z y], told.length :: ls, rfl, ?_, by rw [run] at hr; exact hr, by rw [List.length_append, ht]; rfl, by rw [List.length_cons]; omega⟩
          have e1 : (((told.map Ent.pv ++ [PV.tup [.int (z : Int), .int (y : Int)]]).length : Nat) : Int) - 1 = (told.length : Int) := by rw [List.length_append, List.length_map]; simp
          rw [e1, List.reverse_cons, List.map_append, List.map_append]
          rfl
  · rintro ⟨o3, o4, o5, told, ls, rfl, rfl, hr, ht, hls⟩
    have el : (t.post.map Tr.pv).length = t.post.length := List.length_map _
    rw [el, List.drop_length] at hr
    have hr' : told = t.nd 0 := by
      have : some (told, ls) = some (t.nd 0, [t.size - 1]) := hr
      injection this with this
      injection this
    subst hr'
    one_item
    exact exit_drop (dat_lim _ _ (by rw [PV.dat]; exact dat_map Ent.pv_dat _)) hh rfl q
def F_halves : MF := ⟨fun l h Q => (∃ w, l = [.str w] ∧ Q (.tup []) h) ∨ ∃ t, l = [.tup t] ∧ Q (.tup t) h, fun f q => q.elim (fun ⟨w, e, q⟩ => .inl ⟨w, e, f _ _ q⟩) fun ⟨w, e, q⟩ => .inr ⟨w, e, f _ _ q⟩⟩
theorem R_halves (l : List PV) (h : PH) (Q : QV) (hh : limH h.length h) (hl : limL h.length l = true) (q : F_halves.run l h Q) : b_halves.run (exitD h.length Q) (begin 1 l) h := by
  unfold b_halves
  rcases q with ⟨w, rfl, q⟩ | ⟨w, rfl, q⟩
  · show MS.run _ _ [some (.str w)] h
    one_item
    exact ⟨small' (Nat.le_of_ble_eq_true rfl), exit_same (by simp [PV.lim, limL]) hh rfl q⟩
  · show MS.run _ _ [some (.tup w)] h
    one_item
    rw [limL, Bool.and_eq_true] at hl
    exact exit_same hl.1 hh rfl q
end My
set_option Elab.async false
set_option linter.all false
set_option maxRecDepth 100000
namespace My
open PySem PySem.Spec PyProof.Rows L2 PL
local macro_rules | `(tactic| mod_arm) => `(tactic| ((try dsimp only [List.set_cons_succ, List.set_cons_zero]); first
  | with_reducible refine r_seq ?_
  | with_reducible refine r_asg ?_
  | with_reducible refine r_gset ?_
  | ((with_reducible refine r_var (v := ?rdV) ?rdE ?_); case rdE => exact rfl)
  | with_reducible refine r_c ?_
  | with_reducible refine r_op ?_
  | with_reducible refine r_addI ?_
  | with_reducible refine r_sub ?_
  | ((with_reducible refine r_mul ?rdC ?_); (case rdC => first | exact mul_l (by omega) (by omega) | exact mul_r (by omega) (by omega)))
  | ((with_reducible refine r_div ?rdC ?_); (case rdC => exact ⟨by omega, by omega⟩))
  | ((with_reducible refine r_mod ?rdC ?_); (case rdC => first | omega | decide))
  | ((with_reducible refine r_pow ?rdC ?_); (case rdC => exact ⟨by decide, by decide, by decide⟩))
  | with_reducible refine r_lt ?_
  | with_reducible refine r_le ?_
  | with_reducible refine r_gt ?_
  | with_reducible refine r_ge ?_
  | with_reducible refine r_eqIs ?_
  | with_reducible refine r_eqSs ?_
  | with_reducible refine r_eqBs ?_
  | with_reducible refine r_neIs ?_
  | with_reducible refine r_neSs ?_
  | with_reducible refine r_eqI ?_
  | with_reducible refine r_neI ?_
  | with_reducible refine r_eqS ?_
  | with_reducible refine r_neS ?_
  | with_reducible refine r_eqB ?_
  | with_reducible refine r_neB ?_
  | with_reducible refine r_eqN ?_
  | with_reducible refine r_isN_S ?_
  | with_reducible refine r_isN_T ?_
  | with_reducible refine r_isN_I ?_
  | with_reducible refine r_isN_B ?_
  | with_reducible refine r_isN_N ?_
  | with_reducible refine r_notN_S ?_
  | with_reducible refine r_notN_T ?_
  | with_reducible refine r_notN_I ?_
  | with_reducible refine r_notN_B ?_
  | with_reducible refine r_notN_N ?_
  | with_reducible refine r_isB ?_
  | with_reducible refine r_isNotB ?_
  | with_reducible refine r_B ?_
  | with_reducible refine r_kB ?_
  | with_reducible refine r_andV ?_
  | with_reducible refine r_orV ?_
  | with_reducible refine r_notV ?_
  | with_reducible refine r_kAndT ?_
  | with_reducible refine r_kAndF ?_
  | with_reducible refine r_kOrT ?_
  | with_reducible refine r_kOrF ?_
  | with_reducible refine r_kNotT ?_
  | with_reducible refine r_kNotF ?_
  | with_reducible refine r_kNot ?_
  | with_reducible refine r_andT ?_
  | with_reducible refine r_orT ?_
  | with_reducible refine r_nt ?_
  | with_reducible refine r_kNtT ?_
  | with_reducible refine r_kNtF ?_
  | with_reducible refine r_kNt ?_
  | with_reducible refine r_if ?_
  | with_reducible refine r_ifS ?_
  | with_reducible refine r_tru ?_
  | with_reducible refine r_pTruB ?_
  | with_reducible refine r_nil ?_
  | with_reducible refine r_cons ?_
  | with_reducible refine r_tup ?_
  | with_reducible refine r_lst ?_
  | with_reducible refine r_al ?_
  | with_reducible refine r_kAl1 ?_
  | with_reducible refine r_kAl2 ?_
  | with_reducible refine r_kAl3 ?_
  | with_reducible refine r_kAl4 ?_
  | with_reducible refine r_kAl ?_
  | with_reducible refine r_augS ?_
  | with_reducible refine r_tupR1 ?_
  | with_reducible refine r_listR2 ?_
  | with_reducible refine r_sl3 ?_
  | with_reducible refine r_slset ?_
  | with_reducible refine r_own ?_
  | with_reducible refine r_ownL ?_
  | with_reducible refine r_sq ?_
  | with_reducible refine r_sqL ?_
  | with_reducible refine r_kSqT ?_
  | with_reducible refine r_kSqC ?_
  | with_reducible refine r_kSqLC ?_
  | ((with_reducible refine r_kSqR (l := ?rdL) ?rdE ?_); case rdE => first | assumption | (refine get_app0.trans ?_; exact rfl) | (refine (get_app _).trans ?_; exact rfl) | exact get_old' (by assumption))
  | ((with_reducible refine r_kSqLR (l := ?rdL) ?rdE ?_); case rdE => first | assumption | (refine get_app0.trans ?_; exact rfl) | (refine (get_app _).trans ?_; exact rfl) | exact get_old' (by assumption))
  | with_reducible refine r_ix ?_
  | ((with_reducible refine r_kIx (v := ?rdV) ?rdO ?rdE ?_); (case rdO => first | exact trivial | assumption | (refine get_app0.trans ?_; exact rfl) | (refine (get_app _).trans ?_; exact rfl) | exact get_old' (by assumption)); (case rdE => exact rfl))
  | with_reducible refine r_catL ?_
  | with_reducible refine r_revL ?_
  | with_reducible refine r_slL ?_
  | with_reducible refine r_moN ?_
  | with_reducible refine r_moS ?_
  | with_reducible refine r_kO ?_
  | with_reducible refine r_call ?_
  | with_reducible refine r_callL ?_
  | with_reducible refine r_bi ?_
  | with_reducible refine r_biQ ?_
  | with_reducible refine r_biL ?_
  | with_reducible refine r_lenT ?_
  | with_reducible refine r_lenC ?_
  | ((with_reducible refine r_lenR (l := ?rdL) ?rdE ?_); case rdE => first | assumption | (refine get_app0.trans ?_; exact rfl) | (refine (get_app _).trans ?_; exact rfl) | exact get_old' (by assumption))
  | with_reducible refine r_lenQ ?_
  | with_reducible refine r_abs ?_
  | with_reducible refine r_toIntI ?_
  | with_reducible refine r_toIntB ?_
  | with_reducible refine r_max ?_
  | with_reducible refine r_min ?_
  | with_reducible refine r_toTup ?_
  | with_reducible refine r_toList ?_
  | with_reducible refine r_all ?_
  | with_reducible refine r_any ?_
  | with_reducible refine r_isi ?_
  | with_reducible refine r_kIsi_str_S ?_
  | with_reducible refine r_kIsi_str_T ?_
  | with_reducible refine r_kIsi_str_I ?_
  | with_reducible refine r_kIsi_str_B ?_
  | with_reducible refine r_kIsi_str_N ?_
  | with_reducible refine r_kIsi_tup_S ?_
  | with_reducible refine r_kIsi_tup_T ?_
  | with_reducible refine r_kIsi_tup_I ?_
  | with_reducible refine r_kIsi_tup_B ?_
  | with_reducible refine r_kIsi_tup_N ?_
  | with_reducible refine r_kIsi_int_S ?_
  | with_reducible refine r_kIsi_int_T ?_
  | with_reducible refine r_kIsi_int_I ?_
  | with_reducible refine r_kIsi_int_B ?_
  | with_reducible refine r_kIsi_int_N ?_
  | with_reducible refine r_kIsi_bool_S ?_
  | with_reducible refine r_kIsi_bool_T ?_
  | with_reducible refine r_kIsi_bool_I ?_
  | with_reducible refine r_kIsi_bool_B ?_
  | with_reducible refine r_kIsi_bool_N ?_
  | with_reducible refine r_opQ ?_
  | with_reducible refine r_lm ?_
  | with_reducible refine r_lmQ ?_
  | with_reducible refine r_gsub ?_
  | ((with_reducible refine r_gtup ?rdC ?_); case rdC => exact rfl)
  | with_reducible refine r_gscons ?_
  | with_reducible refine r_gsnil ?_
  | with_reducible refine r_drop ?_
  | with_reducible refine r_ret ?_
  | with_reducible refine r_par ?_
  | ((with_reducible refine r_aug (x := ?rdV) ?rdE ?_); case rdE => exact rfl)
  | with_reducible refine r_ipAdd ?_
  | with_reducible refine r_for ?_
  | with_reducible refine r_lc ?_
  | with_reducible refine r_walk ?_
  | with_reducible refine r_mAll ?_
  | with_reducible refine r_range1 ?_
  | with_reducible refine r_range2 ?_
  | with_reducible refine r_range3 ?_
  | with_reducible refine r_enum ?_
  | with_reducible refine r_zip ?_
  | with_reducible refine r_signs ?_
  | with_reducible refine r_kSg ?_
  | with_reducible refine r_neg ?_
  | with_reducible refine r_kNeg ?_
  | with_reducible refine iteT ?_
  | with_reducible refine iteF ?_
  | with_reducible refine r_next ?_))
local macro_rules | `(tactic| one_item) => `(tactic| repeat (mod_arm))
def vp : V → PV
  | .int i => .int i
  | .str x => .str x
  | .bl b => .bl b
  | _ => .non
theorem ixN_nat {n k : Nat} (h : k < n) : ixN n (k : Int) = some k := by
  unfold ixN
  rw [if_pos (by omega), if_pos (by omega)]
  simp
def natP (l : List Nat) : List PV := l.map fun (n : Nat) => .int (n : Int)
theorem natP_dat (l : List Nat) : datL (natP l) = true := dat_map (fun _ => by rw [PV.dat] <;> simp) l
theorem natP_len (l : List Nat) : (natP l).length = l.length := List.length_map _
theorem natP_app (a b : List Nat) : natP (a ++ b) = natP a ++ natP b := List.map_append
/-- the ones ahead -/
def ahL (t : Tr) : List PV := (ah (t.nd 0) 0 (List.replicate t.size V.non)).map vp
theorem ahL_len (t : Tr) : (ahL t).length = t.size := by unfold ahL; rw [List.length_map, ah_len, List.length_replicate]
theorem ahL_get (t : Tr) {j : Nat} (h : j < t.size) : (ahL t)[j]? = some (vp (ahd t 0 j .non)) := by unfold ahL; rw [List.getElem?_map, ah_get t h]; rfl
theorem vp_dat (v : V) : (vp v).dat = true := by cases v <;> simp [vp, PV.dat]
def F_ahead : MF := ⟨fun l h Q => ∃ t : Tr, l = [t.pv] ∧ t.size ≤ 1000 ∧ Q (.tup (ahL t)) h, fun f ⟨t, e, h1, q⟩ => ⟨t, e, h1, f _ _ q⟩⟩
theorem fm_const {α : Type} (l : List PV) (f : PV → Option PV) (x : PV) (h : ∀ y, f y = some x) : l.filterMap f = List.replicate l.length x := by
  induction l with
  | nil => rfl
  | cons a l ih => rw [List.filterMap_cons, h, ih]; rfl
theorem R_ahead (l : List PV) (h : PH) (Q : QV) (hh : limH h.length h) (hl : limL h.length l = true) (q : F_ahead.run l h Q) : (b_ahead_of F_nodes F_halves).run (exitD h.length Q) (begin 6 l) h := by
  obtain ⟨t, rfl, hz, q⟩ := q
  have hnl : ((t.nd 0).map Ent.pv).length = t.size := by rw [List.length_map, t.nd_len]
  unfold b_ahead_of
  show MS.run _ _ [some t.pv, none, none, none, none, none] h
  one_item
  refine ⟨t, rfl, hz, ?_⟩
  one_item
  refine lc_map (fun ps => ∃ a, ps = [a]) (fun _ => some .non) trivial (by show ((t.nd 0).map Ent.pv).length ≤ _; rw [hnl]; exact small' hz) (fun p hp ps hps R hR => ?_) ?_ ⟨_, rfl⟩
  · obtain ⟨a, rfl⟩ := hps
    one_item
    exact ⟨rfl, ⟨_, rfl⟩, hR⟩
  dsimp only
  rw [fm_const (α := Nat) _ _ .non fun _ => rfl]
  have e0 : List.replicate ((t.nd 0).map Ent.pv).length PV.non = ((ah ((t.nd 0).take 0) 0 (List.replicate t.size V.non)).map vp) := by
    rw [hnl, List.take_zero, ah, List.map_replicate]; rfl
  one_item
  rw [e0]
  refine for_inv (fun i ps h' => ∃ (o2 o4 o5 : Option PV), ps = [some t.pv, some (.tup ((t.nd 0).map Ent.pv)), o2, some (.ref h.length), o4, o5] ∧ h' = h ++ [.lst ((ah ((t.nd 0).take i) 0 (List.replicate t.size V.non)).map vp)]) (fun _ _ _ _ => trivial) (fun i x ps h' hx => ?_) (fun ps h' => ?_) ⟨_, _, _, rfl, rfl⟩
  · rintro ⟨o2, o4, o5, rfl, rfl⟩
    obtain ⟨y, hy, rfl⟩ := enumV_get hx
    have hy' : ((t.nd 0).map Ent.pv)[i]? = some y := hy
    rw [List.getElem?_map] at hy'
    cases e : (t.nd 0)[i]? with
    | none => rw [e] at hy'; cases hy'
    | some en =>
      rw [e] at hy'
      have ey : en.pv = y := Option.some.inj hy'
      subst ey
      have hi : i < t.size := by have := (List.getElem?_eq_some_iff.mp e).1; rw [t.nd_len] at this; exact this
      have et : (t.nd 0).take (i + 1) = (t.nd 0).take i ++ [en] := by rw [List.take_succ, e]; rfl
      have ea : ah ((t.nd 0).take (i + 1)) 0 (List.replicate t.size V.non) = ahS (ah ((t.nd 0).take i) 0 (List.replicate t.size V.non)) (0 + i) en := by
        rw [et, ah_snoc, List.length_take, t.nd_len]; congr 1; omega
      have hal : (ah ((t.nd 0).take i) 0 (List.replicate t.size V.non)).length = t.size := by rw [ah_len, List.length_replicate]
      generalize hA : ah ((t.nd 0).take i) 0 (List.replicate t.size V.non) = A at ea hal ⊢
      one_item
      cases en with
      | word w =>
        rw [Ent.pv]
        refine .inl ⟨w, rfl, ?_⟩
        one_item
        refine ⟨trivial, _, _, _, rfl, ?_⟩
        rw [ea]; rfl
      | pair a b =>
        rw [Ent.pv]
        refine .inr ⟨_, rfl, ?_⟩
        have hab : a < i ∧ b < i := by
          have h1 := nd_en t 0 i hi
          rw [e] at h1
          rcases be_en t 0 i hi with ⟨x, e1, _⟩ | ⟨a', b', e1, e2, e3, _⟩
          · rw [e1] at h1; cases h1
          · rw [e1] at h1; injection h1 with h1; injection h1 with h1 h2; omega
        one_item
        refine ⟨trivial, ?_⟩
        one_item
        refine r_sListA0 rfl (j := a) (by rw [List.length_map, hal]; exact ixN_nat (by omega)) ?_
        one_item
        refine ⟨trivial, ?_⟩
        one_item
        refine r_sListA0 rfl (j := b) (by rw [List.length_set, List.length_map, hal]; exact ixN_nat (by omega)) ?_
        refine ⟨trivial, _, _, _, rfl, ?_⟩
        rw [ea]
        show h ++ [PO.lst (((A.map vp).set a _).set b _)] = h ++ [PO.lst (((A.set a _).set b _).map vp)]
        rw [List.map_set, List.map_set]
        rfl
  · rintro ⟨o2, o4, o5, rfl, rfl⟩
    have el : (enumV 0 ((t.nd 0).map Ent.pv)).length = (t.nd 0).length := by rw [enumV_len, List.length_map]
    dsimp only
    rw [el, List.take_length]
    one_item
    exact exit_drop (dat_lim _ _ (by rw [PV.dat]; exact dat_map vp_dat _)) hh rfl q
def nmP : Ent → Nat → PV
  | .word x, _ => .str x
  | .pair _ _, j => .int (j : Int)
def hvP : Ent → List PV
  | .word _ => []
  | .pair a b => [.int (a : Int), .int (b : Int)]
def F_name : MF := ⟨fun l h Q => ∃ (es : List Ent) (j : Nat) (e : Ent), l = [.tup (es.map Ent.pv), .int (j : Int)] ∧ es[j]? = some e ∧ Q (nmP e j) h, fun f ⟨es, j, e, h1, h2, q⟩ => ⟨es, j, e, h1, h2, f _ _ q⟩⟩
theorem at_map {α : Type} {f : α → PV} {l : List α} {j : Nat} {a : α} (h : l[j]? = some a) : atI (l.map f) (j : Int) = some (f a) := atI_nat (by rw [List.getElem?_map, h]; rfl)
theorem R_name (l : List PV) (h : PH) (Q : QV) (hh : limH h.length h) (hl : limL h.length l = true) (q : F_name.run l h Q) : b_name_of.run (exitD h.length Q) (begin 2 l) h := by
  obtain ⟨es, j, e, rfl, he, q⟩ := q
  unfold b_name_of
  show MS.run _ _ [some (.tup (es.map Ent.pv)), some (.int (j : Int))] h
  have ha := at_map (f := Ent.pv) he
  one_item
  refine r_kIx trivial ha ?_
  cases e with
  | word x =>
    rw [Ent.pv]
    one_item
    refine r_kIx trivial ha ?_
    exact exit_same (by simp [PV.lim, Ent.pv]) hh rfl q
  | pair a b =>
    rw [Ent.pv]
    one_item
    exact exit_same (by simp [PV.lim]) hh rfl q
/-- for each house the tuple of it and those above it -/
def upL (t : Tr) : List PV := (List.range t.size).map fun j => .tup (natP (up t 0 j []))
theorem upL_len (t : Tr) : (upL t).length = t.size := by unfold upL; simp
theorem upL_get (t : Tr) {j : Nat} (h : j < t.size) : (upL t)[j]? = some (.tup (natP (up t 0 j []))) := by unfold upL; simp [h]
theorem upL_dat (t : Tr) : datL (upL t) = true := dat_map (fun _ => by rw [PV.dat]; exact natP_dat _) _
theorem up_len (t : Tr) : ∀ (k j : Nat), j + k + 1 = t.size → (up t 0 j []).length ≤ k + 1 := fun k => by
  induction k using Nat.strongRecOn with
  | ind k ih =>
    intro j hj
    rcases up_ahd t 0 j .non [] (by omega) with ⟨q1, q2, q3⟩ | ⟨a, q1, q2, q3, q4⟩
    · rw [q3]; show 1 ≤ k + 1; omega
    · rw [q4, List.length_cons]
      have := ih (t.size - a - 1) (by omega) a (by omega)
      omega
theorem up_le (t : Tr) {j : Nat} (h : j < t.size) : (up t 0 j []).length ≤ t.size := by
  have := up_len t (t.size - j - 1) j (by omega)
  omega
def F_lines : MFL := ⟨fun l h Q => ∃ t : Tr, l = [t.pv] ∧ t.size ≤ 900 ∧ Q (upL t) h, fun f ⟨t, e, h1, q⟩ => ⟨t, e, h1, f _ _ q⟩⟩
/-- the lines so far: from the i-th last house on -/
def upS (t : Tr) (i : Nat) : List PV := (List.range t.size).map fun j => if j + i < t.size then .tup [] else .tup (natP (up t 0 j []))
theorem upS_len (t : Tr) (i : Nat) : (upS t i).length = t.size := by unfold upS; simp
theorem upS_get (t : Tr) (i : Nat) {j : Nat} (h : j < t.size) (c : ¬ j + i < t.size) : (upS t i)[j]? = some (.tup (natP (up t 0 j []))) := by unfold upS; simp [h, c]
theorem upS_set (t : Tr) (i j : Nat) (h : j + i + 1 = t.size) : (upS t i).set j (.tup (natP (up t 0 j []))) = upS t (i + 1) := by
  apply List.ext_getElem?
  intro k
  by_cases hk : k < t.size
  · by_cases e : j = k
    · subst e
      rw [List.getElem?_set_self (by rw [upS_len]; exact hk), upS_get t (i + 1) hk (by omega)]
    · rw [List.getElem?_set_ne e]
      unfold upS
      simp only [List.getElem?_map, List.getElem?_range hk, Option.map_some]
      by_cases c : k + i < t.size
      · rw [if_pos c, if_pos (by omega)]
      · rw [if_neg c, if_neg (by omega)]
  · rw [List.getElem?_eq_none (by rw [List.length_set, upS_len]; omega), List.getElem?_eq_none (by rw [upS_len]; omega)]
theorem upS_0 (t : Tr) : upS t 0 = List.replicate t.size (.tup []) := by
  apply List.ext_getElem?
  intro k
  unfold upS
  by_cases hk : k < t.size
  · simp [hk]
  · simp [hk]
theorem upS_all (t : Tr) : upS t t.size = upL t := by
  unfold upS upL
  apply List.map_congr_left
  intro j _
  rw [if_neg (by omega)]
theorem R_lines (l : List PV) (h : PH) (Q : List PV → PH → Prop) (hh : limH h.length h) (hl : limL h.length l = true) (q : F_lines.run l h Q) : (b_lines_up F_ahead).run (exitLD h.length Q) (begin 5 l) h := by
  obtain ⟨t, rfl, hz, q⟩ := q
  have sp := t.size_pos
  unfold b_lines_up
  show MS.run _ _ [some t.pv, none, none, none, none] h
  one_item
  refine ⟨t, rfl, by omega, ?_⟩
  one_item
  refine lc_map (fun ps => ∃ a, ps = [a]) (fun _ => some (.tup [])) trivial (by show (ahL t).length ≤ _; rw [ahL_len]; exact small' (by omega)) (fun p hp ps hps R hR => ?_) ?_ ⟨_, rfl⟩
  · obtain ⟨a, rfl⟩ := hps
    one_item
    exact ⟨small' (Nat.le_of_ble_eq_true rfl), rfl, ⟨_, rfl⟩, hR⟩
  dsimp only
  rw [fm_const (α := Nat) _ _ (.tup []) fun _ => rfl, ahL_len, ← upS_0]
  one_item
  rw [ahL_len]
  refine r_kR3 rfl ⟨by omega, by omega⟩ ⟨by omega, by omega⟩ ?_
  have en : (((t.size : Nat) : Int) - 1 - -1).toNat = t.size := by omega
  rw [en]
  refine for_inv (fun i ps h' => ∃ (o2 o4 : Option PV), ps = [some t.pv, some (.tup (ahL t)), o2, some (.ref h.length), o4] ∧ h' = h ++ [.lst (upS t i)] ∧ i ≤ t.size) (fun _ _ _ _ => trivial) (fun i x ps h' hx => ?_) (fun ps h' => ?_) ⟨_, _, rfl, rfl, Nat.zero_le _⟩
  · rintro ⟨o2, o4, rfl, rfl, _⟩
    obtain ⟨hi, rfl⟩ := downV_get hx
    obtain ⟨j, hj⟩ : ∃ j : Nat, j = t.size - 1 - i := ⟨_, rfl⟩
    have ej : (((t.size : Nat) : Int) - 1 - (i : Int)) = (j : Int) := by omega
    rw [ej]
    have hjs : j < t.size := by omega
    have ga := ahL_get t hjs
    have ul := up_le t hjs
    have es := upS_set t i j (by omega)
    one_item
    refine r_kIx trivial (atI_nat ga) ?_
    rcases up_ahd t 0 j .non [] hjs with ⟨q1, q2, q3⟩ | ⟨a, q1, q2, q3, q4⟩
    · rw [q2]
      rw [Nat.zero_add] at q3
      simp only [vp]
      one_item
      refine ⟨small' (Nat.le_of_ble_eq_true rfl), ?_⟩
      one_item
      refine ⟨small' (Nat.le_of_ble_eq_true rfl), ?_⟩
      one_item
      refine r_addT (by simp) (small' (Nat.le_of_ble_eq_true rfl)) ?_
      one_item
      refine r_sListA0 rfl (j := j) (by rw [upS_len]; exact ixN_nat hjs) ?_
      refine ⟨_, _, rfl, ?_, hi⟩
      rw [← es, q3]
      rfl
    · rw [q3, Nat.zero_add]
      rw [Nat.zero_add] at q4
      simp only [vp]
      one_item
      refine r_kIx trivial (atI_nat ga) ?_
      rw [q3, Nat.zero_add]
      simp only [vp]
      refine r_kIx (get_app0.trans rfl) (atI_nat (upS_get t i q2 (by omega))) ?_
      one_item
      refine ⟨small' (Nat.le_of_ble_eq_true rfl), ?_⟩
      one_item
      rw [q4] at ul
      refine r_addT (by simp) (by rw [natP_len]; exact small' (by show 1 + _ ≤ _; rw [List.length_cons] at ul; omega)) ?_
      one_item
      refine r_sListA0 rfl (j := j) (by rw [upS_len]; exact ixN_nat hjs) ?_
      refine ⟨_, _, rfl, ?_, hi⟩
      rw [← es, q4]
      rfl
  · rintro ⟨o2, o4, rfl, rfl, _⟩
    dsimp only
    rw [downV_len, upS_all]
    one_item
    exact exit_list (k := 0) rfl (datL_lim _ _ (upL_dat t)) hh rfl q
/-- the houses beside -/
def apb (t : Tr) (j k : Nat) : Bool := !decide (k ∈ up t 0 j []) && !decide (j ∈ up t 0 k [])
def apt (t : Tr) (j : Nat) : List Nat := (List.range t.size).filter (apb t j)
theorem apt_len (t : Tr) (j : Nat) : (apt t j).length ≤ t.size := by
  have := List.length_filter_le (apb t j) (List.range t.size)
  rw [List.length_range] at this
  exact this
theorem inB_nat (k : Nat) : ∀ l : List Nat, inB (.int (k : Int)) (natP l) = decide (k ∈ l)
  | [] => rfl
  | a :: l => by
    have h := inB_nat k l
    show (peq (.int (a : Int)) (.int (k : Int)) || inB (.int (k : Int)) (natP l)) = _
    rw [h, peq]
    by_cases c : a = k
    · subst c; simp
    · have c1 : ((a : Int) == (k : Int)) = false := by simp; omega
      have c2 : ¬ k = a := fun z => c z.symm
      rw [c1]; simp [c2]
theorem dep_natP (l : List Nat) : depL (natP l) ≤ 101 := Nat.le_trans (depL_le (n := 0) fun x hx => by
  obtain ⟨n, _, rfl⟩ := List.mem_map.mp hx
  rw [PV.dep] <;> simp) (by omega)
def F_apart : MF := ⟨fun l h Q => ∃ (t : Tr) (p j : Nat), l = [.ref p, .int (j : Int)] ∧ h[p]? = some (.lst (upL t)) ∧ t.size ≤ 900 ∧ j < t.size ∧ Q (.tup (natP (apt t j))) h, fun f ⟨t, p, j, e, h1, h2, h3, q⟩ => ⟨t, p, j, e, h1, h2, h3, f _ _ q⟩⟩
theorem fm_ints (n : Nat) (g : Nat → Bool) (f : PV → Option PV) (hf : ∀ k, k < n → f (.int ((k : Nat) : Int)) = if g k then some (.int (k : Int)) else none) : (intsV 0 n).filterMap f = natP ((List.range n).filter g) := by
  have go : ∀ l : List Nat, (∀ k ∈ l, k < n) → (l.map fun (i : Nat) => PV.int (0 + (i : Int))).filterMap f = natP (l.filter g) := by
    intro l
    induction l with
    | nil => intro _; rfl
    | cons k l ih =>
      intro hl
      have e := hf k (hl k List.mem_cons_self)
      have ih' := ih fun x hx => hl x (List.mem_cons_of_mem _ hx)
      rw [List.map_cons, List.filterMap_cons, show (0 : Int) + (k : Int) = (k : Int) by omega, e, List.filter_cons]
      by_cases c : g k
      · rw [if_pos c, if_pos c, ih']; rfl
      · rw [if_neg c, if_neg c]; exact ih'
  exact go (List.range n) fun k hk => List.mem_range.mp hk
theorem R_apart (l : List PV) (h : PH) (Q : QV) (hh : limH h.length h) (hl : limL h.length l = true) (q : F_apart.run l h Q) : b_apart_from.run (exitD h.length Q) (begin 2 l) h := by
  obtain ⟨t, p, j, rfl, hp, hz, hj, q⟩ := q
  unfold b_apart_from
  show MS.run _ _ [some (.ref p), some (.int (j : Int))] h
  one_item
  rw [upL_len]
  refine r_kR1 ⟨by omega, by omega⟩ ?_
  refine lc_map (fun ps => ∃ a, ps = [a, some (.int (j : Int)), some (.ref p)]) (fun x => match x with | .int k => if apb t j k.toNat then some (.int k) else none | _ => none) trivial (by rw [intsV_len]; exact small' (by omega)) (fun x hx ps hps R hR => ?_) ?_ ⟨_, rfl⟩
  · obtain ⟨a, rfl⟩ := hps
    obtain ⟨i, hi⟩ := List.getElem?_of_mem hx
    obtain ⟨h1, rfl⟩ := intsV_get hi
    have h1 : i < t.size := by omega
    rw [show (0 : Int) + (i : Int) = (i : Int) by omega]
    one_item
    refine r_kIx hp (atI_nat (upL_get t hj)) ?_
    one_item
    refine r_notIn (by simp [PV.dat]) (natP_dat _) (dep_natP _) ?_
    rw [inB_nat]
    one_item
    cases c1 : decide (i ∈ up t 0 j []) with
    | true =>
      rw [Bool.not_true]
      one_item
      refine ⟨?_, ⟨_, rfl⟩, hR⟩
      simp [apb, c1]
    | false =>
      rw [Bool.not_false]
      one_item
      refine r_kIx hp (atI_nat (upL_get t h1)) ?_
      one_item
      refine r_notIn (by simp [PV.dat]) (natP_dat _) (dep_natP _) ?_
      rw [inB_nat]
      one_item
      cases c2 : decide (j ∈ up t 0 i []) with
      | true =>
        rw [Bool.not_true]
        one_item
        refine ⟨?_, ⟨_, rfl⟩, hR⟩
        simp [apb, c1, c2]
      | false =>
        rw [Bool.not_false]
        one_item
        refine ⟨?_, ⟨_, rfl⟩, hR⟩
        simp [apb, c1, c2]
  · rw [show ((t.size : Nat) : Int).toNat = t.size by omega, fm_ints t.size (apb t j) _ fun k hk => by simp]
    one_item
    exact exit_same (dat_lim _ _ (by rw [PV.dat]; exact natP_dat _)) hh rfl q
def stay (t : Tr) (j : Nat) : PV := .tup [nmP (en t 0 j) j, .int 0, .tup (hvP (en t 0 j)), .tup (natP (apt t j))]
def groundL (t : Tr) : List PV := (List.range t.size).map (stay t)
theorem stay_dat (t : Tr) (j : Nat) : (stay t j).dat = true := by
  unfold stay
  cases en t 0 j <;> simp [PV.dat, datL, nmP, hvP, natP_dat]
def F_ground : MF := ⟨fun l h Q => ∃ t : Tr, l = [t.pv] ∧ t.size ≤ 900 ∧ Q (.tup (groundL t)) h, fun f ⟨t, e, h1, q⟩ => ⟨t, e, h1, f _ _ q⟩⟩
theorem fm_intsP (n : Nat) (g : Nat → PV) (f : PV → Option PV) (hf : ∀ k, k < n → f (.int ((k : Nat) : Int)) = some (g k)) : (intsV 0 n).filterMap f = (List.range n).map g := by
  have go : ∀ l : List Nat, (∀ k ∈ l, k < n) → (l.map fun (i : Nat) => PV.int (0 + (i : Int))).filterMap f = l.map g := by
    intro l
    induction l with
    | nil => intro _; rfl
    | cons k l ih =>
      intro hl
      have e := hf k (hl k List.mem_cons_self)
      have ih' := ih fun x hx => hl x (List.mem_cons_of_mem _ hx)
      rw [List.map_cons, List.filterMap_cons, show (0 : Int) + (k : Int) = (k : Int) by omega, e, List.map_cons, ih']
  exact go (List.range n) fun k hk => List.mem_range.mp hk
theorem R_ground (l : List PV) (h : PH) (Q : QV) (hh : limH h.length h) (hl : limL h.length l = true) (q : F_ground.run l h Q) : (b_ground F_nodes F_lines F_apart F_halves F_name).run (exitD h.length Q) (begin 3 l) h := by
  obtain ⟨t, rfl, hz, q⟩ := q
  unfold b_ground
  show MS.run _ _ [some t.pv, none, none] h
  one_item
  refine ⟨t, rfl, by omega, ?_⟩
  one_item
  refine ⟨t, rfl, hz, ?_⟩
  one_item
  rw [List.length_map, t.nd_len]
  refine r_kR1 ⟨by omega, by omega⟩ ?_
  refine lc_map (fun ps => ∃ a, ps = [a, some (.tup ((t.nd 0).map Ent.pv)), some (.ref h.length)]) (fun x => match x with | .int k => some (stay t k.toNat) | _ => none) trivial (by rw [intsV_len]; exact small' (by omega)) (fun x hx ps hps R hR => ?_) ?_ ⟨_, rfl⟩
  · obtain ⟨a, rfl⟩ := hps
    obtain ⟨i, hi⟩ := List.getElem?_of_mem hx
    obtain ⟨h1, rfl⟩ := intsV_get hi
    have h1 : i < t.size := by omega
    rw [show (0 : Int) + (i : Int) = (i : Int) by omega]
    have he := nd_en t 0 i h1
    one_item
    refine ⟨_, i, _, rfl, he, ?_⟩
    one_item
    refine r_kIx trivial (at_map he) ?_
    one_item
    cases ee : en t 0 i with
    | word w =>
      rw [ee] at he
      refine .inl ⟨w, rfl, ?_⟩
      one_item
      refine ⟨t, _, i, rfl, get_app0.trans rfl, hz, h1, ?_⟩
      one_item
      refine ⟨small' (Nat.le_of_ble_eq_true rfl), ?_, ⟨_, rfl⟩, hR⟩
      simp [stay, ee, nmP, hvP]
    | pair x y =>
      refine .inr ⟨_, rfl, ?_⟩
      one_item
      refine ⟨t, _, i, rfl, get_app0.trans rfl, hz, h1, ?_⟩
      one_item
      refine ⟨small' (Nat.le_of_ble_eq_true rfl), ?_, ⟨_, rfl⟩, hR⟩
      simp [stay, ee, nmP, hvP]
  · rw [show ((t.size : Nat) : Int).toNat = t.size by omega, fm_intsP t.size (stay t) _ fun k hk => by simp]
    one_item
    exact exit_drop (dat_lim _ _ (by rw [PV.dat]; exact dat_map (stay_dat t) _)) hh rfl q
end My
set_option Elab.async false
set_option linter.all false
set_option maxRecDepth 100000
set_option maxHeartbeats 1000000
namespace My
open PySem PySem.Spec PyProof.Rows L2 PL
def fcT (w : Str) (ws : List Str) : Tr := ws.foldl (fun t x => .node t (.leaf x)) (.leaf w)
def lcT (w : Str) (ws : List Str) : Tr := ws.foldl (fun t x => .node (.leaf x) t) (.leaf w)
def oddV (m : Nat) : List PV := (intsV 1 (m - 1)).filterMap fun x => match x with | .int k => some (.int (2 * k - 1)) | _ => none
def laterV (m : Nat) (k : Int) : List PV := (oddV m).filterMap fun x => match x with | .int i => if 2 * k - 1 < i then some (.int i) else none | _ => none
def firstS (w : Str) (ws : List Str) : Nat → List PV
  | 0 => [.tup [.str w, .int 0, .tup [], .tup (oddV (ws.length + 1))]]
  | i + 1 => firstS w ws i ++ [.tup [.str (ws.getD i w), .int 0, .tup [], .tup (intsV 0 (2 * (1 + (i : Int)) - 1 - 0).toNat ++ laterV (ws.length + 1) (1 + (i : Int)))]] ++ [.tup [.int (2 * (1 + (i : Int))), .int 0, .tup [.int (2 * (1 + (i : Int)) - 2), .int (2 * (1 + (i : Int)) - 1)], .tup (laterV (ws.length + 1) (1 + (i : Int)))]]
theorem first_eq (w : Str) : ∀ ws : List Str, ws.length ≤ 7 → (fcT w ws).size ≤ 900 ∧ groundL (fcT w ws) = firstS w ws ws.length
  | [], _ => ⟨Nat.le_of_ble_eq_true rfl, rfl⟩
  | [a], _ => ⟨Nat.le_of_ble_eq_true rfl, rfl⟩
  | [a, b], _ => ⟨Nat.le_of_ble_eq_true rfl, rfl⟩
  | [a, b, c], _ => ⟨Nat.le_of_ble_eq_true rfl, rfl⟩
  | [a, b, c, d], _ => ⟨Nat.le_of_ble_eq_true rfl, rfl⟩
  | [a, b, c, d, e], _ => ⟨Nat.le_of_ble_eq_true rfl, rfl⟩
  | [a, b, c, d, e, f], _ => ⟨Nat.le_of_ble_eq_true rfl, rfl⟩
  | [a, b, c, d, e, f, g], _ => ⟨Nat.le_of_ble_eq_true rfl, rfl⟩
  | _ :: _ :: _ :: _ :: _ :: _ :: _ :: _ :: _, h => absurd h (by simp only [List.length_cons]; omega)
end My
set_option Elab.async false
set_option linter.all false
set_option maxRecDepth 100000
set_option maxHeartbeats 1000000
namespace My
open PySem PySem.Spec PyProof.Rows L2 PL
def lcA (all : List Str) : Tr := match all.reverse with | [] => .leaf "" | w :: r => lcT w r
def othV (m k : Int) : List PV := ((intsV 0 m.toNat).filterMap fun x => match x with | .int j => if j = k then none else some (.int j) | _ => none) ++ intsV m ((if 2 * m - 2 - k > m then 2 * m - 2 - k else m) - m).toNat
def lastS (all : List Str) : Nat → List PV
  | 0 => []
  | i + 1 => lastS all i ++ [.tup [.str (all.getD i ""), .int 0, .tup [], .tup (othV (all.length : Nat) (0 + (i : Int)))]]
def lastU (m : Int) (a : List PV) : Nat → List PV
  | 0 => a
  | i + 1 => lastU m a i ++ [.tup [.int (m + (0 + (i : Int))), .int 0, .tup [.int (m - 2 - (0 + (i : Int))), .int (m + (0 + (i : Int)) - 1)], .tup (intsV 0 (m - 2 - (0 + (i : Int)) - 0).toNat)]]
theorem cut_eq (w : Str) : ∀ ws : List Str, ws.length ≤ 7 → cutP ((w :: ws).map PV.str) (some 1) none = ws.map PV.str
  | [], _ => rfl
  | [a], _ => rfl
  | [a, b], _ => rfl
  | [a, b, c], _ => rfl
  | [a, b, c, d], _ => rfl
  | [a, b, c, d, e], _ => rfl
  | [a, b, c, d, e, f], _ => rfl
  | [a, b, c, d, e, f, g], _ => rfl
  | _ :: _ :: _ :: _ :: _ :: _ :: _ :: _ :: _, h => absurd h (by simp only [List.length_cons]; omega)
theorem pk {α : Type} (xs : List α) (n : Nat) (hn : xs.length = n) (ks : List Nat) (hk : sliceRange (sliceBounds (some (-2)) none (some (-1)) n).1 (sliceBounds (some (-2)) none (some (-1)) n).2.1 (sliceBounds (some (-2)) none (some (-1)) n).2.2 = ks) : pickV xs (some (-2)) none (some (-1)) = ks.filterMap (xs[·]?) := by unfold pickV; rw [hn, hk]
theorem pick_eq (w : Str) : ∀ ws : List Str, ws.length ≤ 7 → ∃ (u : Str) (r : List Str), atI ((w :: ws).map PV.str) (-1) = some (.str u) ∧ pickV ((w :: ws).map PV.str) (some (-2)) none (some (-1)) = r.map PV.str ∧ lcT u r = lcA (w :: ws)
  | [], _ => ⟨w, [], rfl, (pk _ 1 rfl [] (by decide +kernel)).trans rfl, rfl⟩
  | [a], _ => ⟨a, [w], rfl, (pk _ 2 rfl [0] (by decide +kernel)).trans rfl, rfl⟩
  | [a, b], _ => ⟨b, [a, w], rfl, (pk _ 3 rfl [1, 0] (by decide +kernel)).trans rfl, rfl⟩
  | [a, b, c], _ => ⟨c, [b, a, w], rfl, (pk _ 4 rfl [2, 1, 0] (by decide +kernel)).trans rfl, rfl⟩
  | [a, b, c, d], _ => ⟨d, [c, b, a, w], rfl, (pk _ 5 rfl [3, 2, 1, 0] (by decide +kernel)).trans rfl, rfl⟩
  | [a, b, c, d, e], _ => ⟨e, [d, c, b, a, w], rfl, (pk _ 6 rfl [4, 3, 2, 1, 0] (by decide +kernel)).trans rfl, rfl⟩
  | [a, b, c, d, e, f], _ => ⟨f, [e, d, c, b, a, w], rfl, (pk _ 7 rfl [5, 4, 3, 2, 1, 0] (by decide +kernel)).trans rfl, rfl⟩
  | [a, b, c, d, e, f, g], _ => ⟨g, [f, e, d, c, b, a, w], rfl, (pk _ 8 rfl [6, 5, 4, 3, 2, 1, 0] (by decide +kernel)).trans rfl, rfl⟩
  | _ :: _ :: _ :: _ :: _ :: _ :: _ :: _ :: _, h => absurd h (by simp only [List.length_cons]; omega)
end My
set_option Elab.async false
set_option linter.all false
set_option maxRecDepth 100000
set_option maxHeartbeats 1000000
namespace My
open PySem PySem.Spec PyProof.Rows L2 PL
def sk : Tr → Tr
  | .leaf _ => .leaf ""
  | .node a b => .node (sk a) (sk b)
theorem sk_size : ∀ t : Tr, (sk t).size = t.size
  | .leaf _ => rfl
  | .node a b => by rw [sk, Tr.size, Tr.size, sk_size a, sk_size b]
theorem sk_up : ∀ (t : Tr) (o j : Nat) (ab : List Nat), up (sk t) o j ab = up t o j ab
  | .leaf _, _, _, _ => rfl
  | .node a b, o, j, ab => by
    rw [sk, up, up, sk_size a, sk_size b, sk_up a, sk_up b]
theorem sk_apt (t : Tr) (j : Nat) : apt (sk t) j = apt t j := by
  unfold apt
  rw [sk_size]
  congr 1
  funext k
  unfold apb
  rw [sk_up, sk_up]
def gT (t : Tr) (tbl : List (List Nat)) : List PV := (List.range t.size).map fun j => .tup [nmP (en t 0 j) j, .int 0, .tup (hvP (en t 0 j)), .tup (natP (tbl.getD j []))]
theorem ground_tbl (t s : Tr) (n : Nat) (tbl : List (List Nat)) (hs : sk t = s) (hn : t.size = n) (h : (List.range n).map (apt s) = tbl) : groundL t = gT t tbl := by
  subst hs hn h
  unfold groundL gT
  apply List.map_congr_left
  intro j hj
  have hj := List.mem_range.mp hj
  unfold stay
  rw [List.getD_eq_getElem?_getD, List.getElem?_map, List.getElem?_range hj, Option.map_some, Option.getD_some, sk_apt]
def othN (m i : Nat) : List Nat := (List.range m).filter (fun j => !decide (j = i)) ++ (List.range (2 * m - 2 - i - m)).map (m + ·)
theorem oth_nat (m i : Nat) (hm : 1 ≤ m) (h : i < m) : othV (m : Nat) (0 + (i : Int)) = natP (othN m i) := by
  unfold othV othN
  rw [natP_app, show ((m : Nat) : Int).toNat = m by omega, fm_ints m (fun j => !decide (j = i)) _ fun k hk => by
    dsimp only
    by_cases c : k = i
    · subst c; rw [if_pos (by omega)]; simp
    · rw [if_neg (by omega)]; simp [c]]
  congr 1
  have e : ((if 2 * (m : Int) - 2 - (0 + (i : Int)) > (m : Int) then 2 * (m : Int) - 2 - (0 + (i : Int)) else (m : Int)) - (m : Int)).toNat = 2 * m - 2 - i - m := by split <;> omega
  rw [e]
  unfold intsV natP
  rw [List.map_map]
  apply List.map_congr_left
  intro k _
  show PV.int _ = PV.int _
  congr 1
def lastT (all : List Str) (tbl : List (List Nat)) : Nat → List PV
  | 0 => []
  | i + 1 => lastT all tbl i ++ [.tup [.str (all.getD i ""), .int 0, .tup [], .tup (natP (tbl.getD i []))]]
theorem last_tbl (all : List Str) (m : Nat) (tbl : List (List Nat)) (hm : all.length = m) (h : (List.range m).map (othN m) = tbl) : ∀ i, i ≤ m → lastS all i = lastT all tbl i
  | 0, _ => rfl
  | i + 1, hi => by
    rw [lastS, lastT, last_tbl all m tbl hm h i (by omega), hm, oth_nat m i (by omega) (by omega)]
    congr 6
    rw [← h, List.getD_eq_getElem?_getD, List.getElem?_map, List.getElem?_range (by omega)]
    rfl
theorem last_of (all : List Str) (m n : Nat) (s : Tr) (tbl tbl2 : List (List Nat)) (hs : sk (lcA all) = s) (hn : (lcA all).size = n) (h1 : (List.range n).map (apt s) = tbl) (hm : all.length = m) (h2 : (List.range m).map (othN m) = tbl2)
    (h : gT (lcA all) tbl = lastU (m : Nat) (lastT all tbl2 m) ((m : Nat) - (1 : Int)).toNat) : groundL (lcA all) = lastU (all.length : Nat) (lastS all all.length) ((all.length : Nat) - (1 : Int)).toNat := by
  rw [ground_tbl _ s n tbl hs hn h1, h, hm, last_tbl all m tbl2 hm h2 m (Nat.le_refl _)]
theorem last_eq (w : Str) : ∀ ws : List Str, ws.length ≤ 7 → (lcA (w :: ws)).size ≤ 900 ∧ groundL (lcA (w :: ws)) = lastU ((w :: ws).length : Nat) (lastS (w :: ws) (w :: ws).length) (((w :: ws).length : Nat) - (1 : Int)).toNat
  | [], _ => ⟨Nat.le_of_ble_eq_true rfl, last_of _ 1 1 (lcA (List.replicate 1 "")) [[]] [[]] rfl rfl (by decide +kernel) rfl (by decide +kernel) rfl⟩
  | [a], _ => ⟨Nat.le_of_ble_eq_true rfl, last_of _ 2 3 (lcA (List.replicate 2 "")) [[1], [0], []] [[1], [0]] rfl rfl (by decide +kernel) rfl (by decide +kernel) rfl⟩
  | [a, b], _ => ⟨Nat.le_of_ble_eq_true rfl, last_of _ 3 5 (lcA (List.replicate 3 "")) [[1, 2, 3], [0, 2], [0, 1], [0], []] [[1, 2, 3], [0, 2], [0, 1]] rfl rfl (by decide +kernel) rfl (by decide +kernel) rfl⟩
  | [a, b, c], _ => ⟨Nat.le_of_ble_eq_true rfl, last_of _ 4 7 (lcA (List.replicate 4 "")) [[1, 2, 3, 4, 5], [0, 2, 3, 4], [0, 1, 3], [0, 1, 2], [0, 1], [0], []] [[1, 2, 3, 4, 5], [0, 2, 3, 4], [0, 1, 3], [0, 1, 2]] rfl rfl (by decide +kernel) rfl (by decide +kernel) rfl⟩
  | [a, b, c, d], _ => ⟨Nat.le_of_ble_eq_true rfl, last_of _ 5 9 (lcA (List.replicate 5 "")) [[1, 2, 3, 4, 5, 6, 7], [0, 2, 3, 4, 5, 6], [0, 1, 3, 4, 5], [0, 1, 2, 4], [0, 1, 2, 3], [0, 1, 2], [0, 1], [0], []] [[1, 2, 3, 4, 5, 6, 7], [0, 2, 3, 4, 5, 6], [0, 1, 3, 4, 5], [0, 1, 2, 4], [0, 1, 2, 3]] rfl rfl (by decide +kernel) rfl (by decide +kernel) rfl⟩
  | [a, b, c, d, e], _ => ⟨Nat.le_of_ble_eq_true rfl, last_of _ 6 11 (lcA (List.replicate 6 "")) [[1, 2, 3, 4, 5, 6, 7, 8, 9], [0, 2, 3, 4, 5, 6, 7, 8], [0, 1, 3, 4, 5, 6, 7], [0, 1, 2, 4, 5, 6], [0, 1, 2, 3, 5], [0, 1, 2, 3, 4], [0, 1, 2, 3], [0, 1, 2], [0, 1], [0], []] [[1, 2, 3, 4, 5, 6, 7, 8, 9], [0, 2, 3, 4, 5, 6, 7, 8], [0, 1, 3, 4, 5, 6, 7], [0, 1, 2, 4, 5, 6], [0, 1, 2, 3, 5], [0, 1, 2, 3, 4]] rfl rfl (by decide +kernel) rfl (by decide +kernel) rfl⟩
  | [a, b, c, d, e, f], _ => ⟨Nat.le_of_ble_eq_true rfl, last_of _ 7 13 (lcA (List.replicate 7 "")) [[1, 2, 3, 4, 5, 6, 7, 8, 9, 10, 11], [0, 2, 3, 4, 5, 6, 7, 8, 9, 10], [0, 1, 3, 4, 5, 6, 7, 8, 9], [0, 1, 2, 4, 5, 6, 7, 8], [0, 1, 2, 3, 5, 6, 7], [0, 1, 2, 3, 4, 6], [0, 1, 2, 3, 4, 5], [0, 1, 2, 3, 4], [0, 1, 2, 3], [0, 1, 2], [0, 1], [0], []] [[1, 2, 3, 4, 5, 6, 7, 8, 9, 10, 11], [0, 2, 3, 4, 5, 6, 7, 8, 9, 10], [0, 1, 3, 4, 5, 6, 7, 8, 9], [0, 1, 2, 4, 5, 6, 7, 8], [0, 1, 2, 3, 5, 6, 7], [0, 1, 2, 3, 4, 6], [0, 1, 2, 3, 4, 5]] rfl rfl (by decide +kernel) rfl (by decide +kernel) rfl⟩
  | [a, b, c, d, e, f, g], _ => ⟨Nat.le_of_ble_eq_true rfl, last_of _ 8 15 (lcA (List.replicate 8 "")) [[1, 2, 3, 4, 5, 6, 7, 8, 9, 10, 11, 12, 13], [0, 2, 3, 4, 5, 6, 7, 8, 9, 10, 11, 12], [0, 1, 3, 4, 5, 6, 7, 8, 9, 10, 11], [0, 1, 2, 4, 5, 6, 7, 8, 9, 10], [0, 1, 2, 3, 5, 6, 7, 8, 9], [0, 1, 2, 3, 4, 6, 7, 8], [0, 1, 2, 3, 4, 5, 7], [0, 1, 2, 3, 4, 5, 6], [0, 1, 2, 3, 4, 5], [0, 1, 2, 3, 4], [0, 1, 2, 3], [0, 1, 2], [0, 1], [0], []] [[1, 2, 3, 4, 5, 6, 7, 8, 9, 10, 11, 12, 13], [0, 2, 3, 4, 5, 6, 7, 8, 9, 10, 11, 12], [0, 1, 3, 4, 5, 6, 7, 8, 9, 10, 11], [0, 1, 2, 4, 5, 6, 7, 8, 9, 10], [0, 1, 2, 3, 5, 6, 7, 8, 9], [0, 1, 2, 3, 4, 6, 7, 8], [0, 1, 2, 3, 4, 5, 7], [0, 1, 2, 3, 4, 5, 6]] rfl rfl (by decide +kernel) rfl (by decide +kernel) rfl⟩
  | _ :: _ :: _ :: _ :: _ :: _ :: _ :: _ :: _, h => absurd h (by simp only [List.length_cons]; omega)
end My
set_option Elab.async false
set_option linter.all false
set_option maxRecDepth 100000
set_option maxHeartbeats 1000000
namespace My
open PySem PySem.Spec PyProof.Rows L2 PL
local macro_rules | `(tactic| mod_arm) => `(tactic| ((try dsimp only [List.set_cons_succ, List.set_cons_zero]); first
  | with_reducible refine r_seq ?_
  | with_reducible refine r_asg ?_
  | with_reducible refine r_gset ?_
  | ((with_reducible refine r_var (v := ?rdV) ?rdE ?_); case rdE => exact rfl)
  | with_reducible refine r_c ?_
  | with_reducible refine r_op ?_
  | with_reducible refine r_addI ?_
  | with_reducible refine r_sub ?_
  | ((with_reducible refine r_mul ?rdC ?_); (case rdC => first | exact mul_l (by omega) (by omega) | exact mul_r (by omega) (by omega)))
  | ((with_reducible refine r_div ?rdC ?_); (case rdC => exact ⟨by omega, by omega⟩))
  | ((with_reducible refine r_mod ?rdC ?_); (case rdC => first | omega | decide))
  | ((with_reducible refine r_pow ?rdC ?_); (case rdC => exact ⟨by decide, by decide, by decide⟩))
  | with_reducible refine r_lt ?_
  | with_reducible refine r_le ?_
  | with_reducible refine r_gt ?_
  | with_reducible refine r_ge ?_
  | with_reducible refine r_eqIs ?_
  | with_reducible refine r_eqSs ?_
  | with_reducible refine r_eqBs ?_
  | with_reducible refine r_neIs ?_
  | with_reducible refine r_neSs ?_
  | with_reducible refine r_eqI ?_
  | with_reducible refine r_neI ?_
  | with_reducible refine r_eqS ?_
  | with_reducible refine r_neS ?_
  | with_reducible refine r_eqB ?_
  | with_reducible refine r_neB ?_
  | with_reducible refine r_eqN ?_
  | with_reducible refine r_isN_S ?_
  | with_reducible refine r_isN_T ?_
  | with_reducible refine r_isN_I ?_
  | with_reducible refine r_isN_B ?_
  | with_reducible refine r_isN_N ?_
  | with_reducible refine r_notN_S ?_
  | with_reducible refine r_notN_T ?_
  | with_reducible refine r_notN_I ?_
  | with_reducible refine r_notN_B ?_
  | with_reducible refine r_notN_N ?_
  | with_reducible refine r_isB ?_
  | with_reducible refine r_isNotB ?_
  | with_reducible refine r_B ?_
  | with_reducible refine r_kB ?_
  | with_reducible refine r_andV ?_
  | with_reducible refine r_orV ?_
  | with_reducible refine r_notV ?_
  | with_reducible refine r_kAndT ?_
  | with_reducible refine r_kAndF ?_
  | with_reducible refine r_kOrT ?_
  | with_reducible refine r_kOrF ?_
  | with_reducible refine r_kNotT ?_
  | with_reducible refine r_kNotF ?_
  | with_reducible refine r_kNot ?_
  | with_reducible refine r_andT ?_
  | with_reducible refine r_orT ?_
  | with_reducible refine r_nt ?_
  | with_reducible refine r_kNtT ?_
  | with_reducible refine r_kNtF ?_
  | with_reducible refine r_kNt ?_
  | with_reducible refine r_if ?_
  | with_reducible refine r_ifS ?_
  | with_reducible refine r_tru ?_
  | with_reducible refine r_pTruB ?_
  | with_reducible refine r_nil ?_
  | with_reducible refine r_cons ?_
  | with_reducible refine r_tup ?_
  | with_reducible refine r_lst ?_
  | with_reducible refine r_al ?_
  | with_reducible refine r_kAl1 ?_
  | with_reducible refine r_kAl2 ?_
  | with_reducible refine r_kAl3 ?_
  | with_reducible refine r_kAl4 ?_
  | with_reducible refine r_kAl ?_
  | with_reducible refine r_augS ?_
  | with_reducible refine r_tupR1 ?_
  | with_reducible refine r_listR2 ?_
  | with_reducible refine r_sl3 ?_
  | with_reducible refine r_slset ?_
  | with_reducible refine r_own ?_
  | with_reducible refine r_ownL ?_
  | with_reducible refine r_sq ?_
  | with_reducible refine r_sqL ?_
  | with_reducible refine r_kSqT ?_
  | with_reducible refine r_kSqC ?_
  | with_reducible refine r_kSqLC ?_
  | ((with_reducible refine r_kSqR (l := ?rdL) ?rdE ?_); case rdE => first | assumption | (refine get_app0.trans ?_; exact rfl) | (refine (get_app _).trans ?_; exact rfl) | exact get_old' (by assumption))
  | ((with_reducible refine r_kSqLR (l := ?rdL) ?rdE ?_); case rdE => first | assumption | (refine get_app0.trans ?_; exact rfl) | (refine (get_app _).trans ?_; exact rfl) | exact get_old' (by assumption))
  | with_reducible refine r_ix ?_
  | ((with_reducible refine r_kIx (v := ?rdV) ?rdO ?rdE ?_); (case rdO => first | exact trivial | assumption | (refine get_app0.trans ?_; exact rfl) | (refine (get_app _).trans ?_; exact rfl) | exact get_old' (by assumption)); (case rdE => exact rfl))
  | with_reducible refine r_catL ?_
  | with_reducible refine r_revL ?_
  | with_reducible refine r_slL ?_
  | with_reducible refine r_moN ?_
  | with_reducible refine r_moS ?_
  | with_reducible refine r_kO ?_
  | with_reducible refine r_call ?_
  | with_reducible refine r_callL ?_
  | with_reducible refine r_bi ?_
  | with_reducible refine r_biQ ?_
  | with_reducible refine r_biL ?_
  | with_reducible refine r_lenT ?_
  | with_reducible refine r_lenC ?_
  | ((with_reducible refine r_lenR (l := ?rdL) ?rdE ?_); case rdE => first | assumption | (refine get_app0.trans ?_; exact rfl) | (refine (get_app _).trans ?_; exact rfl) | exact get_old' (by assumption))
  | with_reducible refine r_lenQ ?_
  | with_reducible refine r_abs ?_
  | with_reducible refine r_toIntI ?_
  | with_reducible refine r_toIntB ?_
  | with_reducible refine r_max ?_
  | with_reducible refine r_min ?_
  | with_reducible refine r_toTup ?_
  | with_reducible refine r_toList ?_
  | with_reducible refine r_all ?_
  | with_reducible refine r_any ?_
  | with_reducible refine r_isi ?_
  | with_reducible refine r_kIsi_str_S ?_
  | with_reducible refine r_kIsi_str_T ?_
  | with_reducible refine r_kIsi_str_I ?_
  | with_reducible refine r_kIsi_str_B ?_
  | with_reducible refine r_kIsi_str_N ?_
  | with_reducible refine r_kIsi_tup_S ?_
  | with_reducible refine r_kIsi_tup_T ?_
  | with_reducible refine r_kIsi_tup_I ?_
  | with_reducible refine r_kIsi_tup_B ?_
  | with_reducible refine r_kIsi_tup_N ?_
  | with_reducible refine r_kIsi_int_S ?_
  | with_reducible refine r_kIsi_int_T ?_
  | with_reducible refine r_kIsi_int_I ?_
  | with_reducible refine r_kIsi_int_B ?_
  | with_reducible refine r_kIsi_int_N ?_
  | with_reducible refine r_kIsi_bool_S ?_
  | with_reducible refine r_kIsi_bool_T ?_
  | with_reducible refine r_kIsi_bool_I ?_
  | with_reducible refine r_kIsi_bool_B ?_
  | with_reducible refine r_kIsi_bool_N ?_
  | with_reducible refine r_opQ ?_
  | with_reducible refine r_lm ?_
  | with_reducible refine r_lmQ ?_
  | with_reducible refine r_gsub ?_
  | ((with_reducible refine r_gtup ?rdC ?_); case rdC => exact rfl)
  | with_reducible refine r_gscons ?_
  | with_reducible refine r_gsnil ?_
  | with_reducible refine r_drop ?_
  | with_reducible refine r_ret ?_
  | with_reducible refine r_par ?_
  | ((with_reducible refine r_aug (x := ?rdV) ?rdE ?_); case rdE => exact rfl)
  | with_reducible refine r_ipAdd ?_
  | with_reducible refine r_for ?_
  | with_reducible refine r_lc ?_
  | with_reducible refine r_walk ?_
  | with_reducible refine r_mAll ?_
  | with_reducible refine r_range1 ?_
  | with_reducible refine r_range2 ?_
  | with_reducible refine r_range3 ?_
  | with_reducible refine r_enum ?_
  | with_reducible refine r_zip ?_
  | with_reducible refine r_signs ?_
  | with_reducible refine r_kSg ?_
  | with_reducible refine r_neg ?_
  | with_reducible refine r_kNeg ?_
  | with_reducible refine iteT ?_
  | with_reducible refine iteF ?_
  | with_reducible refine r_next ?_))
local macro_rules | `(tactic| one_item) => `(tactic| repeat (mod_arm))
def F_fc : MF := ⟨fun l h Q => ∃ (p : Nat) (w : Str) (ws : List Str), l = [.ref p] ∧ h[p]? = some (.lst ((w :: ws).map PV.str)) ∧ ws.length ≤ 7 ∧ Q (fcT w ws).pv h, fun f ⟨p, w, ws, e, h1, h2, q⟩ => ⟨p, w, ws, e, h1, h2, f _ _ q⟩⟩
theorem strs_get {ws : List Str} {i : Nat} {x : PV} (h : (ws.map PV.str)[i]? = some x) : ∃ u, ws[i]? = some u ∧ x = .str u := by
  rw [List.getElem?_map] at h
  cases e : ws[i]? with
  | none => rw [e] at h; cases h
  | some u => rw [e] at h; exact ⟨u, rfl, (Option.some.inj h).symm⟩
theorem take_snoc {α : Type} {ws : List α} {i : Nat} {u : α} (h : ws[i]? = some u) : ws.take (i + 1) = ws.take i ++ [u] := by rw [List.take_succ, h]; rfl
theorem at_0 (w : Str) (ws : List Str) : atI ((w :: ws).map PV.str) 0 = some (.str w) := atI_nat (j := 0) rfl
theorem R_fc (l : List PV) (h : PH) (Q : QV) (hh : limH h.length h) (hl : limL h.length l = true) (q : F_fc.run l h Q) : b__law_first_comb.run (exitD h.length Q) (begin 3 l) h := by
  obtain ⟨p, w, ws, rfl, hp, h7, q⟩ := q
  unfold b__law_first_comb
  show MS.run _ _ [some (.ref p), none, none] h
  one_item
  refine r_kIx hp (at_0 w ws) ?_
  one_item
  refine ⟨hp, ?_⟩
  try dsimp only
  rw [cut_eq w ws h7]
  one_item
  refine for_inv (fun i ps h' => ∃ o, ps = [some (.ref p), some (fcT w (ws.take i)).pv, o] ∧ h' = h) (fun _ _ _ _ => trivial) (fun i x ps h' hx => ?_) (fun ps h' => ?_) ⟨_, rfl, rfl⟩
  · rintro ⟨o, rfl, rfl⟩
    obtain ⟨u, hu, rfl⟩ := strs_get hx
    one_item
    refine ⟨small' (Nat.le_of_ble_eq_true rfl), ?_⟩
    one_item
    refine ⟨some (.str u), ?_, rfl⟩
    rw [take_snoc hu]
    unfold fcT
    rw [List.foldl_append]
    rfl
  · rintro ⟨o, rfl, rfl⟩
    have e : (ws.map PV.str).length = ws.length := List.length_map _
    dsimp only
    rw [e, List.take_length]
    one_item
    exact exit_same (dat_lim _ _ (Tr.pv_dat _)) hh rfl q
def F_lc : MF := ⟨fun l h Q => ∃ (p : Nat) (w : Str) (ws : List Str), l = [.ref p] ∧ h[p]? = some (.lst ((w :: ws).map PV.str)) ∧ ws.length ≤ 7 ∧ Q (lcA (w :: ws)).pv h, fun f ⟨p, w, ws, e, h1, h2, q⟩ => ⟨p, w, ws, e, h1, h2, f _ _ q⟩⟩
theorem R_lc (l : List PV) (h : PH) (Q : QV) (hh : limH h.length h) (hl : limL h.length l = true) (q : F_lc.run l h Q) : b__law_last_comb.run (exitD h.length Q) (begin 3 l) h := by
  obtain ⟨p, w, ws, rfl, hp, h7, q⟩ := q
  obtain ⟨u, r, e1, e2, e3⟩ := pick_eq w ws h7
  rw [← e3] at q
  unfold b__law_last_comb
  show MS.run _ _ [some (.ref p), none, none] h
  one_item
  refine r_kIx hp e1 ?_
  one_item
  refine ⟨hp, by decide, ?_⟩
  try dsimp only
  rw [e2]
  one_item
  refine for_inv (fun i ps h' => ∃ o, ps = [some (.ref p), some (lcT u (r.take i)).pv, o] ∧ h' = h) (fun _ _ _ _ => trivial) (fun i x ps h' hx => ?_) (fun ps h' => ?_) ⟨_, rfl, rfl⟩
  · rintro ⟨o, rfl, rfl⟩
    obtain ⟨v, hu, rfl⟩ := strs_get hx
    one_item
    refine ⟨small' (Nat.le_of_ble_eq_true rfl), ?_⟩
    one_item
    refine ⟨some (.str v), ?_, rfl⟩
    rw [take_snoc hu]
    unfold lcT
    rw [List.foldl_append]
    rfl
  · rintro ⟨o, rfl, rfl⟩
    have e : (r.map PV.str).length = r.length := List.length_map _
    dsimp only
    rw [e, List.take_length]
    one_item
    exact exit_same (dat_lim _ _ (Tr.pv_dat _)) hh rfl q
theorem fs_len (w : Str) (ws : List Str) : ∀ i, (firstS w ws i).length = 2 * i + 1
  | 0 => rfl
  | i + 1 => by rw [firstS, List.length_append, List.length_append, fs_len w ws i]; simp only [List.length_singleton]; omega
def F_fs : MF := ⟨fun l h Q => ∃ (p : Nat) (w : Str) (ws : List Str), l = [.ref p] ∧ h[p]? = some (.lst ((w :: ws).map PV.str)) ∧ ws.length ≤ 7 ∧ Q (.tup (firstS w ws ws.length)) h, fun f ⟨p, w, ws, e, h1, h2, q⟩ => ⟨p, w, ws, e, h1, h2, f _ _ q⟩⟩
theorem R_fs (l : List PV) (h : PH) (Q : QV) (hh : limH h.length h) (hl : limL h.length l = true) (q : F_fs.run l h Q) : b__law_first_stays.run (exitD h.length Q) (begin 6 l) h := by
  obtain ⟨p, w, ws, rfl, hp, h7, q⟩ := q
  unfold b__law_first_stays
  show MS.run _ _ [some (.ref p), none, none, none, none, none] h
  one_item
  have el : (((w :: ws).map PV.str).length : Int) = (ws.length : Int) + 1 := by rw [List.length_map, List.length_cons]; omega
  rw [el]
  refine r_kR2 ⟨by omega, by omega⟩ ⟨by omega, by omega⟩ ?_
  have en : ((ws.length : Int) + 1 - 1).toNat = ws.length := by omega
  rw [en]
  refine lc_map (fun ps => ∃ a, ps = [a]) (fun x => match x with | .int k => some (.int (2 * k - 1)) | _ => none) trivial (by rw [intsV_len]; exact small' (by omega)) (fun x hx ps hps R hR => ?_) ?_ ⟨_, rfl⟩
  · obtain ⟨a, rfl⟩ := hps
    obtain ⟨i, hi⟩ := List.getElem?_of_mem hx
    obtain ⟨h1, rfl⟩ := intsV_get hi
    one_item
    exact ⟨rfl, ⟨_, rfl⟩, hR⟩
  dsimp only
  have eo : (intsV 1 ws.length).filterMap (fun x => match x with | .int k => some (PV.int (2 * k - 1)) | _ => none) = oddV (ws.length + 1) := rfl
  rw [eo]
  have ol : (oddV (ws.length + 1)).length ≤ ws.length := by
    unfold oddV
    refine Nat.le_trans (List.length_filterMap_le _ _) ?_
    rw [intsV_len]; omega
  one_item
  refine r_kIx (get_old' hp) (at_0 w ws) ?_
  one_item
  refine ⟨small' (Nat.le_of_ble_eq_true rfl), ?_⟩
  one_item
  refine ⟨small' (Nat.le_of_ble_eq_true rfl), ?_⟩
  one_item
  refine ⟨small' (Nat.le_of_ble_eq_true rfl), ?_⟩
  one_item
  refine r_kR2 ⟨by omega, by omega⟩ ⟨by omega, by omega⟩ ?_
  rw [en]
  refine for_inv (fun i ps h' => ∃ o2 o5, ps = [some (.ref p), some (.int ((ws.length : Int) + 1)), o2, some (.ref h.length), some (.ref (h.length + 1)), o5] ∧ h' = h ++ [.lst (oddV (ws.length + 1)), .lst (firstS w ws i)]) (fun _ _ _ _ => trivial) (fun i x ps h' hx => ?_) (fun ps h' => ?_) ⟨_, _, rfl, rfl⟩
  · rintro ⟨o2, o5, rfl, rfl⟩
    obtain ⟨h1, rfl⟩ := intsV_get hx
    have fl := fs_len w ws i
    one_item
    refine lc_map (fun ps => ∃ a, ps = [a, some (.int (1 + (i : Int)))]) (fun x => match x with | .int j => if 2 * (1 + (i : Int)) - 1 < j then some (.int j) else none | _ => none) (get_app0.trans rfl) (by show (oddV _).length ≤ _; exact small' (by omega)) (fun x hx ps hps R hR => ?_) ?_ ⟨_, rfl⟩
    · obtain ⟨a, rfl⟩ := hps
      have hx' : x ∈ oddV (ws.length + 1) := hx
      obtain ⟨j, rfl⟩ : ∃ j, x = .int j := by
        unfold oddV at hx'
        obtain ⟨y, _, hy⟩ := List.mem_filterMap.mp hx'
        cases y <;> simp at hy
        exact ⟨_, hy.symm⟩
      one_item
      refine ite_bl (fun gp => ?_) (fun gp => ?_)
      · one_item
        refine ⟨?_, ⟨_, rfl⟩, hR⟩
        exact if_pos gp
      · refine ⟨?_, ⟨_, rfl⟩, hR⟩
        exact if_neg gp
    have ea : (oddV (ws.length + 1)).filterMap (fun x => match x with | .int j => if 2 * (1 + (i : Int)) - 1 < j then some (PV.int j) else none | _ => none) = laterV (ws.length + 1) (1 + (i : Int)) := rfl
    dsimp only
    rw [ea]
    have ll : (laterV (ws.length + 1) (1 + (i : Int))).length ≤ ws.length := Nat.le_trans (List.length_filterMap_le _ _) ol
    one_item
    refine ⟨r_listAtA (n := 1) rfl, ?_⟩
    one_item
    have hw : ws[i]? = some (ws.getD i w) := by rw [List.getD_eq_getElem?_getD, List.getElem?_eq_getElem h1]; rfl
    refine r_kIx (get_old' hp) (v := .str (ws.getD i w)) (by rw [show (1 : Int) + (i : Int) = ((i + 1 : Nat) : Int) by omega]; exact atI_nat (by rw [List.getElem?_map, List.getElem?_cons_succ, hw]; rfl)) ?_
    one_item
    refine ⟨small' (Nat.le_of_ble_eq_true rfl), ?_⟩
    one_item
    refine r_kTR1 ⟨⟨by omega, by omega, by omega, by omega⟩, by omega⟩ ?_
    one_item
    refine r_addT (by intro z; have := congrArg List.length z; rw [intsV_len] at this; simp only [List.length_nil] at this; omega) (by rw [intsV_len]; exact small' (by omega)) ?_
    one_item
    refine ⟨small' (Nat.le_of_ble_eq_true rfl), ?_⟩
    one_item
    refine r_appendA (n := 1) rfl (small1000 (by omega)) ?_
    one_item
    refine ⟨r_listAtA (n := 1) rfl, ?_⟩
    one_item
    refine ⟨small' (Nat.le_of_ble_eq_true rfl), ?_⟩
    one_item
    refine ⟨small' (Nat.le_of_ble_eq_true rfl), ?_⟩
    one_item
    refine r_appendA (n := 1) rfl (by rw [List.length_append]; exact small1000 (by simp only [List.length_singleton]; omega)) ?_
    exact ⟨_, _, rfl, rfl⟩
  · rintro ⟨o2, o5, rfl, rfl⟩
    dsimp only
    rw [intsV_len]
    one_item
    exact exit_drop (dat_lim _ _ (by rw [PV.dat]; rw [← (first_eq w ws h7).2]; exact dat_map (stay_dat _) _)) hh rfl q
end My
set_option Elab.async false
set_option linter.all false
set_option maxRecDepth 100000
set_option maxHeartbeats 1000000
namespace My
open PySem PySem.Spec PyProof.Rows L2 PL
local macro_rules | `(tactic| mod_arm) => `(tactic| ((try dsimp only [List.set_cons_succ, List.set_cons_zero]); first
  | with_reducible refine r_seq ?_
  | with_reducible refine r_asg ?_
  | with_reducible refine r_gset ?_
  | ((with_reducible refine r_var (v := ?rdV) ?rdE ?_); case rdE => exact rfl)
  | with_reducible refine r_c ?_
  | with_reducible refine r_op ?_
  | with_reducible refine r_addI ?_
  | with_reducible refine r_sub ?_
  | ((with_reducible refine r_mul ?rdC ?_); (case rdC => first | exact mul_l (by omega) (by omega) | exact mul_r (by omega) (by omega)))
  | ((with_reducible refine r_div ?rdC ?_); (case rdC => exact ⟨by omega, by omega⟩))
  | ((with_reducible refine r_mod ?rdC ?_); (case rdC => first | omega | decide))
  | ((with_reducible refine r_pow ?rdC ?_); (case rdC => exact ⟨by decide, by decide, by decide⟩))
  | with_reducible refine r_lt ?_
  | with_reducible refine r_le ?_
  | with_reducible refine r_gt ?_
  | with_reducible refine r_ge ?_
  | with_reducible refine r_eqIs ?_
  | with_reducible refine r_eqSs ?_
  | with_reducible refine r_eqBs ?_
  | with_reducible refine r_neIs ?_
  | with_reducible refine r_neSs ?_
  | with_reducible refine r_eqI ?_
  | with_reducible refine r_neI ?_
  | with_reducible refine r_eqS ?_
  | with_reducible refine r_neS ?_
  | with_reducible refine r_eqB ?_
  | with_reducible refine r_neB ?_
  | with_reducible refine r_eqN ?_
  | with_reducible refine r_isN_S ?_
  | with_reducible refine r_isN_T ?_
  | with_reducible refine r_isN_I ?_
  | with_reducible refine r_isN_B ?_
  | with_reducible refine r_isN_N ?_
  | with_reducible refine r_notN_S ?_
  | with_reducible refine r_notN_T ?_
  | with_reducible refine r_notN_I ?_
  | with_reducible refine r_notN_B ?_
  | with_reducible refine r_notN_N ?_
  | with_reducible refine r_isB ?_
  | with_reducible refine r_isNotB ?_
  | with_reducible refine r_B ?_
  | with_reducible refine r_kB ?_
  | with_reducible refine r_andV ?_
  | with_reducible refine r_orV ?_
  | with_reducible refine r_notV ?_
  | with_reducible refine r_kAndT ?_
  | with_reducible refine r_kAndF ?_
  | with_reducible refine r_kOrT ?_
  | with_reducible refine r_kOrF ?_
  | with_reducible refine r_kNotT ?_
  | with_reducible refine r_kNotF ?_
  | with_reducible refine r_kNot ?_
  | with_reducible refine r_andT ?_
  | with_reducible refine r_orT ?_
  | with_reducible refine r_nt ?_
  | with_reducible refine r_kNtT ?_
  | with_reducible refine r_kNtF ?_
  | with_reducible refine r_kNt ?_
  | with_reducible refine r_if ?_
  | with_reducible refine r_ifS ?_
  | with_reducible refine r_tru ?_
  | with_reducible refine r_pTruB ?_
  | with_reducible refine r_nil ?_
  | with_reducible refine r_cons ?_
  | with_reducible refine r_tup ?_
  | with_reducible refine r_lst ?_
  | with_reducible refine r_al ?_
  | with_reducible refine r_kAl1 ?_
  | with_reducible refine r_kAl2 ?_
  | with_reducible refine r_kAl3 ?_
  | with_reducible refine r_kAl4 ?_
  | with_reducible refine r_kAl ?_
  | with_reducible refine r_augS ?_
  | with_reducible refine r_tupR1 ?_
  | with_reducible refine r_listR2 ?_
  | with_reducible refine r_sl3 ?_
  | with_reducible refine r_slset ?_
  | with_reducible refine r_own ?_
  | with_reducible refine r_ownL ?_
  | with_reducible refine r_sq ?_
  | with_reducible refine r_sqL ?_
  | with_reducible refine r_kSqT ?_
  | with_reducible refine r_kSqC ?_
  | with_reducible refine r_kSqLC ?_
  | ((with_reducible refine r_kSqR (l := ?rdL) ?rdE ?_); case rdE => first | assumption | (refine get_app0.trans ?_; exact rfl) | (refine (get_app _).trans ?_; exact rfl) | exact get_old' (by assumption))
  | ((with_reducible refine r_kSqLR (l := ?rdL) ?rdE ?_); case rdE => first | assumption | (refine get_app0.trans ?_; exact rfl) | (refine (get_app _).trans ?_; exact rfl) | exact get_old' (by assumption))
  | with_reducible refine r_ix ?_
  | ((with_reducible refine r_kIx (v := ?rdV) ?rdO ?rdE ?_); (case rdO => first | exact trivial | assumption | (refine get_app0.trans ?_; exact rfl) | (refine (get_app _).trans ?_; exact rfl) | exact get_old' (by assumption)); (case rdE => exact rfl))
  | with_reducible refine r_catL ?_
  | with_reducible refine r_revL ?_
  | with_reducible refine r_slL ?_
  | with_reducible refine r_moN ?_
  | with_reducible refine r_moS ?_
  | with_reducible refine r_kO ?_
  | with_reducible refine r_call ?_
  | with_reducible refine r_callL ?_
  | with_reducible refine r_bi ?_
  | with_reducible refine r_biQ ?_
  | with_reducible refine r_biL ?_
  | with_reducible refine r_lenT ?_
  | with_reducible refine r_lenC ?_
  | ((with_reducible refine r_lenR (l := ?rdL) ?rdE ?_); case rdE => first | assumption | (refine get_app0.trans ?_; exact rfl) | (refine (get_app _).trans ?_; exact rfl) | exact get_old' (by assumption))
  | with_reducible refine r_lenQ ?_
  | with_reducible refine r_abs ?_
  | with_reducible refine r_toIntI ?_
  | with_reducible refine r_toIntB ?_
  | with_reducible refine r_max ?_
  | with_reducible refine r_min ?_
  | with_reducible refine r_toTup ?_
  | with_reducible refine r_toList ?_
  | with_reducible refine r_all ?_
  | with_reducible refine r_any ?_
  | with_reducible refine r_isi ?_
  | with_reducible refine r_kIsi_str_S ?_
  | with_reducible refine r_kIsi_str_T ?_
  | with_reducible refine r_kIsi_str_I ?_
  | with_reducible refine r_kIsi_str_B ?_
  | with_reducible refine r_kIsi_str_N ?_
  | with_reducible refine r_kIsi_tup_S ?_
  | with_reducible refine r_kIsi_tup_T ?_
  | with_reducible refine r_kIsi_tup_I ?_
  | with_reducible refine r_kIsi_tup_B ?_
  | with_reducible refine r_kIsi_tup_N ?_
  | with_reducible refine r_kIsi_int_S ?_
  | with_reducible refine r_kIsi_int_T ?_
  | with_reducible refine r_kIsi_int_I ?_
  | with_reducible refine r_kIsi_int_B ?_
  | with_reducible refine r_kIsi_int_N ?_
  | with_reducible refine r_kIsi_bool_S ?_
  | with_reducible refine r_kIsi_bool_T ?_
  | with_reducible refine r_kIsi_bool_I ?_
  | with_reducible refine r_kIsi_bool_B ?_
  | with_reducible refine r_kIsi_bool_N ?_
  | with_reducible refine r_opQ ?_
  | with_reducible refine r_lm ?_
  | with_reducible refine r_lmQ ?_
  | with_reducible refine r_gsub ?_
  | ((with_reducible refine r_gtup ?rdC ?_); case rdC => exact rfl)
  | with_reducible refine r_gscons ?_
  | with_reducible refine r_gsnil ?_
  | with_reducible refine r_drop ?_
  | with_reducible refine r_ret ?_
  | with_reducible refine r_par ?_
  | ((with_reducible refine r_aug (x := ?rdV) ?rdE ?_); case rdE => exact rfl)
  | with_reducible refine r_ipAdd ?_
  | with_reducible refine r_for ?_
  | with_reducible refine r_lc ?_
  | with_reducible refine r_walk ?_
  | with_reducible refine r_mAll ?_
  | with_reducible refine r_range1 ?_
  | with_reducible refine r_range2 ?_
  | with_reducible refine r_range3 ?_
  | with_reducible refine r_enum ?_
  | with_reducible refine r_zip ?_
  | with_reducible refine r_signs ?_
  | with_reducible refine r_kSg ?_
  | with_reducible refine r_neg ?_
  | with_reducible refine r_kNeg ?_
  | with_reducible refine iteT ?_
  | with_reducible refine iteF ?_
  | with_reducible refine r_next ?_))
local macro_rules | `(tactic| one_item) => `(tactic| repeat (mod_arm))
theorem ls_len (all : List Str) : ∀ i, (lastS all i).length = i
  | 0 => rfl
  | i + 1 => by rw [lastS, List.length_append, ls_len all i]; rfl
theorem lu_len (m : Int) (a : List PV) : ∀ i, (lastU m a i).length = a.length + i
  | 0 => rfl
  | i + 1 => by rw [lastU, List.length_append, lu_len m a i]; rfl
def F_ls : MF := ⟨fun l h Q => ∃ (p : Nat) (w : Str) (ws : List Str), l = [.ref p] ∧ h[p]? = some (.lst ((w :: ws).map PV.str)) ∧ ws.length ≤ 7 ∧ Q (.tup (groundL (lcA (w :: ws)))) h, fun f ⟨p, w, ws, e, h1, h2, q⟩ => ⟨p, w, ws, e, h1, h2, f _ _ q⟩⟩
theorem R_ls (l : List PV) (h : PH) (Q : QV) (hh : limH h.length h) (hl : limL h.length l = true) (q : F_ls.run l h Q) : b__law_last_stays.run (exitD h.length Q) (begin 5 l) h := by
  obtain ⟨p, w, ws, rfl, hp, h7, q⟩ := q
  have hq := (last_eq w ws h7).2
  generalize hall : w :: ws = all at hp q hq
  have hlen : all.length = ws.length + 1 := by rw [← hall]; rfl
  unfold b__law_last_stays
  show MS.run _ _ [some (.ref p), none, none, none, none] h
  one_item
  rw [List.length_map]
  refine ⟨small' (Nat.le_of_ble_eq_true rfl), ?_⟩
  one_item
  refine r_kR1 ⟨by omega, by omega⟩ ?_
  have en : ((all.length : Nat) : Int).toNat = all.length := by omega
  rw [en]
  refine for_inv (fun i ps h' => ∃ o3 o4 g, ps = [some (.ref p), some (.int (all.length : Nat)), some (.ref h.length), o3, o4] ∧ h' = h ++ (.lst (lastS all i) :: g)) (fun _ _ _ _ => trivial) (fun i x ps h' hx => ?_) (fun ps h' => ?_) ⟨_, _, [], rfl, rfl⟩
  · rintro ⟨o3, o4, g, rfl, rfl⟩
    obtain ⟨h1, rfl⟩ := intsV_get hx
    have fl := ls_len all i
    one_item
    refine r_kR1 ⟨by omega, by omega⟩ ?_
    rw [en]
    refine lc_map (fun ps => ∃ a, ps = [a, some (.int (0 + (i : Int)))]) (fun x => match x with | .int j => if j = 0 + (i : Int) then none else some (.int j) | _ => none) trivial (by rw [intsV_len]; exact small' (by omega)) (fun x hx ps hps R hR => ?_) ?_ ⟨_, rfl⟩
    · obtain ⟨a, rfl⟩ := hps
      obtain ⟨j, hj⟩ := List.getElem?_of_mem hx
      obtain ⟨h2, rfl⟩ := intsV_get hj
      one_item
      cases c : decide ((0 : Int) + (j : Int) = 0 + (i : Int)) with
      | true =>
        have c' := of_decide_eq_true c
        rw [Bool.not_true]
        one_item
        refine ⟨?_, ⟨_, rfl⟩, hR⟩
        exact if_pos c'
      | false =>
        have c' := of_decide_eq_false c
        rw [Bool.not_false]
        one_item
        refine ⟨?_, ⟨_, rfl⟩, hR⟩
        exact if_neg c'
    one_item
    refine r_kLR2 ⟨⟨by omega, by omega, by split <;> omega, by split <;> omega⟩, by split <;> omega⟩ ?_
    one_item
    refine ⟨trivial, rfl, rfl, ?_, ?_⟩
    · try dsimp only
      rw [intsV_len]
      refine small' (Nat.le_trans (Nat.add_le_add_right (List.length_filterMap_le _ _) _) ?_)
      rw [intsV_len]
      split <;> omega
    try dsimp only
    have eo : (intsV 0 all.length).filterMap (fun x => match x with | .int j => if j = 0 + (i : Int) then none else some (PV.int j) | _ => none) ++ intsV (all.length : Nat) ((if 2 * ((all.length : Nat) : Int) - 2 - (0 + (i : Int)) > ((all.length : Nat) : Int) then 2 * ((all.length : Nat) : Int) - 2 - (0 + (i : Int)) else ((all.length : Nat) : Int)) - ((all.length : Nat) : Int)).toNat = othV (all.length : Nat) (0 + (i : Int)) := by unfold othV; rw [en]; try rfl
    try refine r_kAl ?_
    rw [eo]
    obtain ⟨h2, hh2⟩ : ∃ h2, h2 = h ++ (PO.lst (lastS all i) :: g) ++ [.lst (othV (all.length : Nat) (0 + (i : Int)))] := ⟨_, rfl⟩
    rw [← hh2]
    have G1 : h2[h.length]? = some (.lst (lastS all i)) := by rw [hh2, List.append_assoc]; exact get_app0.trans rfl
    have G2 : h2[(h ++ (PO.lst (lastS all i) :: g)).length]? = some (.lst (othV (all.length : Nat) (0 + (i : Int)))) := by rw [hh2]; exact get_app0.trans rfl
    have G3 : h2[p]? = some (.lst (all.map PV.str)) := by rw [hh2, List.append_assoc]; exact get_old' hp
    generalize (h ++ (PO.lst (lastS all i) :: g)).length = nn at G2 ⊢
    one_item
    refine ⟨r_listAt G1, ?_⟩
    one_item
    have hw : all[i]? = some (all.getD i "") := by rw [List.getD_eq_getElem?_getD, List.getElem?_eq_getElem h1]; rfl
    refine r_kIx G3 (v := .str (all.getD i "")) (by rw [show (0 : Int) + (i : Int) = ((i : Nat) : Int) by omega]; exact atI_nat (by rw [List.getElem?_map, hw]; rfl)) ?_
    one_item
    refine ⟨small' (Nat.le_of_ble_eq_true rfl), ?_⟩
    one_item
    refine ⟨small' (Nat.le_of_ble_eq_true rfl), ?_⟩
    one_item
    refine r_append G1 (small1000 (by omega)) ?_
    refine ⟨_, _, g ++ [.lst (othV (all.length : Nat) (0 + (i : Int)))], rfl, ?_⟩
    rw [hh2, List.append_assoc, set_app0]
    rfl
  · rintro ⟨o3, o4, g, rfl, rfl⟩
    try dsimp only
    rw [intsV_len]
    have fl := ls_len all all.length
    have en2 : (((all.length : Nat) : Int) - 1).toNat = all.length - 1 := by omega
    one_item
    refine r_kR1 ⟨by omega, by omega⟩ ?_
    refine for_inv (fun i ps h' => ∃ o3 o4, ps = [some (.ref p), some (.int (all.length : Nat)), some (.ref h.length), o3, o4] ∧ h' = h ++ (.lst (lastU (all.length : Nat) (lastS all all.length) i) :: g)) (fun _ _ _ _ => trivial) (fun i x ps h' hx => ?_) (fun ps h' => ?_) ⟨_, _, rfl, rfl⟩
    · rintro ⟨o3, o4, rfl, rfl⟩
      obtain ⟨h1, rfl⟩ := intsV_get hx
      have ul := lu_len (all.length : Nat) (lastS all all.length) i
      one_item
      refine ⟨r_listAtA0 rfl, ?_⟩
      one_item
      refine ⟨small' (Nat.le_of_ble_eq_true rfl), ?_⟩
      one_item
      refine r_kTR1 ⟨⟨by omega, by omega, by omega, by omega⟩, by omega⟩ ?_
      one_item
      refine ⟨small' (Nat.le_of_ble_eq_true rfl), ?_⟩
      one_item
      refine r_appendA0 rfl (small1000 (by omega)) ?_
      exact ⟨_, _, rfl, rfl⟩
    · rintro ⟨o3, o4, rfl, rfl⟩
      try dsimp only
      rw [intsV_len, ← hq]
      one_item
      exact exit_drop (dat_lim _ _ (by rw [PV.dat]; exact dat_map (stay_dat _) _)) hh rfl q
end My
set_option Elab.async false
set_option linter.all false
set_option maxRecDepth 100000
set_option maxHeartbeats 1000000
namespace My
open PySem PySem.Spec PyProof.Rows L2 PL
local macro_rules | `(tactic| mod_arm) => `(tactic| ((try dsimp only [List.set_cons_succ, List.set_cons_zero]); first
  | with_reducible refine r_seq ?_
  | with_reducible refine r_asg ?_
  | with_reducible refine r_gset ?_
  | ((with_reducible refine r_var (v := ?rdV) ?rdE ?_); case rdE => exact rfl)
  | with_reducible refine r_c ?_
  | with_reducible refine r_op ?_
  | with_reducible refine r_addI ?_
  | with_reducible refine r_sub ?_
  | ((with_reducible refine r_mul ?rdC ?_); (case rdC => first | exact mul_l (by omega) (by omega) | exact mul_r (by omega) (by omega)))
  | ((with_reducible refine r_div ?rdC ?_); (case rdC => exact ⟨by omega, by omega⟩))
  | ((with_reducible refine r_mod ?rdC ?_); (case rdC => first | omega | decide))
  | ((with_reducible refine r_pow ?rdC ?_); (case rdC => exact ⟨by decide, by decide, by decide⟩))
  | with_reducible refine r_lt ?_
  | with_reducible refine r_le ?_
  | with_reducible refine r_gt ?_
  | with_reducible refine r_ge ?_
  | with_reducible refine r_eqIs ?_
  | with_reducible refine r_eqSs ?_
  | with_reducible refine r_eqBs ?_
  | with_reducible refine r_neIs ?_
  | with_reducible refine r_neSs ?_
  | with_reducible refine r_eqI ?_
  | with_reducible refine r_neI ?_
  | with_reducible refine r_eqS ?_
  | with_reducible refine r_neS ?_
  | with_reducible refine r_eqB ?_
  | with_reducible refine r_neB ?_
  | with_reducible refine r_eqN ?_
  | with_reducible refine r_isN_S ?_
  | with_reducible refine r_isN_T ?_
  | with_reducible refine r_isN_I ?_
  | with_reducible refine r_isN_B ?_
  | with_reducible refine r_isN_N ?_
  | with_reducible refine r_notN_S ?_
  | with_reducible refine r_notN_T ?_
  | with_reducible refine r_notN_I ?_
  | with_reducible refine r_notN_B ?_
  | with_reducible refine r_notN_N ?_
  | with_reducible refine r_isB ?_
  | with_reducible refine r_isNotB ?_
  | with_reducible refine r_B ?_
  | with_reducible refine r_kB ?_
  | with_reducible refine r_andV ?_
  | with_reducible refine r_orV ?_
  | with_reducible refine r_notV ?_
  | with_reducible refine r_kAndT ?_
  | with_reducible refine r_kAndF ?_
  | with_reducible refine r_kOrT ?_
  | with_reducible refine r_kOrF ?_
  | with_reducible refine r_kNotT ?_
  | with_reducible refine r_kNotF ?_
  | with_reducible refine r_kNot ?_
  | with_reducible refine r_andT ?_
  | with_reducible refine r_orT ?_
  | with_reducible refine r_nt ?_
  | with_reducible refine r_kNtT ?_
  | with_reducible refine r_kNtF ?_
  | with_reducible refine r_kNt ?_
  | with_reducible refine r_if ?_
  | with_reducible refine r_ifS ?_
  | with_reducible refine r_tru ?_
  | with_reducible refine r_pTruB ?_
  | with_reducible refine r_nil ?_
  | with_reducible refine r_cons ?_
  | with_reducible refine r_tup ?_
  | with_reducible refine r_lst ?_
  | with_reducible refine r_al ?_
  | with_reducible refine r_kAl1 ?_
  | with_reducible refine r_kAl2 ?_
  | with_reducible refine r_kAl3 ?_
  | with_reducible refine r_kAl4 ?_
  | with_reducible refine r_kAl ?_
  | with_reducible refine r_augS ?_
  | with_reducible refine r_tupR1 ?_
  | with_reducible refine r_listR2 ?_
  | with_reducible refine r_sl3 ?_
  | with_reducible refine r_slset ?_
  | with_reducible refine r_own ?_
  | with_reducible refine r_ownL ?_
  | with_reducible refine r_sq ?_
  | with_reducible refine r_sqL ?_
  | with_reducible refine r_kSqT ?_
  | with_reducible refine r_kSqC ?_
  | with_reducible refine r_kSqLC ?_
  | ((with_reducible refine r_kSqR (l := ?rdL) ?rdE ?_); case rdE => first | assumption | (refine get_app0.trans ?_; exact rfl) | (refine (get_app _).trans ?_; exact rfl) | exact get_old' (by assumption))
  | ((with_reducible refine r_kSqLR (l := ?rdL) ?rdE ?_); case rdE => first | assumption | (refine get_app0.trans ?_; exact rfl) | (refine (get_app _).trans ?_; exact rfl) | exact get_old' (by assumption))
  | with_reducible refine r_ix ?_
  | ((with_reducible refine r_kIx (v := ?rdV) ?rdO ?rdE ?_); (case rdO => first | exact trivial | assumption | (refine get_app0.trans ?_; exact rfl) | (refine (get_app _).trans ?_; exact rfl) | exact get_old' (by assumption)); (case rdE => exact rfl))
  | with_reducible refine r_catL ?_
  | with_reducible refine r_revL ?_
  | with_reducible refine r_slL ?_
  | with_reducible refine r_moN ?_
  | with_reducible refine r_moS ?_
  | with_reducible refine r_kO ?_
  | with_reducible refine r_call ?_
  | with_reducible refine r_callL ?_
  | with_reducible refine r_bi ?_
  | with_reducible refine r_biQ ?_
  | with_reducible refine r_biL ?_
  | with_reducible refine r_lenT ?_
  | with_reducible refine r_lenC ?_
  | ((with_reducible refine r_lenR (l := ?rdL) ?rdE ?_); case rdE => first | assumption | (refine get_app0.trans ?_; exact rfl) | (refine (get_app _).trans ?_; exact rfl) | exact get_old' (by assumption))
  | with_reducible refine r_lenQ ?_
  | with_reducible refine r_abs ?_
  | with_reducible refine r_toIntI ?_
  | with_reducible refine r_toIntB ?_
  | with_reducible refine r_max ?_
  | with_reducible refine r_min ?_
  | with_reducible refine r_toTup ?_
  | with_reducible refine r_toList ?_
  | with_reducible refine r_all ?_
  | with_reducible refine r_any ?_
  | with_reducible refine r_isi ?_
  | with_reducible refine r_kIsi_str_S ?_
  | with_reducible refine r_kIsi_str_T ?_
  | with_reducible refine r_kIsi_str_I ?_
  | with_reducible refine r_kIsi_str_B ?_
  | with_reducible refine r_kIsi_str_N ?_
  | with_reducible refine r_kIsi_tup_S ?_
  | with_reducible refine r_kIsi_tup_T ?_
  | with_reducible refine r_kIsi_tup_I ?_
  | with_reducible refine r_kIsi_tup_B ?_
  | with_reducible refine r_kIsi_tup_N ?_
  | with_reducible refine r_kIsi_int_S ?_
  | with_reducible refine r_kIsi_int_T ?_
  | with_reducible refine r_kIsi_int_I ?_
  | with_reducible refine r_kIsi_int_B ?_
  | with_reducible refine r_kIsi_int_N ?_
  | with_reducible refine r_kIsi_bool_S ?_
  | with_reducible refine r_kIsi_bool_T ?_
  | with_reducible refine r_kIsi_bool_I ?_
  | with_reducible refine r_kIsi_bool_B ?_
  | with_reducible refine r_kIsi_bool_N ?_
  | with_reducible refine r_opQ ?_
  | with_reducible refine r_lm ?_
  | with_reducible refine r_lmQ ?_
  | with_reducible refine r_gsub ?_
  | ((with_reducible refine r_gtup ?rdC ?_); case rdC => exact rfl)
  | with_reducible refine r_gscons ?_
  | with_reducible refine r_gsnil ?_
  | with_reducible refine r_drop ?_
  | with_reducible refine r_ret ?_
  | with_reducible refine r_par ?_
  | ((with_reducible refine r_aug (x := ?rdV) ?rdE ?_); case rdE => exact rfl)
  | with_reducible refine r_ipAdd ?_
  | with_reducible refine r_for ?_
  | with_reducible refine r_lc ?_
  | with_reducible refine r_walk ?_
  | with_reducible refine r_mAll ?_
  | with_reducible refine r_range1 ?_
  | with_reducible refine r_range2 ?_
  | with_reducible refine r_range3 ?_
  | with_reducible refine r_enum ?_
  | with_reducible refine r_zip ?_
  | with_reducible refine r_signs ?_
  | with_reducible refine r_kSg ?_
  | with_reducible refine r_neg ?_
  | with_reducible refine r_kNeg ?_
  | with_reducible refine iteT ?_
  | with_reducible refine iteF ?_
  | with_reducible refine r_next ?_))
local macro_rules | `(tactic| one_item) => `(tactic| repeat (mod_arm))
theorem natP_pl (l : List Nat) : plL (natP l) = true := plL_iff.mpr fun x hx => by
  obtain ⟨n, _, rfl⟩ := List.mem_map.mp hx
  simp [PV.pl]
theorem natP_wid (n : Nat) (l : List Nat) : widL n (natP l) = true := widL_iff.mpr fun x hx => by
  obtain ⟨n, _, rfl⟩ := List.mem_map.mp hx
  simp [PV.wid]
theorem natP_dep (l : List Nat) : depL (natP l) ≤ 0 := depL_le (n := 0) fun x hx => by
  obtain ⟨n, _, rfl⟩ := List.mem_map.mp hx
  rw [PV.dep] <;> simp
theorem stay_pl (t : Tr) (j : Nat) : (stay t j).pl = true := by
  unfold stay
  cases en t 0 j <;> simp [PV.pl, plL, nmP, hvP, natP_pl]
theorem stay_wid (t : Tr) (j : Nat) (h : t.size ≤ 900) : (stay t j).wid 1000 = true := by
  have := apt_len t j
  have h2 : (natP (apt t j)).length ≤ 1000 := by rw [natP_len]; omega
  unfold stay
  cases en t 0 j <;> simp [PV.wid, widL, nmP, hvP, natP_wid, h2]
theorem stay_dep (t : Tr) (j : Nat) : (stay t j).dep ≤ 2 := by
  have := natP_dep (apt t j)
  unfold stay
  cases en t 0 j <;> simp [PV.dep, depL, nmP, hvP] <;> omega
theorem ground_pl (t : Tr) : (PV.tup (groundL t)).pl = true := by
  rw [PV.pl]
  refine plL_iff.mpr fun x hx => ?_
  obtain ⟨n, _, rfl⟩ := List.mem_map.mp hx
  exact stay_pl t n
theorem ground_wid (t : Tr) (h : t.size ≤ 900) : (PV.tup (groundL t)).wid 1000 = true := by
  rw [PV.wid, Bool.and_eq_true]
  refine ⟨?_, widL_iff.mpr fun x hx => ?_⟩
  · refine decide_eq_true ?_
    show ((List.range t.size).map (stay t)).length ≤ 1000
    rw [List.length_map, List.length_range]; omega
  obtain ⟨n, _, rfl⟩ := List.mem_map.mp hx
  exact stay_wid t n h
theorem ground_dep (t : Tr) : (PV.tup (groundL t)).dep ≤ 3 := by
  rw [PV.dep]
  have := depL_le (n := 2) (l := groundL t) fun x hx => by
    obtain ⟨n, _, rfl⟩ := List.mem_map.mp hx
    exact stay_dep t n
  omega
def F_law10 : MF := ⟨fun l h Q => ∃ ns : List Int, l = [.cl (ns.map PV.int)] ∧ ns.length ≤ 63 ∧ h = [] ∧ Q (.bl true) [], fun f ⟨ns, e, h1, h2, q⟩ => ⟨ns, e, h1, h2, f _ _ q⟩⟩
theorem R_law10 (l : List PV) (h : PH) (Q : QV) (hh : limH h.length h) (hl : limL h.length l = true) (q : F_law10.run l h Q) : (b_law F_pot F_words F_take (F_same 4) F_fs F_ground F_fc F_ls F_lc).run (exitD h.length Q) (begin 4 l) h := by
  obtain ⟨ns, rfl, h63, rfl, q⟩ := q
  unfold b_law
  show MS.run _ _ [some (.cl (ns.map PV.int)), none, none, none] []
  one_item
  rw [List.length_map]
  generalize hm : (if (if (8 : Int) < (ns.length : Int) then (8 : Int) else (ns.length : Int)) > 1 then (if (8 : Int) < (ns.length : Int) then (8 : Int) else (ns.length : Int)) else (1 : Int)) = m
  have hm1 : 0 ≤ m ∧ m ≤ 8 := by subst hm; split <;> split <;> omega
  refine r_kR1 ⟨by omega, by omega⟩ ?_
  refine for_inv (fun i ps h' => ∃ o1 o2 o3, ps = [some (.cl (ns.map PV.int)), o1, o2, o3]) (fun _ _ _ _ => trivial) (fun i x ps h' hx => ?_) (fun ps h' => ?_) ⟨_, _, _, rfl⟩
  · rintro ⟨o1, o2, o3, rfl⟩
    obtain ⟨h1, rfl⟩ := intsV_get hx
    one_item
    refine ⟨ns, _, rfl, h63, by omega, by omega, ?_⟩
    one_item
    refine ⟨_, 8, rfl, get_app0.trans rfl, by decide, by decide, fun d d0 d1 => ?_⟩
    one_item
    refine ⟨_, _, rfl, get_app0.trans rfl, by omega, by omega, fun ws wl wk wn => ?_⟩
    one_item
    match ws, wl, wk, wn with
    | [], wl, _, _ => exact absurd wl (by simp only [List.length_nil]; omega)
    | w :: ws, wl, _, _ =>
      have h7 : ws.length ≤ 7 := by rw [List.length_cons] at wl; omega
      obtain ⟨f1, f2⟩ := first_eq w ws h7
      obtain ⟨g1, g2⟩ := last_eq w ws h7
      refine ⟨_, w, ws, rfl, (get_app 1).trans rfl, h7, ?_⟩
      one_item
      refine ⟨_, rfl, f1, ?_⟩
      one_item
      refine ⟨_, w, ws, rfl, (get_app 1).trans rfl, h7, ?_⟩
      rw [← f2]
      one_item
      refine ⟨_, rfl, ground_pl _, ground_wid _ f1, ground_dep _, ?_⟩
      one_item
      refine ⟨_, w, ws, rfl, (get_app 1).trans rfl, h7, ?_⟩
      one_item
      refine ⟨_, rfl, g1, ?_⟩
      one_item
      refine ⟨_, w, ws, rfl, (get_app 1).trans rfl, h7, ?_⟩
      one_item
      refine ⟨_, rfl, ground_pl _, ground_wid _ g1, ground_dep _, ?_⟩
      one_item
      exact ⟨_, _, _, rfl⟩
  · rintro ⟨o1, o2, o3, rfl⟩
    one_item
    refine ⟨.leaf "a", rfl, by decide, ?_⟩
    one_item
    refine ⟨small' (Nat.le_of_ble_eq_true rfl), ?_⟩
    one_item
    refine ⟨small' (Nat.le_of_ble_eq_true rfl), ?_⟩
    one_item
    refine ⟨small' (Nat.le_of_ble_eq_true rfl), ?_⟩
    one_item
    refine ⟨small' (Nat.le_of_ble_eq_true rfl), ?_⟩
    one_item
    refine ⟨.tup (groundL (.leaf "a")), rfl, ground_pl _, ground_wid _ (by decide), ground_dep _, ?_⟩
    exact exit_drop (h := []) (by simp [PV.lim]) hh rfl q
end My
set_option Elab.async false
set_option linter.all false
set_option maxRecDepth 100000
set_option maxHeartbeats 1000000
namespace My
open PySem PySem.Spec PyProof.Rows L2 PL
def top (i : Nat) : Stmt := PySem.Challenge.pw_treewithin_k10_grounds_known_by_hand.main.body.getD i (.Pass ⟨0, 0, 0, 0⟩)
abbrev s_parts_of : Stmt := top 1
abbrev N_parts_of : List Str := ["tree", "backward", "waiting", "part"]
abbrev P_parts_of : List Str := ["tree"]
theorem sc_parts_of : FnScope N_parts_of P_parts_of (defScope s_parts_of) := ⟨rfl, rfl, rfl, by decide +kernel, rfl, by decide +kernel, by decide +kernel⟩
abbrev s_nodes : Stmt := top 2
abbrev N_nodes : List Str := ["tree", "told", "loose", "part", "other", "one"]
abbrev P_nodes : List Str := ["tree"]
theorem sc_nodes : FnScope N_nodes P_nodes (defScope s_nodes) := ⟨rfl, rfl, rfl, by decide +kernel, rfl, by decide +kernel, by decide +kernel⟩
abbrev s_halves : Stmt := top 3
abbrev N_halves : List Str := ["node"]
abbrev P_halves : List Str := ["node"]
theorem sc_halves : FnScope N_halves P_halves (defScope s_halves) := ⟨rfl, rfl, rfl, by decide +kernel, rfl, by decide +kernel, by decide +kernel⟩
abbrev s_ahead_of : Stmt := top 4
abbrev N_ahead_of : List Str := ["tree", "told", "node", "ahead", "number", "half"]
abbrev P_ahead_of : List Str := ["tree"]
theorem sc_ahead_of : FnScope N_ahead_of P_ahead_of (defScope s_ahead_of) := ⟨rfl, rfl, rfl, by decide +kernel, rfl, by decide +kernel, by decide +kernel⟩
abbrev lsc_ahead_of_0 : Scope := { kind := .function, names := [(Str.ofString ".0", .local), (Str.ofString "node", .local)], isGenerator := false, isCoroutine := false, more := [] }
theorem lc_ahead_of_0 : LcScope (defScope s_ahead_of) N_ahead_of lsc_ahead_of_0 ["node"] [none] := ⟨rfl, by decide +kernel, by decide +kernel, by decide +kernel, by decide +kernel, rfl, by decide +kernel⟩
abbrev s_name_of : Stmt := top 6
abbrev N_name_of : List Str := ["houses", "house"]
abbrev P_name_of : List Str := ["houses", "house"]
theorem sc_name_of : FnScope N_name_of P_name_of (defScope s_name_of) := ⟨rfl, rfl, rfl, by decide +kernel, rfl, by decide +kernel, by decide +kernel⟩
abbrev s_lines_up : Stmt := top 7
abbrev N_lines_up : List Str := ["great", "ahead", "house", "lines", "above"]
abbrev P_lines_up : List Str := ["great"]
theorem sc_lines_up : FnScope N_lines_up P_lines_up (defScope s_lines_up) := ⟨rfl, rfl, rfl, by decide +kernel, rfl, by decide +kernel, by decide +kernel⟩
abbrev lsc_lines_up_0 : Scope := { kind := .function, names := [(Str.ofString ".0", .local), (Str.ofString "house", .local)], isGenerator := false, isCoroutine := false, more := [] }
theorem lc_lines_up_0 : LcScope (defScope s_lines_up) N_lines_up lsc_lines_up_0 ["house"] [none] := ⟨rfl, by decide +kernel, by decide +kernel, by decide +kernel, by decide +kernel, rfl, by decide +kernel⟩
abbrev s_apart_from : Stmt := top 8
abbrev N_apart_from : List Str := ["lines", "house"]
abbrev P_apart_from : List Str := ["lines", "house"]
theorem sc_apart_from : FnScope N_apart_from P_apart_from (defScope s_apart_from) := ⟨rfl, rfl, rfl, by decide +kernel, rfl, by decide +kernel, by decide +kernel⟩
abbrev lsc_apart_from_0 : Scope := { kind := .function, names := [(Str.ofString ".0", .local), (Str.ofString "far", .local), (Str.ofString "house", .free), (Str.ofString "lines", .free)], isGenerator := false, isCoroutine := false, more := [] }
theorem lc_apart_from_0 : LcScope (defScope s_apart_from) N_apart_from lsc_apart_from_0 ["far", "house", "lines"] [none, some 1, some 0] := ⟨rfl, by decide +kernel, by decide +kernel, by decide +kernel, by decide +kernel, rfl, by decide +kernel⟩
abbrev s_ground : Stmt := top 9
abbrev N_ground : List Str := ["great", "houses", "lines"]
abbrev P_ground : List Str := ["great"]
theorem sc_ground : FnScope N_ground P_ground (defScope s_ground) := ⟨rfl, rfl, rfl, by decide +kernel, rfl, by decide +kernel, by decide +kernel⟩
abbrev lsc_ground_0 : Scope := { kind := .function, names := [(Str.ofString ".0", .local), (Str.ofString "house", .local), (Str.ofString "name_of", .globalImplicit), (Str.ofString "halves", .globalImplicit), (Str.ofString "apart_from", .globalImplicit), (Str.ofString "houses", .free), (Str.ofString "lines", .free)], isGenerator := false, isCoroutine := false, more := [] }
theorem lc_ground_0 : LcScope (defScope s_ground) N_ground lsc_ground_0 ["house", "houses", "lines"] [none, some 1, some 2] := ⟨rfl, by decide +kernel, by decide +kernel, by decide +kernel, by decide +kernel, rfl, by decide +kernel⟩
abbrev s__law_pot : Stmt := top 11
abbrev N__law_pot : List Str := ["_law_script", "_law_k", "_law_cell", "_law_digits"]
abbrev P__law_pot : List Str := ["_law_script", "_law_k"]
theorem sc__law_pot : FnScope N__law_pot P__law_pot (defScope s__law_pot) := ⟨rfl, rfl, rfl, by decide +kernel, rfl, by decide +kernel, by decide +kernel⟩
abbrev s__law_take : Stmt := top 12
abbrev N__law_take : List Str := ["_law_pot_here", "_law_many", "_law_digit", "_law_mixed"]
abbrev P__law_take : List Str := ["_law_pot_here", "_law_many"]
theorem sc__law_take : FnScope N__law_take P__law_take (defScope s__law_take) := ⟨rfl, rfl, rfl, by decide +kernel, rfl, by decide +kernel, by decide +kernel⟩
abbrev s__law_words : Stmt := top 13
abbrev N__law_words : List Str := ["_law_pot_here", "_law_many", "_law_letters", "_law_first", "_law_turn", "_law_stem", "_law_ends", "_law_found", "_law_k", "_law_letter"]
abbrev P__law_words : List Str := ["_law_pot_here", "_law_many"]
theorem sc__law_words : FnScope N__law_words P__law_words (defScope s__law_words) := ⟨rfl, rfl, rfl, by decide +kernel, rfl, by decide +kernel, by decide +kernel⟩
abbrev s__law_same : Stmt := top 14
abbrev N__law_same : List Str := ["_law_found", "_law_due"]
abbrev P__law_same : List Str := ["_law_found", "_law_due"]
theorem sc__law_same : FnScope N__law_same P__law_same (defScope s__law_same) := ⟨rfl, rfl, rfl, by decide +kernel, rfl, by decide +kernel, by decide +kernel⟩
abbrev lsc__law_same_0 : Scope := { kind := .function, names := [(Str.ofString ".0", .local), (Str.ofString "_law_one", .local), (Str.ofString "_law_other", .local), (Str.ofString "_law_same", .globalImplicit)], isGenerator := false, isCoroutine := false, more := [] }
theorem lc__law_same_0 : LcScope (defScope s__law_same) N__law_same lsc__law_same_0 ["_law_one", "_law_other"] [none, none] := ⟨rfl, by decide +kernel, by decide +kernel, by decide +kernel, by decide +kernel, rfl, by decide +kernel⟩
abbrev s__law_first_comb : Stmt := top 15
abbrev N__law_first_comb : List Str := ["_law_words_here", "_law_tree", "_law_word"]
abbrev P__law_first_comb : List Str := ["_law_words_here"]
theorem sc__law_first_comb : FnScope N__law_first_comb P__law_first_comb (defScope s__law_first_comb) := ⟨rfl, rfl, rfl, by decide +kernel, rfl, by decide +kernel, by decide +kernel⟩
abbrev s__law_last_comb : Stmt := top 16
abbrev N__law_last_comb : List Str := ["_law_words_here", "_law_tree", "_law_word"]
abbrev P__law_last_comb : List Str := ["_law_words_here"]
theorem sc__law_last_comb : FnScope N__law_last_comb P__law_last_comb (defScope s__law_last_comb) := ⟨rfl, rfl, rfl, by decide +kernel, rfl, by decide +kernel, by decide +kernel⟩
abbrev s__law_first_stays : Stmt := top 17
abbrev N__law_first_stays : List Str := ["_law_words_here", "_law_many", "_law_k", "_law_odd", "_law_stays", "_law_later"]
abbrev P__law_first_stays : List Str := ["_law_words_here"]
theorem sc__law_first_stays : FnScope N__law_first_stays P__law_first_stays (defScope s__law_first_stays) := ⟨rfl, rfl, rfl, by decide +kernel, rfl, by decide +kernel, by decide +kernel⟩
abbrev lsc__law_first_stays_0 : Scope := { kind := .function, names := [(Str.ofString ".0", .local), (Str.ofString "_law_k", .local)], isGenerator := false, isCoroutine := false, more := [] }
abbrev lsc__law_first_stays_1 : Scope := { kind := .function, names := [(Str.ofString ".0", .local), (Str.ofString "_law_one", .local), (Str.ofString "_law_k", .free)], isGenerator := false, isCoroutine := false, more := [] }
theorem lc__law_first_stays_0 : LcScope (defScope s__law_first_stays) N__law_first_stays lsc__law_first_stays_0 ["_law_k"] [none] := ⟨rfl, by decide +kernel, by decide +kernel, by decide +kernel, by decide +kernel, rfl, by decide +kernel⟩
theorem lc__law_first_stays_1 : LcScope (defScope s__law_first_stays) N__law_first_stays lsc__law_first_stays_1 ["_law_one", "_law_k"] [none, some 2] := ⟨rfl, by decide +kernel, by decide +kernel, by decide +kernel, by decide +kernel, rfl, by decide +kernel⟩
abbrev s__law_last_stays : Stmt := top 18
abbrev N__law_last_stays : List Str := ["_law_words_here", "_law_many", "_law_stays", "_law_k", "_law_others"]
abbrev P__law_last_stays : List Str := ["_law_words_here"]
theorem sc__law_last_stays : FnScope N__law_last_stays P__law_last_stays (defScope s__law_last_stays) := ⟨rfl, rfl, rfl, by decide +kernel, rfl, by decide +kernel, by decide +kernel⟩
abbrev lsc__law_last_stays_0 : Scope := { kind := .function, names := [(Str.ofString ".0", .local), (Str.ofString "_law_one", .local), (Str.ofString "_law_k", .free)], isGenerator := false, isCoroutine := false, more := [] }
theorem lc__law_last_stays_0 : LcScope (defScope s__law_last_stays) N__law_last_stays lsc__law_last_stays_0 ["_law_one", "_law_k"] [none, some 3] := ⟨rfl, by decide +kernel, by decide +kernel, by decide +kernel, by decide +kernel, rfl, by decide +kernel⟩
abbrev s_law : Stmt := top 19
abbrev N_law : List Str := ["_law_script", "_law_k", "_law_pot_here", "_law_words_here"]
abbrev P_law : List Str := ["_law_script"]
theorem sc_law : FnScope N_law P_law (defScope s_law) := ⟨rfl, rfl, rfl, by decide +kernel, rfl, by decide +kernel, by decide +kernel⟩
theorem c_parts_of {P : Program} {w : World} {K : PySem.W.Frag} {mg : Str → Option Value} {base : Heap} {f : Addr} {k : Nat} (n_isinstance : mg "isinstance" = none) (n_str : mg "str" = none) (n_list : mg "list" = none) (n_reversed : mg "reversed" = none) :
    ∀ (cdv : Value) (A : Around) (outer : List Env) (s : Shared) (H : Hp) (E : XK), Room k (A.deeper (envOfC "parts_of" (defScope s_parts_of) s.heap.objs.size f cdv)) → PSs (cxOf CX0 P w K mg base N_parts_of "parts_of" (defScope s_parts_of) f cdv A outer s H E).nox (defBody s_parts_of) (lS K (b_parts_of)) := fun cdv A outer s H E hr => JSs.p
  (jss_cons (js_set (i := 1) sc_parts_of.nd rfl (Or.inl rfl) (j_alloc (jl_lst ja_nil)))
  (jss_cons (js_set (i := 2) sc_parts_of.nd rfl (Or.inl rfl) (j_alloc (jl_lst (ja_cons (j_var 0) ja_nil))))
  (jss_cons (js_while PassesOwn.never (jt_tru rfl (j_var 2) (fun _ => rfl)) (jss_cons (js_set (i := 3) sc_parts_of.nd rfl (Or.inl rfl) (j_pop rfl (j_var 2)))
  (jss_cons (js_expr (j_append rfl (j_var 1) (j_var 3)))
  (jss_one (js_if (jt_not (jt_tru rfl (j_isi rfl .str rfl n_isinstance (j_var 3) rfl n_str boot_str) (fun _ => rfl))) (jss_one (js_expr (j_extend rfl (j_var 2) (jq_sq (j_var 3))))) jss_nil)))))
  (jss_one (js_ret (j_alloc (jl_rev rfl rfl rfl n_list rfl n_reversed (jql_sq (j_var 1)))))))))
theorem c_nodes {P : Program} {w : World} {K : PySem.W.Frag} {mg : Str → Option Value} {base : Heap} {f : Addr} {k : Nat} {F_parts_of : MFL} {k_parts_of : Nat} (n_isinstance : mg "isinstance" = none) (n_str : mg "str" = none) (n_len : mg "len" = none) (n_tuple : mg "tuple" = none) (g_parts_of : Cal P w K mg base "parts_of" k_parts_of P_parts_of (spL K F_parts_of)) (h_parts_of : k_parts_of ≤ k) :
    ∀ (cdv : Value) (A : Around) (outer : List Env) (s : Shared) (H : Hp) (E : XK), Room k (A.deeper (envOfC "nodes" (defScope s_nodes) s.heap.objs.size f cdv)) → PSs (cxOf CX0 P w K mg base N_nodes "nodes" (defScope s_nodes) f cdv A outer s H E).nox (defBody s_nodes) (lS K (b_nodes F_parts_of)) := fun cdv A outer s H E hr => JSs.p
  (jss_cons (js_set (i := 1) sc_nodes.nd rfl (Or.inl rfl) (j_alloc (jl_lst ja_nil)))
  (jss_cons (js_set (i := 2) sc_nodes.nd rfl (Or.inl rfl) (j_alloc (jl_lst ja_nil)))
  (jss_cons (js_for PassesOwn.never rfl (ji_seq rfl (jq_own (jl_call g_parts_of hr h_parts_of rfl (ja_cons (j_var 0) ja_nil)))) (jg_name (i := 3) sc_nodes.nd rfl (Or.inl rfl)) (jss_cons (js_if (jt_tru rfl (j_isi rfl .str rfl n_isinstance (j_var 3) rfl n_str boot_str) (fun _ => rfl)) (jss_one (js_expr (j_append rfl (j_var 1) (j_var 3)))) (jss_cons (js_set (i := 4) sc_nodes.nd rfl (Or.inl rfl) (j_pop rfl (j_var 2)))
  (jss_cons (js_set (i := 5) sc_nodes.nd rfl (Or.inl rfl) (j_pop rfl (j_var 2)))
  (jss_one (js_expr (j_append rfl (j_var 1) (j_tup (ja_cons (j_var 5) (ja_cons (j_var 4) ja_nil)))))))))
  (jss_one (js_expr (j_append rfl (j_var 2) (j_sub (j_len' rfl rfl rfl rfl n_len (j_var 1)) j_int))))))
  (jss_one (js_ret (j_tuple' rfl rfl rfl rfl n_tuple (jq_sq (j_var 1))))))))
theorem c_halves {P : Program} {w : World} {K : PySem.W.Frag} {mg : Str → Option Value} {base : Heap} {f : Addr} {k : Nat} (n_isinstance : mg "isinstance" = none) (n_str : mg "str" = none) :
    ∀ (cdv : Value) (A : Around) (outer : List Env) (s : Shared) (H : Hp) (E : XK), Room k (A.deeper (envOfC "halves" (defScope s_halves) s.heap.objs.size f cdv)) → PSs (cxOf CX0 P w K mg base N_halves "halves" (defScope s_halves) f cdv A outer s H E).nox (defBody s_halves) (lS K (b_halves)) := fun cdv A outer s H E hr => JSs.p
  (jss_one (js_ret (j_if (jt_tru rfl (j_isi rfl .str rfl n_isinstance (j_var 0) rfl n_str boot_str) (fun _ => rfl)) (j_tup ja_nil) (j_var 0))))
theorem c_ahead_of {P : Program} {w : World} {K : PySem.W.Frag} {mg : Str → Option Value} {base : Heap} {f : Addr} {k : Nat} {F_nodes : MF} {F_halves : MF} {k_nodes : Nat} {k_halves : Nat} (n_enumerate : mg "enumerate" = none) (n_tuple : mg "tuple" = none) (g_nodes : Cal P w K mg base "nodes" k_nodes P_nodes (spOf K F_nodes)) (h_nodes : k_nodes ≤ k) (g_halves : Cal P w K mg base "halves" k_halves P_halves (spOf K F_halves)) (h_halves : k_halves ≤ k) :
    ∀ (cdv : Value) (A : Around) (outer : List Env) (s : Shared) (H : Hp) (E : XK), Room k (A.deeper (envOfC "ahead_of" (defScope s_ahead_of) s.heap.objs.size f cdv)) → PSs (cxOf CX0 P w K mg base N_ahead_of "ahead_of" (defScope s_ahead_of) f cdv A outer s H E).nox (defBody s_ahead_of) (lS K (b_ahead_of F_nodes F_halves)) := fun cdv A outer s H E hr => JSs.p
  (jss_cons (js_set (i := 1) sc_ahead_of.nd rfl (Or.inl rfl) (j_call g_nodes hr h_nodes rfl (ja_cons (j_var 0) ja_nil)))
  (jss_cons (js_setlc (i := 3) rfl sc_ahead_of.nd rfl rfl lc_ahead_of_0 (ji_seq rfl (jq_sq (j_var 1))) (fun _ _ _ _ _ => (jg_name (i := 0) lc_ahead_of_0.nd rfl (Or.inl rfl) (Or.inr rfl))) (fun _ _ _ _ _ => jf_nil) (fun _ _ _ _ _ => j_non))
  (jss_cons (js_for PassesOwn.never rfl (ji_enum rfl rfl n_enumerate (jq_sq (j_var 1))) (jg_tup rfl rfl (jgs_cons (jg_name (i := 4) sc_ahead_of.nd rfl (Or.inl rfl)) (jgs_cons (jg_name (i := 2) sc_ahead_of.nd rfl (Or.inl rfl)) jgs_nil))) (jss_one (js_for PassesOwn.never rfl (ji_seq rfl (jq_sq (j_call g_halves hr h_halves rfl (ja_cons (j_var 2) ja_nil)))) (jg_name (i := 5) sc_ahead_of.nd rfl (Or.inl rfl)) (jss_one (js_asg (j_var 4) (jg_sub (j_var 3) (j_var 5)))))))
  (jss_one (js_ret (j_tuple' rfl rfl rfl rfl n_tuple (jq_sq (j_var 3))))))))
theorem c_name_of {P : Program} {w : World} {K : PySem.W.Frag} {mg : Str → Option Value} {base : Heap} {f : Addr} {k : Nat} (n_isinstance : mg "isinstance" = none) (n_str : mg "str" = none) :
    ∀ (cdv : Value) (A : Around) (outer : List Env) (s : Shared) (H : Hp) (E : XK), Room k (A.deeper (envOfC "name_of" (defScope s_name_of) s.heap.objs.size f cdv)) → PSs (cxOf CX0 P w K mg base N_name_of "name_of" (defScope s_name_of) f cdv A outer s H E).nox (defBody s_name_of) (lS K (b_name_of)) := fun cdv A outer s H E hr => JSs.p
  (jss_one (js_ret (j_if (jt_tru rfl (j_isi rfl .str rfl n_isinstance (j_ix rfl (jq_sq (j_var 0)) (j_var 1) (fun _ _ => rfl)) rfl n_str boot_str) (fun _ => rfl)) (j_ix rfl (jq_sq (j_var 0)) (j_var 1) (fun _ _ => rfl)) (j_var 1))))
theorem c_lines_up {P : Program} {w : World} {K : PySem.W.Frag} {mg : Str → Option Value} {base : Heap} {f : Addr} {k : Nat} {F_ahead_of : MF} {k_ahead_of : Nat} (n_len : mg "len" = none) (n_range : mg "range" = none) (g_ahead_of : Cal P w K mg base "ahead_of" k_ahead_of P_ahead_of (spOf K F_ahead_of)) (h_ahead_of : k_ahead_of ≤ k) :
    ∀ (cdv : Value) (A : Around) (outer : List Env) (s : Shared) (H : Hp) (E : XK), Room k (A.deeper (envOfC "lines_up" (defScope s_lines_up) s.heap.objs.size f cdv)) → PSs (cxOf CX0 P w K mg base N_lines_up "lines_up" (defScope s_lines_up) f cdv A outer s H E).nox (defBody s_lines_up) (lS K (b_lines_up F_ahead_of)) := fun cdv A outer s H E hr => JSs.p
  (jss_cons (js_set (i := 1) sc_lines_up.nd rfl (Or.inl rfl) (j_call g_ahead_of hr h_ahead_of rfl (ja_cons (j_var 0) ja_nil)))
  (jss_cons (js_setlc (i := 3) rfl sc_lines_up.nd rfl rfl lc_lines_up_0 (ji_seq rfl (jq_sq (j_var 1))) (fun _ _ _ _ _ => (jg_name (i := 0) lc_lines_up_0.nd rfl (Or.inl rfl) (Or.inr rfl))) (fun _ _ _ _ _ => jf_nil) (fun _ _ _ _ _ => (j_tup ja_nil)))
  (jss_cons (js_for PassesOwn.never rfl (ji_range3 rfl n_range (ja_cons (j_sub (j_len' rfl rfl rfl rfl n_len (j_var 1)) j_int) (ja_cons (j_neg j_int) (ja_cons (j_neg j_int) ja_nil)))) (jg_name (i := 2) sc_lines_up.nd rfl (Or.inl rfl)) (jss_cons (js_set (i := 4) sc_lines_up.nd rfl (Or.inl rfl) (j_if (jt_cmp jc_isN (j_ix rfl (jq_sq (j_var 1)) (j_var 2) (fun _ _ => rfl)) j_non) (j_tup ja_nil) (j_ix rfl (jq_sq (j_var 3)) (j_ix rfl (jq_sq (j_var 1)) (j_var 2) (fun _ _ => rfl)) (fun _ _ => rfl))))
  (jss_one (js_asg (j_add rfl (j_tup (ja_cons (j_var 2) ja_nil)) (j_var 4)) (jg_sub (j_var 3) (j_var 2))))))
  (jss_one (js_ret (j_var 3))))))
theorem c_apart_from {P : Program} {w : World} {K : PySem.W.Frag} {mg : Str → Option Value} {base : Heap} {f : Addr} {k : Nat} (n_len : mg "len" = none) (n_range : mg "range" = none) (n_tuple : mg "tuple" = none) :
    ∀ (cdv : Value) (A : Around) (outer : List Env) (s : Shared) (H : Hp) (E : XK), Room k (A.deeper (envOfC "apart_from" (defScope s_apart_from) s.heap.objs.size f cdv)) → PSs (cxOf CX0 P w K mg base N_apart_from "apart_from" (defScope s_apart_from) f cdv A outer s H E).nox (defBody s_apart_from) (lS K (b_apart_from)) := fun cdv A outer s H E hr => JSs.p
  (jss_one (js_ret (j_tuple' rfl rfl rfl rfl n_tuple (jq_own (jl_lc rfl lc_apart_from_0 (ji_range1 rfl n_range (ja_cons (j_len' rfl rfl rfl rfl n_len (j_var 0)) ja_nil)) (fun _ _ _ _ _ => (jg_name (i := 0) lc_apart_from_0.nd rfl (Or.inl rfl) (Or.inr rfl))) (fun _ _ _ _ _ => (jf_one (JW.t (jw_and (jt_notIn rfl (My.room200 hr) (j_var 0) (jq_sq (j_ix rfl (jq_sq (j_var 2)) (j_var 1) (fun _ _ => rfl)))) (jw_and1 (jt_notIn rfl (My.room200 hr) (j_var 1) (jq_sq (j_ix rfl (jq_sq (j_var 2)) (j_var 0) (fun _ _ => rfl))))))))) (fun _ _ _ _ _ => (j_var 0)))))))
theorem c_ground {P : Program} {w : World} {K : PySem.W.Frag} {mg : Str → Option Value} {base : Heap} {f : Addr} {k : Nat} {F_nodes : MF} {F_lines_up : MFL} {F_apart_from : MF} {F_halves : MF} {F_name_of : MF} {k_nodes : Nat} {k_lines_up : Nat} {k_apart_from : Nat} {k_halves : Nat} {k_name_of : Nat} (n_len : mg "len" = none) (n_range : mg "range" = none) (n_tuple : mg "tuple" = none) (g_nodes : Cal P w K mg base "nodes" k_nodes P_nodes (spOf K F_nodes)) (h_nodes : k_nodes ≤ k) (g_lines_up : Cal P w K mg base "lines_up" k_lines_up P_lines_up (spL K F_lines_up)) (h_lines_up : k_lines_up ≤ k) (g_apart_from : Cal P w K mg base "apart_from" k_apart_from P_apart_from (spOf K F_apart_from)) (h_apart_from : k_apart_from ≤ k) (g_halves : Cal P w K mg base "halves" k_halves P_halves (spOf K F_halves)) (h_halves : k_halves ≤ k) (g_name_of : Cal P w K mg base "name_of" k_name_of P_name_of (spOf K F_name_of)) (h_name_of : k_name_of ≤ k) :
    ∀ (cdv : Value) (A : Around) (outer : List Env) (s : Shared) (H : Hp) (E : XK), Room k (A.deeper (envOfC "ground" (defScope s_ground) s.heap.objs.size f cdv)) → PSs (cxOf CX0 P w K mg base N_ground "ground" (defScope s_ground) f cdv A outer s H E).nox (defBody s_ground) (lS K (b_ground F_nodes F_lines_up F_apart_from F_halves F_name_of)) := fun cdv A outer s H E hr => JSs.p
  (jss_cons (js_set (i := 1) sc_ground.nd rfl (Or.inr rfl) (j_call g_nodes hr h_nodes rfl (ja_cons (j_var 0) ja_nil)))
  (jss_cons (js_set (i := 2) sc_ground.nd rfl (Or.inr rfl) (j_alloc (jl_call g_lines_up hr h_lines_up rfl (ja_cons (j_var 0) ja_nil))))
  (jss_one (js_ret (j_tuple' rfl rfl rfl rfl n_tuple (jq_own (jl_lc rfl lc_ground_0 (ji_range1 rfl n_range (ja_cons (j_len' rfl rfl rfl rfl n_len (j_var 1)) ja_nil)) (fun _ _ _ _ _ => (jg_name (i := 0) lc_ground_0.nd rfl (Or.inl rfl) (Or.inr rfl))) (fun _ _ _ _ _ => jf_nil) (fun _ _ _ _ _ => (j_tup (ja_cons (j_call g_name_of hr h_name_of rfl (ja_cons (j_var 1) (ja_cons (j_var 0) ja_nil))) (ja_cons j_int (ja_cons (j_call g_halves hr h_halves rfl (ja_cons (j_ix rfl (jq_sq (j_var 1)) (j_var 0) (fun _ _ => rfl)) ja_nil)) (ja_cons (j_call g_apart_from hr h_apart_from rfl (ja_cons (j_var 2) (ja_cons (j_var 0) ja_nil))) ja_nil)))))))))))))
theorem c__law_pot {P : Program} {w : World} {K : PySem.W.Frag} {mg : Str → Option Value} {base : Heap} {f : Addr} {k : Nat} (n_len : mg "len" = none) (n_abs : mg "abs" = none) (n_int : mg "int" = none) :
    ∀ (cdv : Value) (A : Around) (outer : List Env) (s : Shared) (H : Hp) (E : XK), Room k (A.deeper (envOfC "_law_pot" (defScope s__law_pot) s.heap.objs.size f cdv)) → PSs (cxOf CX0 P w K mg base N__law_pot "_law_pot" (defScope s__law_pot) f cdv A outer s H E).nox (defBody s__law_pot) (lS K (b__law_pot)) := fun cdv A outer s H E hr => JSs.p
  (jss_cons (js_set (i := 2) sc__law_pot.nd rfl (Or.inl rfl) j_int)
  (jss_cons (js_if (jt_cmp jc_lt (j_var 1) (j_len' rfl rfl rfl rfl n_len (j_var 0))) (jss_one (js_set (i := 2) sc__law_pot.nd rfl (Or.inl rfl) (j_abs' rfl rfl rfl n_abs (j_ix rfl (jq_sq (j_var 0)) (j_var 1) (fun _ _ => rfl))))) jss_nil)
  (jss_cons (js_set (i := 3) sc__law_pot.nd rfl (Or.inl rfl) (j_mul (j_mod (j_var 2) (j_mul (j_pow j_int j_int) (j_pow j_int j_int))) (j_toInt' rfl rfl rfl n_int (j_cmp jc_ge (j_var 2) (j_pow j_int j_int)))))
  (jss_one (js_ret (j_alloc (jl_lst (ja_cons (j_var 3) (ja_cons (j_mod (j_add rfl (j_add rfl (j_var 2) (j_mul j_int (j_var 1))) j_int) j_int) (ja_cons j_int ja_nil))))))))))
theorem c__law_take {P : Program} {w : World} {K : PySem.W.Frag} {mg : Str → Option Value} {base : Heap} {f : Addr} {k : Nat} :
    ∀ (cdv : Value) (A : Around) (outer : List Env) (s : Shared) (H : Hp) (E : XK), Room k (A.deeper (envOfC "_law_take" (defScope s__law_take) s.heap.objs.size f cdv)) → PSs (cxOf CX0 P w K mg base N__law_take "_law_take" (defScope s__law_take) f cdv A outer s H E).nox (defBody s__law_take) (lS K (b__law_take)) := fun cdv A outer s H E hr => JSs.p
  (jss_cons (js_if (jt_cmp jc_gt (j_ix rfl (jq_sq (j_var 0)) j_int (fun _ _ => rfl)) j_int) (jss_cons (js_set (i := 2) sc__law_take.nd rfl (Or.inl rfl) (j_mod (j_ix rfl (jq_sq (j_var 0)) j_int (fun _ _ => rfl)) (j_var 1)))
  (jss_cons (js_asg (j_div (j_ix rfl (jq_sq (j_var 0)) j_int (fun _ _ => rfl)) (j_var 1)) (jg_sub (j_var 0) j_int))
  (jss_one (js_ret (j_var 2))))) jss_nil)
  (jss_cons (js_augS_add rfl (j_var 0) j_int j_int)
  (jss_cons (js_set (i := 3) sc__law_take.nd rfl (Or.inl rfl) (j_mod (j_add rfl (j_add rfl (j_mul (j_ix rfl (jq_sq (j_var 0)) j_int (fun _ _ => rfl)) j_int) (j_mul j_int (j_ix rfl (jq_sq (j_var 0)) j_int (fun _ _ => rfl)))) j_int) j_int))
  (jss_cons (js_asg (j_mod (j_mul (j_var 3) (j_add rfl (j_add rfl (j_mod (j_var 3) j_int) (j_mul j_int (j_ix rfl (jq_sq (j_var 0)) j_int (fun _ _ => rfl)))) j_int)) j_int) (jg_sub (j_var 0) j_int))
  (jss_one (js_ret (j_mod (j_div (j_ix rfl (jq_sq (j_var 0)) j_int (fun _ _ => rfl)) j_int) (j_var 1))))))))
theorem c__law_words {P : Program} {w : World} {K : PySem.W.Frag} {mg : Str → Option Value} {base : Heap} {f : Addr} {k : Nat} {F__law_take : MF} {k__law_take : Nat} (n_range : mg "range" = none) (g__law_take : Cal P w K mg base "_law_take" k__law_take P__law_take (spOf K F__law_take)) (h__law_take : k__law_take ≤ k) :
    ∀ (cdv : Value) (A : Around) (outer : List Env) (s : Shared) (H : Hp) (E : XK), Room k (A.deeper (envOfC "_law_words" (defScope s__law_words) s.heap.objs.size f cdv)) → PSs (cxOf CX0 P w K mg base N__law_words "_law_words" (defScope s__law_words) f cdv A outer s H E).nox (defBody s__law_words) (lS K (b__law_words F__law_take)) := fun cdv A outer s H E hr => JSs.p
  (jss_cons (js_set (i := 2) sc__law_words.nd rfl (Or.inl rfl) j_str)
  (jss_cons (js_set (i := 3) sc__law_words.nd rfl (Or.inl rfl) (j_call g__law_take hr h__law_take rfl (ja_cons (j_var 0) (ja_cons j_int ja_nil))))
  (jss_cons (js_set (i := 4) sc__law_words.nd rfl (Or.inl rfl) (j_ix rfl (jq_own (jl_lst (ja_cons j_int (ja_cons j_int (ja_cons j_int (ja_cons j_int (ja_cons j_int (ja_cons j_int ja_nil)))))))) (j_call g__law_take hr h__law_take rfl (ja_cons (j_var 0) (ja_cons j_int ja_nil))) (fun _ _ => rfl)))
  (jss_cons (js_set (i := 5) sc__law_words.nd rfl (Or.inl rfl) (j_ix rfl (jq_own (jl_lst (ja_cons j_str (ja_cons j_str ja_nil)))) (j_call g__law_take hr h__law_take rfl (ja_cons (j_var 0) (ja_cons j_int ja_nil))) (fun _ _ => rfl)))
  (jss_cons (js_set (i := 6) sc__law_words.nd rfl (Or.inl rfl) (j_alloc (jl_lst (ja_cons j_str (ja_cons j_str (ja_cons j_str (ja_cons j_str ja_nil)))))))
  (jss_cons (js_set (i := 7) sc__law_words.nd rfl (Or.inl rfl) (j_alloc (jl_lst ja_nil)))
  (jss_cons (js_for PassesOwn.never rfl (ji_range1 rfl n_range (ja_cons (j_var 1) ja_nil)) (jg_name (i := 8) sc__law_words.nd rfl (Or.inl rfl)) (jss_cons (js_set (i := 9) sc__law_words.nd rfl (Or.inl rfl) (j_ixS (j_var 2) (j_mod (j_add rfl (j_var 3) (j_mul (j_var 4) (j_var 8))) j_int) (fun _ _ => rfl)))
  (jss_one (js_expr (j_append rfl (j_var 7) (j_add rfl (j_add rfl (j_var 5) (j_var 9)) (j_ix rfl (jq_sq (j_var 6)) (j_mod (j_add rfl (j_var 3) (j_var 8)) j_int) (fun _ _ => rfl))))))))
  (jss_one (js_ret (j_var 7))))))))))
theorem c__law_same {P : Program} {w : World} {K : PySem.W.Frag} {mg : Str → Option Value} {base : Heap} {f : Addr} {k : Nat} {F__law_same : MF} {k__law_same : Nat} (n_isinstance : mg "isinstance" = none) (n_tuple : mg "tuple" = none) (n_len : mg "len" = none) (n_zip : mg "zip" = none) (n_all : mg "all" = none) (n_str : mg "str" = none) (n_bool : mg "bool" = none) (n_int : mg "int" = none) (g__law_same : Cal P w K mg base "_law_same" k__law_same P__law_same (spOf K F__law_same)) (h__law_same : k__law_same ≤ k) :
    ∀ (cdv : Value) (A : Around) (outer : List Env) (s : Shared) (H : Hp) (E : XK), Room k (A.deeper (envOfC "_law_same" (defScope s__law_same) s.heap.objs.size f cdv)) → PSs (cxOf CX0 P w K mg base N__law_same "_law_same" (defScope s__law_same) f cdv A outer s H E).nox (defBody s__law_same) (lS K (b__law_same F__law_same)) := fun cdv A outer s H E hr => JSs.p
  (jss_cons (js_if (jt_tru rfl (j_isi rfl .tup rfl n_isinstance (j_var 1) rfl n_tuple boot_tuple) (fun _ => rfl)) (jss_cons (js_if (JW.t (jw_or (jt_not (jt_tru rfl (j_isi rfl .tup rfl n_isinstance (j_var 0) rfl n_tuple boot_tuple) (fun _ => rfl))) (jw_or1 (jt_cmp (jc_ne rfl (My.room200 hr)) (j_len' rfl rfl rfl rfl n_len (j_var 0)) (j_len' rfl rfl rfl rfl n_len (j_var 1)))))) (jss_one (js_ret j_bl)) jss_nil)
  (jss_one (js_ret (j_all' rfl rfl rfl rfl rfl n_all (jl_lc rfl lc__law_same_0 (ji_zip rfl rfl n_zip (j_var 0) (j_var 1)) (fun _ _ _ _ _ => (jg_tup rfl rfl (jgs_cons (jg_name (i := 0) lc__law_same_0.nd rfl (Or.inl rfl) (Or.inr rfl)) (jgs_cons (jg_name (i := 1) lc__law_same_0.nd rfl (Or.inl rfl) (Or.inr rfl)) jgs_nil)))) (fun _ _ _ _ _ => jf_nil) (fun _ _ _ _ _ => (j_call g__law_same hr h__law_same rfl (ja_cons (j_var 0) (ja_cons (j_var 1) ja_nil))))))))) jss_nil)
  (jss_cons (js_if (JW.t (jw_or (jt_tru rfl (j_isi rfl .str rfl n_isinstance (j_var 1) rfl n_str boot_str) (fun _ => rfl)) (jw_or1 (jt_cmp jc_isN (j_var 1) j_non)))) (jss_one (js_ret (j_and (j_cmp (jc_eq rfl (My.room200 hr)) (j_isi rfl .str rfl n_isinstance (j_var 0) rfl n_str boot_str) (j_isi rfl .str rfl n_isinstance (j_var 1) rfl n_str boot_str)) (j_one (j_cmp (jc_eq rfl (My.room200 hr)) (j_var 0) (j_var 1)))))) jss_nil)
  (jss_one (js_ret (j_and (j_isi rfl .int rfl n_isinstance (j_var 0) rfl n_int boot_int) (j_and (j_not (j_isi rfl .bool rfl n_isinstance (j_var 0) rfl n_bool boot_bool)) (j_one (j_cmp (jc_eq rfl (My.room200 hr)) (j_var 0) (j_var 1)))))))))
theorem c__law_first_comb {P : Program} {w : World} {K : PySem.W.Frag} {mg : Str → Option Value} {base : Heap} {f : Addr} {k : Nat} :
    ∀ (cdv : Value) (A : Around) (outer : List Env) (s : Shared) (H : Hp) (E : XK), Room k (A.deeper (envOfC "_law_first_comb" (defScope s__law_first_comb) s.heap.objs.size f cdv)) → PSs (cxOf CX0 P w K mg base N__law_first_comb "_law_first_comb" (defScope s__law_first_comb) f cdv A outer s H E).nox (defBody s__law_first_comb) (lS K (b__law_first_comb)) := fun cdv A outer s H E hr => JSs.p
  (jss_cons (js_set (i := 1) sc__law_first_comb.nd rfl (Or.inl rfl) (j_ix rfl (jq_sq (j_var 0)) j_int (fun _ _ => rfl)))
  (jss_cons (js_for PassesOwn.never rfl (ji_seq rfl (jq_own (jl_sl rfl (jql_sq (j_var 0)) (jo_some j_int) jo_none))) (jg_name (i := 2) sc__law_first_comb.nd rfl (Or.inl rfl)) (jss_one (js_set (i := 1) sc__law_first_comb.nd rfl (Or.inl rfl) (j_tup (ja_cons (j_var 1) (ja_cons (j_var 2) ja_nil))))))
  (jss_one (js_ret (j_var 1)))))
theorem c__law_last_comb {P : Program} {w : World} {K : PySem.W.Frag} {mg : Str → Option Value} {base : Heap} {f : Addr} {k : Nat} :
    ∀ (cdv : Value) (A : Around) (outer : List Env) (s : Shared) (H : Hp) (E : XK), Room k (A.deeper (envOfC "_law_last_comb" (defScope s__law_last_comb) s.heap.objs.size f cdv)) → PSs (cxOf CX0 P w K mg base N__law_last_comb "_law_last_comb" (defScope s__law_last_comb) f cdv A outer s H E).nox (defBody s__law_last_comb) (lS K (b__law_last_comb)) := fun cdv A outer s H E hr => JSs.p
  (jss_cons (js_set (i := 1) sc__law_last_comb.nd rfl (Or.inl rfl) (j_ix rfl (jq_sq (j_var 0)) (j_neg j_int) (fun _ _ => rfl)))
  (jss_cons (js_for PassesOwn.never rfl (ji_seq rfl (jq_own (jl_sl3 rfl (jql_sq (j_var 0)) (jo_some (j_neg j_int)) jo_none (jo_some (j_neg j_int))))) (jg_name (i := 2) sc__law_last_comb.nd rfl (Or.inl rfl)) (jss_one (js_set (i := 1) sc__law_last_comb.nd rfl (Or.inl rfl) (j_tup (ja_cons (j_var 2) (ja_cons (j_var 1) ja_nil))))))
  (jss_one (js_ret (j_var 1)))))
theorem c__law_first_stays {P : Program} {w : World} {K : PySem.W.Frag} {mg : Str → Option Value} {base : Heap} {f : Addr} {k : Nat} (n_len : mg "len" = none) (n_range : mg "range" = none) (n_tuple : mg "tuple" = none) :
    ∀ (cdv : Value) (A : Around) (outer : List Env) (s : Shared) (H : Hp) (E : XK), Room k (A.deeper (envOfC "_law_first_stays" (defScope s__law_first_stays) s.heap.objs.size f cdv)) → PSs (cxOf CX0 P w K mg base N__law_first_stays "_law_first_stays" (defScope s__law_first_stays) f cdv A outer s H E).nox (defBody s__law_first_stays) (lS K (b__law_first_stays)) := fun cdv A outer s H E hr => JSs.p
  (jss_cons (js_set (i := 1) sc__law_first_stays.nd rfl (Or.inl rfl) (j_len' rfl rfl rfl rfl n_len (j_var 0)))
  (jss_cons (js_setlc (i := 3) rfl sc__law_first_stays.nd rfl rfl lc__law_first_stays_0 (ji_range2 rfl n_range (ja_cons j_int (ja_cons (j_var 1) ja_nil))) (fun _ _ _ _ _ => (jg_name (i := 0) lc__law_first_stays_0.nd rfl (Or.inl rfl) (Or.inr rfl))) (fun _ _ _ _ _ => jf_nil) (fun _ _ _ _ _ => (j_sub (j_mul j_int (j_var 0)) j_int)))
  (jss_cons (js_set (i := 4) sc__law_first_stays.nd rfl (Or.inl rfl) (j_alloc (jl_lst (ja_cons (j_tup (ja_cons (j_ix rfl (jq_sq (j_var 0)) j_int (fun _ _ => rfl)) (ja_cons j_int (ja_cons (j_tup ja_nil) (ja_cons (j_tuple' rfl rfl rfl rfl n_tuple (jq_sq (j_var 3))) ja_nil))))) ja_nil))))
  (jss_cons (js_for PassesOwn.never rfl (ji_range2 rfl n_range (ja_cons j_int (ja_cons (j_var 1) ja_nil))) (jg_name (i := 2) sc__law_first_stays.nd rfl (Or.inr rfl)) (jss_cons (js_set (i := 5) sc__law_first_stays.nd rfl (Or.inl rfl) (j_tuple' rfl rfl rfl rfl n_tuple (jq_own (jl_lc rfl lc__law_first_stays_1 (ji_seq rfl (jq_sq (j_var 3))) (fun _ _ _ _ _ => (jg_name (i := 0) lc__law_first_stays_1.nd rfl (Or.inl rfl) (Or.inr rfl))) (fun _ _ _ _ _ => (jf_one (jt_cmp jc_gt (j_var 0) (j_sub (j_mul j_int (j_var 1)) j_int)))) (fun _ _ _ _ _ => (j_var 0))))))
  (jss_cons (js_expr (j_append rfl (j_var 4) (j_tup (ja_cons (j_ix rfl (jq_sq (j_var 0)) (j_var 2) (fun _ _ => rfl)) (ja_cons j_int (ja_cons (j_tup ja_nil) (ja_cons (j_add rfl (j_tupR1 rfl rfl n_tuple rfl n_range (ja_cons (j_sub (j_mul j_int (j_var 2)) j_int) ja_nil)) (j_var 5)) ja_nil)))))))
  (jss_one (js_expr (j_append rfl (j_var 4) (j_tup (ja_cons (j_mul j_int (j_var 2)) (ja_cons j_int (ja_cons (j_tup (ja_cons (j_sub (j_mul j_int (j_var 2)) j_int) (ja_cons (j_sub (j_mul j_int (j_var 2)) j_int) ja_nil))) (ja_cons (j_var 5) ja_nil)))))))))))
  (jss_one (js_ret (j_tuple' rfl rfl rfl rfl n_tuple (jq_sq (j_var 4)))))))))
theorem c__law_last_stays {P : Program} {w : World} {K : PySem.W.Frag} {mg : Str → Option Value} {base : Heap} {f : Addr} {k : Nat} (n_len : mg "len" = none) (n_range : mg "range" = none) (n_max : mg "max" = none) (n_list : mg "list" = none) (n_tuple : mg "tuple" = none) :
    ∀ (cdv : Value) (A : Around) (outer : List Env) (s : Shared) (H : Hp) (E : XK), Room k (A.deeper (envOfC "_law_last_stays" (defScope s__law_last_stays) s.heap.objs.size f cdv)) → PSs (cxOf CX0 P w K mg base N__law_last_stays "_law_last_stays" (defScope s__law_last_stays) f cdv A outer s H E).nox (defBody s__law_last_stays) (lS K (b__law_last_stays)) := fun cdv A outer s H E hr => JSs.p
  (jss_cons (js_set (i := 1) sc__law_last_stays.nd rfl (Or.inl rfl) (j_len' rfl rfl rfl rfl n_len (j_var 0)))
  (jss_cons (js_set (i := 2) sc__law_last_stays.nd rfl (Or.inl rfl) (j_alloc (jl_lst ja_nil)))
  (jss_cons (js_for PassesOwn.never rfl (ji_range1 rfl n_range (ja_cons (j_var 1) ja_nil)) (jg_name (i := 3) sc__law_last_stays.nd rfl (Or.inr rfl)) (jss_cons (js_set (i := 4) sc__law_last_stays.nd rfl (Or.inl rfl) (j_alloc (jl_cat rfl (jql_own (jl_lc rfl lc__law_last_stays_0 (ji_range1 rfl n_range (ja_cons (j_var 1) ja_nil)) (fun _ _ _ _ _ => (jg_name (i := 0) lc__law_last_stays_0.nd rfl (Or.inl rfl) (Or.inr rfl))) (fun _ _ _ _ _ => (jf_one (jt_cmp (jc_ne rfl (My.room200 hr)) (j_var 0) (j_var 1)))) (fun _ _ _ _ _ => (j_var 0)))) (jql_own (jl_listR2 rfl rfl n_list rfl n_range (ja_cons (j_var 1) (ja_cons (j_max rfl rfl n_max (ja_cons (j_var 1) (ja_cons (j_sub (j_sub (j_mul j_int (j_var 1)) j_int) (j_var 3)) ja_nil))) ja_nil)))))))
  (jss_one (js_expr (j_append rfl (j_var 2) (j_tup (ja_cons (j_ix rfl (jq_sq (j_var 0)) (j_var 3) (fun _ _ => rfl)) (ja_cons j_int (ja_cons (j_tup ja_nil) (ja_cons (j_tuple' rfl rfl rfl rfl n_tuple (jq_sq (j_var 4))) ja_nil))))))))))
  (jss_cons (js_for PassesOwn.never rfl (ji_range1 rfl n_range (ja_cons (j_sub (j_var 1) j_int) ja_nil)) (jg_name (i := 3) sc__law_last_stays.nd rfl (Or.inr rfl)) (jss_one (js_expr (j_append rfl (j_var 2) (j_tup (ja_cons (j_add rfl (j_var 1) (j_var 3)) (ja_cons j_int (ja_cons (j_tup (ja_cons (j_sub (j_sub (j_var 1) j_int) (j_var 3)) (ja_cons (j_sub (j_add rfl (j_var 1) (j_var 3)) j_int) ja_nil))) (ja_cons (j_tupR1 rfl rfl n_tuple rfl n_range (ja_cons (j_sub (j_sub (j_var 1) j_int) (j_var 3)) ja_nil)) ja_nil)))))))))
  (jss_one (js_ret (j_tuple' rfl rfl rfl rfl n_tuple (jq_sq (j_var 2)))))))))
theorem c_law {P : Program} {w : World} {K : PySem.W.Frag} {mg : Str → Option Value} {base : Heap} {f : Addr} {k : Nat} {F__law_pot : MF} {F__law_words : MFL} {F__law_take : MF} {F__law_same : MF} {F__law_first_stays : MF} {F_ground : MF} {F__law_first_comb : MF} {F__law_last_stays : MF} {F__law_last_comb : MF} {k__law_pot : Nat} {k__law_words : Nat} {k__law_take : Nat} {k__law_same : Nat} {k__law_first_stays : Nat} {k_ground : Nat} {k__law_first_comb : Nat} {k__law_last_stays : Nat} {k__law_last_comb : Nat} (n_len : mg "len" = none) (n_min : mg "min" = none) (n_max : mg "max" = none) (n_range : mg "range" = none) (g__law_pot : Cal P w K mg base "_law_pot" k__law_pot P__law_pot (spOf K F__law_pot)) (h__law_pot : k__law_pot ≤ k) (g__law_words : Cal P w K mg base "_law_words" k__law_words P__law_words (spL K F__law_words)) (h__law_words : k__law_words ≤ k) (g__law_take : Cal P w K mg base "_law_take" k__law_take P__law_take (spOf K F__law_take)) (h__law_take : k__law_take ≤ k) (g__law_same : Cal P w K mg base "_law_same" k__law_same P__law_same (spOf K F__law_same)) (h__law_same : k__law_same ≤ k) (g__law_first_stays : Cal P w K mg base "_law_first_stays" k__law_first_stays P__law_first_stays (spOf K F__law_first_stays)) (h__law_first_stays : k__law_first_stays ≤ k) (g_ground : Cal P w K mg base "ground" k_ground P_ground (spOf K F_ground)) (h_ground : k_ground ≤ k) (g__law_first_comb : Cal P w K mg base "_law_first_comb" k__law_first_comb P__law_first_comb (spOf K F__law_first_comb)) (h__law_first_comb : k__law_first_comb ≤ k) (g__law_last_stays : Cal P w K mg base "_law_last_stays" k__law_last_stays P__law_last_stays (spOf K F__law_last_stays)) (h__law_last_stays : k__law_last_stays ≤ k) (g__law_last_comb : Cal P w K mg base "_law_last_comb" k__law_last_comb P__law_last_comb (spOf K F__law_last_comb)) (h__law_last_comb : k__law_last_comb ≤ k) :
    ∀ (cdv : Value) (A : Around) (outer : List Env) (s : Shared) (H : Hp) (E : XK), Room k (A.deeper (envOfC "law" (defScope s_law) s.heap.objs.size f cdv)) → PSs (cxOf CX0 P w K mg base N_law "law" (defScope s_law) f cdv A outer s H E).nox (defBody s_law) (lS K (b_law F__law_pot F__law_words F__law_take F__law_same F__law_first_stays F_ground F__law_first_comb F__law_last_stays F__law_last_comb)) := fun cdv A outer s H E hr => JSs.p
  (jss_cons (js_for PassesOwn.never rfl (ji_range1 rfl n_range (ja_cons (j_max rfl rfl n_max (ja_cons j_int (ja_cons (j_min rfl rfl n_min (ja_cons (j_len' rfl rfl rfl rfl n_len (j_var 0)) (ja_cons j_int ja_nil))) ja_nil))) ja_nil)) (jg_name (i := 1) sc_law.nd rfl (Or.inl rfl)) (jss_cons (js_set (i := 2) sc_law.nd rfl (Or.inl rfl) (j_call g__law_pot hr h__law_pot rfl (ja_cons (j_var 0) (ja_cons (j_var 1) ja_nil))))
  (jss_cons (js_set (i := 3) sc_law.nd rfl (Or.inl rfl) (j_alloc (jl_call g__law_words hr h__law_words rfl (ja_cons (j_var 2) (ja_cons (j_add rfl j_int (j_call g__law_take hr h__law_take rfl (ja_cons (j_var 2) (ja_cons j_int ja_nil)))) ja_nil)))))
  (jss_cons (js_if (jt_not (jt_tru rfl (j_call g__law_same hr h__law_same rfl (ja_cons (j_call g_ground hr h_ground rfl (ja_cons (j_call g__law_first_comb hr h__law_first_comb rfl (ja_cons (j_var 3) ja_nil)) ja_nil)) (ja_cons (j_call g__law_first_stays hr h__law_first_stays rfl (ja_cons (j_var 3) ja_nil)) ja_nil))) (fun _ => rfl))) (jss_one (js_ret j_bl)) jss_nil)
  (jss_one (js_if (jt_not (jt_tru rfl (j_call g__law_same hr h__law_same rfl (ja_cons (j_call g_ground hr h_ground rfl (ja_cons (j_call g__law_last_comb hr h__law_last_comb rfl (ja_cons (j_var 3) ja_nil)) ja_nil)) (ja_cons (j_call g__law_last_stays hr h__law_last_stays rfl (ja_cons (j_var 3) ja_nil)) ja_nil))) (fun _ => rfl))) (jss_one (js_ret j_bl)) jss_nil))))))
  (jss_one (js_ret (j_call g__law_same hr h__law_same rfl (ja_cons (j_call g_ground hr h_ground rfl (ja_cons j_str ja_nil)) (ja_cons (j_tup (ja_cons (j_tup (ja_cons j_str (ja_cons j_int (ja_cons (j_tup ja_nil) (ja_cons (j_tup ja_nil) ja_nil))))) ja_nil)) ja_nil))))))
end My
set_option Elab.async false
set_option linter.all false
set_option maxRecDepth 100000
set_option maxHeartbeats 1000000
namespace My
open PySem PySem.Spec PyProof.Rows L2 PL
theorem all__law_same {P : Program} {w : World} {K : PySem.W.Frag} {mg : Str → Option Value} {base : Heap} {f : Addr} {fd : FuncData} (n_isinstance : mg "isinstance" = none) (n_tuple : mg "tuple" = none) (n_len : mg "len" = none) (n_zip : mg "zip" = none) (n_all : mg "all" = none) (n_str : mg "str" = none) (n_bool : mg "bool" = none) (n_int : mg "int" = none) (Fn : Fun K "_law_same" "_law_same" s__law_same f fd) (bi : Binds K fd P__law_same []) (m : mg "_law_same" = some (.ref f)) : ∀ n, FnOk P w K mg base CX0 n f fd P__law_same (spOf K (F_same n))
  | 0 => ⟨fun vs H Q E h => by obtain ⟨_, _, _, _, _, z⟩ := h; exact z.elim, fun A outer s H args us vs Q E _ _ _ _ h => by obtain ⟨_, _, _, _, _, z⟩ := h; exact z.elim⟩
  | n + 1 => fn_ok Fn sc__law_same (F_same (n + 1)) (b__law_same (F_same n)) (fun l h Q q => by first | (obtain ⟨_, rfl, _⟩ := q; rfl; done) | (obtain ⟨_, _, rfl, _⟩ := q; rfl; done) | (obtain ⟨_, _, _, rfl, _⟩ := q; rfl; done) | (obtain ⟨_, _, _, _, rfl, _⟩ := q; rfl; done) | (rcases q with ⟨_, rfl, _⟩ | ⟨_, rfl, _⟩ <;> rfl)) (c__law_same n_isinstance n_tuple n_len n_zip n_all n_str n_bool n_int ⟨_, _, all__law_same n_isinstance n_tuple n_len n_zip n_all n_str n_bool n_int Fn bi m n, bi, Fn.kp, m⟩ (Nat.le_refl _)) (R_same n)
def spLaw (K : PySem.W.Frag) : Sp := fun vs H Q _ => ∃ (a : Addr) (ns : List Int), vs = [.ref a] ∧ Only H ∧ SqL K H a (ns.map V.int) ∧ ns.length ≤ 63 ∧ ∀ H', Q (.bl true) H'
theorem ints_vrs {K : PySem.W.Frag} (ι : List Addr) (H : Hp) : ∀ ns : List Int, VRs K ι H (ns.map V.int) (ns.map PV.int)
  | [] => .nil
  | n :: ns => .cons (.int n) (ints_vrs ι H ns)
theorem law_imp {K : PySem.W.Frag} : ∀ vs H Q E, spLaw K vs H Q E → spOf K F_law10 vs H Q E := fun vs H Q E ⟨a, ns, e, hO, hS, hl, q⟩ => by
  subst e
  have fz : FzL K H a (ns.map V.int) := by
    rcases hS with (h | ⟨o, h⟩) | h
    · rcases hO a with z | ⟨o, xs, z⟩
      · rw [h] at z; cases z
      · rw [h] at z; cases z
    · exact .inl ⟨o, h⟩
    · exact .inr h
  refine ⟨[], [], [.cl (ns.map PV.int)], ⟨List.nodup_nil, rfl, fun n a o h _ => by simp at h⟩, .cons (.cl fz (ints_vrs _ _ ns)) .nil, ns, rfl, hl, rfl, fun ι' v H' _ _ r => ?_⟩
  cases r
  exact q H'
theorem all_mk {l : PySem.W.OpenLaw} {w : World} {K : PySem.W.Frag} {h : Heap} {mg : Str → Option Value} {fa f0 f1 f2 f3 f4 f5 f6 f7 f8 f9 f10 f11 f12 f13 f14 f15 f16 : Addr} {od0 an0 od1 an1 od2 an2 od3 an3 od4 an4 od5 an5 od6 an6 od7 an7 od8 an8 od9 an9 od10 an10 od11 an11 od12 an12 od13 an13 od14 an14 od15 an15 od16 an16 : Option Addr} {sl0 sl1 sl2 sl3 sl4 sl5 sl6 sl7 sl8 sl9 sl10 sl11 sl12 sl13 sl14 sl15 sl16 : Array (Option Value)} {oc0 kV0 dc0 pm0 cd0 ct0 oc1 kV1 dc1 pm1 cd1 ct1 oc2 kV2 dc2 pm2 cd2 ct2 oc3 kV3 dc3 pm3 cd3 ct3 oc4 kV4 dc4 pm4 cd4 ct4 oc5 kV5 dc5 pm5 cd5 ct5 oc6 kV6 dc6 pm6 cd6 ct6 oc7 kV7 dc7 pm7 cd7 ct7 oc8 kV8 dc8 pm8 cd8 ct8 oc9 kV9 dc9 pm9 cd9 ct9 oc10 kV10 dc10 pm10 cd10 ct10 oc11 kV11 dc11 pm11 cd11 ct11 oc12 kV12 dc12 pm12 cd12 ct12 oc13 kV13 dc13 pm13 cd13 ct13 oc14 kV14 dc14 pm14 cd14 ct14 oc15 kV15 dc15 pm15 cd15 ct15 oc16 kV16 dc16 pm16 cd16 ct16 : Value} (X : K.In h) (G : h.Ns mainGlobals mg) (hfa : mg "law" = some (.ref fa))
    (a0 : PySem.W.nsIn K mainGlobals "parts_of" = some (some (.ref f0))) (l0 : K.lookup f0 = some ⟨oc0, od0, .func (PySem.W.fnOf "parts_of" "parts_of" (defArgs s_parts_of) (defBody s_parts_of) (defScope s_parts_of) .none kV0 dc0 pm0 an0 cd0 ct0), sl0⟩) (c0 : PySem.W.codeIn K cd0 "parts_of" = true) (k0 : PySem.W.keepIn K (.ref f0) = true)
    (a1 : PySem.W.nsIn K mainGlobals "nodes" = some (some (.ref f1))) (l1 : K.lookup f1 = some ⟨oc1, od1, .func (PySem.W.fnOf "nodes" "nodes" (defArgs s_nodes) (defBody s_nodes) (defScope s_nodes) .none kV1 dc1 pm1 an1 cd1 ct1), sl1⟩) (c1 : PySem.W.codeIn K cd1 "nodes" = true) (k1 : PySem.W.keepIn K (.ref f1) = true)
    (a2 : PySem.W.nsIn K mainGlobals "halves" = some (some (.ref f2))) (l2 : K.lookup f2 = some ⟨oc2, od2, .func (PySem.W.fnOf "halves" "halves" (defArgs s_halves) (defBody s_halves) (defScope s_halves) .none kV2 dc2 pm2 an2 cd2 ct2), sl2⟩) (c2 : PySem.W.codeIn K cd2 "halves" = true) (k2 : PySem.W.keepIn K (.ref f2) = true)
    (a3 : PySem.W.nsIn K mainGlobals "ahead_of" = some (some (.ref f3))) (l3 : K.lookup f3 = some ⟨oc3, od3, .func (PySem.W.fnOf "ahead_of" "ahead_of" (defArgs s_ahead_of) (defBody s_ahead_of) (defScope s_ahead_of) .none kV3 dc3 pm3 an3 cd3 ct3), sl3⟩) (c3 : PySem.W.codeIn K cd3 "ahead_of" = true) (k3 : PySem.W.keepIn K (.ref f3) = true)
    (a4 : PySem.W.nsIn K mainGlobals "name_of" = some (some (.ref f4))) (l4 : K.lookup f4 = some ⟨oc4, od4, .func (PySem.W.fnOf "name_of" "name_of" (defArgs s_name_of) (defBody s_name_of) (defScope s_name_of) .none kV4 dc4 pm4 an4 cd4 ct4), sl4⟩) (c4 : PySem.W.codeIn K cd4 "name_of" = true) (k4 : PySem.W.keepIn K (.ref f4) = true)
    (a5 : PySem.W.nsIn K mainGlobals "lines_up" = some (some (.ref f5))) (l5 : K.lookup f5 = some ⟨oc5, od5, .func (PySem.W.fnOf "lines_up" "lines_up" (defArgs s_lines_up) (defBody s_lines_up) (defScope s_lines_up) .none kV5 dc5 pm5 an5 cd5 ct5), sl5⟩) (c5 : PySem.W.codeIn K cd5 "lines_up" = true) (k5 : PySem.W.keepIn K (.ref f5) = true)
    (a6 : PySem.W.nsIn K mainGlobals "apart_from" = some (some (.ref f6))) (l6 : K.lookup f6 = some ⟨oc6, od6, .func (PySem.W.fnOf "apart_from" "apart_from" (defArgs s_apart_from) (defBody s_apart_from) (defScope s_apart_from) .none kV6 dc6 pm6 an6 cd6 ct6), sl6⟩) (c6 : PySem.W.codeIn K cd6 "apart_from" = true) (k6 : PySem.W.keepIn K (.ref f6) = true)
    (a7 : PySem.W.nsIn K mainGlobals "ground" = some (some (.ref f7))) (l7 : K.lookup f7 = some ⟨oc7, od7, .func (PySem.W.fnOf "ground" "ground" (defArgs s_ground) (defBody s_ground) (defScope s_ground) .none kV7 dc7 pm7 an7 cd7 ct7), sl7⟩) (c7 : PySem.W.codeIn K cd7 "ground" = true) (k7 : PySem.W.keepIn K (.ref f7) = true)
    (a8 : PySem.W.nsIn K mainGlobals "_law_pot" = some (some (.ref f8))) (l8 : K.lookup f8 = some ⟨oc8, od8, .func (PySem.W.fnOf "_law_pot" "_law_pot" (defArgs s__law_pot) (defBody s__law_pot) (defScope s__law_pot) .none kV8 dc8 pm8 an8 cd8 ct8), sl8⟩) (c8 : PySem.W.codeIn K cd8 "_law_pot" = true) (k8 : PySem.W.keepIn K (.ref f8) = true)
    (a9 : PySem.W.nsIn K mainGlobals "_law_take" = some (some (.ref f9))) (l9 : K.lookup f9 = some ⟨oc9, od9, .func (PySem.W.fnOf "_law_take" "_law_take" (defArgs s__law_take) (defBody s__law_take) (defScope s__law_take) .none kV9 dc9 pm9 an9 cd9 ct9), sl9⟩) (c9 : PySem.W.codeIn K cd9 "_law_take" = true) (k9 : PySem.W.keepIn K (.ref f9) = true)
    (a10 : PySem.W.nsIn K mainGlobals "_law_words" = some (some (.ref f10))) (l10 : K.lookup f10 = some ⟨oc10, od10, .func (PySem.W.fnOf "_law_words" "_law_words" (defArgs s__law_words) (defBody s__law_words) (defScope s__law_words) .none kV10 dc10 pm10 an10 cd10 ct10), sl10⟩) (c10 : PySem.W.codeIn K cd10 "_law_words" = true) (k10 : PySem.W.keepIn K (.ref f10) = true)
    (a11 : PySem.W.nsIn K mainGlobals "_law_same" = some (some (.ref f11))) (l11 : K.lookup f11 = some ⟨oc11, od11, .func (PySem.W.fnOf "_law_same" "_law_same" (defArgs s__law_same) (defBody s__law_same) (defScope s__law_same) .none kV11 dc11 pm11 an11 cd11 ct11), sl11⟩) (c11 : PySem.W.codeIn K cd11 "_law_same" = true) (k11 : PySem.W.keepIn K (.ref f11) = true)
    (a12 : PySem.W.nsIn K mainGlobals "_law_first_comb" = some (some (.ref f12))) (l12 : K.lookup f12 = some ⟨oc12, od12, .func (PySem.W.fnOf "_law_first_comb" "_law_first_comb" (defArgs s__law_first_comb) (defBody s__law_first_comb) (defScope s__law_first_comb) .none kV12 dc12 pm12 an12 cd12 ct12), sl12⟩) (c12 : PySem.W.codeIn K cd12 "_law_first_comb" = true) (k12 : PySem.W.keepIn K (.ref f12) = true)
    (a13 : PySem.W.nsIn K mainGlobals "_law_last_comb" = some (some (.ref f13))) (l13 : K.lookup f13 = some ⟨oc13, od13, .func (PySem.W.fnOf "_law_last_comb" "_law_last_comb" (defArgs s__law_last_comb) (defBody s__law_last_comb) (defScope s__law_last_comb) .none kV13 dc13 pm13 an13 cd13 ct13), sl13⟩) (c13 : PySem.W.codeIn K cd13 "_law_last_comb" = true) (k13 : PySem.W.keepIn K (.ref f13) = true)
    (a14 : PySem.W.nsIn K mainGlobals "_law_first_stays" = some (some (.ref f14))) (l14 : K.lookup f14 = some ⟨oc14, od14, .func (PySem.W.fnOf "_law_first_stays" "_law_first_stays" (defArgs s__law_first_stays) (defBody s__law_first_stays) (defScope s__law_first_stays) .none kV14 dc14 pm14 an14 cd14 ct14), sl14⟩) (c14 : PySem.W.codeIn K cd14 "_law_first_stays" = true) (k14 : PySem.W.keepIn K (.ref f14) = true)
    (a15 : PySem.W.nsIn K mainGlobals "_law_last_stays" = some (some (.ref f15))) (l15 : K.lookup f15 = some ⟨oc15, od15, .func (PySem.W.fnOf "_law_last_stays" "_law_last_stays" (defArgs s__law_last_stays) (defBody s__law_last_stays) (defScope s__law_last_stays) .none kV15 dc15 pm15 an15 cd15 ct15), sl15⟩) (c15 : PySem.W.codeIn K cd15 "_law_last_stays" = true) (k15 : PySem.W.keepIn K (.ref f15) = true)
    (a16 : PySem.W.nsIn K mainGlobals "law" = some (some (.ref f16))) (l16 : K.lookup f16 = some ⟨oc16, od16, .func (PySem.W.fnOf "law" "law" (defArgs s_law) (defBody s_law) (defScope s_law) .none kV16 dc16 pm16 an16 cd16 ct16), sl16⟩) (c16 : PySem.W.codeIn K cd16 "law" = true) (k16 : PySem.W.keepIn K (.ref f16) = true)
    (z_isinstance : PySem.W.nsIn K mainGlobals "isinstance" = some none)
    (z_str : PySem.W.nsIn K mainGlobals "str" = some none)
    (z_list : PySem.W.nsIn K mainGlobals "list" = some none)
    (z_reversed : PySem.W.nsIn K mainGlobals "reversed" = some none)
    (z_len : PySem.W.nsIn K mainGlobals "len" = some none)
    (z_tuple : PySem.W.nsIn K mainGlobals "tuple" = some none)
    (z_enumerate : PySem.W.nsIn K mainGlobals "enumerate" = some none)
    (z_range : PySem.W.nsIn K mainGlobals "range" = some none)
    (z_abs : PySem.W.nsIn K mainGlobals "abs" = some none)
    (z_int : PySem.W.nsIn K mainGlobals "int" = some none)
    (z_all : PySem.W.nsIn K mainGlobals "all" = some none)
    (z_zip : PySem.W.nsIn K mainGlobals "zip" = some none)
    (z_bool : PySem.W.nsIn K mainGlobals "bool" = some none)
    (z_max : PySem.W.nsIn K mainGlobals "max" = some none)
    (z_min : PySem.W.nsIn K mainGlobals "min" = some none) :
    ∃ fd : FuncData, (∀ (s : Shared) (v : Value), BindsTo s fd ⟨[v], []⟩ [("_law_script", v)]) ∧ ∀ base : Heap, K.In base → base.Ns mainGlobals mg → FnOk l.prog w K mg base CX0 6 fa fd ["_law_script"] (spLaw K) := by
  have e := hfa.symm.trans (PySem.W.mg_of X G a16)
  cases e
  have F_parts_of := fun_mk (st := s_parts_of) l0 c0 k0
  have b_parts_of := F_parts_of.binds (ps := P_parts_of) fun _ _ _ _ _ _ us hl => match us, hl with | [_], _ => rfl
  have m_parts_of := PySem.W.mg_of X G a0
  have F_nodes := fun_mk (st := s_nodes) l1 c1 k1
  have b_nodes := F_nodes.binds (ps := P_nodes) fun _ _ _ _ _ _ us hl => match us, hl with | [_], _ => rfl
  have m_nodes := PySem.W.mg_of X G a1
  have F_halves := fun_mk (st := s_halves) l2 c2 k2
  have b_halves := F_halves.binds (ps := P_halves) fun _ _ _ _ _ _ us hl => match us, hl with | [_], _ => rfl
  have m_halves := PySem.W.mg_of X G a2
  have F_ahead_of := fun_mk (st := s_ahead_of) l3 c3 k3
  have b_ahead_of := F_ahead_of.binds (ps := P_ahead_of) fun _ _ _ _ _ _ us hl => match us, hl with | [_], _ => rfl
  have m_ahead_of := PySem.W.mg_of X G a3
  have F_name_of := fun_mk (st := s_name_of) l4 c4 k4
  have b_name_of := F_name_of.binds (ps := P_name_of) fun _ _ _ _ _ _ us hl => match us, hl with | [_, _], _ => rfl
  have m_name_of := PySem.W.mg_of X G a4
  have F_lines_up := fun_mk (st := s_lines_up) l5 c5 k5
  have b_lines_up := F_lines_up.binds (ps := P_lines_up) fun _ _ _ _ _ _ us hl => match us, hl with | [_], _ => rfl
  have m_lines_up := PySem.W.mg_of X G a5
  have F_apart_from := fun_mk (st := s_apart_from) l6 c6 k6
  have b_apart_from := F_apart_from.binds (ps := P_apart_from) fun _ _ _ _ _ _ us hl => match us, hl with | [_, _], _ => rfl
  have m_apart_from := PySem.W.mg_of X G a6
  have F_ground := fun_mk (st := s_ground) l7 c7 k7
  have b_ground := F_ground.binds (ps := P_ground) fun _ _ _ _ _ _ us hl => match us, hl with | [_], _ => rfl
  have m_ground := PySem.W.mg_of X G a7
  have F__law_pot := fun_mk (st := s__law_pot) l8 c8 k8
  have b__law_pot := F__law_pot.binds (ps := P__law_pot) fun _ _ _ _ _ _ us hl => match us, hl with | [_, _], _ => rfl
  have m__law_pot := PySem.W.mg_of X G a8
  have F__law_take := fun_mk (st := s__law_take) l9 c9 k9
  have b__law_take := F__law_take.binds (ps := P__law_take) fun _ _ _ _ _ _ us hl => match us, hl with | [_, _], _ => rfl
  have m__law_take := PySem.W.mg_of X G a9
  have F__law_words := fun_mk (st := s__law_words) l10 c10 k10
  have b__law_words := F__law_words.binds (ps := P__law_words) fun _ _ _ _ _ _ us hl => match us, hl with | [_, _], _ => rfl
  have m__law_words := PySem.W.mg_of X G a10
  have F__law_same := fun_mk (st := s__law_same) l11 c11 k11
  have b__law_same := F__law_same.binds (ps := P__law_same) fun _ _ _ _ _ _ us hl => match us, hl with | [_, _], _ => rfl
  have m__law_same := PySem.W.mg_of X G a11
  have F__law_first_comb := fun_mk (st := s__law_first_comb) l12 c12 k12
  have b__law_first_comb := F__law_first_comb.binds (ps := P__law_first_comb) fun _ _ _ _ _ _ us hl => match us, hl with | [_], _ => rfl
  have m__law_first_comb := PySem.W.mg_of X G a12
  have F__law_last_comb := fun_mk (st := s__law_last_comb) l13 c13 k13
  have b__law_last_comb := F__law_last_comb.binds (ps := P__law_last_comb) fun _ _ _ _ _ _ us hl => match us, hl with | [_], _ => rfl
  have m__law_last_comb := PySem.W.mg_of X G a13
  have F__law_first_stays := fun_mk (st := s__law_first_stays) l14 c14 k14
  have b__law_first_stays := F__law_first_stays.binds (ps := P__law_first_stays) fun _ _ _ _ _ _ us hl => match us, hl with | [_], _ => rfl
  have m__law_first_stays := PySem.W.mg_of X G a14
  have F__law_last_stays := fun_mk (st := s__law_last_stays) l15 c15 k15
  have b__law_last_stays := F__law_last_stays.binds (ps := P__law_last_stays) fun _ _ _ _ _ _ us hl => match us, hl with | [_], _ => rfl
  have m__law_last_stays := PySem.W.mg_of X G a15
  have F_law := fun_mk (st := s_law) l16 c16 k16
  have m_law := PySem.W.mg_of X G a16
  have n_isinstance := PySem.W.mg_none_of X G z_isinstance
  have n_str := PySem.W.mg_none_of X G z_str
  have n_list := PySem.W.mg_none_of X G z_list
  have n_reversed := PySem.W.mg_none_of X G z_reversed
  have n_len := PySem.W.mg_none_of X G z_len
  have n_tuple := PySem.W.mg_none_of X G z_tuple
  have n_enumerate := PySem.W.mg_none_of X G z_enumerate
  have n_range := PySem.W.mg_none_of X G z_range
  have n_abs := PySem.W.mg_none_of X G z_abs
  have n_int := PySem.W.mg_none_of X G z_int
  have n_all := PySem.W.mg_none_of X G z_all
  have n_zip := PySem.W.mg_none_of X G z_zip
  have n_bool := PySem.W.mg_none_of X G z_bool
  have n_max := PySem.W.mg_none_of X G z_max
  have n_min := PySem.W.mg_none_of X G z_min
  refine ⟨PySem.W.fnOf "law" "law" (defArgs s_law) (defBody s_law) (defScope s_law) .none kV16 dc16 pm16 an16 cd16 ct16, fun s v => .of_eq rfl, fun base _ _ => ?_⟩
  let T_parts_of : Cal l.prog w K mg base "parts_of" 1 P_parts_of (spL K My.F_parts) := ⟨_, _, fnL_ok F_parts_of sc_parts_of My.F_parts (My.b_parts_of) (fun l h Q q => by first | (obtain ⟨_, rfl, _⟩ := q; rfl; done) | (obtain ⟨_, _, rfl, _⟩ := q; rfl; done) | (obtain ⟨_, _, _, rfl, _⟩ := q; rfl; done) | (obtain ⟨_, _, _, _, rfl, _⟩ := q; rfl; done) | (rcases q with ⟨_, rfl, _⟩ | ⟨_, rfl, _⟩ <;> rfl)) (c_parts_of n_isinstance n_str n_list n_reversed) My.R_parts, b_parts_of, F_parts_of.kp, m_parts_of⟩
  let T_nodes : Cal l.prog w K mg base "nodes" 2 P_nodes (spOf K My.F_nodes) := ⟨_, _, fn_ok F_nodes sc_nodes My.F_nodes (My.b_nodes My.F_parts) (fun l h Q q => by first | (obtain ⟨_, rfl, _⟩ := q; rfl; done) | (obtain ⟨_, _, rfl, _⟩ := q; rfl; done) | (obtain ⟨_, _, _, rfl, _⟩ := q; rfl; done) | (obtain ⟨_, _, _, _, rfl, _⟩ := q; rfl; done) | (rcases q with ⟨_, rfl, _⟩ | ⟨_, rfl, _⟩ <;> rfl)) (c_nodes n_isinstance n_str n_len n_tuple T_parts_of (by decide)) My.R_nodes, b_nodes, F_nodes.kp, m_nodes⟩
  let T_halves : Cal l.prog w K mg base "halves" 1 P_halves (spOf K My.F_halves) := ⟨_, _, fn_ok F_halves sc_halves My.F_halves (My.b_halves) (fun l h Q q => by first | (obtain ⟨_, rfl, _⟩ := q; rfl; done) | (obtain ⟨_, _, rfl, _⟩ := q; rfl; done) | (obtain ⟨_, _, _, rfl, _⟩ := q; rfl; done) | (obtain ⟨_, _, _, _, rfl, _⟩ := q; rfl; done) | (rcases q with ⟨_, rfl, _⟩ | ⟨_, rfl, _⟩ <;> rfl)) (c_halves n_isinstance n_str) My.R_halves, b_halves, F_halves.kp, m_halves⟩
  let T_ahead_of : Cal l.prog w K mg base "ahead_of" 3 P_ahead_of (spOf K My.F_ahead) := ⟨_, _, fn_ok F_ahead_of sc_ahead_of My.F_ahead (My.b_ahead_of My.F_nodes My.F_halves) (fun l h Q q => by first | (obtain ⟨_, rfl, _⟩ := q; rfl; done) | (obtain ⟨_, _, rfl, _⟩ := q; rfl; done) | (obtain ⟨_, _, _, rfl, _⟩ := q; rfl; done) | (obtain ⟨_, _, _, _, rfl, _⟩ := q; rfl; done) | (rcases q with ⟨_, rfl, _⟩ | ⟨_, rfl, _⟩ <;> rfl)) (c_ahead_of n_enumerate n_tuple T_nodes (by decide) T_halves (by decide)) My.R_ahead, b_ahead_of, F_ahead_of.kp, m_ahead_of⟩
  let T_name_of : Cal l.prog w K mg base "name_of" 1 P_name_of (spOf K My.F_name) := ⟨_, _, fn_ok F_name_of sc_name_of My.F_name (My.b_name_of) (fun l h Q q => by first | (obtain ⟨_, rfl, _⟩ := q; rfl; done) | (obtain ⟨_, _, rfl, _⟩ := q; rfl; done) | (obtain ⟨_, _, _, rfl, _⟩ := q; rfl; done) | (obtain ⟨_, _, _, _, rfl, _⟩ := q; rfl; done) | (rcases q with ⟨_, rfl, _⟩ | ⟨_, rfl, _⟩ <;> rfl)) (c_name_of n_isinstance n_str) My.R_name, b_name_of, F_name_of.kp, m_name_of⟩
  let T_lines_up : Cal l.prog w K mg base "lines_up" 4 P_lines_up (spL K My.F_lines) := ⟨_, _, fnL_ok F_lines_up sc_lines_up My.F_lines (My.b_lines_up My.F_ahead) (fun l h Q q => by first | (obtain ⟨_, rfl, _⟩ := q; rfl; done) | (obtain ⟨_, _, rfl, _⟩ := q; rfl; done) | (obtain ⟨_, _, _, rfl, _⟩ := q; rfl; done) | (obtain ⟨_, _, _, _, rfl, _⟩ := q; rfl; done) | (rcases q with ⟨_, rfl, _⟩ | ⟨_, rfl, _⟩ <;> rfl)) (c_lines_up n_len n_range T_ahead_of (by decide)) My.R_lines, b_lines_up, F_lines_up.kp, m_lines_up⟩
  let T_apart_from : Cal l.prog w K mg base "apart_from" 1 P_apart_from (spOf K My.F_apart) := ⟨_, _, fn_ok F_apart_from sc_apart_from My.F_apart (My.b_apart_from) (fun l h Q q => by first | (obtain ⟨_, rfl, _⟩ := q; rfl; done) | (obtain ⟨_, _, rfl, _⟩ := q; rfl; done) | (obtain ⟨_, _, _, rfl, _⟩ := q; rfl; done) | (obtain ⟨_, _, _, _, rfl, _⟩ := q; rfl; done) | (rcases q with ⟨_, rfl, _⟩ | ⟨_, rfl, _⟩ <;> rfl)) (c_apart_from n_len n_range n_tuple) My.R_apart, b_apart_from, F_apart_from.kp, m_apart_from⟩
  let T_ground : Cal l.prog w K mg base "ground" 5 P_ground (spOf K My.F_ground) := ⟨_, _, fn_ok F_ground sc_ground My.F_ground (My.b_ground My.F_nodes My.F_lines My.F_apart My.F_halves My.F_name) (fun l h Q q => by first | (obtain ⟨_, rfl, _⟩ := q; rfl; done) | (obtain ⟨_, _, rfl, _⟩ := q; rfl; done) | (obtain ⟨_, _, _, rfl, _⟩ := q; rfl; done) | (obtain ⟨_, _, _, _, rfl, _⟩ := q; rfl; done) | (rcases q with ⟨_, rfl, _⟩ | ⟨_, rfl, _⟩ <;> rfl)) (c_ground n_len n_range n_tuple T_nodes (by decide) T_lines_up (by decide) T_apart_from (by decide) T_halves (by decide) T_name_of (by decide)) My.R_ground, b_ground, F_ground.kp, m_ground⟩
  let T__law_pot : Cal l.prog w K mg base "_law_pot" 1 P__law_pot (spOf K My.F_pot) := ⟨_, _, (fnL_ok F__law_pot sc__law_pot My.F_pot0 (My.b__law_pot) (fun l h Q q => by first | (obtain ⟨_, rfl, _⟩ := q; rfl; done) | (obtain ⟨_, _, rfl, _⟩ := q; rfl; done) | (obtain ⟨_, _, _, rfl, _⟩ := q; rfl; done) | (obtain ⟨_, _, _, _, rfl, _⟩ := q; rfl; done) | (rcases q with ⟨_, rfl, _⟩ | ⟨_, rfl, _⟩ <;> rfl)) (c__law_pot n_len n_abs n_int) My.R_pot).imp My.pot_opq, b__law_pot, F__law_pot.kp, m__law_pot⟩
  let T__law_take : Cal l.prog w K mg base "_law_take" 1 P__law_take (spOf K My.F_take) := ⟨_, _, (fn_ok F__law_take sc__law_take My.F_take0 (My.b__law_take) (fun l h Q q => by first | (obtain ⟨_, rfl, _⟩ := q; rfl; done) | (obtain ⟨_, _, rfl, _⟩ := q; rfl; done) | (obtain ⟨_, _, _, rfl, _⟩ := q; rfl; done) | (obtain ⟨_, _, _, _, rfl, _⟩ := q; rfl; done) | (rcases q with ⟨_, rfl, _⟩ | ⟨_, rfl, _⟩ <;> rfl)) (c__law_take ) My.R_take).imp My.take_opq, b__law_take, F__law_take.kp, m__law_take⟩
  let T__law_words : Cal l.prog w K mg base "_law_words" 2 P__law_words (spL K My.F_words) := ⟨_, _, fnL_ok F__law_words sc__law_words My.F_words (My.b__law_words My.F_take) (fun l h Q q => by first | (obtain ⟨_, rfl, _⟩ := q; rfl; done) | (obtain ⟨_, _, rfl, _⟩ := q; rfl; done) | (obtain ⟨_, _, _, rfl, _⟩ := q; rfl; done) | (obtain ⟨_, _, _, _, rfl, _⟩ := q; rfl; done) | (rcases q with ⟨_, rfl, _⟩ | ⟨_, rfl, _⟩ <;> rfl)) (c__law_words n_range T__law_take (by decide)) My.R_words, b__law_words, F__law_words.kp, m__law_words⟩
  let T__law_same : Cal l.prog w K mg base "_law_same" 4 P__law_same (spOf K (F_same 4)) := ⟨_, _, all__law_same (P := l.prog) (w := w) (base := base) n_isinstance n_tuple n_len n_zip n_all n_str n_bool n_int F__law_same b__law_same m__law_same 4, b__law_same, F__law_same.kp, m__law_same⟩
  let T__law_first_comb : Cal l.prog w K mg base "_law_first_comb" 1 P__law_first_comb (spOf K My.F_fc) := ⟨_, _, fn_ok F__law_first_comb sc__law_first_comb My.F_fc (My.b__law_first_comb) (fun l h Q q => by first | (obtain ⟨_, rfl, _⟩ := q; rfl; done) | (obtain ⟨_, _, rfl, _⟩ := q; rfl; done) | (obtain ⟨_, _, _, rfl, _⟩ := q; rfl; done) | (obtain ⟨_, _, _, _, rfl, _⟩ := q; rfl; done) | (rcases q with ⟨_, rfl, _⟩ | ⟨_, rfl, _⟩ <;> rfl)) (c__law_first_comb ) My.R_fc, b__law_first_comb, F__law_first_comb.kp, m__law_first_comb⟩
  let T__law_last_comb : Cal l.prog w K mg base "_law_last_comb" 1 P__law_last_comb (spOf K My.F_lc) := ⟨_, _, fn_ok F__law_last_comb sc__law_last_comb My.F_lc (My.b__law_last_comb) (fun l h Q q => by first | (obtain ⟨_, rfl, _⟩ := q; rfl; done) | (obtain ⟨_, _, rfl, _⟩ := q; rfl; done) | (obtain ⟨_, _, _, rfl, _⟩ := q; rfl; done) | (obtain ⟨_, _, _, _, rfl, _⟩ := q; rfl; done) | (rcases q with ⟨_, rfl, _⟩ | ⟨_, rfl, _⟩ <;> rfl)) (c__law_last_comb ) My.R_lc, b__law_last_comb, F__law_last_comb.kp, m__law_last_comb⟩
  let T__law_first_stays : Cal l.prog w K mg base "_law_first_stays" 1 P__law_first_stays (spOf K My.F_fs) := ⟨_, _, fn_ok F__law_first_stays sc__law_first_stays My.F_fs (My.b__law_first_stays) (fun l h Q q => by first | (obtain ⟨_, rfl, _⟩ := q; rfl; done) | (obtain ⟨_, _, rfl, _⟩ := q; rfl; done) | (obtain ⟨_, _, _, rfl, _⟩ := q; rfl; done) | (obtain ⟨_, _, _, _, rfl, _⟩ := q; rfl; done) | (rcases q with ⟨_, rfl, _⟩ | ⟨_, rfl, _⟩ <;> rfl)) (c__law_first_stays n_len n_range n_tuple) My.R_fs, b__law_first_stays, F__law_first_stays.kp, m__law_first_stays⟩
  let T__law_last_stays : Cal l.prog w K mg base "_law_last_stays" 1 P__law_last_stays (spOf K My.F_ls) := ⟨_, _, fn_ok F__law_last_stays sc__law_last_stays My.F_ls (My.b__law_last_stays) (fun l h Q q => by first | (obtain ⟨_, rfl, _⟩ := q; rfl; done) | (obtain ⟨_, _, rfl, _⟩ := q; rfl; done) | (obtain ⟨_, _, _, rfl, _⟩ := q; rfl; done) | (obtain ⟨_, _, _, _, rfl, _⟩ := q; rfl; done) | (rcases q with ⟨_, rfl, _⟩ | ⟨_, rfl, _⟩ <;> rfl)) (c__law_last_stays n_len n_range n_max n_list n_tuple) My.R_ls, b__law_last_stays, F__law_last_stays.kp, m__law_last_stays⟩
  exact (fn_ok F_law sc_law My.F_law10 (My.b_law My.F_pot My.F_words My.F_take (F_same 4) My.F_fs My.F_ground My.F_fc My.F_ls My.F_lc) (fun l h Q q => by first | (obtain ⟨_, rfl, _⟩ := q; rfl; done) | (obtain ⟨_, _, rfl, _⟩ := q; rfl; done) | (obtain ⟨_, _, _, rfl, _⟩ := q; rfl; done) | (obtain ⟨_, _, _, _, rfl, _⟩ := q; rfl; done) | (rcases q with ⟨_, rfl, _⟩ | ⟨_, rfl, _⟩ <;> rfl)) (c_law n_len n_min n_max n_range T__law_pot (by decide) T__law_words (by decide) T__law_take (by decide) T__law_same (by decide) T__law_first_stays (by decide) T_ground (by decide) T__law_first_comb (by decide) T__law_last_stays (by decide) T__law_last_comb (by decide)) My.R_law10).imp law_imp
theorem walk {l : PySem.W.OpenLaw} {q : Program} {loose : List Str} {XP : (Str → Option Value) → Heap → Prop} {YP : World → Heap → Prop} {d : DefRec} {K : Params → PySem.W.Frag} (hn : l.most = some 63) (hdf : d.params.defaults = [])
    (hY : ∀ (w : World) (h : Heap), YP w h → (K w.params).In h)
    (F : ∀ (w : World) (mg : Str → Option Value) (fa : Addr) (h : Heap), (K w.params).In h → h.Ns mainGlobals mg → mg d.name = some (.ref fa) →
      ∃ fd : FuncData, (∀ (s : Shared) (u : Value), BindsTo s fd ⟨[u], []⟩ [("_law_script", u)]) ∧ ∀ base : Heap, (K w.params).In base → base.Ns mainGlobals mg → FnOk l.prog w (K w.params) mg base CX0 6 fa fd ["_law_script"] (spLaw (K w.params))) :
    PySem.W.WalkO q loose XP YP l.row.toRowW d [] (fun f vs => PySem.call f vs) :=
  L2.walk_of (n := 63) (k := 6) (x := "_law_script") (CX := fun _ => CX0) (sp := fun w => spLaw (K w.params)) hn (by decide) hdf ⟨rfl, by decide, by decide⟩ hY F (fun _ _ a ns hl hO hS => ⟨a, ns, rfl, hO, hS, hl, fun _ => rfl⟩) fun _ _ _ _ _ z => z
end My
open PySem PySem.W PyProof.Rows
set_option maxRecDepth 100000 in
set_option maxHeartbeats 0 in
theorem PySem.Challenge.cw_treewithin_k10_grounds_known_by_hand_holds : PySem.Challenge.rw_treewithin_k10_grounds_known_by_hand.Holds := by
  w_on; o_law; k_head; (case hw => w_witness2)
  k_fill
  refine My.walk (l := PySem.Challenge.rw_treewithin_k10_grounds_known_by_hand) rfl rfl (fun w h Y => PySem.W.kIn_of Y) ?F
  case F =>
    intro w mg fa h KX G hmg
    refine' My.all_mk KX G hmg ?a0 ?l0 ?c0 ?k0 ?a1 ?l1 ?c1 ?k1 ?a2 ?l2 ?c2 ?k2 ?a3 ?l3 ?c3 ?k3 ?a4 ?l4 ?c4 ?k4 ?a5 ?l5 ?c5 ?k5 ?a6 ?l6 ?c6 ?k6 ?a7 ?l7 ?c7 ?k7 ?a8 ?l8 ?c8 ?k8 ?a9 ?l9 ?c9 ?k9 ?a10 ?l10 ?c10 ?k10 ?a11 ?l11 ?c11 ?k11 ?a12 ?l12 ?c12 ?k12 ?a13 ?l13 ?c13 ?k13 ?a14 ?l14 ?c14 ?k14 ?a15 ?l15 ?c15 ?k15 ?a16 ?l16 ?c16 ?k16 ?z_isinstance ?z_str ?z_list ?z_reversed ?z_len ?z_tuple ?z_enumerate ?z_range ?z_abs ?z_int ?z_all ?z_zip ?z_bool ?z_max ?z_min
    (case a0 => k_is)
    (case l0 => k_is)
    (case c0 => k_is)
    (case k0 => k_is)
    (case a1 => k_is)
    (case l1 => k_is)
    (case c1 => k_is)
    (case k1 => k_is)
    (case a2 => k_is)
    (case l2 => k_is)
    (case c2 => k_is)
    (case k2 => k_is)
    (case a3 => k_is)
    (case l3 => k_is)
    (case c3 => k_is)
    (case k3 => k_is)
    (case a4 => k_is)
    (case l4 => k_is)
    (case c4 => k_is)
    (case k4 => k_is)
    (case a5 => k_is)
    (case l5 => k_is)
    (case c5 => k_is)
    (case k5 => k_is)
    (case a6 => k_is)
    (case l6 => k_is)
    (case c6 => k_is)
    (case k6 => k_is)
    (case a7 => k_is)
    (case l7 => k_is)
    (case c7 => k_is)
    (case k7 => k_is)
    (case a8 => k_is)
    (case l8 => k_is)
    (case c8 => k_is)
    (case k8 => k_is)
    (case a9 => k_is)
    (case l9 => k_is)
    (case c9 => k_is)
    (case k9 => k_is)
    (case a10 => k_is)
    (case l10 => k_is)
    (case c10 => k_is)
    (case k10 => k_is)
    (case a11 => k_is)
    (case l11 => k_is)
    (case c11 => k_is)
    (case k11 => k_is)
    (case a12 => k_is)
    (case l12 => k_is)
    (case c12 => k_is)
    (case k12 => k_is)
    (case a13 => k_is)
    (case l13 => k_is)
    (case c13 => k_is)
    (case k13 => k_is)
    (case a14 => k_is)
    (case l14 => k_is)
    (case c14 => k_is)
    (case k14 => k_is)
    (case a15 => k_is)
    (case l15 => k_is)
    (case c15 => k_is)
    (case k15 => k_is)
    (case a16 => k_is)
    (case l16 => k_is)
    (case c16 => k_is)
    (case k16 => k_is)
    (case z_isinstance => k_is)
    (case z_str => k_is)
    (case z_list => k_is)
    (case z_reversed => k_is)
    (case z_len => k_is)
    (case z_tuple => k_is)
    (case z_enumerate => k_is)
    (case z_range => k_is)
    (case z_abs => k_is)
    (case z_int => k_is)
    (case z_all => k_is)
    (case z_zip => k_is)
    (case z_bool => k_is)
    (case z_max => k_is)
    (case z_min => k_is)
#print axioms PySem.Challenge.cw_treewithin_k10_grounds_known_by_hand_holds
