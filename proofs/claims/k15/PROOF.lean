import PyProof.Rows.All
import Wide.All
import OpenK.AllK
import Wide.FinOn
import Lean
import PyProof.EqAt
import PyProof.EqKinds
import PyProof.TupleCall
import PyProof.NeKinds
import PyProof.FactsAll.tuple_2
import PyProof.FactsAll.str_0
import PyProof.FactsAll.str_1
import PyProof.FactsAll.str_2
import PyProof.FactsAll.str_3
import PySem.Challenge.RW_treewithin_k15_dated_combs_known_by_hand
-- CHANGE: your row's module here, as the last of these rows
set_option Elab.async false
set_option linter.all false
set_option maxRecDepth 100000
namespace L2
open PySem PySem.Spec PyProof.Rows
abbrev Key := Sum Int Str
def keyIs : Key → Value → Bool
  | .inl k, v => Value.isInt k v
  | .inr x, v => Value.isStrOf x v
def keyH (w : World) : Key → Int
  | .inl k => hashInt k
  | .inr x => hashStr w x
theorem keyIs_shape : ∀ {k : Key} {v : Value}, keyIs k v = true → (∃ i t, k = Sum.inl i ∧ v = Value.int i t) ∨ (∃ x t, k = Sum.inr x ∧ v = Value.str x t)
  | .inl i, v, h => by
    obtain ⟨t, e⟩ := Value.isInt_shape (k := i) (v := v) h
    exact .inl ⟨i, t, rfl, e⟩
  | .inr x, v, h => by
    obtain ⟨t, e⟩ := Value.isStrOf_shape (x := x) (v := v) h
    exact .inr ⟨x, t, rfl, e⟩
theorem keyIs_int (i : Int) (t : Tok) : keyIs (.inl i) (.int i t) = true := by simp [keyIs, Value.isInt]
theorem keyIs_str (x : Str) (t : Tok) : keyIs (.inr x) (.str x t) = true := by simp [keyIs, Value.isStrOf]
theorem key_ll (a b : Int) : decide ((Sum.inl a : Key) = Sum.inl b) = (a == b) := by
  by_cases e : a = b
  · subst e; simp
  · have h : ¬ (Sum.inl a : Key) = Sum.inl b := fun q => e (Sum.inl.inj q)
    rw [decide_eq_false h]
    exact (beq_eq_false_iff_ne.mpr e).symm
theorem key_rr (a b : Str) : decide ((Sum.inr a : Key) = Sum.inr b) = decide (a = b) := by
  by_cases e : a = b
  · subst e; simp
  · have h : ¬ (Sum.inr a : Key) = Sum.inr b := fun q => e (Sum.inr.inj q)
    rw [decide_eq_false h, decide_eq_false e]
theorem key_lr (a : Int) (b : Str) : decide ((Sum.inl a : Key) = Sum.inr b) = false := decide_eq_false (fun q => nomatch q)
theorem key_rl (a : Str) (b : Int) : decide ((Sum.inr a : Key) = Sum.inl b) = false := decide_eq_false (fun q => nomatch q)
def mixKind (prog : Program) (w : World) : PySem.KeyKind prog w Key where
  is := keyIs
  hash := keyH w
  inj := fun v a b ha hb => by
    rcases keyIs_shape ha with ⟨i, t, rfl, rfl⟩ | ⟨x, t, rfl, rfl⟩
    · rcases keyIs_shape hb with ⟨j, u, rfl, e⟩ | ⟨y, u, rfl, e⟩
      · injection e with e1 _; rw [e1]
      · exact nomatch e
    · rcases keyIs_shape hb with ⟨j, u, rfl, e⟩ | ⟨y, u, rfl, e⟩
      · exact nomatch e
      · injection e with e1 _; rw [e1]
  byValue := fun k v h => by
    rcases keyIs_shape h with ⟨i, t, rfl, rfl⟩ | ⟨x, t, rfl, rfl⟩ <;> rfl
  pyHash := fun hv h => by
    rcases keyIs_shape hv with ⟨i, t, rfl, rfl⟩ | ⟨x, t, rfl, rfl⟩
    · exact wpAny_pyHash_int h
    · exact wpAny_pyHash_str h
  eqBool := fun hu hv h => by
    rcases keyIs_shape hu with ⟨i, t, rfl, rfl⟩ | ⟨x, t, rfl, rfl⟩
    · rcases keyIs_shape hv with ⟨j, u, rfl, rfl⟩ | ⟨y, u, rfl, rfl⟩
      · rw [key_ll] at h; exact wpAny_eqBool_int h
      · rw [key_lr] at h; exact SeqAt.EqAt.int_str i t y u _ _ _ _ h
    · rcases keyIs_shape hv with ⟨j, u, rfl, rfl⟩ | ⟨y, u, rfl, rfl⟩
      · rw [key_rl] at h; exact SeqAt.EqAt.str_int x t j u _ _ _ _ h
      · rw [key_rr] at h; exact wpAny_eqBool_str h
  «strs» := fun k x t v h => by
    rcases keyIs_shape h with ⟨i, u, rfl, e⟩ | ⟨y, u, rfl, e⟩
    · exact nomatch e
    · injection e with e1 _
      subst e1
      cases v <;> rfl
theorem mixKind_int (prog : Program) (w : World) (i : Int) (t : Tok) : (mixKind prog w).is (.inl i) (.int i t) = true := keyIs_int i t
theorem mixKind_str (prog : Program) (w : World) (x : Str) (t : Tok) : (mixKind prog w).is (.inr x) (.str x t) = true := keyIs_str x t
end L2
namespace L2
open PySem PySem.Spec PyProof.Rows
inductive V where
  | non | bl (b : Bool) | int (i : Int) | str (x : Str) | byt (b : Array UInt8) | flt (b : UInt64) | ref (a : Addr) | ty (n : String)
  deriving DecidableEq
def RelV : V → Value → Prop
  | .non, u => u = Value.none
  | .bl b, u => u = Value.bool b
  | .int i, u => ∃ t, u = Value.int i t
  | .str x, u => ∃ t, u = Value.str x t
  | .byt b, u => ∃ t, u = Value.bytes b t
  | .flt b, u => ∃ t, u = Value.float b t
  | .ref a, u => u = Value.ref a
  | .ty n, u => u = Value.type n
abbrev Vals : List V → List Value → Prop := Paired RelV
theorem Vals.length {xs : List V} {us : List Value} (r : Vals xs us) : xs.length = us.length := Paired.length r
theorem Vals.get : ∀ {xs : List V} {us : List Value} {i : Nat} {x : V}, Vals xs us → xs[i]? = some x → ∃ u, us[i]? = some u ∧ RelV x u
  | _, _, _, _, .nil, e => by simp at e
  | _, _, 0, _, .cons r _, e => by simp at e; subst e; exact ⟨_, rfl, r⟩
  | _, _, i + 1, x, .cons _ t, e => by
    obtain ⟨u, h1, h2⟩ := Vals.get (i := i) (x := x) t (by simpa using e)
    exact ⟨u, by simpa using h1, h2⟩
theorem Vals.set {x : V} {u : Value} (r : RelV x u) : ∀ {xs : List V} {us : List Value} (i : Nat), Vals xs us → Vals (xs.set i x) (us.set i u)
  | _, _, _, .nil => .nil
  | _, _, 0, .cons _ t => .cons r t
  | _, _, i + 1, .cons q t => .cons q (Vals.set r i t)
theorem Vals.append : ∀ {xs ys : List V} {us ws : List Value}, Vals xs us → Vals ys ws → Vals (xs ++ ys) (us ++ ws)
  | _, _, _, _, .nil, s => s
  | _, _, _, _, .cons r t, s => .cons r (Vals.append t s)
theorem Vals.take : ∀ {xs : List V} {us : List Value} (n : Nat), Vals xs us → Vals (xs.take n) (us.take n)
  | _, _, 0, _ => .nil
  | _, _, _ + 1, .nil => .nil
  | _, _, n + 1, .cons r t => .cons r (Vals.take n t)
theorem Vals.drop : ∀ {xs : List V} {us : List Value} (n : Nat), Vals xs us → Vals (xs.drop n) (us.drop n)
  | _, _, 0, r => r
  | _, _, _ + 1, .nil => .nil
  | _, _, n + 1, .cons _ t => Vals.drop n t
def RelO : Option V → Option Value → Prop
  | some v, some u => RelV v u
  | none, none => True
  | _, _ => False
def KV {κ : Type} : List (κ × V) → List (κ × Value) → Prop := Paired fun (p : κ × V) (q : κ × Value) => p.1 = q.1 ∧ RelV p.2 q.2
def kV : Key → V
  | .inl i => .int i
  | .inr x => .str x
inductive HO where
  /-- a list -/
  | lst (xs : List V)
  /-- a tuple (never changes) -/
  | tup (xs : List V)
  /-- a dict whose keys are ints and texts; one whose keys are tuples of ints and texts (the empty one is both) -/
  | dK (kvs : List (Key × V)) | dT (kvs : List (List Key × V))
  /-- a set of ints: its members, its size -/
  | set (S : Int → Bool) (n : Nat)
  /-- an instance of the class at C, its dict at dx, its attributes -/
  | ins (C dx : Addr) (fs : List (Str × V))
  /-- the dict of the instance at x -/
  | own (x : Addr)
  /-- the dict of an exception -/
  | xd (fs : List (Str × V))
  /-- a bound method, f of x -/
  | met (f x : Addr)
  /-- a range object lo, lo + 1, .. below hi -/
  | rng (lo hi : Int)
  /-- a thing that is known to the object (the script; a dict while a loop walks it): read, never written while it is so -/
  | frz (o : Obj) (u : HO)
  /-- a code object's table -/
  | tbl (ps : Array Value)
  /-- any other thing, by what is true of its one object (a def of one's own: SetO a S n := HO.ext fun h => ..) -/
  | ext (φ : Heap → Prop)
abbrev Hp := Addr → Option HO
def upd (H : Hp) (a : Addr) (o : HO) : Hp := fun b => if b = a then some o else H b
theorem upd_same {H : Hp} {a : Addr} {o : HO} : upd H a o a = some o := by unfold upd; rw [if_pos rfl]
theorem upd_ne {H : Hp} {a b : Addr} {o : HO} (h : b ≠ a) : upd H a o b = H b := by unfold upd; rw [if_neg h]
theorem ne_of {H : Hp} {a b : Addr} {o u : HO} (h : H a = some o) (h' : H b = some u) (d : o ≠ u) : a ≠ b := by
  intro e; subst e; rw [h] at h'; exact d (Option.some.inj h')
theorem ne_of_none {H : Hp} {a b : Addr} {o : HO} (h : H a = some o) (h' : H b = none) : a ≠ b := by
  intro e; subst e; rw [h] at h'; cases h'
section
variable (P : Program) (w : World)
def ObjOk (H : Hp) (h : Heap) (a : Addr) : HO → Prop
  | .lst xs => xs.length ≤ sizeLine ∧ ∃ (its : List Value) (n : Nat), Vals xs its ∧ h.get? a = some { cls := .type "list", data := .seq its.toArray n }
  | .tup xs => xs.length ≤ sizeLine ∧ ∃ its : List Value, Vals xs its ∧ IsTup h a its.toArray
  | .dK kvs => kvs.length ≤ sizeLine ∧ (a == sysModules) = false ∧ ∃ vs, KV kvs vs ∧ h.DictOf (mixKind P w) a vs
  | .dT kvs => kvs.length ≤ sizeLine ∧ (a == sysModules) = false ∧ ∃ xs : List (List Key × Addr × Value),
      Paired (fun (p : List Key × V) (q : List Key × Addr × Value) => p.1 = q.1 ∧ H q.2.1 = some (.tup (p.1.map kV)) ∧ RelV p.2 q.2.2) kvs xs ∧
      ∃ o es ep, h.get? a = some o ∧ o.ExactDict ∧ o.data = .dict es ep ∧ es.toList = xs.map (entryOfKey (tupleKind (mixKind P w))) ∧ (xs.map (·.1)).Nodup
  | .set S n => h.SetOf (intKind P w) a S n
  | .ins C dx fs => H dx = some (.own a) ∧ fs.length ≤ 1000 ∧ dx ≠ a ∧ h.get? a = some (PySem.W.instObj C dx) ∧
      ∃ mA, h.Ns1 dx mA ∧ (∀ f, RelO (fs.lookup f) (mA f)) ∧ PySem.Within mA (fs.map (·.1))
  | .own _ => ∃ o, h.get? a = some o
  | .xd fs => ∃ mA, h.Ns1 a mA ∧ ∀ f, RelO (fs.lookup f) (mA f)
  | .rng lo hi => ∃ t u v, h.get? a = some { cls := .type "range", data := .fields #[.int lo t, .int hi u, .int 1 v] }
  | .frz o u => h.get? a = some o ∧ ObjOk H h a u
  | .tbl ps => h.get? a = some { cls := .none, data := .fields ps }
  | .met f x => h.get? a = some (PySem.W.methodObj (.ref f) (.ref x))
  | .ext φ => φ h ∧ (∃ o, h.get? a = some o) ∧ ∀ h1 h2 : Heap, φ h1 → (∀ o, h1.get? a = some o → h2.get? a = some o) → φ h2
def HOk (H : Hp) (h : Heap) : Prop := ∀ a o, H a = some o → ObjOk P w H h a o
end
section
variable {P : Program} {w : World} {H H' : Hp} {h h' : Heap} {a : Addr} {o : HO}
theorem ObjOk.lt (x : ObjOk P w H h a o) : a < h.objs.size := by
  cases o with
  | lst xs => obtain ⟨_, _, _, _, e⟩ := x; exact Heap.lt_size e
  | tup xs => obtain ⟨_, _, _, p⟩ := x; exact p.lt
  | dK kvs => obtain ⟨_, _, _, _, o, _, _, e, _⟩ := x; exact Heap.lt_size e
  | dT kvs => obtain ⟨_, _, _, _, o, _, _, e, _⟩ := x; exact Heap.lt_size e
  | set S n => obtain ⟨o, _, _, _, e, _⟩ := x; exact Heap.lt_size e
  | ins C dx fs => obtain ⟨_, _, _, e, _⟩ := x; exact Heap.lt_size e
  | own y => obtain ⟨_, e⟩ := x; exact Heap.lt_size e
  | xd fs => obtain ⟨_, ⟨_, _, _, e, _⟩, _⟩ := x; exact Heap.lt_size e
  | rng lo hi => obtain ⟨_, _, _, e⟩ := x; exact Heap.lt_size e
  | frz ob u => obtain ⟨e, _⟩ := x; exact Heap.lt_size e
  | tbl ps => exact Heap.lt_size (show h.get? a = some _ from x)
  | met f y => exact Heap.lt_size (show h.get? a = some _ from x)
  | ext φ => obtain ⟨_, ⟨_, e⟩, _⟩ := x; exact Heap.lt_size e
theorem Paired.mapP {α β : Type} {F G : α → β → Prop} : ∀ {l₁ : List α} {l₂ : List β}, Paired F l₁ l₂ → (∀ a b, F a b → G a b) → Paired G l₁ l₂
  | _, _, .nil, _ => .nil
  | _, _, .cons r t, f => .cons (f _ _ r) (Paired.mapP t f)
theorem ObjOk.stay (x : ObjOk P w H h a o) (k : ∀ b u, (b = a ∨ H b = some (.own a)) → h.get? b = some u → h'.get? b = some u)
    (ho : ∀ b, H b = some (.own a) → H' b = some (.own a)) (ht : ∀ b xs, H b = some (.tup xs) → H' b = some (.tup xs)) : ObjOk P w H' h' a o := by
  induction o with
  | lst xs => obtain ⟨z, its, n, r, e⟩ := x; exact ⟨z, its, n, r, k _ _ (.inl rfl) e⟩
  | tup xs => obtain ⟨z, its, r, ob, e, c⟩ := x; exact ⟨z, its, r, ob, k _ _ (.inl rfl) e, c⟩
  | dK kvs => obtain ⟨z, y, vs, r, ob, es, ep, e, c⟩ := x; exact ⟨z, y, vs, r, ob, es, ep, k _ _ (.inl rfl) e, c⟩
  | dT kvs =>
    obtain ⟨z, y, xs, r, ob, es, ep, e, c⟩ := x
    exact ⟨z, y, xs, Paired.mapP r fun p q z => ⟨z.1, ht _ _ z.2.1, z.2.2⟩, ob, es, ep, k _ _ (.inl rfl) e, c⟩
  | set S n => obtain ⟨ob, es, ep, t, e, c⟩ := x; exact ⟨ob, es, ep, t, k _ _ (.inl rfl) e, c⟩
  | ins C dx fs =>
    obtain ⟨d, z, ne, e, mA, ⟨od, es, ep, e2, c⟩, r⟩ := x
    exact ⟨ho _ d, z, ne, k _ _ (.inl rfl) e, mA, ⟨od, es, ep, k _ _ (.inr d) e2, c⟩, r⟩
  | own y => obtain ⟨ob, e⟩ := x; exact ⟨ob, k _ _ (.inl rfl) e⟩
  | xd fs => obtain ⟨mA, ⟨od, es, ep, e, c⟩, r⟩ := x; exact ⟨mA, ⟨od, es, ep, k _ _ (.inl rfl) e, c⟩, r⟩
  | rng lo hi => obtain ⟨t, u, v, e⟩ := x; exact ⟨t, u, v, k _ _ (.inl rfl) e⟩
  | frz ob u ih => obtain ⟨e, q⟩ := x; exact ⟨k _ _ (.inl rfl) e, ih q⟩
  | tbl ps =>
    have e : h.get? a = some { cls := .none, data := .fields ps } := x
    show h'.get? a = some { cls := .none, data := .fields ps }
    exact k a _ (.inl rfl) e
  | met f y =>
    have e : h.get? a = some (PySem.W.methodObj (.ref f) (.ref y)) := x
    show h'.get? a = some (PySem.W.methodObj (.ref f) (.ref y))
    exact k a _ (.inl rfl) e
  | ext φ => obtain ⟨p, ⟨o, e⟩, st⟩ := x; exact ⟨st _ _ p fun o q => k _ _ (.inl rfl) q, ⟨o, k _ _ (.inl rfl) e⟩, st⟩
theorem HOk.lt (x : HOk P w H h) (e : H a = some o) : a < h.objs.size := (x a o e).lt
theorem HOk.fresh (x : HOk P w H h) (e : h.objs.size ≤ a) : H a = none := by
  cases q : H a with
  | none => rfl
  | some u => exact absurd (Nat.lt_of_lt_of_le (x.lt q) e) (Nat.lt_irrefl _)
theorem HOk.kept (x : HOk P w H h) (k : ∀ b u, h.get? b = some u → h'.get? b = some u) : HOk P w H h' := fun a o e =>
  (x a o e).stay (fun b u _ q => k b u q) (fun _ q => q) fun _ _ q => q
theorem HOk.laid (x : HOk P w H h) (k : ∀ b u, h.get? b = some u → h'.get? b = some u) (hp : h.objs.size ≤ a) (new : ObjOk P w (upd H a o) h' a o) : HOk P w (upd H a o) h' := fun b u e => by
  have hn := x.fresh hp
  by_cases hb : b = a
  · subst hb; rw [upd_same] at e; cases e; exact new
  · rw [upd_ne hb] at e
    exact (x b u e).stay (fun c v _ q => k c v q) (fun c q => by rw [upd_ne (ne_of_none q hn)]; exact q) fun c xs q => by rw [upd_ne (ne_of_none q hn)]; exact q
end
def Rd (H : Hp) (a : Addr) (u : HO) : Prop := H a = some u ∨ ∃ o, H a = some (.frz o u)
theorem Rd.ok {P : Program} {w : World} {H : Hp} {h : Heap} {a : Addr} {u : HO} (r : Rd H a u) (x : HOk P w H h) : ObjOk P w H h a u := by
  rcases r with r | ⟨o, r⟩
  · exact x a u r
  · obtain ⟨_, q⟩ := x a _ r
    exact q
def Mut : Option HO → Prop
  | some (.lst _) => True
  | some (.dK _) => True
  | some (.dT _) => True
  | some (.set _ _) => True
  | some (.ins _ _ _) => True
  | some (.ext _) => True
  | _ => False
section
variable {P : Program} {w : World} {H : Hp} {h h' : Heap} {x e : Addr} {o' : HO}
theorem HOk.write (ok : HOk P w H h) (mu : Mut (H x)) (he : e = x ∨ H e = some (.own x)) (k : ∀ b u, b ≠ e → h.get? b = some u → h'.get? b = some u) (heo : ∃ u, h'.get? e = some u)
    (new : ObjOk P w (upd H x o') h' x o') : HOk P w (upd H x o') h' := fun b u q => by
  have nown : ∀ c y, H c = some (.own y) → c ≠ x := fun c y r z => by subst z; rw [r] at mu; exact mu
  have ntup : ∀ c xs, H c = some (.tup xs) → c ≠ x := fun c xs r z => by subst z; rw [r] at mu; exact mu
  by_cases hb : b = x
  · subst hb; rw [upd_same] at q; cases q; exact new
  · rw [upd_ne hb] at q
    by_cases hbe : b = e
    · have q' : H b = some (.own x) := by
        rcases he with z | z
        · exact absurd (hbe.trans z) hb
        · rw [hbe]; exact z
      rw [q] at q'; cases q'
      obtain ⟨v, hv⟩ := heo
      exact ⟨v, by rw [hbe]; exact hv⟩
    · refine (ok b u q).stay (fun c v hc r => k c v ?_ r) (fun c r => by rw [upd_ne (nown c b r)]; exact r) fun c xs r => by rw [upd_ne (ntup c xs r)]; exact r
      rcases hc with rfl | hc
      · exact hbe
      · rintro rfl
        rcases he with z | z
        · exact nown c b hc z
        · rw [hc] at z; cases z; exact hb rfl
end
structure Un (fs ex : List Addr) (H H' : Hp) (h h' : Heap) : Prop where
  keep : ∀ b o, h.get? b = some o → H b = none → b ∉ fs → b ∉ ex → h'.get? b = some o
  slot : ∀ b o, h.get? b = some o → H b = none → b ∈ fs → b ∉ ex → ∃ sl, h'.get? b = some { o with slots := sl }
  free : ∀ b o, h.get? b = some o → H b = none → b ∉ ex → H' b = none
  there : ∀ b o, h.get? b = some o → b ∉ ex → ∃ o', h'.get? b = some o'
  tups : ∀ b xs, H b = some (.tup xs) → H' b = some (.tup xs)
  frzs : ∀ b o u, H b = some (.frz o u) → H' b = some (.frz o u)
  tbls : ∀ b ps, H b = some (.tbl ps) → ∃ more, H' b = some (.tbl (ps ++ more))
section
variable {fs fs' ex ex' : List Addr} {H H1 H2 : Hp} {h h1 h2 h' : Heap} {a x e : Addr} {o : HO}
theorem Un.any (u : Un fs ex H H1 h h1) {b : Addr} {ob : Obj} (q : h.get? b = some ob) (n : H b = none) (hx : b ∉ ex) : ∃ sl, h1.get? b = some { ob with slots := sl } := by
  by_cases hb : b ∈ fs
  · exact u.slot b ob q n hb hx
  · exact ⟨ob.slots, u.keep b ob q n hb hx⟩
theorem Un.kept (k : ∀ b u, h.get? b = some u → h'.get? b = some u) : Un fs ex H H h h' :=
  ⟨fun b ob q _ _ _ => k b ob q, fun b ob q _ _ _ => ⟨ob.slots, k b ob q⟩, fun _ _ _ n _ => n, fun b ob q _ => ⟨ob, k b ob q⟩, fun _ _ q => q, fun _ _ _ q => q, fun _ ps q => ⟨#[], by rw [q]; simp⟩⟩
theorem Un.refl : Un fs ex H H h h := Un.kept fun _ _ q => q
theorem Un.laid (k : ∀ b u, h.get? b = some u → h'.get? b = some u) (hp : h.objs.size ≤ a) (hn : H a = none) : Un fs ex H (upd H a o) h h' where
  keep := fun b u q _ _ _ => k b u q
  slot := fun b u q _ _ _ => ⟨u.slots, k b u q⟩
  free := fun b u q n _ => by rw [upd_ne (Nat.ne_of_lt (Nat.lt_of_lt_of_le (Heap.lt_size q) hp))]; exact n
  there := fun b u q _ => ⟨u, k b u q⟩
  tups := fun b xs q => by rw [upd_ne (ne_of_none q hn)]; exact q
  frzs := fun b u xs q => by rw [upd_ne (ne_of_none q hn)]; exact q
  tbls := fun b ps q => ⟨#[], by rw [upd_ne (ne_of_none q hn), q]; simp⟩
theorem Un.write (mu : Mut (H x)) (he : e = x ∨ H e = some (.own x)) (k : ∀ b u, b ≠ e → h.get? b = some u → h'.get? b = some u) (heo : ∃ u, h'.get? e = some u) : Un fs ex H (upd H x o) h h' := by
  have hx : ∀ b, H b = none → b ≠ x := fun b n z => by subst z; rw [n] at mu; exact mu
  have hb : ∀ b, H b = none → b ≠ e := fun b n z => by
    subst z
    rcases he with r | r
    · exact hx b n r
    · rw [n] at r; cases r
  have hm : ∀ b u, H b = some u → ¬ Mut (some u) → b ≠ x := fun b u q nm z => by subst z; rw [q] at mu; exact nm mu
  refine ⟨fun b u q n _ _ => k b u (hb b n) q, fun b u q n _ _ => ⟨u.slots, k b u (hb b n) q⟩, fun b u q n _ => by rw [upd_ne (hx b n)]; exact n, fun b u q _ => ?_,
    fun b xs q => by rw [upd_ne (hm b _ q fun z => z)]; exact q, fun b u xs q => by rw [upd_ne (hm b _ q fun z => z)]; exact q, fun b ps q => ⟨#[], by rw [upd_ne (hm b _ q fun z => z), q]; simp⟩⟩
  by_cases hbe : b = e
  · subst hbe; exact heo
  · exact ⟨u, k b u hbe q⟩
end
def trk (h : Heap) (H : Hp) : List Addr := (List.range h.objs.size).filter fun a => (H a).isSome
def hidT (h : Heap) (H : Hp) : Heap := PySem.W.hideAll h (trk h H)
theorem hidT_size (h : Heap) (H : Hp) : (hidT h H).objs.size = h.objs.size := PySem.W.hideAll_size _ _
theorem hidT_get {h : Heap} {H : Hp} {b : Addr} {o : Obj} (e : h.get? b = some o) (n : H b = none) : (hidT h H).get? b = some o :=
  PySem.W.hideAll_get _ e fun hm => by
    have q : (H b).isSome = true := (List.mem_filter.mp hm).2
    rw [n] at q; simp at q
theorem of_hidT {h : Heap} {H : Hp} {b : Addr} {o : Obj} (e : (hidT h H).get? b = some o) : h.get? b = some o ∧ H b = none := by
  have e' : h.get? b = some o := PySem.W.of_hideAll (trk h H) e
  refine ⟨e', ?_⟩
  cases q : H b with
  | none => rfl
  | some x =>
    have hm : b ∈ trk h H := List.mem_filter.mpr ⟨List.mem_range.mpr (Heap.lt_size e'), by simp [q]⟩
    have z : (hidT h H).get? b = none := PySem.W.hideAll_none (trk h H) hm
    rw [z] at e; cases e
def allNews (g h : Heap) (L : Addr) : List (Addr × Obj) := (List.range h.objs.size).filterMap fun a => if a = L ∨ (g.get? a).isSome = true then none else (h.get? a).map fun o => (a, o)
def rest (g h : Heap) (L d : Addr) : List (Addr × Obj) := (allNews g h L).filter fun p => decide (p.1 ≠ d)
end L2
namespace L2
open PySem PySem.Spec PyProof.Rows
structure Mod (K : PySem.W.Frag) (mg : Str → Option Value) (base : Heap) : Prop where
  kin : K.In base
  glob : base.Ns mainGlobals mg
  blt : ∃ mb, base.Ns builtinsNs mb ∧ ∀ x : Str, x ≠ "__name__" → mb x = bootBuiltins x
  nolimit : base.NoLimit
structure Cx where
  prog : Program
  w : World
  K : PySem.W.Frag
  mg : Str → Option Value
  base : Heap
  A : Around
  N : List Str
  s₀ : Shared
  H₀ : Hp
  env : Env
  outer : List Env
  stack : List Env
  ex : List Addr
  fn : Str → Bool
  calm : Bool
  pn : List (Addr × Obj)
  xe : Value → Shared → Prop
def frs (l : List Env) : List Addr := l.filterMap (·.frame)
abbrev Cx.fs (X : Cx) : List Addr := frs X.outer
def Vis (sc : Scope) (x : Str) : Prop := sc.names.lookup x = some .local ∨ sc.names.lookup x = some .cell ∨ sc.names.lookup x = some .free
def Loc (sc : Scope) (x : Str) : Prop := sc.names.lookup x = some .local ∨ sc.names.lookup x = some .cell
def Look (env : Env) (h : Heap) (m : Str → Option Value) (x : Str) (u : Value) : Prop :=
  (env.kindOf x = some .local ∧ m x = some u) ∨ ((env.kindOf x = some .cell ∨ env.kindOf x = some .free) ∧ ∃ c, env.cells.lookup x = some c ∧ h.IsCell c (some u))
structure Cx.Ok (X : Cx) : Prop where
  mod : Mod X.K X.mg X.base
  kind : X.env.scope.kind = .function
  glob : X.env.globals = mainGlobals
  blt : X.env.builtins = builtinsNs
  above : X.s₀.heap.objs.size ≤ X.env.locals
  inj : ∀ x y c, X.env.cells.lookup x = some c → X.env.cells.lookup y = some c → x = y
  has : ∀ x, (X.env.kindOf x = some .cell ∨ X.env.kindOf x = some .free) → ∃ c, X.env.cells.lookup x = some c
  cab : ∀ x c, X.fn x = true → X.env.cells.lookup x = some c → X.s₀.heap.objs.size ≤ c
  hd : X.calm = true → X.A.handled = none
  frames : X.A.frames = some X.stack
  stk : X.stack = X.outer ∨ (X.stack = X.env :: X.outer ∧ X.env.frame = some X.env.locals)
  exf : ∀ b ∈ X.ex, b ≠ X.env.locals ∧ ∀ x c, X.env.cells.lookup x = some c → c ≠ b
  bs : ∀ b o, X.base.get? b = some o → X.s₀.heap.get? b = some o ∧ X.H₀ b = none
  bsz : X.base.objs.size ≤ X.s₀.heap.objs.size
  noex : ∀ b o, X.base.get? b = some o → b ∉ X.ex
  exfs : ∀ b ∈ X.ex, b ∉ X.fs
  funs : X.s₀.heap.FunFrames X.base X.outer
  frf : ∀ b ∈ X.fs, X.H₀ b = none
structure Inv (X : Cx) (pins : List (Addr × Obj)) (σ : List (Option V)) (H : Hp) (s : Shared) : Prop where
  ok : X.Ok
  os : s.os = X.s₀.os
  bare : AllBare s.gens
  base : Un X.fs X.ex X.H₀ H X.s₀.heap s.heap
  loc : ∃ m, s.heap.Ns X.env.locals m ∧ ∀ (i : Nat) (x : Str) (v : V), X.N[i]? = some x → σ[i]? = some (some v) → Vis X.env.scope x → ∃ u, RelV v u ∧ Look X.env s.heap m x u
  cell : ∀ x c, X.env.cells.lookup x = some c → ∃ v, s.heap.IsCell c v
  free : H X.env.locals = none
  freeC : ∀ x c, X.env.cells.lookup x = some c → H c = none
  pin : ∀ p ∈ X.pn ++ pins, s.heap.get? p.1 = some p.2 ∧ H p.1 = none ∧ p.1 ≠ X.env.locals ∧ p.1 ∉ X.fs ∧ ∀ v, p.2.data ≠ .cell v
  hok : HOk X.prog X.w H s.heap
  len : σ.length = X.N.length
section
variable {X : Cx} {pins : List (Addr × Obj)} {σ : List (Option V)} {H H' : Hp} {s : Shared} {h' : Heap}
theorem Cx.Ok.nofr (ok : X.Ok) {b : Addr} {o : Obj} (e : X.base.get? b = some o) : b ∉ X.fs := fun hb => by
  have := (ok.funs.mem hb).1
  rw [e] at this; cases this
theorem Inv.bs (I : Inv X pins σ H s) : ∀ b o, X.base.get? b = some o → s.heap.get? b = some o ∧ H b = none := fun b o e =>
  ⟨I.base.keep b o (I.ok.bs b o e).1 (I.ok.bs b o e).2 (I.ok.nofr e) (I.ok.noex b o e), I.base.free b o (I.ok.bs b o e).1 (I.ok.bs b o e).2 (I.ok.noex b o e)⟩
theorem Inv.bk (I : Inv X pins σ H s) : ∀ b o, X.base.get? b = some o → s.heap.get? b = some o := fun b o e => (I.bs b o e).1
theorem Inv.mod (I : Inv X pins σ H s) : Mod X.K X.mg X.base := I.ok.mod
theorem Inv.kIn (I : Inv X pins σ H s) : X.K.In s.heap := I.ok.mod.kin.keeps I.bk
theorem Inv.lt (I : Inv X pins σ H s) : X.env.locals < s.heap.objs.size := let ⟨_, hn, _⟩ := I.loc; hn.lt
theorem Inv.sz (I : Inv X pins σ H s) : X.s₀.heap.objs.size ≤ s.heap.objs.size := Nat.le_trans I.ok.above (Nat.le_of_lt I.lt)
theorem Inv.nofs (I : Inv X pins σ H s) {a : Addr} (h : s.heap.objs.size ≤ a) : a ∉ X.fs := fun hb => by
  obtain ⟨_, o, ho, _⟩ := I.ok.funs.mem hb
  exact absurd (Nat.lt_of_lt_of_le (Heap.lt_size ho) (Nat.le_trans I.sz h)) (Nat.lt_irrefl _)
theorem Inv.cne (I : Inv X pins σ H s) : ∀ x c, X.env.cells.lookup x = some c → c ≠ X.env.locals := fun x c e z => by
  obtain ⟨v, o, ho, hd⟩ := I.cell x c e
  obtain ⟨m, ⟨o', es, ep, ho', hd', _⟩, _⟩ := I.loc
  rw [z, ho'] at ho; cases ho; rw [hd'] at hd; cases hd
theorem Inv.funs (I : Inv X pins σ H s) : s.heap.FunFrames X.base X.outer := by
  have all : ∀ (l : List Env), (∀ b ∈ frs l, b ∈ X.fs) → X.s₀.heap.FunFrames X.base l → s.heap.FunFrames X.base l := by
    intro l
    induction l with
    | nil => intro _ _; trivial
    | cons env r ih =>
      intro hs hl
      obtain ⟨hk, ⟨L, o, hf, hn, ho, hd⟩, hr⟩ := hl
      have hL : L ∈ X.fs := hs L (by unfold frs; rw [List.filterMap_cons, hf]; exact List.mem_cons_self)
      obtain ⟨sl, e⟩ := I.base.slot L o ho (I.ok.frf L hL) hL fun z => I.ok.exfs L z hL
      exact ⟨hk, ⟨L, _, hf, hn, e, hd⟩, ih (fun b hb => hs b (by unfold frs; rw [List.filterMap_cons, hf]; exact List.mem_cons_of_mem _ hb)) hr⟩
  exact all X.outer (fun _ hb => hb) I.ok.funs
theorem Inv.stack (I : Inv X pins σ H s) : s.heap.FunFrames X.base X.stack := by
  rcases I.ok.stk with e | ⟨e, hf⟩
  · rw [e]; exact I.funs
  · rw [e]
    obtain ⟨m, hn, _⟩ := I.loc
    refine .cons (by rw [I.ok.kind]; decide) hf hn ?_ I.funs
    exact Heap.get?_none_of_le (Nat.le_trans I.ok.bsz I.ok.above)
theorem Inv.stkSub (I : Inv X pins σ H s) : ∀ b ∈ frs X.stack, b ∈ X.env.locals :: X.fs := fun b hb => by
  rcases I.ok.stk with e | ⟨e, hf⟩
  · rw [e] at hb; exact List.mem_cons_of_mem _ hb
  · rw [e] at hb
    unfold frs at hb
    rw [List.filterMap_cons, hf] at hb
    exact hb
theorem Inv.stkFree (I : Inv X pins σ H s) : ∀ b ∈ frs X.stack, H b = none := fun b hb => by
  rcases List.mem_cons.mp (I.stkSub b hb) with e | hb
  · rw [e]; exact I.free
  · obtain ⟨_, o, ho, _⟩ := I.ok.funs.mem hb
    exact I.base.free b o ho (I.ok.frf b hb) fun z => I.ok.exfs b z hb
theorem Inv.step {g' : Array GenState} {t' : Nat} {d' : Drawn} {ch : List Addr} (I : Inv X pins σ H s)
    (hch : ∀ b ∈ ch, (b ∈ X.ex ∨ X.s₀.heap.objs.size ≤ b) ∧ b ≠ X.env.locals ∧ (∀ x c, X.env.cells.lookup x = some c → c ≠ b) ∧ ∀ p ∈ X.pn ++ pins, p.1 ≠ b)
    (keep : ∀ b o, b ≠ X.env.locals → b ∉ X.fs → b ∉ ch → s.heap.get? b = some o → H b = none → h'.get? b = some o)
    (slot : ∀ b o, b ≠ X.env.locals → b ∈ X.fs → b ∉ ch → s.heap.get? b = some o → H b = none → ∃ sl, h'.get? b = some { o with slots := sl }) (free : ∀ b o, b ∉ ch → s.heap.get? b = some o → H b = none → H' b = none)
    (there : ∀ b o, b ∉ ch → s.heap.get? b = some o → ∃ o', h'.get? b = some o')
    (tups : ∀ b xs, H b = some (.tup xs) → H' b = some (.tup xs)) (frzs : ∀ b o u, H b = some (.frz o u) → H' b = some (.frz o u)) (tbls : ∀ b ps, H b = some (.tbl ps) → ∃ more, H' b = some (.tbl (ps ++ more)))
    (ns : ∀ m, s.heap.Ns X.env.locals m → h'.Ns X.env.locals m) (hok : HOk X.prog X.w H' h') (hg : AllBare g') :
    Inv X pins σ H' { s with heap := h', gens := g', drawn := d', toks := t' } := by
  have neL : ∀ b o, X.s₀.heap.get? b = some o → b ≠ X.env.locals := fun b o e => Nat.ne_of_lt (Nat.lt_of_lt_of_le (Heap.lt_size e) I.ok.above)
  have neC : ∀ b o, X.s₀.heap.get? b = some o → b ∉ X.ex → b ∉ ch := fun b o e hx hb => by
    rcases (hch b hb).1 with z | z
    · exact hx z
    · exact absurd (Nat.lt_of_lt_of_le (Heap.lt_size e) z) (Nat.lt_irrefl _)
  have cellK : ∀ x c, X.env.cells.lookup x = some c → ∀ v, s.heap.IsCell c v → h'.IsCell c v := fun x c e v ⟨o, ho, hd⟩ => by
    have nch : c ∉ ch := fun z => (hch c z).2.2.1 x c e rfl
    by_cases hc : c ∈ X.fs
    · obtain ⟨sl, q⟩ := slot c o (I.cne x c e) hc nch ho (I.freeC x c e)
      exact ⟨_, q, hd⟩
    · exact ⟨o, keep c o (I.cne x c e) hc nch ho (I.freeC x c e), hd⟩
  refine ⟨I.ok, I.os, hg, ⟨fun b o e n hb hx => ?_, fun b o e n hb hx => ?_, fun b o e n hx => ?_, fun b o e hx => ?_, fun b xs e => tups b xs (I.base.tups b xs e), fun b o xs e => frzs b o xs (I.base.frzs b o xs e), fun b ps e => ?_⟩, ?_, fun x c e => ?_, ?_, fun x c e => ?_, fun p hp => ?_, hok, I.len⟩
  · exact keep b o (neL b o e) hb (neC b o e hx) (I.base.keep b o e n hb hx) (I.base.free b o e n hx)
  · obtain ⟨sl, e1⟩ := I.base.slot b o e n hb hx
    obtain ⟨sl', e2⟩ := slot b _ (neL b o e) hb (neC b o e hx) e1 (I.base.free b o e n hx)
    exact ⟨sl', e2⟩
  · obtain ⟨o', e1⟩ := I.base.there b o e hx
    exact free b o' (neC b o e hx) e1 (I.base.free b o e n hx)
  · obtain ⟨o', e1⟩ := I.base.there b o e hx
    exact there b o' (neC b o e hx) e1
  · obtain ⟨m1, e1⟩ := I.base.tbls b ps e
    obtain ⟨m2, e2⟩ := tbls b _ e1
    exact ⟨m1 ++ m2, by rw [e2, Array.append_assoc]⟩
  · obtain ⟨m, hn, hl⟩ := I.loc
    refine ⟨m, ns m hn, fun i x v e1 e2 e3 => ?_⟩
    obtain ⟨u, r, l⟩ := hl i x v e1 e2 e3
    refine ⟨u, r, ?_⟩
    rcases l with l | ⟨k, c, e, z⟩
    · exact .inl l
    · exact .inr ⟨k, c, e, cellK x c e _ z⟩
  · obtain ⟨v, z⟩ := I.cell x c e
    exact ⟨v, cellK x c e v z⟩
  · obtain ⟨m, ⟨o, _, _, ho, _⟩, _⟩ := I.loc
    exact free _ o (fun z => (hch _ z).2.1 rfl) ho I.free
  · obtain ⟨v, o, ho, hd⟩ := I.cell x c e
    exact free c o (fun z => (hch c z).2.2.1 x c e rfl) ho (I.freeC x c e)
  · obtain ⟨e, n, ne, nf, d⟩ := I.pin p hp
    have nch : p.1 ∉ ch := fun z => (hch p.1 z).2.2.2 p hp rfl
    exact ⟨keep p.1 p.2 ne nf nch e n, free p.1 p.2 nch e n, ne, nf, d⟩
theorem Inv.un {t' : Nat} (I : Inv X pins σ H s) (u : Un X.fs [] H H' s.heap h') (hok : HOk X.prog X.w H' h') : Inv X pins σ H' { s with heap := h', toks := t' } := by
  obtain ⟨m, ⟨o, es, ep, ho, r⟩, _⟩ := id I.loc
  obtain ⟨sl, hL⟩ := u.any ho I.free (by simp)
  exact I.step (g' := s.gens) (d' := s.drawn) (ch := []) (fun _ z => nomatch z) (fun b o _ hb _ e n => u.keep b o e n hb (by simp)) (fun b o _ hb _ e n => u.slot b o e n hb (by simp)) (fun b o _ e n => u.free b o e n (by simp)) (fun b o _ e => u.there b o e (by simp)) u.tups u.frzs u.tbls (fun m' hm => by
    obtain ⟨o', es', ep', ho', r'⟩ := hm
    rw [ho] at ho'; cases ho'
    exact ⟨_, es', ep', hL, r'⟩) hok I.bare
theorem Inv.call {g' : Array GenState} {t' : Nat} {d' : Drawn} {ch : List Addr} (I : Inv X pins σ H s) (u : Un (frs X.stack) ch H H' s.heap h') (hok : HOk X.prog X.w H' h') (hg : AllBare g')
    (hch : ∀ b ∈ ch, (b ∈ X.ex ∨ X.s₀.heap.objs.size ≤ b) ∧ b ≠ X.env.locals ∧ (∀ x c, X.env.cells.lookup x = some c → c ≠ b) ∧ ∀ p ∈ X.pn ++ pins, p.1 ≠ b) :
    Inv X pins σ H' { s with heap := h', gens := g', drawn := d', toks := t' } := by
  obtain ⟨m, ⟨o, es, ep, ho, r⟩, _⟩ := id I.loc
  obtain ⟨sl, hL⟩ := u.any ho I.free fun z => (hch _ z).2.1 rfl
  exact I.step (ch := ch) hch (fun b o hL hb hc e n => u.keep b o e n (fun z => (List.mem_cons.mp (I.stkSub b z)).elim hL hb) hc) (fun b o _ _ hc e n => u.any e n hc) (fun b o hc e n => u.free b o e n hc) (fun b o hc e => u.there b o e hc) u.tups u.frzs u.tbls (fun m' hm => by
    obtain ⟨o', es', ep', ho', r'⟩ := hm
    rw [ho] at ho'; cases ho'
    exact ⟨_, es', ep', hL, r'⟩) hok hg
theorem Inv.turned {t' : Nat} {it : Addr} (I : Inv X pins σ H s) (k : ∀ b o, b ≠ it → s.heap.get? b = some o → h'.get? b = some o) (hn : H it = none) (hL : it ≠ X.env.locals)
    (h1 : it ∈ X.ex ∨ X.s₀.heap.objs.size ≤ it) (h2 : ∀ x c, X.env.cells.lookup x = some c → c ≠ it) (h3 : ∀ p ∈ X.pn ++ pins, p.1 ≠ it) : Inv X pins σ H { s with heap := h', toks := t' } := by
  have nit : ∀ b u, H b = some u → b ≠ it := fun b u e z => by rw [z, hn] at e; cases e
  refine I.step (g' := s.gens) (d' := s.drawn) (ch := [it]) (fun b hb => ?_) (fun b o _ _ hc e _ => k b o (fun z => hc (by simp [z])) e) (fun b o _ _ hc e _ => ⟨o.slots, k b o (fun z => hc (by simp [z])) e⟩) (fun _ _ _ _ n => n)
    (fun b o hc e => ⟨o, k b o (fun z => hc (by simp [z])) e⟩) (fun _ _ e => e) (fun _ _ _ e => e) (fun b ps e => ⟨#[], by rw [e]; simp⟩) (fun m hm => ?_) (fun b u e => ?_) I.bare
  · have e : b = it := by simpa using hb
    subst e
    exact ⟨h1, hL, h2, h3⟩
  · obtain ⟨o, es, ep, ho, r⟩ := hm
    exact ⟨o, es, ep, k _ o (Ne.symm hL) ho, r⟩
  · refine (I.hok b u e).stay (fun c v hc q => k c v ?_ q) (fun _ q => q) fun _ _ q => q
    rcases hc with z | z
    · rw [z]; exact nit b u e
    · exact nit c _ z
theorem Inv.tok (I : Inv X pins σ H s) (t : Nat) : Inv X pins σ H { s with toks := t } := I.un (h' := s.heap) (t' := t) Un.refl I.hok
theorem Inv.kept {t' : Nat} (I : Inv X pins σ H s) (k : ∀ b u, s.heap.get? b = some u → h'.get? b = some u) : Inv X pins σ H { s with heap := h', toks := t' } := I.un (Un.kept k) (I.hok.kept k)
theorem Inv.laid {a : Addr} {o : HO} {t' : Nat} (I : Inv X pins σ H s) (k : ∀ b u, s.heap.get? b = some u → h'.get? b = some u) (hp : s.heap.objs.size ≤ a) (new : ObjOk X.prog X.w (upd H a o) h' a o) :
    Inv X pins σ (upd H a o) { s with heap := h', toks := t' } := I.un (Un.laid k hp (I.hok.fresh hp)) (I.hok.laid k hp new)
theorem Inv.write {x e : Addr} {o : HO} {t' : Nat} (I : Inv X pins σ H s) (mu : Mut (H x)) (he : e = x ∨ H e = some (.own x)) (k : ∀ b u, b ≠ e → s.heap.get? b = some u → h'.get? b = some u) (heo : ∃ u, h'.get? e = some u)
    (new : ObjOk X.prog X.w (upd H x o) h' x o) : Inv X pins σ (upd H x o) { s with heap := h', toks := t' } := I.un (Un.write mu he k heo) (I.hok.write mu he k heo new)
theorem Inv.pins_of {pins' : List (Addr × Obj)} (I : Inv X pins σ H s) (h : ∀ p ∈ pins', s.heap.get? p.1 = some p.2 ∧ H p.1 = none ∧ p.1 ≠ X.env.locals ∧ p.1 ∉ X.fs ∧ ∀ v, p.2.data ≠ .cell v) : Inv X pins' σ H s :=
  ⟨I.ok, I.os, I.bare, I.base, I.loc, I.cell, I.free, I.freeC, fun p hp => (List.mem_append.mp hp).elim (fun z => I.pin p (List.mem_append_left _ z)) (h p), I.hok, I.len⟩
theorem nodup_ix {N : List Str} (hN : N.Nodup) {i j : Nat} {x : Str} (a : N[i]? = some x) (b : N[j]? = some x) : i = j := by
  obtain ⟨h1, e1⟩ := List.getElem?_eq_some_iff.mp a
  obtain ⟨h2, e2⟩ := List.getElem?_eq_some_iff.mp b
  exact (List.getElem_inj hN).mp (e1.trans e2.symm)
theorem store_ok2 {M : Model} {A : Around} {E : Value → Shared → Prop} {i : Nat} {x : Str} {v : V} {u : Value} {Q : Unit → Shared → Prop} (I : Inv X pins σ H s) (hN : X.N.Nodup) (hi : X.N[i]? = some x) (hx : Loc X.env.scope x) (r : RelV v u)
    (h : ∀ s', Inv X pins (σ.set i (some v)) H s' → (∃ a, Heap.SameBut a s.heap s'.heap ∧ (a = X.env.locals ∨ X.env.cells.lookup x = some a)) → Q () s') (hf : X.fn x = true ∨ X.env.scope.names.lookup x = some .local := by first | exact .inl rfl | exact .inr rfl | assumption) : wpAny M A (storeName X.env x u) Q E s := by
  obtain ⟨m, hn, hl⟩ := id I.loc
  have hcls : (X.env.scope.kind == .class || (X.env.scope.kind == .module && X.env.locals != X.env.globals)) = false := by rw [I.ok.kind]; rfl
  have hiσ : i < σ.length := by rw [I.len]; exact (List.getElem?_eq_some_iff.mp hi).1
  have cne := I.cne
  have tracked : ∀ {a : Addr} {h' : Heap}, (∃ o, s.heap.get? a = some o ∧ H a = none) → Heap.SameBut a s.heap h' → HOk X.prog X.w H h' := fun {a h'} ha hs b ob e => by
    obtain ⟨_, _, hfree⟩ := ha
    refine (I.hok b ob e).stay (fun c w' hc q => (hs.2 c ?_).trans q) (fun _ q => q) fun _ _ q => q
    rintro rfl
    rcases hc with rfl | hc
    · rw [hfree] at e; cases e
    · rw [hfree] at hc; cases hc
  rcases hx with hk | hk
  · refine wpAny_storeName_local hk hn (fun h' hn' hs => ?_) hcls
    obtain ⟨oL, _, _, hoL, _⟩ := id hn
    refine h _ ⟨I.ok, I.os, I.bare, ⟨fun b o e n hb hx => ?_, fun b o e n hb hx => ?_, I.base.free, fun b o e hx => ?_, I.base.tups, I.base.frzs, I.base.tbls⟩, ⟨_, hn', fun j y v' e1 e2 e3 => ?_⟩, fun y c e => ?_, I.free, I.freeC, fun p hp => ?_, tracked ⟨oL, hoL, I.free⟩ hs, by simpa using I.len⟩ ⟨_, hs, .inl rfl⟩
    · exact (hs.2 b (Nat.ne_of_lt (Nat.lt_of_lt_of_le (Heap.lt_size e) I.ok.above))).trans (I.base.keep b o e n hb hx)
    · obtain ⟨sl, e1⟩ := I.base.slot b o e n hb hx
      exact ⟨sl, (hs.2 b (Nat.ne_of_lt (Nat.lt_of_lt_of_le (Heap.lt_size e) I.ok.above))).trans e1⟩
    · obtain ⟨o', e1⟩ := I.base.there b o e hx
      exact ⟨o', (hs.2 b (Nat.ne_of_lt (Nat.lt_of_lt_of_le (Heap.lt_size e) I.ok.above))).trans e1⟩
    · by_cases hj : j = i
      · subst hj
        rw [hi] at e1; cases e1
        rw [List.getElem?_set_self hiσ] at e2
        cases e2
        exact ⟨u, r, .inl ⟨hk, by simp⟩⟩
      · rw [List.getElem?_set_ne (Ne.symm hj)] at e2
        obtain ⟨u', r', q⟩ := hl j y v' e1 e2 e3
        refine ⟨u', r', ?_⟩
        rcases q with ⟨k, e⟩ | ⟨k, c, e, z⟩
        · refine .inl ⟨k, ?_⟩
          have : y ≠ x := fun e => hj (nodup_ix hN e1 (e ▸ hi))
          simp [this, e]
        · exact .inr ⟨k, c, e, z.sameBut hs (cne y c e)⟩
    · obtain ⟨w', z⟩ := I.cell y c e
      exact ⟨w', z.sameBut hs (cne y c e)⟩
    · obtain ⟨e, n, ne, nf, d⟩ := I.pin p hp
      exact ⟨(hs.2 p.1 ne).trans e, n, ne, nf, d⟩
  · have hfn : X.fn x = true := by
      rcases hf with z | z
      · exact z
      · rw [z] at hk; cases hk
    obtain ⟨c, hc⟩ := I.ok.has x (.inl hk)
    obtain ⟨w', z⟩ := I.cell x c hc
    refine wpAny_storeName_cell I.ok.kind hk hc z (fun h' hc' hs => ?_)
    obtain ⟨oc, hoc, hocd⟩ := id z
    refine h { s with heap := h' } ⟨I.ok, I.os, I.bare, ⟨fun b o e n hb hx => ?_, fun b o e n hb hx => ?_, I.base.free, fun b o e hx => ?_, I.base.tups, I.base.frzs, I.base.tbls⟩, ⟨m, hn.sameBut hs (Ne.symm (cne x c hc)), fun j y v' e1 e2 e3 => ?_⟩, fun y c' e => ?_, I.free, I.freeC, fun p hp => ?_, tracked ⟨oc, hoc, I.freeC x c hc⟩ hs, by simpa using I.len⟩ ⟨c, hs, .inr hc⟩
    · exact (hs.2 b (Nat.ne_of_lt (Nat.lt_of_lt_of_le (Heap.lt_size e) (I.ok.cab x c hfn hc)))).trans (I.base.keep b o e n hb hx)
    · obtain ⟨sl, e1⟩ := I.base.slot b o e n hb hx
      exact ⟨sl, (hs.2 b (Nat.ne_of_lt (Nat.lt_of_lt_of_le (Heap.lt_size e) (I.ok.cab x c hfn hc)))).trans e1⟩
    · obtain ⟨o', e1⟩ := I.base.there b o e hx
      exact ⟨o', (hs.2 b (Nat.ne_of_lt (Nat.lt_of_lt_of_le (Heap.lt_size e) (I.ok.cab x c hfn hc)))).trans e1⟩
    · by_cases hj : j = i
      · subst hj
        rw [hi] at e1; cases e1
        rw [List.getElem?_set_self hiσ] at e2
        cases e2
        exact ⟨u, r, .inr ⟨.inl hk, c, hc, hc'⟩⟩
      · rw [List.getElem?_set_ne (Ne.symm hj)] at e2
        obtain ⟨u', r', q⟩ := hl j y v' e1 e2 e3
        refine ⟨u', r', ?_⟩
        rcases q with q | ⟨k, c', e, z'⟩
        · exact .inl q
        · refine .inr ⟨k, c', e, z'.sameBut hs ?_⟩
          rintro rfl
          exact hj (nodup_ix hN e1 (I.ok.inj _ _ _ e hc ▸ hi))
    · by_cases hcc : c' = c
      · subst hcc; exact ⟨_, hc'⟩
      · obtain ⟨w2, z2⟩ := I.cell y c' e
        exact ⟨w2, z2.sameBut hs hcc⟩
    · obtain ⟨e, n, ne, nf, d⟩ := I.pin p hp
      refine ⟨(hs.2 p.1 ?_).trans e, n, ne, nf, d⟩
      intro q
      rw [q, hoc] at e
      have q' : oc = p.2 := Option.some.inj e
      exact d w' (by rw [← q']; exact hocd)
theorem store_ok {M : Model} {A : Around} {E : Value → Shared → Prop} {i : Nat} {x : Str} {v : V} {u : Value} {Q : Unit → Shared → Prop} (I : Inv X pins σ H s) (hN : X.N.Nodup) (hi : X.N[i]? = some x) (hx : Loc X.env.scope x) (r : RelV v u)
    (h : ∀ s', Inv X pins (σ.set i (some v)) H s' → Q () s') (hf : X.fn x = true ∨ X.env.scope.names.lookup x = some .local := by first | exact .inl rfl | exact .inr rfl | assumption) : wpAny M A (storeName X.env x u) Q E s :=
  store_ok2 I hN hi hx r (fun s' I' _ => h s' I') hf
theorem Inv.call' {s' : Shared} {ch : List Addr} (I : Inv X pins σ H s) (ho : s'.os = s.os) (u : Un (frs X.stack) ch H H' s.heap s'.heap) (hok : HOk X.prog X.w H' s'.heap) (hg : AllBare s'.gens)
    (hch : ∀ b ∈ ch, (b ∈ X.ex ∨ X.s₀.heap.objs.size ≤ b) ∧ b ≠ X.env.locals ∧ (∀ x c, X.env.cells.lookup x = some c → c ≠ b) ∧ ∀ p ∈ X.pn ++ pins, p.1 ≠ b) : Inv X pins σ H' s' := by
  obtain ⟨h', g', d', t', o'⟩ := s'
  have e : o' = s.os := ho
  subst e
  exact I.call (g' := g') (t' := t') (d' := d') u hok hg hch
end
abbrev XK := Value → Option Addr → Hp → Prop
abbrev St := List (Option V)
abbrev VK := V → Hp → Prop
abbrev TE := St → Hp → VK → Prop
abbrev TT := St → Hp → (Bool → Hp → Prop) → Prop
abbrev TA := St → Hp → (List V → Hp → Prop) → Prop
structure Ends where
  nx : St → Hp → Prop
  rt : VK
  bk : St → Hp → Prop := fun _ _ => False
  ct : St → Hp → Prop := fun _ _ => False
abbrev TS := Ends → St → Hp → Prop
def EP (X : Cx) (pins : List (Addr × Obj)) (σ : St) (Q : VK) (u : Value) (s' : Shared) : Prop := ∃ v H', Inv X pins σ H' s' ∧ RelV v u ∧ Q v H'
def TP (X : Cx) (pins : List (Addr × Obj)) (σ : St) (Q : Bool → Hp → Prop) (b : Bool) (s' : Shared) : Prop := ∃ H', Inv X pins σ H' s' ∧ Q b H'
def AP (X : Cx) (pins : List (Addr × Obj)) (σ : St) (Q : List V → Hp → Prop) (us : List Value) (s' : Shared) : Prop := ∃ vs H', Inv X pins σ H' s' ∧ Vals vs us ∧ Q vs H'
def SP (X : Cx) (pins : List (Addr × Obj)) (D : Ends) (f : Flow) (s' : Shared) : Prop :=
  match f with
  | .next => ∃ σ' H', Inv X pins σ' H' s' ∧ D.nx σ' H'
  | .brk => ∃ σ' H', Inv X pins σ' H' s' ∧ D.bk σ' H'
  | .cont => ∃ σ' H', Inv X pins σ' H' s' ∧ D.ct σ' H'
  | .ret u => ∃ v σ' H', Inv X pins σ' H' s' ∧ RelV v u ∧ D.rt v H'
def PE (X : Cx) (e : Expr) (t : TE) : Prop :=
  ∀ (pins : List (Addr × Obj)) (s : Shared) (σ : St) (H : Hp) (Q : VK), Inv X pins σ H s → t σ H Q → wpAny (model X.prog X.w) X.A (eval e X.env) (EP X pins σ Q) X.xe s
def PT (X : Cx) (e : Expr) (t : TT) : Prop :=
  ∀ (pins : List (Addr × Obj)) (s : Shared) (σ : St) (H : Hp) (Q : Bool → Hp → Prop), Inv X pins σ H s → t σ H Q → wpAny (model X.prog X.w) X.A (isTrue e X.env (eval e X.env)) (TP X pins σ Q) X.xe s
def PW (X : Cx) (e : Expr) (t : TT) : Prop :=
  ∀ (whole : Sem Value) (pins : List (Addr × Obj)) (s : Shared) (σ : St) (H : Hp) (Q : Bool → Hp → Prop), Inv X pins σ H s → t σ H Q → wpAny (model X.prog X.w) X.A (isTrue e X.env whole) (TP X pins σ Q) X.xe s
theorem PW.pt {X : Cx} {e : Expr} {t : TT} (h : PW X e t) : PT X e t := h _
def PA (X : Cx) (es : List Expr) (t : TA) : Prop :=
  ∀ (pos : Pos) (pins : List (Addr × Obj)) (s : Shared) (σ : St) (H : Hp) (Q : List V → Hp → Prop), Inv X pins σ H s → t σ H Q → wpAny (model X.prog X.w) X.A (spliced (backTo pos (starEach es X.env))) (AP X pins σ Q) X.xe s
def PS (X : Cx) (st : Stmt) (t : TS) : Prop :=
  ∀ (pins : List (Addr × Obj)) (s : Shared) (σ : St) (H : Hp) (D : Ends), Inv X pins σ H s → t D σ H → wpAny (model X.prog X.w) X.A (exec st X.env) (SP X pins D) X.xe s
def PSs (X : Cx) (st : List Stmt) (t : TS) : Prop :=
  ∀ (pins : List (Addr × Obj)) (s : Shared) (σ : St) (H : Hp) (D : Ends), Inv X pins σ H s → t D σ H → wpAny (model X.prog X.w) X.A (execs st X.env) (SP X pins D) X.xe s
theorem thn {α : Type} {t : Sem α} {Q Q' : α → Shared → Prop} {M : Model} {A : Around} {E : Value → Shared → Prop} {s : Shared} (h : wpAny M A t Q E s) (hQ : ∀ a s, Q a s → Q' a s) : wpAny M A t Q' E s := wpAny_mono h hQ fun _ _ x => x
end L2
namespace L2
open PySem PySem.Spec PyProof.Rows
section
variable {X : Cx}
theorem bin {a b : Expr} {ta tb : TE} (ha : PE X a ta) (hb : PE X b tb) {pins : List (Addr × Obj)} {s : Shared} {σ : St} {H : Hp} {R : V → V → Hp → Prop} (I : Inv X pins σ H s) (h : ta σ H fun x H1 => tb σ H1 fun y H2 => R x y H2)
    {α : Type} {Q : α → Shared → Prop} {f : Value → Value → Sem α}
    (hf : ∀ v u s2 x y H2, Inv X pins σ H2 s2 → RelV x v → RelV y u → R x y H2 → wpAny (model X.prog X.w) X.A (f v u) Q X.xe s2) :
    wpAny (model X.prog X.w) X.A (eval a X.env) (fun v s₁ => wpAny (model X.prog X.w) X.A (eval b X.env) (fun u s₂ => wpAny (model X.prog X.w) X.A (f v u) Q X.xe s₂) X.xe s₁) X.xe s := by
  refine thn (ha pins s σ H _ I h) fun v s1 ⟨x, H1, I1, r1, q1⟩ => ?_
  refine thn (hb pins s1 σ H1 _ I1 q1) fun u s2 ⟨y, H2, I2, r2, q2⟩ => ?_
  exact hf v u s2 x y H2 I2 r1 r2 q2
def tVar (i : Nat) : TE := fun σ H Q => ∃ v, σ[i]? = some (some v) ∧ Q v H
def tC (v : V) : TE := fun _ H Q => Q v H
theorem pe_var {i : Nat} {x : Str} {pos : Pos} (hN : X.N[i]? = some x) (hv : Vis X.env.scope x) (hd : (x == ("__debug__" : Str)) = false := by decide) (hcd : (x == ("__classdict__" : Str)) = false := by decide) : PE X (.Name x pos) (tVar i) := by
  intro pins s σ H Q I h
  obtain ⟨v, e, h⟩ := h
  obtain ⟨m, hn, hl⟩ := I.loc
  obtain ⟨u, r, l⟩ := hl i x v hN e hv
  have fin : EP X pins σ Q u s := ⟨v, H, I, r, h⟩
  rcases l with ⟨hk, hm⟩ | ⟨hk, c, hc, hcell⟩
  · exact wpAny_Name (wpAny_loadName_local I.ok.kind hk hn hm fin) hd
  · rcases hk with hk | hk
    · exact wpAny_Name (wpAny_loadName_cell I.ok.kind hk hc hcell fin) hd
    · exact wpAny_Name (wpAny_loadName_free I.ok.kind hk hc hcell fin hcd) hd
theorem pe_int {i j pos} : PE X (.Constant (.int i) j pos) (tC (.int i)) := fun _ _ _ H _ I h => wpAny_Constant_int ⟨.int i, H, I.tok _, ⟨_, rfl⟩, h⟩
theorem pe_bl {b j pos} : PE X (.Constant (.bool b) j pos) (tC (.bl b)) := fun _ _ _ H _ I h => Constant_bool ⟨.bl b, H, I, rfl, h⟩
theorem pe_non {j pos} : PE X (.Constant .none j pos) (tC .non) := fun _ _ _ H _ I h => Constant_none ⟨.non, H, I, rfl, h⟩
theorem pe_str {x j pos} : PE X (.Constant (.str x) j pos) (tC (.str x)) := fun _ _ _ H _ I h => Calls.Constant_str ⟨.str x, H, I.tok _, ⟨_, rfl⟩, h⟩
def Gl (X : Cx) (x : Str) : Prop := X.env.kindOf x = some .globalImplicit
theorem ld_glob {E : Value → Shared → Prop} {pins : List (Addr × Obj)} {s : Shared} {σ : St} {H : Hp} {x : Str} {u : Value} {pos : Pos} {Q : Value → Shared → Prop} (I : Inv X pins σ H s) (hg : Gl X x) (hm : X.mg x = some u) (h : Q u s)
    (hd : (x == ("__debug__" : Str)) = false := by decide) : wpAny (model X.prog X.w) X.A (eval (.Name x pos) X.env) Q E s :=
  Calls.Name_function_global I.ok.kind hg (Calls.loadGlobal_global (by rw [I.ok.glob]; exact I.mod.glob.keeps I.bk) hm h) hd
theorem ld_blt {E : Value → Shared → Prop} {pins : List (Addr × Obj)} {s : Shared} {σ : St} {H : Hp} {x : Str} {u : Value} {pos : Pos} {Q : Value → Shared → Prop} (I : Inv X pins σ H s) (hg : Gl X x) (hm : X.mg x = none) (hv : bootBuiltins x = some u) (h : Q u s)
    (hn : x ≠ "__name__" := by decide) (hd : (x == ("__debug__" : Str)) = false := by decide) : wpAny (model X.prog X.w) X.A (eval (.Name x pos) X.env) Q E s := by
  obtain ⟨mb, h1, h2⟩ := I.mod.blt
  exact Calls.Name_function_global I.ok.kind hg (Calls.loadGlobal_builtin (by rw [I.ok.glob]; exact I.mod.glob.keeps I.bk) hm (by rw [I.ok.blt]; exact h1.keeps I.bk) ((h2 x hn).trans hv) h) hd
theorem pe_bltn {x : Str} {v : V} {u : Value} {pos : Pos} (hg : Gl X x) (hm : X.mg x = none) (hv : bootBuiltins x = some u) (r : RelV v u) (hn : x ≠ "__name__" := by decide) (hd : (x == ("__debug__" : Str)) = false := by decide) : PE X (.Name x pos) (tC v) :=
  fun _ _ _ H _ I h => ld_blt I hg hm hv ⟨v, H, I, r, h⟩ hn hd
variable {a b : Expr} {ta tb : TE} {pos : Pos}
variable {tA tB' : TT} {rest : List Expr}
def tAnd (t u : TT) : TT := fun σ H Q => t σ H fun c H1 => if c = true then u σ H1 Q else Q false H1
def tOr (t u : TT) : TT := fun σ H Q => t σ H fun c H1 => if c = true then Q true H1 else u σ H1 Q
def tNot (t : TT) : TT := fun σ H Q => t σ H fun c H1 => Q (!c) H1
theorem pw_and1 (ha : PT X a tA) : PW X (.BoolOp .And [a] pos) tA := by
  intro wh pins s σ H Q I h
  refine isTrue_and (thn (ha pins s σ H Q I h) fun c s1 e => ?_)
  cases c with
  | true => exact isTrue_and_nil e
  | false => exact e
theorem pw_or1 (ha : PT X a tA) : PW X (.BoolOp .Or [a] pos) tA := by
  intro wh pins s σ H Q I h
  refine isTrue_or (thn (ha pins s σ H Q I h) fun c s1 e => ?_)
  cases c with
  | false => exact isTrue_or_nil e
  | true => exact e
theorem pw_and (ha : PT X a tA) (hb : PW X (.BoolOp .And (b :: rest) pos) tB') : PW X (.BoolOp .And (a :: b :: rest) pos) (tAnd tA tB') := by
  intro wh pins s σ H Q I h
  refine isTrue_and (thn (ha pins s σ H _ I h) fun c s1 ⟨H1, I1, q1⟩ => ?_)
  cases c with
  | true => exact hb wh pins s1 σ H1 Q I1 q1
  | false => exact ⟨H1, I1, q1⟩
theorem pw_or (ha : PT X a tA) (hb : PW X (.BoolOp .Or (b :: rest) pos) tB') : PW X (.BoolOp .Or (a :: b :: rest) pos) (tOr tA tB') := by
  intro wh pins s σ H Q I h
  refine isTrue_or (thn (ha pins s σ H _ I h) fun c s1 ⟨H1, I1, q1⟩ => ?_)
  cases c with
  | true => exact ⟨H1, I1, q1⟩
  | false => exact hb wh pins s1 σ H1 Q I1 q1
theorem pt_not (ha : PT X a tA) : PT X (.UnaryOp .Not a pos) (tNot tA) := by
  intro pins s σ H Q I h
  exact isTrue_not (ha pins s σ H (fun c H1 => Q (!c) H1) I h)
def tAndV (ta tb : TE) : TE := fun σ H Q => ta σ H fun x H1 => ∃ c, x = .bl c ∧ if c = true then tb σ H1 Q else Q (.bl false) H1
def tNotV (ta : TE) : TE := fun σ H Q => ta σ H fun x H1 => ∃ c, x = .bl c ∧ Q (.bl (!c)) H1
theorem pe_one {op} {t : TE} (h : PE X a t) : PE X (.BoolOp op [a] pos) t := fun pins s σ H Q I hw => BoolOp_one (h pins s σ H Q I hw)
theorem pe_and (ha : PE X a ta) (hb : PE X (.BoolOp .And (b :: rest) pos) tb) : PE X (.BoolOp .And (a :: b :: rest) pos) (tAndV ta tb) := by
  intro pins s σ H Q I h
  refine BoolOp_and (thn (ha pins s σ H _ I h) fun v s1 ⟨x, H1, I1, r1, q1⟩ => ?_)
  obtain ⟨c, rfl, q1⟩ := q1
  cases r1
  refine wpAny_truthy_bool ?_
  cases c with
  | true => exact hb pins s1 σ H1 Q I1 q1
  | false => exact ⟨.bl false, H1, I1, rfl, q1⟩
theorem pe_not (ha : PE X a ta) : PE X (.UnaryOp .Not a pos) (tNotV ta) := by
  intro pins s σ H Q I h
  refine UnaryOp_ (thn (ha pins s σ H _ I h) fun v s1 ⟨x, H1, I1, r1, q1⟩ => ?_)
  obtain ⟨c, rfl, q1⟩ := q1
  cases r1
  exact not_of (wpAny_truthy_bool ⟨.bl (!c), H1, I1, rfl, q1⟩)
def tIf (t : TT) (ta tb : TE) : TE := fun σ H Q => t σ H fun c H1 => if c = true then ta σ H1 Q else tb σ H1 Q
theorem pe_ifExp {c : Expr} (hc : PT X c tA) (ha : PE X a ta) (hb : PE X b tb) : PE X (.IfExp c a b pos) (tIf tA ta tb) := by
  intro pins s σ H Q I h
  refine wpAny_IfExp (thn (hc pins s σ H _ I h) fun d s1 ⟨H1, I1, q1⟩ => ?_)
  cases d with
  | true => exact ha pins s1 σ H1 Q I1 q1
  | false => exact hb pins s1 σ H1 Q I1 q1
end
end L2
namespace L2
open PySem PySem.Spec PyProof.Rows
def SqL (K : PySem.W.Frag) (H : Hp) (a : Addr) (xs : List V) : Prop :=
  Rd H a (.lst xs) ∨
    ∃ (o : Obj) (its : Array Value) (n : Nat), K.lookup a = some o ∧ o.cls = .type "list" ∧ o.dict = none ∧ o.data = .seq its n ∧ its.size ≤ sizeLine ∧ Vals xs its.toList
def SqT (K : PySem.W.Frag) (H : Hp) (a : Addr) (xs : List V) : Prop :=
  Rd H a (.tup xs) ∨
    ∃ (o : Obj) (its : Array Value) (n : Nat), K.lookup a = some o ∧ o.cls = .type "tuple" ∧ o.data = .seq its n ∧ its.size ≤ sizeLine ∧ Vals xs its.toList
def absV : Value → Option V
  | .none => some .non
  | .bool b => some (.bl b)
  | .int i _ => some (.int i)
  | .str x _ => some (.str x)
  | .bytes b _ => some (.byt b)
  | .float b _ => some (.flt b)
  | .ref a => some (.ref a)
  | .type n => some (.ty n)
  | _ => none
theorem RelV.abs {x : V} {u : Value} (r : RelV x u) : absV u = some x := by
  cases x with
  | non => cases r; rfl
  | bl _ => cases r; rfl
  | int _ => obtain ⟨t, rfl⟩ := r; rfl
  | str _ => obtain ⟨t, rfl⟩ := r; rfl
  | byt _ => obtain ⟨t, rfl⟩ := r; rfl
  | flt _ => obtain ⟨t, rfl⟩ := r; rfl
  | ref _ => cases r; rfl
  | ty _ => cases r; rfl
theorem RelV.inj {x y : V} {u : Value} (r : RelV x u) (q : RelV y u) : x = y := Option.some.inj (r.abs.symm.trans q.abs)
theorem Vals.inj : ∀ {xs ys : List V} {us : List Value}, Vals xs us → Vals ys us → xs = ys
  | _, _, _, .nil, .nil => rfl
  | _, _, _, .cons r t, .cons r' t' => by rw [r.inj r', Vals.inj t t']
section
variable {X : Cx} {pins : List (Addr × Obj)} {σ : St} {H : Hp} {s : Shared} {a : Addr} {xs ys : List V}
theorem SqL.of {K : PySem.W.Frag} (h : H a = some (.lst xs)) : SqL K H a xs := .inl (.inl h)
theorem SqT.of {K : PySem.W.Frag} (h : H a = some (.tup xs)) : SqT K H a xs := .inl (.inl h)
theorem Inv.list (I : Inv X pins σ H s) (h : SqL X.K H a xs) : ∃ its : List Value, Vals xs its ∧ PlainL s.heap a its.toArray ∧ xs.length ≤ sizeLine := by
  rcases h with h | ⟨o, its, n, hk, hc, hd, hs, hz, r⟩
  · obtain ⟨z, its, n, r, e⟩ := h.ok I.hok
    exact ⟨its, r, ⟨_, n, e, rfl, rfl, rfl⟩, z⟩
  · refine ⟨its.toList, r, ⟨o, n, I.kIn a o hk, hc, hd, by simpa using hs⟩, ?_⟩
    have e := r.length
    simp only [Array.length_toList] at e
    omega
theorem Inv.tuple (I : Inv X pins σ H s) (h : SqT X.K H a xs) : ∃ its : List Value, Vals xs its ∧ IsTup s.heap a its.toArray ∧ xs.length ≤ sizeLine := by
  rcases h with h | ⟨o, its, n, hk, hc, hs, hz, r⟩
  · obtain ⟨z, its, r, p⟩ := h.ok I.hok
    exact ⟨its, r, p, z⟩
  · refine ⟨its.toList, r, ⟨o, I.kIn a o hk, hc, n, by simpa using hs⟩, ?_⟩
    have e := r.length
    simp only [Array.length_toList] at e
    omega
theorem Inv.list_inj (I : Inv X pins σ H s) (h : SqL X.K H a xs) (h' : SqL X.K H a ys) : xs = ys := by
  obtain ⟨its, r, ⟨o, n, e, _, _, d⟩, _⟩ := I.list h
  obtain ⟨its', r', ⟨o', n', e', _, _, d'⟩, _⟩ := I.list h'
  rw [e] at e'; cases e'
  rw [d] at d'
  injection d' with d1 _
  have : its = its' := by simpa using congrArg Array.toList d1
  subst this
  exact r.inj r'
theorem Inv.tuple_inj (I : Inv X pins σ H s) (h : SqT X.K H a xs) (h' : SqT X.K H a ys) : xs = ys := by
  obtain ⟨its, r, ⟨o, e, _, n, d⟩, _⟩ := I.tuple h
  obtain ⟨its', r', ⟨o', e', _, n', d'⟩, _⟩ := I.tuple h'
  rw [e] at e'; cases e'
  rw [d] at d'
  injection d' with d1 _
  have : its = its' := by simpa using congrArg Array.toList d1
  subst this
  exact r.inj r'
end
abbrev Cx.wish (X : Cx) (E : Value → Shared → Prop) : Cx := { X with xe := E }
abbrev Cx.nox (X : Cx) : Cx := X.wish fun _ _ => False
theorem Cx.Ok.wish {X : Cx} (ok : X.Ok) (E : Value → Shared → Prop) : (X.wish E).Ok :=
  ⟨ok.mod, ok.kind, ok.glob, ok.blt, ok.above, ok.inj, ok.has, ok.cab, ok.hd, ok.frames, ok.stk, ok.exf, ok.bs, ok.bsz, ok.noex, ok.exfs, ok.funs, ok.frf⟩
theorem Cx.Ok.unwish {X : Cx} {E : Value → Shared → Prop} (ok : (X.wish E).Ok) : X.Ok :=
  ⟨ok.mod, ok.kind, ok.glob, ok.blt, ok.above, ok.inj, ok.has, ok.cab, ok.hd, ok.frames, ok.stk, ok.exf, ok.bs, ok.bsz, ok.noex, ok.exfs, ok.funs, ok.frf⟩
section
variable {X : Cx} {pins : List (Addr × Obj)} {σ : St} {H : Hp} {s : Shared} {E : Value → Shared → Prop}
theorem Inv.wish (I : Inv X pins σ H s) (E : Value → Shared → Prop) : Inv (X.wish E) pins σ H s := ⟨I.ok.wish E, I.os, I.bare, I.base, I.loc, I.cell, I.free, I.freeC, I.pin, I.hok, I.len⟩
theorem Inv.unwish (I : Inv (X.wish E) pins σ H s) : Inv X pins σ H s := ⟨I.ok.unwish, I.os, I.bare, I.base, I.loc, I.cell, I.free, I.freeC, I.pin, I.hok, I.len⟩
theorem SP.unwish {D : Ends} {f : Flow} {s' : Shared} (h : SP (X.wish E) pins D f s') : SP X pins D f s' := by
  cases f with
  | next => obtain ⟨σ', H', I, q⟩ := h; exact ⟨σ', H', I.unwish, q⟩
  | brk => obtain ⟨σ', H', I, q⟩ := h; exact ⟨σ', H', I.unwish, q⟩
  | cont => obtain ⟨σ', H', I, q⟩ := h; exact ⟨σ', H', I.unwish, q⟩
  | ret u => obtain ⟨v, σ', H', I, r, q⟩ := h; exact ⟨v, σ', H', I.unwish, r, q⟩
theorem PSs.nox {st : List Stmt} {t : TS} (h : PSs X.nox st t) : PSs X st t := fun pins s σ H D I hw =>
  wpAny_mono (h pins s σ H D (I.wish _) hw) (fun _ _ q => q.unwish) fun _ _ z => False.elim z
end
section
variable {X : Cx} {st : Stmt} {rest : List Stmt} {t u : TS} {e : Expr} {te : TE} {pos : Pos}
def tNext : TS := fun D σ H => D.nx σ H
def tSeq (t u : TS) : TS := fun D σ H => t { D with nx := u D } σ H
theorem pss_nil : PSs X [] tNext := fun _ _ σ H _ I h => wpAny_execs_nil ⟨σ, H, I, h⟩
theorem pss_cons (h1 : PS X st t) (h2 : PSs X rest u) : PSs X (st :: rest) (tSeq t u) := by
  intro pins s σ H D I h
  refine wpAny_execs_cons (thn (h1 pins s σ H { D with nx := u D } I h) fun f s1 q => ?_)
  cases f with
  | next =>
    obtain ⟨σ', H', I', q⟩ := q
    exact h2 pins s1 σ' H' D I' q
  | ret v => exact q
  | brk => exact q
  | cont => exact q
theorem pss_one (h1 : PS X st t) : PSs X [st] t := by
  intro pins s σ H D I h
  refine wpAny_execs_cons (thn (h1 pins s σ H D I h) fun f s1 q => ?_)
  cases f with
  | next => exact wpAny_execs_nil q
  | ret v => exact q
  | brk => exact q
  | cont => exact q
theorem Inv.quiet {pins : List (Addr × Obj)} {σ : St} {H : Hp} {s : Shared} (I : Inv X pins σ H s) : interactive X.env = false := by simp [interactive, I.ok.kind]
def tDrop (te : TE) : TS := fun D σ H => te σ H fun _ H1 => D.nx σ H1
theorem ps_expr (he : PE X e te) (hs : swapsWith e none pos.line X.env = pure false := by rfl) : PS X (.Expr e pos) (tDrop te) := by
  intro pins s σ H D I h
  exact wpAny_Expr_any (thn (he pins s σ H _ I h) fun v s1 ⟨x, H1, I1, r1, q1⟩ => ⟨σ, H1, I1, q1⟩) I.quiet hs
def tRet (te : TE) : TS := fun D σ H => te σ H D.rt
theorem ps_ret (he : PE X e te) : PS X (.Return (some e) pos) (tRet te) := by
  intro pins s σ H D I h
  exact wpAny_Return_some (thn (he pins s σ H _ I h) fun v s1 ⟨x, H1, I1, r1, q1⟩ => ⟨x, σ, H1, I1, r1, q1⟩)
def tIfS (c : TT) (t u : TS) : TS := fun D σ H => c σ H fun b H1 => if b = true then t D σ H1 else u D σ H1
theorem ps_if {c : Expr} {a b : List Stmt} {tc : TT} (hc : PT X c tc) (ha : PSs X a t) (hb : PSs X b u) : PS X (.If c a b pos) (tIfS tc t u) := by
  intro pins s σ H D I h
  refine wpAny_If (thn (hc pins s σ H _ I h) fun d s1 ⟨H1, I1, q1⟩ => ?_)
  cases d with
  | true => exact ha pins s1 σ H1 D I1 q1
  | false => exact hb pins s1 σ H1 D I1 q1
end
abbrev TG := V → St → Hp → (St → Hp → Prop) → Prop
abbrev TGs := List V → St → Hp → (St → Hp → Prop) → Prop
def PG (X : Cx) (target : Expr) (t : TG) : Prop :=
  ∀ (pins : List (Addr × Obj)) (s : Shared) (σ : St) (H : Hp) (v : V) (u : Value) (Q : St → Hp → Prop), Inv X pins σ H s → RelV v u → t v σ H Q →
    wpAny (model X.prog X.w) X.A (assign target X.env u) (fun _ s' => ∃ σ' H', Inv X pins σ' H' s' ∧ Q σ' H') X.xe s
def PGs (X : Cx) (ts : List Expr) (t : TGs) : Prop :=
  ∀ (pins : List (Addr × Obj)) (s : Shared) (σ : St) (H : Hp) (vs : List V) (us : List Value) (Q : St → Hp → Prop), Inv X pins σ H s → Vals vs us → t vs σ H Q →
    wpAny (model X.prog X.w) X.A (assignInOrder ((assignEach ts X.env).map (·.2)) us) (fun _ s' => ∃ σ' H', Inv X pins σ' H' s' ∧ Q σ' H') X.xe s
abbrev TSet := V → V → V → Hp → (Hp → Prop) → Prop
def PSet (X : Cx) (t : TSet) : Prop :=
  ∀ (pins : List (Addr × Obj)) (s : Shared) (σ : St) (H : Hp) (o i v : V) (ov iv u : Value) (Q : Hp → Prop), Inv X pins σ H s → RelV o ov → RelV i iv → RelV v u → t o i v H Q →
    wpAny (model X.prog X.w) X.A (setItem ov iv u) (fun _ s' => ∃ H', Inv X pins σ H' s' ∧ Q H') X.xe s
abbrev TIp := V → V → Hp → VK → Prop
def PIp (X : Cx) (op : Operator) (t : TIp) : Prop :=
  ∀ (pins : List (Addr × Obj)) (s : Shared) (σ : St) (H : Hp) (x y : V) (v u : Value) (Q : VK), Inv X pins σ H s → RelV x v → RelV y u → t x y H Q →
    wpAny (model X.prog X.w) X.A (inplaceOp op v u) (EP X pins σ Q) X.xe s
section
variable {X : Cx} {pos : Pos}
def gName (i : Nat) : TG := fun v σ H Q => Q (σ.set i (some v)) H
theorem pg_name {i : Nat} {x : Str} (hN : X.N.Nodup) (hi : X.N[i]? = some x) (hx : Loc X.env.scope x) (hf : X.fn x = true ∨ X.env.scope.names.lookup x = some .local := by first | exact .inl rfl | exact .inr rfl | assumption) : PG X (.Name x pos) (gName i) := by
  intro pins s σ H v u Q I r h
  exact wpAny_assign_Name (store_ok I hN hi hx r (fun s' I' => ⟨_, H, I', h⟩) hf)
def gNil : TGs := fun vs σ H Q => vs = [] ∧ Q σ H
def gCons (t : TG) (u : TGs) : TGs := fun vs σ H Q => ∃ v r, vs = v :: r ∧ t v σ H fun σ' H' => u r σ' H' Q
theorem pgs_nil : PGs X [] gNil := by
  intro pins s σ H vs us Q I r h
  obtain ⟨e, h⟩ := h
  subst e
  cases r
  exact assignInOrder_nil ⟨σ, H, I, h⟩
theorem pgs_cons {e : Expr} {es : List Expr} {t : TG} {u : TGs} (h1 : PG X e t) (h2 : PGs X es u)
    (hs : (assignEach (e :: es) X.env).map (·.2) = assign e X.env :: (assignEach es X.env).map (·.2) := by rfl) : PGs X (e :: es) (gCons t u) := by
  intro pins s σ H vs us Q I r h
  obtain ⟨v, vr, e1, h⟩ := h
  subst e1
  cases r with
  | cons r rr =>
    rw [hs]
    refine assignInOrder_cons (thn (h1 pins s σ H _ _ _ I r h) fun _ s1 ⟨σ1, H1, I1, q1⟩ => ?_)
    exact h2 pins s1 σ1 H1 _ _ Q I1 rr q1
def gTup (K : PySem.W.Frag) (n : Nat) (t : TGs) : TG := fun v σ H Q => ∃ a xs, v = .ref a ∧ SqT K H a xs ∧ xs.length = n ∧ t xs σ H Q
theorem pg_tup {es : List Expr} {k : Nat} {t : TGs} {n : Nat} (hc : X.calm = true) (h : PGs X es t)
    (hn : (assignEach es X.env).length = n := by rfl) (hst : (assignEach es X.env).findIdx? (·.1) = none := by rfl) : PG X (.Tuple es k pos) (gTup X.K n t) := by
  intro pins s σ H v u Q I r hw
  obtain ⟨a, xs, e1, hq, hl, hw⟩ := hw
  subst e1
  cases r
  obtain ⟨its, rv, ht, hz⟩ := I.tuple hq
  refine assign_Tuple_tuple (I.ok.hd hc) ht (by simp [hn, ← hl, rv.length]) hst fun h' hx => ?_
  have I1 : Inv X pins σ H { s with heap := h' } := I.kept (t' := s.toks) fun b o e => hx b o (Nat.ne_of_lt (Heap.lt_size e)) e
  exact h pins _ σ H xs _ Q I1 (by simpa using rv) hw
def gSub (to ti : TE) (t : TSet) : TG := fun v σ H Q => to σ H fun o H1 => ti σ H1 fun i H2 => t o i v H2 fun H3 => Q σ H3
theorem pg_sub {o i : Expr} {to ti : TE} {t : TSet} (ho : PE X o to) (hi : PE X i ti) (hs : PSet X t)
    (ha : ∀ v, assign (.Subscript o i pos) X.env v = (do
      let ov ← holding [v] (eval o X.env)
      let iv ← holding [v, ov] (eval i X.env)
      standAt pos
      holding [v, ov, iv] (setItem ov iv v)
      release [v, ov, iv] []) := by intro _; rfl) : PG X (.Subscript o i pos) (gSub to ti t) := by
  intro pins s σ H v u Q I r h
  rw [ha]
  refine wpAny_bind (wpAny_holding (thn (ho pins s σ H _ I h) fun ov s1 ⟨x, H1, I1, r1, q1⟩ => ?_))
  refine wpAny_bind (wpAny_holding (thn (hi pins s1 σ H1 _ I1 q1) fun iv s2 ⟨y, H2, I2, r2, q2⟩ => ?_))
  refine wpAny_bind (wpAny_standAt (wpAny_bind (wpAny_holding (thn (hs pins s2 σ H2 x y v ov iv u _ I2 r1 r2 r q2) fun _ s3 ⟨H3, I3, q3⟩ => ?_))))
  exact wpAny_release ⟨σ, H3, I3, q3⟩
def tAsg (te : TE) (g : TG) : TS := fun D σ H => te σ H fun x H1 => g x σ H1 D.nx
theorem ps_asg {tg e : Expr} {te : TE} {g : TG} (he : PE X e te) (hg : PG X tg g) (hs : swapsWithSole [tg] e pos.line X.env = pure false := by rfl) (hw : swappedStores [tg] e X.env = pure none := by rfl)
    (h1 : (assignEach [tg] X.env).map (·.2) = [assign tg X.env] := by rfl) : PS X (.Assign [tg] e pos) (tAsg te g) := by
  intro pins s σ H D I h
  refine wpAny_Assign_stores (thn (he pins s σ H _ I h) fun v s1 ⟨x, H1, I1, r1, q1⟩ => ?_) hs hw
  rw [h1]
  exact thn (hg pins s1 σ H1 x v _ I1 r1 q1) fun _ s2 q => q
theorem ps_set {i : Nat} {x : Str} {e : Expr} {te : TE} {pos' : Pos} (hN : X.N.Nodup) (hi : X.N[i]? = some x) (hx : Loc X.env.scope x) (he : PE X e te) (hs : swapsWith e (some (.Name x pos')) pos.line X.env = pure false := by rfl) (hf : X.fn x = true ∨ X.env.scope.names.lookup x = some .local := by first | exact .inl rfl | exact .inr rfl | assumption) :
    PS X (.Assign [.Name x pos'] e pos) (tAsg te (gName i)) := by
  intro pins s σ H D I h
  refine wpAny_Assign_Name (thn (he pins s σ H _ I h) fun v s1 ⟨y, H1, I1, r1, q1⟩ => ?_) hs
  exact store_ok I1 hN hi hx r1 (fun s2 I2 => ⟨_, H1, I2, q1⟩) hf
def tAugS (to ti te : TE) (tget : V → V → Hp → VK → Prop) (tip : TIp) (tset : TSet) : TS := fun D σ H => to σ H fun o H1 => ti σ H1 fun i H2 => tget o i H2 fun x H3 => te σ H3 fun y H4 => tip x y H4 fun z H5 => tset o i z H5 fun H6 => D.nx σ H6
def PGet (X : Cx) (t : V → V → Hp → VK → Prop) : Prop :=
  ∀ (pins : List (Addr × Obj)) (s : Shared) (σ : St) (H : Hp) (o i : V) (ov iv : Value) (Q : VK), Inv X pins σ H s → RelV o ov → RelV i iv → t o i H Q →
    wpAny (model X.prog X.w) X.A (getItem ov iv) (EP X pins σ Q) X.xe s
theorem ps_augS {o i e : Expr} {to ti te : TE} {tget : V → V → Hp → VK → Prop} {tip : TIp} {tset : TSet} {op : Operator} {tpos : Pos} (ho : PE X o to) (hi : PE X i ti) (hg : PGet X tget) (he : PE X e te) (hp : PIp X op tip) (hs : PSet X tset)
    (ha : ∀ ov iv new, augStore i ov iv new = (do holding [new, ov, iv] (setItem ov iv new); release [new, ov, iv] []; pure .next) := by intros; rfl) : PS X (.AugAssign (.Subscript o i tpos) op e pos) (tAugS to ti te tget tip tset) := by
  intro pins s σ H D I h
  refine wpAny_AugAssign_SubscriptAny (thn (ho pins s σ H _ I h) fun ov s1 ⟨x1, H1, I1, r1, q1⟩ => ?_) ha
  refine thn (hi pins s1 σ H1 _ I1 q1) fun iv s2 ⟨x2, H2, I2, r2, q2⟩ => ?_
  refine thn (hg pins s2 σ H2 x1 x2 ov iv _ I2 r1 r2 q2) fun old s3 ⟨x3, H3, I3, r3, q3⟩ => ?_
  refine thn (he pins s3 σ H3 _ I3 q3) fun v s4 ⟨x4, H4, I4, r4, q4⟩ => ?_
  refine thn (hp pins s4 σ H4 x3 x4 old v _ I4 r3 r4 q4) fun new s5 ⟨x5, H5, I5, r5, q5⟩ => ?_
  exact thn (hs pins s5 σ H5 x1 x2 x5 ov iv new _ I5 r1 r2 r5 q5) fun _ s6 ⟨H6, I6, q6⟩ => ⟨σ, H6, I6, q6⟩
def ipI (f : Int → Int → Int) : TIp := fun x y H Q => ∃ i j, x = .int i ∧ y = .int j ∧ Q (.int (f i j)) H
theorem ip_add : PIp X .Add (ipI fun i j => i + j) := by
  intro pins s σ H x y v u Q I r1 r2 h
  obtain ⟨i, j, e1, e2, q⟩ := h
  subst e1; subst e2
  obtain ⟨t, rfl⟩ := r1
  obtain ⟨t', rfl⟩ := r2
  exact iadd_int ⟨.int _, H, I.tok _, ⟨_, rfl⟩, q⟩
end
section
variable {X : Cx} {pos : Pos}
def tWhile (c : TT) (tb : TS) : TS := fun D σ H => ∃ W : Nat → St → Hp → Prop, (∃ m, W m σ H) ∧ ∀ m σ H, W m σ H →
  c σ H fun b H1 => if b = true then ∃ N : St → Hp → Prop, (∀ σ' H', N σ' H' → ∃ m', m' < m ∧ W m' σ' H') ∧ tb { D with nx := N, ct := N, bk := D.nx } σ H1 else D.nx σ H1
theorem ps_while {c : Expr} {body : List Stmt} {tc : TT} {tb : TS} (hp : PassesOwn (model X.prog X.w) X.A X.env X.xe) (hc : PT X c tc) (hb : PSs X body tb) : PS X (.While c body [] pos) (tWhile tc tb) := by
  intro pins s σ H D I h
  obtain ⟨W, ⟨m0, w0⟩, turn⟩ := h
  refine wpAny_While (codeAny_whileLoop (fun n s' => ∃ σ' H', Inv X pins σ' H' s' ∧ W n σ' H') ?_ m0 ⟨σ, H, I, w0⟩)
  rintro n s1 ⟨σ1, H1, I1, w1⟩
  refine wpAny_passesOwn hp (thn (hc pins s1 σ1 H1 _ I1 (turn n σ1 H1 w1)) fun b s2 ⟨H2, I2, q2⟩ => ?_)
  cases b with
  | true =>
    obtain ⟨N, hN, q2⟩ := q2
    rw [if_pos rfl]
    refine wpAny_passesOwn hp (thn (hb pins s2 σ1 H2 _ I2 q2) fun f s3 q3 => ?_)
    cases f with
    | next =>
      obtain ⟨σ3, H3, I3, n3⟩ := q3
      obtain ⟨m', hm, w3⟩ := hN σ3 H3 n3
      exact ⟨m', hm, σ3, H3, I3, w3⟩
    | cont =>
      obtain ⟨σ3, H3, I3, n3⟩ := q3
      obtain ⟨m', hm, w3⟩ := hN σ3 H3 n3
      exact ⟨m', hm, σ3, H3, I3, w3⟩
    | brk => exact q3
    | ret v => exact q3
  | false =>
    rw [if_neg Bool.false_ne_true]
    exact wpAny_execs_nil ⟨σ1, H2, I2, q2⟩
end
structure It where
  go : Nat → Hp → Prop
  yld : Nat → Hp → V → Hp → Prop
  stop : Nat → Hp → Prop
def FpOk (X : Cx) (pins : List (Addr × Obj)) (H : Hp) (b : Addr) : Prop :=
  H b = none ∧ b ≠ X.env.locals ∧ b ∉ X.fs ∧ (b ∈ X.ex ∨ X.s₀.heap.objs.size ≤ b) ∧ (∀ x c, X.env.cells.lookup x = some c → c ≠ b) ∧ ∀ p ∈ X.pn ++ pins, p.1 ≠ b
theorem Inv.fpOk {X : Cx} {pins : List (Addr × Obj)} {σ : St} {H H' : Hp} {s : Shared} {b : Addr} (I : Inv X pins σ H s) (hb : s.heap.objs.size ≤ b) (hn : H' b = none) : FpOk X pins H' b := by
  refine ⟨hn, Nat.ne_of_gt (Nat.lt_of_lt_of_le I.lt hb), I.nofs hb, .inr (Nat.le_trans I.sz hb), fun x c e z => ?_, fun p hp z => ?_⟩
  · obtain ⟨v, q⟩ := I.cell x c e
    exact absurd (Nat.lt_of_lt_of_le q.lt (by rw [z]; exact hb)) (Nat.lt_irrefl _)
  · exact absurd (Nat.lt_of_lt_of_le (Heap.lt_size (I.pin p hp).1) (by rw [z]; exact hb)) (Nat.lt_irrefl _)
structure Turn (P : Program) (w : World) (K : PySem.W.Frag) (tg : Expr) (J : It) (fp : List Addr) (it : Addr) (tn : Nat → Heap → Prop) : Prop where
  mem : it ∈ fp
  obj : ∀ i h, tn i h → ∀ b ∈ fp, ∃ o, h.get? b = some o ∧ ∀ v, o.data ≠ .cell v
  keep : ∀ i h h', tn i h → (∀ b ∈ fp, ∀ o, h.get? b = some o → h'.get? b = some o) → tn i h'
  item : ∀ (X : Cx), X.prog = P → X.w = w → X.K = K → X.calm = true → ∀ (i : Nat) (pins : List (Addr × Obj)) (s : Shared) (σ : St) (H : Hp) (E : Value → Shared → Prop), Inv X pins σ H s → (∀ b ∈ fp, FpOk X pins H b) → tn i s.heap → J.go i H →
    wpAny (model P w) X.A (pyNext (.ref it)) (fun r s1 => ∃ u, r = some u ∧
      wpAny (model P w) X.A (letOwnedTupleGo tg (.ref it) u) (fun _ s2 => ∃ x H', Inv X pins σ H' s2 ∧ RelV x u ∧ J.yld i H x H' ∧ tn (i + 1) s2.heap ∧ ∀ b ∈ fp, H' b = none) E s1) E s
  done : ∀ (X : Cx), X.prog = P → X.w = w → X.K = K → X.calm = true → ∀ (i : Nat) (pins : List (Addr × Obj)) (s : Shared) (σ : St) (H : Hp) (E : Value → Shared → Prop), Inv X pins σ H s → (∀ b ∈ fp, FpOk X pins H b) → tn i s.heap → J.stop i H →
    wpAny (model P w) X.A (pyNext (.ref it)) (fun r s1 => r = none ∧ Inv X pins σ H s1) E s
  self : ∀ (A : Around) (i : Nat) (s : Shared) (Q : Value → Shared → Prop) (E : Value → Shared → Prop), tn i s.heap → Q (.ref it) s → wpAny (model P w) A (pyIter (.ref it)) Q E s
abbrev TI := St → Hp → (It → Hp → Prop) → Prop
def PIE (X : Cx) (pins : List (Addr × Obj)) (σ : St) (tg : Expr) (R : It → Hp → Prop) (itv : Value) (s2 : Shared) : Prop :=
  ∃ (it : Addr) (fp : List Addr) (tn : Nat → Heap → Prop) (J : It) (H' : Hp), itv = .ref it ∧ Inv X pins σ H' s2 ∧ Turn X.prog X.w X.K tg J fp it tn ∧ tn 0 s2.heap ∧ (∀ b ∈ fp, FpOk X pins H' b) ∧ R J H'
def PI (X : Cx) (tg iter : Expr) (wi : TI) : Prop :=
  ∀ (pins : List (Addr × Obj)) (s : Shared) (σ : St) (H : Hp) (R : It → Hp → Prop), Inv X pins σ H s → wi σ H R →
    wpAny (model X.prog X.w) X.A (eval iter X.env) (fun v s1 => wpAny (model X.prog X.w) X.A (pyIter v) (PIE X pins σ tg R) X.xe s1) X.xe s
theorem go_of {M : Model} {A : Around} {E : Value → Shared → Prop} {s : Shared} {tg : Expr} {it : Addr} {u : Value} {o : Obj} {n : String} {vs : Array Value} {Q : Unit → Shared → Prop} (ho : s.heap.get? it = some o) (hc : o.cls = .type n) (hd : o.data = .fields vs)
    (hn : ["enumerate", "zip", "dict_itemiterator", "dict_reverseitemiterator", "odict_iterator", "itertools.zip_longest", "itertools.pairwise"].contains n = false) (hQ : Q () s) : wpAny M A (letOwnedTupleGo tg (.ref it) u) Q E s := by
  unfold letOwnedTupleGo
  cases tg <;> first
    | exact wpAny_pure hQ
    | (cases u <;> first
        | exact wpAny_pure hQ
        | (refine wpAny_bind (wpAny_load ho ?_)
           rw [hc, hd]
           show wpAny M A (if (["enumerate", "zip", "dict_itemiterator", "dict_reverseitemiterator", "odict_iterator", "itertools.zip_longest", "itertools.pairwise"].contains n && vs[0]? == some (rawInt _)) = true then _ else _) Q E s
           rw [if_neg (by intro h; rw [hn, Bool.false_and] at h; cases h)]
           exact wpAny_pure hQ))
def Itl (K : PySem.W.Frag) (a : Addr) : It :=
  ⟨fun i H => ∃ xs x, SqL K H a xs ∧ xs[i]? = some x, fun i H x H' => H' = H ∧ ∀ xs, SqL K H a xs → xs[i]? = some x, fun i H => ∃ xs, SqL K H a xs ∧ xs.length ≤ i⟩
def Itt (K : PySem.W.Frag) (a : Addr) : It :=
  ⟨fun i H => ∃ xs x, SqT K H a xs ∧ xs[i]? = some x, fun i H x H' => H' = H ∧ ∀ xs, SqT K H a xs → xs[i]? = some x, fun i H => ∃ xs, SqT K H a xs ∧ xs.length ≤ i⟩
def Itr (lo : Int) (n : Nat) : It := ⟨fun i _ => i < n, fun i H x H' => H' = H ∧ x = .int (lo + i), fun i _ => n ≤ i⟩
theorem turn_list {P : Program} {w : World} {K : PySem.W.Frag} {tg : Expr} (a it : Addr) : Turn P w K tg (Itl K a) [it] it (fun i h => h.IsListIter it a i) where
  mem := by simp
  obj := fun i h st b hb => by
    have e : b = it := by simpa using hb
    subst e
    obtain ⟨o, e, c, d⟩ := st
    exact ⟨o, e, fun v z => by rw [d] at z; cases z⟩
  keep := fun i h h' st k => st.at fun o e => k it (by simp) o e
  item := by
    intro X hP hw hK hc i pins s σ H E I hf st hg
    subst hP hw hK
    obtain ⟨xs, x, hq, hx⟩ := hg
    obtain ⟨its, rv, p, hz⟩ := I.list hq
    obtain ⟨u, hu, ru⟩ := rv.get hx
    obtain ⟨f0, f1, f2, f3, f4, f5⟩ := hf it (by simp)
    refine wpAny_pyNext_list_item st p.isList (x := u) (by simpa using hu) fun h' st' sb => ?_
    have I1 : Inv X pins σ H { s with heap := h' } := I.turned (t' := s.toks) (fun b o hb e => (sb.2 b hb).trans e) f0 f1 f3 f4 f5
    obtain ⟨o, e, c, d⟩ := id st'
    exact ⟨u, rfl, go_of (s := { s with heap := h' }) e c d (by decide) ⟨x, H, I1, ru, ⟨rfl, fun ys hy => by rw [I.list_inj hy hq]; exact hx⟩, st', fun b hb => (hf b hb).1⟩⟩
  done := by
    intro X hP hw hK hc i pins s σ H E I hf st hg
    subst hP hw hK
    obtain ⟨xs, hq, hx⟩ := hg
    obtain ⟨its, rv, p, hz⟩ := I.list hq
    obtain ⟨f0, f1, f2, f3, f4, f5⟩ := hf it (by simp)
    have hl := rv.length
    exact wpAny_pyNext_list_end (I.ok.hd hc) st p.isList (by simp; omega) fun h' eb => ⟨rfl, I.turned (t' := s.toks) (fun b o hb e => eb b o hb e) f0 f1 f3 f4 f5⟩
  self := fun _ _ _ _ _ st h => wpAny_pyIter_listiter st h
theorem turn_tuple {P : Program} {w : World} {K : PySem.W.Frag} {tg : Expr} (a it : Addr) : Turn P w K tg (Itt K a) [it] it (fun i h => h.IsTupleIter it a i) where
  mem := by simp
  obj := fun i h st b hb => by
    have e : b = it := by simpa using hb
    subst e
    obtain ⟨o, e, c, d⟩ := st
    exact ⟨o, e, fun v z => by rw [d] at z; cases z⟩
  keep := fun i h h' st k => st.at fun o e => k it (by simp) o e
  item := by
    intro X hP hw hK hc i pins s σ H E I hf st hg
    subst hP hw hK
    obtain ⟨xs, x, hq, hx⟩ := hg
    obtain ⟨its, rv, p, hz⟩ := I.tuple hq
    obtain ⟨u, hu, ru⟩ := rv.get hx
    obtain ⟨f0, f1, f2, f3, f4, f5⟩ := hf it (by simp)
    refine wpAny_pyNext_tuple_item st (show s.heap.IsTuple a its.toArray from p) (x := u) (by simpa using hu) fun h' st' sb => ?_
    have I1 : Inv X pins σ H { s with heap := h' } := I.turned (t' := s.toks) (fun b o hb e => (sb.2 b hb).trans e) f0 f1 f3 f4 f5
    obtain ⟨o, e, c, d⟩ := id st'
    exact ⟨u, rfl, go_of (s := { s with heap := h' }) e c d (by decide) ⟨x, H, I1, ru, ⟨rfl, fun ys hy => by rw [I.tuple_inj hy hq]; exact hx⟩, st', fun b hb => (hf b hb).1⟩⟩
  done := by
    intro X hP hw hK hc i pins s σ H E I hf st hg
    subst hP hw hK
    obtain ⟨xs, hq, hx⟩ := hg
    obtain ⟨its, rv, p, hz⟩ := I.tuple hq
    obtain ⟨f0, f1, f2, f3, f4, f5⟩ := hf it (by simp)
    have hl := rv.length
    exact wpAny_pyNext_tuple_end (I.ok.hd hc) st (show s.heap.IsTuple a its.toArray from p) (by simp; omega) fun h' eb => ⟨rfl, I.turned (t' := s.toks) (fun b o hb e => eb b o hb e) f0 f1 f3 f4 f5⟩
  self := fun _ _ _ _ _ st h => wpAny_pyIter_tupleiter st h
theorem turn_range {P : Program} {w : World} {K : PySem.W.Frag} {tg : Expr} (it : Addr) (lo : Int) (n : Nat) : Turn P w K tg (Itr lo n) [it] it (fun i h => IsRangeIter h it (lo + (i : Nat) * 1) ((n : Int) - (i : Nat)) 1) where
  mem := by simp
  obj := fun i h st b hb => by
    have e : b = it := by simpa using hb
    subst e
    exact ⟨_, st, fun v z => by
      have z' : Data.fields _ = Data.cell v := z
      cases z'⟩
  keep := fun i h h' st k => k it (by simp) _ st
  item := by
    intro X hP hw hK hc i pins s σ H E I hf st hg
    subst hP hw hK
    obtain ⟨f0, f1, f2, f3, f4, f5⟩ := hf it (by simp)
    have W := Walks.range (prog := X.prog) (w := X.w) (I.ok.hd hc) it lo 1 n
    refine W.item i s _ _ hg st fun v h' tk hv st' kk => ?_
    obtain ⟨t, rfl⟩ := hv
    have I1 : Inv X pins σ H { s with heap := h', toks := tk } := I.turned (fun b o hb e => kk b o (by simpa using hb) e) f0 f1 f3 f4 f5
    refine ⟨_, rfl, go_of (s := { s with heap := h', toks := tk }) (n := "range_iterator") st' rfl rfl (by decide) ⟨.int (lo + i), H, I1, ⟨t, ?_⟩, ⟨rfl, rfl⟩, st', fun b hb => (hf b hb).1⟩⟩
    rw [Int.mul_one]
  done := by
    intro X hP hw hK hc i pins s σ H E I hf st hg
    subst hP hw hK
    obtain ⟨f0, f1, f2, f3, f4, f5⟩ := hf it (by simp)
    exact wpAny_pyNext_range_end (I.ok.hd hc) st (by have : n ≤ i := hg; omega) fun h' eb => ⟨rfl, I.turned (t' := s.toks) (fun b o hb e => eb b o hb e) f0 f1 f3 f4 f5⟩
  self := fun _ _ _ _ _ st h => wpAny_pyIter_rangeiter st h
end L2
namespace L2
open PySem PySem.Spec PyProof.Rows
section
variable {X : Cx} {tg : Expr}
theorem range_it {pins : List (Addr × Obj)} {σ : St} {H : Hp} {s : Shared} {R : It → Hp → Prop} {E : Value → Shared → Prop} {lo hi : Int} {t u v : Tok} {tk : Nat} (I : Inv X pins σ H s) (h1 : -(2 ^ 62) ≤ lo) (h2 : lo < 2 ^ 62) (h3 : -(2 ^ 62) ≤ hi) (h4 : hi < 2 ^ 62)
    (q : R (Itr lo (hi - lo).toNat) H) : wpAny (model X.prog X.w) X.A (pyIter (.ref s.heap.objs.size)) (PIE X pins σ tg R) E { s with heap := s.heap.push { cls := .type "range", data := .fields #[.int lo t, .int hi u, .int 1 v] }, toks := tk } := by
  refine wpAny_pyIter_range (IsRange.new ..) (small_one h1 h2 h3 h4) ?_
  have I1 : Inv X pins σ H { s with heap := s.heap.push { cls := .type "range", data := .fields #[.int lo t, .int hi u, .int 1 v] }, toks := tk } := I.kept fun b o e => Heap.get?_push_of_some _ e
  refine ⟨(s.heap.push { cls := .type "range", data := .fields #[.int lo t, .int hi u, .int 1 v] }).objs.size, [(s.heap.push { cls := .type "range", data := .fields #[.int lo t, .int hi u, .int 1 v] }).objs.size], _, _, H, rfl,
    I1.kept (t' := tk) fun b o e => Heap.get?_push_of_some _ e, turn_range _ lo (hi - lo).toNat, ?_, fun b hb => ?_, q⟩
  · have e1 : lo + ((0 : Nat) : Int) * 1 = lo := by simp
    have e2 : (((hi - lo).toNat : Nat) : Int) - ((0 : Nat) : Int) = Builtin.Range.rangeSize lo hi 1 := by rw [rangeSize_one]; split <;> omega
    show IsRangeIter _ _ (lo + ((0 : Nat) : Int) * 1) ((((hi - lo).toNat : Nat) : Int) - ((0 : Nat) : Int)) 1
    rw [e1, e2]
    exact Heap.get?_push_size _ rfl
  · have e : b = (s.heap.push { cls := .type "range", data := .fields #[.int lo t, .int hi u, .int 1 v] }).objs.size := by simpa using hb
    subst e
    exact I1.fpOk (Nat.le_refl _) (I1.hok.fresh (Nat.le_refl _))
def iRng1 (ta : TA) : TI := fun σ H R => ta σ H fun vs H1 => ∃ j : Int, vs = [.int j] ∧ -(2 ^ 62) ≤ j ∧ j < 2 ^ 62 ∧ R (Itr 0 j.toNat) H1
theorem pi_range1 {a : Expr} {ta : TA} {p pos : Pos} (hg : Gl X "range") (hm : X.mg "range" = none) (ha : PA X [a] ta) (hs : starEach [a] X.env = [(false, eval a X.env)] := by rfl) : PI X tg (.Call (.Name "range" p) [a] [] pos) (iRng1 ta) := by
  intro pins s σ H R I h
  refine Call_ (ld_blt I hg hm boot_range (PyProof.Rows.callWith_type1 (thn (ha pos pins s σ H _ I h) fun us s1 ⟨vs, H1, I1, r1, q1⟩ => ?_) hs rfl))
  obtain ⟨j, e, q1, q2, q⟩ := q1
  subst e
  cases r1 with
  | cons r rr =>
    cases rr
    obtain ⟨t, rfl⟩ := r
    exact call_range_1 (range_it I1 (by omega) (by omega) q1 q2 (by simpa using q))
def tFor (wi : TI) (g : TG) (tb : TS) : TS := fun D σ H => wi σ H fun J H1 => ∃ W : Nat → Nat → St → Hp → Prop, (∃ m, W 0 m σ H1) ∧ ∀ i m σ H, W i m σ H →
  (J.stop i H ∧ D.nx σ H) ∨ (J.go i H ∧ ∃ N : St → Hp → Prop, (∀ σ' H', N σ' H' → ∃ m', m' < m ∧ W (i + 1) m' σ' H') ∧ ∀ x H', J.yld i H x H' → g x σ H' fun σ2 H2 => tb { D with nx := N, ct := N, bk := D.nx } σ2 H2)
def pinsAt (fp : List Addr) (h : Heap) : List (Addr × Obj) := fp.filterMap fun b => (h.get? b).map fun o => (b, o)
theorem mem_pinsAt {fp : List Addr} {h : Heap} {b : Addr} {o : Obj} (hb : b ∈ fp) (e : h.get? b = some o) : (b, o) ∈ pinsAt fp h := List.mem_filterMap.mpr ⟨b, hb, by rw [e]; rfl⟩
theorem of_pinsAt {fp : List Addr} {h : Heap} {p : Addr × Obj} (hp : p ∈ pinsAt fp h) : p.1 ∈ fp ∧ h.get? p.1 = some p.2 := by
  obtain ⟨b, hb, e⟩ := List.mem_filterMap.mp hp
  cases q : h.get? b with
  | none => rw [q] at e; cases e
  | some o =>
    rw [q] at e
    have e' : (b, o) = p := Option.some.inj e
    subst e'
    exact ⟨hb, q⟩
theorem Inv.pinned {pins : List (Addr × Obj)} {σ : St} {H : Hp} {s : Shared} {fp : List Addr} (I : Inv X pins σ H s) (hf : ∀ b ∈ fp, FpOk X pins H b) (ho : ∀ b ∈ fp, ∃ o, s.heap.get? b = some o ∧ ∀ v, o.data ≠ .cell v) : Inv X (pins ++ pinsAt fp s.heap) σ H s :=
  I.pins_of fun p hp => (List.mem_append.mp hp).elim (fun z => I.pin p (List.mem_append_right _ z)) fun z => by
    obtain ⟨hb, e⟩ := of_pinsAt z
    obtain ⟨f0, f1, f2, _⟩ := hf p.1 hb
    obtain ⟨o, e', d⟩ := ho p.1 hb
    rw [e] at e'; cases e'
    exact ⟨e, f0, f1, f2, d⟩
theorem Inv.unpinned {pins pl : List (Addr × Obj)} {σ : St} {H : Hp} {s : Shared} (I : Inv X (pins ++ pl) σ H s) : Inv X pins σ H s := I.pins_of fun p hp => I.pin p (List.mem_append_right _ (List.mem_append_left _ hp))
theorem ps_for {iter : Expr} {body : List Stmt} {wi : TI} {g : TG} {tb : TS} {pos : Pos} (hp : PassesOwn (model X.prog X.w) X.A X.env X.xe) (hc : X.calm = true) (hi : PI X tg iter wi) (hg : PG X tg g) (hb : PSs X body tb)
    (hs : ∀ x, foldedSetIterable iter X.env x = pure x := by intro _; rfl) : PS X (.For tg iter body [] pos) (tFor wi g tb) := by
  intro pins s σ H D I h
  refine wpAny_For (thn (hi pins s σ H _ I h) fun v s1 h1 => thn h1 fun itv s2 h2 => ?_) hs
  obtain ⟨it, fp, tn, J, H2, e, I2, T, st2, f2, W, ⟨m0, w0⟩, turn⟩ := h2
  subst e
  -- what stays true of the iterator's objects through the loop
  have stat : ∀ {H' : Hp}, (∀ b ∈ fp, H' b = none) → ∀ b ∈ fp, FpOk X pins H' b := fun hn b hb => ⟨hn b hb, (f2 b hb).2⟩
  refine codeAny_forLoop_any (fun n s' => ∃ i σ' H', Inv X pins σ' H' s' ∧ tn i s'.heap ∧ (∀ b ∈ fp, H' b = none) ∧ W i n σ' H') ?_ m0 ⟨0, σ, H2, I2, st2, fun b hb => (f2 b hb).1, w0⟩
  rintro n s3 ⟨i, σ3, H3, I3, st3, fr3, w3⟩
  rcases turn i n σ3 H3 w3 with ⟨stop, qn⟩ | ⟨go, N, hN, step⟩
  · refine wpAny_passesOwn hp (thn (T.done X rfl rfl rfl hc i pins s3 σ3 H3 X.xe I3 (stat fr3) st3 stop) fun r s4 ⟨hr, I4⟩ => ?_)
    subst hr
    exact wpAny_execs_nil ⟨σ3, H3, I4, qn⟩
  · refine wpAny_passesOwn hp (thn (T.item X rfl rfl rfl hc i pins s3 σ3 H3 X.xe I3 (stat fr3) st3 go) fun r s4 ⟨u, hr, h4⟩ => ?_)
    subst hr
    refine wpAny_passesOwn hp (thn h4 fun _ s5 ⟨x, H5, I5, r5, y5, st5, fr5⟩ => ?_)
    have I5' := I5.pinned (stat fr5) (T.obj _ _ st5)
    refine wpAny_passesOwn hp (thn (hg _ s5 σ3 H5 x u _ I5' r5 (step x H5 y5)) fun _ s6 ⟨σ6, H6, I6, q6⟩ => ?_)
    refine wpAny_passesOwn hp (thn (hb _ s6 σ6 H6 _ I6 q6) fun f s7 q7 => ?_)
    have again : ∀ {σ7 : St} {H7 : Hp}, Inv X (pins ++ pinsAt fp s5.heap) σ7 H7 s7 → N σ7 H7 → ∃ m, m < n ∧ ∃ i σ' H', Inv X pins σ' H' s7 ∧ tn i s7.heap ∧ (∀ b ∈ fp, H' b = none) ∧ W i m σ' H' := fun {σ7 H7} I7 n7 => by
      obtain ⟨m', hm, w7⟩ := hN σ7 H7 n7
      refine ⟨m', hm, i + 1, σ7, H7, I7.unpinned, T.keep _ _ _ st5 fun b hb o e => (I7.pin (b, o) (List.mem_append_right _ (List.mem_append_right _ (mem_pinsAt hb e)))).1, fun b hb => ?_, w7⟩
      obtain ⟨o, e, d⟩ := T.obj _ _ st5 b hb
      exact (I7.pin (b, o) (List.mem_append_right _ (List.mem_append_right _ (mem_pinsAt hb e)))).2.1
    cases f with
    | next => obtain ⟨σ7, H7, I7, n7⟩ := q7; exact again I7 n7
    | cont => obtain ⟨σ7, H7, I7, n7⟩ := q7; exact again I7 n7
    | brk => obtain ⟨σ7, H7, I7, q7⟩ := q7; exact ⟨σ7, H7, I7.unpinned, q7⟩
    | ret v => obtain ⟨x7, σ7, H7, I7, r7, q7⟩ := q7; exact ⟨x7, σ7, H7, I7.unpinned, r7, q7⟩
end
end L2
namespace L2
open PySem PySem.Spec PyProof.Rows
abbrev R2 := V → V → Hp → VK → Prop
def OpR (X : Cx) (f : Value → Value → Sem Value) (r : R2) : Prop :=
  ∀ (pins : List (Addr × Obj)) (s : Shared) (σ : St) (H : Hp) (x y : V) (v u : Value) (Q : VK), Inv X pins σ H s → RelV x v → RelV y u → r x y H Q →
    wpAny (model X.prog X.w) X.A (f v u) (EP X pins σ Q) X.xe s
def CallR (X : Cx) (f : Value) (r : List V → Hp → VK → Prop) : Prop :=
  ∀ (pins : List (Addr × Obj)) (s : Shared) (σ : St) (H : Hp) (xs : List V) (us : List Value) (Q : VK), Inv X pins σ H s → Vals xs us → r xs H Q →
    wpAny (model X.prog X.w) X.A (call f us) (EP X pins σ Q) X.xe s
def TruR (X : Cx) (r : V → Hp → (Bool → Hp → Prop) → Prop) : Prop :=
  ∀ (pins : List (Addr × Obj)) (s : Shared) (σ : St) (H : Hp) (x : V) (v : Value) (Q : Bool → Hp → Prop), Inv X pins σ H s → RelV x v → r x H Q →
    wpAny (model X.prog X.w) X.A (truthy v) (TP X pins σ Q) X.xe s
def tOp (r : R2) (ta tb : TE) : TE := fun σ H Q => ta σ H fun x H1 => tb σ H1 fun y H2 => r x y H2 Q
def rI (C : Int → Int → Prop) (g : Int → Int → V) : R2 := fun x y H Q => ∃ i j, x = .int i ∧ y = .int j ∧ C i j ∧ Q (g i j) H
def rI0 (g : Int → Int → V) : R2 := fun x y H Q => ∃ i j, x = .int i ∧ y = .int j ∧ Q (g i j) H
section
variable {X : Cx} {a b c : Expr} {ta tb tc : TE} {pos : Pos}
theorem binT (ha : PE X a ta) (hb : PE X b tb) {pins : List (Addr × Obj)} {s : Shared} {σ : St} {H : Hp} {R : V → V → Hp → Prop} (I : Inv X pins σ H s)
    (h : ta σ H fun x H1 => tb σ H1 fun y H2 => R x y H2) {Q : Value → Shared → Prop} {f : Value → Value → Sem Value}
    (hf : ∀ v u s2 x y H2, Inv X pins σ H2 s2 → RelV x v → RelV y u → R x y H2 → wpAny (model X.prog X.w) X.A (f v u) Q X.xe s2) :
    wpAny (model X.prog X.w) X.A (eval a X.env) (fun v s₁ => wpAny (model X.prog X.w) X.A (eval b X.env) (fun u s₂ => wpAny (model X.prog X.w) X.A (f v u) Q X.xe s₂) X.xe s₁) X.xe s := by
  refine thn (ha pins s σ H _ I h) fun v s1 ⟨x, H1, I1, r1, q1⟩ => ?_
  refine thn (hb pins s1 σ H1 _ I1 q1) fun u s2 ⟨y, H2, I2, r2, q2⟩ => ?_
  exact hf v u s2 x y H2 I2 r1 r2 q2
theorem pe_op {op : Operator} {r : R2} (ho : OpR X (binaryOp op) r) (ha : PE X a ta) (hb : PE X b tb) : PE X (.BinOp a op b pos) (tOp r ta tb) := by
  intro pins s σ H Q I h
  exact wpAny_BinOp (binT ha hb I h fun v u s2 x y H2 I2 rx ry q => ho pins s2 σ H2 x y v u Q I2 rx ry q)
theorem opI {f : Value → Value → Sem Value} {C : Int → Int → Prop} {g : Int → Int → Int}
    (rule : ∀ (i j : Int) (t u : Tok) (s : Shared) (Q : Value → Shared → Prop) (E : Value → Shared → Prop), C i j → Q (.int (g i j) s.toks) { s with toks := s.toks + 1 } → wpAny (model X.prog X.w) X.A (f (.int i t) (.int j u)) Q E s) :
    OpR X f (rI C fun i j => .int (g i j)) := by
  intro pins s σ H x y v u Q I rx ry h
  obtain ⟨i, j, rfl, rfl, hc, q⟩ := h
  obtain ⟨t, rfl⟩ := rx
  obtain ⟨t', rfl⟩ := ry
  exact rule i j t t' s _ _ hc ⟨.int (g i j), H, I.tok _, ⟨_, rfl⟩, q⟩
theorem opI0 {f : Value → Value → Sem Value} {g : Int → Int → Int}
    (rule : ∀ (i j : Int) (t u : Tok) (s : Shared) (Q : Value → Shared → Prop) (E : Value → Shared → Prop), Q (.int (g i j) s.toks) { s with toks := s.toks + 1 } → wpAny (model X.prog X.w) X.A (f (.int i t) (.int j u)) Q E s) :
    OpR X f (rI0 fun i j => .int (g i j)) := by
  intro pins s σ H x y v u Q I rx ry h
  obtain ⟨i, j, rfl, rfl, q⟩ := h
  obtain ⟨t, rfl⟩ := rx
  obtain ⟨t', rfl⟩ := ry
  exact rule i j t t' s _ _ ⟨.int (g i j), H, I.tok _, ⟨_, rfl⟩, q⟩
theorem opB0 {f : Value → Value → Sem Value} {g : Int → Int → Bool}
    (rule : ∀ (i j : Int) (t u : Tok) (s : Shared) (Q : Value → Shared → Prop) (E : Value → Shared → Prop), Q (.bool (g i j)) s → wpAny (model X.prog X.w) X.A (f (.int i t) (.int j u)) Q E s) :
    OpR X f (rI0 fun i j => .bl (g i j)) := by
  intro pins s σ H x y v u Q I rx ry h
  obtain ⟨i, j, rfl, rfl, q⟩ := h
  obtain ⟨t, rfl⟩ := rx
  obtain ⟨t', rfl⟩ := ry
  exact rule i j t t' s _ _ ⟨.bl (g i j), H, I, rfl, q⟩
def CDiv (i j : Int) : Prop := 0 < j ∧ j < 1073741824
def CPow (i j : Int) : Prop := 0 ≤ j ∧ j ≤ 1000000 ∧ i.natAbs < 2 ^ 64
def CMul (i j : Int) : Prop := (-(2 ^ 64) < i ∧ i < 2 ^ 64) ∨ (-(2 ^ 64) < j ∧ j < 2 ^ 64)
theorem CMul.ok {i j : Int} (h : CMul i j) : IntMulOk i j := by
  rcases h with ⟨h1, h2⟩ | ⟨h1, h2⟩
  · exact .of_left (intBits_le_64 h1 h2)
  · exact .of_right (intBits_le_64 h1 h2)
theorem op_add : OpR X (binaryOp .Add) (rI0 fun i j => .int (i + j)) := opI0 fun _ _ _ _ _ _ _ q => add_int q
theorem op_sub : OpR X (binaryOp .Sub) (rI0 fun i j => .int (i - j)) := opI0 fun _ _ _ _ _ _ _ q => sub_int q
theorem op_fdiv : OpR X (binaryOp .FloorDiv) (rI CDiv fun i j => .int (i / j)) := opI fun i j _ _ _ _ _ hc q => by
  have h1 : (0 : Int) < j := hc.1
  have h2 : j < 1073741824 := hc.2
  exact floordiv_int (by omega) (by rw [Int.fdiv_eq_ediv_of_nonneg i (by omega)]; exact q) (.inl (PyProof.noPylong_small (by omega)))
theorem op_mod : OpR X (binaryOp .Mod) (rI (fun _ j => 0 < j) fun i j => .int (i % j)) := opI fun i j _ _ _ _ _ hc q => by
  have h1 : (0 : Int) < j := hc
  exact mod_int' (by omega) (by rw [Int.fmod_eq_emod_of_nonneg i (by omega)]; exact q)
theorem op_pow : OpR X (binaryOp .Pow) (rI CPow fun i j => .int (i ^ j.toNat)) := opI fun _ _ _ _ _ _ _ hc q => pow_int_small hc.1 hc.2.1 hc.2.2 q
end
def scal : V → V → Bool
  | .non, .non => true | .non, .int _ => true | .int _, .non => true | .non, .bl _ => true | .bl _, .non => true | .non, .str _ => true | .str _, .non => true
  | .int _, .int _ => true | .bl _, .bl _ => true | .str _, .str _ => true | .byt _, .byt _ => true
  | .int _, .str _ => true | .str _, .int _ => true | .bl _, .str _ => true | .str _, .bl _ => true
  | _, _ => false
def rEq : R2 := fun x y H Q => scal x y = true ∧ Q (.bl (decide (x = y))) H
def rNe : R2 := fun x y H Q => scal x y = true ∧ Q (.bl (!decide (x = y))) H
theorem dec_int {i j : Int} : decide (V.int i = V.int j) = (i == j) := by
  rw [Bool.eq_iff_iff]
  simp
theorem dec_bl {i j : Bool} : decide (V.bl i = V.bl j) = (i == j) := by
  rw [Bool.eq_iff_iff]
  simp
theorem dec_str {i j : Str} : decide (V.str i = V.str j) = (i == j) := by
  rw [Bool.eq_iff_iff]
  simp
theorem dec_byt {i j : Array UInt8} : decide (V.byt i = V.byt j) = (i.toList == j.toList) := by
  rw [Bool.eq_iff_iff]
  cases i
  cases j
  simp
section
variable {X : Cx} {a b c : Expr} {ta tb tc : TE} {pos : Pos}
theorem fin_bl {pins : List (Addr × Obj)} {σ : St} {H : Hp} {s : Shared} {Q : VK} {k k' : Bool} (I : Inv X pins σ H s) (q : Q (.bl k) H) (e : k = k') : EP X pins σ Q (.bool k') s := by
  subst e
  exact ⟨.bl k, H, I, rfl, q⟩
theorem op_eq : OpR X (compareOp .Eq) rEq := by
  intro pins s σ H x y v u Q I rx ry h
  obtain ⟨hs, q⟩ := h
  cases x with
  | non =>
    cases rx
    cases y with
    | non => cases ry; exact PySem.EqNone.eq_none_none (fin_bl I q (by simp))
    | bl j => cases ry; exact PySem.EqNone.eq_none_bool (fin_bl I q (by simp))
    | int j => obtain ⟨t', rfl⟩ := ry; exact PySem.EqNone.eq_none_int (fin_bl I q (by simp))
    | str j => obtain ⟨t', rfl⟩ := ry; exact PySem.EqNone.eq_none_str (fin_bl I q (by simp))
    | _ => exact absurd (show false = true from hs) Bool.false_ne_true
  | bl i =>
    cases rx
    cases y with
    | non => cases ry; exact PySem.EqNone.eq_bool_none (fin_bl I q (by simp))
    | bl j => cases ry; exact eq_bool (fin_bl I q dec_bl)
    | str j => obtain ⟨t', rfl⟩ := ry; exact PySem.EqMixed.eq_bool_str (fin_bl I q (by simp))
    | _ => exact absurd (show false = true from hs) Bool.false_ne_true
  | int i =>
    obtain ⟨t, rfl⟩ := rx
    cases y with
    | non => cases ry; exact PySem.EqNone.eq_int_none (fin_bl I q (by simp))
    | int j => obtain ⟨t', rfl⟩ := ry; exact eq_int (fin_bl I q dec_int)
    | str j => obtain ⟨t', rfl⟩ := ry; exact PySem.EqMixed.eq_int_str (fin_bl I q (by simp))
    | _ => exact absurd (show false = true from hs) Bool.false_ne_true
  | str i =>
    obtain ⟨t, rfl⟩ := rx
    cases y with
    | non => cases ry; exact PySem.EqNone.eq_str_none (fin_bl I q (by simp))
    | bl j => cases ry; exact PySem.EqMixed.eq_str_bool (fin_bl I q (by simp))
    | int j => obtain ⟨t', rfl⟩ := ry; exact PySem.EqMixed.eq_str_int (fin_bl I q (by simp))
    | str j => obtain ⟨t', rfl⟩ := ry; exact eq_str (fin_bl I q dec_str)
    | _ => exact absurd (show false = true from hs) Bool.false_ne_true
  | byt i =>
    obtain ⟨t, rfl⟩ := rx
    cases y with
    | byt j => obtain ⟨t', rfl⟩ := ry; exact PySem.W.eq_bytes (fin_bl I q dec_byt)
    | _ => exact absurd (show false = true from hs) Bool.false_ne_true
  | _ => cases y <;> exact absurd (show false = true from hs) Bool.false_ne_true
theorem op_ne : OpR X (compareOp .NotEq) rNe := by
  intro pins s σ H x y v u Q I rx ry h
  obtain ⟨hs, q⟩ := h
  cases x with
  | non =>
    cases rx
    cases y with
    | non => cases ry; exact PySem.EqNone.ne_none_none (fin_bl I q (by simp))
    | bl j => cases ry; exact PySem.EqNone.ne_none_bool (fin_bl I q (by simp))
    | int j => obtain ⟨t', rfl⟩ := ry; exact PySem.EqNone.ne_none_int (fin_bl I q (by simp))
    | str j => obtain ⟨t', rfl⟩ := ry; exact PySem.EqNone.ne_none_str (fin_bl I q (by simp))
    | _ => exact absurd (show false = true from hs) Bool.false_ne_true
  | bl i =>
    cases rx
    cases y with
    | non => cases ry; exact PySem.EqNone.ne_bool_none (fin_bl I q (by simp))
    | bl j => cases ry; exact ne_bool (fin_bl I q (congrArg not dec_bl))
    | str j => obtain ⟨t', rfl⟩ := ry; exact PySem.EqMixed.ne_bool_str (fin_bl I q (by simp))
    | _ => exact absurd (show false = true from hs) Bool.false_ne_true
  | int i =>
    obtain ⟨t, rfl⟩ := rx
    cases y with
    | non => cases ry; exact PySem.EqNone.ne_int_none (fin_bl I q (by simp))
    | int j => obtain ⟨t', rfl⟩ := ry; exact ne_int (fin_bl I q (congrArg not dec_int))
    | str j => obtain ⟨t', rfl⟩ := ry; exact PySem.EqMixed.ne_int_str (fin_bl I q (by simp))
    | _ => exact absurd (show false = true from hs) Bool.false_ne_true
  | str i =>
    obtain ⟨t, rfl⟩ := rx
    cases y with
    | non => cases ry; exact PySem.EqNone.ne_str_none (fin_bl I q (by simp))
    | bl j => cases ry; exact PySem.EqMixed.ne_str_bool (fin_bl I q (by simp))
    | int j => obtain ⟨t', rfl⟩ := ry; exact PySem.EqMixed.ne_str_int (fin_bl I q (by simp))
    | str j => obtain ⟨t', rfl⟩ := ry; exact ne_str (fin_bl I q (congrArg not dec_str))
    | _ => exact absurd (show false = true from hs) Bool.false_ne_true
  | byt i =>
    obtain ⟨t, rfl⟩ := rx
    cases y with
    | byt j => obtain ⟨t', rfl⟩ := ry; exact PySem.W.ne_bytes (fin_bl I q (congrArg not dec_byt))
    | _ => exact absurd (show false = true from hs) Bool.false_ne_true
  | _ => cases y <;> exact absurd (show false = true from hs) Bool.false_ne_true
theorem op_lt : OpR X (compareOp .Lt) (rI0 fun i j => .bl (decide (i < j))) := opB0 fun _ _ _ _ _ _ _ q => lt_int q
theorem op_le : OpR X (compareOp .LtE) (rI0 fun i j => .bl (decide (i ≤ j))) := opB0 fun _ _ _ _ _ _ _ q => le_int q
theorem op_gt : OpR X (compareOp .Gt) (rI0 fun i j => .bl (decide (j < i))) := opB0 fun _ _ _ _ _ _ _ q => gt_int q
theorem op_ge : OpR X (compareOp .GtE) (rI0 fun i j => .bl (decide (j ≤ i))) := opB0 fun _ _ _ _ _ _ _ q => ge_int q
theorem op_isN : OpR X (compareOp .Is) (fun x y H Q => y = .non ∧ Q (.bl (decide (x = .non))) H) := by
  intro pins s σ H x y v u Q I rx ry h
  obtain ⟨rfl, q⟩ := h
  cases ry
  refine is_none_gen (fin_bl I q ?_)
  cases x <;> first
    | (cases rx; rfl)
    | (obtain ⟨t, rfl⟩ := rx; rfl)
theorem OpR.or {f : Value → Value → Sem Value} {r r' : R2} (h : OpR X f r) (h' : OpR X f r') : OpR X f (fun x y H Q => r x y H Q ∨ r' x y H Q) := by
  intro pins s σ H x y v u Q I rx ry q
  rcases q with q | q
  · exact h pins s σ H x y v u Q I rx ry q
  · exact h' pins s σ H x y v u Q I rx ry q
theorem nomark (b : Expr) {op : CmpOp} (h : op ≠ .In := by decide) (h2 : op ≠ .NotIn := by decide) : behindInMarks op b = false := by
  have e1 : (op == CmpOp.In) = false := by cases op <;> first | rfl | exact absurd rfl h
  have e2 : (op == CmpOp.NotIn) = false := by cases op <;> first | rfl | exact absurd rfl h2
  cases b <;> simp [behindInMarks, e1, e2]
theorem pe_cmpR {op : CmpOp} {r : R2} (ho : OpR X (compareOp op) r) (ha : PE X a ta) (hb : PE X b tb) (hm : behindInMarks op b = false) : PE X (.Compare a [op] [b] pos) (tOp r ta tb) := by
  intro pins s σ H Q I h
  exact wpAny_Compare1 (binT ha hb I h fun v u s2 x y H2 I2 rx ry q => ho pins s2 σ H2 x y v u Q I2 rx ry q) hm
def tTest (t : TE) : TT := fun σ H Q => t σ H fun x H' => ∃ k, x = .bl k ∧ Q k H'
theorem pt_cmpR {op : CmpOp} {r : R2} (ho : OpR X (compareOp op) r) (ha : PE X a ta) (hb : PE X b tb) (hm : behindInMarks op b = false) : PT X (.Compare a [op] [b] pos) (tTest (tOp r ta tb)) := by
  intro pins s σ H Q I h
  refine wpAny_isTrue_Compare1 (thn (ha pins s σ H _ I h) fun v s1 ⟨x, H1, I1, r1, q1⟩ => thn (hb pins s1 σ H1 _ I1 q1) fun u s2 ⟨y, H2, I2, r2, q2⟩ =>
    thn (ho pins s2 σ H2 x y v u _ I2 r1 r2 q2) fun c s3 ⟨z, H3, I3, r3, k, e, q3⟩ => ?_) hm
  subst e
  cases r3
  exact wpAny_truthy_bool ⟨H3, I3, q3⟩
def TruV (K : PySem.W.Frag) (x : V) (H : Hp) (k : Bool) : Prop :=
  match x with
  | .non => k = false
  | .bl b => k = b
  | .int i => k = (i != 0)
  | .str y => y.length ≤ sizeLine ∧ k = ((y.length : Int) != 0)
  | .byt y => y.size ≤ sizeLine ∧ k = ((y.size : Int) != 0)
  | .ref p => (∃ xs, SqL K H p xs ∧ k = !xs.isEmpty) ∨ (∃ xs, SqT K H p xs ∧ k = !xs.isEmpty) ∨ ∃ kvs, H p = some (.dK kvs) ∧ k = !kvs.isEmpty
  | _ => False
theorem isEmpty_kv {κ : Type} {kvs : List (κ × V)} {vs : List (κ × Value)} (r : KV kvs vs) : (!vs.isEmpty) = !kvs.isEmpty := by
  cases r <;> rfl
theorem isEmpty_of {xs : List V} {its : List Value} (r : Vals xs its) : (!its.toArray.isEmpty) = !xs.isEmpty := by
  cases r <;> simp
theorem line63 : (sizeLine : Nat) < 2 ^ 63 := by rw [sizeLine_eq]; decide
theorem tru_ok : TruR X (fun x H Q => ∃ k, TruV X.K x H k ∧ Q k H) := by
  intro pins s σ H x v Q I rx h
  obtain ⟨k, e, q⟩ := h
  have hl := line63
  have hs : sizeLine = 16777216 := sizeLine_eq
  cases x with
  | non =>
    cases rx
    have e' : k = false := e
    subst e'
    exact truthy_none ⟨H, I, q⟩
  | bl b =>
    cases rx
    have e' : k = b := e
    subst e'
    exact wpAny_truthy_bool ⟨H, I, q⟩
  | int i =>
    obtain ⟨t, rfl⟩ := rx
    have e' : k = (i != 0) := e
    subst e'
    exact PySem.P.truthy_int ⟨H, I, q⟩
  | str y =>
    obtain ⟨t, rfl⟩ := rx
    obtain ⟨hy, e'⟩ : y.length ≤ sizeLine ∧ k = ((y.length : Int) != 0) := e
    subst e'
    exact PySem.P.truthy_str (by omega) ⟨H, I.tok _, q⟩
  | byt y =>
    obtain ⟨t, rfl⟩ := rx
    obtain ⟨hy, e'⟩ : y.size ≤ sizeLine ∧ k = ((y.size : Int) != 0) := e
    subst e'
    exact PySem.W.truthy_bytes (by omega) ⟨H, I.tok _, q⟩
  | ref p =>
    cases rx
    have e' : (∃ xs, SqL X.K H p xs ∧ k = !xs.isEmpty) ∨ (∃ xs, SqT X.K H p xs ∧ k = !xs.isEmpty) ∨ ∃ kvs, H p = some (.dK kvs) ∧ k = !kvs.isEmpty := e
    rcases e' with ⟨xs, hx, e'⟩ | ⟨xs, hx, e'⟩ | ⟨kvs, hx, e'⟩
    · subst e'
      obtain ⟨its, r, pl, hz⟩ := I.list hx
      have hlen := r.length
      exact wpAny_truthy_list pl.isList (by simp only [List.size_toArray]; omega) ⟨H, I.tok _, by rw [isEmpty_of r]; exact q⟩
    · subst e'
      obtain ⟨its, r, pl, hz⟩ := I.tuple hx
      have hlen := r.length
      exact truthy_tuple pl (by simp only [List.size_toArray]; omega) ⟨H, I.tok _, by rw [isEmpty_of r]; exact q⟩
    · subst e'
      obtain ⟨hz, hS, vs, r, m⟩ : kvs.length ≤ sizeLine ∧ (p == sysModules) = false ∧ ∃ vs, KV kvs vs ∧ s.heap.DictOf (mixKind X.prog X.w) p vs := I.hok p _ hx
      have hlen : kvs.length = vs.length := Paired.length r
      exact wpAny_truthy_dict hS m (by omega) ⟨H, I.tok _, by rw [isEmpty_kv r]; exact q⟩
  | _ => exact (show False from e).elim
theorem pt_truth (ha : PE X a ta) (he : ∀ whole, isTrue a X.env whole = (do let v ← whole; standAt a.pos; holding [v] (truthy v))) :
    PT X a (fun σ H Q => ta σ H fun x H' => ∃ k, TruV X.K x H' k ∧ Q k H') := by
  intro pins s σ H Q I h
  exact isTrue_plain (thn (ha pins s σ H _ I h) fun v s1 ⟨x, H1, I1, r1, q1⟩ => tru_ok pins s1 σ H1 x v Q I1 r1 q1) (he _)
theorem op_add_str : OpR X (binaryOp .Add) (fun x y H Q => ∃ i j, x = .str i ∧ y = .str j ∧ i.length + j.length ≤ sizeLine ∧ Q (.str (i ++ j)) H) := by
  intro pins s σ H x y v u Q I rx ry h
  obtain ⟨i, j, rfl, rfl, hz, q⟩ := h
  obtain ⟨t, rfl⟩ := rx
  obtain ⟨t', rfl⟩ := ry
  exact add_str (fun t' tk => ⟨.str (i ++ j), H, I.tok _, ⟨_, rfl⟩, q⟩) hz
theorem vals1 {x : V} {us : List Value} (r : Vals [x] us) : ∃ u, us = [u] ∧ RelV x u := by
  cases r with
  | cons r1 r2 => cases r2; exact ⟨_, rfl, r1⟩
theorem vals2 {x y : V} {us : List Value} (r : Vals [x, y] us) : ∃ u w', us = [u, w'] ∧ RelV x u ∧ RelV y w' := by
  cases r with
  | cons r1 r2 =>
    cases r2 with
    | cons r3 r4 => cases r4; exact ⟨_, _, rfl, r1, r3⟩
theorem call_abs : CallR X (.builtin "abs") (fun xs H Q => ∃ i, xs = [.int i] ∧ Q (.int (if i < 0 then -i else i)) H) := by
  intro pins s σ H xs us Q I r h
  obtain ⟨i, rfl, q⟩ := h
  obtain ⟨u, rfl, t, rfl⟩ := vals1 r
  exact call_abs_int fun u tk => ⟨.int (if i < 0 then -i else i), H, I.tok _, ⟨_, rfl⟩, q⟩
theorem call_max2 (hc : X.calm = true) : CallR X (.builtin "max") (fun xs H Q => ∃ i j, xs = [.int i, .int j] ∧ Q (.int (if j > i then j else i)) H) := by
  intro pins s σ H xs us Q I r h
  obtain ⟨i, j, rfl, q⟩ := h
  obtain ⟨u, w', rfl, ⟨t, rfl⟩, ⟨t', rfl⟩⟩ := vals2 r
  refine max_two_ints (I.ok.hd hc) fun h' tk k => ⟨_, H, I.kept k, ?_, q⟩
  by_cases hj : j > i
  · rw [if_pos hj, if_pos hj]; exact ⟨_, rfl⟩
  · rw [if_neg hj, if_neg hj]; exact ⟨_, rfl⟩
theorem call_min2 (hc : X.calm = true) : CallR X (.builtin "min") (fun xs H Q => ∃ i j, xs = [.int i, .int j] ∧ Q (.int (if j < i then j else i)) H) := by
  intro pins s σ H xs us Q I r h
  obtain ⟨i, j, rfl, q⟩ := h
  obtain ⟨u, w', rfl, ⟨t, rfl⟩, ⟨t', rfl⟩⟩ := vals2 r
  refine min_two_ints (I.ok.hd hc) fun h' tk k => ⟨_, H, I.kept k, ?_, q⟩
  by_cases hj : j < i
  · rw [if_pos hj, if_pos hj]; exact ⟨_, rfl⟩
  · rw [if_neg hj, if_neg hj]; exact ⟨_, rfl⟩
theorem call_int1 : CallR X (.type "int") (fun xs H Q => (∃ i, xs = [.int i] ∧ Q (.int i) H) ∨ ∃ k, xs = [.bl k] ∧ Q (.int (if k then 1 else 0)) H) := by
  intro pins s σ H xs us Q I r h
  rcases h with ⟨i, rfl, q⟩ | ⟨k, rfl, q⟩
  · obtain ⟨u, rfl, t, rfl⟩ := vals1 r
    exact call_int_int ⟨.int i, H, I, ⟨_, rfl⟩, q⟩
  · obtain ⟨u, rfl, r1⟩ := vals1 r
    cases r1
    exact call_int_bool ⟨.int (if k then 1 else 0), H, I.tok _, ⟨_, rfl⟩, q⟩
def LenV (K : PySem.W.Frag) (x : V) (H : Hp) (n : Nat) : Prop :=
  match x with
  | .str y => y.length ≤ sizeLine ∧ n = y.length
  | .byt y => y.size ≤ sizeLine ∧ n = y.size
  | .ref p => (∃ xs, SqL K H p xs ∧ n = xs.length) ∨ ∃ xs, SqT K H p xs ∧ n = xs.length
  | _ => False
theorem call_len : CallR X (.builtin "len") (fun xs H Q => ∃ x n, xs = [x] ∧ LenV X.K x H n ∧ Q (.int n) H) := by
  intro pins s σ H xs us Q I r h
  obtain ⟨x, n, rfl, e, q⟩ := h
  obtain ⟨u, rfl, rx⟩ := vals1 r
  have hl := line63
  have hs : sizeLine = 16777216 := sizeLine_eq
  cases x with
  | str y =>
    obtain ⟨t, rfl⟩ := rx
    obtain ⟨hy, e'⟩ : y.length ≤ sizeLine ∧ n = y.length := e
    subst e'
    exact len_str (by omega) ⟨.int _, H, I.tok _, ⟨_, rfl⟩, q⟩
  | byt y =>
    obtain ⟨t, rfl⟩ := rx
    obtain ⟨hy, e'⟩ : y.size ≤ sizeLine ∧ n = y.size := e
    subst e'
    exact PySem.W.len_bytes (by omega) ⟨.int _, H, I.tok _, ⟨_, rfl⟩, q⟩
  | ref p =>
    cases rx
    have e' : (∃ xs, SqL X.K H p xs ∧ n = xs.length) ∨ ∃ xs, SqT X.K H p xs ∧ n = xs.length := e
    rcases e' with ⟨xs, hx, e'⟩ | ⟨xs, hx, e'⟩
    · subst e'
      obtain ⟨its, r', pl, hz⟩ := I.list hx
      have hlen := r'.length
      exact Calls.call_len_list pl.isList (by simp only [List.size_toArray]; omega) ⟨.int xs.length, H, I.tok _, ⟨_, by simp only [List.size_toArray]; rw [hlen]⟩, q⟩
    · subst e'
      obtain ⟨its, r', pl, hz⟩ := I.tuple hx
      have hlen := r'.length
      exact len_tuple pl (by simp only [List.size_toArray]; omega) ⟨.int xs.length, H, I.tok _, ⟨_, by simp only [List.size_toArray]; rw [hlen]⟩, q⟩
  | _ => exact (show False from e).elim
end
end L2
namespace L2
open PySem PySem.Spec PyProof.Rows
structure ObjM (h : Heap) (x dx C : Addr) (mA : Str → Option Value) : Prop where
  obj : h.get? x = some (PySem.W.instObj C dx)
  ns : h.Ns1 dx mA
  ne : dx ≠ x
theorem lookIn_ns {h : Heap} {dx : Addr} {mA : Str → Option Value} (n : h.Ns1 dx mA) : ∃ od, h.get? dx = some od ∧ ∀ name, PySem.W.lookIn name od = some (mA name) := by
  obtain ⟨o, es, ep, ho, hd, hk, _, hm⟩ := n
  refine ⟨o, ho, fun name => ?_⟩
  have e := hm name
  unfold nsFind findBy at e
  rw [← Array.find?_toList] at e
  unfold PySem.W.lookIn
  rw [hd]
  dsimp only
  split
  · rename_i y q
    rw [q] at e
    exact congrArg some e
  · rename_i q
    rw [q] at e
    have a : es.toList.any (·.refKey) = false := by
      rw [List.any_eq_false]
      intro y hy
      obtain ⟨z, t, hkey⟩ := hk y (Array.mem_toList_iff.mp hy)
      simp [DictEntry.refKey, hkey]
    have a' : ¬ es.toList.any (·.refKey) = true := by rw [a]; exact Bool.false_ne_true
    rw [if_neg a']
    exact congrArg some e
theorem ObjM.look {h : Heap} {x dx C : Addr} {mA : Str → Option Value} (I : ObjM h x dx C mA) : ∃ od, PySem.W.InstAt h x (PySem.W.instObj C dx) C (some od) ∧ ∀ name, PySem.W.lookIn name od = some (mA name) :=
  let ⟨od, ho, hl⟩ := lookIn_ns I.ns
  ⟨od, ⟨I.obj, rfl, rfl, ho⟩, hl⟩
section
variable {prog : Program} {w : World} {A : Around} {E : Value → Shared → Prop} {s : Shared} {K : PySem.W.Frag} {x dx C f : Addr} {mA : Str → Option Value} {name : Str} {v : Value}
end
theorem RelO.some_of {v : V} {o : Option Value} (r : RelO (some v) o) : ∃ u, o = some u ∧ RelV v u := by
  cases o with
  | none => exact (show False from r).elim
  | some u => exact ⟨u, rfl, r⟩
section
variable {P : Program} {w : World} {H H' : Hp} {h h' : Heap} {a C dx : Addr} {fs fs' : List (Str × V)}
theorem ins_get (hok : HOk P w H h) (e : H a = some (.ins C dx fs)) : ∃ mA, ObjM h a dx C mA ∧ (∀ f, RelO (fs.lookup f) (mA f)) ∧ PySem.Within mA (fs.map (·.1)) ∧ fs.length ≤ 1000 ∧ H dx = some (.own a) := by
  obtain ⟨d, z, ne, ob, mA, n, r, q⟩ := (show ObjOk P w H h a (.ins C dx fs) from hok a _ e)
  exact ⟨mA, ⟨ob, n, ne⟩, r, q, z, d⟩
end
structure Cls (K : PySem.W.Frag) (C : Addr) : Prop where
  pg : PySem.W.plainGet K C Str.empty = true
  hd : PySem.W.hasDictIn K C = true
  po : PySem.W.plainOver K C = true
  sa : PySem.W.findIn K (.ref C) "__setattr__" = some (some (.builtin "object.__setattr__"))
theorem Cls.get {K : PySem.W.Frag} {C : Addr} (c : Cls K C) (f : Str) : PySem.W.plainGet K C f = true := c.pg
section
variable {X : Cx} {pins : List (Addr × Obj)} {σ : St} {H : Hp} {s : Shared} {a C dx : Addr} {fs : List (Str × V)} {f : Str} {v : V} {A : Around} {E : Value → Shared → Prop}
end
section
variable {X : Cx} {o e value : Expr} {f : Str} {pos pos' tpos : Pos} {ta tv : TE}
end
section
variable {X : Cx} {pins : List (Addr × Obj)} {σ : St} {H : Hp} {s : Shared} {A : Around} {E : Value → Shared → Prop} {Q : Value → Shared → Prop} {c : Value} {b : Bool}
inductive TyOf (K : PySem.W.Frag) (H : Hp) : V → Value → Prop where
  | non : TyOf K H .non (.type "NoneType")
  | bl (x : Bool) : TyOf K H (.bl x) (.type "bool")
  | int (i : Int) : TyOf K H (.int i) (.type "int")
  | str (x : Str) : TyOf K H (.str x) (.type "str")
  | flt (x : UInt64) : TyOf K H (.flt x) (.type "float")
  | lst {a : Addr} {xs : List V} (e : H a = some (.lst xs)) : TyOf K H (.ref a) (.type "list")
  | frz {a : Addr} {o : Obj} {xs : List V} (e : H a = some (.frz o (.lst xs))) : TyOf K H (.ref a) (.type "list")
  | tup {a : Addr} {xs : List V} (e : H a = some (.tup xs)) : TyOf K H (.ref a) (.type "tuple")
  | dK {a : Addr} {kvs : List (Key × V)} (e : H a = some (.dK kvs)) : TyOf K H (.ref a) (.type "dict")
  | dT {a : Addr} {kvs : List (List Key × V)} (e : H a = some (.dT kvs)) : TyOf K H (.ref a) (.type "dict")
  | ins {a C dx : Addr} {fs : List (Str × V)} (e : H a = some (.ins C dx fs)) (cl : Cls K C) (ha : PySem.W.findIn K (.ref C) "__class__" = some (some (.builtin "object.__class__")))
      (hn : PySem.W.specialIn K (.builtin "object.__class__") "__get__" = some (some (.builtin "getset_descriptor.__get__"))) (htk : PySem.W.takesIn K (.builtin "object.__class__") = some true)
      (hm : PySem.W.mroIn K C (.type "object") = some true) : TyOf K H (.ref a) (.ref C)
theorem isinst_ok {x : V} {u t : Value} (I : Inv X pins σ H s) (rx : RelV x u) (ty : TyOf X.K H x t) (e : PySem.W.kitOne X.K t c = some b) (h : ∀ tk, Q (.bool b) { s with toks := tk }) :
    wpAny (model X.prog X.w) A (call (.builtin "isinstance") [u, c]) Q E s := by
  cases ty with
  | non => cases (show u = Value.none from rx); exact PySem.W.kia_one PySem.W.kitx_none I.kIn True.intro e (fun z => nomatch z) h
  | bl y => cases (show u = Value.bool y from rx); exact PySem.W.kia_one PySem.W.kitx_bool I.kIn True.intro e (fun z => nomatch z) h
  | int i => obtain ⟨t, q⟩ := (show ∃ t, u = Value.int i t from rx); cases q; exact PySem.W.kia_one PySem.W.kitx_int I.kIn True.intro e (fun z => nomatch z) h
  | str y => obtain ⟨t, q⟩ := (show ∃ t, u = Value.str y t from rx); cases q; exact PySem.W.kia_one PySem.W.kitx_str I.kIn True.intro e (fun z => nomatch z) h
  | flt y => obtain ⟨t, q⟩ := (show ∃ t, u = Value.float y t from rx); cases q; exact PySem.W.kia_one PySem.W.kitx_float I.kIn True.intro e (fun z => nomatch z) h
  | @lst a xs ea =>
    cases (show u = Value.ref a from rx)
    obtain ⟨_, _, n, _, h1⟩ := (show ObjOk X.prog X.w H s.heap a (.lst xs) from I.hok a _ ea)
    exact PySem.W.kia_one PySem.W.kitx_list I.kIn ⟨_, h1, rfl⟩ e (fun z => nomatch z) h
  | @frz a ob xs ea =>
    cases (show u = Value.ref a from rx)
    obtain ⟨_, _, _, n, _, h1⟩ := (show ObjOk X.prog X.w H s.heap a (.frz ob (.lst xs)) from I.hok a _ ea)
    exact PySem.W.kia_one PySem.W.kitx_list I.kIn ⟨_, h1, rfl⟩ e (fun z => nomatch z) h
  | @tup a xs ea =>
    cases (show u = Value.ref a from rx)
    obtain ⟨_, _, _, p⟩ := (show ObjOk X.prog X.w H s.heap a (.tup xs) from I.hok a _ ea)
    obtain ⟨o, h1, h2, _⟩ := p
    exact PySem.W.kia_one PySem.W.kitx_tuple I.kIn ⟨o, h1, h2⟩ e (fun z => nomatch z) h
  | @dK a kvs ea =>
    cases (show u = Value.ref a from rx)
    obtain ⟨_, _, vs, _, p⟩ := (show ObjOk X.prog X.w H s.heap a (.dK kvs) from I.hok a _ ea)
    obtain ⟨o, es, ep, h1, h2, _⟩ := p
    exact PySem.W.kia_one PySem.W.kitx_dict I.kIn ⟨o, h1, h2.1⟩ e (fun z => nomatch z) h
  | @dT a kvs ea =>
    cases (show u = Value.ref a from rx)
    obtain ⟨_, _, xs, _, o, es, ep, h1, h2, _⟩ := (show ObjOk X.prog X.w H s.heap a (.dT kvs) from I.hok a _ ea)
    exact PySem.W.kia_one PySem.W.kitx_dict I.kIn ⟨o, h1, h2.1⟩ e (fun z => nomatch z) h
  | @ins a C dx fs ea cl ha hn htk hm =>
    cases (show u = Value.ref a from rx)
    obtain ⟨mA, O, _⟩ := ins_get I.hok ea
    obtain ⟨od, J, _⟩ := O.look
    exact PySem.W.kia_one (PySem.W.kitx_own (cl.get _) cl.hd ha hn htk hm) I.kIn J e (fun z => nomatch z) h
end
end L2
namespace L2
open PySem PySem.Spec PyProof.Rows
structure Room (k : Nat) (A : Around) : Prop where
  hd : A.handled = none
  dp : A.depth + 3 * k + 5 < recursionLimit
  un : A.units + 16 * k + 200 < cLine
theorem Room.mono {j k : Nat} {A : Around} (r : Room k A) (h : j ≤ k) : Room j A := ⟨r.hd, by have := r.dp; omega, by have := r.un; omega⟩
theorem Room.deeper {k : Nat} {A : Around} (r : Room (k + 1) A) (env : Env) : Room k (A.deeper env) :=
  ⟨r.hd, by have := r.dp; show A.depth + 1 + 3 * k + 5 < _; omega, by have := r.un; show A.units + 3 + 16 * k + 200 < _; omega⟩
theorem Room.depth {k : Nat} {A : Around} (r : Room k A) : A.depth < recursionLimit := by have := r.dp; omega
def tNil : TA := fun _ H Q => Q [] H
def tCons (ta : TE) (tr : TA) : TA := fun σ H Q => ta σ H fun x H1 => tr σ H1 fun xs H2 => Q (x :: xs) H2
section
variable {X : Cx} {e : Expr} {es : List Expr} {te : TE} {t : TA} {pos : Pos}
theorem pa_nil : PA X [] tNil := fun _ _ _ _ H Q I h => Calls.spliced_nil ⟨[], H, I, .nil, h⟩
theorem pa_cons (ha : PE X e te) (hr : PA X es t) (hs : starEach (e :: es) X.env = (false, eval e X.env) :: starEach es X.env := by rfl) : PA X (e :: es) (tCons te t) := by
  intro pos pins s σ H Q I h
  rw [hs]
  show wpAny _ _ (spliced ((false, eval e X.env) :: backTo pos (starEach es X.env))) _ _ s
  refine Calls.spliced_cons (thn (ha pins s σ H _ I h) fun u s1 ⟨x, H1, I1, r1, q1⟩ => ?_)
  exact thn (hr pos pins s1 σ H1 _ I1 q1) fun us s2 ⟨xs, H2, I2, r2, q2⟩ => ⟨x :: xs, H2, I2, .cons r1 r2, q2⟩
end
abbrev Sp := List V → Hp → VK → XK → Prop
abbrev CXT := List Env → Hp → Shared → XK → Value → Shared → Prop
structure Env0 (P : Program) (w : World) (K : PySem.W.Frag) (mg : Str → Option Value) (base : Heap) (A : Around) (outer : List Env) (s : Shared) (H : Hp) : Prop where
  frames : A.frames = some outer
  mod : Mod K mg base
  bs : ∀ b o, base.get? b = some o → s.heap.get? b = some o ∧ H b = none
  bsz : base.objs.size ≤ s.heap.objs.size
  funs : s.heap.FunFrames base outer
  frf : ∀ b ∈ frs outer, H b = none
  hok : HOk P w H s.heap
  bare : AllBare s.gens
def CE (outer : List Env) (P : Program) (w : World) (H : Hp) (s : Shared) (Q : VK) (u : Value) (s' : Shared) : Prop :=
  ∃ v H', s'.os = s.os ∧ AllBare s'.gens ∧ Un (frs outer) [] H H' s.heap s'.heap ∧ HOk P w H' s'.heap ∧ RelV v u ∧ Q v H'
def CR (CX : CXT) (outer : List Env) (P : Program) (w : World) (H : Hp) (s : Shared) (Q : VK) (E : XK) (r : Result) (s' : Shared) : Prop :=
  match r with
  | .ok (.ret u) => CE outer P w H s Q u s'
  | .ok _ => False
  | .error e => CX outer H s E e s'
structure FnOk (P : Program) (w : World) (K : PySem.W.Frag) (mg : Str → Option Value) (base : Heap) (CX : CXT) (k : Nat) (f : Addr) (fd : FuncData) (ps : List Str) (sp : Sp) : Prop where
  len : ∀ vs H Q E, sp vs H Q E → vs.length = ps.length
  run : ∀ (A : Around) (outer : List Env) (s : Shared) (H : Hp) (args : Args) (us : List Value) (vs : List V) (Q : VK) (E : XK), Room k A → Env0 P w K mg base A outer s H → BindsTo s fd args (ps.zip us) → Vals vs us → sp vs H Q E →
    codeAny (model P w) A (.call (.ref f) args) (CR CX outer P w H s Q E) s
theorem FnOk.imp {P : Program} {w : World} {K : PySem.W.Frag} {mg : Str → Option Value} {base : Heap} {CX : CXT} {k : Nat} {f : Addr} {fd : FuncData} {ps : List Str} {sp sp' : Sp} (F : FnOk P w K mg base CX k f fd ps sp)
    (h : ∀ vs H Q E, sp' vs H Q E → sp vs H Q E) : FnOk P w K mg base CX k f fd ps sp' :=
  ⟨fun vs H Q E q => F.len vs H Q E (h _ _ _ _ q), fun A outer s H args us vs Q E hr he hb hv hs => F.run A outer s H args us vs Q E hr he hb hv (h _ _ _ _ hs)⟩
section
variable {X : Cx} {pins : List (Addr × Obj)} {σ : St} {H : Hp} {s s' : Shared}
theorem Inv.env0 (I : Inv X pins σ H s) : Env0 X.prog X.w X.K X.mg X.base X.A X.stack s H :=
  ⟨I.ok.frames, I.ok.mod, I.bs, Nat.le_trans I.ok.bsz I.sz, I.stack, I.stkFree, I.hok, I.bare⟩
theorem Inv.after {Q : VK} {u : Value} (I : Inv X pins σ H s) (h : CE X.stack X.prog X.w H s Q u s') : EP X pins σ Q u s' := by
  obtain ⟨v, H', os, bare, un, hok, r, q⟩ := h
  obtain ⟨hh, g, d, t, os'⟩ := s'
  obtain rfl : os' = s.os := os
  exact ⟨v, H', I.call (h' := hh) (g' := g) (d' := d) (t' := t) (ch := []) un hok bare (fun b z => absurd z (by simp)), r, q⟩
end
def Binds (K : PySem.W.Frag) (fd : FuncData) (ps : List Str) (ds : List Value) : Prop :=
  ∀ (s : Shared) (us : List Value), K.In s.heap → (us ++ ds).length = ps.length → BindsTo s fd ⟨us, []⟩ (ps.zip (us ++ ds))
theorem Binds.all {K : PySem.W.Frag} {fd : FuncData} {ps : List Str} (h : ∀ us : List Value, us.length = ps.length → bindArgs fd ⟨us, []⟩ = pure (ps.zip us)) : Binds K fd ps [] := fun s us _ hl => by
  rw [List.append_nil] at hl ⊢
  exact .of_eq (h us hl)
def Passes (CX : CXT) (X : Cx) (E : XK) : Prop := ∀ (pins : List (Addr × Obj)) (σ : St) (H : Hp) (s : Shared) (e : Value) (s' : Shared), Inv X pins σ H s → CX X.stack H s E e s' → X.xe e s'
section
variable {X : Cx} {CX : CXT} {k : Nat} {f C : Addr} {fd : FuncData} {ps : List Str} {sp : Sp} {dvs : List V} {ds : List Value} {E : XK} {x m : Str} {p pos apos : Pos} {e o : Expr} {es : List Expr} {ta : TE} {t : TA}
theorem run_fn {pins : List (Addr × Obj)} {σ : St} {H : Hp} {s : Shared} {Q : VK} {us : List Value} {vs : List V} (F : FnOk X.prog X.w X.K X.mg X.base CX k f fd ps sp) (hr : Room k X.A) (hb : Binds X.K fd ps ds) (hd : Vals dvs ds) (hx : Passes CX X E)
    (I : Inv X pins σ H s) (r : Vals vs us) (h : sp (vs ++ dvs) H Q E) : wpAny (model X.prog X.w) X.A (call (.ref f) us) (EP X pins σ Q) X.xe s := by
  have r2 : Vals (vs ++ dvs) (us ++ ds) := r.append hd
  have hl : (us ++ ds).length = ps.length := by rw [← r2.length]; exact F.len _ _ _ _ h
  refine wpAny_call (codeAny_mono (F.run X.A X.stack s H ⟨us, []⟩ (us ++ ds) (vs ++ dvs) Q E hr I.env0 (hb s us I.kIn hl) r2 h) fun r s' hq => ?_)
  cases r with
  | error e => exact hx pins σ H s e s' I hq
  | ok fl =>
    cases fl with
    | ret u => exact I.after hq
    | next => exact False.elim hq
    | brk => exact False.elim hq
    | cont => exact False.elim hq
end
section
variable {X : Cx} {CX : CXT} {k : Nat} {f C : Addr} {fd : FuncData} {ps ks : List Str} {sp : Sp} {E : XK} {x m : Str} {p pos apos kpos : Pos} {e o : Expr} {es : List Expr} {kws : List Keyword} {te ta : TE} {t tk : TA} {nm : Option Str}
variable {g : List Value → List Value → List Value} {gV : List V → List V → List V}
end
structure FnScope (N P : List Str) (sc : Scope) : Prop where
  kind : sc.kind = .function
  co : sc.isCoroutine = false
  gen : sc.isGenerator = false
  nd : N.Nodup
  pre : N.take P.length = P
  par : ∀ x ∈ P, sc.names.lookup x = some .local ∨ sc.names.lookup x = some .cell
  nofree : ∀ y ∈ sc.names, y.2 ≠ .free
theorem bindL_out {kindOf : Str → Option NameKind} {x : Str} : ∀ {binds : List (Str × Value)} {m : Str → Option Value}, (∀ v, (x, v) ∉ binds) → bindL kindOf binds m x = m x
  | [], _, _ => rfl
  | (n, v) :: r, m, h => by
    unfold bindL
    rw [bindL_out fun w hw => h w (List.mem_cons_of_mem _ hw)]
    split
    · have : x ≠ n := by rintro rfl; exact h v List.mem_cons_self
      simp [this]
    · rfl
theorem bindC_out {kindOf : Str → Option NameKind} {x : Str} : ∀ {binds : List (Str × Value)} {m : Str → Option Value}, (∀ v, (x, v) ∉ binds) → bindC kindOf binds m x = m x
  | [], _, _ => rfl
  | (n, v) :: r, m, h => by
    unfold bindC
    rw [bindC_out fun w hw => h w (List.mem_cons_of_mem _ hw)]
    split
    · rfl
    · have : x ≠ n := by rintro rfl; exact h v List.mem_cons_self
      simp [this]
theorem bindL_get {kindOf : Str → Option NameKind} {x : Str} {v : Value} : ∀ {P : List Str} {vs : List Value} {i : Nat} {m : Str → Option Value}, P.Nodup → P[i]? = some x → vs[i]? = some v → kindOf x = some .local →
    bindL kindOf (P.zip vs) m x = some v
  | [], _, _, _, _, h, _, _ => by simp at h
  | _ :: _, [], _, _, _, _, h, _ => by simp at h
  | p :: P, w :: vs, 0, m, nd, h1, h2, hk => by
    simp at h1 h2; subst h1; subst h2
    show bindL kindOf ((p, w) :: P.zip vs) m p = _
    unfold bindL
    rw [bindL_out fun v hv => (List.nodup_cons.mp nd).1 (List.of_mem_zip hv).1, if_pos hk]
    simp
  | p :: P, w :: vs, i + 1, m, nd, h1, h2, hk => by
    show bindL kindOf ((p, w) :: P.zip vs) m x = _
    unfold bindL
    exact bindL_get (i := i) (List.nodup_cons.mp nd).2 (by simpa using h1) (by simpa using h2) hk
theorem bindC_get {kindOf : Str → Option NameKind} {x : Str} {v : Value} : ∀ {P : List Str} {vs : List Value} {i : Nat} {m : Str → Option Value}, P.Nodup → P[i]? = some x → vs[i]? = some v → kindOf x ≠ some .local →
    bindC kindOf (P.zip vs) m x = some v
  | [], _, _, _, _, h, _, _ => by simp at h
  | _ :: _, [], _, _, _, _, h, _ => by simp at h
  | p :: P, w :: vs, 0, m, nd, h1, h2, hk => by
    simp at h1 h2; subst h1; subst h2
    show bindC kindOf ((p, w) :: P.zip vs) m p = _
    unfold bindC
    rw [bindC_out fun v hv => (List.nodup_cons.mp nd).1 (List.of_mem_zip hv).1, if_neg hk]
    simp
  | p :: P, w :: vs, i + 1, m, nd, h1, h2, hk => by
    show bindC kindOf ((p, w) :: P.zip vs) m x = _
    unfold bindC
    exact bindC_get (i := i) (List.nodup_cons.mp nd).2 (by simpa using h1) (by simpa using h2) hk
def start (N : List Str) (vs : List V) : St := vs.map some ++ List.replicate (N.length - vs.length) none
def cxOf (CX : CXT) (P : Program) (w : World) (K : PySem.W.Frag) (mg : Str → Option Value) (base : Heap) (N : List Str) (qual : Str) (scope : Scope) (f : Addr) (cd : Value) (A : Around) (outer : List Env) (s : Shared) (H : Hp) (E : XK) : Cx where
  prog := P
  w := w
  K := K
  mg := mg
  base := base
  A := A.deeper (envOfC qual scope s.heap.objs.size f cd)
  N := N
  s₀ := s
  H₀ := H
  env := envOfC qual scope s.heap.objs.size f cd
  outer := outer
  stack := envOfC qual scope s.heap.objs.size f cd :: outer
  ex := []
  calm := true
  fn := fun _ => true
  pn := []
  xe := fun e s' => wpAny (model P w) (A.deeper (envOfC qual scope s.heap.objs.size f cd)) (leaving (envOfC qual scope s.heap.objs.size f cd) e) (fun _ s'' => CX outer H s E e s'') (fun e' s'' => CX outer H s E e' s'') s'
theorem cell_has {sc : Scope} {n : Nat} {x : Str} (h : sc.names.lookup x = some .cell) : ∃ c, (cellsFrom n sc.names []).lookup x = some c := by
  have q := PySem.W.cellsFrom_some sc.names n [] (.inl h)
  exact Option.isSome_iff_exists.mp q
theorem inv_start {CX : CXT} {P : Program} {w : World} {K : PySem.W.Frag} {mg : Str → Option Value} {base : Heap} {N ps : List Str} {qual : Str} {scope : Scope} {f : Addr} {cd : Value} {A : Around} {outer : List Env} {s s1 : Shared} {H : Hp} {E : XK} {us : List Value} {vs : List V}
    (S : FnScope N ps scope) (hd : A.handled = none) (e0 : Env0 P w K mg base A outer s H) (hl : vs.length = ps.length) (r : Vals vs us)
    (x : InCallC s s.heap.objs.size (bindL (envOfC qual scope s.heap.objs.size f cd).kindOf (ps.zip us) fun _ => none) (cellsFrom (s.heap.objs.size + 1) scope.names []) (bindC (envOfC qual scope s.heap.objs.size f cd).kindOf (ps.zip us) fun _ => none) s1) :
    Inv (cxOf CX P w K mg base N qual scope f cd A outer s H E) [] (start N vs) H s1 := by
  have hpl : ps.length ≤ N.length := by have := congrArg List.length S.pre; rw [List.length_take] at this; omega
  obtain ⟨h1, tk, rfl, hk⟩ := x.done
  have noA : ∀ b : Addr, b ∉ (cxOf CX P w K mg base N qual scope f cd A outer s H E).ex := fun b z => absurd (show b ∈ ([] : List Addr) from z) (by simp)
  refine ⟨⟨e0.mod, S.kind, rfl, rfl, Nat.le_refl _, fun y z c h1 h2 => ?_, fun y hy => ?_, fun y c _ h => ?_, fun _ => hd, Around.frames_deeper e0.frames, .inr ⟨rfl, rfl⟩, fun b z => absurd z (noA b), e0.bs, e0.bsz, fun b _ _ => noA b, fun b z => absurd z (noA b), e0.funs, e0.frf⟩,
    rfl, e0.bare, Un.kept hk, ⟨_, x.toInCall.ns, fun i y v h1 h2 h3 => ?_⟩, fun y c h => ⟨_, x.cell y c h⟩, e0.hok.fresh (Nat.le_refl _), fun y c h => ?_, fun p hp => absurd (show p ∈ ([] : List (Addr × Obj)) from hp) (by simp), e0.hok.kept hk, ?_⟩
  · exact name_of_addr x.apart (PySem.mem_of_lookup h1) (PySem.mem_of_lookup h2)
  · have hy : scope.names.lookup y = some .cell ∨ scope.names.lookup y = some .free := hy
    rcases hy with hy | hy
    · exact cell_has hy
    · exact absurd rfl (S.nofree _ (PySem.mem_of_lookup hy))
  · exact Nat.le_of_lt (x.above y c (PySem.mem_of_lookup h))
  · have hi : i < vs.length := by
      unfold start at h2
      by_cases hi : i < vs.length
      · exact hi
      · rw [List.getElem?_append_right (by simpa using hi)] at h2
        rw [List.getElem?_replicate] at h2
        split at h2 <;> cases h2
    have ha : vs[i]? = some v := by
      unfold start at h2
      rw [List.getElem?_append_left (by simpa using hi), List.getElem?_map] at h2
      cases e : vs[i]? with
      | none => rw [e] at h2; cases h2
      | some a => rw [e] at h2; cases h2; rfl
    obtain ⟨u, hu, rv⟩ := r.get ha
    have hp : ps[i]? = some y := by
      rw [← S.pre, List.getElem?_take_of_lt (by omega)]; exact h1
    have ndP : ps.Nodup := by rw [← S.pre]; exact S.nd.sublist (List.take_sublist _ _)
    refine ⟨u, rv, ?_⟩
    rcases S.par y (List.mem_of_getElem? hp) with k | k
    · exact .inl ⟨k, bindL_get ndP hp hu k⟩
    · obtain ⟨c, e⟩ := cell_has (n := s.heap.objs.size + 1) k
      refine .inr ⟨.inl k, c, e, ?_⟩
      have q := x.cell y c e
      rw [bindC_get ndP hp hu (by show scope.names.lookup y ≠ _; rw [k]; decide)] at q
      exact q
  · exact e0.hok.fresh (Nat.le_of_lt (x.above y c (PySem.mem_of_lookup h)))
  · unfold start
    show _ = N.length
    rw [List.length_append, List.length_map, List.length_replicate]
    omega
theorem fn_of {CX : CXT} {P : Program} {w : World} {K : PySem.W.Frag} {mg : Str → Option Value} {base : Heap} {k : Nat} {f : Addr} {name qual : Str} {params : Arguments} {body : List Stmt} {scope : Scope} {dV kV doc pm cdv ct oc : Value} {an od : Option Addr}
    {osl : Array (Option Value)} {N ps : List Str} {sp : Sp} (lk : K.lookup f = some ⟨oc, od, .func (PySem.W.fnOf name qual params body scope dV kV doc pm an cdv ct), osl⟩) (hcd : PySem.W.codeIn K cdv qual = true) (S : FnScope N ps scope)
    (len : ∀ vs H Q E, sp vs H Q E → vs.length = ps.length)
    (hbody : ∀ (A : Around) (outer : List Env) (s : Shared) (H : Hp) (vs : List V) (Q : VK) (E : XK), Room k (A.deeper (envOfC qual scope s.heap.objs.size f cdv)) → sp vs H Q E →
      ∃ t, PSs (cxOf CX P w K mg base N qual scope f cdv A outer s H E) body t ∧ t { nx := fun _ H' => Q .non H', rt := Q } (start N vs) H) :
    FnOk P w K mg base CX (k + 1) f (PySem.W.fnOf name qual params body scope dV kV doc pm an cdv ct) ps sp := by
  refine ⟨len, fun A outer s H args us vs Q E hr e0 hb r hsp => ?_⟩
  have hl := len _ _ _ _ hsp
  have KX : K.In s.heap := e0.mod.kin.keeps fun b o e => (e0.bs b o e).1
  have lim : s.heap.NoLimit := e0.mod.nolimit.keeps fun b o e => (e0.bs b o e).1
  have hkind : ∀ y ∈ ps.zip us, scope.names.lookup y.1 = some .local ∨ (scope.names.lookup y.1 = some .cell ∧ ((cellsFrom (s.heap.objs.size + 1) scope.names []).lookup y.1).isSome = true) := fun ⟨n, v⟩ hy => by
    rcases S.par n (List.of_mem_zip hy).1 with q | q
    · exact .inl q
    · exact .inr ⟨q, PySem.W.cellsFrom_some _ _ _ (.inl q)⟩
  refine codeAny_call_function hr.depth (KX _ _ lk) rfl S.co S.gen rfl (PySem.W.codeRec_of KX hcd) (hb _ _ _ _ ?_)
  refine wpAny_newFunctionEnv_cells S.kind hkind fun env he s1 x => ?_
  subst he
  refine ⟨lim.keeps x.toInCall.keep, codeAny_func ?_⟩
  obtain ⟨t, ht, hq⟩ := hbody A outer s H vs Q E (hr.deeper _) hsp
  have I : Inv (cxOf CX P w K mg base N qual scope f cdv A outer s H E) [] (start N vs) H s1 := inv_start S hr.hd e0 hl r x
  refine wpAny_mono (ht [] s1 (start N vs) H _ I hq) (fun fl s' hs => ?_) fun e s' hs => hs
  have fin : ∀ {σ' : St} {H' : Hp} {v : V} {u : Value}, Inv (cxOf CX P w K mg base N qual scope f cdv A outer s H E) [] σ' H' s' → RelV v u → Q v H' → CE outer P w H s Q u s' :=
    fun {σ' H' v u} J rv q => ⟨v, H', J.os, J.bare, J.base, J.hok, rv, q⟩
  cases fl with
  | ret u =>
    obtain ⟨v, σ', H', J, rv, q⟩ := hs
    exact fin J rv q
  | next =>
    obtain ⟨σ', H', J, q⟩ := hs
    exact fin (v := V.non) (u := Value.none) J rfl q
  | brk =>
    obtain ⟨_, _, _, q⟩ := hs
    exact False.elim q
  | cont =>
    obtain ⟨_, _, _, q⟩ := hs
    exact False.elim q
end L2
namespace L2
open PySem PySem.Spec PyProof.Rows
section
variable {X : Cx} {x : Str} {p pos : Pos} {e : Expr} {es : List Expr} {t : TA} {id T : String} {r : List V → Hp → VK → Prop}
def tCB (r : List V → Hp → VK → Prop) (t : TA) : TE := fun σ H Q => t σ H fun vs H1 => r vs H1 Q
theorem pe_callB (hc : CallR X (.builtin id) r) (hg : Gl X x) (hm : X.mg x = none) (hv : bootBuiltins x = some (.builtin id)) (ha : PA X (e :: es) t) (hn : x ≠ "__name__" := by decide) (hdb : (x == ("__debug__" : Str)) = false := by decide)
    (he : starEach (e :: es) X.env = (false, eval e X.env) :: starEach es X.env := by rfl) (hpl : (backTo pos (starEach es X.env)).any (·.1) = false := by rfl) : PE X (.Call (.Name x p) (e :: es) [] pos) (tCB r t) := by
  intro pins s σ H Q I h
  refine wpAny_Call_Name_kw (ld_blt I hg hm hv ?_ hn hdb)
  exact PyProof.Rows.callWith_builtin1 (thn (ha pos pins s σ H _ I h) fun us s1 ⟨vs, H1, I1, r1, q1⟩ => hc pins s1 σ H1 vs us Q I1 r1 q1) he hpl
theorem pe_callTy (hc : CallR X (.type T) r) (hg : Gl X x) (hm : X.mg x = none) (hv : bootBuiltins x = some (.type T)) (ha : PA X (e :: es) t) (hn : x ≠ "__name__" := by decide) (hdb : (x == ("__debug__" : Str)) = false := by decide)
    (he : starEach (e :: es) X.env = (false, eval e X.env) :: starEach es X.env := by rfl) (hpl : (backTo pos (starEach es X.env)).any (·.1) = false := by rfl) : PE X (.Call (.Name x p) (e :: es) [] pos) (tCB r t) := by
  intro pins s σ H Q I h
  refine wpAny_Call_Name_kw (ld_blt I hg hm hv ?_ hn hdb)
  exact PyProof.Rows.callWith_type1 (thn (ha pos pins s σ H _ I h) fun us s1 ⟨vs, H1, I1, r1, q1⟩ => hc pins s1 σ H1 vs us Q I1 r1 q1) he hpl
end
end L2
namespace HT
open PySem PyProof.Rows
section
open PySem.SeqAt
open PySem.AutoSeq1 (wpAny_loadPart')
open PySem.MeetsSeq PySem.MeetsSeq2 PySem.MeetsSeq3
end
section
variable {prog : Program} {w : World} {A : Around} {E : Value → Shared → Prop} {s : Shared}
theorem cat_tup {t b : Addr} {vs ws : List Value} {Q : Value → Shared → Prop} (ht : IsTup s.heap t vs.toArray) (hb : IsTup s.heap b ws.toArray) (hv : vs ≠ [])
    (h1 : ws = [] → Q (.ref t) s) (h2 : ws ≠ [] → Q (.ref s.heap.objs.size) { s with heap := s.heap.push { cls := .type "tuple", data := .seq (vs ++ ws).toArray } })
    (hsz : vs.length + ws.length ≤ sizeLine) : wpAny (model prog w) A (binaryOp .Add (.ref t) (.ref b)) Q E s := by
  obtain ⟨⟨cls, dd, data, sl⟩, ho, hc, n, hd⟩ := id ht
  obtain ⟨⟨cls2, dd2, data2, sl2⟩, ho2, hc2, n2, hd2⟩ := id hb
  simp only at hc hd hc2 hd2
  subst hc hd hc2 hd2
  have e : vs.toArray ++ ws.toArray = (vs ++ ws).toArray := by simp
  by_cases hw : ws = []
  · exact concat_meets ⟨_, ho, rfl⟩ ⟨_, ho2, rfl⟩ noFill_tuple_add seq_tuple_add PySem.F.slot_tuple_add PySem.F.entry_tuple_add (PySem.F.args_tuple_add_2 _ _)
      (tuple_addW1 t b vs.toArray ws.toArray n n2 dd dd2 sl sl2 (by simpa using hv) (by simp [hw])) ⟨ho, ho2, h1 hw⟩
  · refine concat_meets ⟨_, ho, rfl⟩ ⟨_, ho2, rfl⟩ noFill_tuple_add seq_tuple_add PySem.F.slot_tuple_add PySem.F.entry_tuple_add (PySem.F.args_tuple_add_2 _ _)
      (tuple_addW2 t b vs.toArray ws.toArray n n2 dd dd2 sl sl2 (by simpa using hv) (by simpa using hw) (by rw [List.size_toArray, List.size_toArray]; exact hsz)) ⟨ho, ho2, ?_⟩
    rw [e]
    exact h2 hw
def sIx (n d : Nat) : Option Int → Nat
  | none => d
  | some v => if v < 0 then (v + (n : Int)).toNat else min v.toNat n
end
end HT
namespace L2
open PySem PySem.Spec PyProof.Rows
abbrev TO := St → Hp → (Option Int → Hp → Prop) → Prop
def PO (X : Cx) (e : Option Expr) (t : TO) : Prop :=
  ∀ (pins : List (Addr × Obj)) (s : Shared) (σ : St) (H : Hp) (Q : Option Int → Hp → Prop), Inv X pins σ H s → t σ H Q →
    wpAny (model X.prog X.w) X.A (evalPart e X.env) (fun u s' => ∃ o H', Inv X pins σ H' s' ∧ IsPart u o ∧ Q o H') X.xe s
def tNoPart : TO := fun _ H Q => Q none H
def tPart (t : TE) : TO := fun σ H Q => t σ H fun x H1 => ∃ i, x = .int i ∧ Q (some i) H1
theorem intsAre_of {ns : List Int} : ∀ {us : List Value}, Vals (ns.map V.int) us → IntsAre us ns := by
  induction ns with
  | nil => intro us r; rw [List.map_nil] at r; cases r; exact .nil
  | cons n ns ih =>
    intro us r
    rw [List.map_cons] at r
    cases r with
    | cons r1 r2 =>
      obtain ⟨t, e⟩ := r1
      subst e
      exact .cons n t (ih r2)
section
variable {X : Cx} {e : Expr} {te : TE} {lo hi : Option Expr} {tl th : TO} {pos p2 : Pos}
theorem po_none : PO X none tNoPart := by
  intro pins s σ H Q I h
  rw [evalPart_none]
  exact wpAny_pure ⟨none, H, I, .none, h⟩
theorem po_some (h : PE X e te) : PO X (some e) (tPart te) := by
  intro pins s σ H Q I hw
  rw [evalPart_some]
  refine thn (h pins s σ H _ I hw) fun u s1 ⟨x, H1, I1, r1, q1⟩ => ?_
  obtain ⟨i, rfl, q⟩ := q1
  obtain ⟨t, rfl⟩ := r1
  exact ⟨some i, H1, I1, .int i t, q⟩
def SlR (X : Cx) (r : V → Option Int → Option Int → Hp → VK → Prop) : Prop :=
  ∀ (pins : List (Addr × Obj)) (s : Shared) (σ : St) (H : Hp) (x : V) (v vl vu : Value) (lo hi : Option Int) (sl : Addr) (Q : VK), Inv X pins σ H s → RelV x v → s.heap.IsSliceOf sl vl vu .none → IsPart vl lo → IsPart vu hi → r x lo hi H Q →
    ∃ T id, typeLookup (.type T) "__getitem__" = pure (some (.builtin id)) ∧ s.TypeIs v T ∧ wpAny (model X.prog X.w) X.A (getItem v (.ref sl)) (EP X pins σ Q) X.xe s
def tSl (r : V → Option Int → Option Int → Hp → VK → Prop) (te : TE) (tl th : TO) : TE := fun σ H Q => te σ H fun x H1 => tl σ H1 fun l H2 => th σ H2 fun u H3 => r x l u H3 Q
theorem pe_slice {r : V → Option Int → Option Int → Hp → VK → Prop} (hr : SlR X r) (he : PE X e te) (hl : PO X lo tl) (hu : PO X hi th) : PE X (.Subscript e (.Slice lo hi none p2) pos) (tSl r te tl th) := by
  intro pins s σ H Q I h
  refine Subscript_ (thn (he pins s σ H _ I h) fun v s1 ⟨x, H1, I1, r1, q1⟩ => ?_)
  refine wpAny_Slice (thn (hl pins s1 σ H1 _ I1 q1) fun vl s2 ⟨l, H2, I2, pl, q2⟩ => thn (hu pins s2 σ H2 _ I2 q2) fun vu s3 ⟨u, H3, I3, pu, q3⟩ => ?_)
  rw [evalPart_none]
  refine wpAny_pure ?_
  have I4 : Inv X pins σ H3 { s3 with heap := s3.heap.push { cls := .type "slice", data := .fields #[vl, vu, .none] } } := I3.kept (t' := s3.toks) fun b ob q => Heap.get?_push_of_some _ q
  obtain ⟨T, id, hT, ht, hg⟩ := hr pins { s3 with heap := s3.heap.push { cls := .type "slice", data := .fields #[vl, vu, .none] } } σ H3 x v vl vu l u s3.heap.objs.size Q I4 r1 (Heap.IsSliceOf.new ..) pl pu q3
  show wpAny (model X.prog X.w) X.A (subscriptTail e (.Slice lo hi none p2) v (.ref s3.heap.objs.size)) (EP X pins σ Q) X.xe { s3 with heap := s3.heap.push { cls := .type "slice", data := .fields #[vl, vu, .none] } }
  exact tail_any (ops := [.ref s3.heap.objs.size, v]) ht hT hg (by with_unfolding_all rfl)
def cutV (xs : List V) (lo hi : Option Int) : List V := (xs.drop (HT.sIx xs.length 0 lo)).take (HT.sIx xs.length xs.length hi - HT.sIx xs.length 0 lo)
theorem cutV_length (xs : List V) (lo hi : Option Int) : (cutV xs lo hi).length ≤ xs.length := by
  unfold cutV
  rw [List.length_take, List.length_drop]
  omega
def rCatT (K : PySem.W.Frag) : R2 := fun x y H Q => ∃ a b xs ys, x = .ref a ∧ y = .ref b ∧ SqT K H a xs ∧ SqT K H b ys ∧ xs ≠ [] ∧ xs.length + ys.length ≤ sizeLine ∧
  (ys = [] → Q (.ref a) H) ∧ (ys ≠ [] → ∀ p, H p = none → Q (.ref p) (upd H p (.tup (xs ++ ys))))
theorem Vals.nil_iff {xs : List V} {us : List Value} (r : Vals xs us) : us = [] ↔ xs = [] := by
  cases r with
  | nil => simp
  | cons _ _ => simp
theorem op_catT : OpR X (binaryOp .Add) (rCatT X.K) := by
  intro pins s σ H x y v u Q I rx ry h
  obtain ⟨a, b, xs, ys, rfl, rfl, ha, hb, hx, hz, q1, q2⟩ := h
  cases rx
  cases ry
  obtain ⟨its, r1, p1, _⟩ := I.tuple ha
  obtain ⟨its2, r2, p2, _⟩ := I.tuple hb
  refine HT.cat_tup p1 p2 (fun z => hx (r1.nil_iff.mp z)) (fun z => ⟨.ref a, H, I, rfl, q1 (r2.nil_iff.mp z)⟩) (fun z => ?_) (by rw [← r1.length, ← r2.length]; exact hz)
  refine ⟨.ref s.heap.objs.size, _, I.laid (t' := s.toks) (o := .tup (xs ++ ys)) (fun b ob q => Heap.get?_push_of_some _ q) (Nat.le_refl _) ?_, rfl, q2 (fun w => z (r2.nil_iff.mpr w)) _ (I.hok.fresh (Nat.le_refl _))⟩
  exact ⟨by rw [List.length_append]; exact hz, _, r1.append r2, IsTup.new _ _⟩
end
end L2
namespace L2
open PySem PySem.Spec PyProof.Rows
def ixN (n : Nat) (i : Int) : Option Nat := if 0 ≤ i then (if i < n then some i.toNat else none) else if -(n : Int) ≤ i then some (i + n).toNat else none
def atI {α : Type} (xs : List α) (i : Int) : Option α := (ixN xs.length i).bind fun j => xs[j]?
theorem ixN_seq {n : Nat} {i : Int} {j : Nat} (h : ixN n i = some j) : seqIndex? i n = some j ∧ j < n ∧ -(n : Int) ≤ i ∧ i < n := by
  unfold ixN at h
  by_cases h0 : 0 ≤ i
  · rw [if_pos h0] at h
    by_cases h1 : i < n
    · rw [if_pos h1] at h
      have e : i.toNat = j := Option.some.inj h
      exact ⟨by rw [seqIndex_of h0 h1, e], by omega, by omega, h1⟩
    · rw [if_neg h1] at h; cases h
  · rw [if_neg h0] at h
    by_cases h1 : -(n : Int) ≤ i
    · rw [if_pos h1] at h
      have e : (i + n).toNat = j := Option.some.inj h
      exact ⟨by rw [seqIndex_neg (by omega) h1, e], by omega, h1, by omega⟩
    · rw [if_neg h1] at h; cases h
theorem atI_get {α : Type} {xs : List α} {i : Int} {v : α} (h : atI xs i = some v) : ∃ j, seqIndex? i xs.length = some j ∧ xs[j]? = some v ∧ j < xs.length ∧ -(xs.length : Int) ≤ i ∧ i < xs.length := by
  unfold atI at h
  cases e : ixN xs.length i with
  | none => rw [e] at h; cases h
  | some j =>
    rw [e] at h
    obtain ⟨h1, h2, h3, h4⟩ := ixN_seq e
    exact ⟨j, h1, h, h2, h3, h4⟩
theorem atI_nat {α : Type} {xs : List α} {j : Nat} {v : α} (h : xs[j]? = some v) : atI xs (j : Int) = some v := by
  have hj : j < xs.length := (List.getElem?_eq_some_iff.mp h).1
  have e : ixN xs.length (j : Int) = some j := by
    unfold ixN
    rw [if_pos (by omega), if_pos (by omega)]; simp
  unfold atI; rw [e]; exact h
def PlainIx (b : Expr) : Prop := ∀ o i, subscripted b false o i = operate [o, i] (getItem o i)
def IxR (X : Cx) (r : R2) : Prop :=
  ∀ (value slice : Expr) (pins : List (Addr × Obj)) (s : Shared) (σ : St) (H : Hp) (x y : V) (v u : Value) (Q : VK), Inv X pins σ H s → RelV x v → RelV y u → r x y H Q →
    subscripted slice false v u = operate [v, u] (getItem v u) → wpAny (model X.prog X.w) X.A (subscriptTail value slice v u) (EP X pins σ Q) X.xe s
def MtR (X : Cx) (id : String) (r : V → List V → Hp → VK → Prop) : Prop :=
  ∀ (pins : List (Addr × Obj)) (s : Shared) (σ : St) (H : Hp) (x : V) (xs : List V) (v : Value) (us : List Value) (Q : VK), Inv X pins σ H s → RelV x v → Vals xs us → r x xs H Q →
    wpAny (model X.prog X.w) X.A (call (.builtin id) (v :: us)) (EP X pins σ Q) X.xe s
section
variable {X : Cx} {a b : Expr} {ta tb : TE} {pos : Pos}
theorem IxR.or {r r' : R2} (h : IxR X r) (h' : IxR X r') : IxR X (fun x y H Q => r x y H Q ∨ r' x y H Q) := by
  intro value slice pins s σ H x y v u Q I rx ry q hs
  rcases q with q | q
  · exact h value slice pins s σ H x y v u Q I rx ry q hs
  · exact h' value slice pins s σ H x y v u Q I rx ry q hs
theorem pe_ix {r : R2} (hr : IxR X r) (ha : PE X a ta) (hb : PE X b tb) (hs : PlainIx b) : PE X (.Subscript a b pos) (tOp r ta tb) := by
  intro pins s σ H Q I h
  exact Subscript_ (binT ha hb I h fun v u s2 x y H2 I2 rx ry q => hr a b pins s2 σ H2 x y v u Q I2 rx ry q (hs _ _))
def rIxL (K : PySem.W.Frag) : R2 := fun x y H Q => ∃ p xs i v, x = .ref p ∧ y = .int i ∧ SqL K H p xs ∧ atI xs i = some v ∧ Q v H
def rIxT (K : PySem.W.Frag) : R2 := fun x y H Q => ∃ p xs i v, x = .ref p ∧ y = .int i ∧ SqT K H p xs ∧ atI xs i = some v ∧ Q v H
def rIxS : R2 := fun x y H Q => ∃ z i c, x = .str z ∧ y = .int i ∧ z.length ≤ sizeLine ∧ atI z.cps.toList i = some c ∧ Q (.str ⟨#[c]⟩) H
theorem ix_list : IxR X (rIxL X.K) := by
  intro value slice pins s σ H x y v u Q I rx ry h hs
  obtain ⟨p, xs, i, z, rfl, rfl, hq, he, q⟩ := h
  cases rx
  obtain ⟨t, rfl⟩ := ry
  obtain ⟨its, r, pl, hz⟩ := I.list hq
  obtain ⟨j, h1, h2, h3, h4, h5⟩ := atI_get he
  obtain ⟨w, ew, rw'⟩ := r.get h2
  have hl := r.length
  have hn := line63
  have fin : EP X pins σ Q w s := ⟨z, H, I, rw', q⟩
  by_cases h0 : 0 ≤ i
  · have hj : i.toNat = j := by
      rw [seqIndex_of h0 h5] at h1
      exact Option.some.inj h1
    exact item_listR pl.isList h0 (by omega) (by rw [hj]; simpa using ew) fin hs
  · have hj : (i + (its.toArray.size : Int)).toNat = j := by
      rw [seqIndex_neg (by omega) h4] at h1
      rw [List.size_toArray, ← hl]
      exact Option.some.inj h1
    exact subscriptTail_builtinR (x := w) pl.isList.typeIs slot_list_getitem.lookup
      (wpAny_getItem_list_neg (Q := fun r s' => r = w ∧ EP X pins σ Q r s') pl.isList (by omega) (by rw [List.size_toArray] <;> omega) (by omega) (by rw [hj]; simpa using ew) ⟨rfl, fin⟩) hs
theorem ix_tup : IxR X (rIxT X.K) := by
  intro value slice pins s σ H x y v u Q I rx ry h hs
  obtain ⟨p, xs, i, z, rfl, rfl, hq, he, q⟩ := h
  cases rx
  obtain ⟨t, rfl⟩ := ry
  obtain ⟨its, r, pl, hz⟩ := I.tuple hq
  obtain ⟨j, h1, h2, h3, h4, h5⟩ := atI_get he
  obtain ⟨w, ew, rw'⟩ := r.get h2
  have hl := r.length
  have hn := line63
  have fin : EP X pins σ Q w s := ⟨z, H, I, rw', q⟩
  exact subscriptTail_builtinR (x := w) pl.typeIs slot_tuple_getitem.lookup
    (getItem_tuple (j := j) (Q := fun r s' => r = w ∧ EP X pins σ Q r s') pl (by omega) (by omega) (by rw [List.size_toArray, ← hl]; exact h1) (by simpa using ew) ⟨rfl, fin⟩) hs
theorem ix_str : IxR X rIxS := by
  intro value slice pins s σ H x y v u Q I rx ry h hs
  obtain ⟨z, i, c, rfl, rfl, hz, he, q⟩ := h
  obtain ⟨t, rfl⟩ := rx
  obtain ⟨t', rfl⟩ := ry
  obtain ⟨j, h1, h2, h3, h4, h5⟩ := atI_get he
  have hl : z.cps.toList.length = z.length := by simp [Str.length]
  rw [hl] at h1 h4 h5
  have hn := line63
  exact tail_any (typeIs_str s z t) slot_str_getitem.lookup (getItem_str (c := c) (by
    have e1 : decide (i < -(2 ^ 63 : Int)) = false := decide_eq_false (by omega)
    have e2 : decide (i ≥ 2 ^ 63) = false := decide_eq_false (by omega)
    rw [e1, e2, Bool.or_false]) (by rw [h1]; simpa using h2) ⟨.str ⟨#[c]⟩, H, I.tok _, ⟨_, rfl⟩, q⟩) hs
def rIx (K : PySem.W.Frag) : R2 := fun x y H Q => rIxL K x y H Q ∨ rIxT K x y H Q ∨ rIxS x y H Q
theorem ix_seq : IxR X (rIx X.K) := ix_list.or (ix_tup.or ix_str)
theorem mapSeq_set (its : List Value) (n j : Nat) (u : Value) : Obj.mapSeq (·.setIfInBounds j u) { cls := .type "list", data := .seq its.toArray n } = { cls := .type "list", data := .seq (its.set j u).toArray n } := by
  simp [Obj.mapSeq]
theorem Inv.lst {pins : List (Addr × Obj)} {σ : St} {H : Hp} {s : Shared} {p : Addr} {xs : List V} (I : Inv X pins σ H s) (h : H p = some (.lst xs)) :
    ∃ (its : List Value) (n : Nat), Vals xs its ∧ s.heap.get? p = some { cls := .type "list", data := .seq its.toArray n } ∧ xs.length ≤ sizeLine := by
  obtain ⟨z, its, n, r, e⟩ := I.hok p _ h
  exact ⟨its, n, r, e, z⟩
theorem Inv.lstUpd {pins : List (Addr × Obj)} {σ : St} {H : Hp} {s : Shared} {p : Addr} {xs ys : List V} {its its' : List Value} {n n' : Nat} {f : Obj → Obj} (I : Inv X pins σ H s) (h : H p = some (.lst xs))
    (ho : s.heap.get? p = some { cls := .type "list", data := .seq its.toArray n }) (hf : f { cls := .type "list", data := .seq its.toArray n } = { cls := .type "list", data := .seq its'.toArray n' }) (r : Vals ys its') (hz : ys.length ≤ sizeLine) (t : Nat) :
    Inv X pins σ (upd H p (.lst ys)) { s with heap := s.heap.update p f, toks := t } := by
  have e : (s.heap.update p f).get? p = some { cls := .type "list", data := .seq its'.toArray n' } := by
    rw [Heap.get?_update_self f ho (by rw [hf] <;> rfl), hf]
  refine I.write (x := p) (e := p) (by rw [h]; trivial) (.inl rfl) (fun b u hb q => (Heap.get?_update_other _ _ (Ne.symm hb)).trans q) ⟨_, e⟩ ?_
  exact ⟨hz, its', n', r, e⟩
def rSetL : V → V → V → Hp → (Hp → Prop) → Prop := fun o i v H Q => ∃ p xs k j, o = .ref p ∧ i = .int k ∧ H p = some (.lst xs) ∧ ixN xs.length k = some j ∧ Q (upd H p (.lst (xs.set j v)))
theorem set_list : PSet X rSetL := by
  intro pins s σ H o i v ov iv u Q I ro ri rv h
  obtain ⟨p, xs, k, j, rfl, rfl, hp, hj, q⟩ := h
  cases ro
  obtain ⟨t, rfl⟩ := ri
  obtain ⟨its, n, r, ho, hz⟩ := I.lst hp
  obtain ⟨h1, h2, h3, h4⟩ := ixN_seq hj
  have hl := r.length
  have hn := line63
  have I' : Inv X pins σ (upd H p (.lst (xs.set j v))) { s with heap := s.heap.update p (Obj.mapSeq (·.setIfInBounds j u)) } :=
    I.lstUpd hp ho (mapSeq_set its n j u) (r.set rv j) (by rw [List.length_set]; exact hz) s.toks
  by_cases h0 : 0 ≤ k
  · have hk : k.toNat = j := by
      rw [seqIndex_of h0 h4] at h1
      exact Option.some.inj h1
    exact PySem.W.ki_setAt ho h0 (by omega) (by rw [List.size_toArray, ← hl]; exact h4) (by rw [hk]; exact ⟨_, I', q⟩)
  · have hk : (k + (its.toArray.size : Int)).toNat = j := by
      rw [seqIndex_neg (by omega) h3] at h1
      rw [List.size_toArray, ← hl]
      exact Option.some.inj h1
    exact PySem.W.ki_setBack ho (by omega) (by rw [List.size_toArray, ← hl]; exact h3) (by omega) (by rw [hk]; exact ⟨_, I', q⟩)
theorem slice_bounds (lo hi : Option Int) (n : Nat) : (sliceBounds lo hi none n).1 = ((HT.sIx n 0 lo : Nat) : Int) ∧ (sliceBounds lo hi none n).2.1 = ((HT.sIx n n hi : Nat) : Int) ∧ (sliceBounds lo hi none n).2.2 = 1 := by
  refine ⟨?_, ?_, rfl⟩
  · cases lo with
    | none => simp [sliceBounds, HT.sIx]
    | some i =>
      simp only [sliceBounds, HT.sIx, Option.getD_none, show (1 : Int) > 0 by decide, if_true]
      by_cases h : i < 0
      · simp only [h, if_true] <;> omega
      · simp only [h, if_false] <;> omega
  · cases hi with
    | none => simp [sliceBounds, HT.sIx]
    | some i =>
      simp only [sliceBounds, HT.sIx, Option.getD_none, show (1 : Int) > 0 by decide, if_true]
      by_cases h : i < 0
      · simp only [h, if_true] <;> omega
      · simp only [h, if_false] <;> omega
theorem slicePick_cut (its : List Value) (lo hi : Option Int) : slicePick its.toArray lo hi none = ((its.drop (HT.sIx its.length 0 lo)).take (HT.sIx its.length its.length hi - HT.sIx its.length 0 lo)).toArray := by
  obtain ⟨h1, h2, h3⟩ := slice_bounds lo hi its.toArray.size
  unfold slicePick
  rw [h1, h2, h3]
  simp only [sliceRange_one, pick_run, List.size_toArray] <;> rfl
def rSlL (K : PySem.W.Frag) : V → Option Int → Option Int → Hp → VK → Prop := fun x lo hi H Q => ∃ a xs, x = .ref a ∧ SqL K H a xs ∧ ∀ p, H p = none → Q (.ref p) (upd H p (.lst (cutV xs lo hi)))
theorem sl_list : SlR X (rSlL X.K) := by
  intro pins s σ H x v vl vu lo hi sl Q I rx hs pl pu h
  obtain ⟨a, xs, rfl, hx, q⟩ := h
  cases rx
  obtain ⟨its, r, ht, hz⟩ := I.list hx
  have hlen := r.length
  refine ⟨"list", _, slot_list_getitem.lookup, ht.isList.typeIs, ?_⟩
  refine wpAny_getItem_list_slice ht.isList hs pl pu .none (by simp) ?_ (by rw [List.size_toArray] <;> omega)
  rw [slicePick_cut, ← hlen]
  refine ⟨.ref s.heap.objs.size, _, I.laid (t' := s.toks) (o := .lst (cutV xs lo hi)) (fun b ob q => Heap.get?_push_of_some _ q) (Nat.le_refl _) ?_, rfl, q _ (I.hok.fresh (Nat.le_refl _))⟩
  exact ⟨Nat.le_trans (cutV_length xs lo hi) hz, _, 0, (r.drop (HT.sIx xs.length 0 lo)).take (HT.sIx xs.length xs.length hi - HT.sIx xs.length 0 lo), Heap.get?_push_size _ rfl⟩
theorem call_tuple_of : CallR X (.type "tuple") (fun xs H Q => ∃ p ys, xs = [.ref p] ∧ ((SqL X.K H p ys ∧ ∀ l, H l = none → Q (.ref l) (upd H l (.tup ys))) ∨ (SqT X.K H p ys ∧ Q (.ref p) H))) := by
  intro pins s σ H xs us Q I r h
  obtain ⟨p, ys, rfl, h⟩ := h
  obtain ⟨u, rfl, rx⟩ := vals1 r
  cases rx
  rcases h with ⟨hq, q⟩ | ⟨hq, q⟩
  · obtain ⟨its, r', pl, hz⟩ := I.list hq
    have hlen := r'.length
    refine call_tuple_list pl.isList (fun h' kp => ?_) (by simp only [List.size_toArray] <;> omega)
    have I1 : Inv X pins σ H { s with heap := h' } := I.kept (t' := s.toks) kp
    have I2 : Inv X pins σ (upd H h'.objs.size (.tup ys)) { s with heap := h'.push { cls := .type "tuple", data := .seq its.toArray } } :=
      I1.laid (t' := s.toks) (fun b o e => Heap.get?_push_of_some _ e) (Nat.le_refl _) (show ObjOk X.prog X.w _ _ _ (.tup ys) from ⟨hz, its, r', IsTup.new _ _⟩)
    exact ⟨.ref h'.objs.size, _, I2, rfl, q _ (I1.hok.fresh (Nat.le_refl _))⟩
  · obtain ⟨its, r', pl, hz⟩ := I.tuple hq
    exact call_tuple_same pl ⟨.ref p, H, I, rfl, q⟩
def tyV (K : PySem.W.Frag) (T : String) (x : V) (H : Hp) : Prop := match x with
  | .str _ => T = "str"
  | .int _ => T = "int"
  | .ref p => (T = "list" ∧ ∃ xs, SqL K H p xs) ∨ (T = "tuple" ∧ ∃ o, K.lookup p = some o ∧ o.cls = .type "tuple" ∧ o.dict = none) ∨
      (T = "dict" ∧ ((∃ kvs, H p = some (.dK kvs)) ∨ ∃ kvs, H p = some (.dT kvs))) ∨ (T = "set" ∧ ∃ S n, H p = some (.set S n))
  | _ => False
theorem tyV_is {pins : List (Addr × Obj)} {σ : St} {H : Hp} {s : Shared} {T : String} {x : V} {v : Value} (I : Inv X pins σ H s) (r : RelV x v) (ty : tyV X.K T x H) :
    s.TypeIs v T ∧ ∀ a, v = .ref a → ∃ ob, s.heap.get? a = some ob ∧ ob.dict = none := by
  cases x with
  | str z =>
    obtain ⟨t, rfl⟩ := r
    cases (show T = "str" from ty)
    exact ⟨typeIs_str s z t, fun _ e => nomatch e⟩
  | int i =>
    obtain ⟨t, rfl⟩ := r
    cases (show T = "int" from ty)
    exact ⟨typeIs_int s i t, fun _ e => nomatch e⟩
  | ref p =>
    cases r
    rcases ty with ⟨rfl, xs, hq⟩ | ⟨rfl, o, hk, hc, hd⟩ | ⟨rfl, hk⟩ | ⟨rfl, S, n, hk⟩
    · obtain ⟨its, _, pl, _⟩ := I.list hq
      refine ⟨pl.isList.typeIs, fun a e => ?_⟩
      cases e
      obtain ⟨o, n, e, c, hd, _⟩ := pl
      exact ⟨o, e, hd⟩
    · refine ⟨⟨o, I.kIn p o hk, hc⟩, fun a e => ?_⟩
      cases e
      exact ⟨o, I.kIn _ o hk, hd⟩
    · have z : ∃ o, s.heap.get? p = some o ∧ o.ExactDict := by
        rcases hk with ⟨kvs, hk⟩ | ⟨kvs, hk⟩
        · obtain ⟨_, _, _, _, o, _, _, e, ex, _⟩ := I.hok p _ hk
          exact ⟨o, e, ex⟩
        · obtain ⟨_, _, _, _, o, _, _, e, ex, _⟩ := I.hok p _ hk
          exact ⟨o, e, ex⟩
      obtain ⟨o, e, ex⟩ := z
      refine ⟨⟨o, e, ex.1⟩, fun a e2 => ?_⟩
      cases e2
      exact ⟨o, e, ex.2.1⟩
    · obtain ⟨o, _, _, _, e, ex, _⟩ := I.hok p _ hk
      refine ⟨⟨o, e, ex.1⟩, fun a e2 => ?_⟩
      cases e2
      exact ⟨o, e, ex.2.1⟩
  | _ => exact False.elim ty
def tBM0 (K : PySem.W.Frag) (T : String) (r : V → List V → Hp → VK → Prop) (to : TE) : TE := fun σ H Q => to σ H fun x H1 => tyV K T x H1 ∧ r x [] H1 Q
def tBM (K : PySem.W.Frag) (T : String) (r : V → List V → Hp → VK → Prop) (to : TE) (t : TA) : TE := fun σ H Q => to σ H fun x H1 => tyV K T x H1 ∧ t σ H1 fun xs H2 => r x xs H2 Q
variable {o e : Expr} {es : List Expr} {to : TE} {t : TA} {name : Str} {apos cpos : Pos} {T id : String} {r : V → List V → Hp → VK → Prop}
theorem pe_bm0 (pa : PlainAttrs T) (slot : Slot T name id) (hty : typeOf (.builtin id) = pure (.type "method_descriptor")) (hm : MtR X id r) (ho : PE X o to)
    (hbase : attributeBase o name X.env (eval o X.env) = eval o X.env := by rfl) (hline : (apos.endLine == cpos.line) = true := by rfl) : PE X (.Call (.Attribute o name apos) [] [] cpos) (tBM0 X.K T r to) := by
  intro pins s σ H Q I h
  refine wpAny_Call_method0_late hbase hline (thn (ho pins s σ H _ I h) fun v s1 ⟨x, H1, I1, r1, ty, q1⟩ => ?_)
  obtain ⟨h1, h2⟩ := tyV_is I1 r1 ty
  exact ⟨T, id, pa, slot, hty, h1, h2, Calls.callWith_builtin rfl (PySem.evalArgs_none (hm pins s1 σ H1 x [] v [] Q I1 r1 .nil q1))⟩
theorem pe_bm (pa : PlainAttrs T) (slot : Slot T name id) (hty : typeOf (.builtin id) = pure (.type "method_descriptor")) (hm : MtR X id r) (ho : PE X o to) (ha : PA X (e :: es) t)
    (hbase : attributeBase o name X.env (eval o X.env) = eval o X.env := by rfl)
    (hfew : ((backTo cpos (starEach (e :: es) X.env)).all (fun x => !x.1) && (backToKw cpos (keywordEach [] X.env)).all (fun x => x.1.isSome)
      && decide ((e :: es).length + ([] : List Keyword).length + (if ([] : List Keyword).isEmpty then 0 else 1) < 30)) = true := by rfl)
    (hline : (apos.endLine == cpos.line) = true := by rfl) (hs : starEach (e :: es) X.env = (false, eval e X.env) :: starEach es X.env := by rfl) (hplain : (backTo cpos (starEach es X.env)).any (·.1) = false := by rfl) :
    PE X (.Call (.Attribute o name apos) (e :: es) [] cpos) (tBM X.K T r to t) := by
  intro pins s σ H Q I h
  refine wpAny_Call_method_late hbase hfew hline rfl (thn (ho pins s σ H _ I h) fun v s1 ⟨x, H1, I1, r1, ty, q1⟩ => ?_)
  obtain ⟨h1, h2⟩ := tyV_is I1 r1 ty
  refine ⟨T, id, pa, slot, hty, h1, h2, ?_⟩
  have hA := ha cpos pins s1 σ H1 _ I1 q1
  rw [hs] at hA ⊢
  refine Calls.callWith_builtin (by show (false || (backTo cpos (starEach es X.env)).any (·.1)) = false; rw [hplain] <;> rfl) (Calls.evalArgs_plain ?_)
  exact thn hA fun us s2 ⟨vs, H2, I2, r2, q2⟩ => hm pins s2 σ H2 x vs v us Q I2 r1 r2 q2
end
end L2
namespace L2
open PySem PySem.Spec PyProof.Rows
def MtM (X : Cx) (id : String) (r : V → List V → Hp → VK → Prop) : Prop :=
  ∀ (pins : List (Addr × Obj)) (s : Shared) (σ : St) (H : Hp) (x : V) (xs : List V) (v : Value) (us : List Value) (Q : VK), Inv X pins σ H s → RelV x v → Vals xs us → r x xs H Q →
    wpAny (model X.prog X.w) X.A (call (.builtin id) (v :: us)) (EP X pins σ Q) X.xe s
theorem Vals.one : ∀ {x : V} {us : List Value}, Vals [x] us → ∃ u, us = [u] ∧ RelV x u
  | _, _, .cons r .nil => ⟨_, rfl, r⟩
theorem Vals.zero : ∀ {us : List Value}, Vals [] us → us = []
  | _, .nil => rfl
theorem Vals.dropLast {xs : List V} {us : List Value} (h : Vals xs us) : Vals xs.dropLast us.dropLast := by
  induction h with
  | nil => exact .nil
  | cons r t ih =>
    cases t with
    | nil => exact .nil
    | cons q t' => exact .cons r ih
theorem Vals.rep {xs : List V} {us : List Value} (h : Vals xs us) : ∀ k : Nat, Vals (List.replicate k xs).flatten (List.replicate k us).flatten
  | 0 => .nil
  | k + 1 => by
    rw [List.replicate_succ, List.replicate_succ, List.flatten_cons, List.flatten_cons]
    exact Vals.append h (Vals.rep h k)
theorem erase_last {α : Type} (l : List α) : l.eraseIdx (l.length - 1) = l.dropLast := by
  induction l with
  | nil => rfl
  | cons a r ih =>
    cases r with
    | nil => rfl
    | cons b r =>
      have e : (a :: b :: r).length - 1 = ((b :: r).length - 1) + 1 := by
        have h1 : (a :: b :: r).length = r.length + 2 := rfl
        have h2 : (b :: r).length = r.length + 1 := rfl
        omega
      rw [e, List.eraseIdx_cons_succ, ih]
      all_goals rfl
theorem foldl_rep (its : List Value) : ∀ (k : Nat) (acc : List Value),
    List.foldl (fun x1 x2 => x1 ++ x2) acc.toArray (List.replicate k its.toArray) = (acc ++ (List.replicate k its).flatten).toArray
  | 0, acc => by simp
  | k + 1, acc => by
    have e : acc.toArray ++ its.toArray = (acc ++ its).toArray := by simp
    have e2 : (acc ++ its) ++ (List.replicate k its).flatten = acc ++ (List.replicate (k + 1) its).flatten := by
      rw [List.replicate_succ, List.flatten_cons, List.append_assoc]
    rw [← e2, ← foldl_rep its k (acc ++ its), ← e, List.replicate_succ, List.foldl_cons]
section
variable {X : Cx} {pins : List (Addr × Obj)} {σ : St} {H : Hp} {s : Shared} {l b : Addr} {xs ys zs : List V}
theorem Inv.lset {its its' : List Value} {n : Nat} {f : Array Value → Array Value} {t' : Nat} (I : Inv X pins σ H s) (hH : H l = some (.lst xs))
    (e : s.heap.get? l = some { cls := .type "list", data := .seq its.toArray n }) (hf : f its.toArray = its'.toArray) (hv : Vals ys its') (hz : ys.length ≤ sizeLine) :
    Inv X pins σ (upd H l (.lst ys)) { s with heap := s.heap.update l (Obj.mapSeq f), toks := t' } := by
  have q := PySem.IsL.update e f
  rw [hf] at q
  refine I.write (x := l) (e := l) (by rw [hH]; exact trivial) (.inl rfl) (fun b' u hb hu => (Heap.get?_update_other s.heap (Obj.mapSeq f) (Ne.symm hb)).trans hu) ⟨_, q⟩ ?_
  exact ⟨hz, its', _, hv, q⟩
theorem Inv.lnew {its : List Value} {t' : Nat} (I : Inv X pins σ H s) (hv : Vals ys its) (hz : ys.length ≤ sizeLine) :
    Inv X pins σ (upd H s.heap.objs.size (.lst ys)) { s with heap := s.heap.push { cls := .type "list", data := .seq its.toArray }, toks := t' } :=
  I.laid (fun _ _ q => Heap.get?_push_of_some _ q) (Nat.le_refl _) ⟨hz, its, 0, hv, Heap.get?_push_size _ rfl⟩
theorem Inv.fresh (I : Inv X pins σ H s) : H s.heap.objs.size = none := I.hok.fresh (Nat.le_refl _)
theorem Inv.lstM (I : Inv X pins σ H s) (hH : H l = some (.lst xs)) : xs.length ≤ sizeLine ∧ ∃ (its : List Value) (n : Nat), Vals xs its ∧ xs.length = its.length ∧ s.heap.get? l = some { cls := .type "list", data := .seq its.toArray n } := by
  obtain ⟨z, its, n, r, e⟩ := I.hok l _ hH
  exact ⟨z, its, n, r, r.length, e⟩
theorem notLongL {n : Nat} (h : n ≤ sizeLine) : Builtin.List.listTooLong n = false := by
  unfold Builtin.List.listTooLong
  exact decide_eq_false (by omega)
end
section
variable {X : Cx}
def rAppend : V → List V → Hp → VK → Prop := fun x vs H Q => ∃ l xs y, x = .ref l ∧ vs = [y] ∧ H l = some (.lst xs) ∧ xs.length < sizeLine ∧ Q .non (upd H l (.lst (xs ++ [y])))
theorem mt_append : MtM X "list.append" rAppend := by
  intro pins s σ H x vs v us Q I rx rv h
  obtain ⟨l, xs, y, rfl, rfl, hH, hz, q⟩ := h
  cases rx
  obtain ⟨u, rfl, ru⟩ := rv.one
  obtain ⟨z, its, n, r, hl, e⟩ := I.lstM hH
  refine call_meets F.slot_list_append ⟨_, e, rfl⟩ F.entry_list_append (F.args_list_append_2 _ _) (PySem.list_append l its.toArray n u (by rw [List.size_toArray]; omega)) ⟨e, ?_⟩
  refine ⟨.non, _, I.lset (its' := its ++ [u]) hH e (by simp) (r.append (.cons ru .nil)) ?_, rfl, q⟩
  rw [List.length_append, List.length_singleton]
  omega
def rExtend : V → List V → Hp → VK → Prop := fun x vs H Q => ∃ l b xs zs, x = .ref l ∧ vs = [.ref b] ∧ H l = some (.lst xs) ∧ H b = some (.lst zs) ∧ xs.length + zs.length ≤ sizeLine ∧ Q .non (upd H l (.lst (xs ++ zs)))
theorem mt_extend : MtM X "list.extend" rExtend := by
  intro pins s σ H x vs v us Q I rx rv h
  obtain ⟨l, b, xs, zs, rfl, rfl, hH, hB, hz, q⟩ := h
  cases rx
  obtain ⟨u, rfl, ru⟩ := rv.one
  cases ru
  obtain ⟨z, its, n, r, hl, e⟩ := I.lstM hH
  obtain ⟨z2, its2, n2, r2, hl2, e2⟩ := I.lstM hB
  have hsz : its.toArray.size + its2.toArray.size ≤ sizeLine := by rw [List.size_toArray, List.size_toArray]; omega
  have hlong : ¬ (!its.toArray.isEmpty && Builtin.List.listTooLong (its.toArray.size + its2.toArray.size)) = true := by
    rw [notLongL hsz, Bool.and_false]
    exact Bool.false_ne_true
  refine call_meets F.slot_list_extend ⟨_, e, rfl⟩ F.entry_list_extend (F.args_list_extend_2 _ _)
    (AutoSeq1.list_extend_list_list_0 l its.toArray n b its2.toArray n2 hlong (by rw [List.size_toArray]; omega) (by omega)) ⟨e, e2, ?_⟩
  refine ⟨.non, _, I.lset (its' := its ++ its2) hH e (by simp) (r.append r2) ?_, rfl, q⟩
  rw [List.length_append]
  omega
def rPop : V → List V → Hp → VK → Prop := fun x vs H Q => ∃ l xs y, x = .ref l ∧ vs = [] ∧ H l = some (.lst xs) ∧ xs[xs.length - 1]? = some y ∧ Q y (upd H l (.lst xs.dropLast))
theorem mt_pop : MtM X "list.pop" rPop := by
  intro pins s σ H x vs v us Q I rx rv h
  obtain ⟨l, xs, y, rfl, rfl, hH, hy, q⟩ := h
  cases rx
  have hus := rv.zero
  subst hus
  obtain ⟨z, its, n, r, hl, e⟩ := I.lstM hH
  obtain ⟨u, hu, ru⟩ := r.get hy
  have hy' : its.toArray[its.toArray.size - 1]? = some u := by
    show its.toArray[its.length - 1]? = some u
    rw [← Array.getElem?_toList, ← hl]
    exact hu
  refine call_meets F.slot_list_pop ⟨_, e, rfl⟩ F.entry_list_pop (F.args_list_pop_1 _) (MeetsSeq.list_pop_last l its.toArray n u hy' (by rw [List.size_toArray]; omega)) ⟨e, ?_⟩
  refine ⟨y, _, I.lset (its' := its.dropLast) hH e ?_ r.dropLast ?_, ru, q⟩
  · show its.toArray.eraseIdxIfInBounds (its.toArray.size - 1) = its.dropLast.toArray
    rw [List.size_toArray, List.eraseIdxIfInBounds_toArray, erase_last]
  · rw [List.length_dropLast]
    omega
def rCat : R2 := fun x y H Q => ∃ l b xs zs, x = .ref l ∧ y = .ref b ∧ H l = some (.lst xs) ∧ H b = some (.lst zs) ∧ xs.length + zs.length ≤ sizeLine ∧ ∀ p, H p = none → Q (.ref p) (upd H p (.lst (xs ++ zs)))
theorem op_cat : OpR X (binaryOp .Add) rCat := by
  intro pins s σ H x y v u Q I rx ry h
  obtain ⟨l, b, xs, zs, rfl, rfl, hH, hB, hz, q⟩ := h
  cases rx
  cases ry
  obtain ⟨z, its, n, r, hl, e⟩ := I.lstM hH
  obtain ⟨z2, its2, n2, r2, hl2, e2⟩ := I.lstM hB
  refine PySem.P.add_list e e2 ?_ (by rw [List.size_toArray, List.size_toArray]; omega)
  have ea : its.toArray ++ its2.toArray = (its ++ its2).toArray := by simp
  rw [ea]
  exact ⟨.ref _, _, I.lnew (t' := s.toks) (r.append r2) (by rw [List.length_append]; omega), rfl, q _ I.fresh⟩
def rRep : R2 := fun x y H Q => ∃ l k xs, x = .ref l ∧ y = .int k ∧ H l = some (.lst xs) ∧ -(2 ^ 63) ≤ k ∧ k < 2 ^ 63 ∧ xs.length * k.toNat ≤ sizeLine ∧
  ∀ p, H p = none → Q (.ref p) (upd H p (.lst (List.replicate k.toNat xs).flatten))
theorem len_rep {α : Type} (xs : List α) (k : Nat) : (List.replicate k xs).flatten.length = k * xs.length := by
  induction k with
  | zero => simp
  | succ k ih => rw [List.replicate_succ, List.flatten_cons, List.length_append, ih, Nat.succ_mul, Nat.add_comm]
theorem op_rep : OpR X (binaryOp .Mult) rRep := by
  intro pins s σ H x y v u Q I rx ry h
  obtain ⟨l, k, xs, rfl, rfl, hH, h1, h2, hz, q⟩ := h
  cases rx
  obtain ⟨t, rfl⟩ := ry
  obtain ⟨z, its, n, r, hl, e⟩ := I.lstM hH
  have hlen : its.toArray.size * k.toNat ≤ sizeLine := by rw [List.size_toArray, ← hl]; exact hz
  have hcap : ¬ its.toArray.size * k.toNat > (2 ^ 63 - 1) / 8 := by
    have : (sizeLine : Nat) ≤ (2 ^ 63 - 1) / 8 := by decide
    omega
  have hfit : ¬ (!Builtin.List.listFitsIndex k) = true := by
    rw [fitsIndex_both h1 h2]
    exact Bool.false_ne_true
  have hlong : ¬ Builtin.List.listTooLong (its.toArray.size * k.toNat) = true := by
    rw [notLongL hlen]
    exact Bool.false_ne_true
  have hnew : List.foldl (fun x1 x2 => x1 ++ x2) #[] (List.replicate (if its.toArray.isEmpty = true then 0 else k.toNat) its.toArray) = (List.replicate k.toNat its).flatten.toArray := by
    have f0 : ∀ m : Nat, List.foldl (fun x1 x2 => x1 ++ x2) #[] (List.replicate m its.toArray) = (List.replicate m its).flatten.toArray := fun m => by
      have := foldl_rep its m []
      rw [List.nil_append] at this
      exact this
    rw [f0]
    cases its with
    | nil => simp
    | cons a r' => rw [if_neg (by simp)]
  refine wpAny_binaryOp_repeat_ref (T := "list") (U := "int") (by decide) ⟨_, e, rfl⟩ (fun s' => typeIs_int s' k t) noFill_list_mul F.fills_int_mul F.slot_int_rmul repeat_list F.slot_int_index.lookup
    (call_meets F.slot_int_rmul (typeIs_int s k t) F.entry_int_rmul (F.args_int_rmul_2 _ _) (int___rmul___int_list k t l its.toArray n)
      ⟨e, rfl, ⟨_, e, rfl⟩, call_meets F.slot_list_mul ⟨_, e, rfl⟩ F.entry_list_mul (F.args_list_mul_2 _ _) (AutoListH.list___mul___list_int_3 l its.toArray n k t hfit hcap hlong) ⟨e, ?_⟩⟩)
  rw [hnew]
  exact ⟨.ref _, _, I.lnew (t' := s.toks) (r.rep k.toNat) (by rw [len_rep, Nat.mul_comm]; exact hz), rfl, q _ I.fresh⟩
end
section
variable {prog : Program} {w : World} {A : Around} {E : Value → Shared → Prop} {s : Shared}
end
section
variable {X : Cx}
end
end L2
namespace L2
open PySem PySem.Spec PyProof.Rows
section
variable {κ : Type} [DecidableEq κ]
def valV (kvs : List (κ × V)) (k : κ) : Option V := (kvs.find? fun kv => decide (kv.1 = k)).map (·.2)
theorem valV_pos {p : κ × V} {r : List (κ × V)} {k : κ} (e : p.1 = k) : valV (p :: r) k = some p.2 := by simp [valV, List.find?_cons, e]
theorem valV_neg {p : κ × V} {r : List (κ × V)} {k : κ} (e : ¬ p.1 = k) : valV (p :: r) k = valV r k := by simp [valV, List.find?_cons, e]
theorem KV.val {kvs : List (κ × V)} {vs : List (κ × Value)} (r : KV kvs vs) (k : κ) : RelO (valV kvs k) (valueAt vs k) := by
  unfold KV at r
  induction r with
  | nil => exact True.intro
  | @cons p q ps qs h t ih =>
    obtain ⟨h1, h2⟩ := h
    by_cases e : p.1 = k
    · have e' : q.1 = k := h1.symm.trans e
      have b : valueAt (q :: qs) k = some q.2 := by simp [valueAt, List.find?_cons, e']
      rw [valV_pos e, b]; exact h2
    · have e' : ¬ q.1 = k := fun z => e (h1.trans z)
      have b : valueAt (q :: qs) k = valueAt qs k := by simp [valueAt, List.find?_cons, e']
      rw [valV_neg e, b]; exact ih
end
theorem kV_is {P : Program} {w : World} {k : Key} {u : Value} (r : RelV (kV k) u) : (mixKind P w).is k u = true := by
  cases k with
  | inl i => obtain ⟨t, e⟩ := (show ∃ t, u = Value.int i t from r); subst e; exact mixKind_int P w i t
  | inr x => obtain ⟨t, e⟩ := (show ∃ t, u = Value.str x t from r); subst e; exact mixKind_str P w x t
theorem items_are {P : Program} {w : World} : ∀ {ks : List Key} {us : List Value}, Vals (ks.map kV) us → ItemsAre (mixKind P w) ks us
  | [], _, r => by rw [List.map_nil] at r; cases r; exact .nil
  | k :: ks, _, r => by
    rw [List.map_cons] at r
    cases r with
    | cons h t => exact .cons (kV_is h) (items_are t)
abbrev KT (H : Hp) : List (List Key × V) → List (List Key × Addr × Value) → Prop := Paired fun p q => p.1 = q.1 ∧ H q.2.1 = some (.tup (p.1.map kV)) ∧ RelV p.2 q.2.2
theorem KT.val {H : Hp} {kvs : List (List Key × V)} {xs : List (List Key × Addr × Value)} (r : KT H kvs xs) (k : List Key) : RelO (valV kvs k) ((atKey xs k).map (·.2)) := by
  induction r with
  | nil => exact True.intro
  | @cons p q ps qs h t ih =>
    obtain ⟨h1, _, h2⟩ := h
    by_cases e : p.1 = k
    · have e' : q.1 = k := h1.symm.trans e
      have b : atKey (q :: qs) k = some q.2 := by simp [atKey, List.find?_cons, e']
      rw [valV_pos e, b]; exact h2
    · have e' : ¬ q.1 = k := fun z => e (h1.trans z)
      have b : atKey (q :: qs) k = atKey qs k := by simp [atKey, List.find?_cons, e']
      rw [valV_neg e, b]; exact ih
theorem KT.keeps {H H' : Hp} {kvs : List (List Key × V)} {xs : List (List Key × Addr × Value)} (r : KT H kvs xs) (ht : ∀ b ys, H b = some (.tup ys) → H' b = some (.tup ys)) : KT H' kvs xs :=
  Paired.mapP r fun _ _ z => ⟨z.1, ht _ _ z.2.1, z.2.2⟩
section
variable {P : Program} {w : World} {H : Hp} {h : Heap} {a : Addr}
theorem rd_of {u : HO} (ok : HOk P w H h) (e : Rd H a u) : ObjOk P w H h a u := e.ok ok
theorem dk_rd {kvs : List (Key × V)} (ok : HOk P w H h) (e : Rd H a (.dK kvs)) : kvs.length ≤ sizeLine ∧ (a == sysModules) = false ∧ ∃ vs, KV kvs vs ∧ h.DictOf (mixKind P w) a vs :=
  show ObjOk P w H h a (.dK kvs) from rd_of ok e
theorem key_of {ks : List Key} (ok : HOk P w H h) (e : H a = some (.tup (ks.map kV))) : (tupleKind (mixKind P w)).is h ks a := by
  obtain ⟨_, its, r, o, h1, h2, n, h3⟩ := (show ObjOk P w H h a (.tup (ks.map kV)) from ok a _ e)
  exact ⟨o, its.toArray, n, h1, h2, h3, by simpa using items_are r⟩
theorem dt_rd {kvs : List (List Key × V)} (ok : HOk P w H h) (e : Rd H a (.dT kvs)) : kvs.length ≤ sizeLine ∧ (a == sysModules) = false ∧
    ∃ xs, KT H kvs xs ∧ h.DictOfH (tupleKind (mixKind P w)) a xs := by
  obtain ⟨z, y, xs, r, o, es, ep, h1, h2, h3, h4, h5⟩ := (show ObjOk P w H h a (.dT kvs) from rd_of ok e)
  refine ⟨z, y, xs, r, o, es, ep, h1, h2, h3, h4, fun x hx => ?_, h5⟩
  have all : ∀ {l : List (List Key × V)} {m : List (List Key × Addr × Value)}, KT H l m → ∀ x ∈ m, (tupleKind (mixKind P w)).is h x.1 x.2.1 := by
    intro l m q
    induction q with
    | nil => intro x hx; exact nomatch hx
    | @cons p q ps qs hq t ih =>
      intro x hx
      rcases List.mem_cons.mp hx with e | hx
      · subst e
        exact key_of ok (by rw [← hq.1]; exact hq.2.1)
      · exact ih x hx
  exact all r x hx
end
def DGet (H : Hp) (a : Addr) (y : V) (r : Option V) : Prop :=
  (∃ kvs k, Rd H a (.dK kvs) ∧ y = kV k ∧ r = valV kvs k) ∨ ∃ kvs k b, Rd H a (.dT kvs) ∧ y = .ref b ∧ H b = some (.tup (k.map kV)) ∧ r = valV kvs k
section
variable {X : Cx} {pins : List (Addr × Obj)} {σ : St} {H : Hp} {s : Shared} {a : Addr} {y v : V} {u r : Value} {o : Option V} {A : Around} {E : Value → Shared → Prop}
theorem Inv.big (I : Inv X pins σ H s) : sysModules < s.heap.objs.size := by
  have h : mainGlobals < s.heap.objs.size := (I.mod.glob.keeps I.bk).lt
  exact Nat.lt_trans (by decide) h
theorem d_getItem {Q : Value → Shared → Prop} (hu : A.units + 1 < cLine) (I : Inv X pins σ H s) (g : DGet H a y (some v)) (ry : RelV y u) (h : ∀ w' s', Inv X pins σ H s' → RelV v w' → Q w' s') :
    wpAny (model X.prog X.w) A (getItem (.ref a) u) Q E s := by
  rcases g with ⟨kvs, k, e, ey, l⟩ | ⟨kvs, k, b, e, ey, eb, l⟩
  · subst ey
    obtain ⟨z, hd, vs, rel, dd⟩ := dk_rd I.hok e
    obtain ⟨w', hw, rw'⟩ := RelO.some_of (v := v) (o := valueAt vs k) (by rw [l]; exact rel.val k)
    exact wpAny_getItem_of (kV_is ry) dd.mapOf hw (h w' _ (I.tok _) rw')
  · subst ey
    cases (show u = Value.ref b from ry)
    obtain ⟨z, hd, xs, rel, dd⟩ := dt_rd I.hok e
    obtain ⟨w', hw, rw'⟩ := RelO.some_of (v := v) (o := (atKey xs k).map (·.2)) (by rw [l]; exact rel.val k)
    obtain ⟨p, hp, hp2⟩ := Option.map_eq_some_iff.mp hw
    refine wpAny_getItem_heap (tupleKind_room_in1 hu) (key_of I.hok eb) dd hp ?_
    rw [hp2]
    exact h w' _ (I.tok _) rw'
end
section
variable {X : Cx} {pins : List (Addr × Obj)} {σ : St} {H : Hp} {s : Shared} {a : Addr} {kvs : List (Key × V)} {k : Key} {u : Value} {A : Around} {E : Value → Shared → Prop}
end
def NoSl (i : Expr) : Prop := ∀ ov iv, subscripted i false ov iv = operate [ov, iv] (getItem ov iv)
theorem subD_of {prog : Program} {w : World} {A : Around} {E : Value → Shared → Prop} {s : Shared} {env : Env} {value slice : Expr} {pos : Pos} {T id : String} {Q : Value → Shared → Prop}
    (hl : typeLookup (.type T) "__getitem__" = pure (some (.builtin id))) (hs : NoSl slice)
    (h : wpAny (model prog w) A (eval value env) (fun o s₁ => wpAny (model prog w) A (eval slice env) (fun i s₂ => s₂.TypeIs o T ∧ wpAny (model prog w) A (getItem o i) Q E s₂) E s₁) E s) :
    wpAny (model prog w) A (eval (.Subscript value slice pos) env) Q E s := by
  refine Subscript_ (wpAny_mono h (fun o s₁ h₁ => wpAny_mono h₁ (fun i s₂ h₂ => ?_) fun _ _ x => x) fun _ _ x => x)
  obtain ⟨hT, h₂⟩ := h₂
  unfold subscriptTail
  refine wpAny_bind ?_
  rw [getitemInPython_of_ne hT.not_modules]
  refine wpAny_bind (wpAny_specialOf hT hl ?_)
  have fin : wpAny (model prog w) A (subscripted slice false o i) (fun r s₃ => wpAny (model prog w) A (letTemporaryGo value o r >>= fun _ => pure r) Q E s₃) E s₂ := by
    rw [hs o i]
    exact wpAny_operating (wpAny_mono h₂ (fun r s₃ h₃ => wpAny_bind (wpAny_letTemporaryGo (wpAny_pure h₃))) fun _ _ x => x)
  first
    | exact wpAny_pure (wpAny_bind fin)
    | exact wpAny_bind (wpAny_pure (wpAny_bind fin))
    | exact wpAny_bind fin
theorem dict_typeIs {X : Cx} {pins : List (Addr × Obj)} {σ : St} {H : Hp} {s : Shared} {a : Addr} {y : V} {o : Option V} (I : Inv X pins σ H s) (g : DGet H a y o) : s.TypeIs (.ref a) "dict" := by
  rcases g with ⟨kvs, k, e, _, _⟩ | ⟨kvs, k, b, e, _, _, _⟩
  · obtain ⟨_, _, vs, _, dd⟩ := dk_rd I.hok e
    exact dd.typeIs
  · obtain ⟨_, _, xs, _, dd⟩ := dt_rd I.hok e
    exact dd.typeIs
def tDGet (td ty : TE) : TE := fun σ H Q => td σ H fun x H1 => ty σ H1 fun y H2 => ∃ a v, x = .ref a ∧ DGet H2 a y (some v) ∧ Q v H2
section
variable {X : Cx} {o i e value : Expr} {pos pos' tpos : Pos} {td ty tv : TE}
theorem pe_dget (hu : X.A.units + 1 < cLine) (ho : PE X o td) (hi : PE X i ty) (hs : NoSl i) : PE X (.Subscript o i pos) (tDGet td ty) := by
  intro pins s σ H Q I h
  refine subD_of PySem.F.slot_dict_getitem.lookup hs (thn (ho pins s σ H _ I h) fun u s1 ⟨x, H1, I1, rx, q1⟩ => thn (hi pins s1 σ H1 _ I1 q1) fun iv s2 ⟨y, H2, I2, ry, a, v, ex, g, q2⟩ => ?_)
  subst ex
  obtain rfl : u = Value.ref a := rx
  exact ⟨dict_typeIs I2 g, d_getItem hu I2 g ry fun w' s3 I3 rw' => ⟨v, H2, I3, rw', q2⟩⟩
end
section
variable {X : Cx} {pos : Pos}
end
structure M2 (X : Cx) (o : Expr) (m : Str) (apos : Pos) (e f : Expr) (cpos : Pos) : Prop where
  base : attributeBase o m X.env (eval o X.env) = eval o X.env
  few : ((backTo cpos (starEach [e, f] X.env)).all (fun x => !x.1) && (backToKw cpos (keywordEach [] X.env)).all (fun x => x.1.isSome)
    && decide (([e, f] : List Expr).length + ([] : List Keyword).length + (if ([] : List Keyword).isEmpty then 0 else 1) < 30)) = true
  line : (apos.endLine == cpos.line) = true
  trees : backTo cpos (starEach [e, f] X.env) = [(false, eval e X.env), (false, eval f X.env)]
section
variable {X : Cx} {pins : List (Addr × Obj)} {σ : St} {H : Hp} {s : Shared} {a : Addr} {y d : V} {u r : Value} {o : Option V} {A : Around} {E : Value → Shared → Prop}
end
section
variable {X : Cx} {o e f : Expr} {apos cpos : Pos} {td ty tx : TE}
end
section
variable {X : Cx} {pins : List (Addr × Obj)} {σ : St} {H : Hp} {s : Shared} {a : Addr} {kvs : List (Key × V)} {A : Around} {E : Value → Shared → Prop}
end
section
variable {X : Cx} {pins : List (Addr × Obj)} {σ : St} {H : Hp} {s : Shared} {a : Addr} {y : V} {u : Value} {A : Around} {E : Value → Shared → Prop}
end
end L2
namespace Att
open PySem PySem.W PySem.Calls PyProof.Rows
theorem ints_of_wellAll {P : Params} {h : Heap} : ∀ (ns : List Int) (vs : List Value), WellAll P h vs (ns.map WData.int) → IntsAre vs ns := by
  intro ns
  induction ns with
  | nil =>
    intro vs w
    rw [List.map_nil] at w
    cases w
    exact .nil
  | cons n ns ih =>
    intro vs w
    rw [List.map_cons] at w
    cases w with
    | cons a b =>
      cases a
      exact .cons _ _ (ih _ b)
theorem script_of {l : OpenLaw} {n : Nat} (hn : l.most = some n) {P : Params} {h : Heap} {args : List WData} {vals : List Value}
    (hpre : l.row.toRowW.claim.pre args = true) (hwl : WellAll P h vals args) :
    ∃ a vs ns, vals = [Value.ref a] ∧ args = [WData.list (ns.map WData.int)] ∧ h.get? a = some { cls := .type "list", data := .seq vs.toArray } ∧ IntsAre vs ns ∧ ns.length ≤ n := by
  have hsh : WShape.hasAll [] args [.list .int] = true := (pre_splitW hpre).1
  have hc : l.pre.holds [] { args := args } = true := (pre_splitW hpre).2
  obtain ⟨d, r, rfl, h1, h2⟩ := hasAllW_cons hsh
  obtain rfl := hasAllW_nil h2
  obtain ⟨xs, rfl, h3⟩ := hasW_list h1
  obtain ⟨ns, rfl⟩ := items_int h3
  have hlen : ns.length ≤ n := by
    unfold OpenLaw.pre at hc
    have h4 : (WTm.not (.lt (.lit (.int (n : Int))) (.len (.arg 0)))).holds [] { args := [.list (ns.map .int)] } = true := by
      have h4 := (holds_andW hc).1
      rw [hn] at h4
      exact h4
    have h5 := condW_of h4 (w_not (w_lt w_lit (w_len_list (w_arg rfl))))
    rw [List.length_map] at h5
    refine Nat.le_of_not_lt fun q => ?_
    have q' : (n : Int) < ((ns.length : Nat) : Int) := by omega
    first
      | (rw [decide_eq_true q'] at h5; exact absurd h5 (by decide))
      | (simp at h5; omega)
  cases hwl with
  | cons w1 w2 =>
    cases w2
    cases w1 with
    | list ho hall => exact ⟨_, _, ns, rfl, rfl, ho, ints_of_wellAll ns _ hall, hlen⟩
theorem post_true (l : OpenLaw) (args : List WData) : l.row.toRowW.claim.post args (.bool true) args = true :=
  postW_of (r := l.row.toRowW) (X := (true == true))
    (show WShape.has [] (.bool true) .bool = true by first | rfl | decide | simp [WShape.has, WShape.arms, WShape.armsAll])
    (show (WTm.eq .res (.lit (.bool true))).value [] { args := args, res := some (.bool true), after := args } = some (.bool (true == true)) from w_eq_bool (w_res rfl) w_lit) rfl
theorem attach_call {l : OpenLaw} {n : Nat} {q : Program} {loose : List Str} {XP : (Str → Option Value) → Heap → Prop} {YP : World → Heap → Prop} {d : DefRec}
    (hn : l.most = some n) (hdf : d.params.defaults = [])
    (call : ∀ (w : World) (s₀ s₁ : Shared) (mg mb : Str → Option Value) (fa : Addr) (o : Obj) (pm cd doc : Value) (a : Addr) (vs : List Value) (ns : List Int),
      Ground q loose [] XP w s₀ mg mb s₁.heap → YP w s₁.heap →
      s₁.heap.get? fa = some o → o.data = .func (docDef d.name d.params d.body d.scope pm cd doc) → s₁.heap.CodeRec cd d.name → mg d.name = some (.ref fa) →
      s₁.heap.get? a = some { cls := .type "list", data := .seq vs.toArray } → IntsAre vs ns → ns.length ≤ n → s₁.gens = #[] →
      codeAny (model l.prog w) callerA (.call (.ref fa) ⟨[.ref a], []⟩) (fun r s' => r = .ok (.ret (.bool true)) ∧ OldK s₁.heap s'.heap ∧ s'.os = s₁.os ∧ AllBare s'.gens) s₁) :
    WalkO q loose XP YP l.row.toRowW d [] (fun f vs => PySem.call f vs) := by
  intro w s₀ s₁ mg mb G Y fa o pm cd doc dV kV ho hd hcd hD hmg hg args vals as hpre hlay hrd hwl hlo
  obtain rfl : dV = .none := Dflts.none hD hdf
  obtain rfl : kV = .none := Dflts.noKw hD
  obtain ⟨a, vs, ns, rfl, rfl, hobj, hints, hlen⟩ := script_of hn hpre hwl
  refine enter_call (codeAny_mono (call w s₀ s₁ mg mb fa o pm cd doc a vs ns G Y ho (fd_plain hd) hcd hmg hobj hints hlen hg) fun r s' hq => ?_)
  obtain ⟨rfl, h2, h3, h4⟩ := hq
  exact ⟨.inl ⟨.bool true, .bool true, [], rfl, fun _ => rfl, .bool true, post_true l _, fun _ => ⟨List.Pairwise.nil, fun _ hm => (nomatch hm)⟩⟩, h2, h3, h4⟩
section
variable {prog : Program} {w : World} {A : Around} {E : Value → Shared → Prop} {s : Shared} {K : Frag}
end
end Att
namespace L2
open PySem PySem.Spec PyProof.Rows
theorem vals_ints : ∀ {vs : List Value} {ns : List Int}, IntsAre vs ns → Vals (ns.map V.int) vs
  | _, _, .nil => .nil
  | _, _, .cons n t h => .cons ⟨t, rfl⟩ (vals_ints h)
def Only (H : Hp) : Prop := ∀ b, H b = none ∨ ∃ o xs, H b = some (.frz o (.lst xs))
theorem law_call {P : Program} {w : World} {K : PySem.W.Frag} {mg mb : Str → Option Value} {CX : CXT} {k : Nat} {fa a : Addr} {fd : FuncData} {x : Str} {sp : Sp} {s₁ : Shared} {vs : List Value} {ns : List Int}
    (KX : K.In s₁.heap) (hns : s₁.heap.Ns mainGlobals mg) (hb : s₁.heap.Ns builtinsNs mb) (hbb : ∀ x : Str, x ≠ "__name__" → mb x = bootBuiltins x) (hlim : s₁.heap.NoLimit) (hg : s₁.gens = #[])
    (ha : s₁.heap.get? a = some { cls := .type "list", data := .seq vs.toArray }) (hi : IntsAre vs ns) (hl : ns.length ≤ sizeLine) (hr : Room k callerA)
    (F : ∀ base : Heap, K.In base → base.Ns mainGlobals mg → FnOk P w K mg base CX k fa fd [x] sp) (hbind : ∀ (s : Shared) (u : Value), BindsTo s fd ⟨[u], []⟩ [(x, u)])
    (hsp : ∀ H : Hp, Only H → SqL K H a (ns.map V.int) → sp [.ref a] H (fun v _ => v = .bl true) fun _ _ _ => False)
    (hCX : ∀ H e s', CX [] H s₁ (fun _ _ _ => False) e s' → False) :
    codeAny (model P w) callerA (.call (.ref fa) ⟨[.ref a], []⟩) (fun r s' => r = .ok (.ret (.bool true)) ∧ OldK s₁.heap s'.heap ∧ s'.os = s₁.os ∧ AllBare s'.gens) s₁ := by
  have rv := vals_ints hi
  have lenV := hi.length
  -- from an abstract heap in which nothing but the script may be tracked
  have core : ∀ H : Hp, Only H → SqL K H a (ns.map V.int) → HOk P w H s₁.heap → (∀ b, H b ≠ none → b = a) → (H a ≠ none → K.lookup a = none) →
      codeAny (model P w) callerA (.call (.ref fa) ⟨[.ref a], []⟩) (fun r s' => r = .ok (.ret (.bool true)) ∧ OldK s₁.heap s'.heap ∧ s'.os = s₁.os ∧ AllBare s'.gens) s₁ := by
    intro H hO hS hok hA hK
    have base_of : ∀ {b : Addr} {o : Obj}, s₁.heap.get? b = some o → H b = none → (hidT s₁.heap H).get? b = some o := fun e n => hidT_get e n
    have noA : ∀ {b : Addr} {o : Obj} {es : Array DictEntry} {ep : Nat}, s₁.heap.get? b = some o → o.data = .dict es ep → H b = none := fun {b o es ep} e d => by
      cases q : H b with
      | none => rfl
      | some u =>
        have e' : b = a := hA b (by rw [q]; simp)
        subst e'
        rw [ha] at e; cases e
        have d' : Data.seq vs.toArray _ = Data.dict es ep := d
        cases d'
    have nsK : ∀ {b : Addr} {m : Str → Option Value}, s₁.heap.Ns b m → (hidT s₁.heap H).Ns b m := fun {b m} ⟨o, es, ep, e, d, r⟩ => ⟨o, es, ep, base_of e (noA e d), d, r⟩
    have hKb : K.In (hidT s₁.heap H) := fun b o e => base_of (KX b o e) (by
      cases q : H b with
      | none => rfl
      | some u =>
        have e' : b = a := hA b (by rw [q]; simp)
        subst e'
        rw [hK (by rw [q]; simp)] at e; cases e)
    have hM : Mod K mg (hidT s₁.heap H) := ⟨hKb, nsK hns, ⟨mb, nsK hb, hbb⟩, let ⟨mc, h1, h2⟩ := hlim; ⟨mc, nsK h1, h2⟩⟩
    have e0 : Env0 P w K mg (hidT s₁.heap H) callerA [] s₁ H := ⟨rfl, hM, fun b o e => of_hidT e, Nat.le_of_eq (hidT_size _ _), trivial, fun b hb => absurd (show b ∈ ([] : List Addr) from hb) (by simp), hok, .of_eq hg⟩
    refine codeAny_mono ((F _ hKb (nsK hns)).run callerA [] s₁ H ⟨[.ref a], []⟩ [.ref a] [.ref a] _ _ hr e0 (hbind s₁ (.ref a)) (.cons rfl .nil) (hsp H hO hS)) fun r s' h => ?_
    cases r with
    | error e => exact (hCX H e s' h).elim
    | ok fl =>
      cases fl with
      | next => exact False.elim h
      | brk => exact False.elim h
      | cont => exact False.elim h
      | ret u =>
        obtain ⟨v, H', os, bare, un, hok', r', q⟩ := h
        have q' : v = .bl true := q
        subst q'
        obtain rfl : u = Value.bool true := r'
        refine ⟨rfl, OldK.of_keep fun b o e => ?_, os, bare⟩
        cases q : H b with
        | none => exact un.keep b o e q (by intro z; exact absurd (show b ∈ ([] : List Addr) from z) (by simp)) (by simp)
        | some u =>
          rcases hO b with z | ⟨ob, xs, z⟩
          · rw [q] at z; cases z
          · have z2 := un.frzs b ob _ z
            obtain ⟨e1, _⟩ := hok b _ z
            obtain ⟨e2, _⟩ := hok' b _ z2
            rw [e] at e1; cases e1
            exact e2
  cases hk : K.lookup a with
  | some o =>
    -- the script is one of the module's own objects
    have e := KX a o hk
    rw [ha] at e
    cases e
    refine core (fun _ => none) (fun _ => .inl rfl) (.inr ⟨_, vs.toArray, _, hk, rfl, rfl, rfl, by rw [List.size_toArray, lenV]; exact hl, by simpa using rv⟩) (fun b u z => by have z' : (none : Option HO) = some u := z; cases z') (fun b z => absurd rfl z) fun z => absurd rfl z
  | none =>
    refine core (fun b => if b = a then some (.frz { cls := .type "list", data := .seq vs.toArray } (.lst (ns.map V.int))) else none) (fun b => ?_) (.inl (.inr ⟨{ cls := .type "list", data := .seq vs.toArray }, if_pos rfl⟩)) (fun b u z => ?_) (fun b z => ?_) fun _ => hk
    · by_cases hb : b = a
      · exact .inr ⟨_, _, if_pos hb⟩
      · exact .inl (if_neg hb)
    · by_cases hb : b = a
      · have z' := (if_pos hb).symm.trans z
        cases z'
        subst hb
        exact ⟨ha, by rw [List.length_map]; exact hl, vs, _, rv, ha⟩
      · have z' := (if_neg hb).symm.trans z
        cases z'
    · by_cases hb : b = a
      · exact hb
      · exact absurd (if_neg hb) z
end L2
namespace L2
open PySem PySem.Spec PyProof.Rows
theorem walk_of {l : PySem.W.OpenLaw} {n k : Nat} {q : Program} {loose : List Str} {XP : (Str → Option Value) → Heap → Prop} {YP : World → Heap → Prop} {d : DefRec} {K : Params → PySem.W.Frag} {CX : World → CXT} {sp : World → Sp} {x : Str}
    (hn : l.most = some n) (hn2 : n ≤ sizeLine) (hdf : d.params.defaults = []) (hr : Room k callerA)
    (hY : ∀ (w : World) (h : Heap), YP w h → (K w.params).In h)
    (F : ∀ (w : World) (mg : Str → Option Value) (fa : Addr) (h : Heap), (K w.params).In h → h.Ns mainGlobals mg → mg d.name = some (.ref fa) →
      ∃ fd : FuncData, (∀ (s : Shared) (u : Value), BindsTo s fd ⟨[u], []⟩ [(x, u)]) ∧
        ∀ base : Heap, (K w.params).In base → base.Ns mainGlobals mg → FnOk l.prog w (K w.params) mg base (CX w) k fa fd [x] (sp w))
    (hsp : ∀ (w : World) (H : Hp) (a : Addr) (ns : List Int), ns.length ≤ n → Only H → SqL (K w.params) H a (ns.map V.int) → sp w [.ref a] H (fun v _ => v = .bl true) fun _ _ _ => False)
    (hCX : ∀ (w : World) (H : Hp) (s : Shared) (e : Value) (s' : Shared), CX w [] H s (fun _ _ _ => False) e s' → False) :
    PySem.W.WalkO q loose XP YP l.row.toRowW d [] (fun f vs => PySem.call f vs) := by
  refine Att.attach_call hn hdf fun w s₀ s₁ mg mb fa o pm cd doc a vs ns G Y ho hd hcd hmg hobj hints hlen hg => ?_
  have KX := hY w _ Y
  obtain ⟨fd, hb, hF⟩ := F w mg fa _ KX G.T.g hmg
  exact law_call KX G.T.g G.T.b G.T.builtins G.T.nolimit hg hobj hints (Nat.le_trans hlen hn2) hr hF hb (fun H hO hS => hsp w H a ns hlen hO hS) fun H e s' => hCX w H s₁ e s'
end L2
namespace L2
open PySem PySem.Spec PyProof.Rows
def defArgs (s : Stmt) : Arguments := match s with
  | .FunctionDef _ a _ _ _ _ _ _ _ _ => a
  | _ => { posonlyargs := [], args := [], vararg := none, kwonlyargs := [], kw_defaults := [], kwarg := none, defaults := [] }
def defBody (s : Stmt) : List Stmt := match s with
  | .FunctionDef _ _ b _ _ _ _ _ _ _ => b
  | _ => []
def defScope (s : Stmt) : Scope := match s with
  | .FunctionDef _ _ _ _ _ _ sc _ _ _ => sc
  | _ => { kind := .function, names := [], isGenerator := false, isCoroutine := false }
abbrev CX0 : CXT := fun _ _ _ _ _ _ => False
abbrev E0 : XK := fun _ _ _ => False
theorem pass0 {X : Cx} : Passes CX0 X E0 := fun _ _ _ _ _ _ _ h => h.elim
structure Fun (K : PySem.W.Frag) (x qual : Str) (st : Stmt) (f : Addr) (fd : FuncData) : Prop where
  ex : ∃ (oc : Value) (od : Option Addr) (kV doc pm : Value) (an : Option Addr) (cdv ct : Value) (osl : Array (Option Value)),
    fd = PySem.W.fnOf x qual (defArgs st) (defBody st) (defScope st) .none kV doc pm an cdv ct ∧ K.lookup f = some ⟨oc, od, .func fd, osl⟩ ∧ PySem.W.codeIn K cdv qual = true
  kp : PySem.W.keepIn K (.ref f) = true
section
variable {P : Program} {w : World} {K : PySem.W.Frag} {mg : Str → Option Value} {base : Heap}
theorem Fun.ok {x qual : Str} {st : Stmt} {f : Addr} {fd : FuncData} {N ps : List Str} {k : Nat} {sp : Sp} (F : Fun K x qual st f fd) (S : FnScope N ps (defScope st)) (len : ∀ vs H Q E, sp vs H Q E → vs.length = ps.length)
    (hbody : ∀ (cdv : Value) (A : Around) (outer : List Env) (s : Shared) (H : Hp) (vs : List V) (Q : VK) (E : XK), Room k (A.deeper (envOfC qual (defScope st) s.heap.objs.size f cdv)) → sp vs H Q E →
      ∃ t, PSs (cxOf CX0 P w K mg base N qual (defScope st) f cdv A outer s H E).nox (defBody st) t ∧ t { nx := fun _ H' => Q .non H', rt := Q } (start N vs) H) : FnOk P w K mg base CX0 (k + 1) f fd ps sp := by
  obtain ⟨oc, od, kV, doc, pm, an, cdv, ct, osl, rfl, lk, hcd⟩ := F.ex
  refine fn_of lk hcd S len fun A outer s H vs Q E hr hsp => ?_
  obtain ⟨t, h, q⟩ := hbody cdv A outer s H vs Q E hr hsp
  exact ⟨t, h.nox, q⟩
theorem Fun.binds {x qual : Str} {st : Stmt} {f : Addr} {fd : FuncData} {ps : List Str} (F : Fun K x qual st f fd)
    (h : ∀ (kV doc pm : Value) (an : Option Addr) (cdv ct : Value) (us : List Value), us.length = ps.length → bindArgs (PySem.W.fnOf x qual (defArgs st) (defBody st) (defScope st) .none kV doc pm an cdv ct) ⟨us, []⟩ = pure (ps.zip us)) : Binds K fd ps [] := by
  obtain ⟨oc, od, kV, doc, pm, an, cdv, ct, osl, rfl, lk, hcd⟩ := F.ex
  exact .all (h kV doc pm an cdv ct)
theorem fun_mk {x qual : Str} {st : Stmt} {f : Addr} {oc : Value} {od an : Option Addr} {osl : Array (Option Value)} {kV doc pm cdv ct : Value} (l : K.lookup f = some ⟨oc, od, .func (PySem.W.fnOf x qual (defArgs st) (defBody st) (defScope st) .none kV doc pm an cdv ct), osl⟩)
    (c : PySem.W.codeIn K cdv qual = true) (k : PySem.W.keepIn K (.ref f) = true) : Fun K x qual st f (PySem.W.fnOf x qual (defArgs st) (defBody st) (defScope st) .none kV doc pm an cdv ct) := ⟨⟨oc, od, kV, doc, pm, an, cdv, ct, osl, rfl, l, c⟩, k⟩
end
theorem small1000 {n : Nat} (h : n ≤ 1000) : n < sizeLine := Nat.lt_of_le_of_lt h (by decide)
section
variable {X : Cx}
theorem pv (i : Nat) {x : Str} {pos : Pos} (hN : X.N[i]? = some x := by rfl) (hv : Vis X.env.scope x := by first | exact Or.inl rfl | exact Or.inr (Or.inl rfl) | exact Or.inr (Or.inr rfl)) (hd : (x == ("__debug__" : Str)) = false := by decide)
    (hcd : (x == ("__classdict__" : Str)) = false := by decide) : PE X (.Name x pos) (tVar i) := pe_var hN hv hd hcd
end
theorem iteF {A B : Prop} (h : B) : if false = true then A else B := by
  rw [if_neg Bool.false_ne_true]
  exact h
theorem iteT {A B : Prop} (h : A) : if true = true then A else B := by
  rw [if_pos rfl]
  exact h
def Same (H H' : Hp) : Prop := ∀ b o, H b = some o → H' b = some o
theorem Same.refl (H : Hp) : Same H H := fun _ _ h => h
section
variable {κ : Type} [DecidableEq κ]
end
end L2
set_option Elab.async false
set_option linter.all false
set_option maxRecDepth 100000
namespace L2
open PySem PySem.Spec PyProof.Rows
theorem lsz {h : Heap} {b : Nat} {o : Obj} (e : h.get? b = some o) : b < h.objs.size := Heap.lt_size e
theorem neN {a b : Nat} (h : a ≠ b) : a ≠ b := h
theorem ltN {a b : Nat} (h : a < b) : a < b := h
theorem cellN {h : Heap} {c : Nat} {v : Option Value} (q : h.IsCell c v) : c < h.objs.size := q.lt
structure LcScope (Xs : Scope) (N : List Str) (sc : Scope) (N' : List Str) (ix : List (Option Nat)) : Prop where
  kind : sc.kind = .function
  nc : ∀ y ∈ sc.names, y.2 ≠ .cell
  loc : ∀ y ∈ sc.names, y.2 = .local → sc.names.lookup y.1 = some .local
  fr : ∀ y ∈ sc.names, y.2 = .free → (Xs.names.lookup y.1 = some .cell ∨ Xs.names.lookup y.1 = some .free)
  nd : N'.Nodup
  len : ix.length = N'.length
  map : ((ix.zip N').all fun p => match p.1 with | none => true | some j => decide (N[j]? = some p.2) && decide (sc.names.lookup p.2 = some .free)) = true
theorem LcScope.at {Xs : Scope} {N : List Str} {sc : Scope} {N' : List Str} {ix : List (Option Nat)} (S : LcScope Xs N sc N' ix) {i j : Nat} {x : Str} (h1 : ix[i]? = some (some j)) (h2 : N'[i]? = some x) :
    N[j]? = some x ∧ sc.names.lookup x = some .free := by
  have hm : ((some j, x) : Option Nat × Str) ∈ ix.zip N' := by
    refine List.mem_of_getElem? (i := i) ?_
    rw [List.getElem?_zip_eq_some]
    exact ⟨h1, h2⟩
  have q := List.all_eq_true.mp S.map _ hm
  simp only [Bool.and_eq_true, decide_eq_true_eq] at q
  exact q
def blkSt (ix : List (Option Nat)) (σ : St) : St := ix.map fun o => match o with | some j => (σ[j]?).getD none | none => none
def blk (X : Cx) (sc : Scope) (N' : List Str) (cl : List (Str × Addr)) (C : Addr) (s2 : Shared) (H2 : Hp) (fp : List Addr) : Cx where
  prog := X.prog
  w := X.w
  K := X.K
  mg := X.mg
  base := X.base
  A := X.A
  N := N'
  s₀ := s2
  H₀ := H2
  env := compEnvC sc cl C X.env
  outer := X.stack
  stack := X.stack
  ex := fp
  calm := X.calm
  fn := fun _ => false
  pn := []
  xe := fun _ _ => False
theorem closure_ok {env : Env} : ∀ (names : List (Str × NameKind)) (cs : List (Str × Addr)), (∀ y ∈ names, y.2 = .free → ∃ c, env.cells.lookup y.1 = some c) →
    ∃ cl, (forIn names cs fun (x : Str × NameKind) (c : List (Str × Addr)) => (match x with | (name, kind) => do
        let c ← if (kind == NameKind.free) = true then do let a ← cellOf env name; pure ((name, a) :: c) else pure c
        pure (ForInStep.yield c) : Sem (ForInStep (List (Str × Addr))))) = pure cl ∧ (∀ x c, cl.lookup x = some c → cs.lookup x = some c ∨ (env.cells.lookup x = some c ∧ (x, NameKind.free) ∈ names)) ∧ (∀ x, ((x, NameKind.free) ∈ names ∨ (∃ c, cs.lookup x = some c)) → ∃ c, cl.lookup x = some c)
  | [], cs, _ => ⟨cs, rfl, fun _ _ h => .inl h, fun x h => h.elim (fun z => nomatch z) fun z => z⟩
  | (n, k) :: r, cs, h => by
    by_cases hk : k = .free
    · subst hk
      obtain ⟨c, hc⟩ := h (n, .free) List.mem_cons_self rfl
      obtain ⟨cl, e, h1, h2⟩ := closure_ok r ((n, c) :: cs) fun y hy => h y (List.mem_cons_of_mem _ hy)
      refine ⟨cl, ?_, fun x d hd => ?_, fun x hx => ?_⟩
      · rw [List.forIn_cons, ← e]
        simp only [beq_self_eq_true, if_true, cellOf, hc, pure_bind]
      · rcases h1 x d hd with z | ⟨z1, z2⟩
        · rw [List.lookup_cons] at z
          by_cases hx : (x == n) = true
          · rw [hx] at z
            have hx' : x = n := eq_of_beq hx
            subst hx'
            cases z
            exact .inr ⟨hc, List.mem_cons_self⟩
          · have hx' : (x == n) = false := by simpa using hx
            rw [hx'] at z
            exact .inl z
        · exact .inr ⟨z1, List.mem_cons_of_mem _ z2⟩
      · refine h2 x ?_
        rcases hx with hx | ⟨d, hd⟩
        · rcases List.mem_cons.mp hx with z | z
          · injection z with z1 _
            subst z1
            exact .inr ⟨c, by rw [List.lookup_cons]; simp⟩
          · exact .inl z
        · by_cases hx : (x == n) = true
          · exact .inr ⟨c, by rw [List.lookup_cons, hx]⟩
          · have hx' : (x == n) = false := by simpa using hx
            exact .inr ⟨d, by rw [List.lookup_cons, hx']; exact hd⟩
    · obtain ⟨cl, e, h1, h2⟩ := closure_ok r cs fun y hy => h y (List.mem_cons_of_mem _ hy)
      refine ⟨cl, ?_, fun x d hd => ?_, fun x hx => ?_⟩
      · have hb : (k == NameKind.free) = false := by simpa using hk
        rw [List.forIn_cons, ← e]
        simp only [hb, Bool.false_eq_true, if_false, pure_bind]
      · rcases h1 x d hd with z | ⟨z1, z2⟩
        · exact .inl z
        · exact .inr ⟨z1, List.mem_cons_of_mem _ z2⟩
      · refine h2 x ?_
        rcases hx with hx | hx
        · rcases List.mem_cons.mp hx with z | z
          · injection z with _ z2
            exact absurd z2.symm hk
          · exact .inl z
        · exact .inr hx
theorem closureFor_ok {sc : Scope} {env : Env} (h : ∀ y ∈ sc.names, y.2 = .free → ∃ c, env.cells.lookup y.1 = some c) :
    ∃ cl, closureFor sc env = pure cl ∧ (∀ x c, cl.lookup x = some c → env.cells.lookup x = some c ∧ (x, NameKind.free) ∈ sc.names) ∧ (∀ x, (x, NameKind.free) ∈ sc.names → ∃ c, cl.lookup x = some c) := by
  obtain ⟨cl, e, h1, h2⟩ := closure_ok (env := env) sc.names [] h
  refine ⟨cl, ?_, fun x c hc => (h1 x c hc).resolve_left (fun z => nomatch z), fun x hx => h2 x (.inl hx)⟩
  unfold closureFor
  have e' : (forIn sc.names ([] : List (Str × Addr)) fun x r => (match x with | (name, kind) => if (kind == NameKind.free) = true then do let a ← cellOf env name; pure (ForInStep.yield ((name, a) :: r)) else pure (ForInStep.yield r) : Sem (ForInStep (List (Str × Addr))))) = pure cl := by
    rw [← e]
    first
      | rfl
      | (congr 1
         funext x r
         obtain ⟨n, k⟩ := x
         by_cases hk : (k == NameKind.free) = true
         · simp only [hk, if_true, pure_bind]
         · simp only [hk, if_false, pure_bind, Bool.false_eq_true])
      | simp only [pure_bind]
  simpa using e'
theorem lookup_relabel {env : Env} : ∀ {names : List (Str × NameKind)} {x : Str},
    (names.map fun (n, k) => if (k == NameKind.free && env.scope.kind == .function && env.kindOf n == some .cell) then (n, NameKind.cell) else (n, k)).lookup x =
      (names.lookup x).map fun k => if (k == NameKind.free && env.scope.kind == .function && env.kindOf x == some .cell) then NameKind.cell else k
  | [], _ => rfl
  | (n, k) :: r, x => by
    have ih := @lookup_relabel env r x
    show List.lookup x ((if (k == NameKind.free && env.scope.kind == .function && env.kindOf n == some .cell) = true then (n, NameKind.cell) else (n, k)) :: _) = _
    cases hx : x == n with
    | true =>
      have e : x = n := eq_of_beq hx
      subst e
      by_cases hc : (k == NameKind.free && env.scope.kind == .function && env.kindOf x == some .cell) = true
      · rw [if_pos hc, List.lookup_cons, List.lookup_cons, hx]
        simp only [Option.map_some, hc, if_true]
      · rw [if_neg hc, List.lookup_cons, List.lookup_cons, hx]
        simp only [Option.map_some, hc, if_false]
        simp
    | false =>
      by_cases hc : (k == NameKind.free && env.scope.kind == .function && env.kindOf n == some .cell) = true
      · rw [if_pos hc, List.lookup_cons, List.lookup_cons, hx]; exact ih
      · rw [if_neg hc, List.lookup_cons, List.lookup_cons, hx]; exact ih
def PFs (X : Cx) (ifs : List Expr) (t : TT) : Prop :=
  ∀ (pins : List (Addr × Obj)) (s : Shared) (σ : St) (H : Hp) (Q : Bool → Hp → Prop), Inv X pins σ H s → t σ H Q →
    wpAny (model X.prog X.w) X.A (forIn ifs true fun c r => if r = true then do let ok ← isTrue c X.env (eval c X.env); pure (ForInStep.yield ok) else pure (ForInStep.yield r)) (TP X pins σ Q) X.xe s
def tAll : TT := fun _ H Q => Q true H
theorem pfs_nil {X : Cx} : PFs X [] tAll := fun pins s σ H Q I h => by
  rw [List.forIn_nil]
  exact wpAny_pure ⟨H, I, h⟩
theorem pfs_one {X : Cx} {c : Expr} {t : TT} (hc : PT X c t) : PFs X [c] t := fun pins s σ H Q I h => by
  rw [List.forIn_cons]
  simp only [if_true, bind_assoc, pure_bind]
  refine wpAny_bind (thn (hc pins s σ H Q I h) fun b s1 q => ?_)
  rw [List.forIn_nil]
  exact wpAny_pure q
def tLc (ix : List (Option Nat)) (wi : TI) (g : TG) (tf : TT) (te : TE) : TE := fun σ H Q => wi σ H fun J H1 => ∀ D, H1 D = none → ∃ W : Nat → Nat → St → List V → Hp → Prop,
  (∃ m, W 0 m (blkSt ix σ) [] (upd H1 D (.lst []))) ∧ ∀ i m σ' ys H, W i m σ' ys H → H D = some (.lst ys) ∧
    ((J.stop i H ∧ Q (.ref D) H) ∨ (J.go i H ∧ ∀ x H', J.yld i H x H' → g x σ' H' fun σ2 H2 => tf σ2 H2 fun b H3 =>
      if b = true then te σ2 H3 fun y H4 => H4 D = some (.lst ys) ∧ ys.length + 1 ≤ sizeLine ∧ ∃ m', m' < m ∧ W (i + 1) m' σ2 (ys ++ [y]) (upd H4 D (.lst (ys ++ [y]))) else ∃ m', m' < m ∧ W (i + 1) m' σ2 ys H3))
theorem codeAny_compLoop_go {prog : Program} {w : World} {A : Around} {R : Result → Shared → Prop} {s : Shared} {elt target iter : Expr} {ifs : List Expr} {scope : Scope} {pos : Pos} {it acc : Value} {env : Env} (I : Nat → Shared → Prop)
    (turn : ∀ n s, I n s → wpAny (model prog w) A (pyNext it) (fun r s₁ => match r with
      | none => R (.ok .next) s₁
      | some v => wpAny (model prog w) A (letOwnedTupleGo target it v) (fun _ s₁' => wpAny (model prog w) A (assign target env v) (fun _ s₂ =>
          wpAny (model prog w) A (forIn ifs true fun c r => if r = true then do let ok ← isTrue c env (eval c env); pure (ForInStep.yield ok) else pure (ForInStep.yield r)) (fun ok s₃ =>
            if ok = true then wpAny (model prog w) A (eval elt env) (fun x s₄ =>
              wpAny (model prog w) A (call (.builtin "list.append") [acc, x]) (fun _ s₅ => ∃ m, m < n ∧ I m s₅) (fun _ _ => False) s₄) (fun _ _ => False) s₃
            else ∃ m, m < n ∧ I m s₃) (fun _ _ => False) s₂) (fun _ _ => False) s₁') (fun _ _ => False) s₁) (fun _ _ => False) s)
    (n : Nat) (h : I n s) :
    codeAny (model prog w) A (.compLoop (.ListComp elt [⟨target, iter, ifs, 0⟩] scope pos) 0 it acc env) R s := by
  refine codeAny_loop rfl I (fun n s hI => ?_) n h
  show wpAny _ A ((compTurn (.ListComp elt [⟨target, iter, ifs, 0⟩] scope pos) 0 it acc env).onRaise (fun x => do noteFrame x env; theTreesLotGoes x)) _ _ s
  refine wpAny_noted ?_
  rw [compTurn_list]
  refine wpAny_bind (wpAny_standAt (wpAny_bind (wpAny_mono (turn n s hI) (fun r s₁ h₁ => ?_) fun _ _ h' => h'.elim)))
  cases r with
  | none => exact wpAny_pure h₁
  | some v =>
    refine wpAny_bind (wpAny_mono h₁ (fun _ s₁' h₁' => ?_) fun _ _ h' => h'.elim)
    refine wpAny_bind (wpAny_mono h₁' (fun _ s₂ h₂ => wpAny_bind (wpAny_mono h₂ (fun ok s₃ h₃ => ?_) fun _ _ h' => h'.elim)) fun _ _ h' => h'.elim)
    cases ok with
    | false => exact wpAny_pure ⟨rfl, h₃⟩
    | true =>
      have h₃' : wpAny (model prog w) A (eval elt env) (fun x s₄ =>
              wpAny (model prog w) A (call (.builtin "list.append") [acc, x]) (fun _ s₅ => ∃ m, m < n ∧ I m s₅) (fun _ _ => False) s₄) (fun _ _ => False) s₃ := h₃
      exact wpAny_bind (wpAny_bind (wpAny_mono h₃' (fun x s₄ h₄ => wpAny_bind (wpAny_mono h₄ (fun _ s₅ h₅ => wpAny_pure (wpAny_pure ⟨rfl, h₅⟩)) fun _ _ h' => h'.elim)) fun _ _ h' => h'.elim))
section
variable {X : Cx} {elt tg iter : Expr} {ifs : List Expr} {sc : Scope} {pos : Pos} {N' : List Str} {ix : List (Option Nat)} {wi : TI} {g : TG} {tf : TT} {te : TE}
structure CFree (X : Cx) (pins : List (Addr × Obj)) (H : Hp) (C : Addr) : Prop where
  hn : H C = none
  hL : C ≠ X.env.locals
  ab : X.s₀.heap.objs.size ≤ C
  cl : ∀ x c, X.env.cells.lookup x = some c → c ≠ C
  pn : ∀ p ∈ X.pn ++ pins, p.1 ≠ C
theorem lc_core (hc : X.calm = true) (S : LcScope X.env.scope X.N sc N' ix)
    (hg : ∀ cl C s2 H2 fp, PG (blk X sc N' cl C s2 H2 fp) tg g) (hf : ∀ cl C s2 H2 fp, PFs (blk X sc N' cl C s2 H2 fp) ifs tf) (he : ∀ cl C s2 H2 fp, PE (blk X sc N' cl C s2 H2 fp) elt te)
    {pins : List (Addr × Obj)} {σ : St} {H2 : Hp} {s2 : Shared} {cl : List (Str × Addr)} (hcl1 : ∀ x c, cl.lookup x = some c → X.env.cells.lookup x = some c ∧ (x, NameKind.free) ∈ sc.names) (hcl2 : ∀ x, (x, NameKind.free) ∈ sc.names → ∃ c, cl.lookup x = some c)
    {it : Addr} {fp : List Addr} {tn : Nat → Heap → Prop} {J : It} {Q : VK} (I2 : Inv X pins σ H2 s2) (T : Turn X.prog X.w X.K tg J fp it tn) (st2 : tn 0 s2.heap) (f2 : ∀ b ∈ fp, FpOk X pins H2 b)
    (hW : ∀ D, H2 D = none → ∃ W : Nat → Nat → St → List V → Hp → Prop,
      (∃ m, W 0 m (blkSt ix σ) [] (upd H2 D (.lst []))) ∧ ∀ i m σ' ys H, W i m σ' ys H → H D = some (.lst ys) ∧
        ((J.stop i H ∧ Q (.ref D) H) ∨ (J.go i H ∧ ∀ x H', J.yld i H x H' → g x σ' H' fun σ2 H2 => tf σ2 H2 fun b H3 =>
          if b = true then te σ2 H3 fun y H4 => H4 D = some (.lst ys) ∧ ys.length + 1 ≤ sizeLine ∧ ∃ m', m' < m ∧ W (i + 1) m' σ2 (ys ++ [y]) (upd H4 D (.lst (ys ++ [y]))) else ∃ m', m' < m ∧ W (i + 1) m' σ2 ys H3)))
    {RR : Value → Addr → Result → Shared → Prop} {E : Value → Shared → Prop}
    (hRR : ∀ D C m s' H', Inv X pins σ H' s' → Q (.ref D) H' → s'.heap.Ns C m → CFree X pins H' C → RR (.ref D) C (.ok .next) s') :
    wpAny (model X.prog X.w) X.A (newList []) (fun acc s₃ => wpAny (model X.prog X.w) X.A (newFunctionEnv sc X.env.globals cl [] X.env.qual none .none (some X.env)) (fun cenv s₄ =>
      codeAny (model X.prog X.w) X.A (.compStart (.ListComp elt [⟨tg, iter, ifs, 0⟩] sc pos) 0 (.ref it) acc { cenv with scope := relabel sc X.env }) (RR acc cenv.locals) s₄) E s₃) E s2 := by
  refine wpAny_newObj_type (wpAny_newFunctionEnv S.nc (by intro y hy; simp at hy) (fun h₁ hns₁ hsb₁ => ?_) S.kind)
  dsimp only at hns₁ hsb₁ ⊢
  generalize hH2 : s2.heap.push { cls := .type "list", dict := none, data := .seq ([] : List Value).toArray } = G2 at hns₁ hsb₁ ⊢
  have hC : G2.objs.size = s2.heap.objs.size + 1 := by rw [← hH2, Heap.size_push]
  obtain ⟨D, hD⟩ : ∃ D : Nat, s2.heap.objs.size = D := ⟨_, rfl⟩
  obtain ⟨C, hCC⟩ : ∃ C : Nat, G2.objs.size = C := ⟨_, rfl⟩
  simp only [hD, hCC] at hns₁ hsb₁ hC ⊢
  have hDC : D ≠ C := by omega
  have old : ∀ b o, s2.heap.get? b = some o → h₁.get? b = some o := fun b o e => by
    have hb := lsz e
    exact hsb₁.extBut b o (neN (by omega)) (Heap.get?_push_of_some _ (hH2 ▸ Heap.get?_push_of_some _ e))
  have hacc : h₁.get? D = some { cls := .type "list", data := .seq ([] : List Value).toArray } := by
    refine hsb₁.extBut D _ hDC (Heap.get?_push_of_some _ ?_)
    rw [← hH2, ← hD]
    exact Heap.get?_push_size _ rfl
  have hD2 : H2 D = none := I2.hok.fresh (by omega)
  have hC2 : H2 C = none := I2.hok.fresh (by omega)
  obtain ⟨W, ⟨m0, w0⟩, turn⟩ := hW D hD2
  have cellX : ∀ x c, cl.lookup x = some c → ∃ v, s2.heap.IsCell c v := fun x c e => I2.cell x c (hcl1 x c e).1
  have cltD : ∀ x c, cl.lookup x = some c → c < D := fun x c e => by
    obtain ⟨v, q⟩ := cellX x c e
    have := cellN q
    exact ltN (by omega)
  have fpD : ∀ b ∈ fp, b < D := fun b hb => by
    obtain ⟨o, e, _⟩ := T.obj 0 _ st2 b hb
    have := lsz e
    exact ltN (by omega)
  -- the block's context
  have Yok : (blk X sc N' cl C s2 H2 fp).Ok := by
    refine ⟨I2.ok.mod, S.kind, I2.ok.glob, I2.ok.blt, ?_, ?_, ?_, ?_, I2.ok.hd, I2.ok.frames, .inl rfl, ?_, I2.bs, ?_, ?_, ?_, I2.stack, I2.stkFree⟩
    · show s2.heap.objs.size ≤ C
      omega
    · intro x y c e1 e2
      exact I2.ok.inj x y c (hcl1 x c e1).1 (hcl1 y c e2).1
    · intro x hx
      have hx' : (relabel sc X.env).names.lookup x = some .cell ∨ (relabel sc X.env).names.lookup x = some .free := hx
      unfold relabel at hx'
      rw [lookup_relabel] at hx'
      cases q : sc.names.lookup x with
      | none => rw [q] at hx'; simp at hx'
      | some k =>
        have hm := PySem.mem_of_lookup q
        by_cases hk : k = .free
        · subst hk
          exact hcl2 x hm
        · have hk2 : k ≠ .cell := S.nc _ hm
          rw [q] at hx'
          have hb : (k == NameKind.free) = false := by simpa using hk
          simp only [Option.map_some, hb, Bool.false_and, Bool.false_eq_true, if_false] at hx'
          rcases hx' with z | z
          · exact absurd (Option.some.inj z) hk2
          · exact absurd (Option.some.inj z) hk
    · intro x c hfn
      exact absurd hfn Bool.false_ne_true
    · intro b hb
      refine ⟨?_, fun x c e z => (f2 b hb).2.2.2.2.1 x c (hcl1 x c e).1 z⟩
      show b ≠ C
      have := ltN (fpD b hb)
      exact neN (by omega)
    · show X.base.objs.size ≤ s2.heap.objs.size
      exact Nat.le_trans I2.ok.bsz I2.sz
    · intro b o e hb
      rcases (f2 b hb).2.2.2.1 with z | z
      · exact I2.ok.noex b o e z
      · have h1 := lsz (h := X.base) e
        have h2 := I2.ok.bsz
        omega
    · intro b hb z
      rcases List.mem_cons.mp (I2.stkSub b z) with q | q
      · exact (f2 b hb).2.1 q
      · exact (f2 b hb).2.2.1 q
  have un0 : Un (frs X.stack) fp H2 (upd H2 D (.lst [])) s2.heap h₁ := Un.laid old (by omega) hD2
  have hok0 : HOk X.prog X.w (upd H2 D (.lst [])) h₁ := I2.hok.laid old (by omega) ⟨Nat.zero_le _, [], 0, .nil, hacc⟩
  have IY : ∀ tk, Inv (blk X sc N' cl C s2 H2 fp) [] (blkSt ix σ) (upd H2 D (.lst [])) { s2 with heap := h₁, toks := tk } := fun tk => by
    refine ⟨Yok, rfl, I2.bare, un0, ⟨_, hns₁, fun i x v e1 e2 e3 => ?_⟩, fun x c e => ?_, ?_, fun x c e => ?_, fun p hp => absurd (show p ∈ ([] : List (Addr × Obj)) from hp) (by simp), hok0, ?_⟩
    · have e1' : N'[i]? = some x := e1
      unfold blkSt at e2
      rw [List.getElem?_map] at e2
      cases q : ix[i]? with
      | none => rw [q] at e2; cases e2
      | some o =>
        cases o with
        | none => rw [q] at e2; cases e2
        | some j =>
          rw [q] at e2
          have e2' : (σ[j]?).getD none = some v := Option.some.inj e2
          have e4 : σ[j]? = some (some v) := by
            cases z : σ[j]? with
            | none => rw [z] at e2'; cases e2'
            | some y => rw [z] at e2'; exact congrArg some e2'
          obtain ⟨a1, a2⟩ := S.at q e1'
          have hmem := PySem.mem_of_lookup a2
          have hk := S.fr _ hmem rfl
          obtain ⟨m, _, hl⟩ := I2.loc
          obtain ⟨u, r, l⟩ := hl j x v a1 e4 (.inr hk)
          refine ⟨u, r, .inr ⟨?_, ?_⟩⟩
          · show (relabel sc X.env).names.lookup x = some .cell ∨ (relabel sc X.env).names.lookup x = some .free
            unfold relabel
            rw [lookup_relabel, a2]
            by_cases hb : (X.env.scope.kind == .function && X.env.kindOf x == some .cell) = true
            · left
              simp only [Option.map_some, beq_self_eq_true, Bool.true_and, hb, if_true]
            · right
              simp only [Option.map_some, beq_self_eq_true, Bool.true_and, hb, if_false, Bool.false_eq_true]
          · obtain ⟨c, hcx⟩ := hcl2 x hmem
            have hcX := (hcl1 x c hcx).1
            refine ⟨c, hcx, ?_⟩
            rcases l with ⟨k, _⟩ | ⟨k, c', e', z⟩
            · have k' : X.env.scope.names.lookup x = some .local := k
              rcases hk with y | y <;> rw [k'] at y <;> cases y
            · rw [hcX] at e'
              cases e'
              obtain ⟨o, ho, hd⟩ := z
              exact ⟨o, old _ _ ho, hd⟩
    · obtain ⟨v, o, ho, hd⟩ := cellX x c e
      exact ⟨v, o, old _ _ ho, hd⟩
    · show upd H2 D (.lst []) C = none
      rw [upd_ne (Ne.symm hDC)]
      exact hC2
    · have hlt := ltN (cltD x c e)
      show upd H2 D (.lst []) c = none
      rw [upd_ne (neN (by omega))]
      exact I2.freeC x c (hcl1 x c e).1
    · unfold blkSt
      rw [List.length_map]
      exact S.len
  have fpY : ∀ {pins' : List (Addr × Obj)} {H' : Hp}, (∀ b ∈ fp, H' b = none) → (∀ p ∈ pins', p.1 ∉ fp) → ∀ b ∈ fp, FpOk (blk X sc N' cl C s2 H2 fp) pins' H' b := fun hn hp b hb => by
    refine ⟨hn b hb, ?_, ?_, .inl hb, fun x c e z => (f2 b hb).2.2.2.2.1 x c (hcl1 x c e).1 z, fun p hpp z => ?_⟩
    · show b ≠ C
      have := ltN (fpD b hb)
      exact neN (by omega)
    · exact Yok.exfs b hb
    · have hpp' : p ∈ ([] : List (Addr × Obj)) ++ _ := hpp
      rw [List.nil_append] at hpp'
      exact hp p hpp' (z ▸ hb)
  have loop : ∀ s₃ : Shared, s₃ = { s2 with heap := h₁, toks := s2.toks + ([] : List (Str × Value)).length } →
      codeAny (model X.prog X.w) X.A (.compLoop (.ListComp elt [⟨tg, iter, ifs, 0⟩] sc pos) 0 (.ref it) (.ref D) (compEnvC sc cl C X.env)) (RR (.ref D) C) s₃ := by
    rintro s₃ rfl
    refine codeAny_compLoop_go (fun n s' => ∃ i σ' ys H', Inv (blk X sc N' cl C s2 H2 fp) [] σ' H' s' ∧ tn i s'.heap ∧ (∀ b ∈ fp, H' b = none) ∧ W i n σ' ys H') ?_ m0
      ⟨0, _, [], _, IY _, T.keep _ _ _ st2 (fun b _ o e => old b o e), fun b hb => by rw [upd_ne (Nat.ne_of_lt (fpD b hb))]; exact (f2 b hb).1, w0⟩
    rintro n s3 ⟨i, σ3, ys, H3, I3, st3, fr3, w3⟩
    obtain ⟨hDl, w3⟩ := turn i n σ3 ys H3 w3
    rcases w3 with ⟨stop, qn⟩ | ⟨go, step⟩
    · refine thn (T.done (blk X sc N' cl C s2 H2 fp) rfl rfl rfl hc i [] s3 σ3 H3 _ I3 (fpY fr3 (by simp)) st3 stop) fun r s4 ⟨hr, I4⟩ => ?_
      subst hr
      obtain ⟨m, hn, _⟩ := I4.loc
      refine hRR D C m s4 H3 (I2.call' (ch := fp) I4.os I4.base I4.hok I4.bare fun b hb => ?_) qn hn ?_
      · obtain ⟨a0, a1, a2, a3, a4, a5⟩ := f2 b hb
        exact ⟨a3, a1, a4, a5⟩
      · refine ⟨I4.free, ?_, ?_, fun x c e z => ?_, fun p hp z => ?_⟩
        · have := ltN I2.lt
          exact neN (by omega)
        · have := I2.sz
          omega
        · obtain ⟨v, q⟩ := I2.cell x c e
          have := cellN q
          exact neN (a := c) (b := C) (by omega) z
        · have := lsz (I2.pin p hp).1
          exact neN (a := p.1) (b := C) (by omega) z
    · refine thn (T.item (blk X sc N' cl C s2 H2 fp) rfl rfl rfl hc i [] s3 σ3 H3 (fun _ _ => False) I3 (fpY fr3 (by simp)) st3 go) fun r s4 ⟨u, hr, h4⟩ => ?_
      subst hr
      refine thn h4 fun _ s5 ⟨x, H5, I5, r5, y5, st5, fr5⟩ => ?_
      have I5' := I5.pinned (fpY fr5 (by simp)) (T.obj _ _ st5)
      refine thn (hg _ _ _ _ _ _ s5 σ3 H5 x u _ I5' r5 (step x H5 y5)) fun _ s6 ⟨σ6, H6, I6, q6⟩ => ?_
      refine thn (hf _ _ _ _ _ _ s6 σ6 H6 _ I6 q6) fun b s7 ⟨H7, I7, q7⟩ => ?_
      have keepT : ∀ {s8 : Shared} {σ8 : St} {H8 : Hp}, Inv (blk X sc N' cl C s2 H2 fp) ([] ++ pinsAt fp s5.heap) σ8 H8 s8 → tn (i + 1) s8.heap ∧ ∀ b ∈ fp, H8 b = none := fun {s8 σ8 H8} I8 => by
        refine ⟨T.keep _ _ _ st5 fun b hb o e => (I8.pin (b, o) (List.mem_append_right _ (List.mem_append_right _ (mem_pinsAt hb e)))).1, fun b hb => ?_⟩
        obtain ⟨o, e, d⟩ := T.obj _ _ st5 b hb
        exact (I8.pin (b, o) (List.mem_append_right _ (List.mem_append_right _ (mem_pinsAt hb e)))).2.1
      cases b with
      | false =>
        have q7' : ∃ m', m' < n ∧ W (i + 1) m' σ6 ys H7 := q7
        obtain ⟨m', hm, w7⟩ := q7'
        rw [if_neg Bool.false_ne_true]
        obtain ⟨t7, fr7⟩ := keepT I7
        exact ⟨m', hm, i + 1, σ6, ys, H7, I7.unpinned, t7, fr7, w7⟩
      | true =>
        rw [if_pos rfl]
        rw [if_pos rfl] at q7
        refine thn (he _ _ _ _ _ _ s7 σ6 H7 _ I7 q7) fun yv s8 ⟨y, H8, I8, r8, hD8, hz8, m', hm, w8⟩ => ?_
        obtain ⟨z, its, k, rv, hl8, e8⟩ := I8.lstM hD8
        obtain ⟨t8, fr8⟩ := keepT I8
        refine wpAny_list_append_plain (s := s8) (items := its.toArray) (hsz := by rw [List.size_toArray]; omega) ⟨_, e8⟩ fun h9 hl9 hs9 => ?_
        obtain ⟨k9, e9⟩ := hl9
        have hv9 : Vals (ys ++ [y]) (its ++ [yv]) := Vals.append rv (.cons r8 .nil)
        have I9 : Inv (blk X sc N' cl C s2 H2 fp) ([] ++ pinsAt fp s5.heap) σ6 (upd H8 D (.lst (ys ++ [y]))) { s8 with heap := h9, toks := s8.toks } := by
          refine I8.write (x := D) (e := D) (by rw [hD8]; exact trivial) (.inl rfl) (fun b u hb hu => (hs9.2 b hb).trans hu) ⟨_, e9⟩ ?_
          refine ⟨by rw [List.length_append, List.length_singleton]; exact hz8, its ++ [yv], k9, hv9, ?_⟩
          rw [e9]
          simp
        obtain ⟨t9, fr9⟩ := keepT I9
        exact ⟨m', hm, i + 1, σ6, _, _, I9.unpinned, t9, fr9, w8⟩
  exact codeAny_compStart_list (loop _ rfl) (T.self _ 0 _ _ _ (T.keep _ _ _ st2 fun b _ o e => old b o e) (loop _ rfl))
theorem pe_lc (hc : X.calm = true) (S : LcScope X.env.scope X.N sc N' ix) (hi : PI X tg iter wi)
    (hg : ∀ cl C s2 H2 fp, PG (blk X sc N' cl C s2 H2 fp) tg g) (hf : ∀ cl C s2 H2 fp, PFs (blk X sc N' cl C s2 H2 fp) ifs tf) (he : ∀ cl C s2 H2 fp, PE (blk X sc N' cl C s2 H2 fp) elt te)
    (hs : ∀ x, foldedSetIterable iter X.env x = pure x := by intro _; rfl) : PE X (.ListComp elt [⟨tg, iter, ifs, 0⟩] sc pos) (tLc ix wi g tf te) := by
  intro pins s σ H Q I h
  rw [eval_ListComp]
  have hcells : ∀ y ∈ sc.names, y.2 = .free → ∃ c, X.env.cells.lookup y.1 = some c := fun y hy hk => I.ok.has y.1 (S.fr y hy hk)
  obtain ⟨cl, hclos, hcl1, hcl2⟩ := closureFor_ok hcells
  refine wpAny_comprehension_free (use := none) rfl hs hclos S.kind S.loc (thn (hi pins s σ H _ I h) fun v s1 h1 => thn h1 fun itv s2 h2 => ?_)
  obtain ⟨it, fp, tn, J, H2, rfl, I2, T, st2, f2, hW⟩ := h2
  refine lc_core (RR := fun acc C => compPost (model X.prog X.w) X.A X.xe none (EP X pins σ Q) acc C) hc S hg hf he hcl1 hcl2 I2 T st2 f2 hW fun D C m s' H' I' q hn F => ?_
  refine ⟨m, hn, fun h' hs' => ⟨.ref D, H', ?_, rfl, q⟩⟩
  exact I'.turned (it := C) (t' := s'.toks) (fun b o hb e => (hs'.2 b hb).trans e) F.hn F.hL (.inr F.ab) F.cl F.pn
theorem ps_setlc {i : Nat} {x : Str} {px spos : Pos} (hc : X.calm = true) (hN : X.N.Nodup) (hi' : X.N[i]? = some x) (hx : X.env.scope.names.lookup x = some .local) (S : LcScope X.env.scope X.N sc N' ix) (hi : PI X tg iter wi)
    (hg : ∀ cl C s2 H2 fp, PG (blk X sc N' cl C s2 H2 fp) tg g) (hf : ∀ cl C s2 H2 fp, PFs (blk X sc N' cl C s2 H2 fp) ifs tf) (he : ∀ cl C s2 H2 fp, PE (blk X sc N' cl C s2 H2 fp) elt te)
    (hsw : swapsWith (.ListComp elt [⟨tg, iter, ifs, 0⟩] sc pos) (some (.Name x px)) spos.line X.env = pure true := by rfl)
    (hs : ∀ x, foldedSetIterable iter X.env x = pure x := by intro _; rfl) : PS X (.Assign [.Name x px] (.ListComp elt [⟨tg, iter, ifs, 0⟩] sc pos) spos) (tAsg (tLc ix wi g tf te) (gName i)) := by
  intro pins s σ H D0 I h
  rw [exec_Assign_Name_used _ _ _ _ hsw]
  refine wpAny_bind (wpAny_standAt (wpAny_bind ?_))
  show wpAny _ X.A (do let _ ← comprehension (.ListComp elt [⟨tg, iter, ifs, 0⟩] sc pos) sc X.env _ (newList []) false (eval iter X.env) (some (assign (.Name x px) X.env))) _ _ s
  have hcells : ∀ y ∈ sc.names, y.2 = .free → ∃ c, X.env.cells.lookup y.1 = some c := fun y hy hk => I.ok.has y.1 (S.fr y hy hk)
  obtain ⟨cl, hclos, hcl1, hcl2⟩ := closureFor_ok hcells
  refine wpAny_bind (wpAny_mono (wpAny_comprehension_free (use := some (assign (.Name x px) X.env)) (Q := fun _ s' => SP X pins D0 .next s') rfl hs hclos S.kind S.loc (thn (hi pins s σ H _ I h) fun v s1 h1 => thn h1 fun itv s2 h2 => ?_)) (fun _ s' hq => wpAny_pure (wpAny_pure hq)) fun _ _ e => e)
  obtain ⟨it, fp, tn, J, H2, rfl, I2, T, st2, f2, hW⟩ := h2
  refine lc_core (RR := fun acc C => compPost (model X.prog X.w) X.A X.xe (some (assign (.Name x px) X.env)) (fun _ s' => SP X pins D0 .next s') acc C) (Q := fun x H1 => gName i x σ H1 D0.nx) hc S hg hf he hcl1 hcl2 I2 T st2 f2 hW fun D C m s' H' I' q hn F => ?_
  show wpAny _ X.A (assign (.Name x px) X.env (.ref D)) _ _ _
  refine wpAny_assign_Name (store_ok2 (v := .ref D) I' hN hi' (.inl hx) rfl (fun s'' I'' hsb => ?_) (.inr hx))
  obtain ⟨a, hsb, ha⟩ := hsb
  have haC : C ≠ a := by
    rcases ha with z | z
    · rw [z]; exact F.hL
    · exact Ne.symm (F.cl _ _ z)
  refine ⟨m, hn.sameBut hsb haC, fun h' hs' => ⟨_, H', ?_, q⟩⟩
  exact I''.turned (it := C) (t' := s''.toks) (fun b o hb e => (hs'.2 b hb).trans e) F.hn F.hL (.inr F.ab) F.cl F.pn
end
end L2
set_option Elab.async false
set_option linter.all false
set_option maxRecDepth 100000
namespace L2
open PySem PySem.Spec PyProof.Rows
section
variable {X : Cx} {a b e : Expr} {ta tb : TE} {pos : Pos}
theorem call_isinst : CallR X (.builtin "isinstance") (fun xs H Q => ∃ x c t b, xs = [x, .ty c] ∧ TyOf X.K H x t ∧ PySem.W.kitOne X.K t (.type c) = some b ∧ Q (.bl b) H) := by
  intro pins s σ H xs us Q I r h
  obtain ⟨x, c, t, b, rfl, ty, hk, q⟩ := h
  obtain ⟨u, w', rfl, ru, rw'⟩ := vals2 r
  cases (show w' = Value.type c from rw')
  exact isinst_ok I ru ty hk fun tk => ⟨.bl b, H, I.tok _, rfl, q⟩
theorem op_ne_nil (hu : X.A.units < cLine) : OpR X (compareOp .NotEq) (fun x y H Q => ∃ p q xs, x = .ref p ∧ y = .ref q ∧ SqL X.K H p xs ∧ SqL X.K H q [] ∧ Q (.bl (!xs.isEmpty)) H) := by
  intro pins s σ H x y v u Q I rx ry h
  obtain ⟨p, q, xs, rfl, rfl, hp, hq, k⟩ := h
  cases rx
  cases ry
  obtain ⟨its, r, pl, hz⟩ := I.list hp
  obtain ⟨its2, r2, pl2, hz2⟩ := I.list hq
  cases r2
  cases xs with
  | nil =>
    cases r
    refine EqBoolInt.of_rcne (SeqAt.RcNeAt.lists (e := fun _ => true) pl.isList pl2.isList rfl hu fun j h1 => absurd h1 (by simp)) ?_
    exact ⟨.bl false, H, I, rfl, k⟩
  | cons y ys =>
    have hl := r.length
    refine EqBoolInt.of_rcne (SeqAt.RcNeAt.lists_lengths pl.isList pl2.isList (by simp at hl ⊢; intro z; subst z; simp at hl) hu) ?_
    exact ⟨.bl true, H, I, rfl, k⟩
theorem bools_of {bs : List Bool} : ∀ {us : List Value}, Vals (bs.map V.bl) us → us = bs.map Value.bool := by
  induction bs with
  | nil => intro us r; rw [List.map_nil] at r; cases r; rfl
  | cons n ns ih =>
    intro us r
    rw [List.map_cons] at r
    cases r with
    | cons r1 r2 =>
      cases r1
      rw [ih r2]
      rfl
theorem call_all_l (hc : X.calm = true) : CallR X (.builtin "all") (fun xs H Q => ∃ (p : Addr) (bs : List Bool), xs = [.ref p] ∧ SqL X.K H p (bs.map V.bl) ∧ Q (.bl (bs.all id)) H) := by
  intro pins s σ H xs us Q I r h
  obtain ⟨p, bs, rfl, hp, q⟩ := h
  obtain ⟨u, rfl, ru⟩ := vals1 r
  cases ru
  obtain ⟨its, rv, pl, hz⟩ := I.list hp
  have eb := bools_of rv
  subst eb
  have hl := pl.isList
  have hlt : p < s.heap.objs.size := by obtain ⟨_, e, _⟩ := hl; exact Heap.lt_size e
  refine call_all_walk (wpAny_pyIter_list hl ?_)
  refine ⟨s.heap.objs.size, [s.heap.objs.size, p], [s.heap.objs.size], (bs.map Value.bool).toArray.size, _, _, fun i => (bs[i]?).getD true, rfl, Walks.list (A := X.A.in1) (I.ok.hd hc) _ p (Nat.ne_of_lt hlt) (bs.map Value.bool).toArray,
    ⟨⟨_, Heap.get?_push_size _ rfl, rfl, rfl⟩, hl.push _⟩, fun i v s' Q' E' hP hQ => ?_, fun h' tk hk => ?_⟩
  · have hP' : (bs.map Value.bool)[i]? = some v := by simpa using hP
    rw [List.getElem?_map] at hP'
    cases e : bs[i]? with
    | none => rw [e] at hP'; cases hP'
    | some b =>
      rw [e] at hP'
      cases hP'
      simp only [e, Option.getD_some] at hQ
      exact wpAny_truthy_bool hQ
  · have e : ((List.range (bs.map Value.bool).toArray.size).all fun i => (bs[i]?).getD true) = bs.all id := by
      rw [List.size_toArray, List.length_map]; exact LSm.range_all bs
    rw [e]
    exact ⟨.bl (bs.all id), H, I.kept (LSm.kept_iter hk), rfl, q⟩
theorem list_extend_tup (l : Addr) (items : Array Value) (n : Nat) (b : Addr) (items2 : Array Value) (n2 : Nat) (dd : Option Addr) (sl : Array (Option Value)) (hs0 : ¬(!items.isEmpty && Builtin.List.listTooLong (items.size + items2.size)) = true) (hs1 : items.size ≤ sizeLine) (hs2 : items.size + items2.size ≤ sizeLine + 1) :
    Meets (Builtin.«list.extend» ⟨[.ref l, .ref b], []⟩) (fun _ R s => s.heap.get? l = some { cls := .type "list", dict := none, data := .seq items n, slots := #[] } ∧ s.heap.get? b = some { cls := .type "tuple", dict := dd, data := .seq items2 n2, slots := sl } ∧ R (.ok (.ret Value.none)) { s with heap := s.heap.update l (Obj.mapSeq fun x => x ++ items2), toks := s.toks }) :=
  .of_wp fun prog w A R s h => by
    obtain ⟨hp, g, d, tk, os⟩ := s; obtain ⟨hl, hb, h⟩ := h; have f1 := PySem.AutoSeq1.idx_int; have f2 := PySem.AutoSeq1.sub_tuple_tuple; have f3 := PySem.AutoSeq1.sub_list_list; have f4 := PySem.AutoSeq1.sub_tuple_list; have f5 := PySem.AutoSeq1.sub_list_tuple;
    have hz' : (items ++ items2).size ≤ sizeLine + 1 := by rw [Array.size_append]; exact hs2
    wp_walk using (wpAny_updateSeq hl rfl (hz := hs1) (_hz' := hz')), PySem.AutoSeq1.wpAny_loadPart' hl, PySem.AutoSeq1.wpAny_loadPart' hb; exact ⟨_, rfl, h⟩
def rExtendT (K : PySem.W.Frag) : V → List V → Hp → VK → Prop := fun x vs H Q => ∃ l b xs zs, x = .ref l ∧ vs = [.ref b] ∧ H l = some (.lst xs) ∧ SqT K H b zs ∧ xs.length + zs.length ≤ sizeLine ∧ Q .non (upd H l (.lst (xs ++ zs)))
theorem mt_extendT : MtM X "list.extend" (rExtendT X.K) := by
  intro pins s σ H x vs v us Q I rx rv h
  obtain ⟨l, b, xs, zs, rfl, rfl, hH, hB, hz, q⟩ := h
  cases rx
  obtain ⟨u, rfl, ru⟩ := rv.one
  cases ru
  obtain ⟨z, its, n, r, hl, e⟩ := I.lstM hH
  obtain ⟨its2, r2, ⟨⟨cls, dd, data, sl⟩, e2, hc, n2, hd⟩, z2⟩ := I.tuple hB
  simp only at hc hd
  subst hc hd
  have hl2 := r2.length
  have hsz : its.toArray.size + its2.toArray.size ≤ sizeLine := by rw [List.size_toArray, List.size_toArray]; omega
  have hlong : ¬ (!its.toArray.isEmpty && Builtin.List.listTooLong (its.toArray.size + its2.toArray.size)) = true := by
    rw [notLongL hsz, Bool.and_false]
    exact Bool.false_ne_true
  refine call_meets F.slot_list_extend ⟨_, e, rfl⟩ F.entry_list_extend (F.args_list_extend_2 _ _)
    (list_extend_tup l its.toArray n b its2.toArray n2 dd sl hlong (by rw [List.size_toArray]; omega) (by omega)) ⟨e, e2, ?_⟩
  refine ⟨.non, _, I.lset (its' := its ++ its2) hH e (by simp) (r.append r2) ?_, rfl, q⟩
  rw [List.length_append]
  omega
end
section
variable {X : Cx} {CX : CXT} {k : Nat} {f : Addr} {fd : FuncData} {ps : List Str} {sp : Sp} {dvs : List V} {ds : List Value} {E : XK} {x : Str} {p pos : Pos} {e : Expr} {es : List Expr} {ta : TE} {t : TA}
end
section
variable {X : Cx} {o : Expr} {lo hi : Expr} {to tl th : TE} {pos p2 : Pos}
end
end L2
set_option Elab.async false
set_option linter.all false
set_option maxRecDepth 100000
namespace L2
open PySem PySem.Spec PyProof.Rows
def SameX (l : Addr) (H H' : Hp) : Prop := ∀ b u, b ≠ l → H b = some u → H' b = some u
theorem same_new {H : Hp} {p : Addr} (h : H p = none) (o : HO) : Same H (upd H p o) := fun b u q => by rw [upd_ne (ne_of_none q h)]; exact q
theorem samex_upd {H : Hp} {p : Addr} (o : HO) : SameX p H (upd H p o) := fun b u n q => by rw [upd_ne n]; exact q
def newO (H : Hp) (o : HO) (Q : VK) : Prop := ∀ p H', Same H H' → H' p = some o → H p = none → Q (.ref p) H'
theorem newO.at {H : Hp} {o : HO} {Q : VK} (h : newO H o Q) (p : Addr) (hp : H p = none) : Q (.ref p) (upd H p o) := h p _ (same_new hp o) upd_same hp
def updO (H : Hp) (l : Addr) (o : HO) (Q : Hp → Prop) : Prop := ∀ H', SameX l H H' → H' l = some o → Q H'
theorem updO.at {H : Hp} {l : Addr} {o : HO} {Q : Hp → Prop} (h : updO H l o Q) : Q (upd H l o) := h _ (samex_upd o) upd_same
theorem OpR.mono {X : Cx} {f : Value → Value → Sem Value} {r r' : R2} (h : OpR X f r) (hr : ∀ x y H Q, r' x y H Q → r x y H Q) : OpR X f r' := fun pins s σ H x y v u Q I rx ry q => h pins s σ H x y v u Q I rx ry (hr _ _ _ _ q)
theorem CallR.mono {X : Cx} {f : Value} {r r' : List V → Hp → VK → Prop} (h : CallR X f r) (hr : ∀ xs H Q, r' xs H Q → r xs H Q) : CallR X f r' := fun pins s σ H xs us Q I rx q => h pins s σ H xs us Q I rx (hr _ _ _ q)
theorem MtM.mono {X : Cx} {id : String} {r r' : V → List V → Hp → VK → Prop} (h : MtM X id r) (hr : ∀ x xs H Q, r' x xs H Q → r x xs H Q) : MtM X id r' := fun pins s σ H x xs v us Q I rx rv q => h pins s σ H x xs v us Q I rx rv (hr _ _ _ _ q)
theorem PSet.mono {X : Cx} {r r' : TSet} (h : PSet X r) (hr : ∀ o i v H Q, r' o i v H Q → r o i v H Q) : PSet X r' := fun pins s σ H o i v ov iv u Q I ro ri rv q => h pins s σ H o i v ov iv u Q I ro ri rv (hr _ _ _ _ _ q)
theorem SlR.mono {X : Cx} {r r' : V → Option Int → Option Int → Hp → VK → Prop} (h : SlR X r) (hr : ∀ x lo hi H Q, r' x lo hi H Q → r x lo hi H Q) : SlR X r' := fun pins s σ H x v vl vu lo hi sl Q I rx hs pl pu q => h pins s σ H x v vl vu lo hi sl Q I rx hs pl pu (hr _ _ _ _ _ q)
section
variable {X : Cx} {e o : Expr} {es : List Expr} {te : TE} {t : TA} {pos : Pos}
def tTupN (t : TA) : TE := fun σ H Q => t σ H fun xs H1 => xs.length ≤ sizeLine ∧ newO H1 (.tup xs) Q
def tLstN (t : TA) : TE := fun σ H Q => t σ H fun xs H1 => xs.length ≤ sizeLine ∧ newO H1 (.lst xs) Q
theorem pe_tupN {x1} (h : PA X es t) : PE X (.Tuple es x1 pos) (tTupN t) := by
  intro pins s σ H Q I hq
  refine wpAny_Tuple_spliced (thn (h pos pins s σ H _ I hq) fun us s1 ⟨xs, H1, I1, r, z, q⟩ => ⟨by rw [← r.length]; exact z, ?_⟩)
  have hf : H1 s1.heap.objs.size = none := I1.hok.fresh (Nat.le_refl _)
  refine ⟨.ref s1.heap.objs.size, upd H1 s1.heap.objs.size (.tup xs), I1.laid (t' := s1.toks) (fun b u e => Heap.get?_push_of_some _ e) (Nat.le_refl _) ?_, rfl, q.at _ hf⟩
  exact ⟨z, us, r, ⟨_, Heap.get?_push_size _ rfl, rfl, _, rfl⟩⟩
theorem pe_lstN (h : PA X es t) : PE X (.List es pos) (tLstN t) := by
  intro pins s σ H Q I hq
  refine wpAny_List_spliced (thn (h pos pins s σ H _ I hq) fun us s1 ⟨xs, H1, I1, r, z, q⟩ => ⟨by rw [← r.length]; exact z, ?_⟩)
  have hf : H1 s1.heap.objs.size = none := I1.hok.fresh (Nat.le_refl _)
  refine ⟨.ref s1.heap.objs.size, upd H1 s1.heap.objs.size (.lst xs), I1.laid (t' := s1.toks) (fun b u e => Heap.get?_push_of_some _ e) (Nat.le_refl _) ?_, rfl, q.at _ hf⟩
  exact ⟨z, us, 0, r, Heap.get?_push_size _ rfl⟩
def rPlus (K : PySem.W.Frag) : R2 := fun x y H Q => match x with
  | .int i => ∃ j, y = .int j ∧ Q (.int (i + j)) H
  | .str i => ∃ j, y = .str j ∧ i.length + j.length ≤ sizeLine ∧ Q (.str (i ++ j)) H
  | .ref a => (∃ b xs zs, y = .ref b ∧ H a = some (.lst xs) ∧ H b = some (.lst zs) ∧ xs.length + zs.length ≤ sizeLine ∧ newO H (.lst (xs ++ zs)) Q) ∨ rCatT K x y H Q
  | _ => False
theorem op_addA : OpR X (binaryOp .Add) (rPlus X.K) := by
  refine ((op_add.or op_add_str).or (op_cat.or op_catT)).mono fun x y H Q h => ?_
  unfold rPlus at h
  cases x with
  | int i => obtain ⟨j, rfl, q⟩ := h; exact .inl (.inl ⟨i, j, rfl, rfl, q⟩)
  | str i => obtain ⟨j, rfl, hl, q⟩ := h; exact .inl (.inr ⟨i, j, rfl, rfl, hl, q⟩)
  | ref a =>
    rcases h with ⟨b, xs, zs, rfl, h1, h2, hz, q⟩ | h
    · exact .inr (.inl ⟨a, b, xs, zs, rfl, rfl, h1, h2, hz, fun p hp => q.at p hp⟩)
    · exact .inr (.inr h)
  | _ => exact h.elim
theorem op_mulA : OpR X (binaryOp .Mult) (rI IntMulOk fun i j => .int (i * j)) := opI fun _ _ _ _ _ _ _ hc q => mul_int q hc
def rSlLN (K : PySem.W.Frag) : V → Option Int → Option Int → Hp → VK → Prop := fun x lo hi H Q => ∃ a xs, x = .ref a ∧ SqL K H a xs ∧ newO H (.lst (cutV xs lo hi)) Q
theorem sl_listN : SlR X (rSlLN X.K) := sl_list.mono fun x lo hi H Q ⟨a, xs, e, h, q⟩ => ⟨a, xs, e, h, fun p hp => q.at p hp⟩
def rAppendN : V → List V → Hp → VK → Prop := fun x vs H Q => ∃ l xs y, x = .ref l ∧ vs = [y] ∧ H l = some (.lst xs) ∧ xs.length < sizeLine ∧ updO H l (.lst (xs ++ [y])) (Q .non)
theorem mt_appendN : MtM X "list.append" rAppendN := mt_append.mono fun x xs H Q ⟨l, ys, y, e1, e2, h, hz, q⟩ => ⟨l, ys, y, e1, e2, h, hz, q.at⟩
def rExtendTN (K : PySem.W.Frag) : V → List V → Hp → VK → Prop := fun x vs H Q => ∃ l b xs zs, x = .ref l ∧ vs = [.ref b] ∧ H l = some (.lst xs) ∧ SqT K H b zs ∧ xs.length + zs.length ≤ sizeLine ∧ updO H l (.lst (xs ++ zs)) (Q .non)
theorem mt_extendTN : MtM X "list.extend" (rExtendTN X.K) := mt_extendT.mono fun x xs H Q ⟨l, b, ys, zs, e1, e2, h1, h2, hz, q⟩ => ⟨l, b, ys, zs, e1, e2, h1, h2, hz, q.at⟩
def rPopN : V → List V → Hp → VK → Prop := fun x vs H Q => ∃ l xs y, x = .ref l ∧ vs = [] ∧ H l = some (.lst (xs ++ [y])) ∧ updO H l (.lst xs) (Q y)
theorem mt_popN : MtM X "list.pop" rPopN := mt_pop.mono fun x xs H Q ⟨l, ys, y, e1, e2, h, q⟩ => ⟨l, ys ++ [y], y, e1, e2, h, by simp, by rw [List.dropLast_concat]; exact q.at⟩
def rSetLN : TSet := fun o i v H Q => ∃ p xs k j, o = .ref p ∧ i = .int k ∧ H p = some (.lst xs) ∧ ixN xs.length k = some j ∧ updO H p (.lst (xs.set j v)) Q
theorem set_listN : PSet X rSetLN := set_list.mono fun o i v H Q ⟨p, xs, k, j, e1, e2, h, hj, q⟩ => ⟨p, xs, k, j, e1, e2, h, hj, q.at⟩
end
section
variable {X : Cx} (K : PySem.W.Frag) (hK : X.K = K) {a e o : Expr} {es : List Expr} {ta to : TE} {t : TA} {pos : Pos} {name : Str} {apos cpos : Pos} {T idn : String} {r : V → List V → Hp → VK → Prop} {tg l : Expr} {tl : TE}
include hK
theorem ix_seqk : IxR X (rIx K) := hK ▸ ix_seq
theorem op_addk : OpR X (binaryOp .Add) (rPlus K) := hK ▸ op_addA
theorem sl_listk : SlR X (rSlLN K) := hK ▸ sl_listN
theorem mt_extendTk : MtM X "list.extend" (rExtendTN K) := hK ▸ mt_extendTN
def rLen (K : PySem.W.Frag) : List V → Hp → VK → Prop := fun xs H Q => ∃ x n, xs = [x] ∧ LenV K x H n ∧ Q (.int n) H
theorem call_lenk : CallR X (.builtin "len") (rLen K) := hK ▸ call_len
def rAllB (K : PySem.W.Frag) : List V → Hp → VK → Prop := fun xs H Q => ∃ (p : Addr) (bs : List Bool), xs = [.ref p] ∧ SqL K H p (bs.map V.bl) ∧ Q (.bl (bs.all id)) H
theorem call_allk (hc : X.calm = true) : CallR X (.builtin "all") (rAllB K) := hK ▸ call_all_l hc
def tTru (K : PySem.W.Frag) (ta : TE) : TT := fun σ H Q => ta σ H fun x H' => ∃ k, TruV K x H' k ∧ Q k H'
theorem pt_truthk (ha : PE X a ta) (he : ∀ whole, isTrue a X.env whole = (do let v ← whole; standAt a.pos; holding [v] (truthy v))) : PT X a (tTru K ta) := hK ▸ pt_truth ha he
theorem pe_bm0k (pa : PlainAttrs T) (slot : Slot T name idn) (hty : typeOf (.builtin idn) = pure (.type "method_descriptor")) (hm : MtR X idn r) (ho : PE X o to)
    (hbase : attributeBase o name X.env (eval o X.env) = eval o X.env := by rfl) (hline : (apos.endLine == cpos.line) = true := by rfl) : PE X (.Call (.Attribute o name apos) [] [] cpos) (tBM0 K T r to) := hK ▸ pe_bm0 pa slot hty hm ho hbase hline
theorem pe_bmk (pa : PlainAttrs T) (slot : Slot T name idn) (hty : typeOf (.builtin idn) = pure (.type "method_descriptor")) (hm : MtR X idn r) (ho : PE X o to) (ha : PA X (e :: es) t)
    (hbase : attributeBase o name X.env (eval o X.env) = eval o X.env := by rfl)
    (hfew : ((backTo cpos (starEach (e :: es) X.env)).all (fun x => !x.1) && (backToKw cpos (keywordEach [] X.env)).all (fun x => x.1.isSome)
      && decide ((e :: es).length + ([] : List Keyword).length + (if ([] : List Keyword).isEmpty then 0 else 1) < 30)) = true := by rfl)
    (hline : (apos.endLine == cpos.line) = true := by rfl) (hs : starEach (e :: es) X.env = (false, eval e X.env) :: starEach es X.env := by rfl) (hplain : (backTo cpos (starEach es X.env)).any (·.1) = false := by rfl) :
    PE X (.Call (.Attribute o name apos) (e :: es) [] cpos) (tBM K T r to t) := hK ▸ pe_bm pa slot hty hm ho ha hbase hfew hline hs hplain
omit hK
end
structure Cal (P : Program) (w : World) (K : PySem.W.Frag) (mg : Str → Option Value) (base : Heap) (x : Str) (k : Nat) (ps : List Str) (sp : Sp) where
  f : Addr
  fd : FuncData
  ok : FnOk P w K mg base CX0 k f fd ps sp
  bi : Binds K fd ps []
  kp : PySem.W.keepIn K (.ref f) = true
  at' : mg x = some (.ref f)
section
variable {X : Cx} {k k' : Nat} {ps : List Str} {sp : Sp} {x : Str} {p pos : Pos} {e : Expr} {es : List Expr} {t : TA} {ta : TE}
def tCalC (sp : Sp) (t : TA) : TE := fun σ H Q => t σ H fun vs H1 => sp vs H1 Q E0
theorem pe_cal (G : Cal X.prog X.w X.K X.mg X.base x k ps sp) (hr : Room k' X.A) (hk : k ≤ k') (hg : Gl X x) (ha : PA X (e :: es) t) (hdb : (x == ("__debug__" : Str)) = false := by decide)
    (he : starEach (e :: es) X.env = (false, eval e X.env) :: starEach es X.env := by rfl) (hpl : (backTo pos (starEach es X.env)).any (·.1) = false := by rfl) :
    PE X (.Call (.Name x p) (e :: es) [] pos) (tCalC sp t) := by
  intro pins s σ H Q I h
  refine wpAny_Call_Name_kw (ld_glob I hg G.at' ?_ hdb)
  refine PySem.W.callWith_K (h₀ := X.base) I.ok.mod.kin G.kp (thn (ha pos pins s σ H _ I h) fun us s1 ⟨vs, H1, I1, r, q⟩ => ⟨I1.kIn, ?_⟩) he hpl
  refine run_fn (dvs := []) (ds := []) G.ok (hr.mono hk) G.bi .nil pass0 I1 r ?_
  rw [List.append_nil]
  exact q
end
section
variable {g : TG} {tb : TS} {D : Ends} {σ : St} {H : Hp}
end
section
variable {t u : TS} {D : Ends} {σ : St} {H : Hp} {te ta tb : TE} {tA tB' : TT} {g : TG} {Q : VK} {QT : Bool → Hp → Prop} {QA : List V → Hp → Prop} {QS : St → Hp → Prop} {i : Nat} {v : V} {ts : TA}
end
section
variable {σ : St} {H : Hp} {Q : VK} {v : V} {D : Ends} {ts : TA} {te ta : TE} {QS : St → Hp → Prop} {R : It → Hp → Prop}
theorem atI_lt {α : Type} {xs : List α} {i : Int} (h0 : 0 ≤ i) (h1 : i < xs.length) : ∃ v, atI xs i = some v ∧ xs[i.toNat]? = some v := by
  have hk : i.toNat < xs.length := by omega
  have q : atI xs ((i.toNat : Nat) : Int) = some xs[i.toNat] := atI_nat (by rw [List.getElem?_eq_getElem hk])
  have e : ((i.toNat : Nat) : Int) = i := by omega
  rw [e] at q
  exact ⟨_, q, by rw [List.getElem?_eq_getElem hk]⟩
theorem mul_l {i j : Int} (h1 : -18446744073709551616 < i) (h2 : i < 18446744073709551616) : IntMulOk i j := CMul.ok (.inl ⟨h1, h2⟩)
theorem mul_r {i j : Int} (h1 : -18446744073709551616 < j) (h2 : j < 18446744073709551616) : IntMulOk i j := CMul.ok (.inr ⟨h1, h2⟩)
theorem ite_bl {c : Prop} [Decidable c] {A B : Prop} (h1 : c → A) (h2 : ¬ c → B) : if (decide c) = true then A else B := by
  by_cases h : c
  · rw [decide_eq_true h, if_pos rfl]; exact h1 h
  · rw [decide_eq_false h, if_neg Bool.false_ne_true]; exact h2 h
end
theorem ite01 {b : Bool} : (0 : Int) ≤ if b = true then 1 else 0 := by cases b <;> decide
theorem small' {n : Nat} (h : n ≤ 1000) : n ≤ sizeLine := Nat.le_of_lt (small1000 h)
end L2
set_option Elab.async false
set_option linter.all false
set_option maxRecDepth 100000
namespace L2
open PySem PySem.Spec PyProof.Rows
section
variable {X : Cx} (K : PySem.W.Frag) (hK : X.K = K)
include hK
end
end L2
set_option Elab.async false
set_option linter.all false
set_option maxRecDepth 100000
namespace L2
open PySem PySem.Spec PyProof.Rows
section
variable {X : Cx} (K : PySem.W.Frag) (hK : X.K = K) {pos : Pos}
include hK
omit hK
def rExtendLN : V → List V → Hp → VK → Prop := fun x vs H Q => ∃ l b xs zs, x = .ref l ∧ vs = [.ref b] ∧ H l = some (.lst xs) ∧ H b = some (.lst zs) ∧ xs.length + zs.length ≤ sizeLine ∧ updO H l (.lst (xs ++ zs)) (Q .non)
theorem mt_extendLN : MtM X "list.extend" rExtendLN := mt_extend.mono fun x xs H Q ⟨l, b, ys, zs, e1, e2, h1, h2, hz, q⟩ => ⟨l, b, ys, zs, e1, e2, h1, h2, hz, q.at⟩
end
end L2
set_option Elab.async false
set_option linter.all false
set_option maxRecDepth 100000
namespace L2
open PySem PySem.Spec PyProof.Rows
theorem Vals.reverse' : ∀ {xs : List V} {us : List Value}, Vals xs us → Vals xs.reverse us.reverse
  | _, _, .nil => .nil
  | _, _, .cons h t => by rw [List.reverse_cons, List.reverse_cons]; exact (Vals.reverse' t).append (.cons h .nil)
theorem lk_len : typeLookup (.type "list_reverseiterator") (Str.ofString "__len__") = pure none := by kernel_rfl
theorem lk_hint : typeLookup (.type "list_reverseiterator") (Str.ofString "__length_hint__") = pure (some (.builtin "list_reverseiterator.__length_hint__")) := by kernel_rfl
theorem sp_hint : splitId "list_reverseiterator.__length_hint__" = some ("list_reverseiterator", "__length_hint__") := by kernel_rfl
theorem sub_rev : isSubtype (.type "list_reverseiterator") (.type "list_reverseiterator") = pure true := by kernel_rfl
theorem hint_rev {prog : Program} {w : World} {A : Around} {E : Value → Shared → Prop} {s : Shared} {r l : Addr} {i : Int} {Q : Bool → Shared → Prop} (h : s.heap.IsRevIter r l i) (q : Q false s) : wpAny (model prog w) A (Builtin.List.listLengthHint (Value.ref r)) Q E s := by
  unfold Builtin.List.listLengthHint
  refine wpAny_bind (wpAny_specialOf h.typeIs lk_len ?_)
  refine wpAny_bind (wpAny_specialOf h.typeIs lk_hint ?_)
  dsimp only
  rw [sp_hint]
  dsimp only
  refine wpAny_bind (wpAny_isInstance h.typeIs sub_rev ?_)
  rw [if_neg (by decide)]
  rw [if_pos (by decide)]
  rw [if_neg (by decide)]
  exact wpAny_pure q
theorem list_init_rev {prog : Program} {w : World} {A : Around} {s : Shared} {R : Result → Shared → Prop} {r l S : Addr} {items : Array Value} (hA : A.handled = none) (h : s.heap.IsRevIter r l (items.size - 1)) (hl : s.heap.IsList l items) (hne : l ≠ r) (hSr : S ≠ r) (hSl : S ≠ l) (hz : items.size ≤ sizeLine)
    (hS : s.heap.get? S = some { cls := Value.type "list", data := Data.seq #[] })
    (q : ∀ (h' : Heap) (tk : Nat) (acc : Array Value) (c : Nat), (∀ b o, b ≠ S → b ≠ r → s.heap.get? b = some o → h'.get? b = some o) → h'.get? S = some { cls := Value.type "list", data := Data.seq acc c } → ItemsOf (fun i v => items[items.size - 1 - i]? = some v) acc items.size → R (.ok (.ret .none)) { s with heap := h', toks := tk }) :
    wpAny (model prog w) A.in1 (Builtin.«list.__init__» { pos := [Value.ref S, Value.ref r] })
      (fun fin s' => match fin with | Fin.done f => R (Except.ok f) s' | Fin.again c' => c'.quiet = true ∧ codeAny (model prog w) A c' R s') (fun e s' => R (Except.error e) s') s := by
  unfold Builtin.«list.__init__»
  dsimp only
  rw [if_neg (by decide), if_neg (by simp)]
  refine wpAny_bind (wpAny_listItems hS rfl ?_)
  refine wpAny_bind ?_
  unfold Builtin.List.listUpdate
  dsimp only
  refine wpAny_updateSeq hS rfl ?_ (by simp) (by simp)
  refine wpAny_bind (wpAny_letGo ?_)
  have k1 : ∀ b o, b ≠ S → s.heap.get? b = some o → (s.heap.update S (Obj.mapSeq fun _ => #[])).get? b = some o := fun b o hb e => by rw [Heap.get?_update_other _ _ (Ne.symm hb)]; exact e
  have hS1 := Heap.get?_update_self (Obj.mapSeq fun _ => #[]) hS rfl
  generalize s.heap.update S (Obj.mapSeq fun _ => #[]) = h1 at k1 hS1 ⊢
  have hr1 : h1.IsRevIter r l (items.size - 1) := let ⟨o, e, p⟩ := h; ⟨o, k1 _ _ (Ne.symm hSr) e, p⟩
  have hl1 : h1.IsList l items := let ⟨o, e, p⟩ := hl; ⟨o, k1 _ _ (Ne.symm hSl) e, p⟩
  unfold Builtin.List.listExtendWith
  refine wpAny_bind (wpAny_typeOf (T := "list_reverseiterator") hr1.typeIs ?_)
  rw [if_neg (by
    have e1 : Builtin.List.listSameRef (Value.ref S) (Value.ref r) = false := by
      unfold Builtin.List.listSameRef
      simpa using hSr
    rw [e1]
    decide)]
  refine wpAny_bind (wpAny_pyIter_revIter hr1 ?_)
  refine wpAny_bind (wpAny_holding (hint_rev hr1 ?_))
  rw [if_neg (by decide)]
  refine wpAny_pure ⟨plainId_quiet F.plain_extend_loop _, ?_⟩
  refine codeAny_extend_loopS (Walks.toS (Walks.listRev (A := A.in1) hA r l hne items)) hz S (by simp [hSr, hSl]) .none items.size 0 _ #[] _ (Nat.sub_zero _) (Nat.zero_le _) ⟨Nat.zero_le _, by simpa using hr1, hl1⟩ hS1 (ItemsOf.nil _) ?_
  intro s' acc c mv e io
  rw [mv.eq_with]
  exact q s'.heap s'.toks acc c (fun b o n1 n2 e' => mv.heap b o (by simp [n1, n2]) (k1 b o n1 e')) e io
theorem call_list_rev {prog : Program} {w : World} {A : Around} {E : Value → Shared → Prop} {s : Shared} {r l : Addr} {items : Array Value} {Q : Value → Shared → Prop} (hA : A.handled = none) (h : s.heap.IsRevIter r l (items.size - 1)) (hl : s.heap.IsList l items) (hne : l ≠ r) (hz : items.size ≤ sizeLine)
    (q : ∀ (h' : Heap) (tk : Nat) (acc : Array Value) (c : Nat), (∀ b o, b ≠ r → s.heap.get? b = some o → h'.get? b = some o) → h'.get? s.heap.objs.size = some { cls := Value.type "list", data := Data.seq acc c } → ItemsOf (fun i v => items[items.size - 1 - i]? = some v) acc items.size → Q (.ref s.heap.objs.size) { s with heap := h', toks := tk }) :
    wpAny (model prog w) A (call (Value.type "list") [Value.ref r]) Q E s := by
  have lr : r < s.heap.objs.size := let ⟨_, e, _⟩ := h; Heap.lt_size e
  have ll : l < s.heap.objs.size := let ⟨_, e, _⟩ := hl; Heap.lt_size e
  refine callType_codes F.called_list (F.typeCall_list_1 _) F.entry_list_init (code_list_new (Q₁ := fun v s₁ => v = .ref s.heap.objs.size ∧ s₁ = { s with heap := s.heap.push { cls := Value.type "list", data := Data.seq #[] } }) _ ⟨rfl, rfl⟩) ?_
  rintro obj s₁ ⟨rfl, rfl⟩
  refine ⟨⟨_, Heap.get?_push_size _ rfl, rfl⟩, F.args_list_init_2 _ _, ?_⟩
  have kp : ∀ b o, s.heap.get? b = some o → (s.heap.push { cls := Value.type "list", data := Data.seq #[] }).get? b = some o := fun b o e => Heap.get?_push_of_some _ e
  refine list_init_rev (A := A.in1) (items := items) (l := l) hA (let ⟨o, e, p⟩ := h; ⟨o, kp _ _ e, p⟩) (let ⟨o, e, p⟩ := hl; ⟨o, kp _ _ e, p⟩) hne (fun z => by rw [z] at lr; exact Nat.lt_irrefl _ lr) (fun z => by rw [z] at ll; exact Nat.lt_irrefl _ ll) hz (Heap.get?_push_size _ rfl) ?_
  intro h' tk acc c k e io
  exact ⟨rfl, q h' tk acc c (fun b o n e' => k b o (fun z => by rw [z] at e'; exact Nat.lt_irrefl _ (Heap.lt_size e')) n (kp b o e')) e io⟩
def tLR (K : PySem.W.Frag) (te : TE) : TE := fun σ H Q => te σ H fun x H1 => ∃ p ys, x = .ref p ∧ SqL K H1 p ys ∧ newO H1 (.lst ys.reverse) Q
section
variable {X : Cx} (K : PySem.W.Frag) (hK : X.K = K) {e : Expr} {te : TE} {p1 p2 q1 q2 : Pos}
include hK
theorem pe_listrev (hc : X.calm = true) (hg1 : Gl X "list") (hm1 : X.mg "list" = none) (hg2 : Gl X "reversed") (hm2 : X.mg "reversed" = none) (he : PE X e te)
    (hs1 : starEach [.Call (.Name "reversed" q1) [e] [] q2] X.env = (false, eval (.Call (.Name "reversed" q1) [e] [] q2) X.env) :: starEach [] X.env := by rfl) (hs2 : starEach [e] X.env = (false, eval e X.env) :: starEach [] X.env := by rfl) :
    PE X (.Call (.Name "list" p1) [.Call (.Name "reversed" q1) [e] [] q2] [] p2) (tLR K te) := by
  intro pins s σ H Q I h
  subst hK
  refine wpAny_Call_Name_kw (ld_blt I hg1 hm1 boot_list ?_ (by decide) (by decide))
  refine PyProof.Rows.callWith_type1 ?_ hs1 rfl
  rw [hs1]
  show wpAny _ _ (spliced ((false, eval (.Call (.Name "reversed" q1) [e] [] q2) X.env) :: backTo p2 (starEach [] X.env))) _ _ s
  refine Calls.spliced_cons ?_
  refine wpAny_Call_Name_kw (ld_blt I hg2 hm2 boot_reversed ?_ (by decide) (by decide))
  refine PyProof.Rows.callWith_type1 ?_ hs2 rfl
  rw [hs2]
  show wpAny _ _ (spliced ((false, eval e X.env) :: backTo q2 (starEach [] X.env))) _ _ s
  refine Calls.spliced_cons (thn (he pins s σ H _ I h) fun u s1 ⟨x, H1, I1, r1, pa, ys, ex, hS, q⟩ => Calls.spliced_nil ?_)
  subst ex
  cases r1
  obtain ⟨its, rv, pl, hz⟩ := I1.list hS
  have hlen := rv.length
  have lp : pa < s1.heap.objs.size := let ⟨_, e, _⟩ := pl.isList; Heap.lt_size e
  refine call_reversed_list pl.isList ?_
  refine Calls.spliced_nil ?_
  have kp : ∀ b o, s1.heap.get? b = some o → (s1.heap.push (revObj pa (its.toArray.size - 1))).get? b = some o := fun b o e => Heap.get?_push_of_some _ e
  refine call_list_rev (items := its.toArray) (l := pa) (r := s1.heap.objs.size) (I1.ok.hd hc) ⟨_, Heap.get?_push_size _ rfl, rfl, rfl⟩ (let ⟨o, e, p⟩ := pl.isList; ⟨o, kp _ _ e, p⟩) (fun z => by rw [z] at lp; exact Nat.lt_irrefl _ lp) (by rw [List.size_toArray]; omega) ?_
  intro h' tk acc c k e io
  have kk : ∀ b o, s1.heap.get? b = some o → h'.get? b = some o := fun b o eb => k b o (fun z => by rw [z] at eb; exact Nat.lt_irrefl _ (Heap.lt_size eb)) (kp b o eb)
  have ea : acc = its.reverse.toArray := by
    obtain ⟨z1, z2⟩ := io
    apply Array.ext
    · rw [z1, List.size_toArray, List.size_toArray, List.length_reverse]
    · intro j h1 h2
      have := z2 j acc[j] (Array.getElem?_eq_getElem h1)
      rw [List.size_toArray] at this
      have hj : j < its.length := by rw [z1, List.size_toArray] at h1; exact h1
      rw [List.getElem?_toArray] at this
      have e3 : its.reverse[j]? = some acc[j] := by rw [List.getElem?_reverse hj]; exact this
      rw [List.getElem_toArray]
      exact (Option.some.inj (((List.getElem?_eq_getElem (by rw [List.length_reverse]; exact hj)).symm.trans e3))).symm
  subst ea
  have hs2 : s1.heap.objs.size ≤ (s1.heap.push (revObj pa (its.toArray.size - 1))).objs.size := by simp [Heap.push]
  refine ⟨.ref _, upd H1 _ (.lst ys.reverse), I1.laid (t' := tk) kk hs2 ?_, rfl, q.at _ (I1.hok.fresh hs2)⟩
  exact ⟨by rw [List.length_reverse]; exact hz, its.reverse, c, rv.reverse', e⟩
end
end L2
set_option Elab.async false
set_option linter.all false
set_option maxRecDepth 100000
namespace My
open PySem PySem.Spec PyProof.Rows L2
def Wd (x : Str) : Prop := 1 ≤ x.length ∧ x.length ≤ 8 ∧ ∀ c ∈ x.cps.toList, 97 ≤ c ∧ c < 123
def Part (x : Str) (n : Nat) : Prop := x.length ≤ n ∧ ∀ c ∈ x.cps.toList, 97 ≤ c ∧ c < 123
theorem Part.append {x y : Str} {m n : Nat} (a : Part x m) (b : Part y n) : Part (x ++ y) (m + n) := by
  refine ⟨?_, fun c hc => ?_⟩
  · rw [Str.length_append]; have := a.1; have := b.1; omega
  · rw [Str.cps_append, Array.toList_append] at hc
    rcases List.mem_append.mp hc with h | h
    · exact a.2 c h
    · exact b.2 c h
theorem letters_nodup {d st : Int} (h : st = 1 ∨ st = 3 ∨ st = 5 ∨ st = 7 ∨ st = 9 ∨ st = 11) {n : Nat} (hn : n ≤ 26) : ((List.range n).map fun k : Nat => some (97 + ((d + st * (0 + (k : Int))) % 26).toNat)).Nodup := by
  unfold List.Nodup
  rw [List.pairwise_map]
  refine List.Pairwise.imp_of_mem ?_ List.pairwise_lt_range
  intro a b ha hb hab hz
  have hb' := List.mem_range.mp hb
  have hz' := Option.some.inj hz
  rcases h with rfl | rfl | rfl | rfl | rfl | rfl <;> omega
theorem nodup_of_map {α β : Type} {g : α → β} {l : List α} (h : (l.map g).Nodup) : l.Nodup := (List.pairwise_map.mp h).imp fun h e => h (congrArg g e)
theorem word_sign (x y : Str) (c : Nat) : (x ++ ⟨#[c]⟩ ++ y).cps[x.length]? = some c := by
  rw [Str.cps_append, Str.cps_append]
  show ((x.cps ++ #[c]) ++ y.cps)[x.cps.size]? = some c
  rw [Array.getElem?_append_left (by simp), Array.getElem?_append_right (Nat.le_refl _)]
  simp
theorem letter_all : ∀ k : _root_.Fin 26, atI ("abcdefghijklmnopqrstuvwxyz" : Str).cps.toList (k.val : Int) = some (97 + k.val) := by decide +kernel
theorem letter_at {n : Int} (h0 : 0 ≤ n) (h1 : n < 26) : atI ("abcdefghijklmnopqrstuvwxyz" : Str).cps.toList n = some (97 + n.toNat) := by
  have e := letter_all ⟨n.toNat, by omega⟩
  have e2 : ((n.toNat : Nat) : Int) = n := by omega
  rw [e2] at e
  exact e
theorem one_part {c : Nat} (h0 : 97 ≤ c) (h1 : c < 123) : Part ⟨#[c]⟩ 1 := by
  refine ⟨Nat.le_refl _, fun d hd => ?_⟩
  have : d = c := by simpa using hd
  subst this
  exact ⟨h0, h1⟩
inductive Tr where
  | leaf (x : Str)
  | node (l r : Tr)
def Tr.leaves : Tr → List Str
  | .leaf x => [x]
  | .node l r => l.leaves ++ r.leaves
def Tr.size : Tr → Nat
  | .leaf _ => 1
  | .node l r => l.size + r.size + 1
def Tr.depth : Tr → Nat
  | .leaf _ => 0
  | .node l r => max l.depth r.depth + 1
theorem Tr.leaves_pos : ∀ t : Tr, 1 ≤ t.leaves.length
  | .leaf _ => Nat.le_refl _
  | .node l r => by have := l.leaves_pos; show 1 ≤ (l.leaves ++ r.leaves).length; rw [List.length_append]; omega
def sizes (ts : List Tr) : Nat := (ts.map Tr.size).sum
theorem sizes_append (a b : List Tr) : sizes (a ++ b) = sizes a + sizes b := by unfold sizes; rw [List.map_append, List.sum_append]
theorem sizes_one (t : Tr) : sizes [t] = t.size := by simp [sizes]
theorem Tr.size_pos : ∀ t : Tr, 1 ≤ t.size
  | .leaf _ => Nat.le_refl _
  | .node l r => by show 1 ≤ l.size + r.size + 1; omega
theorem len_sizes : ∀ ts : List Tr, ts.length ≤ sizes ts
  | [] => Nat.le_refl _
  | t :: r => by have := len_sizes r; have := t.size_pos; show r.length + 1 ≤ t.size + sizes r; omega
end My
set_option Elab.async false
set_option linter.all false
set_option maxRecDepth 100000
namespace L2
open PySem PySem.Spec PyProof.Rows
section
variable {X : Cx} (K : PySem.W.Frag) (hK : X.K = K) {pos p1 p2 : Pos} {k1 k2 k3 e1 e2 : Expr} {t1 t2 : TE}
include hK
end
end L2
set_option Elab.async false
set_option linter.all false
set_option maxRecDepth 100000
namespace My
open PySem PySem.Spec PyProof.Rows L2
end My
set_option Elab.async false
set_option linter.all false
set_option maxRecDepth 100000
namespace My
open PySem PySem.Spec PyProof.Rows L2
section
variable {K : PySem.W.Frag} {H : Hp} {a : Addr}
end
end My
set_option Elab.async false
set_option linter.all false
set_option maxRecDepth 100000
namespace My
open PySem PySem.Spec PyProof.Rows L2
section
variable {X : Cx} {pins : List (Addr × Obj)} {σ : L2.St} {H : Hp} {s : Shared}
end
theorem room200 {k : Nat} {A : Around} (r : Room k A) : A.units + 200 < cLine := by have := r.un; omega
def Tr.post : Tr → List Tr
  | .leaf x => [.leaf x]
  | .node l r => l.post ++ r.post ++ [.node l r]
theorem Tr.post_len : ∀ t : Tr, t.post.length = t.size
  | .leaf _ => rfl
  | .node l r => by show (l.post ++ r.post ++ [_]).length = l.size + r.size + 1; rw [List.length_append, List.length_append, l.post_len, r.post_len]; rfl
def posts (ts : List Tr) : List Tr := (ts.map Tr.post).flatten
theorem posts_append (a b : List Tr) : posts (a ++ b) = posts a ++ posts b := by unfold posts; rw [List.map_append, List.flatten_append]
theorem posts_one (t : Tr) : posts [t] = t.post := by simp [posts]
theorem posts_two (t u : Tr) : posts [t, u] = t.post ++ u.post := by simp [posts]
inductive Ent where
  | word (x : Str)
  | pair (a b : Nat)
def Tr.nd : Tr → Nat → List Ent
  | .leaf x, _ => [.word x]
  | .node l r, o => l.nd o ++ r.nd (o + l.size) ++ [.pair (o + l.size - 1) (o + l.size + r.size - 1)]
theorem Tr.nd_len : ∀ (t : Tr) (o : Nat), (t.nd o).length = t.size
  | .leaf _, _ => rfl
  | .node l r, o => by show (l.nd o ++ r.nd (o + l.size) ++ [_]).length = l.size + r.size + 1; rw [List.length_append, List.length_append, l.nd_len, r.nd_len]; rfl
def run : List Tr → List Ent → List Nat → Option (List Ent × List Nat)
  | [], told, ls => some (told, ls)
  | .leaf x :: k, told, ls => run k (told ++ [.word x]) (told.length :: ls)
  | .node _ _ :: k, told, b :: a :: ls => run k (told ++ [.pair a b]) (told.length :: ls)
  | .node _ _ :: _, _, _ => none
theorem run_post : ∀ (t : Tr) (k : List Tr) (told : List Ent) (ls : List Nat), run (t.post ++ k) told ls = run k (told ++ t.nd told.length) ((told.length + t.size - 1) :: ls)
  | .leaf x, k, told, ls => rfl
  | .node l r, k, told, ls => by
    have e1 : (Tr.node l r).post ++ k = l.post ++ (r.post ++ (Tr.node l r :: k)) := by show l.post ++ r.post ++ [_] ++ k = _; simp
    rw [e1, run_post l, run_post r]
    have e2 : (told ++ l.nd told.length).length = told.length + l.size := by rw [List.length_append, l.nd_len]
    rw [e2]
    show run k _ _ = run k _ _
    have e3 : (told ++ l.nd told.length ++ r.nd (told.length + l.size)).length = told.length + (Tr.node l r).size - 1 := by
      rw [List.length_append, List.length_append, l.nd_len, r.nd_len]; show _ = told.length + (l.size + r.size + 1) - 1; omega
    rw [e3]
    have e4 : told ++ (Tr.node l r).nd told.length = told ++ l.nd told.length ++ r.nd (told.length + l.size) ++ [.pair (told.length + l.size - 1) (told.length + l.size + r.size - 1)] := by
      show told ++ (l.nd told.length ++ r.nd (told.length + l.size) ++ [_]) = _
      simp
    rw [e4]
theorem run_whole (t : Tr) : run t.post [] [] = some (t.nd 0, [t.size - 1]) := by
  have := run_post t [] [] []
  rw [List.append_nil] at this
  rw [this]
  show some ([] ++ t.nd 0, [0 + t.size - 1]) = _
  simp
end My
set_option Elab.async false
set_option linter.all false
set_option maxRecDepth 100000
namespace L2
open PySem PySem.Spec PyProof.Rows
theorem nextOf_tuple_item {prog : Program} {w : World} {A : Around} {E : Value → Shared → Prop} {s : Shared} {it t : Addr} {i : Nat} {items : Array Value} {x : Value} {Q : Value → Shared → Prop} (h : s.heap.IsTupleIter it t i) (ht : s.heap.IsTuple t items) (hx : items[i]? = some x)
    (q : ∀ h' : Heap, h'.IsTupleIter it t (i + 1) → Heap.SameBut it s.heap h' → Q x { s with heap := h' }) : wpAny (model prog w) A (Builtin.SmallTypes.nextOf (.ref it)) Q E s := by
  unfold Builtin.SmallTypes.nextOf
  refine wpAny_bind (wpAny_callSpecial?_slot h.typeIs F.slot_tuple_iterator_next (wpAny_call_entry F.slot_tuple_iterator_next h.typeIs F.entry_tuple_iterator_next ?_ (F.args_tuple_iterator_next_1 _)))
  obtain ⟨o, ho, hc, hd⟩ := id h
  obtain ⟨ot, hot, htc, n, htd⟩ := id ht
  show wpAny _ _ (field (.ref it) 0 >>= fun seq => _) _ _ s
  refine wpAny_bind (wpAny_field ho hd rfl ?_)
  show wpAny _ _ (field (.ref it) 1 >>= fun seq => _) _ _ s
  refine wpAny_bind (wpAny_field ho hd rfl ?_)
  show wpAny _ _ (seqItems? (.ref t) >>= fun seq => _) _ _ s
  refine wpAny_bind (wpAny_seqItems hot htd ?_)
  show wpAny _ _ (match items[i]? with | some x => (do setField (.ref it) 1 (rawInt ((i : Int) + 1)); ret x) | none => _) _ _ s
  rw [hx]
  refine wpAny_bind (wpAny_setField ho hd (show 1 < 2 by decide) ?_)
  refine wpAny_pure ⟨x, rfl, wpAny_pure (q _ ⟨_, Heap.get?_update_self _ ho (by rw [Obj.isFreed_of_fields (Obj.data_mapFields hd _)]), by rw [Obj.cls_mapFields]; exact hc, by rw [Obj.data_mapFields hd]; rfl⟩ (Heap.SameBut.update ..))⟩
theorem stop_it {prog : Program} {w : World} {A : Around} {E : Value → Shared → Prop} {s : Shared} {α : Type} {Q : α → Shared → Prop} (hA : A.handled = none)
    (q : ∀ (h' : Heap) (e : Addr), (∀ b o, s.heap.get? b = some o → h'.get? b = some o) → (∃ o, h'.get? e = some o ∧ o.cls = .type "StopIteration") → E (.ref e) { s with heap := h' }) : wpAny (model prog w) A (Builtin.SmallTypes.stopIteration (α := α)) Q E s := by
  unfold Builtin.SmallTypes.stopIteration newExc
  refine wpAny_bind ?_
  refine wpAny_bind (wpAny_newTuple ?_ (by show 0 ≤ sizeLine; decide))
  refine wpAny_bind (wpAny_of_eq (a := Value.none) rfl ?_)
  refine wpAny_newObj_type ?_ (sizeOk_excFields ..)
  unfold raiseNew
  refine wpAny_bind (wpAny_handled ?_)
  rw [hA]
  refine wpAny_throw (q _ _ (fun b o e => Heap.get?_push_of_some _ (Heap.get?_push_of_some _ e)) ⟨_, Heap.get?_push_size _ rfl, rfl⟩)
theorem nextOf_tuple_end {prog : Program} {w : World} {A : Around} {E : Value → Shared → Prop} {s : Shared} {it t : Addr} {i : Nat} {items : Array Value} {Q : Value → Shared → Prop} (hA : A.handled = none) (h : s.heap.IsTupleIter it t i) (ht : s.heap.IsTuple t items) (hx : items[i]? = none)
    (q : ∀ (h' : Heap) (e : Addr), Heap.ExtBut it s.heap h' → (∃ o, h'.get? e = some o ∧ o.cls = .type "StopIteration") → E (.ref e) { s with heap := h' }) : wpAny (model prog w) A (Builtin.SmallTypes.nextOf (.ref it)) Q E s := by
  unfold Builtin.SmallTypes.nextOf
  refine wpAny_bind (wpAny_callSpecial?_slot h.typeIs F.slot_tuple_iterator_next (wpAny_call_entry F.slot_tuple_iterator_next h.typeIs F.entry_tuple_iterator_next ?_ (F.args_tuple_iterator_next_1 _)))
  obtain ⟨o, ho, hc, hd⟩ := id h
  obtain ⟨ot, hot, htc, n, htd⟩ := id ht
  show wpAny _ _ (field (.ref it) 0 >>= fun seq => _) _ _ s
  refine wpAny_bind (wpAny_field ho hd rfl ?_)
  show wpAny _ _ (field (.ref it) 1 >>= fun seq => _) _ _ s
  refine wpAny_bind (wpAny_field ho hd rfl ?_)
  show wpAny _ _ (seqItems? (.ref t) >>= fun seq => _) _ _ s
  refine wpAny_bind (wpAny_seqItems hot htd ?_)
  show wpAny _ _ (match items[i]? with | some x => (do setField (.ref it) 1 (rawInt ((i : Int) + 1)); ret x) | none => (do rule _; setField (.ref it) 0 .none; Builtin.SmallTypes.stopIteration)) _ _ s
  rw [hx]
  refine wpAny_bind (wpAny_rule ?_)
  refine wpAny_bind (wpAny_setField ho hd (show 0 < 2 by decide) ?_)
  refine stop_it (A := A.in1) hA fun h' e k ex => q h' e (fun b o n eb => k b o ?_) ex
  rw [(Heap.SameBut.update _ _ _).2 b n]
  exact eb
structure ZipAt (h : Heap) (z TI TO i1 i2 a1 a2 : Addr) (f0 : Value) (k1 k2 : Nat) : Prop where
  zip : IsZip h z TI TO f0
  ti : IsPair h TI (.ref i1) (.ref i2)
  to : ∃ a b, IsPair h TO a b
  it1 : h.IsTupleIter i1 a1 k1
  it2 : h.IsTupleIter i2 a2 k2
theorem zip_next_itemT {prog : Program} {w : World} {A : Around} {E : Value → Shared → Prop} {s : Shared} {z TI TO i1 i2 a1 a2 : Addr} {k1 k2 : Nat} {xs ys : Array Value} {x y : Value} {Q : Value → Shared → Prop} (hA : ZipApart z TI TO i1 i2 a1 a2)
    (hz : ZipAt s.heap z TI TO i1 i2 a1 a2 .none k1 k2) (ht1 : s.heap.IsTuple a1 xs) (ht2 : s.heap.IsTuple a2 ys) (hx : xs[k1]? = some x) (hy : ys[k2]? = some y)
    (q : ∀ h' : Heap, ZipAt h' z TI TO i1 i2 a1 a2 (rawInt s.heap.objs.size) (k1 + 1) (k2 + 1) → IsPair h' s.heap.objs.size x y → (∀ c o, c ≠ z → c ≠ TO → c ≠ i1 → c ≠ i2 → s.heap.get? c = some o → h'.get? c = some o) → Q (.ref s.heap.objs.size) { s with heap := h' }) :
    wpAny (model prog w) A (Builtin.«zip.__next__» { pos := [.ref z] }) (fun fin s' => ∃ v, fin = Fin.done (Flow.ret v) ∧ Q v s') E s := by
  obtain ⟨hz, hti, ⟨ta, tb, hto⟩, hi1, hi2⟩ := hz
  show wpAny _ _ (field (.ref z) 2 >>= fun r => _) _ _ s
  refine wpAny_bind (wpAny_field hz rfl rfl ?_)
  show wpAny _ _ (field (.ref z) 3 >>= fun r => _) _ _ s
  refine wpAny_bind (wpAny_field hz rfl rfl ?_)
  show wpAny _ _ (seqItems? (.ref TI) >>= fun r => _) _ _ s
  refine wpAny_bind (wpAny_seqItems hti rfl ?_)
  show wpAny _ _ (Builtin.SmallTypes.ownedTupleIsFree (.ref z) >>= fun r => _) _ _ s
  refine wpAny_bind ?_
  unfold Builtin.SmallTypes.ownedTupleIsFree
  refine wpAny_bind (wpAny_field hz rfl rfl ?_)
  refine wpAny_pure ?_
  show wpAny _ _ (rule "zip.__next__.owned-tuple-again" >>= fun r => _) _ _ s
  refine wpAny_bind (wpAny_rule ?_)
  refine wpAny_bind (wpAny_field hz rfl rfl ?_)
  show wpAny _ _ (setField (.ref z) 0 .ellipsis >>= fun r => _) _ _ s
  refine wpAny_bind (wpAny_setField_rec hz (show 0 < 5 by decide) fun h1 z1 b1 => ?_)
  show wpAny _ _ ((forIn [(Value.ref i1, 0), (Value.ref i2, 1)] _ _) >>= fun r => _) _ _ _
  refine wpAny_bind ?_
  rw [List.forIn_cons]
  have get1 : ∀ b, b ≠ z → h1.get? b = s.heap.get? b := b1.2
  refine wpAny_bind ?_
  refine wpAny_bind (wpAny_onRaise ?_)
  show wpAny _ _ (Builtin.SmallTypes.nextOf (.ref i1) >>= fun v => pure (some v)) _ _ _
  refine wpAny_bind (nextOf_tuple_item (let ⟨o, e, p⟩ := hi1; ⟨o, (get1 _ hA.i1z).trans e, p⟩) (let ⟨o, e, p⟩ := ht1; ⟨o, (get1 _ hA.l1z).trans e, p⟩) hx fun h2 j2 b2 => wpAny_pure ?_)
  have get2 : ∀ b, b ≠ z → b ≠ i1 → h2.get? b = s.heap.get? b := fun b n1 n2 => (b2.2 b n2).trans (get1 b n1)
  have to2 : IsPair h2 TO ta tb := (get2 _ hA.TOz hA.TOi1).trans hto
  show wpAny _ _ (seqItems? (.ref TO) >>= fun r => _) _ _ _
  refine wpAny_bind (wpAny_seqItems to2 rfl ?_)
  refine wpAny_bind (wpAny_updateSeq_pair to2 fun h3 t3 b3 => ?_)
  have get3 : ∀ b, b ≠ z → b ≠ i1 → b ≠ TO → h3.get? b = s.heap.get? b := fun b n1 n2 n3 => (b3.2 b n3).trans (get2 b n1 n2)
  refine wpAny_bind (wpAny_letGo (wpAny_pure ?_))
  show wpAny _ _ (forIn [(Value.ref i2, 1)] _ _) _ _ _
  rw [List.forIn_cons]
  refine wpAny_bind ?_
  refine wpAny_bind (wpAny_onRaise ?_)
  show wpAny _ _ (Builtin.SmallTypes.nextOf (.ref i2) >>= fun v => pure (some v)) _ _ _
  refine wpAny_bind (nextOf_tuple_item (let ⟨o, e, p⟩ := hi2; ⟨o, (get3 _ hA.i2z hA.i12.symm hA.TOi2.symm).trans e, p⟩) (let ⟨o, e, p⟩ := ht2; ⟨o, (get3 _ hA.l2z hA.l2i1 hA.l2TO).trans e, p⟩) hy fun h4 j4 b4 => wpAny_pure ?_)
  have to4 : IsPair h4 TO x tb := (b4.2 _ hA.TOi2).trans t3
  show wpAny _ _ (seqItems? (.ref TO) >>= fun r => _) _ _ _
  refine wpAny_bind (wpAny_seqItems to4 rfl ?_)
  refine wpAny_bind (wpAny_updateSeq_pair to4 fun h5 t5 b5 => ?_)
  have to5 : IsPair h5 TO x y := t5
  refine wpAny_bind (wpAny_letGo (wpAny_pure ?_))
  show wpAny _ _ (forIn [] _ _) _ _ _
  rw [List.forIn_nil]
  refine wpAny_pure ?_
  show wpAny _ _ (seqItems? (.ref TO) >>= fun r => _) _ _ _
  refine wpAny_bind (wpAny_seqItems to5 rfl ?_)
  show wpAny _ _ (newTuple [x, y] >>= fun r => _) _ _ _
  have sz5 : h5.objs.size = s.heap.objs.size := b5.1.trans (b4.1.trans (b3.1.trans (b2.1.trans b1.1)))
  refine wpAny_bind (wpAny_newTuple ?_ (by show 2 ≤ sizeLine; decide))
  have get5 : ∀ b, b ≠ z → b ≠ i1 → b ≠ TO → b ≠ i2 → h5.get? b = s.heap.get? b := fun b n1 n2 n3 n4 => (b5.2 b n3).trans ((b4.2 b n4).trans (get3 b n1 n2 n3))
  have z5 : h5.get? z = some { cls := .type "zip", data := .fields #[.ellipsis, .bool false, .bool false, .ref TI, .ref TO] } := (b5.2 _ hA.TOz.symm).trans ((b4.2 _ hA.i2z.symm).trans ((b3.2 _ hA.TOz.symm).trans ((b2.2 _ hA.i1z.symm).trans z1)))
  have kp : ∀ b o, h5.get? b = some o → (h5.push { cls := .type "tuple", data := .seq #[x, y] }).get? b = some o := fun b o e => Heap.get?_push_of_some _ e
  have new6 : (h5.push { cls := .type "tuple", data := .seq #[x, y] }).get? h5.objs.size = some { cls := .type "tuple", data := .seq #[x, y] } := Heap.get?_push_size _ rfl
  refine wpAny_bind ?_
  show wpAny _ _ (setField (.ref z) 0 (rawInt h5.objs.size) >>= fun _ => setField (.ref z) 1 (.bool false)) _ _ _
  refine wpAny_bind (wpAny_setField_rec (kp _ _ z5) (show 0 < 5 by decide) fun h7 z7 b7 => ?_)
  refine wpAny_setField_rec z7 (show 1 < 5 by decide) fun h8 z8 b8 => ?_
  have get8 : ∀ b, b ≠ z → h8.get? b = (h5.push { cls := .type "tuple", data := .seq #[x, y] }).get? b := fun b n => (b8.2 b n).trans (b7.2 b n)
  have nz : s.heap.objs.size ≠ z := fun e => by have := Heap.lt_size hz; rw [← e] at this; exact Nat.lt_irrefl _ this
  refine wpAny_pure ⟨.ref h5.objs.size, rfl, ?_⟩
  rw [sz5]
  refine q h8 ⟨?_, ?_, ?_, ?_, ?_⟩ ?_ ?_
  · rw [← sz5]; exact z8
  · rw [IsPair, get8 _ hA.TIz]; exact kp _ _ ((get5 _ hA.TIz hA.TIi1 hA.TITO hA.TIi2).trans hti)
  · exact ⟨x, y, by rw [IsPair, get8 _ hA.TOz]; exact kp _ _ to5⟩
  · obtain ⟨o, e, p⟩ := j2
    refine ⟨o, ?_, p⟩
    rw [get8 _ hA.i1z]
    exact kp _ _ ((b5.2 _ hA.TOi1.symm).trans ((b4.2 _ hA.i12).trans ((b3.2 _ hA.TOi1.symm).trans e)))
  · obtain ⟨o, e, p⟩ := j4
    refine ⟨o, ?_, p⟩
    rw [get8 _ hA.i2z]
    exact kp _ _ ((b5.2 _ hA.TOi2.symm).trans e)
  · rw [IsPair, get8 _ nz, ← sz5]; exact new6
  · intro c o n1 n2 n3 n4 e
    rw [get8 _ n1]
    exact kp _ _ ((get5 _ n1 n3 n2 n4).trans e)
theorem zip_next_endT {prog : Program} {w : World} {A : Around} {E : Value → Shared → Prop} {s : Shared} {z TI TO i1 i2 a1 a2 : Addr} {k1 k2 : Nat} {xs ys : Array Value} {Q : PySem.Fin → Shared → Prop} (hh : A.handled = none) (hA : ZipApart z TI TO i1 i2 a1 a2)
    (hz : ZipAt s.heap z TI TO i1 i2 a1 a2 .none k1 k2) (ht1 : s.heap.IsTuple a1 xs) (hx : xs[k1]? = none)
    (q : ∀ (h' : Heap) (e : Addr), (∀ c o, c ≠ z → c ≠ i1 → s.heap.get? c = some o → h'.get? c = some o) → (∃ o, h'.get? e = some o ∧ o.cls = .type "StopIteration") → E (.ref e) { s with heap := h' }) :
    wpAny (model prog w) A (Builtin.«zip.__next__» { pos := [.ref z] }) Q E s := by
  obtain ⟨hz, hti, ⟨ta, tb, hto⟩, hi1, hi2⟩ := hz
  show wpAny _ _ (field (.ref z) 2 >>= fun r => _) _ _ s
  refine wpAny_bind (wpAny_field hz rfl rfl ?_)
  show wpAny _ _ (field (.ref z) 3 >>= fun r => _) _ _ s
  refine wpAny_bind (wpAny_field hz rfl rfl ?_)
  show wpAny _ _ (seqItems? (.ref TI) >>= fun r => _) _ _ s
  refine wpAny_bind (wpAny_seqItems hti rfl ?_)
  show wpAny _ _ (Builtin.SmallTypes.ownedTupleIsFree (.ref z) >>= fun r => _) _ _ s
  refine wpAny_bind ?_
  unfold Builtin.SmallTypes.ownedTupleIsFree
  refine wpAny_bind (wpAny_field hz rfl rfl ?_)
  refine wpAny_pure ?_
  show wpAny _ _ (rule "zip.__next__.owned-tuple-again" >>= fun r => _) _ _ s
  refine wpAny_bind (wpAny_rule ?_)
  refine wpAny_bind (wpAny_field hz rfl rfl ?_)
  show wpAny _ _ (setField (.ref z) 0 .ellipsis >>= fun r => _) _ _ s
  refine wpAny_bind (wpAny_setField_rec hz (show 0 < 5 by decide) fun h1 z1 b1 => ?_)
  show wpAny _ _ ((forIn [(Value.ref i1, 0), (Value.ref i2, 1)] _ _) >>= fun r => _) _ _ _
  refine wpAny_bind ?_
  rw [List.forIn_cons]
  have get1 : ∀ b, b ≠ z → h1.get? b = s.heap.get? b := b1.2
  refine wpAny_bind ?_
  refine wpAny_bind (wpAny_onRaise ?_)
  show wpAny _ _ (Builtin.SmallTypes.nextOf (.ref i1) >>= fun v => pure (some v)) _ _ _
  refine wpAny_bind (nextOf_tuple_end hh (let ⟨o, e, p⟩ := hi1; ⟨o, (get1 _ hA.i1z).trans e, p⟩) (let ⟨o, e, p⟩ := ht1; ⟨o, (get1 _ hA.l1z).trans e, p⟩) hx fun h2 e k ex => ?_)
  have z2 : h2.get? z = some { cls := .type "zip", data := .fields #[.ellipsis, .bool false, .bool false, .ref TI, .ref TO] } := k _ _ hA.i1z.symm z1
  refine wpAny_setField_rec z2 (show 0 < 5 by decide) fun h3 z3 b3 => ?_
  refine q h3 e (fun c o n1 n2 ec => ?_) ?_
  · rw [b3.2 _ n1]
    exact k _ _ n2 ((get1 _ n1).trans ec)
  · obtain ⟨o, eo, hc⟩ := ex
    by_cases he : e = z
    · subst he
      rw [z2] at eo
      cases eo
      exact absurd (show Value.type "zip" = Value.type "StopIteration" from hc) (by decide)
    · exact ⟨o, (b3.2 _ he).trans eo, hc⟩
theorem pyNext_zip_itemT {prog : Program} {w : World} {A : Around} {E : Value → Shared → Prop} {s : Shared} {z TI TO i1 i2 a1 a2 : Addr} {k1 k2 : Nat} {xs ys : Array Value} {x y : Value} {Q : Option Value → Shared → Prop} (hA : ZipApart z TI TO i1 i2 a1 a2)
    (hz : ZipAt s.heap z TI TO i1 i2 a1 a2 .none k1 k2) (ht1 : s.heap.IsTuple a1 xs) (ht2 : s.heap.IsTuple a2 ys) (hx : xs[k1]? = some x) (hy : ys[k2]? = some y)
    (q : ∀ h' : Heap, ZipAt h' z TI TO i1 i2 a1 a2 (rawInt s.heap.objs.size) (k1 + 1) (k2 + 1) → IsPair h' s.heap.objs.size x y → (∀ c o, c ≠ z → c ≠ TO → c ≠ i1 → c ≠ i2 → s.heap.get? c = some o → h'.get? c = some o) → Q (some (.ref s.heap.objs.size)) { s with heap := h' }) :
    wpAny (model prog w) A (pyNext (.ref z)) Q E s := by
  have ty : s.TypeIs (.ref z) "zip" := ⟨_, hz.zip, rfl⟩
  unfold pyNext
  refine wpAny_bind (wpAny_attempt (wpAny_callSpecial?_slot ty F.slot_zip_next (wpAny_call_entry F.slot_zip_next ty F.entry_zip_next ?_ (F.args_zip_next_1 _))))
  exact zip_next_itemT hA hz ht1 ht2 hx hy fun h' a b c => wpAny_pure (q h' a b c)
theorem pyNext_zip_endT {prog : Program} {w : World} {A : Around} {E : Value → Shared → Prop} {s : Shared} {z TI TO i1 i2 a1 a2 : Addr} {k1 k2 : Nat} {xs ys : Array Value} {Q : Option Value → Shared → Prop} (hh : A.handled = none) (hA : ZipApart z TI TO i1 i2 a1 a2)
    (hz : ZipAt s.heap z TI TO i1 i2 a1 a2 .none k1 k2) (ht1 : s.heap.IsTuple a1 xs) (hx : xs[k1]? = none)
    (q : ∀ h' : Heap, (∀ c o, c ≠ z → c ≠ i1 → s.heap.get? c = some o → h'.get? c = some o) → Q none { s with heap := h' }) :
    wpAny (model prog w) A (pyNext (.ref z)) Q E s := by
  have ty : s.TypeIs (.ref z) "zip" := ⟨_, hz.zip, rfl⟩
  unfold pyNext
  refine wpAny_bind (wpAny_attempt (wpAny_callSpecial?_slot ty F.slot_zip_next (wpAny_call_entry F.slot_zip_next ty F.entry_zip_next ?_ (F.args_zip_next_1 _))))
  refine zip_next_endT (A := A.in1) (ys := ys) hh hA hz ht1 hx fun h' e k ex => ?_
  obtain ⟨o, eo, hc⟩ := ex
  refine wpAny_bind (wpAny_isInstance (T := "StopIteration") ⟨o, eo, hc⟩ isSubtype_stop ?_)
  rw [if_pos rfl]
  exact wpAny_pure (q h' k)
theorem meets_zip_newT (a1 a2 : Addr) (xs ys : Array Value) : Meets (Builtin.«zip.__new__» { pos := [.type "zip", .ref a1, .ref a2] }) (fun _ R s => s.heap.IsTuple a1 xs ∧ s.heap.IsTuple a2 ys ∧
    ∀ h' : Heap, ZipAt h' (s.heap.objs.size + 4) (s.heap.objs.size + 2) (s.heap.objs.size + 3) s.heap.objs.size (s.heap.objs.size + 1) a1 a2 .none 0 0 → (∀ b o, s.heap.get? b = some o → h'.get? b = some o) → R (.ok (.ret (.ref (s.heap.objs.size + 4)))) { s with heap := h' }) :=
  .of_wp fun prog w A R s h => by
    obtain ⟨h1, h2, q⟩ := h
    unfold Builtin.«zip.__new__»
    refine wpAny_bind ?_
    unfold Builtin.SmallTypes.newClass
    refine wpAny_bind (wpAny_of_eq (a := true) rfl ?_)
    rw [if_neg (by decide)]
    refine wpAny_bind (wpAny_of_eq sub_zip ?_)
    rw [if_neg (by decide)]
    refine wpAny_pure ?_
    show wpAny _ _ (Builtin.SmallTypes.iterAll [.ref a1, .ref a2] >>= fun r => _) _ _ s
    refine wpAny_bind ?_
    unfold Builtin.SmallTypes.iterAll
    refine wpAny_bind ?_
    rw [List.forIn_cons]
    refine wpAny_bind ?_
    refine wpAny_bind (wpAny_holding (wpAny_pyIter_tuple h1 (wpAny_pure ?_)))
    have k1 : ∀ b o, s.heap.get? b = some o → (s.heap.push { cls := .type "tuple_iterator", data := .fields #[.ref a1, .int 0 0] }).get? b = some o := fun b o e => Heap.get?_push_of_some _ e
    have g1 : (s.heap.push { cls := .type "tuple_iterator", data := .fields #[.ref a1, .int 0 0] }).get? s.heap.objs.size = some { cls := .type "tuple_iterator", data := .fields #[.ref a1, .int 0 0] } := Heap.get?_push_size _ rfl
    have z1 : (s.heap.push { cls := .type "tuple_iterator", data := .fields #[.ref a1, .int 0 0] }).objs.size = s.heap.objs.size + 1 := Heap.size_push ..
    generalize s.heap.push { cls := .type "tuple_iterator", data := .fields #[.ref a1, .int 0 0] } = hp1 at k1 g1 z1 ⊢
    show wpAny _ _ (forIn [Value.ref a2] _ _) _ _ _
    rw [List.forIn_cons]
    refine wpAny_bind ?_
    refine wpAny_bind (wpAny_holding (wpAny_pyIter_tuple (items := ys) (let ⟨o, e, p⟩ := h2; ⟨o, k1 _ _ e, p⟩) (wpAny_pure ?_)))
    show wpAny _ _ (forIn [] _ _) _ _ _
    rw [List.forIn_nil]
    refine wpAny_pure (wpAny_pure ?_)
    have k2 : ∀ b o, hp1.get? b = some o → (hp1.push { cls := .type "tuple_iterator", data := .fields #[.ref a2, .int 0 0] }).get? b = some o := fun b o e => Heap.get?_push_of_some _ e
    have g2 : (hp1.push { cls := .type "tuple_iterator", data := .fields #[.ref a2, .int 0 0] }).get? hp1.objs.size = some { cls := .type "tuple_iterator", data := .fields #[.ref a2, .int 0 0] } := Heap.get?_push_size _ rfl
    have z2 : (hp1.push { cls := .type "tuple_iterator", data := .fields #[.ref a2, .int 0 0] }).objs.size = hp1.objs.size + 1 := Heap.size_push ..
    show wpAny _ _ (newTuple [.ref s.heap.objs.size, .ref hp1.objs.size] >>= fun r => _) _ _ { s with heap := hp1.push { cls := .type "tuple_iterator", data := .fields #[.ref a2, .int 0 0] } }
    generalize hp1.push { cls := .type "tuple_iterator", data := .fields #[.ref a2, .int 0 0] } = hp2 at k2 g2 z2 ⊢
    refine wpAny_bind (wpAny_newTuple ?_ (by show 2 ≤ sizeLine; decide))
    have k3 : ∀ b o, hp2.get? b = some o → (hp2.push { cls := .type "tuple", data := .seq [Value.ref s.heap.objs.size, Value.ref hp1.objs.size].toArray }).get? b = some o := fun b o e => Heap.get?_push_of_some _ e
    have g3 : (hp2.push { cls := .type "tuple", data := .seq [Value.ref s.heap.objs.size, Value.ref hp1.objs.size].toArray }).get? hp2.objs.size = some { cls := .type "tuple", data := .seq #[.ref s.heap.objs.size, .ref hp1.objs.size] } := Heap.get?_push_size _ rfl
    have z3 : (hp2.push { cls := .type "tuple", data := .seq [Value.ref s.heap.objs.size, Value.ref hp1.objs.size].toArray }).objs.size = hp2.objs.size + 1 := Heap.size_push ..
    show wpAny _ _ (newTuple [.none, .none] >>= fun r => _) _ _ { s with heap := hp2.push { cls := .type "tuple", data := .seq [Value.ref s.heap.objs.size, Value.ref hp1.objs.size].toArray } }
    generalize hp2.push { cls := .type "tuple", data := .seq [Value.ref s.heap.objs.size, Value.ref hp1.objs.size].toArray } = hp3 at k3 g3 z3 ⊢
    refine wpAny_bind (wpAny_newTuple ?_ (by show 2 ≤ sizeLine; decide))
    have k4 : ∀ b o, hp3.get? b = some o → (hp3.push { cls := .type "tuple", data := .seq [Value.none, Value.none].toArray }).get? b = some o := fun b o e => Heap.get?_push_of_some _ e
    have g4 : (hp3.push { cls := .type "tuple", data := .seq [Value.none, Value.none].toArray }).get? hp3.objs.size = some { cls := .type "tuple", data := .seq #[.none, .none] } := Heap.get?_push_size _ rfl
    have z4 : (hp3.push { cls := .type "tuple", data := .seq [Value.none, Value.none].toArray }).objs.size = hp3.objs.size + 1 := Heap.size_push ..
    show wpAny _ _ (newObj (.type "zip") (.fields #[.none, .bool false, .bool false, .ref hp2.objs.size, .ref hp3.objs.size]) >>= fun r => _) _ _ { s with heap := hp3.push { cls := .type "tuple", data := .seq [Value.none, Value.none].toArray } }
    generalize hp3.push { cls := .type "tuple", data := .seq [Value.none, Value.none].toArray } = hp4 at k4 g4 z4 ⊢
    refine wpAny_bind (wpAny_newObj_type ?_ (by simp [sizeOk]; decide))
    have k5 : ∀ b o, hp4.get? b = some o → (hp4.push { cls := .type "zip", data := .fields #[.none, .bool false, .bool false, .ref hp2.objs.size, .ref hp3.objs.size] }).get? b = some o := fun b o e => Heap.get?_push_of_some _ e
    have g5 : (hp4.push { cls := .type "zip", data := .fields #[.none, .bool false, .bool false, .ref hp2.objs.size, .ref hp3.objs.size] }).get? hp4.objs.size = some { cls := .type "zip", data := .fields #[.none, .bool false, .bool false, .ref hp2.objs.size, .ref hp3.objs.size] } := Heap.get?_push_size _ rfl
    have e1 : hp1.objs.size = s.heap.objs.size + 1 := z1
    have e2 : hp2.objs.size = s.heap.objs.size + 2 := by rw [z2, e1]
    have e3 : hp3.objs.size = s.heap.objs.size + 3 := by rw [z3, e2]
    have e4 : hp4.objs.size = s.heap.objs.size + 4 := by rw [z4, e3]
    refine wpAny_pure ⟨.ref hp4.objs.size, rfl, ?_⟩
    rw [e2, e3] at g5 k5 ⊢
    rw [e4] at g5 ⊢
    rw [e3] at g4
    rw [e1, e2] at g3
    rw [e1] at g2
    refine q _ ⟨g5, k5 _ _ (k4 _ _ g3), ⟨_, _, k5 _ _ g4⟩, ⟨_, k5 _ _ (k4 _ _ (k3 _ _ (k2 _ _ g1))), rfl, rfl⟩, ⟨_, k5 _ _ (k4 _ _ (k3 _ _ g2)), rfl, rfl⟩⟩ fun b o e => k5 _ _ (k4 _ _ (k3 _ _ (k2 _ _ (k1 _ _ e))))
theorem call_zipT {prog : Program} {w : World} {A : Around} {E : Value → Shared → Prop} {s : Shared} {a1 a2 : Addr} {xs ys : Array Value} {Q : Value → Shared → Prop} (h1 : s.heap.IsTuple a1 xs) (h2 : s.heap.IsTuple a2 ys)
    (q : ∀ h' : Heap, ZipAt h' (s.heap.objs.size + 4) (s.heap.objs.size + 2) (s.heap.objs.size + 3) s.heap.objs.size (s.heap.objs.size + 1) a1 a2 .none 0 0 → (∀ b o, s.heap.get? b = some o → h'.get? b = some o) → Q (.ref (s.heap.objs.size + 4)) { s with heap := h' }) :
    wpAny (model prog w) A (call (.type "zip") [.ref a1, .ref a2]) Q E s :=
  callType_new F.called_zip (by decide) (F.typeCall_zip_2 _ _) (F.newCall_zip_2 _ _) (fun o => F.args_object_init_3 o _ _) F.entry_zip_new (meets_zip_newT a1 a2 xs ys) ⟨h1, h2, fun h' z k => ⟨⟨_, z.zip, rfl⟩, q h' z k⟩⟩
theorem Inv.turnLaid {X : Cx} {pins : List (Addr × Obj)} {σ : L2.St} {H : Hp} {s : Shared} {h' : Heap} {t' : Nat} {ch : List Addr} {a : Addr} {o : HO} (I : Inv X pins σ H s) (hf : ∀ b ∈ ch, FpOk X pins H b) (k : ∀ b u, b ∉ ch → s.heap.get? b = some u → h'.get? b = some u)
    (hp : s.heap.objs.size ≤ a) (new : ObjOk X.prog X.w (upd H a o) h' a o) : Inv X pins σ (upd H a o) { s with heap := h', toks := t' } := by
  have hn := I.hok.fresh hp
  have nit : ∀ b u, H b = some u → b ∉ ch := fun b u e z => by rw [(hf b z).1] at e; cases e
  have nL : X.env.locals ∉ ch := fun z => (hf _ z).2.1 rfl
  refine I.step (g' := s.gens) (d' := s.drawn) (ch := ch) (fun b hb => ⟨(hf b hb).2.2.2.1, (hf b hb).2.1, (hf b hb).2.2.2.2.1, (hf b hb).2.2.2.2.2⟩) (fun b u _ _ hc e _ => k b u hc e) (fun b u _ _ hc e _ => ⟨u.slots, k b u hc e⟩)
    (fun b u _ e n => by rw [upd_ne (Nat.ne_of_lt (Nat.lt_of_lt_of_le (Heap.lt_size e) hp))]; exact n) (fun b u hc e => ⟨u, k b u hc e⟩) (fun b xs e => by rw [upd_ne (ne_of_none e hn)]; exact e) (fun b u xs e => by rw [upd_ne (ne_of_none e hn)]; exact e)
    (fun b ps e => ⟨#[], by rw [upd_ne (ne_of_none e hn), e]; simp⟩) (fun m hm => ?_) (fun b u e => ?_) I.bare
  · obtain ⟨o', es, ep, ho, r⟩ := hm
    exact ⟨o', es, ep, k _ o' nL ho, r⟩
  · by_cases hb : b = a
    · subst hb; rw [upd_same] at e; cases e; exact new
    · rw [upd_ne hb] at e
      refine (I.hok b u e).stay (fun c v hc q => k c v ?_ q) (fun c q => by rw [upd_ne (ne_of_none q hn)]; exact q) fun c xs q => by rw [upd_ne (ne_of_none q hn)]; exact q
      rcases hc with z | z
      · rw [z]; exact nit b u e
      · exact nit c _ z
theorem Inv.turnedN {X : Cx} {pins : List (Addr × Obj)} {σ : L2.St} {H : Hp} {s : Shared} {h' : Heap} {t' : Nat} {ch : List Addr} (I : Inv X pins σ H s) (hf : ∀ b ∈ ch, FpOk X pins H b) (k : ∀ b u, b ∉ ch → s.heap.get? b = some u → h'.get? b = some u) :
    Inv X pins σ H { s with heap := h', toks := t' } := by
  have nit : ∀ b u, H b = some u → b ∉ ch := fun b u e z => by rw [(hf b z).1] at e; cases e
  have nL : X.env.locals ∉ ch := fun z => (hf _ z).2.1 rfl
  refine I.step (g' := s.gens) (d' := s.drawn) (ch := ch) (fun b hb => ⟨(hf b hb).2.2.2.1, (hf b hb).2.1, (hf b hb).2.2.2.2.1, (hf b hb).2.2.2.2.2⟩) (fun b u _ _ hc e _ => k b u hc e) (fun b u _ _ hc e _ => ⟨u.slots, k b u hc e⟩)
    (fun _ _ _ _ n => n) (fun b u hc e => ⟨u, k b u hc e⟩) (fun _ _ e => e) (fun _ _ _ e => e) (fun b ps e => ⟨#[], by rw [e]; simp⟩) (fun m hm => ?_) (fun b u e => ?_) I.bare
  · obtain ⟨o', es, ep, ho, r⟩ := hm
    exact ⟨o', es, ep, k _ o' nL ho, r⟩
  · refine (I.hok b u e).stay (fun c v hc q => k c v ?_ q) (fun _ q => q) fun _ _ q => q
    rcases hc with z | z
    · rw [z]; exact nit b u e
    · exact nit c _ z
def Itz (K : PySem.W.Frag) (a1 a2 : Addr) : It where
  go := fun i H => ∃ xs ys x y, SqT K H a1 xs ∧ SqT K H a2 ys ∧ xs[i]? = some x ∧ ys[i]? = some y
  yld := fun i H v H' => ∃ p x y, v = .ref p ∧ H p = none ∧ H' = upd H p (.tup [x, y]) ∧ (∀ xs, SqT K H a1 xs → xs[i]? = some x) ∧ ∀ ys, SqT K H a2 ys → ys[i]? = some y
  stop := fun i H => ∃ xs, SqT K H a1 xs ∧ xs.length ≤ i
theorem vals_get {xs : List V} {us : List Value} (h : Vals xs us) : ∀ {i : Nat} {x : V}, xs[i]? = some x → ∃ u, us[i]? = some u ∧ RelV x u := by
  induction h with
  | nil => intro i x e; simp at e
  | cons r t ih =>
    intro i x e
    cases i with
    | zero => simp at e; subst e; exact ⟨_, rfl, r⟩
    | succ i => exact ih (by simpa using e)
theorem turn_zip {P : Program} {w : World} {K : PySem.W.Frag} {elts : List Expr} {kk : Nat} {pos : Pos} {z TI TO i1 i2 a1 a2 : Addr} (hA : ZipApart z TI TO i1 i2 a1 a2) : Turn P w K (.Tuple elts kk pos) (Itz K a1 a2) [z, TI, TO, i1, i2] z (fun i h => ZipAt h z TI TO i1 i2 a1 a2 .none i i) where
  mem := by simp
  obj := fun i h st b hb => by
    simp only [List.mem_cons, List.not_mem_nil, or_false] at hb
    rcases hb with rfl | rfl | rfl | rfl | rfl
    · exact ⟨_, st.zip, fun v z => by cases z⟩
    · exact ⟨_, st.ti, fun v z => by cases z⟩
    · obtain ⟨_, _, e⟩ := st.to; exact ⟨_, e, fun v z => by cases z⟩
    · obtain ⟨o, e, _, d⟩ := st.it1; exact ⟨o, e, fun v z => by rw [d] at z; cases z⟩
    · obtain ⟨o, e, _, d⟩ := st.it2; exact ⟨o, e, fun v z => by rw [d] at z; cases z⟩
  keep := fun i h h' st k => ⟨k z (by simp) _ st.zip, k TI (by simp) _ st.ti, let ⟨a, b, e⟩ := st.to; ⟨a, b, k TO (by simp) _ e⟩, let ⟨o, e, p⟩ := st.it1; ⟨o, k i1 (by simp) _ e, p⟩, let ⟨o, e, p⟩ := st.it2; ⟨o, k i2 (by simp) _ e, p⟩⟩
  item := by
    intro X hP hw hK hc i pins s σ H E I hf st hg
    subst hP hw hK
    obtain ⟨xs, ys, x, y, hx, hy, gx, gy⟩ := hg
    obtain ⟨its, rx, tx, _⟩ := I.tuple hx
    obtain ⟨its2, ry, ty, _⟩ := I.tuple hy
    obtain ⟨u, gu, ru⟩ := vals_get rx gx
    obtain ⟨v, gv, rv⟩ := vals_get ry gy
    refine pyNext_zip_itemT hA st tx ty (by simpa using gu) (by simpa using gv) fun h' zt np k => ?_
    refine ⟨_, rfl, ?_⟩
    show wpAny _ _ (load z >>= fun o => _) _ _ _
    refine wpAny_bind (wpAny_load zt.zip ?_)
    show wpAny _ _ (if ((["enumerate", "zip", "dict_itemiterator", "dict_reverseitemiterator", "odict_iterator", "itertools.zip_longest", "itertools.pairwise"].contains "zip" && (some (rawInt s.heap.objs.size) == some (rawInt s.heap.objs.size))) = true) then (do rule "for.unpacks-the-owned-tuple"; setField (.ref z) 0 .none) else pure ()) _ _ _
    rw [if_pos (by rw [beq_self_eq_true]; decide)]
    refine wpAny_bind (wpAny_rule ?_)
    refine wpAny_setField_rec zt.zip (show 0 < 5 by decide) fun h2 z2 b2 => ?_
    have lt : ∀ b ∈ [z, TI, TO, i1, i2], b < s.heap.objs.size := fun b hb => by
      simp only [List.mem_cons, List.not_mem_nil, or_false] at hb
      rcases hb with rfl | rfl | rfl | rfl | rfl
      · exact Heap.lt_size st.zip
      · exact Heap.lt_size st.ti
      · obtain ⟨_, _, e⟩ := st.to; exact Heap.lt_size e
      · obtain ⟨o, e, _⟩ := st.it1; exact Heap.lt_size e
      · obtain ⟨o, e, _⟩ := st.it2; exact Heap.lt_size e
    have nz : s.heap.objs.size ≠ z := fun e => Nat.lt_irrefl _ (by have := lt z (by simp); rw [← e] at this; exact this)
    have kk' : ∀ b o, b ∉ [z, TI, TO, i1, i2] → s.heap.get? b = some o → h2.get? b = some o := fun b o hb e => by
      have hz' : b ≠ z := fun q => hb (by simp [q])
      rw [b2.2 b hz']
      exact k b o hz' (fun q => hb (by simp [q])) (fun q => hb (by simp [q])) (fun q => hb (by simp [q])) e
    have np2 : h2.get? s.heap.objs.size = some { cls := .type "tuple", data := .seq #[u, v] } := (b2.2 _ nz).trans np
    have hfr := I.hok.fresh (Nat.le_refl s.heap.objs.size)
    refine ⟨.ref s.heap.objs.size, upd H s.heap.objs.size (.tup [x, y]), I.turnLaid (t' := s.toks) hf kk' (Nat.le_refl _) ⟨by show 2 ≤ sizeLine; decide, [u, v], .cons ru (.cons rv .nil), ⟨_, np2, rfl, _, rfl⟩⟩, rfl, ⟨_, x, y, rfl, hfr, rfl, fun xs' h' => ?_, fun ys' h' => ?_⟩, ⟨z2, (b2.2 _ hA.TIz).trans zt.ti, let ⟨p, q, e⟩ := zt.to; ⟨p, q, (b2.2 _ hA.TOz).trans e⟩, let ⟨o, e, p⟩ := zt.it1; ⟨o, (b2.2 _ hA.i1z).trans e, p⟩, let ⟨o, e, p⟩ := zt.it2; ⟨o, (b2.2 _ hA.i2z).trans e, p⟩⟩, fun b hb => ?_⟩
    · rw [I.tuple_inj h' hx]; exact gx
    · rw [I.tuple_inj h' hy]; exact gy
    · rw [upd_ne (Nat.ne_of_lt (lt b hb))]
      exact (hf b hb).1
  done := by
    intro X hP hw hK hc i pins s σ H E I hf st hg
    subst hP hw hK
    obtain ⟨xs, hx, hl⟩ := hg
    obtain ⟨its, rx, tx, _⟩ := I.tuple hx
    have el := rx.length
    refine pyNext_zip_endT (ys := #[]) (I.ok.hd hc) hA st tx (by simp; omega) fun h' k => ⟨rfl, I.turnedN (t' := s.toks) hf fun b o hb e => k b o (fun z => hb (by simp [z])) (fun z => hb (by simp [z])) e⟩
  self := fun A i s Q E st h => wpAny_pyIter_zip st.zip h
def iZip (K : PySem.W.Frag) (t1 t2 : TE) : TI := fun σ H R => t1 σ H fun x H1 => t2 σ H1 fun y H2 => ∃ a b, x = .ref a ∧ y = .ref b ∧ (∃ xs, SqT K H2 a xs) ∧ (∃ ys, SqT K H2 b ys) ∧ R (Itz K a b) H2
theorem pi_zip {X : Cx} (K : PySem.W.Frag) (hK : X.K = K) {e1 e2 : Expr} {t1 t2 : TE} {elts : List Expr} {kk : Nat} {tp p1 p2 : Pos} (hg : Gl X "zip") (hm : X.mg "zip" = none) (h1 : PE X e1 t1) (h2 : PE X e2 t2)
    (hs1 : starEach [e1, e2] X.env = (false, eval e1 X.env) :: starEach [e2] X.env := by rfl) (hs2 : starEach [e2] X.env = (false, eval e2 X.env) :: starEach [] X.env := by rfl) (hpl : (backTo p2 (starEach [e2] X.env)).any (·.1) = false := by rfl) :
    PI X (.Tuple elts kk tp) (.Call (.Name "zip" p1) [e1, e2] [] p2) (iZip K t1 t2) := by
  subst hK
  intro pins s σ H R I h
  refine wpAny_Call_Name_kw (ld_blt I hg hm boot_zip ?_ (by decide) (by decide))
  refine PyProof.Rows.callWith_type1 ?_ hs1 hpl
  rw [hs1, hs2]
  show wpAny _ _ (spliced ((false, eval e1 X.env) :: (false, eval e2 X.env) :: backTo p2 (starEach [] X.env))) _ _ s
  refine Calls.spliced_cons (thn (h1 pins s σ H _ I h) fun u1 s1 ⟨x, H1, I1, r1, q1⟩ => ?_)
  refine Calls.spliced_cons (thn (h2 pins s1 σ H1 _ I1 q1) fun u2 s2 ⟨y, H2, I2, r2, a, b, ex, ey, ⟨xs, hx⟩, ⟨ys, hy⟩, q⟩ => Calls.spliced_nil ?_)
  subst ex
  subst ey
  cases r1
  cases r2
  obtain ⟨its, rx, tx, _⟩ := I2.tuple hx
  obtain ⟨its2, ry, ty, _⟩ := I2.tuple hy
  have l1 : a < s2.heap.objs.size := let ⟨_, e, _⟩ := tx; Heap.lt_size e
  have l2 : b < s2.heap.objs.size := let ⟨_, e, _⟩ := ty; Heap.lt_size e
  refine call_zipT tx ty fun h' zt k => ?_
  refine wpAny_pyIter_zip zt.zip ?_
  have dd : ∀ i j : Nat, i ≠ j → s2.heap.objs.size + i ≠ s2.heap.objs.size + j := fun i j n e => n (Nat.add_left_cancel e)
  have na : ∀ i : Nat, a ≠ s2.heap.objs.size + i := fun i => Nat.ne_of_lt (Nat.lt_of_lt_of_le l1 (Nat.le_add_right _ _))
  have nb : ∀ i : Nat, b ≠ s2.heap.objs.size + i := fun i => Nat.ne_of_lt (Nat.lt_of_lt_of_le l2 (Nat.le_add_right _ _))
  have hA : ZipApart (s2.heap.objs.size + 4) (s2.heap.objs.size + 2) (s2.heap.objs.size + 3) s2.heap.objs.size (s2.heap.objs.size + 1) a b :=
    ⟨dd 2 4 (by decide), dd 3 4 (by decide), dd 0 4 (by decide), dd 1 4 (by decide), dd 2 3 (by decide), dd 2 0 (by decide), dd 2 1 (by decide), dd 3 0 (by decide), dd 3 1 (by decide), dd 0 1 (by decide), na 4, na 3, na 0, na 1, nb 4, nb 3, nb 0, nb 1⟩
  refine ⟨_, _, _, _, H2, rfl, I2.kept (t' := s2.toks) k, turn_zip hA, zt, fun c hc => ?_, q⟩
  have hle : s2.heap.objs.size ≤ c := by
    simp only [List.mem_cons, List.not_mem_nil, or_false] at hc
    rcases hc with rfl | rfl | rfl | rfl | rfl
    · exact Nat.le_add_right _ _
    · exact Nat.le_add_right _ _
    · exact Nat.le_add_right _ _
    · exact Nat.le_refl _
    · exact Nat.le_add_right _ _
  exact I2.fpOk hle (I2.hok.fresh hle)
end L2
set_option Elab.async false
set_option linter.all false
set_option maxRecDepth 100000
namespace My
open PySem PySem.Spec PyProof.Rows L2
end My
set_option Elab.async false
set_option linter.all false
set_option maxRecDepth 100000
namespace L2
open PySem PySem.Spec PyProof.Rows
theorem enum_next_itemT {prog : Program} {w : World} {A : Around} {E : Value → Shared → Prop} {s : Shared} {e it t : Addr} {i : Nat} {old : Value} {items : Array Value} {x : Value} {Q : Value → Shared → Prop} (hei : e ≠ it) (hte : t ≠ e) (hti : t ≠ it)
    (hz : IsEnum s.heap e it i old) (hi : s.heap.IsTupleIter it t i) (ht : s.heap.IsTuple t items) (hx : items[i]? = some x)
    (q : ∀ (h' : Heap) (tk : Nat), IsEnumOut h' e it (i + 1 : Nat) x s.heap.objs.size → h'.IsTupleIter it t (i + 1) → IsPair h' s.heap.objs.size (.int i s.toks) x → (∀ c o, c ≠ e → c ≠ it → s.heap.get? c = some o → h'.get? c = some o) → Q (.ref s.heap.objs.size) { s with heap := h', toks := tk }) :
    wpAny (model prog w) A (Builtin.«enumerate.__next__» { pos := [.ref e] }) (fun fin s' => ∃ v, fin = Fin.done (Flow.ret v) ∧ Q v s') E s := by
  show wpAny _ _ (field (.ref e) 2 >>= fun r => _) _ _ s
  refine wpAny_bind (wpAny_field hz rfl rfl ?_)
  show wpAny _ _ (Builtin.SmallTypes.nextOf (.ref it) >>= fun r => _) _ _ s
  refine wpAny_bind (nextOf_tuple_item hi ht hx fun h1 j1 b1 => ?_)
  have z1 : IsEnum h1 e it i old := (b1.2 _ hei).trans hz
  refine wpAny_bind (wpAny_field z1 rfl rfl ?_)
  show wpAny _ _ (field (.ref e) 4 >>= fun r => _) _ _ _
  refine wpAny_bind (wpAny_field z1 rfl rfl ?_)
  show wpAny _ _ (mkInt i >>= fun r => _) _ _ _
  refine wpAny_bind (wpAny_mkInt ?_)
  refine wpAny_bind (wpAny_setField_rec z1 (show 3 < 6 by decide) fun h2 z2 b2 => ?_)
  refine wpAny_bind (wpAny_setField_rec z2 (show 4 < 6 by decide) fun h3 z3 b3 => ?_)
  have sz3 : h3.objs.size = s.heap.objs.size := b3.1.trans (b2.1.trans b1.1)
  have get3 : ∀ b, b ≠ e → b ≠ it → h3.get? b = s.heap.get? b := fun b n1 n2 => (b3.2 b n1).trans ((b2.2 b n1).trans (b1.2 b n2))
  refine wpAny_bind (wpAny_newTuple ?_ (by show 2 ≤ sizeLine; decide))
  have kp : ∀ b o, h3.get? b = some o → (h3.push { cls := .type "tuple", data := .seq [Value.int i s.toks, x].toArray }).get? b = some o := fun b o e => Heap.get?_push_of_some _ e
  have new4 : (h3.push { cls := .type "tuple", data := .seq [Value.int i s.toks, x].toArray }).get? h3.objs.size = some { cls := .type "tuple", data := .seq #[.int i s.toks, x] } := Heap.get?_push_size _ rfl
  generalize h3.push { cls := .type "tuple", data := .seq [Value.int i s.toks, x].toArray } = h4 at kp new4 ⊢
  have z4 : h4.get? e = some { cls := .type "enumerate", data := .fields #[.none, .bool false, .ref it, rawInt (i + 1), .none, old] } := kp _ _ z3
  refine wpAny_bind ?_
  unfold Builtin.SmallTypes.ownedTupleIsFree
  refine wpAny_bind (wpAny_field z4 rfl rfl ?_)
  refine wpAny_pure ?_
  show wpAny _ _ (rule "enumerate.__next__.owned-tuple-again" >>= fun r => _) _ _ _
  refine wpAny_bind (wpAny_rule ?_)
  refine wpAny_bind (wpAny_field z4 rfl rfl ?_)
  refine wpAny_bind (wpAny_setField_rec z4 (show 5 < 6 by decide) fun h5 z5 b5 => ?_)
  refine wpAny_bind ?_
  show wpAny _ _ (setField (.ref e) 0 (rawInt h3.objs.size) >>= fun _ => setField (.ref e) 1 (.bool false)) _ _ _
  refine wpAny_bind (wpAny_setField_rec z5 (show 0 < 6 by decide) fun h6 z6 b6 => ?_)
  refine wpAny_setField_rec z6 (show 1 < 6 by decide) fun h7 z7 b7 => ?_
  refine wpAny_bind (wpAny_letGo ?_)
  have get7 : ∀ b, b ≠ e → h7.get? b = h4.get? b := fun b n => (b7.2 b n).trans ((b6.2 b n).trans (b5.2 b n))
  have ne : s.heap.objs.size ≠ e := fun z => by have := Heap.lt_size hz; rw [← z] at this; exact Nat.lt_irrefl _ this
  refine wpAny_pure ⟨.ref h3.objs.size, rfl, ?_⟩
  rw [sz3] at z7 new4 ⊢
  refine q h7 _ ?_ ?_ ?_ ?_
  · exact z7
  · obtain ⟨o, eo, p⟩ := j1
    refine ⟨o, ?_, p⟩
    rw [get7 _ (Ne.symm hei)]
    exact kp _ _ ((b3.2 _ (Ne.symm hei)).trans ((b2.2 _ (Ne.symm hei)).trans eo))
  · rw [IsPair, get7 _ ne]; exact new4
  · intro c o n1 n2 ec
    rw [get7 _ n1]
    exact kp _ _ ((get3 _ n1 n2).trans ec)
theorem enum_next_endT {prog : Program} {w : World} {A : Around} {E : Value → Shared → Prop} {s : Shared} {e it t : Addr} {i : Nat} {old : Value} {items : Array Value} {Q : PySem.Fin → Shared → Prop} (hA : A.handled = none)
    (hz : IsEnum s.heap e it i old) (hi : s.heap.IsTupleIter it t i) (ht : s.heap.IsTuple t items) (hx : items[i]? = none)
    (q : ∀ (h' : Heap) (x : Addr), (∀ c o, c ≠ it → s.heap.get? c = some o → h'.get? c = some o) → (∃ o, h'.get? x = some o ∧ o.cls = .type "StopIteration") → E (.ref x) { s with heap := h' }) :
    wpAny (model prog w) A (Builtin.«enumerate.__next__» { pos := [.ref e] }) Q E s := by
  show wpAny _ _ (field (.ref e) 2 >>= fun r => _) _ _ s
  refine wpAny_bind (wpAny_field hz rfl rfl ?_)
  show wpAny _ _ (Builtin.SmallTypes.nextOf (.ref it) >>= fun r => _) _ _ s
  exact wpAny_bind (nextOf_tuple_end hA hi ht hx fun h' x k ex => q h' x (fun c o n e' => k c o n e') ex)
theorem pyNext_enum_itemT {prog : Program} {w : World} {A : Around} {E : Value → Shared → Prop} {s : Shared} {e it t : Addr} {i : Nat} {old : Value} {items : Array Value} {x : Value} {Q : Option Value → Shared → Prop} (hei : e ≠ it) (hte : t ≠ e) (hti : t ≠ it)
    (hz : IsEnum s.heap e it i old) (hi : s.heap.IsTupleIter it t i) (ht : s.heap.IsTuple t items) (hx : items[i]? = some x)
    (q : ∀ (h' : Heap) (tk : Nat), IsEnumOut h' e it (i + 1 : Nat) x s.heap.objs.size → h'.IsTupleIter it t (i + 1) → IsPair h' s.heap.objs.size (.int i s.toks) x → (∀ c o, c ≠ e → c ≠ it → s.heap.get? c = some o → h'.get? c = some o) → Q (some (.ref s.heap.objs.size)) { s with heap := h', toks := tk }) :
    wpAny (model prog w) A (pyNext (.ref e)) Q E s := by
  have ty : s.TypeIs (.ref e) "enumerate" := ⟨_, hz, rfl⟩
  unfold pyNext
  refine wpAny_bind (wpAny_attempt (wpAny_callSpecial?_slot ty F.slot_enumerate_next (wpAny_call_entry F.slot_enumerate_next ty F.entry_enumerate_next ?_ (F.args_enumerate_next_1 _))))
  exact enum_next_itemT hei hte hti hz hi ht hx fun h' tk a b c d => wpAny_pure (q h' tk a b c d)
theorem pyNext_enum_endT {prog : Program} {w : World} {A : Around} {E : Value → Shared → Prop} {s : Shared} {e it t : Addr} {i : Nat} {old : Value} {items : Array Value} {Q : Option Value → Shared → Prop} (hA : A.handled = none)
    (hz : IsEnum s.heap e it i old) (hi : s.heap.IsTupleIter it t i) (ht : s.heap.IsTuple t items) (hx : items[i]? = none)
    (q : ∀ h' : Heap, (∀ c o, c ≠ it → s.heap.get? c = some o → h'.get? c = some o) → Q none { s with heap := h' }) :
    wpAny (model prog w) A (pyNext (.ref e)) Q E s := by
  have ty : s.TypeIs (.ref e) "enumerate" := ⟨_, hz, rfl⟩
  unfold pyNext
  refine wpAny_bind (wpAny_attempt (wpAny_callSpecial?_slot ty F.slot_enumerate_next (wpAny_call_entry F.slot_enumerate_next ty F.entry_enumerate_next ?_ (F.args_enumerate_next_1 _))))
  refine enum_next_endT (A := A.in1) hA hz hi ht hx fun h' x k ex => ?_
  obtain ⟨o, eo, hc⟩ := ex
  refine wpAny_bind (wpAny_isInstance (T := "StopIteration") ⟨o, eo, hc⟩ isSubtype_stop ?_)
  rw [if_pos rfl]
  exact wpAny_pure (q h' k)
theorem meets_enum_newT (t : Addr) (items : Array Value) : Meets (Builtin.«enumerate.__new__» { pos := [.type "enumerate", .ref t] }) (fun _ R s => s.heap.IsTuple t items ∧
    ∀ h' : Heap, IsEnum h' (s.heap.objs.size + 1) s.heap.objs.size (0 : Nat) .none → h'.IsTupleIter s.heap.objs.size t 0 → (∀ b o, s.heap.get? b = some o → h'.get? b = some o) → R (.ok (.ret (.ref (s.heap.objs.size + 1)))) { s with heap := h' }) :=
  .of_wp fun prog w A R s h => by
    obtain ⟨h1, q⟩ := h
    unfold Builtin.«enumerate.__new__»
    refine wpAny_bind ?_
    unfold Builtin.SmallTypes.newClass
    refine wpAny_bind (wpAny_of_eq (a := true) rfl ?_)
    rw [if_neg (by decide)]
    refine wpAny_bind (wpAny_of_eq sub_enumerate ?_)
    rw [if_neg (by decide)]
    refine wpAny_pure ?_
    show wpAny _ _ (Builtin.SmallTypes.calledThroughType (.type "enumerate") >>= fun r => _) _ _ s
    refine wpAny_bind ?_
    unfold Builtin.SmallTypes.calledThroughType
    refine wpAny_bind (wpAny_stack_any fun st => wpAny_pure ?_)
    have fin : wpAny (model prog w) A.in1 (pyIter (.ref t) >>= fun it => (Builtin.SmallTypes.newRecord (.type "enumerate") (Builtin.SmallTypes.ownedTupleFields ++ [it, rawInt 0, .none, .none]) >>= fun r => ret r)) (fun fin s' => ∃ v, fin = Fin.done (Flow.ret v) ∧ R (Except.ok (Flow.ret v)) s') (fun e s' => R (Except.error e) s') s := by
      refine wpAny_bind (wpAny_pyIter_tuple h1 ?_)
      have k1 : ∀ b o, s.heap.get? b = some o → (s.heap.push { cls := .type "tuple_iterator", data := .fields #[.ref t, .int 0 0] }).get? b = some o := fun b o e => Heap.get?_push_of_some _ e
      have g1 : (s.heap.push { cls := .type "tuple_iterator", data := .fields #[.ref t, .int 0 0] }).get? s.heap.objs.size = some { cls := .type "tuple_iterator", data := .fields #[.ref t, .int 0 0] } := Heap.get?_push_size _ rfl
      have z1 : (s.heap.push { cls := .type "tuple_iterator", data := .fields #[.ref t, .int 0 0] }).objs.size = s.heap.objs.size + 1 := Heap.size_push ..
      generalize s.heap.push { cls := .type "tuple_iterator", data := .fields #[.ref t, .int 0 0] } = hp1 at k1 g1 z1 ⊢
      show wpAny _ _ (newObj (.type "enumerate") (.fields #[.none, .bool false, .ref s.heap.objs.size, rawInt 0, .none, .none]) >>= fun r => ret r) _ _ _
      refine wpAny_bind (wpAny_newObj_type ?_ (by simp [sizeOk]; decide))
      have g2 : (hp1.push { cls := .type "enumerate", data := .fields #[.none, .bool false, .ref s.heap.objs.size, rawInt 0, .none, .none] }).get? hp1.objs.size = some { cls := .type "enumerate", data := .fields #[.none, .bool false, .ref s.heap.objs.size, rawInt 0, .none, .none] } := Heap.get?_push_size _ rfl
      refine wpAny_pure ⟨.ref hp1.objs.size, rfl, ?_⟩
      rw [z1] at g2 ⊢
      exact q _ g2 ⟨_, Heap.get?_push_of_some _ g1, rfl, rfl⟩ fun b o e => Heap.get?_push_of_some _ (k1 _ _ e)
    dsimp only
    refine wpAny_ite_split (fun _ => ?_) (fun _ => ?_)
    · exact wpAny_bind (wpAny_of_eq (a := (Value.ref t, none)) rfl fin)
    · exact wpAny_bind (wpAny_of_eq (a := (Value.ref t, none)) rfl fin)
theorem call_enumT {prog : Program} {w : World} {A : Around} {E : Value → Shared → Prop} {s : Shared} {t : Addr} {items : Array Value} {Q : Value → Shared → Prop} (h1 : s.heap.IsTuple t items)
    (q : ∀ h' : Heap, IsEnum h' (s.heap.objs.size + 1) s.heap.objs.size (0 : Nat) .none → h'.IsTupleIter s.heap.objs.size t 0 → (∀ b o, s.heap.get? b = some o → h'.get? b = some o) → Q (.ref (s.heap.objs.size + 1)) { s with heap := h' }) :
    wpAny (model prog w) A (call (.type "enumerate") [.ref t]) Q E s :=
  callType_new F.called_enumerate (by decide) (F.typeCall_enumerate_1 _) (F.newCall_enumerate_1 _) (fun o => F.args_object_init_2 o _) F.entry_enumerate_new (meets_enum_newT t items) ⟨h1, fun h' z i k => ⟨⟨_, z, rfl⟩, q h' z i k⟩⟩
def Ite (K : PySem.W.Frag) (a : Addr) : It where
  go := fun i H => ∃ xs x, SqT K H a xs ∧ xs[i]? = some x
  yld := fun i H v H' => ∃ p x, v = .ref p ∧ H p = none ∧ H' = upd H p (.tup [.int i, x]) ∧ ∀ xs, SqT K H a xs → xs[i]? = some x
  stop := fun i H => ∃ xs, SqT K H a xs ∧ xs.length ≤ i
theorem turn_enum {P : Program} {w : World} {K : PySem.W.Frag} {elts : List Expr} {kk : Nat} {pos : Pos} {e it t : Addr} (hei : e ≠ it) (hte : t ≠ e) (hti : t ≠ it) : Turn P w K (.Tuple elts kk pos) (Ite K t) [e, it] e (fun i h => (∃ old, IsEnum h e it (i : Nat) old) ∧ h.IsTupleIter it t i) where
  mem := by simp
  obj := fun i h st b hb => by
    simp only [List.mem_cons, List.not_mem_nil, or_false] at hb
    rcases hb with rfl | rfl
    · obtain ⟨⟨_, e⟩, _⟩ := st; exact ⟨_, e, fun v z => by cases z⟩
    · obtain ⟨_, ⟨o, e, _, d⟩⟩ := st; exact ⟨o, e, fun v z => by rw [d] at z; cases z⟩
  keep := fun i h h' st k => ⟨let ⟨o, e'⟩ := st.1; ⟨o, k e (by simp) _ e'⟩, let ⟨o, e', p⟩ := st.2; ⟨o, k it (by simp) _ e', p⟩⟩
  item := by
    intro X hP hw hK hc i pins s σ H E I hf st hg
    subst hP hw hK
    obtain ⟨xs, x, hx, gx⟩ := hg
    obtain ⟨its, rx, tx, _⟩ := I.tuple hx
    obtain ⟨u, gu, ru⟩ := vals_get rx gx
    obtain ⟨⟨old, hz⟩, hi⟩ := st
    refine pyNext_enum_itemT hei hte hti hz hi tx (by simpa using gu) fun h' tk zo j np k => ?_
    refine ⟨_, rfl, ?_⟩
    refine wpAny_letOwnedTupleGo_enum zo fun h2 z2 b2 => ?_
    have le : e < s.heap.objs.size := Heap.lt_size hz
    have li : it < s.heap.objs.size := let ⟨_, e', _⟩ := hi; Heap.lt_size e'
    have lt : ∀ b ∈ [e, it], b < s.heap.objs.size := fun b hb => by
      simp only [List.mem_cons, List.not_mem_nil, or_false] at hb
      rcases hb with rfl | rfl
      · exact le
      · exact li
    have nz : s.heap.objs.size ≠ e := fun z => Nat.lt_irrefl _ (by have := le; rw [← z] at this; exact this)
    have kk' : ∀ b o, b ∉ [e, it] → s.heap.get? b = some o → h2.get? b = some o := fun b o hb e' => by
      have hz' : b ≠ e := fun q => hb (by simp [q])
      rw [b2.2 b hz']
      exact k b o hz' (fun q => hb (by simp [q])) e'
    have np2 : h2.get? s.heap.objs.size = some { cls := .type "tuple", data := .seq #[.int i s.toks, u] } := (b2.2 _ nz).trans np
    have hfr := I.hok.fresh (Nat.le_refl s.heap.objs.size)
    refine ⟨.ref s.heap.objs.size, upd H s.heap.objs.size (.tup [.int i, x]), I.turnLaid (t' := tk) hf kk' (Nat.le_refl _) ⟨by show 2 ≤ sizeLine; decide, [.int i s.toks, u], .cons ⟨_, rfl⟩ (.cons ru .nil), ⟨_, np2, rfl, _, rfl⟩⟩, rfl, ⟨_, x, rfl, hfr, rfl, fun xs' h' => by rw [I.tuple_inj h' hx]; exact gx⟩, ⟨⟨_, z2⟩, let ⟨o, e', p⟩ := j; ⟨o, (b2.2 _ (Ne.symm hei)).trans e', p⟩⟩, fun b hb => ?_⟩
    rw [upd_ne (Nat.ne_of_lt (lt b hb))]
    exact (hf b hb).1
  done := by
    intro X hP hw hK hc i pins s σ H E I hf st hg
    subst hP hw hK
    obtain ⟨xs, hx, hl⟩ := hg
    obtain ⟨its, rx, tx, _⟩ := I.tuple hx
    have el := rx.length
    obtain ⟨⟨old, hz⟩, hi⟩ := st
    refine pyNext_enum_endT (I.ok.hd hc) hz hi tx (by simp; omega) fun h' k => ⟨rfl, I.turnedN (t' := s.toks) hf fun b o hb e' => k b o (fun z => hb (by simp [z])) e'⟩
  self := fun A i s Q E st h => let ⟨_, e'⟩ := st.1; wpAny_pyIter_enum e' h
end L2
set_option Elab.async false
set_option linter.all false
set_option maxRecDepth 100000
namespace L2
open PySem PySem.Spec PyProof.Rows
section
variable {X : Cx} {pos : Pos}
end
end L2
set_option Elab.async false
set_option linter.all false
set_option maxRecDepth 100000
namespace My
open PySem PySem.Spec PyProof.Rows L2
def ahS (l : List V) (i : Nat) : Ent → List V
  | .word _ => l
  | .pair a b => (l.set a (.int i)).set b (.int i)
def ah : List Ent → Nat → List V → List V
  | [], _, l => l
  | e :: es, i, l => ah es (i + 1) (ahS l i e)
theorem ah_snoc : ∀ (es : List Ent) (e : Ent) (i : Nat) (l : List V), ah (es ++ [e]) i l = ahS (ah es i l) (i + es.length) e
  | [], e, i, l => rfl
  | x :: es, e, i, l => by
    show ah (es ++ [e]) (i + 1) (ahS l i x) = ahS (ah es (i + 1) (ahS l i x)) (i + (es.length + 1)) e
    rw [ah_snoc es e]
    congr 1
    omega
theorem ahS_len (l : List V) (i : Nat) (e : Ent) : (ahS l i e).length = l.length := by cases e with
  | word => rfl
  | pair => show ((l.set _ _).set _ _).length = _; rw [List.length_set, List.length_set]
theorem ah_len : ∀ (es : List Ent) (i : Nat) (l : List V), (ah es i l).length = l.length
  | [], _, _ => rfl
  | e :: es, i, l => by show (ah es (i + 1) (ahS l i e)).length = _; rw [ah_len es, ahS_len]
end My
set_option Elab.async false
set_option linter.all false
set_option maxRecDepth 100000
namespace L2
open PySem PySem.Spec PyProof.Rows
def rGetP (K : PySem.W.Frag) : V → V → Hp → VK → Prop := fun o i H Q => ∃ p xs k x, o = .ref p ∧ i = .int k ∧ SqL K H p xs ∧ 0 ≤ k ∧ k < 1000 ∧ xs[k.toNat]? = some x ∧ Q x H
theorem get_seqk {X : Cx} (K : PySem.W.Frag) (hK : X.K = K) : PGet X (rGetP K) := fun pins s σ H o i ov iv Q I ro ri h => by
  obtain ⟨p, xs, k, x, rfl, rfl, hp, k0, k1, hx, q⟩ := h
  subst hK
  cases ro
  obtain ⟨t, rfl⟩ := ri
  obtain ⟨its, r, pl, hz⟩ := I.list hp
  obtain ⟨u, gu, ru⟩ := vals_get r hx
  exact wpAny_getItem_list pl.isList k0 (by omega) (by simpa using gu) ⟨x, H, I, ru, q⟩
end L2
namespace My
open PySem PySem.Spec PyProof.Rows L2
def potOk (xs : List V) : Prop := ∃ g s c : Int, xs = [.int g, .int s, .int c] ∧ 0 ≤ g ∧ 0 ≤ s ∧ s < 2305843009213693951 ∧ 0 ≤ c
theorem word_of9 {x y : Str} {c : Nat} (a : Part x 1) (b : Part y 6) (h0 : 97 ≤ c) (h1 : c < 123) : Wd (x ++ ⟨#[c]⟩ ++ y) := by
  have q := (a.append (one_part h0 h1)).append b
  refine ⟨?_, q.1, q.2⟩
  rw [Str.length_append, Str.length_append]
  show 1 ≤ x.length + 1 + y.length
  omega
end My
set_option Elab.async false
set_option linter.all false
set_option maxRecDepth 100000
namespace L2
open PySem PySem.Spec PyProof.Rows
section
variable {X : Cx} {tg : Expr}
end
def Itel (K : PySem.W.Frag) (a : Addr) : It where
  go := fun i H => ∃ xs x, SqL K H a xs ∧ xs[i]? = some x
  yld := fun i H v H' => ∃ p x, v = .ref p ∧ H p = none ∧ H' = upd H p (.tup [.int i, x]) ∧ ∀ xs, SqL K H a xs → xs[i]? = some x
  stop := fun i H => ∃ xs, SqL K H a xs ∧ xs.length ≤ i
theorem turn_enumL {P : Program} {w : World} {K : PySem.W.Frag} {elts : List Expr} {kk : Nat} {pos : Pos} {e it t : Addr} (hei : e ≠ it) : Turn P w K (.Tuple elts kk pos) (Itel K t) [e, it] e (fun i h => (∃ old, IsEnum h e it (i : Nat) old) ∧ h.IsListIter it t i) where
  mem := by simp
  obj := fun i h st b hb => by
    simp only [List.mem_cons, List.not_mem_nil, or_false] at hb
    rcases hb with rfl | rfl
    · obtain ⟨⟨_, e⟩, _⟩ := st; exact ⟨_, e, fun v z => by cases z⟩
    · obtain ⟨_, ⟨o, e, _, d⟩⟩ := st; exact ⟨o, e, fun v z => by rw [d] at z; cases z⟩
  keep := fun i h h' st k => ⟨let ⟨o, e'⟩ := st.1; ⟨o, k e (by simp) _ e'⟩, let ⟨o, e', p⟩ := st.2; ⟨o, k it (by simp) _ e', p⟩⟩
  item := by
    intro X hP hw hK hc i pins s σ H E I hf st hg
    subst hP hw hK
    obtain ⟨xs, x, hx, gx⟩ := hg
    obtain ⟨its, rx, tx, _⟩ := I.list hx
    obtain ⟨u, gu, ru⟩ := vals_get rx gx
    obtain ⟨⟨old, hz⟩, hi⟩ := st
    refine wpAny_pyNext_enum_item hz hi tx.isList (by simpa using gu) hei fun h' zo j np _ k => ?_
    refine ⟨_, rfl, ?_⟩
    refine wpAny_letOwnedTupleGo_enum zo fun h2 z2 b2 => ?_
    have le : e < s.heap.objs.size := Heap.lt_size hz
    have li : it < s.heap.objs.size := let ⟨_, e', _⟩ := hi; Heap.lt_size e'
    have lt : ∀ b ∈ [e, it], b < s.heap.objs.size := fun b hb => by
      simp only [List.mem_cons, List.not_mem_nil, or_false] at hb
      rcases hb with rfl | rfl
      · exact le
      · exact li
    have nz : s.heap.objs.size ≠ e := fun z => Nat.lt_irrefl _ (by have := le; rw [← z] at this; exact this)
    have kk' : ∀ b o, b ∉ [e, it] → s.heap.get? b = some o → h2.get? b = some o := fun b o hb e' => by
      have hz' : b ≠ e := fun q => hb (by simp [q])
      rw [b2.2 b hz']
      exact k b o hz' (fun q => hb (by simp [q])) e'
    have np2 : h2.get? s.heap.objs.size = some { cls := .type "tuple", data := .seq #[.int i s.toks, u] } := (b2.2 _ nz).trans np
    have hfr := I.hok.fresh (Nat.le_refl s.heap.objs.size)
    refine ⟨.ref s.heap.objs.size, upd H s.heap.objs.size (.tup [.int i, x]), I.turnLaid (t' := s.toks + 1) hf kk' (Nat.le_refl _) ⟨by show 2 ≤ sizeLine; decide, [.int i s.toks, u], .cons ⟨_, rfl⟩ (.cons ru .nil), ⟨_, np2, rfl, _, rfl⟩⟩, rfl, ⟨_, x, rfl, hfr, rfl, fun xs' h' => by rw [I.list_inj h' hx]; exact gx⟩, ⟨⟨_, z2⟩, let ⟨o, e', p⟩ := j; ⟨o, (b2.2 _ (Ne.symm hei)).trans e', p⟩⟩, fun b hb => ?_⟩
    rw [upd_ne (Nat.ne_of_lt (lt b hb))]
    exact (hf b hb).1
  done := by
    intro X hP hw hK hc i pins s σ H E I hf st hg
    subst hP hw hK
    obtain ⟨xs, hx, hl⟩ := hg
    obtain ⟨its, rx, tx, _⟩ := I.list hx
    have el := rx.length
    obtain ⟨⟨old, hz⟩, hi⟩ := st
    refine wpAny_pyNext_enum_end (I.ok.hd hc) hz hi tx.isList (by simp; omega) fun h' k => ⟨rfl, I.turnedN (t' := s.toks) hf fun b o hb e' => k b o (fun z => hb (by simp [z])) e'⟩
  self := fun A i s Q E st h => let ⟨_, e'⟩ := st.1; wpAny_pyIter_enum e' h
end L2
set_option Elab.async false
set_option linter.all false
set_option maxRecDepth 100000
namespace My
open PySem PySem.Spec PyProof.Rows L2
def en : Tr → Nat → Nat → Ent
  | .leaf x, _, _ => .word x
  | .node l r, o, j => if j < l.size then en l o j else if j < l.size + r.size then en r (o + l.size) (j - l.size) else .pair (o + l.size - 1) (o + l.size + r.size - 1)
def up : Tr → Nat → Nat → List Nat → List Nat
  | .leaf _, o, _, ab => o :: ab
  | .node l r, o, j, ab => if j < l.size then up l o j ((o + l.size + r.size) :: ab) else if j < l.size + r.size then up r (o + l.size) (j - l.size) ((o + l.size + r.size) :: ab) else (o + l.size + r.size) :: ab
def ahd : Tr → Nat → Nat → V → V
  | .leaf _, _, _, p => p
  | .node l r, o, j, p => if j < l.size then ahd l o j (.int (o + l.size + r.size : Nat)) else if j < l.size + r.size then ahd r (o + l.size) (j - l.size) (.int (o + l.size + r.size : Nat)) else p
def be : Tr → Nat → Nat → List Nat
  | .leaf _, o, _ => [o]
  | .node l r, o, j => if j < l.size then be l o j else if j < l.size + r.size then be r (o + l.size) (j - l.size) else be l o (l.size - 1) ++ be r (o + l.size) (r.size - 1)
theorem nd_en : ∀ (t : Tr) (o j : Nat), j < t.size → (t.nd o)[j]? = some (en t o j)
  | .leaf x, o, j, h => by
    have : j = 0 := by have : j < 1 := h; omega
    subst this; rfl
  | .node l r, o, j, h => by
    have es : (Tr.node l r).size = l.size + r.size + 1 := rfl
    have hn : (Tr.node l r).nd o = l.nd o ++ r.nd (o + l.size) ++ [.pair (o + l.size - 1) (o + l.size + r.size - 1)] := rfl
    have ln := l.nd_len o
    have rn := r.nd_len (o + l.size)
    unfold en
    by_cases c1 : j < l.size
    · rw [if_pos c1, hn, List.append_assoc, List.getElem?_append_left (by omega)]; exact nd_en l o j c1
    · rw [if_neg c1]
      by_cases c2 : j < l.size + r.size
      · rw [if_pos c2, hn, List.append_assoc, List.getElem?_append_right (by omega), List.getElem?_append_left (by omega), ln]
        exact nd_en r _ _ (by omega)
      · rw [if_neg c2, hn, List.getElem?_append_right (by rw [List.length_append]; omega), List.length_append, ln, rn]
        have : j - (l.size + r.size) = 0 := by omega
        rw [this]; rfl
theorem be_en : ∀ (t : Tr) (o j : Nat), j < t.size → (∃ x, en t o j = .word x ∧ be t o j = [o + j]) ∨ ∃ a b, en t o j = .pair (o + a) (o + b) ∧ a < j ∧ b < j ∧ be t o j = be t o a ++ be t o b
  | .leaf x, o, j, h => by
    have : j = 0 := by have : j < 1 := h; omega
    subst this
    exact .inl ⟨x, rfl, rfl⟩
  | .node l r, o, j, h => by
    have es : (Tr.node l r).size = l.size + r.size + 1 := rfl
    have lp := l.size_pos
    have rp := r.size_pos
    by_cases c1 : j < l.size
    · have e1 : en (.node l r) o j = en l o j := by rw [en, if_pos c1]
      have e2 : ∀ k, k < l.size → be (.node l r) o k = be l o k := fun k hk => by rw [be, if_pos hk]
      rw [e1]
      rcases be_en l o j c1 with ⟨x, q1, q2⟩ | ⟨a, b, q1, q2, q3, q4⟩
      · exact .inl ⟨x, q1, by rw [e2 j c1]; exact q2⟩
      · exact .inr ⟨a, b, q1, q2, q3, by rw [e2 j c1, e2 a (by omega), e2 b (by omega)]; exact q4⟩
    · by_cases c2 : j < l.size + r.size
      · have e1 : en (.node l r) o j = en r (o + l.size) (j - l.size) := by rw [en, if_neg c1, if_pos c2]
        have e2 : ∀ k, k < r.size → be (.node l r) o (l.size + k) = be r (o + l.size) k := fun k hk => by
          rw [be, if_neg (by omega), if_pos (by omega)]; congr 1; omega
        have ej : j = l.size + (j - l.size) := by omega
        rw [e1]
        rcases be_en r (o + l.size) (j - l.size) (by omega) with ⟨x, q1, q2⟩ | ⟨a, b, q1, q2, q3, q4⟩
        · refine .inl ⟨x, q1, ?_⟩
          rw [ej, e2 _ (by omega), q2]
          congr 1; omega
        · refine .inr ⟨l.size + a, l.size + b, ?_, by omega, by omega, ?_⟩
          · rw [q1, Nat.add_assoc, Nat.add_assoc]
          · rw [e2 a (by omega), e2 b (by omega), ej, e2 _ (by omega), q4]
      · have ej : j = l.size + r.size := by omega
        refine .inr ⟨l.size - 1, l.size + r.size - 1, ?_, by omega, by omega, ?_⟩
        · rw [en, if_neg c1, if_neg c2]
          congr 1 <;> omega
        · rw [be, if_neg c1, if_neg c2, be, if_pos (by omega), be, if_neg (by omega), if_pos (by omega)]
          congr 2; omega
theorem up_ahd : ∀ (t : Tr) (o j : Nat) (p : V) (ab : List Nat), j < t.size → (j = t.size - 1 ∧ ahd t o j p = p ∧ up t o j ab = (o + j) :: ab) ∨ ∃ a, j < a ∧ a < t.size ∧ ahd t o j p = .int (o + a : Nat) ∧ up t o j ab = (o + j) :: up t o a ab
  | .leaf x, o, j, p, ab, h => by
    have : j = 0 := by have : j < 1 := h; omega
    subst this
    exact .inl ⟨rfl, rfl, rfl⟩
  | .node l r, o, j, p, ab, h => by
    have es : (Tr.node l r).size = l.size + r.size + 1 := rfl
    have lp := l.size_pos
    have rp := r.size_pos
    have er : up (.node l r) o (l.size + r.size) ab = (o + l.size + r.size) :: ab := by rw [up, if_neg (by omega), if_neg (by omega)]
    by_cases c1 : j < l.size
    · have e1 : ahd (.node l r) o j p = ahd l o j (.int (o + l.size + r.size : Nat)) := by rw [ahd, if_pos c1]
      have e2 : ∀ k, k < l.size → up (.node l r) o k ab = up l o k ((o + l.size + r.size) :: ab) := fun k hk => by rw [up, if_pos hk]
      rw [e1, e2 j c1]
      rcases up_ahd l o j (.int (o + l.size + r.size : Nat)) ((o + l.size + r.size) :: ab) c1 with ⟨q1, q2, q3⟩ | ⟨a, q1, q2, q3, q4⟩
      · refine .inr ⟨l.size + r.size, by omega, by omega, by rw [q2, Nat.add_assoc], by rw [q3, er]⟩
      · exact .inr ⟨a, q1, by omega, q3, by rw [q4, e2 a q2]⟩
    · by_cases c2 : j < l.size + r.size
      · have e1 : ahd (.node l r) o j p = ahd r (o + l.size) (j - l.size) (.int (o + l.size + r.size : Nat)) := by rw [ahd, if_neg c1, if_pos c2]
        have e2 : ∀ k, k < r.size → up (.node l r) o (l.size + k) ab = up r (o + l.size) k ((o + l.size + r.size) :: ab) := fun k hk => by
          rw [up, if_neg (by omega), if_pos (by omega)]; congr 1; omega
        obtain ⟨i, rfl⟩ : ∃ i, j = l.size + i := ⟨j - l.size, by omega⟩
        have ei : l.size + i - l.size = i := by omega
        rw [e1, e2 i (by omega), ei]
        rcases up_ahd r (o + l.size) i (.int (o + l.size + r.size : Nat)) ((o + l.size + r.size) :: ab) (by omega) with ⟨q1, q2, q3⟩ | ⟨a, q1, q2, q3, q4⟩
        · refine .inr ⟨l.size + r.size, by omega, by omega, by rw [q2, Nat.add_assoc], by rw [q3, er, Nat.add_assoc]⟩
        · exact .inr ⟨l.size + a, by omega, by omega, by rw [q3, Nat.add_assoc], by rw [q4, e2 a q2, Nat.add_assoc]⟩
      · have ej : j = l.size + r.size := by omega
        refine .inl ⟨by omega, by rw [ahd, if_neg c1, if_neg c2], ?_⟩
        rw [ej, er, Nat.add_assoc]
def ahs : Tr → Nat → V → List V
  | .leaf _, _, p => [p]
  | .node l r, o, p => ahs l o (.int (o + l.size + r.size : Nat)) ++ ahs r (o + l.size) (.int (o + l.size + r.size : Nat)) ++ [p]
theorem ahs_len : ∀ (t : Tr) (o : Nat) (p : V), (ahs t o p).length = t.size
  | .leaf _, _, _ => rfl
  | .node l r, o, p => by
    unfold ahs
    rw [List.length_append, List.length_append, ahs_len l, ahs_len r]; rfl
theorem ahs_set (t : Tr) (o : Nat) (p q : V) (A B : List V) : (A ++ ahs t o p ++ B).set (A.length + t.size - 1) q = A ++ ahs t o q ++ B := by
  have key : ∃ I, ahs t o p = I ++ [p] ∧ ahs t o q = I ++ [q] := by
    cases t with
    | leaf _ => exact ⟨[], rfl, rfl⟩
    | node l r => exact ⟨_, rfl, rfl⟩
  obtain ⟨I, e1, e2⟩ := key
  have h1 := ahs_len t o p
  rw [e1, List.length_append] at h1
  have h1' : I.length + 1 = t.size := h1
  rw [e1, e2]
  have ei : A.length + t.size - 1 = (A ++ I).length := by rw [List.length_append]; omega
  rw [ei, show A ++ (I ++ [p]) ++ B = (A ++ I) ++ p :: B by simp, List.set_append_right _ _ (Nat.le_refl _), Nat.sub_self]
  simp
theorem ah_app : ∀ (es fs : List Ent) (i : Nat) (l : List V), ah (es ++ fs) i l = ah fs (i + es.length) (ah es i l)
  | [], fs, i, l => rfl
  | e :: es, fs, i, l => by
    show ah (es ++ fs) (i + 1) (ahS l i e) = ah fs (i + (es.length + 1)) (ah es (i + 1) (ahS l i e))
    rw [ah_app es fs]
    congr 1
    omega
theorem ah_ahs : ∀ (t : Tr) (A B : List V), ah (t.nd A.length) A.length (A ++ List.replicate t.size .non ++ B) = A ++ ahs t A.length .non ++ B
  | .leaf x, A, B => rfl
  | .node l r, A, B => by
    have es : (Tr.node l r).size = l.size + r.size + 1 := rfl
    have lp := l.size_pos
    have rp := r.size_pos
    have hn : (Tr.node l r).nd A.length = l.nd A.length ++ r.nd (A.length + l.size) ++ [.pair (A.length + l.size - 1) (A.length + l.size + r.size - 1)] := rfl
    have ln := l.nd_len A.length
    have rn := r.nd_len (A.length + l.size)
    have h1 := ah_ahs l A (List.replicate r.size .non ++ ([V.non] ++ B))
    have e0 : A ++ List.replicate (Tr.node l r).size V.non ++ B = A ++ List.replicate l.size .non ++ (List.replicate r.size .non ++ ([V.non] ++ B)) := by
      rw [es, ← List.replicate_append_replicate, ← List.replicate_append_replicate]
      simp only [List.append_assoc]
      rfl
    rw [hn, ah_snoc, ah_app, e0, h1, ln]
    have la : (A ++ ahs l A.length V.non).length = A.length + l.size := by rw [List.length_append, ahs_len]
    have h2 := ah_ahs r (A ++ ahs l A.length V.non) ([V.non] ++ B)
    rw [la] at h2
    have e1 : A ++ ahs l A.length V.non ++ (List.replicate r.size V.non ++ ([V.non] ++ B)) = A ++ ahs l A.length V.non ++ List.replicate r.size V.non ++ ([V.non] ++ B) := by simp [List.append_assoc]
    rw [e1, h2, List.length_append, ln, rn]
    show ((_ : List V).set (A.length + l.size - 1) _).set (A.length + l.size + r.size - 1) _ = _
    have s1 := ahs_set l A.length .non (.int (A.length + (l.size + r.size) : Nat)) A (ahs r (A.length + l.size) V.non ++ ([V.non] ++ B))
    have e2 : A ++ ahs l A.length V.non ++ ahs r (A.length + l.size) V.non ++ ([V.non] ++ B) = A ++ ahs l A.length V.non ++ (ahs r (A.length + l.size) V.non ++ ([V.non] ++ B)) := by simp [List.append_assoc]
    rw [e2, s1]
    have lb : (A ++ ahs l A.length (V.int (A.length + (l.size + r.size) : Nat))).length = A.length + l.size := by rw [List.length_append, ahs_len]
    have s2 := ahs_set r (A.length + l.size) .non (.int (A.length + (l.size + r.size) : Nat)) (A ++ ahs l A.length (V.int (A.length + (l.size + r.size) : Nat))) ([V.non] ++ B)
    rw [lb] at s2
    have e3 : A ++ ahs l A.length (V.int (A.length + (l.size + r.size) : Nat)) ++ (ahs r (A.length + l.size) V.non ++ ([V.non] ++ B)) = A ++ ahs l A.length (V.int (A.length + (l.size + r.size) : Nat)) ++ ahs r (A.length + l.size) V.non ++ ([V.non] ++ B) := by simp [List.append_assoc]
    rw [e3, s2]
    have e4 : ahs (.node l r) A.length .non = ahs l A.length (.int (A.length + l.size + r.size : Nat)) ++ ahs r (A.length + l.size) (.int (A.length + l.size + r.size : Nat)) ++ [.non] := rfl
    rw [e4, Nat.add_assoc A.length l.size r.size]
    simp [List.append_assoc]
theorem ahs_get : ∀ (t : Tr) (o j : Nat) (p : V), j < t.size → (ahs t o p)[j]? = some (ahd t o j p)
  | .leaf x, o, j, p, h => by
    have : j = 0 := by have : j < 1 := h; omega
    subst this; rfl
  | .node l r, o, j, p, h => by
    have es : (Tr.node l r).size = l.size + r.size + 1 := rfl
    have ln := ahs_len l o (.int (o + l.size + r.size : Nat))
    have rn := ahs_len r (o + l.size) (.int (o + l.size + r.size : Nat))
    unfold ahs ahd
    by_cases c1 : j < l.size
    · rw [if_pos c1, List.append_assoc, List.getElem?_append_left (by omega)]; exact ahs_get l _ _ _ c1
    · rw [if_neg c1]
      by_cases c2 : j < l.size + r.size
      · rw [if_pos c2, List.append_assoc, List.getElem?_append_right (by omega), List.getElem?_append_left (by omega), ln]
        exact ahs_get r _ _ _ (by omega)
      · rw [if_neg c2, List.getElem?_append_right (by rw [List.length_append]; omega), List.length_append, ln, rn]
        have : j - (l.size + r.size) = 0 := by omega
        rw [this]; rfl
theorem ah_get (t : Tr) {j : Nat} (h : j < t.size) : (ah (t.nd 0) 0 (List.replicate t.size .non))[j]? = some (ahd t 0 j .non) := by
  have q := ah_ahs t [] []
  have e : ([] : List V) ++ List.replicate t.size .non ++ [] = List.replicate t.size .non := by simp
  have e2 : ([] : List V) ++ ahs t ([] : List V).length .non ++ [] = ahs t 0 .non := by simp
  rw [e, e2] at q
  have q' : ah (t.nd 0) 0 (List.replicate t.size .non) = ahs t 0 .non := q
  rw [q']
  exact ahs_get t 0 j .non h
end My
set_option Elab.async false
set_option linter.all false
set_option maxRecDepth 100000
namespace PL
open PySem PySem.Spec PyProof.Rows L2
variable {K : PySem.W.Frag}
def FzL (K : PySem.W.Frag) (H : Hp) (a : Addr) (xs : List V) : Prop := (∃ o, H a = some (.frz o (.lst xs))) ∨
    ∃ (o : Obj) (its : Array Value) (n : Nat), K.lookup a = some o ∧ o.cls = .type "list" ∧ o.dict = none ∧ o.data = .seq its n ∧ its.size ≤ sizeLine ∧ Vals xs its.toList
theorem FzL.sq {H : Hp} {a : Addr} {xs : List V} (h : FzL K H a xs) : SqL K H a xs := h.elim (fun h => .inl (.inr h)) .inr
structure TupsK (K : PySem.W.Frag) (H H' : Hp) : Prop where
  t : ∀ p vs, H p = some (.tup vs) → H' p = some (.tup vs)
  f : ∀ p vs, FzL K H p vs → FzL K H' p vs
theorem TupsK.refl (H : Hp) : TupsK K H H := ⟨fun _ _ h => h, fun _ _ h => h⟩
theorem _root_.L2.Same.tupsK {H H' : Hp} (s : Same H H') : TupsK K H H' := ⟨fun p vs h => s _ _ h, fun p vs h => h.elim (fun ⟨o, h⟩ => .inl ⟨o, s _ _ h⟩) .inr⟩
inductive PV where
  | non | bl (b : Bool) | int (i : Int) | str (x : Str) | tup (l : List PV) | ref (n : Nat) | ty (n : String) | cl (l : List PV)
inductive PO where
  | lst (xs : List PV) | dk (kvs : List (Key × PV)) | dt (kvs : List (List Key × PV)) | dtz (o : Obj) (kvs : List (List Key × PV)) | opq (φ : List V → Prop)
abbrev PH := List PO
abbrev PSt := List (Option PV)
mutual
inductive VR (K : PySem.W.Frag) (ι : List Addr) (H : Hp) : V → PV → Prop
  | non : VR K ι H .non .non
  | bl (b : Bool) : VR K ι H (.bl b) (.bl b)
  | int (i : Int) : VR K ι H (.int i) (.int i)
  | str (x : Str) : VR K ι H (.str x) (.str x)
  | ty (n : String) : VR K ι H (.ty n) (.ty n)
  | tup {p : Addr} {vs : List V} {l : List PV} (h : H p = some (.tup vs)) (r : VRs K ι H vs l) : VR K ι H (.ref p) (.tup l)
  | ref {n : Nat} {a : Addr} (h : ι[n]? = some a) : VR K ι H (.ref a) (.ref n)
  | cl {a : Addr} {vs : List V} {l : List PV} (h : FzL K H a vs) (r : VRs K ι H vs l) : VR K ι H (.ref a) (.cl l)
inductive VRs (K : PySem.W.Frag) (ι : List Addr) (H : Hp) : List V → List PV → Prop
  | nil : VRs K ι H [] []
  | cons {v : V} {p : PV} {vs : List V} {ps : List PV} (r : VR K ι H v p) (t : VRs K ι H vs ps) : VRs K ι H (v :: vs) (p :: ps)
end
section
variable {ι ι' : List Addr} {H H' : Hp}
mutual
theorem VR.mono (ht : TupsK K H H') (hi : ∀ (n : Nat) (a : Addr), ι[n]? = some a → ι'[n]? = some a) : ∀ {v : V} {p : PV}, VR K ι H v p → VR K ι' H' v p
  | _, _, .non => .non
  | _, _, .bl b => .bl b
  | _, _, .int i => .int i
  | _, _, .str x => .str x
  | _, _, .ty n => .ty n
  | _, _, .tup h r => .tup (ht.t _ _ h) (VRs.mono ht hi r)
  | _, _, .cl h r => .cl (ht.f _ _ h) (VRs.mono ht hi r)
  | _, _, .ref h => .ref (hi _ _ h)
theorem VRs.mono (ht : TupsK K H H') (hi : ∀ (n : Nat) (a : Addr), ι[n]? = some a → ι'[n]? = some a) : ∀ {vs : List V} {ps : List PV}, VRs K ι H vs ps → VRs K ι' H' vs ps
  | _, _, .nil => .nil
  | _, _, .cons r t => .cons (VR.mono ht hi r) (VRs.mono ht hi t)
end
theorem VRs.length : ∀ {vs : List V} {ps : List PV}, VRs K ι H vs ps → vs.length = ps.length
  | _, _, .nil => rfl
  | _, _, .cons _ t => by rw [List.length_cons, List.length_cons, VRs.length t]
theorem VRs.get : ∀ {vs : List V} {ps : List PV} {i : Nat} {p : PV}, VRs K ι H vs ps → ps[i]? = some p → ∃ v, vs[i]? = some v ∧ VR K ι H v p
  | _, _, _, _, .nil, e => by simp at e
  | _, _, 0, _, .cons r _, e => by simp at e; subst e; exact ⟨_, rfl, r⟩
  | _, _, i + 1, p, .cons _ t, e => by
    obtain ⟨v, h1, h2⟩ := VRs.get (i := i) (p := p) t (by simpa using e)
    exact ⟨v, by simpa using h1, h2⟩
theorem VRs.set {v : V} {p : PV} (r : VR K ι H v p) : ∀ {vs : List V} {ps : List PV} (i : Nat), VRs K ι H vs ps → VRs K ι H (vs.set i v) (ps.set i p)
  | _, _, _, .nil => .nil
  | _, _, 0, .cons _ t => .cons r t
  | _, _, i + 1, .cons q t => .cons q (VRs.set r i t)
theorem VRs.append : ∀ {xs ys : List V} {us ws : List PV}, VRs K ι H xs us → VRs K ι H ys ws → VRs K ι H (xs ++ ys) (us ++ ws)
  | _, _, _, _, .nil, s => s
  | _, _, _, _, .cons r t, s => .cons r (VRs.append t s)
theorem VRs.take : ∀ {xs : List V} {us : List PV} (n : Nat), VRs K ι H xs us → VRs K ι H (xs.take n) (us.take n)
  | _, _, 0, _ => .nil
  | _, _, _ + 1, .nil => .nil
  | _, _, n + 1, .cons r t => .cons r (VRs.take n t)
theorem VRs.drop : ∀ {xs : List V} {us : List PV} (n : Nat), VRs K ι H xs us → VRs K ι H (xs.drop n) (us.drop n)
  | _, _, 0, r => r
  | _, _, _ + 1, .nil => .nil
  | _, _, n + 1, .cons _ t => VRs.drop n t
theorem VRs.reverse : ∀ {xs : List V} {us : List PV}, VRs K ι H xs us → VRs K ι H xs.reverse us.reverse
  | _, _, .nil => .nil
  | _, _, .cons r t => by rw [List.reverse_cons, List.reverse_cons]; exact (VRs.reverse t).append (.cons r .nil)
end
structure Go (ι ι' : List Addr) (H H' : Hp) : Prop where
  ext : ∃ m, ι' = ι ++ m
  new : ∀ a, a ∈ ι' → a ∉ ι → H a = none
  keep : ∀ a o, a ∉ ι → H a = some o → H' a = some o
theorem Go.refl (ι : List Addr) (H : Hp) : Go ι ι H H := ⟨⟨[], by simp⟩, fun a h n => absurd h n, fun _ _ _ h => h⟩
theorem Go.trans {ι ι1 ι2 : List Addr} {H H1 H2 : Hp} (a : Go ι ι1 H H1) (b : Go ι1 ι2 H1 H2) : Go ι ι2 H H2 := by
  obtain ⟨m1, e1⟩ := a.ext
  obtain ⟨m2, e2⟩ := b.ext
  refine ⟨⟨m1 ++ m2, by rw [e2, e1, List.append_assoc]⟩, fun c h n => ?_, fun c o n h => ?_⟩
  · by_cases h1 : c ∈ ι1
    · exact a.new c h1 n
    · have q := b.new c h h1
      cases z : H c with
      | none => rfl
      | some o => rw [a.keep c o n z] at q; cases q
  · refine b.keep c o (fun h1 => ?_) (a.keep c o n h)
    rw [a.new c h1 n] at h; cases h
theorem Go.at {ι ι' : List Addr} {H H' : Hp} (g : Go ι ι' H H') {n : Nat} {a : Addr} (h : ι[n]? = some a) : ι'[n]? = some a := by
  obtain ⟨m, rfl⟩ := g.ext
  rw [List.getElem?_append_left (List.getElem?_eq_some_iff.mp h).1]; exact h
theorem Go.same {ι : List Addr} {H H' : Hp} (s : Same H H') : Go ι ι H H' := ⟨⟨[], by simp⟩, fun a h n => absurd h n, fun a o _ h => s a o h⟩
def OR (K : PySem.W.Frag) (ι : List Addr) (H : Hp) (a : Addr) : PO → Prop
  | .lst xs => ∃ vs, H a = some (.lst vs) ∧ VRs K ι H vs xs
  | .dk kvs => ∃ vs : List (Key × V), H a = some (.dK vs) ∧ vs.map (·.1) = kvs.map (·.1) ∧ VRs K ι H (vs.map (·.2)) (kvs.map (·.2))
  | .dt kvs => ∃ vs : List (List Key × V), H a = some (.dT vs) ∧ vs.map (·.1) = kvs.map (·.1) ∧ VRs K ι H (vs.map (·.2)) (kvs.map (·.2))
  | .dtz o kvs => ∃ vs : List (List Key × V), H a = some (.frz o (.dT vs)) ∧ vs.map (·.1) = kvs.map (·.1) ∧ VRs K ι H (vs.map (·.2)) (kvs.map (·.2))
  | .opq φ => ∃ vs, H a = some (.lst vs) ∧ φ vs
structure HR (K : PySem.W.Frag) (ι : List Addr) (H : Hp) (h : PH) : Prop where
  nd : ι.Nodup
  len : ι.length = h.length
  obj : ∀ (n : Nat) (a : Addr) (o : PO), ι[n]? = some a → h[n]? = some o → OR K ι H a o
theorem HR.hv {ι : List Addr} {H : Hp} {h : PH} (r : HR K ι H h) {a : Addr} (ha : a ∈ ι) : H a ≠ none := by
  obtain ⟨n, hn⟩ := List.getElem?_of_mem ha
  have hl : n < h.length := by rw [← r.len]; exact (List.getElem?_eq_some_iff.mp hn).1
  have q := r.obj n a _ hn (List.getElem?_eq_getElem hl)
  intro z
  revert q
  cases h[n] with
  | lst xs => rintro ⟨ws, e, _⟩; rw [z] at e; cases e
  | dk xs => rintro ⟨ws, e, _⟩; rw [z] at e; cases e
  | dt xs => rintro ⟨ws, e, _⟩; rw [z] at e; cases e
  | dtz o xs => rintro ⟨ws, e, _⟩; rw [z] at e; cases e
  | opq φ => rintro ⟨ws, e, _⟩; rw [z] at e; cases e
theorem HR.nofz {ι : List Addr} {H : Hp} {h : PH} (r : HR K ι H h) {a : Addr} (ha : a ∈ ι) (o : Obj) (u : List V) : H a ≠ some (.frz o (.lst u)) := by
  obtain ⟨n, hn⟩ := List.getElem?_of_mem ha
  have hl : n < h.length := by rw [← r.len]; exact (List.getElem?_eq_some_iff.mp hn).1
  have q := r.obj n a _ hn (List.getElem?_eq_getElem hl)
  intro z
  revert q
  cases h[n] with
  | lst xs => rintro ⟨ws, e, _⟩; rw [z] at e; cases e
  | dk xs => rintro ⟨ws, e, _⟩; rw [z] at e; cases e
  | dt xs => rintro ⟨ws, e, _⟩; rw [z] at e; cases e
  | dtz o xs => rintro ⟨ws, e, _⟩; rw [z] at e; cases e
  | opq φ => rintro ⟨ws, e, _⟩; rw [z] at e; cases e
theorem HR.notup {ι : List Addr} {H : Hp} {h : PH} (r : HR K ι H h) {a : Addr} (ha : a ∈ ι) (vs : List V) : ¬ Rd H a (.tup vs) := by
  obtain ⟨n, hn⟩ := List.getElem?_of_mem ha
  have hl : n < h.length := by rw [← r.len]; exact (List.getElem?_eq_some_iff.mp hn).1
  have q := r.obj n a _ hn (List.getElem?_eq_getElem hl)
  rintro (z | ⟨_, z⟩) <;> revert q
  all_goals (cases h[n] with
    | lst xs => rintro ⟨ws, e, _⟩; rw [z] at e; cases e
    | dk xs => rintro ⟨ws, e, _⟩; rw [z] at e; cases e
    | dt xs => rintro ⟨ws, e, _⟩; rw [z] at e; cases e
    | dtz o xs => rintro ⟨ws, e, _⟩; rw [z] at e; cases e
    | opq φ => rintro ⟨ws, e, _⟩; rw [z] at e; cases e)
theorem Go.tups {ι ι' : List Addr} {H H' : Hp} {h : PH} (g : Go ι ι' H H') (r : HR K ι H h) : TupsK K H H' := ⟨fun a vs e => g.keep a _ (fun z => r.notup z vs (.inl e)) e, fun a vs e => e.elim (fun ⟨o, e⟩ => .inl ⟨o, g.keep a _ (fun z => r.nofz z o _ e) e⟩) .inr⟩
theorem Go.vr {ι ι' : List Addr} {H H' : Hp} {h : PH} (g : Go ι ι' H H') (r : HR K ι H h) {v : V} {p : PV} (x : VR K ι H v p) : VR K ι' H' v p := x.mono (g.tups r) fun _ _ e => g.at e
theorem Go.vrs {ι ι' : List Addr} {H H' : Hp} {h : PH} (g : Go ι ι' H H') (r : HR K ι H h) {v : List V} {p : List PV} (x : VRs K ι H v p) : VRs K ι' H' v p := x.mono (g.tups r) fun _ _ e => g.at e
theorem OR.mono {ι ι' : List Addr} {H H' : Hp} (ht : TupsK K H H') (hi : ∀ (n : Nat) (a : Addr), ι[n]? = some a → ι'[n]? = some a) {a : Addr} (hk : H' a = H a) : ∀ {o : PO}, OR K ι H a o → OR K ι' H' a o
  | .lst _, ⟨vs, e, r⟩ => ⟨vs, hk.trans e, r.mono ht hi⟩
  | .dk _, ⟨vs, e, k, r⟩ => ⟨vs, hk.trans e, k, r.mono ht hi⟩
  | .dt _, ⟨vs, e, k, r⟩ => ⟨vs, hk.trans e, k, r.mono ht hi⟩
  | .dtz _ _, ⟨vs, e, k, r⟩ => ⟨vs, hk.trans e, k, r.mono ht hi⟩
  | .opq _, ⟨vs, e, k⟩ => ⟨vs, hk.trans e, k⟩
theorem HR.same {ι : List Addr} {H H' : Hp} {h : PH} (r : HR K ι H h) (s : Same H H') : HR K ι H' h := ⟨r.nd, r.len, fun n a o e1 e2 => by
  refine (r.obj n a o e1 e2).mono s.tupsK (fun _ _ e => e) ?_
  cases z : H a with
  | none => exact absurd z (r.hv (List.mem_of_getElem? e1))
  | some u => exact s a u z⟩
theorem getElem?_snoc {α : Type} {l : List α} {x y : α} {n : Nat} (h : (l ++ [x])[n]? = some y) : l[n]? = some y ∨ (n = l.length ∧ y = x) := by
  by_cases hn : n < l.length
  · rw [List.getElem?_append_left hn] at h; exact .inl h
  · rw [List.getElem?_append_right (by omega)] at h
    obtain ⟨k, hk⟩ : ∃ k, k = n - l.length := ⟨_, rfl⟩
    rw [← hk] at h
    cases k with
    | zero => simp at h; exact .inr ⟨by omega, h.symm⟩
    | succ k => simp at h
theorem HR.new {ι : List Addr} {H H' : Hp} {h : PH} {p : Addr} {o : PO} (r : HR K ι H h) (s : Same H H') (hp : H p = none) (ho : OR K ι H' p o) : HR K (ι ++ [p]) H' (h ++ [o]) ∧ Go ι (ι ++ [p]) H H' ∧ VR K (ι ++ [p]) H' (.ref p) (.ref h.length) := by
  have hm : ∀ (n : Nat) (a : Addr), ι[n]? = some a → (ι ++ [p])[n]? = some a := fun n a e => by rw [List.getElem?_append_left (List.getElem?_eq_some_iff.mp e).1]; exact e
  have hnew : p ∉ ι := fun z => r.hv z hp
  refine ⟨⟨?_, by simp [r.len], fun n a u e1 e2 => ?_⟩, ⟨⟨[p], rfl⟩, fun a h1 h2 => ?_, fun a u _ e => s a u e⟩, .ref (by rw [← r.len, List.getElem?_append_right (Nat.le_refl _)]; simp)⟩
  · exact List.nodup_append.mpr ⟨r.nd, by simp, fun a ha b hb => by simp at hb; subst hb; intro z; subst z; exact hnew ha⟩
  · rcases getElem?_snoc e1 with e1 | ⟨n1, rfl⟩
    · rcases getElem?_snoc e2 with e2 | ⟨n2, rfl⟩
      · exact ((r.same s).obj n a u e1 e2).mono (TupsK.refl _) hm rfl
      · have := (List.getElem?_eq_some_iff.mp e1).1; rw [r.len] at this; omega
    · rcases getElem?_snoc e2 with e2 | ⟨n2, rfl⟩
      · have := (List.getElem?_eq_some_iff.mp e2).1; rw [← r.len] at this; omega
      · exact ho.mono (TupsK.refl _) hm rfl
  · rcases List.mem_append.mp h1 with z | z
    · exact absurd z h2
    · simp at z; subst z; exact hp
theorem HR.put {ι : List Addr} {H H' : Hp} {h : PH} {n : Nat} {a : Addr} {o : PO} (r : HR K ι H h) (hn : ι[n]? = some a) (s : SameX a H H') (ho : TupsK K H H' → OR K ι H' a o) : HR K ι H' (h.set n o) ∧ Go ι ι H H' ∧ TupsK K H H' := by
  have ha : a ∈ ι := List.mem_of_getElem? hn
  have ht : TupsK K H H' := ⟨fun b vs e => s b _ (fun z => by subst z; exact r.notup ha vs (.inl e)) e, fun b vs e => e.elim (fun ⟨o, e⟩ => .inl ⟨o, s b _ (fun z => by subst z; exact r.nofz ha o _ e) e⟩) .inr⟩
  refine ⟨⟨r.nd, by rw [List.length_set]; exact r.len, fun m b u e1 e2 => ?_⟩, ⟨⟨[], by simp⟩, fun b h1 h2 => absurd h1 h2, fun b u h1 e => s b u (fun z => h1 (z ▸ ha)) e⟩, ht⟩
  by_cases hm : n = m
  · subst hm
    rw [hn] at e1
    cases e1
    have hl : n < h.length := by rw [← r.len]; exact (List.getElem?_eq_some_iff.mp hn).1
    rw [List.getElem?_set_self hl] at e2
    cases e2
    exact ho ht
  · rw [List.getElem?_set_ne hm] at e2
    refine (r.obj m b u e1 e2).mono ht (fun _ _ e => e) ?_
    have hb : b ≠ a := fun z => by
      subst z
      have h1 := List.getElem?_eq_some_iff.mp hn
      have h2 := List.getElem?_eq_some_iff.mp e1
      exact hm ((List.getElem_inj r.nd).mp (h1.2.trans h2.2.symm))
    cases z : H b with
    | none => exact absurd z (r.hv (List.mem_of_getElem? e1))
    | some w => exact s b w hb z
def SR (K : PySem.W.Frag) (ι : List Addr) (H : Hp) (σ : L2.St) (ps : PSt) : Prop := σ.length = ps.length ∧ ∀ (i : Nat) (p : PV), ps[i]? = some (some p) → ∃ v, σ[i]? = some (some v) ∧ VR K ι H v p
theorem SR.go {ι ι' : List Addr} {H H' : Hp} {h : PH} {σ : L2.St} {ps : PSt} (s : SR K ι H σ ps) (r : HR K ι H h) (g : Go ι ι' H H') : SR K ι' H' σ ps := ⟨s.1, fun i p e => let ⟨v, e1, e2⟩ := s.2 i p e; ⟨v, e1, g.vr r e2⟩⟩
theorem SR.set {ι : List Addr} {H : Hp} {σ : L2.St} {ps : PSt} {v : V} {p : PV} (s : SR K ι H σ ps) (r : VR K ι H v p) (i : Nat) : SR K ι H (σ.set i (some v)) (ps.set i (some p)) := by
  refine ⟨by rw [List.length_set, List.length_set]; exact s.1, fun j q e => ?_⟩
  by_cases h : i = j
  · subst h
    by_cases hl : i < ps.length
    · rw [List.getElem?_set_self hl] at e
      cases e
      exact ⟨v, by rw [List.getElem?_set_self (by rw [s.1]; exact hl)], r⟩
    · rw [List.getElem?_eq_none (by rw [List.length_set]; omega)] at e; cases e
  · rw [List.getElem?_set_ne h] at e
    obtain ⟨w, e1, e2⟩ := s.2 j q e
    exact ⟨w, by rw [List.getElem?_set_ne h]; exact e1, e2⟩
end PL
set_option Elab.async false
set_option linter.all false
set_option maxRecDepth 100000
namespace PL
open PySem PySem.Spec PyProof.Rows L2
variable {K : PySem.W.Frag}
abbrev QV := PV → PH → Prop
structure ME where
  run : PSt → PH → QV → Prop
  mono : ∀ {ps h} {Q Q' : QV}, (∀ v h', Q v h' → Q' v h') → run ps h Q → run ps h Q'
structure MT where
  run : PSt → PH → (Bool → PH → Prop) → Prop
  mono : ∀ {ps h} {Q Q' : Bool → PH → Prop}, (∀ v h', Q v h' → Q' v h') → run ps h Q → run ps h Q'
structure MA where
  run : PSt → PH → (List PV → PH → Prop) → Prop
  mono : ∀ {ps h} {Q Q' : List PV → PH → Prop}, (∀ v h', Q v h' → Q' v h') → run ps h Q → run ps h Q'
structure ML where
  run : PSt → PH → (List PV → PH → Prop) → Prop
  mono : ∀ {ps h} {Q Q' : List PV → PH → Prop}, (∀ v h', Q v h' → Q' v h') → run ps h Q → run ps h Q'
structure Src where
  items : List PV
  ok : PH → Prop
  fz : Bool
structure MI where
  run : PSt → PH → (Src → PH → Prop) → Prop
  mono : ∀ {ps h} {Q Q' : Src → PH → Prop}, (∀ v h', Q v h' → Q' v h') → run ps h Q → run ps h Q'
structure PD where
  nx : PSt → PH → Prop
  rt : QV
  bk : PSt → PH → Prop
  ct : PSt → PH → Prop
structure PD.Le (D D' : PD) : Prop where
  nx : ∀ ps h, D.nx ps h → D'.nx ps h
  rt : ∀ v h, D.rt v h → D'.rt v h
  bk : ∀ ps h, D.bk ps h → D'.bk ps h
  ct : ∀ ps h, D.ct ps h → D'.ct ps h
structure MS where
  run : PD → PSt → PH → Prop
  mono : ∀ {D D' ps h}, PD.Le D D' → run D ps h → run D' ps h
structure MG where
  run : PV → PSt → PH → (PSt → PH → Prop) → Prop
  mono : ∀ {v ps h} {Q Q' : PSt → PH → Prop}, (∀ ps h, Q ps h → Q' ps h) → run v ps h Q → run v ps h Q'
def pQ (K : PySem.W.Frag) (ι : List Addr) (H : Hp) (Q : VK) : QV := fun p h' => ∀ ι' v H', Go ι ι' H H' → HR K ι' H' h' → VR K ι' H' v p → Q v H'
theorem pQ.go {ι ι' : List Addr} {H H' : Hp} {Q : VK} (g : Go ι ι' H H') {p : PV} {h : PH} (q : pQ K ι H Q p h) : pQ K ι' H' Q p h := fun ι2 v H2 g2 r x => q ι2 v H2 (g.trans g2) r x
def lE (K : PySem.W.Frag) (m : ME) : TE := fun σ H Q => ∃ ι ps h, SR K ι H σ ps ∧ HR K ι H h ∧ m.run ps h (pQ K ι H Q)
def lT (K : PySem.W.Frag) (m : MT) : TT := fun σ H Q => ∃ ι ps h, SR K ι H σ ps ∧ HR K ι H h ∧ m.run ps h fun b h' => ∀ ι' H', Go ι ι' H H' → HR K ι' H' h' → Q b H'
def lA (K : PySem.W.Frag) (m : MA) : TA := fun σ H Q => ∃ ι ps h, SR K ι H σ ps ∧ HR K ι H h ∧ m.run ps h fun l h' => ∀ ι' vs H', Go ι ι' H H' → HR K ι' H' h' → VRs K ι' H' vs l → Q vs H'
def Own (K : PySem.W.Frag) (ι : List Addr) (H : Hp) (a : Addr) (l : List PV) : Prop := a ∉ ι ∧ ∃ vs, H a = some (.lst vs) ∧ VRs K ι H vs l
def lL (K : PySem.W.Frag) (m : ML) : TE := fun σ H Q => ∃ ι ps h, SR K ι H σ ps ∧ HR K ι H h ∧ m.run ps h fun l h' => ∀ ι' a H', Go ι ι' H H' → HR K ι' H' h' → H a = none → Own K ι' H' a l → Q (.ref a) H'
def JS (K : PySem.W.Frag) (ι : List Addr) (H : Hp) (J : It) (S : Src) : Prop := ∀ ι' H' h', Go ι ι' H H' → HR K ι' H' h' → S.ok h' →
  (∀ (i : Nat) (p : PV), S.items[i]? = some p → J.go i H' ∧ ∀ x H2, J.yld i H' x H2 → Same H' H2 ∧ VR K ι' H2 x p) ∧ J.stop S.items.length H'
def lI (K : PySem.W.Frag) (m : MI) : TI := fun σ H R => ∃ ι ps h, SR K ι H σ ps ∧ HR K ι H h ∧ m.run ps h fun S h' => ∀ ι' J H', Go ι ι' H H' → HR K ι' H' h' → JS K ι' H' J S → R J H'
def pN (K : PySem.W.Frag) (ι : List Addr) (H : Hp) (N : L2.St → Hp → Prop) : PSt → PH → Prop := fun ps' h' => ∀ ι' σ' H', Go ι ι' H H' → HR K ι' H' h' → SR K ι' H' σ' ps' → N σ' H'
theorem pN.go {ι ι' : List Addr} {H H' : Hp} {N : L2.St → Hp → Prop} (g : Go ι ι' H H') {p : PSt} {h : PH} (q : pN K ι H N p h) : pN K ι' H' N p h := fun ι2 v H2 g2 r x => q ι2 v H2 (g.trans g2) r x
def pD (K : PySem.W.Frag) (ι : List Addr) (H : Hp) (D : Ends) : PD := ⟨pN K ι H D.nx, pQ K ι H D.rt, pN K ι H D.bk, pN K ι H D.ct⟩
theorem pD.go {ι ι' : List Addr} {H H' : Hp} (g : Go ι ι' H H') (D : Ends) : PD.Le (pD K ι H D) (pD K ι' H' D) := ⟨fun _ _ q => pN.go g q, fun _ _ q => pQ.go g q, fun _ _ q => pN.go g q, fun _ _ q => pN.go g q⟩
def lS (K : PySem.W.Frag) (m : MS) : TS := fun D σ H => ∃ ι ps h, SR K ι H σ ps ∧ HR K ι H h ∧ m.run (pD K ι H D) ps h
def lG (K : PySem.W.Frag) (m : MG) : TG := fun v σ H Q => ∃ ι ps h p, SR K ι H σ ps ∧ HR K ι H h ∧ VR K ι H v p ∧ m.run p ps h (pN K ι H Q)
theorem PE.imp {X : Cx} {e : Expr} {t t' : TE} (h : PE X e t) (f : ∀ σ H Q, t' σ H Q → t σ H Q) : PE X e t' := fun pins s σ H Q I q => h pins s σ H Q I (f _ _ _ q)
theorem PT.imp {X : Cx} {e : Expr} {t t' : TT} (h : PT X e t) (f : ∀ σ H Q, t' σ H Q → t σ H Q) : PT X e t' := fun pins s σ H Q I q => h pins s σ H Q I (f _ _ _ q)
theorem PW.imp {X : Cx} {e : Expr} {t t' : TT} (h : PW X e t) (f : ∀ σ H Q, t' σ H Q → t σ H Q) : PW X e t' := fun w pins s σ H Q I q => h w pins s σ H Q I (f _ _ _ q)
theorem PA.imp {X : Cx} {e : List Expr} {t t' : TA} (h : PA X e t) (f : ∀ σ H Q, t' σ H Q → t σ H Q) : PA X e t' := fun pos pins s σ H Q I q => h pos pins s σ H Q I (f _ _ _ q)
theorem PS.imp {X : Cx} {e : Stmt} {t t' : TS} (h : PS X e t) (f : ∀ D σ H, t' D σ H → t D σ H) : PS X e t' := fun pins s σ H D I q => h pins s σ H D I (f _ _ _ q)
theorem PSs.imp {X : Cx} {e : List Stmt} {t t' : TS} (h : PSs X e t) (f : ∀ D σ H, t' D σ H → t D σ H) : PSs X e t' := fun pins s σ H D I q => h pins s σ H D I (f _ _ _ q)
theorem PG.imp {X : Cx} {e : Expr} {t t' : TG} (h : PG X e t) (f : ∀ v σ H Q, t' v σ H Q → t v σ H Q) : PG X e t' := fun pins s σ H v u Q I r q => h pins s σ H v u Q I r (f _ _ _ _ q)
theorem PI.imp {X : Cx} {tg e : Expr} {t t' : TI} (h : PI X tg e t) (f : ∀ σ H Q, t' σ H Q → t σ H Q) : PI X tg e t' := fun pins s σ H R I q => h pins s σ H R I (f _ _ _ q)
section
variable {X : Cx} {a b c e : Expr} {pos : Pos}
def mVar (i : Nat) : ME := ⟨fun ps h Q => match ps[i]? with | some (some v) => Q v h | _ => False, fun {ps h Q Q'} hq q => by
  revert q
  split
  · exact hq _ _
  · exact fun z => z⟩
def mC (v : PV) : ME := ⟨fun _ h Q => Q v h, fun hq q => hq _ _ q⟩
theorem q_var {i : Nat} (h : PE X e (tVar i)) : PE X e (lE K (mVar i)) := PE.imp h fun σ H Q ⟨ι, ps, h, sr, hr, q⟩ => by
  have q : (match ps[i]? with | some (some v) => pQ K ι H Q v h | _ => False) := q
  revert q
  split
  · rename_i v e
    intro q
    obtain ⟨u, e1, e2⟩ := sr.2 i v e
    exact ⟨u, e1, q ι u H (Go.refl _ _) hr e2⟩
  · exact False.elim
theorem q_c {v : V} {p : PV} (hv : ∀ ι H, VR K ι H v p) (h : PE X e (tC v)) : PE X e (lE K (mC p)) := PE.imp h fun σ H Q ⟨ι, ps, h, sr, hr, q⟩ => q ι v H (Go.refl _ _) hr (hv _ _)
theorem q_int {i j} : PE X (.Constant (.int i) j pos) (lE K (mC (.int i))) := q_c (fun _ _ => .int i) pe_int
theorem q_bl {b j} : PE X (.Constant (.bool b) j pos) (lE K (mC (.bl b))) := q_c (fun _ _ => .bl b) pe_bl
theorem q_non {j} : PE X (.Constant .none j pos) (lE K (mC .non)) := q_c (fun _ _ => .non) pe_non
theorem q_str {x j} : PE X (.Constant (.str x) j pos) (lE K (mC (.str x))) := q_c (fun _ _ => .str x) pe_str
abbrev P2 := PV → PV → PH → QV → Prop
structure M2 where
  f : P2
  mono : ∀ {x y h} {Q Q' : QV}, (∀ v h', Q v h' → Q' v h') → f x y h Q → f x y h Q'
def M2.Ok (K : PySem.W.Frag) (r : R2) (m : M2) : Prop := ∀ {ι H h u v x y Q}, HR K ι H h → VR K ι H u x → VR K ι H v y → m.f x y h (pQ K ι H Q) → r u v H Q
def mOp (m : M2) (a b : ME) : ME := ⟨fun ps h Q => a.run ps h fun x h1 => b.run ps h1 fun y h2 => m.f x y h2 Q, fun hq q => a.mono (fun _ _ q => b.mono (fun _ _ q => m.mono hq q) q) q⟩
theorem lE_op {r : R2} {m : M2} (hm : M2.Ok K r m) {ma mb : ME} : ∀ σ H Q, lE K (mOp m ma mb) σ H Q → tOp r (lE K ma) (lE K mb) σ H Q := by
  rintro σ H Q ⟨ι, ps, h, sr, hr, q⟩
  refine ⟨ι, ps, h, sr, hr, ma.mono (fun x h1 q1 ι1 u1 H1 g1 r1 v1 => ?_) q⟩
  refine ⟨ι1, ps, h1, sr.go hr g1, r1, mb.mono (fun y h2 q2 ι2 u2 H2 g2 r2 v2 => ?_) q1⟩
  exact hm r2 (g2.vr r1 v1) v2 (m.mono (fun _ _ z => pQ.go (g1.trans g2) z) q2)
theorem q_op {op : Operator} {r : R2} {m : M2} (ho : OpR X (binaryOp op) r) (hm : M2.Ok K r m) {ma mb : ME} (ha : PE X a (lE K ma)) (hb : PE X b (lE K mb)) : PE X (.BinOp a op b pos) (lE K (mOp m ma mb)) := PE.imp (pe_op ho ha hb) (lE_op hm)
theorem q_cmp {op : CmpOp} {r : R2} {m : M2} (ho : OpR X (compareOp op) r) (hm : M2.Ok K r m) {ma mb : ME} (ha : PE X a (lE K ma)) (hb : PE X b (lE K mb)) (hk : behindInMarks op b = false) : PE X (.Compare a [op] [b] pos) (lE K (mOp m ma mb)) := PE.imp (pe_cmpR ho ha hb hk) (lE_op hm)
theorem q_ix {r : R2} {m : M2} (hr : IxR X r) (hm : M2.Ok K r m) {ma mb : ME} (ha : PE X a (lE K ma)) (hb : PE X b (lE K mb)) (hs : PlainIx b) : PE X (.Subscript a b pos) (lE K (mOp m ma mb)) := PE.imp (pe_ix hr ha hb hs) (lE_op hm)
def mB (m : ME) : MT := ⟨fun ps h Q => m.run ps h fun x h1 => match x with | .bl b => Q b h1 | _ => False, fun hq q => m.mono (fun x h1 z => by
  cases x with
  | bl b => exact hq _ _ z
  | _ => exact z) q⟩
theorem lT_B {m : ME} : ∀ σ H Q, lT K (mB m) σ H Q → (lE K m) σ H fun x H' => ∃ k, x = .bl k ∧ Q k H' := by
  rintro σ H Q ⟨ι, ps, h, sr, hr, q⟩
  refine ⟨ι, ps, h, sr, hr, m.mono (fun x h1 q1 ι1 u1 H1 g1 r1 v1 => ?_) q⟩
  cases x with
  | bl b => cases v1; exact ⟨b, rfl, q1 ι1 H1 g1 r1⟩
  | _ => exact q1.elim
theorem q_tcmp {op : CmpOp} {r : R2} {m : M2} (ho : OpR X (compareOp op) r) (hm : M2.Ok K r m) {ma mb : ME} (ha : PE X a (lE K ma)) (hb : PE X b (lE K mb)) (hk : behindInMarks op b = false) : PT X (.Compare a [op] [b] pos) (lT K (mB (mOp m ma mb))) :=
  PT.imp (pt_cmpR ho ha hb hk) fun σ H Q q => by
    have q := lT_B σ H Q q
    exact lE_op hm σ H _ q
end
end PL
set_option Elab.async false
set_option linter.all false
set_option maxRecDepth 100000
namespace PL
open PySem PySem.Spec PyProof.Rows L2
variable {K : PySem.W.Frag}
theorem HR.adopt {ι : List Addr} {H : Hp} {h : PH} {p : Addr} {o : PO} (r : HR K ι H h) (hnew : p ∉ ι) (ho : OR K ι H p o) : HR K (ι ++ [p]) H (h ++ [o]) ∧ VR K (ι ++ [p]) H (.ref p) (.ref h.length) := by
  have hm : ∀ (n : Nat) (a : Addr), ι[n]? = some a → (ι ++ [p])[n]? = some a := fun n a e => by rw [List.getElem?_append_left (List.getElem?_eq_some_iff.mp e).1]; exact e
  refine ⟨⟨?_, by simp [r.len], fun n a u e1 e2 => ?_⟩, .ref (by rw [← r.len, List.getElem?_append_right (Nat.le_refl _)]; simp)⟩
  · exact List.nodup_append.mpr ⟨r.nd, by simp, fun a ha b hb => by simp at hb; subst hb; intro z; subst z; exact hnew ha⟩
  · rcases getElem?_snoc e1 with e1 | ⟨n1, rfl⟩
    · rcases getElem?_snoc e2 with e2 | ⟨n2, rfl⟩
      · exact (r.obj n a u e1 e2).mono (TupsK.refl _) hm rfl
      · have := (List.getElem?_eq_some_iff.mp e1).1; rw [r.len] at this; omega
    · rcases getElem?_snoc e2 with e2 | ⟨n2, rfl⟩
      · have := (List.getElem?_eq_some_iff.mp e2).1; rw [← r.len] at this; omega
      · exact ho.mono (TupsK.refl _) hm rfl
theorem Go.adopt {ι ι' : List Addr} {H H' : Hp} {p : Addr} (g : Go ι ι' H H') (hp : H p = none) : Go ι (ι' ++ [p]) H H' := by
  obtain ⟨m, e⟩ := g.ext
  refine ⟨⟨m ++ [p], by rw [e, List.append_assoc]⟩, fun a h1 h2 => ?_, g.keep⟩
  rcases List.mem_append.mp h1 with z | z
  · exact g.new a z h2
  · simp at z; subst z; exact hp
theorem Own.go {ι ι' : List Addr} {H H' : Hp} {h : PH} {a : Addr} {l : List PV} (o : Own K ι H a l) (r : HR K ι H h) (g : Go ι ι' H H') : Own K ι' H' a l := by
  obtain ⟨n, vs, e, v⟩ := o
  refine ⟨fun z => ?_, vs, g.keep a _ n e, g.vrs r v⟩
  rw [g.new a z n] at e; cases e
theorem Own.newO {ι : List Addr} {H H' : Hp} {h : PH} {p : Addr} {vs : List V} {l : List PV} (r : HR K ι H h) (s : Same H H') (e : H' p = some (.lst vs)) (hp : H p = none) (v : VRs K ι H vs l) : HR K ι H' h ∧ Go ι ι H H' ∧ Own K ι H' p l :=
  ⟨r.same s, Go.same s, fun z => r.hv z hp, vs, e, (Go.same s).vrs r v⟩
section
variable {X : Cx} {a b c e : Expr} {es : List Expr} {pos : Pos}
def mAndV (a b : ME) : ME := ⟨fun ps h Q => a.run ps h fun x h1 => match x with | .bl true => b.run ps h1 Q | .bl false => Q (.bl false) h1 | _ => False, fun hq q => a.mono (fun x h1 q => by
  revert q
  split
  · exact b.mono hq
  · exact hq _ _
  · exact fun z => z) q⟩
def mNotV (a : ME) : ME := ⟨fun ps h Q => a.run ps h fun x h1 => match x with | .bl b => Q (.bl (!b)) h1 | _ => False, fun hq q => a.mono (fun x h1 q => by
  revert q
  split
  · exact hq _ _
  · exact fun z => z) q⟩
theorem q_and {rest : List Expr} {ma mb : ME} (ha : PE X a (lE K ma)) (hb : PE X (.BoolOp .And (b :: rest) pos) (lE K mb)) : PE X (.BoolOp .And (a :: b :: rest) pos) (lE K (mAndV ma mb)) := PE.imp (pe_and ha hb) fun σ H Q ⟨ι, ps, h, sr, hr, q⟩ => by
  refine ⟨ι, ps, h, sr, hr, ma.mono (fun x h1 q1 ι1 u1 H1 g1 r1 v1 => ?_) q⟩
  revert q1
  split
  · intro q1; cases v1; exact ⟨true, rfl, by rw [if_pos rfl]; exact ⟨ι1, ps, h1, sr.go hr g1, r1, mb.mono (fun _ _ z => pQ.go g1 z) q1⟩⟩
  · intro q1; cases v1; exact ⟨false, rfl, by rw [if_neg Bool.false_ne_true]; exact q1 ι1 _ H1 g1 r1 (.bl false)⟩
  · exact False.elim
theorem q_one {op} {ma : ME} (h : PE X a (lE K ma)) : PE X (.BoolOp op [a] pos) (lE K ma) := pe_one h
theorem q_not {ma : ME} (ha : PE X a (lE K ma)) : PE X (.UnaryOp .Not a pos) (lE K (mNotV ma)) := PE.imp (pe_not ha) fun σ H Q ⟨ι, ps, h, sr, hr, q⟩ => by
  refine ⟨ι, ps, h, sr, hr, ma.mono (fun x h1 q1 ι1 u1 H1 g1 r1 v1 => ?_) q⟩
  revert q1
  split
  · intro q1; cases v1; exact ⟨_, rfl, q1 ι1 _ H1 g1 r1 (.bl _)⟩
  · exact False.elim
def mAndT (a b : MT) : MT := ⟨fun ps h Q => a.run ps h fun c h1 => if c = true then b.run ps h1 Q else Q false h1, fun hq q => a.mono (fun c h1 q => by
  cases c with
  | true => rw [if_pos rfl] at q ⊢; exact b.mono hq q
  | false => rw [if_neg Bool.false_ne_true] at q ⊢; exact hq _ _ q) q⟩
def mOrT (a b : MT) : MT := ⟨fun ps h Q => a.run ps h fun c h1 => if c = true then Q true h1 else b.run ps h1 Q, fun hq q => a.mono (fun c h1 q => by
  cases c with
  | true => rw [if_pos rfl] at q ⊢; exact hq _ _ q
  | false => rw [if_neg Bool.false_ne_true] at q ⊢; exact b.mono hq q) q⟩
def mNotT (a : MT) : MT := ⟨fun ps h Q => a.run ps h fun c h1 => Q (!c) h1, fun hq q => a.mono (fun c h1 q => hq _ _ q) q⟩
theorem qw_and1 {m : MT} (h : PT X a (lT K m)) : PW X (.BoolOp .And [a] pos) (lT K m) := pw_and1 h
theorem qw_or1 {m : MT} (h : PT X a (lT K m)) : PW X (.BoolOp .Or [a] pos) (lT K m) := pw_or1 h
theorem qw_and {rest : List Expr} {ma mb : MT} (ha : PT X a (lT K ma)) (hb : PW X (.BoolOp .And (b :: rest) pos) (lT K mb)) : PW X (.BoolOp .And (a :: b :: rest) pos) (lT K (mAndT ma mb)) := PW.imp (pw_and ha hb) fun σ H Q ⟨ι, ps, h, sr, hr, q⟩ => by
  refine ⟨ι, ps, h, sr, hr, ma.mono (fun c h1 q1 ι1 H1 g1 r1 => ?_) q⟩
  cases c with
  | true => rw [if_pos rfl] at q1 ⊢; exact ⟨ι1, ps, h1, sr.go hr g1, r1, mb.mono (fun _ _ z ι2 H2 g2 r2 => z ι2 H2 (g1.trans g2) r2) q1⟩
  | false => rw [if_neg Bool.false_ne_true] at q1 ⊢; exact q1 ι1 H1 g1 r1
theorem qw_or {rest : List Expr} {ma mb : MT} (ha : PT X a (lT K ma)) (hb : PW X (.BoolOp .Or (b :: rest) pos) (lT K mb)) : PW X (.BoolOp .Or (a :: b :: rest) pos) (lT K (mOrT ma mb)) := PW.imp (pw_or ha hb) fun σ H Q ⟨ι, ps, h, sr, hr, q⟩ => by
  refine ⟨ι, ps, h, sr, hr, ma.mono (fun c h1 q1 ι1 H1 g1 r1 => ?_) q⟩
  cases c with
  | true => rw [if_pos rfl] at q1 ⊢; exact q1 ι1 H1 g1 r1
  | false => rw [if_neg Bool.false_ne_true] at q1 ⊢; exact ⟨ι1, ps, h1, sr.go hr g1, r1, mb.mono (fun _ _ z ι2 H2 g2 r2 => z ι2 H2 (g1.trans g2) r2) q1⟩
theorem qt_not {ma : MT} (ha : PT X a (lT K ma)) : PT X (.UnaryOp .Not a pos) (lT K (mNotT ma)) := PT.imp (pt_not ha) fun σ H Q ⟨ι, ps, h, sr, hr, q⟩ => ⟨ι, ps, h, sr, hr, q⟩
def mIf (c : MT) (a b : ME) : ME := ⟨fun ps h Q => c.run ps h fun k h1 => if k = true then a.run ps h1 Q else b.run ps h1 Q, fun hq q => c.mono (fun k h1 q => by
  cases k with
  | true => rw [if_pos rfl] at q ⊢; exact a.mono hq q
  | false => rw [if_neg Bool.false_ne_true] at q ⊢; exact b.mono hq q) q⟩
theorem q_if {mc : MT} {ma mb : ME} (hc : PT X c (lT K mc)) (ha : PE X a (lE K ma)) (hb : PE X b (lE K mb)) : PE X (.IfExp c a b pos) (lE K (mIf mc ma mb)) := PE.imp (pe_ifExp hc ha hb) fun σ H Q ⟨ι, ps, h, sr, hr, q⟩ => by
  refine ⟨ι, ps, h, sr, hr, mc.mono (fun c h1 q1 ι1 H1 g1 r1 => ?_) q⟩
  cases c with
  | true => rw [if_pos rfl] at q1 ⊢; exact ⟨ι1, ps, h1, sr.go hr g1, r1, ma.mono (fun _ _ z => pQ.go g1 z) q1⟩
  | false => rw [if_neg Bool.false_ne_true] at q1 ⊢; exact ⟨ι1, ps, h1, sr.go hr g1, r1, mb.mono (fun _ _ z => pQ.go g1 z) q1⟩
def pTru (x : PV) (h : PH) (Q : Bool → Prop) : Prop := match x with
  | .non => Q false
  | .bl b => Q b
  | .int i => Q (i != 0)
  | .str y => y.length ≤ sizeLine ∧ Q ((y.length : Int) != 0)
  | .tup l => Q (!l.isEmpty)
  | .ref n => match h[n]? with
    | some (.lst xs) => Q (!xs.isEmpty)
    | some (.dk kvs) => Q (!kvs.isEmpty)
    | _ => False
  | .ty _ => False
  | .cl l => Q (!l.isEmpty)
theorem pTru.mono {x : PV} {h : PH} {Q Q' : Bool → Prop} (f : ∀ b, Q b → Q' b) (q : pTru x h Q) : pTru x h Q' := by
  unfold pTru at q ⊢
  cases x with
  | str y => exact ⟨q.1, f _ q.2⟩
  | ref n =>
    dsimp only at q ⊢
    revert q
    split <;> first | exact f _ | exact fun z => z
  | ty _ => exact q
  | _ => exact f _ q
theorem isEmpty_vrs {ι : List Addr} {H : Hp} : ∀ {vs : List V} {l : List PV}, VRs K ι H vs l → (!l.isEmpty) = !vs.isEmpty
  | _, _, .nil => rfl
  | _, _, .cons _ _ => rfl
theorem pTru.ok {K : PySem.W.Frag} {ι : List Addr} {H : Hp} {h : PH} {v : V} {x : PV} {Q : Bool → Prop} (r : HR K ι H h) (hv : VR K ι H v x) (q : pTru x h Q) : ∃ k, TruV K v H k ∧ Q k := by
  unfold pTru at q
  cases hv with
  | non => exact ⟨false, rfl, q⟩
  | bl b => exact ⟨b, rfl, q⟩
  | int i => exact ⟨_, rfl, q⟩
  | str y => exact ⟨_, ⟨q.1, rfl⟩, q.2⟩
  | ty _ => exact q.elim
  | tup e rs => exact ⟨_, .inr (.inl ⟨_, SqT.of e, rfl⟩), by dsimp only at q; rw [isEmpty_vrs rs] at q; exact q⟩
  | cl e rs => exact ⟨_, .inl ⟨_, e.sq, rfl⟩, by dsimp only at q; rw [isEmpty_vrs rs] at q; exact q⟩
  | @ref n a e =>
    dsimp only at q
    revert q
    split
    · rename_i xs hn
      intro q
      obtain ⟨vs, e1, e2⟩ := r.obj n a _ e hn
      exact ⟨_, .inl ⟨vs, SqL.of e1, rfl⟩, by rw [isEmpty_vrs e2] at q; exact q⟩
    · rename_i xs hn
      intro q
      obtain ⟨vs, e1, e2, e3⟩ := r.obj n a _ e hn
      refine ⟨_, .inr (.inr ⟨vs, e1, rfl⟩), ?_⟩
      have : (!xs.isEmpty) = !vs.isEmpty := by
        have := congrArg List.isEmpty e2
        simp at this
        cases vs <;> cases xs <;> simp_all
      rw [this] at q
      exact q
    · exact False.elim
def mTru (m : ME) : MT := ⟨fun ps h Q => m.run ps h fun x h1 => pTru x h1 fun b => Q b h1, fun hq q => m.mono (fun x h1 q => q.mono fun b z => hq _ _ z) q⟩
theorem qt_tru (K : PySem.W.Frag) (hK : X.K = K) {m : ME} (ha : PE X a (lE K m)) (he : ∀ whole, isTrue a X.env whole = (do let v ← whole; standAt a.pos; holding [v] (truthy v))) : PT X a (lT K (mTru m)) := PT.imp (pt_truthk K hK ha he) fun σ H Q ⟨ι, ps, h, sr, hr, q⟩ =>
  ⟨ι, ps, h, sr, hr, m.mono (fun x h1 q1 ι1 u1 H1 g1 r1 v1 => by
    obtain ⟨k, t, q2⟩ := q1.ok (K := K) r1 v1
    exact ⟨k, t, q2 ι1 H1 g1 r1⟩) q⟩
def mNil : MA := ⟨fun _ h Q => Q [] h, fun hq q => hq _ _ q⟩
def mCons (a : ME) (r : MA) : MA := ⟨fun ps h Q => a.run ps h fun x h1 => r.run ps h1 fun l h2 => Q (x :: l) h2, fun hq q => a.mono (fun _ _ q => r.mono (fun _ _ q => hq _ _ q) q) q⟩
theorem qa_nil : PA X [] (lA K mNil) := PA.imp pa_nil fun σ H Q ⟨ι, ps, h, sr, hr, q⟩ => q ι [] H (Go.refl _ _) hr .nil
theorem qa_cons {m : ME} {r : MA} (ha : PE X e (lE K m)) (hr : PA X es (lA K r)) (hs : starEach (e :: es) X.env = (false, eval e X.env) :: starEach es X.env := by rfl) : PA X (e :: es) (lA K (mCons m r)) := PA.imp (pa_cons ha hr hs) fun σ H Q ⟨ι, ps, h, sr, hr, q⟩ => by
  refine ⟨ι, ps, h, sr, hr, m.mono (fun x h1 q1 ι1 u1 H1 g1 r1 v1 => ?_) q⟩
  refine ⟨ι1, ps, h1, sr.go hr g1, r1, r.mono (fun l h2 q2 ι2 vs H2 g2 r2 v2 => ?_) q1⟩
  exact q2 ι2 _ H2 (g1.trans g2) r2 (.cons (g2.vr r1 v1) v2)
def mTup (m : MA) : ME := ⟨fun ps h Q => m.run ps h fun l h1 => l.length ≤ sizeLine ∧ Q (.tup l) h1, fun hq q => m.mono (fun _ _ q => ⟨q.1, hq _ _ q.2⟩) q⟩
theorem q_tup {x1} {m : MA} (h : PA X es (lA K m)) : PE X (.Tuple es x1 pos) (lE K (mTup m)) := PE.imp (pe_tupN h) fun σ H Q ⟨ι, ps, h, sr, hr, q⟩ => by
  refine ⟨ι, ps, h, sr, hr, m.mono (fun l h1 q1 ι1 vs H1 g1 r1 v1 => ?_) q⟩
  refine ⟨by rw [v1.length]; exact q1.1, fun p H2 s2 e2 n2 => ?_⟩
  exact q1.2 ι1 _ H2 (g1.trans (Go.same s2)) (r1.same s2) (.tup e2 ((Go.same s2).vrs r1 v1))
def mLst (m : MA) : ML := ⟨fun ps h Q => m.run ps h fun l h1 => l.length ≤ sizeLine ∧ Q l h1, fun hq q => m.mono (fun _ _ q => ⟨q.1, hq _ _ q.2⟩) q⟩
theorem Go.free' {ι ι' : List Addr} {H H' : Hp} {h : PH} {a : Addr} (g : Go ι ι' H H') (r : HR K ι' H' h) (hn : H' a = none) : H a = none := by
  cases z : H a with
  | none => rfl
  | some o =>
    by_cases ha : a ∈ ι
    · obtain ⟨m, e⟩ := g.ext
      exact absurd hn (r.hv (by rw [e]; exact List.mem_append_left _ ha))
    · rw [g.keep a o ha z] at hn; cases hn
theorem q_lst {m : MA} (h : PA X es (lA K m)) : PE X (.List es pos) (lL K (mLst m)) := PE.imp (pe_lstN h) fun σ H Q ⟨ι, ps, h, sr, hr, q⟩ => by
  refine ⟨ι, ps, h, sr, hr, m.mono (fun l h1 q1 ι1 vs H1 g1 r1 v1 => ?_) q⟩
  refine ⟨by rw [v1.length]; exact q1.1, fun p H2 s2 e2 n2 => ?_⟩
  obtain ⟨a1, a2, a3⟩ := Own.newO r1 s2 e2 n2 v1
  exact q1.2 ι1 p H2 (g1.trans a2) a1 (g1.free' r1 n2) a3
def mAlloc (m : ML) : ME := ⟨fun ps h Q => m.run ps h fun l h1 => Q (.ref h1.length) (h1 ++ [.lst l]), fun hq q => m.mono (fun _ _ q => hq _ _ q) q⟩
theorem q_alloc {m : ML} (h : PE X e (lL K m)) : PE X e (lE K (mAlloc m)) := PE.imp h fun σ H Q ⟨ι, ps, h, sr, hr, q⟩ => by
  refine ⟨ι, ps, h, sr, hr, m.mono (fun l h1 q1 ι1 a H1 g1 r1 n1 o1 => ?_) q⟩
  obtain ⟨vs, e1, e2⟩ := o1.2
  obtain ⟨b1, b2⟩ := r1.adopt (o := .lst l) o1.1 ⟨vs, e1, e2⟩
  exact q1 _ _ H1 (g1.adopt n1) b1 b2
def LsA (K : PySem.W.Frag) (S : Src) (H : Hp) (a : Addr) (vs : List V) : Prop := SqL K H a vs ∧ (S.fz = false → H a = some (.lst vs))
def SqS (K : PySem.W.Frag) (ι : List Addr) (H : Hp) (v : V) (S : Src) : Prop := ∃ a, v = .ref a ∧
  ((∀ ι' H' h', Go ι ι' H H' → HR K ι' H' h' → S.ok h' → ∃ vs, LsA K S H' a vs ∧ VRs K ι' H' vs S.items) ∨ (∀ ι' H' h', Go ι ι' H H' → HR K ι' H' h' → S.ok h' → ∃ vs, H' a = some (.tup vs) ∧ VRs K ι' H' vs S.items))
structure MQ where
  run : PSt → PH → (Src → PH → Prop) → Prop
  mono : ∀ {ps h} {Q Q' : Src → PH → Prop}, (∀ v h', Q v h' → Q' v h') → run ps h Q → run ps h Q'
def lQ (K : PySem.W.Frag) (m : MQ) : TE := fun σ H Q => ∃ ι ps h, SR K ι H σ ps ∧ HR K ι H h ∧ m.run ps h fun S h' => ∀ ι' v H', Go ι ι' H H' → HR K ι' H' h' → SqS K ι' H' v S → S.ok h' → Q v H'
def mOwn (m : ML) : MQ := ⟨fun ps h Q => m.run ps h fun l h1 => Q ⟨l, fun _ => True, false⟩ h1, fun hq q => m.mono (fun _ _ q => hq _ _ q) q⟩
theorem q_own (K : PySem.W.Frag) {m : ML} (h : PE X e (lL K m)) : PE X e (lQ K (mOwn m)) := PE.imp h fun σ H Q ⟨ι, ps, h, sr, hr, q⟩ => by
  refine ⟨ι, ps, h, sr, hr, m.mono (fun l h1 q1 ι1 a H1 g1 r1 n1 o1 => ?_) q⟩
  refine q1 ι1 _ H1 g1 r1 ⟨a, rfl, .inl fun ι2 H2 h2 g2 r2 _ => ?_⟩ trivial
  obtain ⟨n, vs, e, v⟩ := o1.go r1 g2
  exact ⟨vs, ⟨SqL.of e, fun _ => e⟩, v⟩
def mSq (m : ME) : MQ := ⟨fun ps h Q => m.run ps h fun x h1 => match x with
    | .tup l => Q ⟨l, fun _ => True, false⟩ h1
    | .cl l => Q ⟨l, fun _ => True, true⟩ h1
    | .ref n => match h1[n]? with
      | some (.lst xs) => Q ⟨xs, fun h2 => h2[n]? = some (.lst xs), false⟩ h1
      | _ => False
    | _ => False, fun hq q => m.mono (fun x h1 q => by
  revert q
  split
  · exact hq _ _
  · exact hq _ _
  · split
    · exact hq _ _
    · exact fun z => z
  · exact fun z => z) q⟩
theorem q_sq (K : PySem.W.Frag) {m : ME} (h : PE X e (lE K m)) : PE X e (lQ K (mSq m)) := PE.imp h fun σ H Q ⟨ι, ps, h, sr, hr, q⟩ => by
  refine ⟨ι, ps, h, sr, hr, m.mono (fun x h1 q1 ι1 u1 H1 g1 r1 v1 => ?_) q⟩
  revert q1
  split
  · rename_i l
    intro q1
    cases v1 with
    | tup e vs => exact q1 ι1 _ H1 g1 r1 ⟨_, rfl, .inr fun ι2 H2 h2 g2 r2 _ => ⟨_, (g2.tups r1).t _ _ e, g2.vrs r1 vs⟩⟩ trivial
  · rename_i l
    intro q1
    cases v1 with
    | cl e vs => exact q1 ι1 _ H1 g1 r1 ⟨_, rfl, .inl fun ι2 H2 h2 g2 r2 _ => ⟨_, ⟨((g2.tups r1).f _ _ e).sq, fun z => nomatch z⟩, g2.vrs r1 vs⟩⟩ trivial
  · rename_i n
    cases v1 with
    | @ref _ a e =>
    split
    · rename_i xs hn
      intro q1
      refine q1 ι1 _ H1 g1 r1 ⟨a, rfl, .inl fun ι2 H2 h2 g2 r2 ok => ?_⟩ hn
      obtain ⟨vs, e1, e2⟩ := r2.obj n a _ (g2.at e) ok
      exact ⟨vs, ⟨SqL.of e1, fun _ => e1⟩, e2⟩
    · exact False.elim
  · exact False.elim
def iSeq (K : PySem.W.Frag) (tl : TE) : TI := fun σ H R => tl σ H fun x H1 => ∃ a, x = .ref a ∧ (((∃ xs, SqL K H1 a xs) ∧ R (Itl K a) H1) ∨ ((∃ xs, SqT K H1 a xs) ∧ R (Itt K a) H1))
theorem pi_seq {tg l : Expr} {tl : TE} (K : PySem.W.Frag) (hK : X.K = K) (hl : PE X l tl) : PI X tg l (iSeq K tl) := by
  subst hK
  intro pins s σ H R I h
  refine thn (hl pins s σ H _ I h) fun v s1 ⟨x, H1, I1, r1, q1⟩ => ?_
  obtain ⟨a, e, ⟨⟨xs, hq⟩, q⟩ | ⟨⟨xs, hq⟩, q⟩⟩ := q1
  · subst e
    cases r1
    obtain ⟨its, rv, p, hz⟩ := I1.list hq
    refine wpAny_pyIter_list p.isList ?_
    refine ⟨s1.heap.objs.size, [s1.heap.objs.size], _, _, H1, rfl, I1.kept (t' := s1.toks) fun b o e => Heap.get?_push_of_some _ e, turn_list a _, ⟨_, Heap.get?_push_size _ rfl, rfl, rfl⟩, fun b hb => ?_, q⟩
    have e : b = s1.heap.objs.size := by simpa using hb
    subst e
    exact I1.fpOk (Nat.le_refl _) (I1.hok.fresh (Nat.le_refl _))
  · subst e
    cases r1
    obtain ⟨its, rv, p, hz⟩ := I1.tuple hq
    refine wpAny_pyIter_tuple (show s1.heap.IsTuple a its.toArray from p) ?_
    refine ⟨s1.heap.objs.size, [s1.heap.objs.size], _, _, H1, rfl, I1.kept (t' := s1.toks) fun b o e => Heap.get?_push_of_some _ e, turn_tuple a _, ⟨_, Heap.get?_push_size _ rfl, rfl, rfl⟩, fun b hb => ?_, q⟩
    have e : b = s1.heap.objs.size := by simpa using hb
    subst e
    exact I1.fpOk (Nat.le_refl _) (I1.hok.fresh (Nat.le_refl _))
def mWalk (m : MQ) : MI := ⟨m.run, m.mono⟩
theorem qi_seq {tg : Expr} (K : PySem.W.Frag) (hK : X.K = K) {m : MQ} (h : PE X e (lQ K m)) : PI X tg e (lI K (mWalk m)) := PI.imp (pi_seq K hK h) fun σ H R ⟨ι, ps, h, sr, hr, q⟩ => by
  refine ⟨ι, ps, h, sr, hr, m.mono (fun S h1 q1 ι1 u1 H1 g1 r1 v1 ok => ?_) q⟩
  obtain ⟨a, rfl, hs | hs⟩ := v1
  · refine ⟨a, rfl, .inl ⟨let ⟨vs, h1, _⟩ := hs ι1 H1 h1 (Go.refl _ _) r1 ok; ⟨vs, h1.1⟩, q1 ι1 _ H1 g1 r1 fun ι2 H2 h2 g2 r2 ok2 => ?_⟩⟩
    obtain ⟨vs, ⟨e1, _⟩, e2⟩ := hs ι2 H2 h2 g2 r2 ok2
    refine ⟨fun i p hp => ?_, vs, e1, by rw [e2.length]; exact Nat.le_refl _⟩
    obtain ⟨v, h3, h4⟩ := e2.get hp
    refine ⟨⟨vs, v, e1, h3⟩, fun x H3 y => ?_⟩
    obtain ⟨rfl, y⟩ := y
    have := y vs e1
    rw [h3] at this
    cases this
    exact ⟨Same.refl _, h4⟩
  · refine ⟨a, rfl, .inr ⟨let ⟨vs, h1, _⟩ := hs ι1 H1 h1 (Go.refl _ _) r1 ok; ⟨vs, SqT.of h1⟩, q1 ι1 _ H1 g1 r1 fun ι2 H2 h2 g2 r2 ok2 => ?_⟩⟩
    obtain ⟨vs, e1, e2⟩ := hs ι2 H2 h2 g2 r2 ok2
    have e1 := SqT.of (K := K) e1
    refine ⟨fun i p hp => ?_, vs, e1, by rw [e2.length]; exact Nat.le_refl _⟩
    obtain ⟨v, h3, h4⟩ := e2.get hp
    refine ⟨⟨vs, v, e1, h3⟩, fun x H3 y => ?_⟩
    obtain ⟨rfl, y⟩ := y
    have := y vs e1
    rw [h3] at this
    cases this
    exact ⟨Same.refl _, h4⟩
end
end PL
set_option Elab.async false
set_option linter.all false
set_option maxRecDepth 100000
namespace PL
open PySem PySem.Spec PyProof.Rows L2
variable {K : PySem.W.Frag}
section
variable {X : Cx} {a b c e : Expr} {es : List Expr} {pos : Pos} {st : Stmt} {rest : List Stmt}
theorem MS.le (m : MS) {D D' : PD} {ps : PSt} {h : PH} (q : m.run D ps h) (l : PD.Le D D') : m.run D' ps h := m.mono l q
def mNext : MS := ⟨fun D ps h => D.nx ps h, fun l q => l.nx _ _ q⟩
def mSeq (a b : MS) : MS := ⟨fun D ps h => a.run ⟨b.run D, D.rt, D.bk, D.ct⟩ ps h, fun l q => a.le q ⟨fun _ _ q => b.mono l q, l.rt, l.bk, l.ct⟩⟩
theorem lS_next : ∀ D σ H, lS K mNext D σ H → tNext D σ H := fun D σ H ⟨ι, ps, h, sr, hr, q⟩ => q ι σ H (Go.refl _ _) hr sr
theorem qss_nil : PSs X [] (lS K mNext) := PSs.imp pss_nil lS_next
theorem qss_one {m : MS} (h : PS X st (lS K m)) : PSs X [st] (lS K m) := pss_one h
theorem qss_cons {m n : MS} (h1 : PS X st (lS K m)) (h2 : PSs X rest (lS K n)) : PSs X (st :: rest) (lS K (mSeq m n)) := PSs.imp (pss_cons h1 h2) fun D σ H ⟨ι, ps, h, sr, hr, q⟩ =>
  ⟨ι, ps, h, sr, hr, m.le q ⟨fun ps1 h1 q1 ι1 σ1 H1 g1 r1 s1 => ⟨ι1, ps1, h1, s1, r1, n.mono (pD.go g1 D) q1⟩, fun _ _ q => q, fun _ _ q => q, fun _ _ q => q⟩⟩
def mDrop (m : ME) : MS := ⟨fun D ps h => m.run ps h fun _ h1 => D.nx ps h1, fun l q => m.mono (fun _ _ q => l.nx _ _ q) q⟩
theorem q_expr {m : ME} (he : PE X e (lE K m)) (hs : swapsWith e none pos.line X.env = pure false := by rfl) : PS X (.Expr e pos) (lS K (mDrop m)) := PS.imp (ps_expr he hs) fun D σ H ⟨ι, ps, h, sr, hr, q⟩ =>
  ⟨ι, ps, h, sr, hr, m.mono (fun v h1 q1 ι1 u1 H1 g1 r1 v1 => q1 ι1 σ H1 g1 r1 (sr.go hr g1)) q⟩
def mRet (m : ME) : MS := ⟨fun D ps h => m.run ps h D.rt, fun l q => m.mono l.rt q⟩
theorem q_ret {m : ME} (he : PE X e (lE K m)) : PS X (.Return (some e) pos) (lS K (mRet m)) := PS.imp (ps_ret he) fun D σ H ⟨ι, ps, h, sr, hr, q⟩ => ⟨ι, ps, h, sr, hr, q⟩
def mIfS (c : MT) (a b : MS) : MS := ⟨fun D ps h => c.run ps h fun k h1 => if k = true then a.run D ps h1 else b.run D ps h1, fun l q => c.mono (fun k h1 q => by
  cases k with
  | true => rw [if_pos rfl] at q ⊢; exact a.mono l q
  | false => rw [if_neg Bool.false_ne_true] at q ⊢; exact b.mono l q) q⟩
theorem qs_if {sa sb : List Stmt} {mc : MT} {ma mb : MS} (hc : PT X c (lT K mc)) (ha : PSs X sa (lS K ma)) (hb : PSs X sb (lS K mb)) : PS X (.If c sa sb pos) (lS K (mIfS mc ma mb)) := PS.imp (ps_if hc ha hb) fun D σ H ⟨ι, ps, h, sr, hr, q⟩ => by
  refine ⟨ι, ps, h, sr, hr, mc.mono (fun k h1 q1 ι1 H1 g1 r1 => ?_) q⟩
  cases k with
  | true => rw [if_pos rfl] at q1 ⊢; exact ⟨ι1, ps, h1, sr.go hr g1, r1, ma.mono (pD.go g1 D) q1⟩
  | false => rw [if_neg Bool.false_ne_true] at q1 ⊢; exact ⟨ι1, ps, h1, sr.go hr g1, r1, mb.mono (pD.go g1 D) q1⟩
def gSet (i : Nat) : MG := ⟨fun v ps h Q => Q (ps.set i (some v)) h, fun f q => f _ _ q⟩
theorem qg_name {i : Nat} (h : PG X e (gName i)) : PG X e (lG K (gSet i)) := PG.imp h fun v σ H Q ⟨ι, ps, h, p, sr, hr, hv, q⟩ => q ι _ H (Go.refl _ _) hr (sr.set hv i)
structure MGs where
  run : List PV → PSt → PH → (PSt → PH → Prop) → Prop
  mono : ∀ {v ps h} {Q Q' : PSt → PH → Prop}, (∀ ps h, Q ps h → Q' ps h) → run v ps h Q → run v ps h Q'
def lGs (K : PySem.W.Frag) (m : MGs) : TGs := fun vs σ H Q => ∃ ι ps h l, SR K ι H σ ps ∧ HR K ι H h ∧ VRs K ι H vs l ∧ m.run l ps h (pN K ι H Q)
theorem PGs.imp {e : List Expr} {t t' : TGs} (h : PGs X e t) (f : ∀ v σ H Q, t' v σ H Q → t v σ H Q) : PGs X e t' := fun pins s σ H v u Q I r q => h pins s σ H v u Q I r (f _ _ _ _ q)
def gsNil : MGs := ⟨fun l ps h Q => match l with | [] => Q ps h | _ => False, fun f q => by
  revert q
  split
  · exact f _ _
  · exact fun z => z⟩
def gsCons (g : MG) (r : MGs) : MGs := ⟨fun l ps h Q => match l with | x :: l => g.run x ps h fun ps1 h1 => r.run l ps1 h1 Q | [] => False, fun f q => by
  revert q
  split
  · exact g.mono fun _ _ q => r.mono f q
  · exact fun z => z⟩
theorem qgs_nil : PGs X [] (lGs K gsNil) := PGs.imp pgs_nil fun vs σ H Q ⟨ι, ps, h, l, sr, hr, hv, q⟩ => by
  cases hv with
  | nil => exact ⟨rfl, q ι σ H (Go.refl _ _) hr sr⟩
  | cons _ _ => exact q.elim
theorem qgs_cons {g : MG} {r : MGs} (h1 : PG X e (lG K g)) (h2 : PGs X es (lGs K r)) (hs : (assignEach (e :: es) X.env).map (·.2) = assign e X.env :: (assignEach es X.env).map (·.2) := by rfl) : PGs X (e :: es) (lGs K (gsCons g r)) := PGs.imp (pgs_cons h1 h2 hs) fun vs σ H Q ⟨ι, ps, h, l, sr, hr, hv, q⟩ => by
  cases hv with
  | nil => exact q.elim
  | @cons v p vs l x t =>
    refine ⟨v, vs, rfl, ι, ps, h, p, sr, hr, x, g.mono (fun ps1 h1 q1 ι1 σ1 H1 g1 r1 s1 => ?_) q⟩
    exact ⟨ι1, ps1, h1, l, s1, r1, g1.vrs hr t, r.mono (fun _ _ z => pN.go g1 z) q1⟩
def gTupM (n : Nat) (r : MGs) : MG := ⟨fun v ps h Q => match v with | .tup l => l.length = n ∧ r.run l ps h Q | _ => False, fun f q => by
  revert q
  split
  · exact fun q => ⟨q.1, r.mono f q.2⟩
  · exact fun z => z⟩
theorem qg_tup (K : PySem.W.Frag) (hK : X.K = K) {k n : Nat} {r : MGs} (hc : X.calm = true) (h : PGs X es (lGs K r)) (hn : (assignEach es X.env).length = n := by rfl) (hst : (assignEach es X.env).findIdx? (·.1) = none := by rfl) : PG X (.Tuple es k pos) (lG K (gTupM n r)) := by
  subst hK
  refine PG.imp (pg_tup hc h hn hst) fun v σ H Q ⟨ι, ps, h, p, sr, hr, hv, q⟩ => ?_
  cases hv with
  | tup e rs => exact ⟨_, _, rfl, SqT.of e, by rw [rs.length]; exact q.1, ι, ps, h, _, sr, hr, rs, q.2⟩
  | _ => exact q.elim
structure MSet where
  f : PV → PV → PV → PH → (PH → Prop) → Prop
  mono : ∀ {o i v h} {Q Q' : PH → Prop}, (∀ h, Q h → Q' h) → f o i v h Q → f o i v h Q'
def MSet.Ok (K : PySem.W.Frag) (t : TSet) (m : MSet) : Prop := ∀ {ι H h o i v x y z} {Q : Hp → Prop}, HR K ι H h → VR K ι H o x → VR K ι H i y → VR K ι H v z → m.f x y z h (fun h' => ∀ H', Go ι ι H H' → HR K ι H' h' → Q H') → t o i v H Q
def gSubM (o i : ME) (m : MSet) : MG := ⟨fun v ps h Q => o.run ps h fun x h1 => i.run ps h1 fun y h2 => m.f x y v h2 fun h3 => Q ps h3, fun f q => o.mono (fun _ _ q => i.mono (fun _ _ q => m.mono (fun _ q => f _ _ q) q) q) q⟩
theorem qg_sub {o i : Expr} {mo mi : ME} {t : TSet} {m : MSet} (ho : PE X o (lE K mo)) (hi : PE X i (lE K mi)) (hs : PSet X t) (hm : MSet.Ok K t m) (ha : ∀ v, assign (.Subscript o i pos) X.env v = (do
      let ov ← holding [v] (eval o X.env)
      let iv ← holding [v, ov] (eval i X.env)
      standAt pos
      holding [v, ov, iv] (setItem ov iv v)
      release [v, ov, iv] []) := by intro _; rfl) : PG X (.Subscript o i pos) (lG K (gSubM mo mi m)) := PG.imp (pg_sub ho hi hs ha) fun v σ H Q ⟨ι, ps, h, p, sr, hr, hv, q⟩ => by
  refine ⟨ι, ps, h, sr, hr, mo.mono (fun x h1 q1 ι1 u1 H1 g1 r1 v1 => ?_) q⟩
  refine ⟨ι1, ps, h1, sr.go hr g1, r1, mi.mono (fun y h2 q2 ι2 u2 H2 g2 r2 v2 => ?_) q1⟩
  refine hm r2 (g2.vr r1 v1) v2 ((g1.trans g2).vr hr hv) (m.mono (fun h3 q3 H3 g3 r3 => ?_) q2)
  exact q3 ι2 σ H3 ((g1.trans g2).trans g3) r3 (sr.go hr ((g1.trans g2).trans g3))
def sList : MSet := ⟨fun x y z h Q => match x, y with
  | .ref n, .int k => match h[n]? with
    | some (.lst xs) => match ixN xs.length k with
      | some j => Q (h.set n (.lst (xs.set j z)))
      | none => False
    | _ => False
  | _, _ => False, fun f q => by
    revert q
    split
    · split
      · split
        · exact f _
        · exact fun z => z
      · exact fun z => z
    · exact fun z => z⟩
theorem sList_ok : MSet.Ok K rSetLN sList := by
  intro ι H h o i v x y z Q hr ho hi hv q
  unfold sList at q
  dsimp only at q
  revert q
  split
  · rename_i n k
    split
    · rename_i xs hn
      split
      · rename_i j hj
        intro q
        cases ho with
        | @ref _ a e =>
        cases hi
        obtain ⟨vs, e1, e2⟩ := hr.obj n a _ e hn
        refine ⟨a, vs, k, j, rfl, rfl, e1, by rw [e2.length]; exact hj, fun H2 s2 h2 => ?_⟩
        obtain ⟨b1, b2, b3⟩ := hr.put (o := .lst (xs.set j z)) e s2 fun ht => ⟨_, h2, (e2.mono ht fun _ _ e => e).set (hv.mono ht fun _ _ e => e) j⟩
        exact q H2 b2 b1
      · exact False.elim
    · exact False.elim
  · exact False.elim
def mAsg (m : ME) (g : MG) : MS := ⟨fun D ps h => m.run ps h fun v h1 => g.run v ps h1 D.nx, fun l q => m.mono (fun _ _ q => g.mono l.nx q) q⟩
theorem lS_asg {m : ME} {g : MG} : ∀ D σ H, lS K (mAsg m g) D σ H → tAsg (lE K m) (lG K g) D σ H := fun D σ H ⟨ι, ps, h, sr, hr, q⟩ =>
  ⟨ι, ps, h, sr, hr, m.mono (fun v h1 q1 ι1 u1 H1 g1 r1 v1 => ⟨ι1, ps, h1, v, sr.go hr g1, r1, v1, g.mono (fun _ _ z => pN.go g1 z) q1⟩) q⟩
theorem q_asg {tg : Expr} {m : ME} {g : MG} (he : PE X e (lE K m)) (hg : PG X tg (lG K g)) (hs : swapsWithSole [tg] e pos.line X.env = pure false := by rfl) (hw : swappedStores [tg] e X.env = pure none := by rfl)
    (h1 : (assignEach [tg] X.env).map (·.2) = [assign tg X.env] := by rfl) : PS X (.Assign [tg] e pos) (lS K (mAsg m g)) := PS.imp (ps_asg he hg hs hw h1) lS_asg
theorem tAsg_name {m : ME} {i : Nat} : ∀ D σ H, lS K (mAsg m (gSet i)) D σ H → tAsg (lE K m) (gName i) D σ H := fun D σ H ⟨ι, ps, h, sr, hr, q⟩ =>
  ⟨ι, ps, h, sr, hr, m.mono (fun v h1 q1 ι1 u1 H1 g1 r1 v1 => q1 ι1 _ H1 g1 r1 ((sr.go hr g1).set v1 i)) q⟩
theorem q_set {i : Nat} {m : ME} {x : Str} {pos' : Pos} (hN : X.N.Nodup) (hi : X.N[i]? = some x) (hx : Loc X.env.scope x) (he : PE X e (lE K m)) (hs : swapsWith e (some (.Name x pos')) pos.line X.env = pure false := by rfl)
    (hf : X.fn x = true ∨ X.env.scope.names.lookup x = some .local := by first | exact .inl rfl | exact .inr rfl | assumption) : PS X (.Assign [.Name x pos'] e pos) (lS K (mAsg m (gSet i))) := PS.imp (ps_set hN hi hx he hs hf) tAsg_name
def mPar (i j : Nat) (m : MA) : MS := ⟨fun D ps h => m.run ps h fun l h1 => match l with | [v, w] => D.nx ((ps.set i (some v)).set j (some w)) h1 | _ => False, fun l q => m.mono (fun v h1 q => by
    revert q
    split
    · exact l.nx _ _
    · exact fun z => z) q⟩
theorem MG.le (g : MG) {v : PV} {ps : PSt} {h : PH} {Q Q' : PSt → PH → Prop} (q : g.run v ps h Q) (f : ∀ ps h, Q ps h → Q' ps h) : g.run v ps h Q' := g.mono f q
def forV (S : Src) (g : MG) (b : MS) (D : PD) : List PV → PSt → PH → Prop
  | [], ps, h => S.ok h ∧ D.nx ps h
  | x :: r, ps, h => S.ok h ∧ g.run x ps h fun ps1 h1 => b.run ⟨forV S g b D r, D.rt, D.nx, forV S g b D r⟩ ps1 h1
theorem forV.mono {S : Src} {g : MG} {b : MS} {D D' : PD} (l : PD.Le D D') : ∀ {xs : List PV} {ps h}, forV S g b D xs ps h → forV S g b D' xs ps h
  | [], _, _, q => ⟨q.1, l.nx _ _ q.2⟩
  | x :: r, _, _, q => ⟨q.1, g.le q.2 fun _ _ q => b.le q ⟨fun _ _ q => forV.mono l q, l.rt, l.nx, fun _ _ q => forV.mono l q⟩⟩
def mFor (mi : MI) (g : MG) (b : MS) : MS := ⟨fun D ps h => mi.run ps h fun S h1 => forV S g b D S.items ps h1, fun l q => mi.mono (fun _ _ q => forV.mono l q) q⟩
theorem qs_for {tg iter : Expr} {body : List Stmt} {mi : MI} {g : MG} {b : MS} (hp : PassesOwn (model X.prog X.w) X.A X.env X.xe) (hc : X.calm = true) (hi : PI X tg iter (lI K mi)) (hg : PG X tg (lG K g)) (hb : PSs X body (lS K b))
    (hs : ∀ x, foldedSetIterable iter X.env x = pure x := by intro _; rfl) : PS X (.For tg iter body [] pos) (lS K (mFor mi g b)) := PS.imp (ps_for hp hc hi hg hb hs) fun D σ H ⟨ι, ps, h, sr, hr, q⟩ => by
  refine ⟨ι, ps, h, sr, hr, mi.mono (fun S h1 q1 ι1 J H1 g1 r1 js => ?_) q⟩
  refine ⟨fun i m σ' H' => ∃ ι' ps' h', Go ι1 ι' H1 H' ∧ SR K ι' H' σ' ps' ∧ HR K ι' H' h' ∧ m = S.items.length - i ∧ i ≤ S.items.length ∧ forV S g b (pD K ι H D) (S.items.drop i) ps' h', ⟨S.items.length, ι1, ps, h1, Go.refl _ _, sr.go hr g1, r1, by simp, Nat.zero_le _, by simpa using q1⟩, ?_⟩
  rintro i m σ2 H2 ⟨ι2, ps2, h2, g2, s2, r2, rfl, hi, q2⟩
  by_cases hlt : i < S.items.length
  · have ed : S.items.drop i = S.items[i] :: S.items.drop (i + 1) := (List.drop_eq_getElem_cons hlt)
    rw [ed] at q2
    obtain ⟨ok, q2⟩ := q2
    obtain ⟨j1, j2⟩ := js ι2 H2 h2 g2 r2 ok
    obtain ⟨go, yl⟩ := j1 i _ (List.getElem?_eq_getElem hlt)
    refine .inr ⟨go, fun σ3 H3 => ∃ ι3 ps3 h3, Go ι1 ι3 H1 H3 ∧ SR K ι3 H3 σ3 ps3 ∧ HR K ι3 H3 h3 ∧ forV S g b (pD K ι H D) (S.items.drop (i + 1)) ps3 h3, fun σ3 H3 ⟨ι3, ps3, h3, a1, a2, a3, a4⟩ => ⟨S.items.length - (i + 1), by omega, ι3, ps3, h3, a1, a2, a3, rfl, hlt, a4⟩, fun x H3 y => ?_⟩
    obtain ⟨sm, vx⟩ := yl x H3 y
    refine ⟨ι2, ps2, h2, _, s2.go r2 (Go.same sm), r2.same sm, vx, g.mono (fun ps4 h4 q4 ι4 σ4 H4 g4 r4 s4 => ?_) q2⟩
    have gg : Go ι ι4 H H4 := ((g1.trans g2).trans (Go.same sm)).trans g4
    refine ⟨ι4, ps4, h4, s4, r4, b.le q4 ⟨fun ps5 h5 q5 ι5 σ5 H5 g5 r5 s5 => ?_, fun _ _ z => pQ.go gg z, fun _ _ z => pN.go gg z, fun ps5 h5 q5 ι5 σ5 H5 g5 r5 s5 => ?_⟩⟩
    · exact ⟨ι5, ps5, h5, ((g2.trans (Go.same sm)).trans g4).trans g5, s5, r5, q5⟩
    · exact ⟨ι5, ps5, h5, ((g2.trans (Go.same sm)).trans g4).trans g5, s5, r5, q5⟩
  · have e : i = S.items.length := by omega
    subst e
    rw [List.drop_length] at q2
    obtain ⟨ok, q2⟩ := q2
    exact .inl ⟨(js ι2 H2 h2 g2 r2 ok).2, q2 ι2 σ2 H2 (g1.trans g2) r2 s2⟩
def whileN (t : MT) (b : MS) (D : PD) : Nat → PSt → PH → Prop
  | 0, _, _ => False
  | n + 1, ps, h => t.run ps h fun c h1 => if c = true then b.run ⟨whileN t b D n, D.rt, D.nx, whileN t b D n⟩ ps h1 else D.nx ps h1
theorem whileN.mono {t : MT} {b : MS} {D D' : PD} (l : PD.Le D D') : ∀ {n : Nat} {ps h}, whileN t b D n ps h → whileN t b D' n ps h
  | 0, _, _, q => q
  | n + 1, _, _, q => t.mono (fun c h1 q => by
    cases c with
    | true => rw [if_pos rfl] at q ⊢; exact b.le q ⟨fun _ _ q => whileN.mono l q, l.rt, l.nx, fun _ _ q => whileN.mono l q⟩
    | false => rw [if_neg Bool.false_ne_true] at q ⊢; exact l.nx _ _ q) q
def mWhile (t : MT) (b : MS) : MS := ⟨fun D ps h => ∃ n, whileN t b D n ps h, fun l ⟨n, q⟩ => ⟨n, whileN.mono l q⟩⟩
theorem qs_while {body : List Stmt} {t : MT} {b : MS} (hp : PassesOwn (model X.prog X.w) X.A X.env X.xe) (hc : PT X c (lT K t)) (hb : PSs X body (lS K b)) : PS X (.While c body [] pos) (lS K (mWhile t b)) := PS.imp (ps_while hp hc hb) fun D σ H ⟨ι, ps, h, sr, hr, n, q⟩ => by
  refine ⟨fun m σ' H' => ∃ ι' ps' h', Go ι ι' H H' ∧ SR K ι' H' σ' ps' ∧ HR K ι' H' h' ∧ whileN t b (pD K ι H D) m ps' h', ⟨n, ι, ps, h, Go.refl _ _, sr, hr, q⟩, ?_⟩
  rintro m σ1 H1 ⟨ι1, ps1, h1, g1, s1, r1, q1⟩
  cases m with
  | zero => exact q1.elim
  | succ m =>
    refine ⟨ι1, ps1, h1, s1, r1, t.mono (fun k h2 q2 ι2 H2 g2 r2 => ?_) q1⟩
    cases k with
    | false => rw [if_neg Bool.false_ne_true] at q2 ⊢; exact q2 ι2 σ1 H2 (g1.trans g2) r2 (s1.go r1 g2)
    | true =>
      rw [if_pos rfl] at q2 ⊢
      refine ⟨fun σ3 H3 => ∃ ι3 ps3 h3, Go ι ι3 H H3 ∧ SR K ι3 H3 σ3 ps3 ∧ HR K ι3 H3 h3 ∧ whileN t b (pD K ι H D) m ps3 h3, fun σ3 H3 ⟨ι3, ps3, h3, a1, a2, a3, a4⟩ => ⟨m, Nat.lt_succ_self m, ι3, ps3, h3, a1, a2, a3, a4⟩, ?_⟩
      have gg := g1.trans g2
      refine ⟨ι2, ps1, h2, s1.go r1 g2, r2, b.le q2 ⟨fun ps5 h5 q5 ι5 σ5 H5 g5 r5 s5 => ?_, fun _ _ z => pQ.go gg z, fun _ _ z => pN.go gg z, fun ps5 h5 q5 ι5 σ5 H5 g5 r5 s5 => ?_⟩⟩
      · exact ⟨ι5, ps5, h5, gg.trans g5, s5, r5, q5⟩
      · exact ⟨ι5, ps5, h5, gg.trans g5, s5, r5, q5⟩
end
end PL
set_option Elab.async false
set_option linter.all false
set_option maxRecDepth 100000
namespace PL
open PySem PySem.Spec PyProof.Rows L2
variable {K : PySem.W.Frag}
section
variable {X : Cx} {a b c e : Expr} {es : List Expr} {pos : Pos}
def pblk (ix : List (Option Nat)) (ps : PSt) : PSt := ix.map fun o => match o with | some j => (ps[j]?).getD none | none => none
theorem SR.blk {ι : List Addr} {H : Hp} {σ : L2.St} {ps : PSt} (s : SR K ι H σ ps) (ix : List (Option Nat)) : SR K ι H (blkSt ix σ) (pblk ix ps) := by
  unfold blkSt pblk
  refine ⟨by rw [List.length_map, List.length_map], fun i p e => ?_⟩
  rw [List.getElem?_map] at e ⊢
  cases q : ix[i]? with
  | none => rw [q] at e; cases e
  | some o =>
    rw [q] at e
    cases o with
    | none => cases e
    | some j =>
      have e' : (ps[j]?).getD none = some p := Option.some.inj e
      have e2 : ps[j]? = some (some p) := by
        cases z : ps[j]? with
        | none => rw [z] at e'; cases e'
        | some y => rw [z] at e'; exact congrArg some e'
      obtain ⟨v, h1, h2⟩ := s.2 j p e2
      exact ⟨v, by show some ((σ[j]?).getD none) = _; rw [h1]; rfl, h2⟩
def lcV (S : Src) (g : MG) (tf : MT) (te : ME) (Q : List PV → PH → Prop) : List PV → List PV → PSt → PH → Prop
  | [], acc, _, h => S.ok h ∧ Q acc h
  | x :: r, acc, ps, h => S.ok h ∧ g.run x ps h fun ps1 h1 => tf.run ps1 h1 fun k h2 => if k = true then te.run ps1 h2 fun y h3 => acc.length + 1 ≤ sizeLine ∧ lcV S g tf te Q r (acc ++ [y]) ps1 h3 else lcV S g tf te Q r acc ps1 h2
theorem lcV.mono {S : Src} {g : MG} {tf : MT} {te : ME} {Q Q' : List PV → PH → Prop} (f : ∀ l h, Q l h → Q' l h) : ∀ {xs acc : List PV} {ps h}, lcV S g tf te Q xs acc ps h → lcV S g tf te Q' xs acc ps h
  | [], _, _, _, q => ⟨q.1, f _ _ q.2⟩
  | x :: r, _, _, _, q => ⟨q.1, g.le q.2 fun ps1 h1 q => tf.mono (fun k h2 q => by
    cases k with
    | true => rw [if_pos rfl] at q ⊢; exact te.mono (fun _ _ q => ⟨q.1, lcV.mono f q.2⟩) q
    | false => rw [if_neg Bool.false_ne_true] at q ⊢; exact lcV.mono f q) q⟩
def mLc (ix : List (Option Nat)) (mi : MI) (g : MG) (tf : MT) (te : ME) : ML := ⟨fun ps h Q => mi.run ps h fun S h1 => lcV S g tf te Q S.items [] (pblk ix ps) h1, fun f q => mi.mono (fun _ _ q => lcV.mono f q) q⟩
theorem HR.side {ι : List Addr} {H : Hp} {h : PH} {D : Addr} {ys zs : List V} (r : HR K ι H h) (hD : D ∉ ι) (e : H D = some (.lst ys)) : HR K ι (upd H D (.lst zs)) h ∧ TupsK K H (upd H D (.lst zs)) := by
  have ht : TupsK K H (upd H D (.lst zs)) := ⟨fun b vs q => by rw [upd_ne (ne_of q e (by intro z; cases z))]; exact q, fun b vs q => q.elim (fun ⟨o, q⟩ => .inl ⟨o, by rw [upd_ne (ne_of q e (by intro z; cases z))]; exact q⟩) .inr⟩
  refine ⟨⟨r.nd, r.len, fun n a o e1 e2 => (r.obj n a o e1 e2).mono ht (fun _ _ z => z) (upd_ne fun z => hD (z ▸ List.mem_of_getElem? e1))⟩, ht⟩
theorem lL_lc {ix : List (Option Nat)} {mi : MI} {g : MG} {tf : MT} {te : ME} : ∀ σ H Q, lL K (mLc ix mi g tf te) σ H Q → tLc ix (lI K mi) (lG K g) (lT K tf) (lE K te) σ H Q := by
  rintro σ H Q ⟨ι, ps, h, sr, hr, q⟩
  refine ⟨ι, ps, h, sr, hr, mi.mono (fun S h1 q1 ι1 J H1 g1 r1 js D hD => ?_) q⟩
  have hD1 : D ∉ ι1 := fun z => r1.hv z hD
  refine ⟨fun i m σ' ys H' => ∃ ι' ps' h' acc, Go ι1 ι' H1 H' ∧ D ∉ ι' ∧ SR K ι' H' σ' ps' ∧ HR K ι' H' h' ∧ H' D = some (.lst ys) ∧ VRs K ι' H' ys acc ∧ m = S.items.length - i ∧ i ≤ S.items.length ∧
    lcV S g tf te (fun l h' => ∀ ι' a H', Go ι ι' H H' → HR K ι' H' h' → H a = none → Own K ι' H' a l → Q (.ref a) H') (S.items.drop i) acc ps' h', ⟨S.items.length, ι1, pblk ix ps, h1, [], ?_, hD1, ?_, r1.same (same_new hD _), upd_same, .nil, by simp, Nat.zero_le _, by simpa using q1⟩, ?_⟩
  · exact Go.same (same_new hD _)
  · exact ((sr.go hr g1).go r1 (Go.same (same_new hD _))).blk ix
  rintro i m σ2 ys H2 ⟨ι2, ps2, h2, acc, g2, d2, s2, r2, hy, vy, rfl, hi, q2⟩
  refine ⟨hy, ?_⟩
  by_cases hlt : i < S.items.length
  · have ed : S.items.drop i = S.items[i] :: S.items.drop (i + 1) := (List.drop_eq_getElem_cons hlt)
    rw [ed] at q2
    obtain ⟨ok, q2⟩ := q2
    obtain ⟨j1, j2⟩ := js ι2 H2 h2 g2 r2 ok
    obtain ⟨go, yl⟩ := j1 i _ (List.getElem?_eq_getElem hlt)
    refine .inr ⟨go, fun x H3 y => ?_⟩
    obtain ⟨sm, vx⟩ := yl x H3 y
    have g3 := g2.trans (Go.same sm)
    have r3 := r2.same sm
    have s3 := s2.go r2 (Go.same sm)
    refine ⟨ι2, ps2, h2, _, s3, r3, vx, g.mono (fun ps4 h4 q4 ι4 σ4 H4 g4 r4 s4 => ?_) q2⟩
    refine ⟨ι4, ps4, h4, s4, r4, tf.mono (fun k h5 q5 ι5 H5 g5 r5 => ?_) q4⟩
    -- the new list is nobody's, all the while
    have own5 : Own K ι5 H5 D acc := by
      have o2 : Own K ι2 H2 D acc := ⟨d2, ys, hy, vy⟩
      exact ((o2.go r2 (Go.same sm)).go r3 g4).go r4 g5
    have hy5 : H5 D = some (.lst ys) := g5.keep _ _ ((Own.go (⟨d2, ys, hy, vy⟩ : Own K ι2 H2 D acc) r2 ((Go.same sm).trans g4)).1) (g4.keep _ _ d2 (sm _ _ hy))
    have vy5 : VRs K ι5 H5 ys acc := g5.vrs r4 (g4.vrs r3 ((Go.same sm).vrs r2 vy))
    cases k with
    | false =>
      rw [if_neg Bool.false_ne_true] at q5
      refine iteF ?_
      exact ⟨S.items.length - (i + 1), by omega, ι5, ps4, h5, acc, (g3.trans g4).trans g5, own5.1, s4.go r4 g5, r5, hy5, vy5, rfl, hlt, q5⟩
    | true =>
      rw [if_pos rfl] at q5
      refine iteT ?_
      refine ⟨ι5, ps4, h5, s4.go r4 g5, r5, te.mono (fun w h6 q6 ι6 u6 H6 g6 r6 v6 => ?_) q5⟩
      have hy6 : H6 D = some (.lst ys) := g6.keep _ _ own5.1 hy5
      have own6 := own5.go r5 g6
      have vy6 := g6.vrs r5 vy5
      refine ⟨hy6, by rw [vy6.length]; exact q6.1, S.items.length - (i + 1), by omega, ι6, ps4, h6, acc ++ [w], ?_, own6.1, ?_, (r6.side own6.1 hy6).1, upd_same, ?_, rfl, hlt, q6.2⟩
      · have gg := ((g3.trans g4).trans g5).trans g6
        refine ⟨gg.ext, gg.new, fun b o hb hq => ?_⟩
        rw [upd_ne (fun z => by rw [z, hD] at hq; cases hq)]
        exact gg.keep b o hb hq
      · have ht := (r6.side (zs := ys ++ [u6]) own6.1 hy6).2
        have s6 := (s4.go r4 g5).go r5 g6
        exact ⟨s6.1, fun i p e => let ⟨v, e1, e2⟩ := s6.2 i p e; ⟨v, e1, e2.mono ht fun _ _ z => z⟩⟩
      · have ht := (r6.side (zs := ys ++ [u6]) own6.1 hy6).2
        exact (vy6.append (.cons v6 .nil)).mono ht fun _ _ z => z
  · have e : i = S.items.length := by omega
    subst e
    rw [List.drop_length] at q2
    obtain ⟨ok, q2⟩ := q2
    have n0 : H D = none := g1.free' r1 hD
    exact .inl ⟨(js ι2 H2 h2 g2 r2 ok).2, q2 ι2 D H2 (g1.trans g2) r2 n0 ⟨d2, ys, hy, vy⟩⟩
def mAll : MT := ⟨fun _ h Q => Q true h, fun f q => f _ _ q⟩
theorem qfs_nil : PFs X [] (lT K mAll) := fun pins s σ H Q I ⟨ι, ps, h, sr, hr, q⟩ => pfs_nil pins s σ H Q I (q ι H (Go.refl _ _) hr)
theorem qfs_one {m : MT} (h : PT X c (lT K m)) : PFs X [c] (lT K m) := pfs_one h
section
variable {elt tg iter : Expr} {ifs : List Expr} {sc : Scope} {N' : List Str} {ix : List (Option Nat)} {mi : MI} {g : MG} {tf : MT} {te : ME}
theorem q_lc (hc : X.calm = true) (S : LcScope X.env.scope X.N sc N' ix) (hi : PI X tg iter (lI K mi))
    (hg : ∀ cl C s2 H2 fp, PG (blk X sc N' cl C s2 H2 fp) tg (lG K g)) (hf : ∀ cl C s2 H2 fp, PFs (blk X sc N' cl C s2 H2 fp) ifs (lT K tf)) (he : ∀ cl C s2 H2 fp, PE (blk X sc N' cl C s2 H2 fp) elt (lE K te))
    (hs : ∀ x, foldedSetIterable iter X.env x = pure x := by intro _; rfl) : PE X (.ListComp elt [⟨tg, iter, ifs, 0⟩] sc pos) (lL K (mLc ix mi g tf te)) := PE.imp (pe_lc hc S hi hg hf he hs) lL_lc
theorem q_setlc {i : Nat} {x : Str} {px spos : Pos} (hc : X.calm = true) (hN : X.N.Nodup) (hi' : X.N[i]? = some x) (hx : X.env.scope.names.lookup x = some .local) (S : LcScope X.env.scope X.N sc N' ix) (hi : PI X tg iter (lI K mi))
    (hg : ∀ cl C s2 H2 fp, PG (blk X sc N' cl C s2 H2 fp) tg (lG K g)) (hf : ∀ cl C s2 H2 fp, PFs (blk X sc N' cl C s2 H2 fp) ifs (lT K tf)) (he : ∀ cl C s2 H2 fp, PE (blk X sc N' cl C s2 H2 fp) elt (lE K te))
    (hsw : swapsWith (.ListComp elt [⟨tg, iter, ifs, 0⟩] sc pos) (some (.Name x px)) spos.line X.env = pure true := by rfl)
    (hs : ∀ x, foldedSetIterable iter X.env x = pure x := by intro _; rfl) : PS X (.Assign [.Name x px] (.ListComp elt [⟨tg, iter, ifs, 0⟩] sc pos) spos) (lS K (mAsg (mAlloc (mLc ix mi g tf te)) (gSet i))) :=
  PS.imp (ps_setlc hc hN hi' hx S hi hg hf he hsw hs) fun D σ H ⟨ι, ps, h, sr, hr, q⟩ => lL_lc σ H _ ⟨ι, ps, h, sr, hr, (mLc ix mi g tf te).mono (fun l h1 q1 ι1 a H1 g1 r1 n1 o1 => by
    obtain ⟨vs, e1, e2⟩ := o1.2
    obtain ⟨b1, b2⟩ := r1.adopt (o := .lst l) o1.1 ⟨vs, e1, e2⟩
    have gg := g1.adopt n1
    exact q1 _ _ H1 gg b1 ((sr.go hr gg).set b2 i)) q⟩
end
structure MF where
  run : List PV → PH → QV → Prop
  mono : ∀ {l h} {Q Q' : QV}, (∀ v h', Q v h' → Q' v h') → run l h Q → run l h Q'
def spOf (K : PySem.W.Frag) (F : MF) : Sp := fun vs H Q _ => ∃ ι h l, HR K ι H h ∧ VRs K ι H vs l ∧ F.run l h (pQ K ι H Q)
def mCall (F : MF) (m : MA) : ME := ⟨fun ps h Q => m.run ps h fun l h1 => F.run l h1 Q, fun f q => m.mono (fun _ _ q => F.mono f q) q⟩
theorem lE_call {F : MF} {m : MA} : ∀ σ H Q, lE K (mCall F m) σ H Q → tCalC (spOf K F) (lA K m) σ H Q := fun σ H Q ⟨ι, ps, h, sr, hr, q⟩ =>
  ⟨ι, ps, h, sr, hr, m.mono (fun l h1 q1 ι1 vs H1 g1 r1 v1 => ⟨ι1, h1, l, r1, v1, F.mono (fun _ _ z => pQ.go g1 z) q1⟩) q⟩
theorem q_call {k k' : Nat} {ps : List Str} {F : MF} {x : Str} {p : Pos} {m : MA} (G : Cal X.prog X.w X.K X.mg X.base x k ps (spOf K F)) (hr : Room k' X.A) (hk : k ≤ k') (hg : Gl X x) (ha : PA X (e :: es) (lA K m)) (hdb : (x == ("__debug__" : Str)) = false := by decide)
    (he : starEach (e :: es) X.env = (false, eval e X.env) :: starEach es X.env := by rfl) (hpl : (backTo pos (starEach es X.env)).any (·.1) = false := by rfl) : PE X (.Call (.Name x p) (e :: es) [] pos) (lE K (mCall F m)) := PE.imp (pe_cal G hr hk hg ha hdb he hpl) lE_call
structure MFL where
  run : List PV → PH → (List PV → PH → Prop) → Prop
  mono : ∀ {l h} {Q Q' : List PV → PH → Prop}, (∀ v h', Q v h' → Q' v h') → run l h Q → run l h Q'
def spL (K : PySem.W.Frag) (F : MFL) : Sp := fun vs H Q _ => ∃ ι h l, HR K ι H h ∧ VRs K ι H vs l ∧ F.run l h fun l h' => ∀ ι' a H', Go ι ι' H H' → HR K ι' H' h' → H a = none → Own K ι' H' a l → Q (.ref a) H'
def mCallL (F : MFL) (m : MA) : ML := ⟨fun ps h Q => m.run ps h fun l h1 => F.run l h1 Q, fun f q => m.mono (fun _ _ q => F.mono f q) q⟩
theorem q_callL {k k' : Nat} {ps : List Str} {F : MFL} {x : Str} {p : Pos} {m : MA} (G : Cal X.prog X.w X.K X.mg X.base x k ps (spL K F)) (hr : Room k' X.A) (hk : k ≤ k') (hg : Gl X x) (ha : PA X (e :: es) (lA K m)) (hdb : (x == ("__debug__" : Str)) = false := by decide)
    (he : starEach (e :: es) X.env = (false, eval e X.env) :: starEach es X.env := by rfl) (hpl : (backTo pos (starEach es X.env)).any (·.1) = false := by rfl) : PE X (.Call (.Name x p) (e :: es) [] pos) (lL K (mCallL F m)) := PE.imp (pe_cal G hr hk hg ha hdb he hpl) fun σ H Q ⟨ι, ps, h, sr, hr, q⟩ =>
  ⟨ι, ps, h, sr, hr, m.mono (fun l h1 q1 ι1 vs H1 g1 r1 v1 => ⟨ι1, h1, l, r1, v1, F.mono (fun _ _ z ι2 a H2 g2 r2 n2 o2 => z ι2 a H2 (g1.trans g2) r2 (g1.free' r1 n2) o2) q1⟩) q⟩
structure MB1 where
  f : List PV → PH → QV → Prop
  mono : ∀ {l h} {Q Q' : QV}, (∀ v h', Q v h' → Q' v h') → f l h Q → f l h Q'
def MB1.Ok (K : PySem.W.Frag) (r : List V → Hp → VK → Prop) (m : MB1) : Prop := ∀ {ι H h vs l Q}, HR K ι H h → VRs K ι H vs l → m.f l h (pQ K ι H Q) → r vs H Q
def mBi (B : MB1) (m : MA) : ME := ⟨fun ps h Q => m.run ps h fun l h1 => B.f l h1 Q, fun f q => m.mono (fun _ _ q => B.mono f q) q⟩
theorem lE_bi {r : List V → Hp → VK → Prop} {B : MB1} (hB : MB1.Ok K r B) {m : MA} : ∀ σ H Q, lE K (mBi B m) σ H Q → tCB r (lA K m) σ H Q := fun σ H Q ⟨ι, ps, h, sr, hr, q⟩ =>
  ⟨ι, ps, h, sr, hr, m.mono (fun l h1 q1 ι1 vs H1 g1 r1 v1 => hB r1 v1 (B.mono (fun _ _ z => pQ.go g1 z) q1)) q⟩
structure MB2 where
  f : Src → PH → QV → Prop
  mono : ∀ {l h} {Q Q' : QV}, (∀ v h', Q v h' → Q' v h') → f l h Q → f l h Q'
def MB2.Ok (K : PySem.W.Frag) (r : List V → Hp → VK → Prop) (m : MB2) : Prop := ∀ {ι H h v S Q}, HR K ι H h → SqS K ι H v S → S.ok h → m.f S h (pQ K ι H Q) → r [v] H Q
def mBiQ (B : MB2) (m : MQ) : ME := ⟨fun ps h Q => m.run ps h fun l h1 => B.f l h1 Q, fun f q => m.mono (fun _ _ q => B.mono f q) q⟩
theorem lE_biQ {K : PySem.W.Frag} {r : List V → Hp → VK → Prop} {B : MB2} (hB : MB2.Ok K r B) {m : MQ} : ∀ σ H Q, lE K (mBiQ B m) σ H Q → tCB r (tCons (lQ K m) tNil) σ H Q := fun σ H Q ⟨ι, ps, h, sr, hr, q⟩ =>
  ⟨ι, ps, h, sr, hr, m.mono (fun l h1 q1 ι1 v H1 g1 r1 v1 ok => hB r1 v1 ok (B.mono (fun _ _ z => pQ.go g1 z) q1)) q⟩
section
variable {x : Str} {p : Pos} {id : String} {r : List V → Hp → VK → Prop}
theorem q_callB {B : MB1} {m : MA} (hc : CallR X (.builtin id) r) (hB : MB1.Ok K r B) (hg : Gl X x) (hm : X.mg x = none) (hv : bootBuiltins x = some (.builtin id)) (ha : PA X (e :: es) (lA K m)) (hn : x ≠ "__name__" := by decide) (hdb : (x == ("__debug__" : Str)) = false := by decide)
    (he : starEach (e :: es) X.env = (false, eval e X.env) :: starEach es X.env := by rfl) (hpl : (backTo pos (starEach es X.env)).any (·.1) = false := by rfl) : PE X (.Call (.Name x p) (e :: es) [] pos) (lE K (mBi B m)) := PE.imp (pe_callB hc hg hm hv ha hn hdb he hpl) (lE_bi hB)
theorem q_callTy {B : MB1} {m : MA} (hc : CallR X (.type id) r) (hB : MB1.Ok K r B) (hg : Gl X x) (hm : X.mg x = none) (hv : bootBuiltins x = some (.type id)) (ha : PA X (e :: es) (lA K m)) (hn : x ≠ "__name__" := by decide) (hdb : (x == ("__debug__" : Str)) = false := by decide)
    (he : starEach (e :: es) X.env = (false, eval e X.env) :: starEach es X.env := by rfl) (hpl : (backTo pos (starEach es X.env)).any (·.1) = false := by rfl) : PE X (.Call (.Name x p) (e :: es) [] pos) (lE K (mBi B m)) := PE.imp (pe_callTy hc hg hm hv ha hn hdb he hpl) (lE_bi hB)
theorem q_callTyQ {K : PySem.W.Frag} {B : MB2} {m : MQ} (hc : CallR X (.type id) r) (hB : MB2.Ok K r B) (hg : Gl X x) (hm : X.mg x = none) (hv : bootBuiltins x = some (.type id)) (ha : PE X e (lQ K m)) (hn : x ≠ "__name__" := by decide) (hdb : (x == ("__debug__" : Str)) = false := by decide)
    (he : starEach [e] X.env = (false, eval e X.env) :: starEach [] X.env := by rfl) (hpl : (backTo pos (starEach [] X.env)).any (·.1) = false := by rfl) : PE X (.Call (.Name x p) [e] [] pos) (lE K (mBiQ B m)) := PE.imp (pe_callTy hc hg hm hv (pa_cons ha pa_nil he) hn hdb he hpl) (lE_biQ hB)
end
end
end PL
set_option Elab.async false
set_option linter.all false
set_option maxRecDepth 100000
namespace PL
open PySem PySem.Spec PyProof.Rows L2
variable {K : PySem.W.Frag}
def aI (g : Int → Int → PV) : M2 := ⟨fun x y h Q => match x, y with | .int i, .int j => Q (g i j) h | _, _ => False, fun f q => by
  revert q
  split
  · exact f _ _
  · exact fun z => z⟩
def aIc (C : Int → Int → Prop) (g : Int → Int → PV) : M2 := ⟨fun x y h Q => match x, y with | .int i, .int j => C i j ∧ Q (g i j) h | _, _ => False, fun f q => by
  revert q
  split
  · exact fun q => ⟨q.1, f _ _ q.2⟩
  · exact fun z => z⟩
theorem aI_ok {g : Int → Int → PV} {g' : Int → Int → V} (hg : ∀ ι H i j, VR K ι H (g' i j) (g i j)) : M2.Ok K (rI0 g') (aI g) := by
  intro ι H h u v x y Q hr hu hv q
  unfold aI at q
  dsimp only at q
  revert q
  split
  · intro q; cases hu; cases hv; exact ⟨_, _, rfl, rfl, q ι _ H (Go.refl _ _) hr (hg _ _ _ _)⟩
  · exact False.elim
theorem aIc_ok {C : Int → Int → Prop} {g : Int → Int → PV} {g' : Int → Int → V} (hg : ∀ ι H i j, VR K ι H (g' i j) (g i j)) : M2.Ok K (rI C g') (aIc C g) := by
  intro ι H h u v x y Q hr hu hv q
  unfold aIc at q
  dsimp only at q
  revert q
  split
  · intro q; cases hu; cases hv; exact ⟨_, _, rfl, rfl, q.1, q.2 ι _ H (Go.refl _ _) hr (hg _ _ _ _)⟩
  · exact False.elim
def oSub := aI fun i j => .int (i - j)
def oMul := aIc IntMulOk fun i j => .int (i * j)
def oDiv := aIc CDiv fun i j => .int (i / j)
def oMod := aIc (fun _ j => 0 < j) fun i j => .int (i % j)
def oPow := aIc CPow fun i j => .int (i ^ j.toNat)
def oLt := aI fun i j => .bl (decide (i < j))
def oLe := aI fun i j => .bl (decide (i ≤ j))
def oGt := aI fun i j => .bl (decide (j < i))
def oGe := aI fun i j => .bl (decide (j ≤ i))
def oAdd : M2 := ⟨fun x y h Q => match x, y with
  | .int i, .int j => Q (.int (i + j)) h
  | .str a, .str b => a.length + b.length ≤ sizeLine ∧ Q (.str (a ++ b)) h
  | .tup a, .tup b => a ≠ [] ∧ a.length + b.length ≤ sizeLine ∧ Q (.tup (a ++ b)) h
  | _, _ => False, fun f q => by
    revert q
    split
    · exact f _ _
    · exact fun q => ⟨q.1, f _ _ q.2⟩
    · exact fun q => ⟨q.1, q.2.1, f _ _ q.2.2⟩
    · exact fun z => z⟩
section
variable {ι : List Addr} {H : Hp}
theorem VRs.nil_iff : ∀ {vs : List V} {l : List PV}, VRs K ι H vs l → (vs = [] ↔ l = [])
  | _, _, .nil => by simp
  | _, _, .cons _ _ => by simp
end
theorem oAdd_ok (K : PySem.W.Frag) : M2.Ok K (rPlus K) oAdd := by
  intro ι H h u v x y Q hr hu hv q
  unfold oAdd at q
  dsimp only at q
  revert q
  split
  · intro q; cases hu; cases hv; exact ⟨_, rfl, q ι _ H (Go.refl _ _) hr (.int _)⟩
  · intro q; cases hu; cases hv; exact ⟨_, rfl, q.1, q.2 ι _ H (Go.refl _ _) hr (.str _)⟩
  · intro q
    cases hu with
    | @tup p vs l e r =>
    cases hv with
    | @tup p' vs' l' e' r' =>
    refine .inr ⟨p, p', vs, vs', rfl, rfl, SqT.of e, SqT.of e', fun z => q.1 (r.nil_iff.mp z), by rw [r.length, r'.length]; exact q.2.1, fun z => ?_, fun z a ha => ?_⟩
    · have z' := r'.nil_iff.mp z
      subst z'
      have q2 := q.2.2
      rw [List.append_nil] at q2
      exact q2 ι _ H (Go.refl _ _) hr (.tup e r)
    · have s := same_new ha (.tup (vs ++ vs'))
      exact q.2.2 ι _ _ (Go.same s) (hr.same s) (.tup upd_same ((Go.same s).vrs hr (r.append r')))
  · exact False.elim
mutual
def PV.dat : PV → Bool
  | .tup l => datL l
  | .ref _ => false
  | .ty _ => false
  | .cl _ => false
  | _ => true
def datL : List PV → Bool
  | [] => true
  | x :: l => x.dat && datL l
end
mutual
def PV.dep : PV → Nat
  | .tup l => depL l + 1
  | _ => 0
def depL : List PV → Nat
  | [] => 0
  | x :: l => max x.dep (depL l)
end
mutual
def peq : PV → PV → Bool
  | .non, .non => true
  | .bl a, .bl b => a == b
  | .bl a, .int b => (if a then 1 else 0) == b
  | .int a, .bl b => a == (if b then 1 else 0)
  | .int a, .int b => a == b
  | .str a, .str b => a == b
  | .tup l, .tup m => peqs l m
  | _, _ => false
def peqs : List PV → List PV → Bool
  | [], [] => true
  | x :: l, y :: m => peq x y && peqs l m
  | _, _ => false
end
theorem datL_get : ∀ {l : List PV} {j : Nat} {x : PV}, datL l = true → l[j]? = some x → x.dat = true
  | [], _, _, _, e => by simp at e
  | y :: l, 0, x, h, e => by
    simp at e; subst e
    rw [datL, Bool.and_eq_true] at h; exact h.1
  | y :: l, j + 1, x, h, e => by
    rw [datL, Bool.and_eq_true] at h
    exact datL_get h.2 (by simpa using e)
theorem depL_get : ∀ {l : List PV} {j : Nat} {x : PV}, l[j]? = some x → x.dep ≤ depL l
  | [], _, _, e => by simp at e
  | y :: l, 0, x, e => by
    simp at e; subst e
    rw [depL]; omega
  | y :: l, j + 1, x, e => by
    have := depL_get (l := l) (j := j) (x := x) (by simpa using e)
    rw [depL]; omega
mutual
theorem peq_refl : ∀ (x : PV), x.dat = true → peq x x = true
  | .non, _ => rfl
  | .bl b, _ => by rw [peq]; simp
  | .int i, _ => by rw [peq]; simp
  | .str i, _ => by rw [peq]; simp
  | .tup l, h => by rw [peq]; exact peqs_refl l (by rw [PV.dat] at h; exact h)
  | .ref _, h => by rw [PV.dat] at h; cases h
  | .ty _, h => by rw [PV.dat] at h; cases h
  | .cl _, h => by rw [PV.dat] at h; cases h
theorem peqs_refl : ∀ (l : List PV), datL l = true → peqs l l = true
  | [], _ => by rw [peqs]
  | x :: l, h => by
    rw [datL, Bool.and_eq_true] at h
    rw [peqs, peq_refl x h.1, peqs_refl l h.2]; rfl
end
section
variable {ι : List Addr} {H : Hp}
def InjT (K : PySem.W.Frag) (H : Hp) : Prop := ∀ a vs ws, H a = some (.tup vs) → H a = some (.tup ws) → vs = ws
mutual
theorem VR.fn (inj : InjT K H) : ∀ {v : V} {x y : PV}, VR K ι H v x → VR K ι H v y → x.dat = true → y.dat = true → x = y
  | _, _, _, .non, h, _, _ => by cases h; rfl
  | _, _, _, .bl b, h, _, _ => by cases h; rfl
  | _, _, _, .int b, h, _, _ => by cases h; rfl
  | _, _, _, .str b, h, _, _ => by cases h; rfl
  | _, _, _, .ty b, h, _, _ => by cases h; rfl
  | _, _, _, .ref e, h, d, _ => by rw [PV.dat] at d; cases d
  | _, _, _, .cl e _, h, d, _ => by rw [PV.dat] at d; cases d
  | _, _, _, .tup e r, h, d, d' => by
    cases h with
    | tup e' r' =>
      have ee := inj _ _ _ e e'
      subst ee
      rw [PV.dat] at d d'
      rw [VRs.fn inj r r' d d']
    | ref e => rw [PV.dat] at d'; cases d'
    | cl e _ => rw [PV.dat] at d'; cases d'
theorem VRs.fn (inj : InjT K H) : ∀ {v : List V} {x y : List PV}, VRs K ι H v x → VRs K ι H v y → datL x = true → datL y = true → x = y
  | _, _, _, .nil, h, _, _ => by cases h; rfl
  | _, _, _, .cons r t, h, d, d' => by
    cases h with
    | cons r' t' =>
      rw [datL, Bool.and_eq_true] at d d'
      rw [VR.fn inj r r' d.1 d'.1, VRs.fn inj t t' d.2 d'.2]
end
end
def eqJ (l m : List PV) (j : Nat) : Bool := match l[j]?, m[j]? with | some x, some y => peq x y | _, _ => true
theorem peqs_all : ∀ (l m : List PV), ((List.range (min l.length m.length)).all (eqJ l m) && l.length == m.length) = peqs l m
  | [], [] => by rw [peqs]; rfl
  | [], _ :: _ => by
    rw [peqs]
    · simp
    · intros; simp_all
    · intros; simp_all
  | _ :: _, [] => by
    rw [peqs]
    · simp
    · intros; simp_all
    · intros; simp_all
  | x :: l, y :: m => by
    rw [peqs, ← peqs_all l m]
    have e : min (x :: l).length (y :: m).length = min l.length m.length + 1 := by simp only [List.length_cons]; omega
    rw [e, List.range_succ_eq_map, List.all_cons, List.all_map]
    have e2 : ((x :: l).length == (y :: m).length) = (l.length == m.length) := by simp
    rw [e2, Bool.and_assoc]
    rfl
section
variable {X : Cx} {pins : List (Addr × Obj)} {σ : L2.St} {H : Hp} {s : Shared} {ι : List Addr}
theorem rc_pv (I : Inv X pins σ H s) {A : Around} {a b : Addr} {vs ws : List V} {l m : List PV} (e : SqT X.K H a vs) (e' : SqT X.K H b ws) (r1 : VRs K ι H vs l) (r2 : VRs K ι H ws m) (hu : A.units < cLine)
    (ih : ∀ (j : Nat) (x y : PV) (v v' : V) (w w' : Value), l[j]? = some x → m[j]? = some y → VR K ι H v x → VR K ι H v' y → RelV v w → RelV v' w' → SeqAt.EqAt A.in1 s w w' (peq x y)) : SeqAt.RcAt A s (.ref a) (.ref b) (peqs l m) := by
  obtain ⟨its, r, ht, _⟩ := I.tuple e
  obtain ⟨its', r', ht', _⟩ := I.tuple e'
  have q := SeqAt.RcAt.tuples (A := A) (e := eqJ l m) ht ht' hu (fun j g1 g2 => by
    have h1 : j < its.length := by simpa using g1
    have h2 : j < its'.length := by simpa using g2
    have hl : j < l.length := by rw [← r1.length, r.length]; exact h1
    have hm : j < m.length := by rw [← r2.length, r'.length]; exact h2
    obtain ⟨v, v1, v2⟩ := r1.get (List.getElem?_eq_getElem hl)
    obtain ⟨v', v1', v2'⟩ := r2.get (List.getElem?_eq_getElem hm)
    obtain ⟨u, u1, u2⟩ := r.get v1
    obtain ⟨u', u1', u2'⟩ := r'.get v1'
    rw [List.getElem?_eq_getElem h1] at u1
    rw [List.getElem?_eq_getElem h2] at u1'
    cases u1
    cases u1'
    unfold eqJ
    rw [List.getElem?_eq_getElem hl, List.getElem?_eq_getElem hm]
    have := ih j _ _ v v' _ _ (List.getElem?_eq_getElem hl) (List.getElem?_eq_getElem hm) v2 v2' u2 u2'
    simpa using this)
  have e1 : its.toArray.size = l.length := by rw [List.size_toArray, ← r.length, r1.length]
  have e2 : its'.toArray.size = m.length := by rw [List.size_toArray, ← r'.length, r2.length]
  rw [e1, e2, peqs_all] at q
  exact q
theorem eq_pv (hK : X.K = K) (I : Inv X pins σ H s) : ∀ (n : Nat) (x y : PV) (A : Around) (v v' : V) (w w' : Value), x.dep ≤ n → x.dat = true → y.dat = true → VR K ι H v x → VR K ι H v' y → RelV v w → RelV v' w' → A.units + n + 1 < cLine → SeqAt.EqAt A s w w' (peq x y) := by
  subst hK
  intro n
  induction n with
  | zero =>
    intro x y A v v' w w' hd dx dy hv hv' r1 r2 hu
    cases hv with
    | tup e r => rw [PV.dep] at hd; omega
    | ref e => rw [PV.dat] at dx; cases dx
    | ty e => rw [PV.dat] at dx; cases dx
    | cl e _ => rw [PV.dat] at dx; cases dx
    | non =>
      cases r1
      cases hv' with
      | non => cases r2; exact SeqAt.EqAt.same _
      | bl b => cases r2; exact SeqAt.EqAt.none_bool b
      | int b => obtain ⟨t, rfl⟩ := r2; exact SeqAt.EqAt.none_int b t
      | str b => obtain ⟨t, rfl⟩ := r2; exact SeqAt.EqAt.none_str b t
      | tup e r => cases r2; obtain ⟨its, _, ht, _⟩ := I.tuple (SqT.of e); exact SeqAt.EqAt.none_tuple ht (by omega)
      | ref e => rw [PV.dat] at dy; cases dy
      | ty e => rw [PV.dat] at dy; cases dy
      | cl e _ => rw [PV.dat] at dy; cases dy
    | bl a =>
      cases r1
      cases hv' with
      | non => cases r2; exact SeqAt.EqAt.bool_none a
      | bl b => cases r2; exact SeqAt.EqAt.bool_bool a b
      | int b => obtain ⟨t, rfl⟩ := r2; exact SeqAt.EqAt.bool_int a b t
      | str b => obtain ⟨t, rfl⟩ := r2; exact SeqAt.EqAt.bool_str a b t
      | tup e r => cases r2; obtain ⟨its, _, ht, _⟩ := I.tuple (SqT.of e); exact SeqAt.EqAt.bool_tuple a ht (by omega)
      | ref e => rw [PV.dat] at dy; cases dy
      | ty e => rw [PV.dat] at dy; cases dy
      | cl e _ => rw [PV.dat] at dy; cases dy
    | int a =>
      obtain ⟨t', rfl⟩ := r1
      cases hv' with
      | non => cases r2; exact SeqAt.EqAt.int_none a t'
      | bl b => cases r2; exact SeqAt.EqAt.int_bool a t' b
      | int b => obtain ⟨t, rfl⟩ := r2; exact SeqAt.EqAt.int_int a t' b t
      | str b => obtain ⟨t, rfl⟩ := r2; exact SeqAt.EqAt.int_str a t' b t
      | tup e r => cases r2; obtain ⟨its, _, ht, _⟩ := I.tuple (SqT.of e); exact SeqAt.EqAt.int_tuple a t' ht (by omega)
      | ref e => rw [PV.dat] at dy; cases dy
      | ty e => rw [PV.dat] at dy; cases dy
      | cl e _ => rw [PV.dat] at dy; cases dy
    | str a =>
      obtain ⟨t', rfl⟩ := r1
      cases hv' with
      | non => cases r2; exact SeqAt.EqAt.str_none a t'
      | bl b => cases r2; exact SeqAt.EqAt.str_bool a t' b
      | int b => obtain ⟨t, rfl⟩ := r2; exact SeqAt.EqAt.str_int a t' b t
      | str b => obtain ⟨t, rfl⟩ := r2; exact SeqAt.EqAt.str_str a t' b t
      | tup e r => cases r2; obtain ⟨its, _, ht, _⟩ := I.tuple (SqT.of e); exact SeqAt.EqAt.str_tuple a t' ht (by omega)
      | ref e => rw [PV.dat] at dy; cases dy
      | ty e => rw [PV.dat] at dy; cases dy
      | cl e _ => rw [PV.dat] at dy; cases dy
  | succ n ih =>
    intro x y A v v' w w' hd dx dy hv hv' r1 r2 hu
    cases hv with
    | tup e r =>
      cases r1
      cases hv' with
      | non => cases r2; obtain ⟨its, _, ht, _⟩ := I.tuple (SqT.of e); exact SeqAt.EqAt.tuple_none ht (by omega)
      | bl b => cases r2; obtain ⟨its, _, ht, _⟩ := I.tuple (SqT.of e); exact SeqAt.EqAt.tuple_bool b ht (by omega)
      | int b => obtain ⟨t, rfl⟩ := r2; obtain ⟨its, _, ht, _⟩ := I.tuple (SqT.of e); exact SeqAt.EqAt.tuple_int b t ht (by omega)
      | str b => obtain ⟨t, rfl⟩ := r2; obtain ⟨its, _, ht, _⟩ := I.tuple (SqT.of e); exact SeqAt.EqAt.tuple_str b t ht (by omega)
      | ref e => rw [PV.dat] at dy; cases dy
      | ty e => rw [PV.dat] at dy; cases dy
      | cl e _ => rw [PV.dat] at dy; cases dy
      | @tup b ws m e' r' =>
        cases r2
        rename_i a vs l
        have dl : datL l = true := by rw [PV.dat] at dx; exact dx
        have dm : datL m = true := by rw [PV.dat] at dy; exact dy
        by_cases hab : a = b
        · subst hab
          have et := VR.fn (fun a vs ws h1 h2 => I.tuple_inj (SqT.of h1) (SqT.of h2)) (VR.tup (K := X.K) (ι := ι) (H := H) e r) (VR.tup (K := X.K) (ι := ι) (H := H) e' r') dx dy
          rw [← et, peq_refl _ dx]
          exact SeqAt.EqAt.same _
        · have := rc_pv I (SqT.of e) (SqT.of e') r r' (A := A) (by omega) fun j x y v v' w w' hx hy vx vy rx ry => by
            have d1 := depL_get hx
            rw [PV.dep] at hd
            exact ih x y A.in1 v v' w w' (by omega) (datL_get dl hx) (datL_get dm hy) vx vy rx ry (by show A.units + 1 + n + 1 < _; omega)
          rw [peq]
          exact SeqAt.EqAt.of_refs hab this
    | non => exact ih _ y A _ v' _ w' (by simp [PV.dep]) dx dy .non hv' r1 r2 (by omega)
    | bl b => exact ih _ y A _ v' _ w' (by simp [PV.dep]) dx dy (.bl b) hv' r1 r2 (by omega)
    | int b => exact ih _ y A _ v' _ w' (by simp [PV.dep]) dx dy (.int b) hv' r1 r2 (by omega)
    | str b => exact ih _ y A _ v' _ w' (by simp [PV.dep]) dx dy (.str b) hv' r1 r2 (by omega)
    | ref e => rw [PV.dat] at dx; cases dx
    | ty e => rw [PV.dat] at dx; cases dx
    | cl e _ => rw [PV.dat] at dx; cases dx
end
def pEqB (x y : PV) (h : PH) (Q : Bool → Prop) : Prop := match x, y with
  | .int a, .int b => Q (decide (a = b))
  | .str a, .str b => Q (decide (a = b))
  | .bl a, .bl b => Q (decide (a = b))
  | .non, .non => Q true
  | .non, .int _ => Q false
  | .non, .str _ => Q false
  | .non, .bl _ => Q false
  | .int _, .non => Q false
  | .str _, .non => Q false
  | .bl _, .non => Q false
  | .int _, .str _ => Q false
  | .str _, .int _ => Q false
  | .bl _, .str _ => Q false
  | .str _, .bl _ => Q false
  | .tup l, .tup m => datL l = true ∧ datL m = true ∧ depL l ≤ 100 ∧ Q (peqs l m)
  | _, _ => False
theorem pEqB.mono {x y : PV} {h : PH} {Q Q' : Bool → Prop} (f : ∀ b, Q b → Q' b) (q : pEqB x y h Q) : pEqB x y h Q' := by
  unfold pEqB at q ⊢
  revert q
  split <;> first | exact f _ | exact (fun q => ⟨q.1, q.2.1, q.2.2.1, f _ q.2.2.2⟩) | exact fun z => z
def oEq : M2 := ⟨fun x y h Q => pEqB x y h fun b => Q (.bl b) h, fun f q => pEqB.mono (fun b q => f _ _ q) q⟩
def oNe : M2 := ⟨fun x y h Q => pEqB x y h fun b => Q (.bl (!b)) h, fun f q => pEqB.mono (fun b q => f _ _ q) q⟩
def rEqP (K : PySem.W.Frag) (neg : Bool) : R2 := fun x y H Q => (scal x y = true ∧ Q (.bl (if neg then !decide (x = y) else decide (x = y))) H) ∨ ∃ ι a b vs ws l m, x = .ref a ∧ y = .ref b ∧ SqT K H a vs ∧ SqT K H b ws ∧ VRs K ι H vs l ∧ VRs K ι H ws m ∧ datL l = true ∧ datL m = true ∧ depL l ≤ 100 ∧ Q (.bl (if neg then !peqs l m else peqs l m)) H
theorem op_eqP {X : Cx} (K : PySem.W.Frag) (hK : X.K = K) (hu : X.A.units + 200 < cLine) : OpR X (compareOp .Eq) (rEqP K false) := by
  subst hK
  refine OpR.mono (r := fun x y H Q => rEq x y H Q ∨ ∃ ι a b vs ws l m, x = .ref a ∧ y = .ref b ∧ SqT X.K H a vs ∧ SqT X.K H b ws ∧ VRs X.K ι H vs l ∧ VRs X.K ι H ws m ∧ datL l = true ∧ datL m = true ∧ depL l ≤ 100 ∧ Q (.bl (peqs l m)) H) (op_eq.or ?_) (fun x y H Q h => h)
  intro pins s σ H x y v u Q I rx ry h
  obtain ⟨ι, a, b, vs, ws, l, m, rfl, rfl, e, e', r, r', dl, dm, hd, q⟩ := h
  cases rx
  cases ry
  refine EqBoolInt.of_rc (rc_pv I e e' r r' (by omega) fun j x y v v' w w' hx hy vx vy rx ry => ?_) ?_
  · have d1 := depL_get hx
    exact eq_pv rfl I 100 x y _ v v' w w' (by omega) (datL_get dl hx) (datL_get dm hy) vx vy rx ry (by show X.A.units + 1 + 100 + 1 < _; omega)
  · exact ⟨.bl _, H, I, rfl, q⟩
theorem oEq_ok : M2.Ok K (rEqP K false) oEq := by
  intro ι H h u v x y Q hr hu hv q
  have q : pEqB x y h fun b => pQ K ι H Q (.bl b) h := q
  have fin : ∀ {b : Bool} {z : V}, pQ K ι H Q (.bl b) h → z = .bl b → Q z H := fun q e => by subst e; exact q ι _ H (Go.refl _ _) hr (.bl _)
  unfold pEqB at q
  cases hu with
  | tup e r =>
    cases hv with
    | tup e' r' => exact .inr ⟨ι, _, _, _, _, _, _, rfl, rfl, SqT.of e, SqT.of e', r, r', q.1, q.2.1, q.2.2.1, fin q.2.2.2 (by simp)⟩
    | _ => exact q.elim
  | _ => cases hv <;> first | exact q.elim | exact .inl ⟨rfl, fin q (by simp)⟩
end PL
set_option Elab.async false
set_option linter.all false
set_option maxRecDepth 100000
namespace PL
open PySem PySem.Spec PyProof.Rows L2
variable {K : PySem.W.Frag}
section
variable {X : Cx} {a b c e : Expr} {es : List Expr} {pos : Pos}
def PV.isNon : PV → Bool
  | .non => true
  | _ => false
def oIsN : M2 := ⟨fun x y h Q => match y with | .non => Q (.bl x.isNon) h | _ => False, fun f q => by
  revert q
  split
  · exact f _ _
  · exact fun z => z⟩
theorem isNon_dec {ι : List Addr} {H : Hp} {v : V} {x : PV} (h : VR K ι H v x) : decide (v = .non) = x.isNon := by cases h <;> simp [PV.isNon]
theorem oIsN_ok : M2.Ok K (fun x y H Q => y = .non ∧ Q (.bl (decide (x = .non))) H) oIsN := by
  intro ι H h u v x y Q hr hu hv q
  cases hv with
  | non => exact ⟨rfl, q ι _ H (Go.refl _ _) hr (by rw [isNon_dec hu]; exact .bl _)⟩
  | _ => exact q.elim
theorem op_neP (K : PySem.W.Frag) (hK : X.K = K) (hu : X.A.units + 200 < cLine) : OpR X (compareOp .NotEq) (rEqP K true) := by
  subst hK
  refine OpR.mono (r := fun x y H Q => rNe x y H Q ∨ ∃ ι a b vs ws l m, x = .ref a ∧ y = .ref b ∧ SqT X.K H a vs ∧ SqT X.K H b ws ∧ VRs X.K ι H vs l ∧ VRs X.K ι H ws m ∧ datL l = true ∧ datL m = true ∧ depL l ≤ 100 ∧ Q (.bl (!peqs l m)) H) (op_ne.or ?_) (fun x y H Q h => h)
  intro pins s σ H x y v u Q I rx ry h
  obtain ⟨ι, a, b, vs, ws, l, m, rfl, rfl, e, e', r, r', dl, dm, hd, q⟩ := h
  cases rx
  cases ry
  have q0 : SeqAt.RcNeAt X.A s (.ref a) (.ref b) (!peqs l m) := by
    obtain ⟨its, rr, ht, _⟩ := I.tuple e
    obtain ⟨its', rr', ht', _⟩ := I.tuple e'
    have q := SeqAt.RcNeAt.tuples (A := X.A) (e := eqJ l m) ht ht' (by omega) (fun j g1 g2 => by
      have h1 : j < its.length := by simpa using g1
      have h2 : j < its'.length := by simpa using g2
      have hl : j < l.length := by rw [← r.length, rr.length]; exact h1
      have hm : j < m.length := by rw [← r'.length, rr'.length]; exact h2
      obtain ⟨v, v1, v2⟩ := r.get (List.getElem?_eq_getElem hl)
      obtain ⟨v', v1', v2'⟩ := r'.get (List.getElem?_eq_getElem hm)
      obtain ⟨u, u1, u2⟩ := rr.get v1
      obtain ⟨u', u1', u2'⟩ := rr'.get v1'
      rw [List.getElem?_eq_getElem h1] at u1
      rw [List.getElem?_eq_getElem h2] at u1'
      cases u1
      cases u1'
      unfold eqJ
      rw [List.getElem?_eq_getElem hl, List.getElem?_eq_getElem hm]
      have d1 := depL_get (List.getElem?_eq_getElem hl)
      have := eq_pv rfl I 100 _ _ X.A.in1 v v' _ _ (by omega) (datL_get dl (List.getElem?_eq_getElem hl)) (datL_get dm (List.getElem?_eq_getElem hm)) v2 v2' u2 u2' (by show X.A.units + 1 + 100 + 1 < _; omega)
      simpa using this)
    have e1 : its.toArray.size = l.length := by rw [List.size_toArray, ← rr.length, r.length]
    have e2 : its'.toArray.size = m.length := by rw [List.size_toArray, ← rr'.length, r'.length]
    rw [e1, e2, peqs_all] at q
    exact q
  exact EqBoolInt.of_rcne q0 ⟨.bl _, H, I, rfl, q⟩
theorem oNe_ok : M2.Ok K (rEqP K true) oNe := by
  intro ι H h u v x y Q hr hu hv q
  have q : pEqB x y h fun b => pQ K ι H Q (.bl (!b)) h := q
  have fin : ∀ {b : Bool} {z : V}, pQ K ι H Q (.bl b) h → z = .bl b → Q z H := fun q e => by subst e; exact q ι _ H (Go.refl _ _) hr (.bl _)
  unfold pEqB at q
  cases hu with
  | tup e r =>
    cases hv with
    | tup e' r' => exact .inr ⟨ι, _, _, _, _, _, _, rfl, rfl, SqT.of e, SqT.of e', r, r', q.1, q.2.1, q.2.2.1, fin q.2.2.2 (by simp)⟩
    | _ => exact q.elim
  | _ => cases hv <;> first | exact q.elim | exact .inl ⟨rfl, fin q (by simp)⟩
end
end PL
set_option Elab.async false
set_option linter.all false
set_option maxRecDepth 100000
namespace PL
open PySem PySem.Spec PyProof.Rows L2
variable {K : PySem.W.Frag}
section
variable {X : Cx} {pins : List (Addr × Obj)} {σ : L2.St} {H : Hp} {s : Shared} {ι : List Addr}
open Classical in
noncomputable def eqF (K : PySem.W.Frag) (ι : List Addr) (H : Hp) (x : PV) (w : Value) : Bool := decide (∃ p v, RelV v w ∧ VR K ι H v p ∧ p.dat = true ∧ peq p x = true)
theorem relV_inj {v v' : V} {w : Value} (h : RelV v w) (h' : RelV v' w) : v = v' := Option.some.inj (h.abs.symm.trans h'.abs)
open Classical in
theorem eqF_of (inj : InjT K H) {x p : PV} {v : V} {w : Value} (r : RelV v w) (h : VR K ι H v p) (d : p.dat = true) : eqF K ι H x w = peq p x := by
  unfold eqF
  cases e : peq p x with
  | true => exact decide_eq_true ⟨p, v, r, h, d, e⟩
  | false =>
    refine decide_eq_false ?_
    rintro ⟨p', v', r', h', d', e'⟩
    have := relV_inj r r'
    subst this
    rw [VR.fn inj h h' d d', e'] at e
    cases e
theorem eqF_any (inj : InjT K H) {x : PV} : ∀ {vs : List V} {its : List Value} {l : List PV}, Vals vs its → VRs K ι H vs l → datL l = true → its.any (eqF K ι H x) = l.any fun y => peq y x
  | _, _, _, .nil, .nil, _ => rfl
  | _, _, _, .cons r t, .cons q z, d => by
    rw [datL, Bool.and_eq_true] at d
    rw [List.any_cons, List.any_cons, eqF_of inj r q d.1, eqF_any inj t z d.2]
theorem eqF_at (hK : X.K = K) (I : Inv X pins σ H s) {A : Around} {x : PV} {v : V} {w : Value} (hx : VR K ι H v x) (rx : RelV v w) (dx : x.dat = true) (hu : A.units + 101 + 1 < cLine) :
    ∀ {vs : List V} {its : List Value} {l : List PV}, Vals vs its → VRs K ι H vs l → datL l = true → depL l ≤ 101 → ∀ u ∈ its, SeqAt.EqAt A s u w (eqF K ι H x u)
  | _, _, _, .nil, .nil, _, _, u, hu => by cases hu
  | _, _, _, .cons r t, .cons q z, d, dd, u, hm => by
    rw [datL, Bool.and_eq_true] at d
    rw [depL] at dd
    rcases List.mem_cons.mp hm with rfl | hm
    · rw [eqF_of (fun a vs ws h1 h2 => by subst hK; exact I.tuple_inj (SqT.of h1) (SqT.of h2)) r q d.1]
      exact eq_pv hK I 101 _ x A _ v _ w (by omega) d.1 dx q hx r rx hu
    · exact eqF_at hK I hx rx dx hu t z d.2 (by omega) u hm
end
def rInP (K : PySem.W.Frag) (neg : Bool) : R2 := fun x y H Q => ∃ ι p vs l xp, y = .ref p ∧ (SqL K H p vs ∨ SqT K H p vs) ∧ VRs K ι H vs l ∧ VR K ι H x xp ∧ xp.dat = true ∧ datL l = true ∧ depL l ≤ 101 ∧ Q (.bl (if neg then !(l.any fun y => peq y xp) else l.any fun y => peq y xp)) H
section
variable {X : Cx}
theorem op_inP (K : PySem.W.Frag) (hK : X.K = K) (hu : X.A.units + 200 < cLine) : OpR X (compareOp .In) (rInP K false) := by
  subst hK
  intro pins s σ H x y v u Q I rx ry h
  obtain ⟨ι, p, vs, l, xp, rfl, hq, hl, hx, dx, dl, dd, q⟩ := h
  cases ry
  have hu' : X.A.in1.units + 101 + 1 < cLine := by show X.A.units + 1 + 101 + 1 < _; omega
  rcases hq with hq | hq
  · obtain ⟨its, r, pl, hz⟩ := I.list hq
    refine SeqAt.in_listAt (eqF X.K ι H xp) pl.isList (fun w hw => eqF_at rfl I hx rx dx hu' r hl dl dd w (by simpa using hw)) ⟨.bl _, H, I, rfl, ?_⟩
    rw [show its.toArray.any (eqF X.K ι H xp) = its.any (eqF X.K ι H xp) by simp, eqF_any (fun a vs ws h1 h2 => I.tuple_inj (SqT.of h1) (SqT.of h2)) r hl dl]
    exact q
  · obtain ⟨its, r, pl, hz⟩ := I.tuple hq
    refine SeqAt.in_tupleAt (eqF X.K ι H xp) pl (fun w hw => eqF_at rfl I hx rx dx hu' r hl dl dd w (by simpa using hw)) ⟨.bl _, H, I, rfl, ?_⟩
    rw [show its.toArray.any (eqF X.K ι H xp) = its.any (eqF X.K ι H xp) by simp, eqF_any (fun a vs ws h1 h2 => I.tuple_inj (SqT.of h1) (SqT.of h2)) r hl dl]
    exact q
theorem op_notInP (K : PySem.W.Frag) (hK : X.K = K) (hu : X.A.units + 200 < cLine) : OpR X (compareOp .NotIn) (rInP K true) := by
  subst hK
  intro pins s σ H x y v u Q I rx ry h
  obtain ⟨ι, p, vs, l, xp, rfl, hq, hl, hx, dx, dl, dd, q⟩ := h
  cases ry
  have hu' : X.A.in1.units + 101 + 1 < cLine := by show X.A.units + 1 + 101 + 1 < _; omega
  rcases hq with hq | hq
  · obtain ⟨its, r, pl, hz⟩ := I.list hq
    refine SeqAt.notIn_listAt (eqF X.K ι H xp) pl.isList (fun w hw => eqF_at rfl I hx rx dx hu' r hl dl dd w (by simpa using hw)) ⟨.bl _, H, I, rfl, ?_⟩
    rw [show its.toArray.any (eqF X.K ι H xp) = its.any (eqF X.K ι H xp) by simp, eqF_any (fun a vs ws h1 h2 => I.tuple_inj (SqT.of h1) (SqT.of h2)) r hl dl]
    exact q
  · obtain ⟨its, r, pl, hz⟩ := I.tuple hq
    refine SeqAt.notIn_tupleAt (eqF X.K ι H xp) pl (fun w hw => eqF_at rfl I hx rx dx hu' r hl dl dd w (by simpa using hw)) ⟨.bl _, H, I, rfl, ?_⟩
    rw [show its.toArray.any (eqF X.K ι H xp) = its.any (eqF X.K ι H xp) by simp, eqF_any (fun a vs ws h1 h2 => I.tuple_inj (SqT.of h1) (SqT.of h2)) r hl dl]
    exact q
end
structure M2Q where
  f : PV → Src → PH → QV → Prop
  mono : ∀ {x y h} {Q Q' : QV}, (∀ v h', Q v h' → Q' v h') → f x y h Q → f x y h Q'
def M2Q.Ok (K : PySem.W.Frag) (r : R2) (m : M2Q) : Prop := ∀ {ι H h u v x S Q}, HR K ι H h → VR K ι H u x → SqS K ι H v S → S.ok h → m.f x S h (pQ K ι H Q) → r u v H Q
def mOpQ (m : M2Q) (a : ME) (b : MQ) : ME := ⟨fun ps h Q => a.run ps h fun x h1 => b.run ps h1 fun S h2 => m.f x S h2 Q, fun f q => a.mono (fun _ _ q => b.mono (fun _ _ q => m.mono f q) q) q⟩
theorem lE_opQ {K : PySem.W.Frag} {r : R2} {m : M2Q} (hm : M2Q.Ok K r m) {ma : ME} {mb : MQ} : ∀ σ H Q, lE K (mOpQ m ma mb) σ H Q → tOp r (lE K ma) (lQ K mb) σ H Q := by
  rintro σ H Q ⟨ι, ps, h, sr, hr, q⟩
  refine ⟨ι, ps, h, sr, hr, ma.mono (fun x h1 q1 ι1 u1 H1 g1 r1 v1 => ?_) q⟩
  refine ⟨ι1, ps, h1, sr.go hr g1, r1, mb.mono (fun y h2 q2 ι2 u2 H2 g2 r2 v2 ok => ?_) q1⟩
  exact hm r2 (g2.vr r1 v1) v2 ok (m.mono (fun _ _ z => pQ.go (g1.trans g2) z) q2)
def inB (x : PV) (l : List PV) : Bool := l.any fun y => peq y x
def oNotIn : M2Q := ⟨fun x S h Q => x.dat = true ∧ datL S.items = true ∧ depL S.items ≤ 101 ∧ Q (.bl (!inB x S.items)) h, fun f q => ⟨q.1, q.2.1, q.2.2.1, f _ _ q.2.2.2⟩⟩
theorem oNotIn_ok (K : PySem.W.Frag) : M2Q.Ok K (rInP K true) oNotIn := by
  intro ι H h u v x S Q hr hu hs ok q
  obtain ⟨p, rfl, z | z⟩ := hs
  · obtain ⟨vs, e1, e2⟩ := z ι H h (Go.refl _ _) hr ok
    exact ⟨ι, p, vs, _, x, rfl, .inl e1.1, e2, hu, q.1, q.2.1, q.2.2.1, q.2.2.2 ι _ H (Go.refl _ _) hr (.bl _)⟩
  · obtain ⟨vs, e1, e2⟩ := z ι H h (Go.refl _ _) hr ok
    exact ⟨ι, p, vs, _, x, rfl, .inr (SqT.of e1), e2, hu, q.1, q.2.1, q.2.2.1, q.2.2.2 ι _ H (Go.refl _ _) hr (.bl _)⟩
section
variable {X : Cx} {a b c e : Expr} {es : List Expr} {pos : Pos}
theorem q_tcmpQ {K : PySem.W.Frag} {op : CmpOp} {r : R2} {m : M2Q} (ho : OpR X (compareOp op) r) (hm : M2Q.Ok K r m) {ma : ME} {mb : MQ} (ha : PE X a (lE K ma)) (hb : PE X b (lQ K mb)) (hk : behindInMarks op b = false) : PT X (.Compare a [op] [b] pos) (lT K (mB (mOpQ m ma mb))) :=
  PT.imp (pt_cmpR ho ha hb hk) fun σ H Q q => by
    have q := lT_B σ H Q q
    exact lE_opQ hm σ H _ q
def mIx (a : MQ) (b : ME) : ME := ⟨fun ps h Q => a.run ps h fun S h1 => b.run ps h1 fun y h2 => match y with
  | .int k => S.ok h2 ∧ match atI S.items k with | some v => Q v h2 | none => False
  | _ => False, fun f q => a.mono (fun _ _ q => b.mono (fun _ _ q => by
    revert q
    split
    · rintro ⟨q0, q⟩
      refine ⟨q0, ?_⟩
      revert q
      split
      · exact f _ _
      · exact fun z => z
    · exact fun z => z) q) q⟩
theorem VRs.atI {ι : List Addr} {H : Hp} {vs : List V} {l : List PV} (r : VRs K ι H vs l) {k : Int} {p : PV} (e : L2.atI l k = some p) : ∃ v, L2.atI vs k = some v ∧ VR K ι H v p := by
  unfold L2.atI at e ⊢
  rw [r.length]
  cases z : ixN l.length k with
  | none => rw [z] at e; cases e
  | some j =>
    rw [z] at e
    exact r.get e
theorem lE_ix {K : PySem.W.Frag} {ma : MQ} {mb : ME} : ∀ σ H Q, lE K (mIx ma mb) σ H Q → tOp (rIx K) (lQ K ma) (lE K mb) σ H Q := by
  rintro σ H Q ⟨ι, ps, h, sr, hr, q⟩
  refine ⟨ι, ps, h, sr, hr, ma.mono (fun S h1 q1 ι1 u1 H1 g1 r1 v1 ok => ?_) q⟩
  refine ⟨ι1, ps, h1, sr.go hr g1, r1, mb.mono (fun y h2 q2 ι2 u2 H2 g2 r2 v2 => ?_) q1⟩
  revert q2
  split
  · rename_i k
    rintro ⟨ok2, q2⟩
    cases v2
    cases z : L2.atI S.items k with
    | none => rw [z] at q2; exact q2.elim
    | some p =>
      rw [z] at q2
      obtain ⟨a, rfl, hs | hs⟩ := v1
      · obtain ⟨vs, e1, e2⟩ := hs ι2 H2 h2 g2 r2 ok2
        obtain ⟨v, e3, e4⟩ := e2.atI z
        exact .inl ⟨a, vs, k, v, rfl, rfl, e1.1, e3, q2 ι2 v H2 (g1.trans g2) r2 e4⟩
      · obtain ⟨vs, e1, e2⟩ := hs ι2 H2 h2 g2 r2 ok2
        obtain ⟨v, e3, e4⟩ := e2.atI z
        exact .inr (.inl ⟨a, vs, k, v, rfl, rfl, SqT.of e1, e3, q2 ι2 v H2 (g1.trans g2) r2 e4⟩)
  · exact False.elim
theorem q_ixQ (K : PySem.W.Frag) (hK : X.K = K) {ma : MQ} {mb : ME} (ha : PE X a (lQ K ma)) (hb : PE X b (lE K mb)) (hs : PlainIx b) : PE X (.Subscript a b pos) (lE K (mIx ma mb)) := PE.imp (pe_ix (ix_seqk K hK) ha hb hs) lE_ix
def oIxS : M2 := ⟨fun x y h Q => match x, y with
  | .str z, .int k => z.length ≤ sizeLine ∧ match L2.atI z.cps.toList k with | some c => Q (.str ⟨#[c]⟩) h | none => False
  | _, _ => False, fun f q => by
    revert q
    split
    · rintro ⟨q0, q⟩
      refine ⟨q0, ?_⟩
      revert q
      split
      · exact f _ _
      · exact fun z => z
    · exact fun z => z⟩
theorem oIxS_ok : M2.Ok K rIxS oIxS := by
  intro ι H h u v x y Q hr hu hv q
  unfold oIxS at q
  dsimp only at q
  revert q
  split
  · rename_i z k
    rintro ⟨q0, q⟩
    cases hu
    cases hv
    cases e : L2.atI z.cps.toList k with
    | none => rw [e] at q; exact q.elim
    | some c => rw [e] at q; exact ⟨z, k, c, rfl, rfl, q0, e, q ι _ H (Go.refl _ _) hr (.str _)⟩
  · exact False.elim
theorem q_ixS {ma mb : ME} (ha : PE X a (lE K ma)) (hb : PE X b (lE K mb)) (hs : PlainIx b) : PE X (.Subscript a b pos) (lE K (mOp oIxS ma mb)) := q_ix ix_str oIxS_ok ha hb hs
def bLen : MB1 := ⟨fun l h Q => match l with
  | [.str y] => y.length ≤ sizeLine ∧ Q (.int y.length) h
  | [.tup l] => Q (.int l.length) h
  | [.cl l] => Q (.int l.length) h
  | [.ref n] => match h[n]? with
    | some (.lst xs) => Q (.int xs.length) h
    | _ => False
  | _ => False, fun f q => by
    revert q
    split
    · exact fun q => ⟨q.1, f _ _ q.2⟩
    · exact f _ _
    · exact f _ _
    · split
      · exact f _ _
      · exact fun z => z
    · exact fun z => z⟩
theorem bLen_ok (K : PySem.W.Frag) : MB1.Ok K (rLen K) bLen := by
  intro ι H h vs l Q hr hv q
  unfold bLen at q
  dsimp only at q
  revert q
  split
  · intro q
    cases hv with
    | cons x t => cases t; cases x; exact ⟨_, _, rfl, ⟨q.1, rfl⟩, q.2 ι _ H (Go.refl _ _) hr (.int _)⟩
  · intro q
    cases hv with
    | cons x t =>
      cases t
      cases x with
      | tup e r => exact ⟨_, _, rfl, .inr ⟨_, SqT.of e, r.length.symm⟩, q ι _ H (Go.refl _ _) hr (.int _)⟩
  · intro q
    cases hv with
    | cons x t =>
      cases t
      cases x with
      | cl e r => exact ⟨_, _, rfl, .inl ⟨_, e.sq, r.length.symm⟩, q ι _ H (Go.refl _ _) hr (.int _)⟩
  · rename_i n
    cases hv with
    | cons x t =>
      cases t
      cases x with
      | @ref _ a e =>
      split
      · rename_i xs hn
        intro q
        obtain ⟨ws, e1, e2⟩ := hr.obj n a _ e hn
        exact ⟨_, _, rfl, .inl ⟨ws, SqL.of e1, e2.length.symm⟩, q ι _ H (Go.refl _ _) hr (.int _)⟩
      · exact False.elim
  · exact False.elim
inductive Kd where
  | str | tup | int | bool
def Kd.name : Kd → String
  | .str => "str" | .tup => "tuple" | .int => "int" | .bool => "bool"
def Kd.is : Kd → PV → Bool
  | .str, .str _ => true
  | .tup, .tup _ => true
  | .int, .int _ => true
  | .int, .bl _ => true
  | .bool, .bl _ => true
  | _, _ => false
def okI : Option PO → Bool
  | none => false
  | some (.dtz _ _) => false
  | some _ => true
def mIsi (k : Kd) (m : ME) : ME := ⟨fun ps h Q => m.run ps h fun x h1 => (match x with | .ref n => okI (h1[n]?) = true | .ty _ => False | .cl _ => False | _ => True) ∧ Q (.bl (k.is x)) h1, fun f q => m.mono (fun _ _ q => ⟨q.1, f _ _ q.2⟩) q⟩
def rIsiT (K : PySem.W.Frag) : List V → Hp → VK → Prop := fun xs H Q => ∃ x c t b, xs = [x, .ty c] ∧ (TyOf K H x t ∨ (t = .type "tuple" ∧ ∃ a vs, x = .ref a ∧ SqT K H a vs)) ∧ PySem.W.kitOne K t (.type c) = some b ∧ Q (.bl b) H
theorem call_isiT (K : PySem.W.Frag) (hK : X.K = K) : CallR X (.builtin "isinstance") (rIsiT K) := by
  subst hK
  intro pins s σ H xs us Q I r h
  obtain ⟨x, c, t, b, rfl, ty | ⟨rfl, a, vs, rfl, hT⟩, e, q⟩ := h
  · exact call_isinst pins s σ H _ us Q I r ⟨x, c, t, b, rfl, ty, e, q⟩
  · obtain ⟨u, w, rfl, r1, r2⟩ := vals2 r
    cases r1
    cases r2
    obtain ⟨its, _, ⟨o, h1, h2, _⟩, _⟩ := I.tuple hT
    exact PySem.W.kia_one PySem.W.kitx_tuple I.kIn ⟨o, h1, h2⟩ e (fun z => nomatch z) fun tk => ⟨.bl b, H, I.tok _, rfl, q⟩
theorem kit_all (K : PySem.W.Frag) : (∀ k : Kd, PySem.W.kitOne K (.type "NoneType") (.type k.name) = some false) ∧ (∀ k : Kd, PySem.W.kitOne K (.type "list") (.type k.name) = some false) ∧ (∀ k : Kd, PySem.W.kitOne K (.type "dict") (.type k.name) = some false) :=
  ⟨fun k => by cases k <;> kernel_rfl, fun k => by cases k <;> kernel_rfl, fun k => by cases k <;> kernel_rfl⟩
theorem kit_bl (K : PySem.W.Frag) (b : Bool) (k : Kd) : PySem.W.kitOne K (.type "bool") (.type k.name) = some (k.is (.bl b)) := by cases k <;> kernel_rfl
theorem kit_int (K : PySem.W.Frag) (b : Int) (k : Kd) : PySem.W.kitOne K (.type "int") (.type k.name) = some (k.is (.int b)) := by cases k <;> kernel_rfl
theorem kit_str (K : PySem.W.Frag) (b : Str) (k : Kd) : PySem.W.kitOne K (.type "str") (.type k.name) = some (k.is (.str b)) := by cases k <;> kernel_rfl
theorem kit_tup (K : PySem.W.Frag) (b : List PV) (k : Kd) : PySem.W.kitOne K (.type "tuple") (.type k.name) = some (k.is (.tup b)) := by cases k <;> kernel_rfl
theorem lE_isi {K : PySem.W.Frag} {k : Kd} {m : ME} : ∀ σ H Q, lE K (mIsi k m) σ H Q → tCB (rIsiT K) (tCons (lE K m) (tCons (tC (.ty k.name)) tNil)) σ H Q := by
  rintro σ H Q ⟨ι, ps, h, sr, hr, q⟩
  refine ⟨ι, ps, h, sr, hr, m.mono (fun x h1 q1 ι1 u1 H1 g1 r1 v1 => ?_) q⟩
  obtain ⟨q0, q1⟩ := q1
  have fin : ∀ {t : Value}, TyOf K H1 u1 t → PySem.W.kitOne K t (.type k.name) = some (k.is x) → rIsiT K [u1, .ty k.name] H1 Q := fun ty e => ⟨_, _, _, _, rfl, .inl ty, e, q1 ι1 _ H1 g1 r1 (.bl _)⟩
  show rIsiT K [u1, .ty k.name] H1 Q
  cases v1 with
  | non => exact fin .non (by rw [(kit_all K).1 k]; cases k <;> rfl)
  | bl b => exact fin (.bl b) (kit_bl K b k)
  | int b => exact fin (.int b) (kit_int K b k)
  | str b => exact fin (.str b) (kit_str K b k)
  | ty n => exact q0.elim
  | cl _ _ => exact q0.elim
  | tup e r => exact ⟨_, _, _, _, rfl, .inr ⟨rfl, _, _, rfl, SqT.of e⟩, kit_tup K _ k, q1 ι1 _ H1 g1 r1 (.bl _)⟩
  | @ref n a e =>
    dsimp only at q0
    cases z : h1[n]? with
    | none => rw [z] at q0; cases q0
    | some o =>
      have ob := r1.obj n a o e z
      have ek : ∀ (t : String), (t = "list" ∨ t = "dict") → PySem.W.kitOne K (.type t) (.type k.name) = some (k.is (.ref n)) := fun t ht => by
        rcases ht with rfl | rfl
        · rw [(kit_all K).2.1 k]; cases k <;> rfl
        · rw [(kit_all K).2.2 k]; cases k <;> rfl
      cases o with
      | lst xs => obtain ⟨vs, e1, _⟩ := ob; exact fin (.lst e1) (ek _ (.inl rfl))
      | dk xs => obtain ⟨vs, e1, _⟩ := ob; exact fin (.dK e1) (ek _ (.inr rfl))
      | dt xs => obtain ⟨vs, e1, _⟩ := ob; exact fin (.dT e1) (ek _ (.inr rfl))
      | dtz o xs => rw [z] at q0; cases q0
      | opq φ => obtain ⟨vs, e1, _⟩ := ob; exact fin (.lst e1) (ek _ (.inl rfl))
theorem q_isi (K : PySem.W.Frag) (hK : X.K = K) (k : Kd) {m : ME} {p p2 : Pos} {x : Str} (hg : Gl X "isinstance") (hm : X.mg "isinstance" = none) (ha : PE X a (lE K m)) (hb : PE X (.Name x p2) (tC (.ty k.name)))
    (he : starEach [a, .Name x p2] X.env = (false, eval a X.env) :: starEach [.Name x p2] X.env := by rfl) (he2 : starEach [Expr.Name x p2] X.env = (false, eval (.Name x p2) X.env) :: starEach [] X.env := by rfl)
    (hpl : (backTo pos (starEach [Expr.Name x p2] X.env)).any (·.1) = false := by rfl) : PE X (.Call (.Name "isinstance" p) [a, .Name x p2] [] pos) (lE K (mIsi k m)) :=
  PE.imp (pe_callB (call_isiT K hK) hg hm boot_isinstance (pa_cons ha (pa_cons hb pa_nil he2) he) (by decide) (by decide) he hpl) lE_isi
def bAbs : MB1 := ⟨fun l h Q => match l with | [.int i] => Q (.int (if i < 0 then -i else i)) h | _ => False, fun f q => by
  revert q
  split
  · exact f _ _
  · exact fun z => z⟩
theorem bAbs_ok : MB1.Ok K (fun xs H Q => ∃ i, xs = [.int i] ∧ Q (.int (if i < 0 then -i else i)) H) bAbs := by
  intro ι H h vs l Q hr hv q
  unfold bAbs at q
  dsimp only at q
  revert q
  split
  · intro q
    cases hv with
    | cons x t => cases t; cases x; exact ⟨_, rfl, q ι _ H (Go.refl _ _) hr (.int _)⟩
  · exact False.elim
def bInt : MB1 := ⟨fun l h Q => match l with | [.int i] => Q (.int i) h | [.bl k] => Q (.int (if k then 1 else 0)) h | _ => False, fun f q => by
  revert q
  split
  · exact f _ _
  · exact f _ _
  · exact fun z => z⟩
theorem bInt_ok : MB1.Ok K (fun xs H Q => (∃ i, xs = [.int i] ∧ Q (.int i) H) ∨ ∃ k, xs = [.bl k] ∧ Q (.int (if k then 1 else 0)) H) bInt := by
  intro ι H h vs l Q hr hv q
  unfold bInt at q
  dsimp only at q
  revert q
  split
  · intro q
    cases hv with
    | cons x t => cases t; cases x; exact .inl ⟨_, rfl, q ι _ H (Go.refl _ _) hr (.int _)⟩
  · intro q
    cases hv with
    | cons x t => cases t; cases x; exact .inr ⟨_, rfl, q ι _ H (Go.refl _ _) hr (.int _)⟩
  · exact False.elim
def bMax : MB1 := ⟨fun l h Q => match l with | [.int i, .int j] => Q (.int (if j > i then j else i)) h | _ => False, fun f q => by
  revert q
  split
  · exact f _ _
  · exact fun z => z⟩
def bMin : MB1 := ⟨fun l h Q => match l with | [.int i, .int j] => Q (.int (if j < i then j else i)) h | _ => False, fun f q => by
  revert q
  split
  · exact f _ _
  · exact fun z => z⟩
theorem bMax_ok : MB1.Ok K (fun xs H Q => ∃ i j, xs = [.int i, .int j] ∧ Q (.int (if j > i then j else i)) H) bMax := by
  intro ι H h vs l Q hr hv q
  unfold bMax at q
  dsimp only at q
  revert q
  split
  · intro q
    cases hv with
    | cons x t => cases t with
      | cons y t => cases t; cases x; cases y; exact ⟨_, _, rfl, q ι _ H (Go.refl _ _) hr (.int _)⟩
  · exact False.elim
theorem bMin_ok : MB1.Ok K (fun xs H Q => ∃ i j, xs = [.int i, .int j] ∧ Q (.int (if j < i then j else i)) H) bMin := by
  intro ι H h vs l Q hr hv q
  unfold bMin at q
  dsimp only at q
  revert q
  split
  · intro q
    cases hv with
    | cons x t => cases t with
      | cons y t => cases t; cases x; cases y; exact ⟨_, _, rfl, q ι _ H (Go.refl _ _) hr (.int _)⟩
  · exact False.elim
end
end PL
set_option Elab.async false
set_option linter.all false
set_option maxRecDepth 100000
namespace PL
open PySem PySem.Spec PyProof.Rows L2
variable {K : PySem.W.Frag}
section
variable {X : Cx} {a b c e o : Expr} {es : List Expr} {pos : Pos}
def bTup : MB2 := ⟨fun S h Q => Q (.tup S.items) h, fun f q => f _ _ q⟩
def rTupT (K : PySem.W.Frag) : List V → Hp → VK → Prop := fun xs H Q => ∃ p ys, xs = [.ref p] ∧ ((SqL K H p ys ∧ newO H (.tup ys) Q) ∨ (SqT K H p ys ∧ Q (.ref p) H))
theorem call_tupT (K : PySem.W.Frag) (hK : X.K = K) : CallR X (.type "tuple") (rTupT K) := by
  subst hK
  exact call_tuple_of.mono fun xs H Q ⟨p, ys, e, h⟩ => ⟨p, ys, e, h.imp (fun ⟨h1, h2⟩ => ⟨h1, fun l hl => h2.at l hl⟩) fun z => z⟩
theorem bTup_ok (K : PySem.W.Frag) : MB2.Ok K (rTupT K) bTup := by
  intro ι H h v S Q hr hs ok q
  obtain ⟨a, rfl, z | z⟩ := hs
  · obtain ⟨vs, e1, e2⟩ := z ι H h (Go.refl _ _) hr ok
    exact ⟨a, vs, rfl, .inl ⟨e1.1, fun p H2 s2 h2 n2 => q ι _ H2 (Go.same s2) (hr.same s2) (.tup h2 ((Go.same s2).vrs hr e2))⟩⟩
  · obtain ⟨vs, e1, e2⟩ := z ι H h (Go.refl _ _) hr ok
    exact ⟨a, vs, rfl, .inr ⟨SqT.of e1, q ι _ H (Go.refl _ _) hr (.tup e1 e2)⟩⟩
theorem bools_vrs {ι : List Addr} {H : Hp} : ∀ {bs : List Bool} {vs : List V}, VRs K ι H vs (bs.map PV.bl) → vs = bs.map V.bl
  | [], _, h => by cases h; rfl
  | b :: bs, _, h => by
    cases h with
    | cons x t => cases x; rw [bools_vrs t]; rfl
def mAllB (m : ML) : ME := ⟨fun ps h Q => m.run ps h fun l h1 => ∃ bs : List Bool, l = bs.map PV.bl ∧ Q (.bl (bs.all id)) h1, fun f q => m.mono (fun _ _ ⟨bs, e, q⟩ => ⟨bs, e, f _ _ q⟩) q⟩
section
variable {p : Pos}
theorem q_all (K : PySem.W.Frag) (hK : X.K = K) {m : ML} (hc : X.calm = true) (hg : Gl X "all") (hm : X.mg "all" = none) (ha : PE X e (lL K m)) (he : starEach [e] X.env = (false, eval e X.env) :: starEach [] X.env := by rfl) (hpl : (backTo pos (starEach [] X.env)).any (·.1) = false := by rfl) :
    PE X (.Call (.Name "all" p) [e] [] pos) (lE K (mAllB m)) := PE.imp (pe_callB (call_allk K hK hc) hg hm boot_all (pa_cons ha pa_nil he) (by decide) (by decide) he hpl) fun σ H Q ⟨ι, ps, h, sr, hr, q⟩ =>
  ⟨ι, ps, h, sr, hr, m.mono (fun l h1 q1 ι1 a H1 g1 r1 n1 o1 => by
    obtain ⟨bs, rfl, q1⟩ := q1
    obtain ⟨_, vs, e1, e2⟩ := o1
    have := bools_vrs e2
    subst this
    exact ⟨a, bs, rfl, SqL.of e1, q1 ι1 _ H1 g1 r1 (.bl _)⟩) q⟩
end
def SqLs (K : PySem.W.Frag) (ι : List Addr) (H : Hp) (v : V) (S : Src) : Prop := ∃ a, v = .ref a ∧ ∀ ι' H' h', Go ι ι' H H' → HR K ι' H' h' → S.ok h' → ∃ vs, LsA K S H' a vs ∧ VRs K ι' H' vs S.items
structure MQL where
  run : PSt → PH → (Src → PH → Prop) → Prop
  mono : ∀ {ps h} {Q Q' : Src → PH → Prop}, (∀ v h', Q v h' → Q' v h') → run ps h Q → run ps h Q'
def lQL (K : PySem.W.Frag) (m : MQL) : TE := fun σ H Q => ∃ ι ps h, SR K ι H σ ps ∧ HR K ι H h ∧ m.run ps h fun S h' => ∀ ι' v H', Go ι ι' H H' → HR K ι' H' h' → SqLs K ι' H' v S → S.ok h' → Q v H'
def mOwnL (m : ML) : MQL := ⟨fun ps h Q => m.run ps h fun l h1 => Q ⟨l, fun _ => True, false⟩ h1, fun hq q => m.mono (fun _ _ q => hq _ _ q) q⟩
theorem q_ownL (K : PySem.W.Frag) {m : ML} (h : PE X e (lL K m)) : PE X e (lQL K (mOwnL m)) := PE.imp h fun σ H Q ⟨ι, ps, h, sr, hr, q⟩ => by
  refine ⟨ι, ps, h, sr, hr, m.mono (fun l h1 q1 ι1 a H1 g1 r1 n1 o1 => ?_) q⟩
  refine q1 ι1 _ H1 g1 r1 ⟨a, rfl, fun ι2 H2 h2 g2 r2 _ => ?_⟩ trivial
  obtain ⟨n, vs, e, v⟩ := o1.go r1 g2
  exact ⟨vs, ⟨SqL.of e, fun _ => e⟩, v⟩
def mSqL (m : ME) : MQL := ⟨fun ps h Q => m.run ps h fun x h1 => match x with
    | .cl l => Q ⟨l, fun _ => True, true⟩ h1
    | .ref n => match h1[n]? with
      | some (.lst xs) => Q ⟨xs, fun h2 => h2[n]? = some (.lst xs), false⟩ h1
      | _ => False
    | _ => False, fun hq q => m.mono (fun x h1 q => by
  revert q
  split
  · exact hq _ _
  · split
    · exact hq _ _
    · exact fun z => z
  · exact fun z => z) q⟩
theorem q_sqL (K : PySem.W.Frag) {m : ME} (h : PE X e (lE K m)) : PE X e (lQL K (mSqL m)) := PE.imp h fun σ H Q ⟨ι, ps, h, sr, hr, q⟩ => by
  refine ⟨ι, ps, h, sr, hr, m.mono (fun x h1 q1 ι1 u1 H1 g1 r1 v1 => ?_) q⟩
  revert q1
  split
  · rename_i l
    intro q1
    cases v1 with
    | cl e vs => exact q1 ι1 _ H1 g1 r1 ⟨_, rfl, fun ι2 H2 h2 g2 r2 _ => ⟨_, ⟨((g2.tups r1).f _ _ e).sq, fun z => nomatch z⟩, g2.vrs r1 vs⟩⟩ trivial
  · rename_i n
    cases v1 with
    | @ref _ a e =>
    split
    · rename_i xs hn
      intro q1
      refine q1 ι1 _ H1 g1 r1 ⟨a, rfl, fun ι2 H2 h2 g2 r2 ok => ?_⟩ hn
      obtain ⟨vs, e1, e2⟩ := r2.obj n a _ (g2.at e) ok
      exact ⟨vs, ⟨SqL.of e1, fun _ => e1⟩, e2⟩
    · exact False.elim
  · exact False.elim
def mCatL (a b : MQL) : ML := ⟨fun ps h Q => a.run ps h fun S h1 => b.run ps h1 fun T h2 => S.ok h2 ∧ S.fz = false ∧ T.fz = false ∧ S.items.length + T.items.length ≤ sizeLine ∧ Q (S.items ++ T.items) h2, fun f q => a.mono (fun _ _ q => b.mono (fun _ _ q => ⟨q.1, q.2.1, q.2.2.1, q.2.2.2.1, f _ _ q.2.2.2.2⟩) q) q⟩
theorem q_cat (K : PySem.W.Frag) (hK : X.K = K) {ma mb : MQL} (ha : PE X a (lQL K ma)) (hb : PE X b (lQL K mb)) : PE X (.BinOp a .Add b pos) (lL K (mCatL ma mb)) := PE.imp (pe_op (op_addk K hK) ha hb) fun σ H Q ⟨ι, ps, h, sr, hr, q⟩ => by
  refine ⟨ι, ps, h, sr, hr, ma.mono (fun S h1 q1 ι1 u1 H1 g1 r1 v1 ok => ?_) q⟩
  refine ⟨ι1, ps, h1, sr.go hr g1, r1, mb.mono (fun T h2 q2 ι2 u2 H2 g2 r2 v2 ok2 => ?_) q1⟩
  obtain ⟨o1, f1, f2, hl, q3⟩ := q2
  obtain ⟨a, rfl, hs⟩ := v1
  obtain ⟨b, rfl, ht⟩ := v2
  obtain ⟨vs, ⟨_, e1⟩, e2⟩ := hs ι2 H2 h2 g2 r2 o1
  obtain ⟨ws, ⟨_, e3⟩, e4⟩ := ht ι2 H2 h2 (Go.refl _ _) r2 ok2
  refine .inl ⟨b, vs, ws, rfl, e1 f1, e3 f2, by rw [e2.length, e4.length]; exact hl, fun p H3 s3 h3 n3 => ?_⟩
  obtain ⟨a1, a2, a3⟩ := Own.newO r2 s3 h3 n3 (e2.append e4)
  exact q3 ι2 p H3 ((g1.trans g2).trans a2) a1 ((g1.trans g2).free' r2 n3) a3
def mRevL (m : MQL) : ML := ⟨fun ps h Q => m.run ps h fun S h1 => Q S.items.reverse h1, fun f q => m.mono (fun _ _ q => f _ _ q) q⟩
theorem q_listrev (K : PySem.W.Frag) (hK : X.K = K) {m : MQL} {p1 p2 q1 q2 : Pos} (hc : X.calm = true) (hg1 : Gl X "list") (hm1 : X.mg "list" = none) (hg2 : Gl X "reversed") (hm2 : X.mg "reversed" = none) (he : PE X e (lQL K m))
    (hs1 : starEach [.Call (.Name "reversed" q1) [e] [] q2] X.env = (false, eval (.Call (.Name "reversed" q1) [e] [] q2) X.env) :: starEach [] X.env := by rfl) (hs2 : starEach [e] X.env = (false, eval e X.env) :: starEach [] X.env := by rfl) :
    PE X (.Call (.Name "list" p1) [.Call (.Name "reversed" q1) [e] [] q2] [] p2) (lL K (mRevL m)) := PE.imp (pe_listrev K hK hc hg1 hm1 hg2 hm2 he hs1 hs2) fun σ H Q ⟨ι, ps, h, sr, hr, q⟩ => by
  refine ⟨ι, ps, h, sr, hr, m.mono (fun S h1 q1 ι1 u1 H1 g1 r1 v1 ok => ?_) q⟩
  obtain ⟨a, rfl, hs⟩ := v1
  obtain ⟨vs, ⟨e1, _⟩, e2⟩ := hs ι1 H1 h1 (Go.refl _ _) r1 ok
  refine ⟨a, vs, rfl, e1, fun p H3 s3 h3 n3 => ?_⟩
  obtain ⟨a1, a2, a3⟩ := Own.newO r1 s3 h3 n3 e2.reverse
  exact q1 ι1 p H3 (g1.trans a2) a1 (g1.free' r1 n3) a3
structure MO where
  run : PSt → PH → (Option Int → PH → Prop) → Prop
  mono : ∀ {ps h} {Q Q' : Option Int → PH → Prop}, (∀ v h', Q v h' → Q' v h') → run ps h Q → run ps h Q'
def lO (K : PySem.W.Frag) (m : MO) : TO := fun σ H Q => ∃ ι ps h, SR K ι H σ ps ∧ HR K ι H h ∧ m.run ps h fun b h' => ∀ ι' H', Go ι ι' H H' → HR K ι' H' h' → Q b H'
def moNone : MO := ⟨fun _ h Q => Q none h, fun f q => f _ _ q⟩
def moSome (m : ME) : MO := ⟨fun ps h Q => m.run ps h fun x h1 => match x with | .int i => Q (some i) h1 | _ => False, fun f q => m.mono (fun x h1 q => by
  revert q
  split
  · exact f _ _
  · exact fun z => z) q⟩
theorem PO.imp {e : Option Expr} {t t' : TO} (h : L2.PO X e t) (f : ∀ σ H Q, t' σ H Q → t σ H Q) : L2.PO X e t' := fun pins s σ H Q I q => h pins s σ H Q I (f _ _ _ q)
theorem qo_none : L2.PO X none (lO K moNone) := PO.imp po_none fun σ H Q ⟨ι, ps, h, sr, hr, q⟩ => q ι H (Go.refl _ _) hr
theorem qo_some {m : ME} (h : PE X e (lE K m)) : L2.PO X (some e) (lO K (moSome m)) := PO.imp (po_some h) fun σ H Q ⟨ι, ps, h, sr, hr, q⟩ => by
  refine ⟨ι, ps, h, sr, hr, m.mono (fun x h1 q1 ι1 u1 H1 g1 r1 v1 => ?_) q⟩
  revert q1
  split
  · intro q1; cases v1; exact ⟨_, rfl, q1 ι1 H1 g1 r1⟩
  · exact False.elim
def cutP (xs : List PV) (lo hi : Option Int) : List PV := (xs.drop (HT.sIx xs.length 0 lo)).take (HT.sIx xs.length xs.length hi - HT.sIx xs.length 0 lo)
theorem VRs.cut {ι : List Addr} {H : Hp} {vs : List V} {l : List PV} (r : VRs K ι H vs l) (lo hi : Option Int) : VRs K ι H (cutV vs lo hi) (cutP l lo hi) := by
  unfold cutV cutP
  rw [r.length]
  exact (r.drop _).take _
def mSlL (m : MQL) (lo hi : MO) : ML := ⟨fun ps h Q => m.run ps h fun S h1 => lo.run ps h1 fun i h2 => hi.run ps h2 fun j h3 => S.ok h3 ∧ Q (cutP S.items i j) h3, fun f q => m.mono (fun _ _ q => lo.mono (fun _ _ q => hi.mono (fun _ _ q => ⟨q.1, f _ _ q.2⟩) q) q) q⟩
theorem q_slL (K : PySem.W.Frag) (hK : X.K = K) {m : MQL} {lo hi : MO} {el eh : Option Expr} {p2 : Pos} (he : PE X e (lQL K m)) (hl : L2.PO X el (lO K lo)) (hh : L2.PO X eh (lO K hi)) : PE X (.Subscript e (.Slice el eh none p2) pos) (lL K (mSlL m lo hi)) := PE.imp (pe_slice (sl_listk K hK) he hl hh) fun σ H Q ⟨ι, ps, h, sr, hr, q⟩ => by
  refine ⟨ι, ps, h, sr, hr, m.mono (fun S h1 q1 ι1 u1 H1 g1 r1 v1 ok => ?_) q⟩
  refine ⟨ι1, ps, h1, sr.go hr g1, r1, lo.mono (fun i h2 q2 ι2 H2 g2 r2 => ?_) q1⟩
  refine ⟨ι2, ps, h2, sr.go hr (g1.trans g2), r2, hi.mono (fun j h3 q3 ι3 H3 g3 r3 => ?_) q2⟩
  obtain ⟨a, rfl, hs⟩ := v1
  obtain ⟨vs, ⟨e1, _⟩, e2⟩ := hs ι3 H3 h3 (g2.trans g3) r3 q3.1
  refine ⟨a, vs, rfl, e1, fun p H4 s4 h4 n4 => ?_⟩
  obtain ⟨a1, a2, a3⟩ := Own.newO r3 s4 h4 n4 (e2.cut i j)
  exact q3.2 ι3 p H4 (((g1.trans g2).trans g3).trans a2) a1 (((g1.trans g2).trans g3).free' r3 n4) a3
def listAt (x : PV) (h : PH) : Prop := match x with | .ref n => (match h[n]? with | some (.lst _) => True | _ => False) | _ => False
theorem listAt.ty {ι : List Addr} {H : Hp} {h : PH} {v : V} {x : PV} (hr : HR K ι H h) (hv : VR K ι H v x) (hl : listAt x h) : tyV K "list" v H := by
  unfold listAt at hl
  cases hv with
  | @ref n a e =>
    dsimp only at hl
    revert hl
    split
    · rename_i xs hn
      intro _
      obtain ⟨vs, e1, e2⟩ := hr.obj n a _ e hn
      exact .inl ⟨rfl, vs, SqL.of e1⟩
    · exact False.elim
  | _ => exact hl.elim
structure MM where
  f : PV → List PV → PH → QV → Prop
  mono : ∀ {x l h} {Q Q' : QV}, (∀ v h', Q v h' → Q' v h') → f x l h Q → f x l h Q'
def MM.Ok (K : PySem.W.Frag) (r : V → List V → Hp → VK → Prop) (m : MM) : Prop := ∀ {ι H h v x vs l Q}, HR K ι H h → VR K ι H v x → VRs K ι H vs l → m.f x l h (pQ K ι H Q) → r v vs H Q
def mLM (M : MM) (o : ME) (as : MA) : ME := ⟨fun ps h Q => o.run ps h fun x h1 => listAt x h1 ∧ as.run ps h1 fun l h2 => M.f x l h2 Q, fun f q => o.mono (fun _ _ q => ⟨q.1, as.mono (fun _ _ q => M.mono f q) q.2⟩) q⟩
section
variable {name : Str} {apos cpos : Pos} {idn : String} {r : V → List V → Hp → VK → Prop}
theorem q_lm (K : PySem.W.Frag) (hK : X.K = K) {M : MM} {mo : ME} {as : MA} (slot : Slot "list" name idn) (hty : typeOf (.builtin idn) = pure (.type "method_descriptor")) (hm : MtR X idn r) (hM : MM.Ok K r M) (ho : PE X o (lE K mo)) (ha : PA X (e :: es) (lA K as))
    (hbase : attributeBase o name X.env (eval o X.env) = eval o X.env := by rfl)
    (hfew : ((backTo cpos (starEach (e :: es) X.env)).all (fun x => !x.1) && (backToKw cpos (keywordEach [] X.env)).all (fun x => x.1.isSome)
      && decide ((e :: es).length + ([] : List Keyword).length + (if ([] : List Keyword).isEmpty then 0 else 1) < 30)) = true := by rfl)
    (hline : (apos.endLine == cpos.line) = true := by rfl) (hs : starEach (e :: es) X.env = (false, eval e X.env) :: starEach es X.env := by rfl) (hplain : (backTo cpos (starEach es X.env)).any (·.1) = false := by rfl) :
    PE X (.Call (.Attribute o name apos) (e :: es) [] cpos) (lE K (mLM M mo as)) := PE.imp (pe_bmk K hK PySem.F.plainAttrs_list slot hty hm ho ha hbase hfew hline hs hplain) fun σ H Q ⟨ι, ps, h, sr, hr, q⟩ => by
  refine ⟨ι, ps, h, sr, hr, mo.mono (fun x h1 q1 ι1 u1 H1 g1 r1 v1 => ?_) q⟩
  refine ⟨q1.1.ty r1 v1, ι1, ps, h1, sr.go hr g1, r1, as.mono (fun l h2 q2 ι2 vs H2 g2 r2 v2 => ?_) q1.2⟩
  exact hM r2 (g2.vr r1 v1) v2 (M.mono (fun _ _ z => pQ.go (g1.trans g2) z) q2)
theorem q_lm0 (K : PySem.W.Frag) (hK : X.K = K) {M : MM} {mo : ME} (slot : Slot "list" name idn) (hty : typeOf (.builtin idn) = pure (.type "method_descriptor")) (hm : MtR X idn r) (hM : MM.Ok K r M) (ho : PE X o (lE K mo))
    (hbase : attributeBase o name X.env (eval o X.env) = eval o X.env := by rfl) (hline : (apos.endLine == cpos.line) = true := by rfl) :
    PE X (.Call (.Attribute o name apos) [] [] cpos) (lE K (mLM M mo mNil)) := PE.imp (pe_bm0k K hK PySem.F.plainAttrs_list slot hty hm ho hbase hline) fun σ H Q ⟨ι, ps, h, sr, hr, q⟩ => by
  refine ⟨ι, ps, h, sr, hr, mo.mono (fun x h1 q1 ι1 u1 H1 g1 r1 v1 => ?_) q⟩
  exact ⟨q1.1.ty r1 v1, hM r1 v1 .nil (M.mono (fun _ _ z => pQ.go g1 z) q1.2)⟩
structure MMQ where
  f : PV → Src → PH → QV → Prop
  mono : ∀ {x l h} {Q Q' : QV}, (∀ v h', Q v h' → Q' v h') → f x l h Q → f x l h Q'
def MMQ.Ok (K : PySem.W.Frag) (r : V → List V → Hp → VK → Prop) (m : MMQ) : Prop := ∀ {ι H h v x u S Q}, HR K ι H h → VR K ι H v x → SqS K ι H u S → S.ok h → m.f x S h (pQ K ι H Q) → r v [u] H Q
def mLMQ (M : MMQ) (o : ME) (a : MQ) : ME := ⟨fun ps h Q => o.run ps h fun x h1 => listAt x h1 ∧ a.run ps h1 fun l h2 => M.f x l h2 Q, fun f q => o.mono (fun _ _ q => ⟨q.1, a.mono (fun _ _ q => M.mono f q) q.2⟩) q⟩
theorem q_lmQ (K : PySem.W.Frag) (hK : X.K = K) {M : MMQ} {mo : ME} {ma : MQ} (slot : Slot "list" name idn) (hty : typeOf (.builtin idn) = pure (.type "method_descriptor")) (hm : MtR X idn r) (hM : MMQ.Ok K r M) (ho : PE X o (lE K mo)) (ha : PE X e (lQ K ma))
    (hbase : attributeBase o name X.env (eval o X.env) = eval o X.env := by rfl)
    (hfew : ((backTo cpos (starEach [e] X.env)).all (fun x => !x.1) && (backToKw cpos (keywordEach [] X.env)).all (fun x => x.1.isSome)
      && decide ([e].length + ([] : List Keyword).length + (if ([] : List Keyword).isEmpty then 0 else 1) < 30)) = true := by rfl)
    (hline : (apos.endLine == cpos.line) = true := by rfl) (hs : starEach [e] X.env = (false, eval e X.env) :: starEach [] X.env := by rfl) (hplain : (backTo cpos (starEach [] X.env)).any (·.1) = false := by rfl) :
    PE X (.Call (.Attribute o name apos) [e] [] cpos) (lE K (mLMQ M mo ma)) := PE.imp (pe_bmk K hK PySem.F.plainAttrs_list slot hty hm ho (pa_cons ha pa_nil hs) hbase hfew hline hs hplain) fun σ H Q ⟨ι, ps, h, sr, hr, q⟩ => by
  refine ⟨ι, ps, h, sr, hr, mo.mono (fun x h1 q1 ι1 u1 H1 g1 r1 v1 => ?_) q⟩
  refine ⟨q1.1.ty r1 v1, ι1, ps, h1, sr.go hr g1, r1, ma.mono (fun l h2 q2 ι2 u2 H2 g2 r2 v2 ok => ?_) q1.2⟩
  exact hM r2 (g2.vr r1 v1) v2 ok (M.mono (fun _ _ z => pQ.go (g1.trans g2) z) q2)
end
def mmAppend : MM := ⟨fun x l h Q => match x, l with
  | .ref n, [y] => match h[n]? with | some (.lst xs) => xs.length < sizeLine ∧ Q .non (h.set n (.lst (xs ++ [y]))) | _ => False
  | _, _ => False, fun f q => by
    revert q
    split
    · split
      · exact fun q => ⟨q.1, f _ _ q.2⟩
      · exact fun z => z
    · exact fun z => z⟩
theorem mmAppend_ok : MM.Ok K rAppendN mmAppend := by
  intro ι H h v x vs l Q hr hv hl q
  unfold mmAppend at q
  dsimp only at q
  revert q
  split
  · rename_i n y
    cases hv with
    | @ref _ a e =>
    cases hl with
    | cons hy t =>
    cases t
    split
    · rename_i xs hn
      intro q
      obtain ⟨ws, e1, e2⟩ := hr.obj n a _ e hn
      refine ⟨a, ws, _, rfl, rfl, e1, by rw [e2.length]; exact q.1, fun H2 s2 h2 => ?_⟩
      obtain ⟨b1, b2, b3⟩ := hr.put (o := .lst (xs ++ [y])) e s2 fun ht => ⟨_, h2, (e2.append (.cons hy .nil)).mono ht fun _ _ e => e⟩
      exact q.2 ι _ H2 b2 b1 .non
    · exact False.elim
  · exact False.elim
def mmPop : MM := ⟨fun x l h Q => match x, l with
  | .ref n, [] => match h[n]? with | some (.lst xs) => (match xs.getLast? with | some y => Q y (h.set n (.lst xs.dropLast)) | none => False) | _ => False
  | _, _ => False, fun f q => by
    revert q
    split
    · split
      · split
        · exact f _ _
        · exact fun z => z
      · exact fun z => z
    · exact fun z => z⟩
theorem mmPop_ok : MM.Ok K rPopN mmPop := by
  intro ι H h v x vs l Q hr hv hl q
  unfold mmPop at q
  dsimp only at q
  revert q
  split
  · rename_i n
    cases hv with
    | @ref _ a e =>
    cases hl
    split
    · rename_i xs hn
      split
      · rename_i y hy
        intro q
        obtain ⟨ws, e1, e2⟩ := hr.obj n a _ e hn
        obtain ⟨zs, rfl⟩ : ∃ zs, xs = zs ++ [y] := List.getLast?_eq_some_iff.mp hy
        rw [List.dropLast_concat] at q
        have hne : ws ≠ [] := fun z => by have := e2.length; rw [z] at this; simp at this
        have ew : ws = ws.dropLast ++ [ws.getLast hne] := (List.dropLast_concat_getLast hne).symm
        have hz : VRs K ι H ws.dropLast zs ∧ VR K ι H (ws.getLast hne) y := by
          have hl2 := e2.length
          rw [List.length_append, List.length_singleton] at hl2
          have h1 := e2.take zs.length
          rw [List.take_left, show zs.length = ws.length - 1 by omega, ← List.dropLast_eq_take] at h1
          obtain ⟨v, g1, g2⟩ := e2.get (i := zs.length) (p := y) (by simp)
          refine ⟨h1, ?_⟩
          have : v = ws.getLast hne := by
            rw [List.getLast_eq_getElem]
            have g3 := List.getElem?_eq_some_iff.mp g1
            obtain ⟨g3, g4⟩ := g3
            rw [← g4]
            congr 1
            omega
          rw [← this]; exact g2
        refine ⟨a, ws.dropLast, ws.getLast hne, rfl, rfl, by rw [← ew]; exact e1, fun H2 s2 h2 => ?_⟩
        obtain ⟨b1, b2, b3⟩ := hr.put (o := .lst zs) e s2 fun ht => ⟨_, h2, hz.1.mono ht fun _ _ e => e⟩
        exact q ι _ H2 b2 b1 (b2.vr hr hz.2)
      · exact False.elim
    · exact False.elim
  · exact False.elim
def rExt (K : PySem.W.Frag) : V → List V → Hp → VK → Prop := fun x vs H Q => rExtendTN K x vs H Q ∨ rExtendLN x vs H Q
theorem mt_ext (K : PySem.W.Frag) (hK : X.K = K) : MtM X "list.extend" (rExt K) := by
  intro pins s σ H x xs v us Q I rx rv q
  rcases q with q | q
  · exact mt_extendTk K hK pins s σ H x xs v us Q I rx rv q
  · exact mt_extendLN pins s σ H x xs v us Q I rx rv q
def mmExtend : MMQ := ⟨fun x S h Q => match x with
  | .ref n => match h[n]? with | some (.lst xs) => S.fz = false ∧ xs.length + S.items.length ≤ sizeLine ∧ Q .non (h.set n (.lst (xs ++ S.items))) | _ => False
  | _ => False, fun f q => by
    revert q
    split
    · split
      · exact fun q => ⟨q.1, q.2.1, f _ _ q.2.2⟩
      · exact fun z => z
    · exact fun z => z⟩
theorem mmExtend_ok : MMQ.Ok K (rExt K) mmExtend := by
  intro ι H h v x u S Q hr hv hs ok q
  unfold mmExtend at q
  dsimp only at q
  revert q
  split
  · rename_i n
    cases hv with
    | @ref _ a e =>
    split
    · rename_i xs hn
      rintro ⟨f1, hl, q⟩
      obtain ⟨ws, e1, e2⟩ := hr.obj n a _ e hn
      obtain ⟨b, rfl, z | z⟩ := hs
      · obtain ⟨us, ⟨_, e3⟩, e4⟩ := z ι H h (Go.refl _ _) hr ok
        refine .inr ⟨a, b, ws, us, rfl, rfl, e1, e3 f1, by rw [e2.length, e4.length]; exact hl, fun H2 s2 h2 => ?_⟩
        obtain ⟨b1, b2, b3⟩ := hr.put (o := .lst (xs ++ S.items)) e s2 fun ht => ⟨_, h2, (e2.append e4).mono ht fun _ _ e => e⟩
        exact q ι _ H2 b2 b1 .non
      · obtain ⟨us, e3, e4⟩ := z ι H h (Go.refl _ _) hr ok
        refine .inl ⟨a, b, ws, us, rfl, rfl, e1, SqT.of e3, by rw [e2.length, e4.length]; exact hl, fun H2 s2 h2 => ?_⟩
        obtain ⟨b1, b2, b3⟩ := hr.put (o := .lst (xs ++ S.items)) e s2 fun ht => ⟨_, h2, (e2.append e4).mono ht fun _ _ e => e⟩
        exact q ι _ H2 b2 b1 .non
    · exact False.elim
  · exact False.elim
end
end PL
set_option Elab.async false
set_option linter.all false
set_option maxRecDepth 100000
namespace PL
open PySem PySem.Spec PyProof.Rows L2
variable {K : PySem.W.Frag}
section
variable {X : Cx} {a b c e o tg : Expr} {es : List Expr} {pos p : Pos}
def intsV (lo : Int) (n : Nat) : List PV := (List.range n).map fun (i : Nat) => .int (lo + (i : Int))
theorem intsV_len (lo : Int) (n : Nat) : (intsV lo n).length = n := by unfold intsV; simp
theorem intsV_get {lo : Int} {n i : Nat} {p : PV} (h : (intsV lo n)[i]? = some p) : i < n ∧ p = .int (lo + i) := by
  unfold intsV at h
  rw [List.getElem?_map] at h
  cases z : (List.range n)[i]? with
  | none => rw [z] at h; cases h
  | some k =>
    rw [z] at h
    obtain ⟨h1, h2⟩ := List.getElem?_eq_some_iff.mp z
    simp at h1 h2
    subst h2
    exact ⟨h1, (Option.some.inj h).symm⟩
def small62 (i : Int) : Prop := -(2 ^ 62) ≤ i ∧ i < 2 ^ 62
def mRange1 (m : MA) : MI := ⟨fun ps h Q => m.run ps h fun l h1 => match l with | [.int j] => small62 j ∧ Q ⟨intsV 0 j.toNat, fun _ => True, false⟩ h1 | _ => False, fun f q => m.mono (fun l h1 q => by
  revert q
  split
  · exact fun q => ⟨q.1, f _ _ q.2⟩
  · exact fun z => z) q⟩
theorem JS_int {ι : List Addr} {H : Hp} (lo : Int) (n : Nat) : JS K ι H (Itr lo n) ⟨intsV lo n, fun _ => True, false⟩ := fun ι' H' h' g r ok =>
  ⟨fun i p hp => by
    obtain ⟨h1, rfl⟩ := intsV_get hp
    refine ⟨h1, fun x H2 y => ?_⟩
    obtain ⟨rfl, rfl⟩ := y
    exact ⟨Same.refl _, .int _⟩, by show n ≤ (intsV lo n).length; rw [intsV_len]; exact Nat.le_refl _⟩
theorem qi_range1 {m : MA} (hg : Gl X "range") (hm : X.mg "range" = none) (ha : PA X [a] (lA K m)) (hs : starEach [a] X.env = [(false, eval a X.env)] := by rfl) : PI X tg (.Call (.Name "range" p) [a] [] pos) (lI K (mRange1 m)) := PI.imp (pi_range1 hg hm ha hs) fun σ H R ⟨ι, ps, h, sr, hr, q⟩ => by
  refine ⟨ι, ps, h, sr, hr, m.mono (fun l h1 q1 ι1 vs H1 g1 r1 v1 => ?_) q⟩
  revert q1
  split
  · intro q1
    cases v1 with
    | cons x t => cases t; cases x; exact ⟨_, rfl, q1.1.1, q1.1.2, q1.2 ι1 _ H1 g1 r1 (JS_int _ _)⟩
  · exact False.elim
def enumV (k : Nat) : List PV → List PV
  | [] => []
  | x :: l => .tup [.int (k : Int), x] :: enumV (k + 1) l
theorem enumV_len : ∀ (k : Nat) (l : List PV), (enumV k l).length = l.length
  | _, [] => rfl
  | k, x :: l => by rw [enumV, List.length_cons, List.length_cons, enumV_len]
theorem enumV_get : ∀ {k : Nat} {l : List PV} {i : Nat} {p : PV}, (enumV k l)[i]? = some p → ∃ x, l[i]? = some x ∧ p = .tup [.int ((k + i : Nat) : Int), x]
  | _, [], _, _, h => by simp [enumV] at h
  | k, x :: l, 0, p, h => by simp [enumV] at h; subst h; exact ⟨x, rfl, by simp⟩
  | k, x :: l, i + 1, p, h => by
    obtain ⟨y, h1, h2⟩ := enumV_get (k := k + 1) (l := l) (i := i) (p := p) (by simpa [enumV] using h)
    exact ⟨y, by simpa using h1, by rw [h2, show k + 1 + i = k + (i + 1) by omega]⟩
def mEnum (m : MQ) : MI := ⟨fun ps h Q => m.run ps h fun S h1 => Q ⟨enumV 0 S.items, S.ok, S.fz⟩ h1, fun f q => m.mono (fun _ _ q => f _ _ q) q⟩
def iEnumA (K : PySem.W.Frag) (t1 : TE) : TI := fun σ H R => t1 σ H fun x H1 => ∃ a, x = .ref a ∧ (((∃ xs, SqL K H1 a xs) ∧ R (Itel K a) H1) ∨ ((∃ xs, SqT K H1 a xs) ∧ R (Ite K a) H1))
theorem pi_enumA {X : Cx} (K : PySem.W.Frag) (hK : X.K = K) {e1 : Expr} {t1 : TE} {elts : List Expr} {kk : Nat} {tp p1 p2 : Pos} (hg : Gl X "enumerate") (hm : X.mg "enumerate" = none) (h1 : PE X e1 t1)
    (hs1 : starEach [e1] X.env = (false, eval e1 X.env) :: starEach [] X.env := by rfl) : PI X (.Tuple elts kk tp) (.Call (.Name "enumerate" p1) [e1] [] p2) (iEnumA K t1) := by
  subst hK
  intro pins s σ H R I h
  refine wpAny_Call_Name_kw (ld_blt I hg hm boot_enumerate ?_ (by decide) (by decide))
  refine PyProof.Rows.callWith_type1 ?_ hs1 rfl
  rw [hs1]
  show wpAny _ _ (spliced ((false, eval e1 X.env) :: backTo p2 (starEach [] X.env))) _ _ s
  refine Calls.spliced_cons (thn (h1 pins s σ H _ I h) fun u1 s1 ⟨x, H1, I1, r1, a, ex, hh⟩ => Calls.spliced_nil ?_)
  subst ex
  cases r1
  have d1 : s1.heap.objs.size + 1 ≠ s1.heap.objs.size := Nat.succ_ne_self _
  rcases hh with ⟨⟨xs, hx⟩, q⟩ | ⟨⟨xs, hx⟩, q⟩
  · obtain ⟨its, rx, tx, _⟩ := I1.list hx
    refine call_enumerate_list tx.isList fun h' ze hi _ k => ?_
    refine wpAny_pyIter_enum ze ?_
    refine ⟨_, _, _, _, H1, rfl, I1.kept (t' := s1.toks) k, turn_enumL d1, ⟨⟨_, ze⟩, hi⟩, fun c hc => ?_, q⟩
    have hle : s1.heap.objs.size ≤ c := by
      simp only [List.mem_cons, List.not_mem_nil, or_false] at hc
      rcases hc with rfl | rfl
      · exact Nat.le_add_right _ _
      · exact Nat.le_refl _
    exact I1.fpOk hle (I1.hok.fresh hle)
  · obtain ⟨its, rx, tx, _⟩ := I1.tuple hx
    have l1 : a < s1.heap.objs.size := let ⟨_, e, _⟩ := tx; Heap.lt_size e
    refine call_enumT tx fun h' ze hi k => ?_
    refine wpAny_pyIter_enum ze ?_
    refine ⟨_, _, _, _, H1, rfl, I1.kept (t' := s1.toks) k, turn_enum d1 (Nat.ne_of_lt (Nat.lt_of_lt_of_le l1 (Nat.le_add_right _ 1))) (Nat.ne_of_lt l1), ⟨⟨_, ze⟩, hi⟩, fun c hc => ?_, q⟩
    have hle : s1.heap.objs.size ≤ c := by
      simp only [List.mem_cons, List.not_mem_nil, or_false] at hc
      rcases hc with rfl | rfl
      · exact Nat.le_add_right _ _
      · exact Nat.le_refl _
    exact I1.fpOk hle (I1.hok.fresh hle)
theorem qi_enum (K : PySem.W.Frag) (hK : X.K = K) {m : MQ} {elts : List Expr} {kk : Nat} {tp p1 p2 : Pos} (hg : Gl X "enumerate") (hm : X.mg "enumerate" = none) (h : PE X e (lQ K m)) (hs1 : starEach [e] X.env = (false, eval e X.env) :: starEach [] X.env := by rfl) :
    PI X (.Tuple elts kk tp) (.Call (.Name "enumerate" p1) [e] [] p2) (lI K (mEnum m)) := PI.imp (pi_enumA K hK hg hm h hs1) fun σ H R ⟨ι, ps, h, sr, hr, q⟩ => by
  refine ⟨ι, ps, h, sr, hr, m.mono (fun S h1 q1 ι1 u1 H1 g1 r1 v1 ok => ?_) q⟩
  obtain ⟨a, rfl, hs | hs⟩ := v1
  · refine ⟨a, rfl, .inl ⟨let ⟨vs, h1, _⟩ := hs ι1 H1 h1 (Go.refl _ _) r1 ok; ⟨vs, h1.1⟩, q1 ι1 _ H1 g1 r1 fun ι2 H2 h2 g2 r2 ok2 => ?_⟩⟩
    obtain ⟨vs, ⟨e1, _⟩, e2⟩ := hs ι2 H2 h2 g2 r2 ok2
    refine ⟨fun i p hp => ?_, vs, e1, by rw [e2.length, enumV_len]; exact Nat.le_refl _⟩
    obtain ⟨y, hy, rfl⟩ := enumV_get hp
    obtain ⟨v, h3, h4⟩ := e2.get hy
    refine ⟨⟨vs, v, e1, h3⟩, fun x H3 z => ?_⟩
    obtain ⟨pp, x0, rfl, hn, rfl, hz⟩ := z
    have := hz vs e1
    rw [h3] at this
    cases this
    have sm := same_new hn (.tup [.int (i : Int), v])
    exact ⟨sm, .tup upd_same (.cons (by rw [Nat.zero_add]; exact .int _) (.cons ((Go.same sm).vr r2 h4) .nil))⟩
  · refine ⟨a, rfl, .inr ⟨let ⟨vs, h1, _⟩ := hs ι1 H1 h1 (Go.refl _ _) r1 ok; ⟨vs, SqT.of h1⟩, q1 ι1 _ H1 g1 r1 fun ι2 H2 h2 g2 r2 ok2 => ?_⟩⟩
    obtain ⟨vs, e1, e2⟩ := hs ι2 H2 h2 g2 r2 ok2
    have e1 := SqT.of (K := K) e1
    refine ⟨fun i p hp => ?_, vs, e1, by rw [e2.length, enumV_len]; exact Nat.le_refl _⟩
    obtain ⟨y, hy, rfl⟩ := enumV_get hp
    obtain ⟨v, h3, h4⟩ := e2.get hy
    refine ⟨⟨vs, v, e1, h3⟩, fun x H3 z => ?_⟩
    obtain ⟨pp, x0, rfl, hn, rfl, hz⟩ := z
    have := hz vs e1
    rw [h3] at this
    cases this
    have sm := same_new hn (.tup [.int (i : Int), v])
    exact ⟨sm, .tup upd_same (.cons (by rw [Nat.zero_add]; exact .int _) (.cons ((Go.same sm).vr r2 h4) .nil))⟩
def zipV : List PV → List PV → List PV
  | x :: l, y :: m => .tup [x, y] :: zipV l m
  | _, _ => []
theorem zipV_len : ∀ {l m : List PV}, l.length = m.length → (zipV l m).length = l.length
  | [], [], _ => rfl
  | x :: l, y :: m, h => by rw [zipV, List.length_cons, List.length_cons, zipV_len (by simpa using h)]
theorem zipV_get : ∀ {l m : List PV} {i : Nat} {p : PV}, (zipV l m)[i]? = some p → ∃ x y, l[i]? = some x ∧ m[i]? = some y ∧ p = .tup [x, y]
  | [], m, i, p, h => by simp [zipV] at h
  | x :: l, [], i, p, h => by simp [zipV] at h
  | x :: l, y :: m, 0, p, h => by simp [zipV] at h; subst h; exact ⟨x, y, rfl, rfl, rfl⟩
  | x :: l, y :: m, i + 1, p, h => by
    obtain ⟨u, w, h1, h2, h3⟩ := zipV_get (l := l) (m := m) (i := i) (p := p) (by simpa [zipV] using h)
    exact ⟨u, w, by simpa using h1, by simpa using h2, h3⟩
def mZip (a b : ME) : MI := ⟨fun ps h Q => a.run ps h fun x h1 => b.run ps h1 fun y h2 => match x, y with | .tup l, .tup m => l.length = m.length ∧ Q ⟨zipV l m, fun _ => True, false⟩ h2 | _, _ => False, fun f q => a.mono (fun _ _ q => b.mono (fun _ _ q => by
  revert q
  split
  · exact fun q => ⟨q.1, f _ _ q.2⟩
  · exact fun z => z) q) q⟩
theorem qi_zip (K : PySem.W.Frag) (hK : X.K = K) {ma mb : ME} {elts : List Expr} {kk : Nat} {tp p1 p2 : Pos} (hg : Gl X "zip") (hm : X.mg "zip" = none) (ha : PE X a (lE K ma)) (hb : PE X b (lE K mb))
    (hs1 : starEach [a, b] X.env = (false, eval a X.env) :: starEach [b] X.env := by rfl) (hs2 : starEach [b] X.env = (false, eval b X.env) :: starEach [] X.env := by rfl) (hpl : (backTo p2 (starEach [b] X.env)).any (·.1) = false := by rfl) :
    PI X (.Tuple elts kk tp) (.Call (.Name "zip" p1) [a, b] [] p2) (lI K (mZip ma mb)) := PI.imp (pi_zip K hK hg hm ha hb hs1 hs2 hpl) fun σ H R ⟨ι, ps, h, sr, hr, q⟩ => by
  refine ⟨ι, ps, h, sr, hr, ma.mono (fun x h1 q1 ι1 u1 H1 g1 r1 v1 => ?_) q⟩
  refine ⟨ι1, ps, h1, sr.go hr g1, r1, mb.mono (fun y h2 q2 ι2 u2 H2 g2 r2 v2 => ?_) q1⟩
  revert q2
  split
  · rename_i l m
    rintro ⟨hlen, q2⟩
    have v1' := g2.vr r1 v1
    cases v1' with
    | @tup pa vs _ e1 t1 =>
    cases v2 with
    | @tup pb ws _ e2 t2 =>
    refine ⟨pa, pb, rfl, rfl, ⟨_, SqT.of e1⟩, ⟨_, SqT.of e2⟩, q2 ι2 _ H2 (g1.trans g2) r2 fun ι3 H3 h3 g3 r3 ok3 => ?_⟩
    have f1 := SqT.of (K := K) ((g3.tups (K := K) r2).t _ _ e1)
    have f2 := SqT.of (K := K) ((g3.tups (K := K) r2).t _ _ e2)
    have t1' := g3.vrs r2 t1
    have t2' := g3.vrs r2 t2
    refine ⟨fun i p hp => ?_, vs, f1, by rw [t1.length]; show _ ≤ (zipV l m).length; rw [zipV_len hlen]; exact Nat.le_refl _⟩
    obtain ⟨x, y, hx, hy, rfl⟩ := zipV_get hp
    obtain ⟨v, h3', h4⟩ := t1'.get hx
    obtain ⟨w, h5, h6⟩ := t2'.get hy
    refine ⟨⟨vs, ws, v, w, f1, f2, h3', h5⟩, fun z H4 zz => ?_⟩
    obtain ⟨pp, x0, y0, rfl, hn, rfl, hz1, hz2⟩ := zz
    have k1 := hz1 vs f1
    have k2 := hz2 ws f2
    rw [h3'] at k1
    rw [h5] at k2
    cases k1
    cases k2
    have sm := same_new hn (.tup [v, w])
    exact ⟨sm, .tup upd_same (.cons ((Go.same sm).vr r3 h4) (.cons ((Go.same sm).vr r3 h6) .nil))⟩
  · exact False.elim
end
end PL
set_option Elab.async false
set_option linter.all false
set_option maxRecDepth 100000
namespace PL
open PySem PySem.Spec PyProof.Rows L2
variable {K : PySem.W.Frag}
mutual
def PV.lim (n : Nat) : PV → Bool
  | .tup l => limL n l
  | .cl l => limL n l
  | .ref k => decide (k < n)
  | _ => true
def limL (n : Nat) : List PV → Bool
  | [] => true
  | x :: l => x.lim n && limL n l
end
def PO.lim (n : Nat) : PO → Bool
  | .lst xs => limL n xs
  | .dk kvs => limL n (kvs.map (·.2))
  | .dt kvs => limL n (kvs.map (·.2))
  | .dtz _ kvs => limL n (kvs.map (·.2))
  | .opq _ => true
def limH (n : Nat) (h : PH) : Prop := ∀ o ∈ h, PO.lim n o = true
section
variable {ι m : List Addr} {H : Hp}
mutual
theorem VR.lim : ∀ {v : V} {p : PV}, VR K ι H v p → p.lim ι.length = true
  | _, _, .non => by rw [PV.lim] <;> simp
  | _, _, .bl _ => by rw [PV.lim] <;> simp
  | _, _, .int _ => by rw [PV.lim] <;> simp
  | _, _, .str _ => by rw [PV.lim] <;> simp
  | _, _, .ty _ => by rw [PV.lim] <;> simp
  | _, _, .tup _ r => by rw [PV.lim]; exact VRs.lim r
  | _, _, .cl _ r => by rw [PV.lim]; exact VRs.lim r
  | _, _, .ref e => by rw [PV.lim]; exact decide_eq_true (List.getElem?_eq_some_iff.mp e).1
theorem VRs.lim : ∀ {v : List V} {p : List PV}, VRs K ι H v p → limL ι.length p = true
  | _, _, .nil => by rw [limL]
  | _, _, .cons r t => by rw [limL, VR.lim r, VRs.lim t]; rfl
end
mutual
theorem VR.shrink : ∀ {v : V} {p : PV}, VR K (ι ++ m) H v p → p.lim ι.length = true → VR K ι H v p
  | _, _, .non, _ => .non
  | _, _, .bl b, _ => .bl b
  | _, _, .int i, _ => .int i
  | _, _, .str x, _ => .str x
  | _, _, .ty n, _ => .ty n
  | _, _, .tup h r, e => .tup h (VRs.shrink r (by rw [PV.lim] at e; exact e))
  | _, _, .cl h r, e => .cl h (VRs.shrink r (by rw [PV.lim] at e; exact e))
  | _, _, .ref h, e => .ref (by
    rw [PV.lim] at e
    have := of_decide_eq_true e
    rw [List.getElem?_append_left this] at h; exact h)
theorem VRs.shrink : ∀ {v : List V} {p : List PV}, VRs K (ι ++ m) H v p → limL ι.length p = true → VRs K ι H v p
  | _, _, .nil, _ => .nil
  | _, _, .cons r t, e => by
    rw [limL, Bool.and_eq_true] at e
    exact .cons (VR.shrink r e.1) (VRs.shrink t e.2)
end
theorem OR.shrink {a : Addr} {o : PO} (h : OR K (ι ++ m) H a o) (e : o.lim ι.length = true) : OR K ι H a o := by
  cases o with
  | lst xs => obtain ⟨vs, h1, h2⟩ := h; exact ⟨vs, h1, h2.shrink e⟩
  | dk xs => obtain ⟨vs, h1, h0, h2⟩ := h; exact ⟨vs, h1, h0, h2.shrink e⟩
  | dt xs => obtain ⟨vs, h1, h0, h2⟩ := h; exact ⟨vs, h1, h0, h2.shrink e⟩
  | dtz o xs => obtain ⟨vs, h1, h0, h2⟩ := h; exact ⟨vs, h1, h0, h2.shrink e⟩
  | opq φ => exact h
theorem OR.lim {a : Addr} {o : PO} (h : OR K ι H a o) : o.lim ι.length = true := by
  cases o with
  | lst xs => obtain ⟨vs, h1, h2⟩ := h; exact h2.lim
  | dk xs => obtain ⟨vs, h1, h0, h2⟩ := h; exact h2.lim
  | dt xs => obtain ⟨vs, h1, h0, h2⟩ := h; exact h2.lim
  | dtz o xs => obtain ⟨vs, h1, h0, h2⟩ := h; exact h2.lim
  | opq φ => rfl
theorem HR.lim {h : PH} (r : HR K ι H h) : limH h.length h := fun o ho => by
  obtain ⟨n, hn⟩ := List.getElem?_of_mem ho
  have hl := (List.getElem?_eq_some_iff.mp hn).1
  rw [← r.len] at hl
  rw [← r.len]
  exact (r.obj n _ o (List.getElem?_eq_getElem hl) hn).lim
theorem HR.shrink {h g : PH} (r : HR K (ι ++ m) H (h ++ g)) (hl : ι.length = h.length) (e : limH h.length h) : HR K ι H h := by
  refine ⟨(List.nodup_append.mp r.nd).1, hl, fun n a o e1 e2 => ?_⟩
  have n1 := (List.getElem?_eq_some_iff.mp e1).1
  have n2 := (List.getElem?_eq_some_iff.mp e2).1
  have := r.obj n a o (by rw [List.getElem?_append_left n1]; exact e1) (by rw [List.getElem?_append_left n2]; exact e2)
  exact this.shrink (by rw [hl]; exact e o (List.mem_of_getElem? e2))
end
theorem Go.shrink {ι m : List Addr} {H H' : Hp} (g : Go ι (ι ++ m) H H') : Go ι ι H H' := ⟨⟨[], by simp⟩, fun a h n => absurd h n, g.keep⟩
def exitV (n : Nat) (Q : QV) (v : PV) (h' : PH) : Prop := ∃ h0 g, h' = h0 ++ g ∧ h0.length = n ∧ v.lim n = true ∧ limH n h0 ∧ Q v h0
def exitD (n : Nat) (Q : QV) : PD := ⟨fun _ h' => exitV n Q .non h', exitV n Q, fun _ _ => False, fun _ _ => False⟩
def exitL (n : Nat) (Q : List PV → PH → Prop) (v : PV) (h' : PH) : Prop := ∃ k h0 g xs, v = .ref k ∧ n ≤ k ∧ h' = h0 ++ g ∧ h0.length = n ∧ h'[k]? = some (.lst xs) ∧ limL n xs = true ∧ limH n h0 ∧ Q xs h0
def exitLD (n : Nat) (Q : List PV → PH → Prop) : PD := ⟨fun _ _ => False, exitL n Q, fun _ _ => False, fun _ _ => False⟩
def begin (n : Nat) (l : List PV) : PSt := l.map some ++ List.replicate (n - l.length) none
theorem SR.begin {ι : List Addr} {H : Hp} {vs : List V} {l : List PV} (N : List Str) (r : VRs K ι H vs l) : SR K ι H (L2.start N vs) (begin N.length l) := by
  unfold L2.start PL.begin
  refine ⟨by simp [r.length], fun i p e => ?_⟩
  by_cases hi : i < l.length
  · rw [List.getElem?_append_left (by simpa using hi), List.getElem?_map] at e
    cases z : l[i]? with
    | none => rw [z] at e; cases e
    | some q =>
      rw [z] at e
      cases e
      obtain ⟨v, h1, h2⟩ := r.get z
      exact ⟨v, by rw [List.getElem?_append_left (by rw [List.length_map, r.length]; exact hi), List.getElem?_map, h1]; rfl, h2⟩
  · rw [List.getElem?_append_right (by simpa using hi)] at e
    rw [List.getElem?_replicate] at e
    split at e <;> cases e
section
variable {P : Program} {w : World} {mg : Str → Option Value} {base : Heap} {x qual : Str} {st : Stmt} {f : Addr} {fd : FuncData} {N ps : List Str} {k : Nat}
theorem fn_ok (Fn : Fun K x qual st f fd) (S : FnScope N ps (defScope st)) (F : MF) (body : MS) (hlen : ∀ l h Q, F.run l h Q → l.length = ps.length)
    (cert : ∀ (cdv : Value) (A : Around) (outer : List Env) (s : Shared) (H : Hp) (E : XK), Room k (A.deeper (envOfC qual (defScope st) s.heap.objs.size f cdv)) → PSs (cxOf CX0 P w K mg base N qual (defScope st) f cdv A outer s H E).nox (defBody st) (lS K body))
    (hF : ∀ l h Q, limH h.length h → limL h.length l = true → F.run l h Q → body.run (exitD h.length Q) (begin N.length l) h) : FnOk P w K mg base CX0 (k + 1) f fd ps (spOf K F) := by
  refine Fn.ok S (fun vs H Q E h => ?_) (fun cdv A outer s H vs Q E hr h => ?_)
  · obtain ⟨ι, h, l, hr, hv, q⟩ := h
    rw [hv.length]; exact hlen l h _ q
  obtain ⟨ι, h, l, hr', hv, q⟩ := h
  refine ⟨_, cert cdv A outer s H E hr, ι, begin N.length l, h, SR.begin N hv, hr', ?_⟩
  have fin : ∀ v h', exitV h.length (pQ K ι H Q) v h' → pQ K ι H Q v h' := fun v h' q ι' u H' g r vu => by
    obtain ⟨h0, gg, rfl, hl, lv, lh, q⟩ := q
    obtain ⟨m, e⟩ := g.ext
    subst e
    have hl' : ι.length = h0.length := by rw [hr'.len, hl]
    exact q ι u H' g.shrink (r.shrink hl' (by rw [hl]; exact lh)) (vu.shrink (by rw [hr'.len]; exact lv))
  refine body.le (hF l h _ hr'.lim (by rw [← hr'.len]; exact hv.lim) q) ⟨fun _ h' q ι' σ' H' g r s' => fin .non h' q ι' .non H' g r .non, fin, fun _ _ z => z.elim, fun _ _ z => z.elim⟩
theorem fnL_ok (Fn : Fun K x qual st f fd) (S : FnScope N ps (defScope st)) (F : MFL) (body : MS) (hlen : ∀ l h Q, F.run l h Q → l.length = ps.length)
    (cert : ∀ (cdv : Value) (A : Around) (outer : List Env) (s : Shared) (H : Hp) (E : XK), Room k (A.deeper (envOfC qual (defScope st) s.heap.objs.size f cdv)) → PSs (cxOf CX0 P w K mg base N qual (defScope st) f cdv A outer s H E).nox (defBody st) (lS K body))
    (hF : ∀ l h Q, limH h.length h → limL h.length l = true → F.run l h Q → body.run (exitLD h.length Q) (begin N.length l) h) : FnOk P w K mg base CX0 (k + 1) f fd ps (spL K F) := by
  refine Fn.ok S (fun vs H Q E h => ?_) (fun cdv A outer s H vs Q E hr h => ?_)
  · obtain ⟨ι, h, l, hr, hv, q⟩ := h
    rw [hv.length]; exact hlen l h _ q
  obtain ⟨ι, h, l, hr', hv, q⟩ := h
  refine ⟨_, cert cdv A outer s H E hr, ι, begin N.length l, h, SR.begin N hv, hr', ?_⟩
  refine body.le (hF l h _ hr'.lim (by rw [← hr'.len]; exact hv.lim) q) ⟨fun _ _ z => z.elim, fun v h' q ι' u H' g r vu => ?_, fun _ _ z => z.elim, fun _ _ z => z.elim⟩
  obtain ⟨n, h0, gg, xs, rfl, hn, rfl, hl, hx, lx, lh, q⟩ := q
  obtain ⟨m, e⟩ := g.ext
  subst e
  have hl' : ι.length = h0.length := by rw [hr'.len, hl]
  cases vu with
  | @ref _ a ea =>
  obtain ⟨vs, e1, e2⟩ := r.obj n a _ ea hx
  have na : a ∉ ι := fun z => by
    obtain ⟨j, hj⟩ := List.getElem?_of_mem z
    have j1 := (List.getElem?_eq_some_iff.mp hj).1
    have j2 : (ι ++ m)[j]? = some a := by rw [List.getElem?_append_left j1]; exact hj
    have k1 := List.getElem?_eq_some_iff.mp ea
    have k2 := List.getElem?_eq_some_iff.mp j2
    have := (List.getElem_inj r.nd).mp (k1.2.trans k2.2.symm)
    omega
  exact q ι a H' g.shrink (r.shrink hl' (by rw [hl]; exact lh)) (g.new a (List.mem_of_getElem? ea) na) ⟨na, vs, e1, e2.shrink (by rw [hr'.len]; exact lx)⟩
end
section
variable {X : Cx} {a b c e o : Expr} {pos : Pos}
def ipAdd : M2 := aI fun i j => .int (i + j)
def mAug (i : Nat) (m : ME) (M : M2) : MS := ⟨fun D ps h => match ps[i]? with | some (some x) => m.run ps h fun y h1 => M.f x y h1 fun z h2 => D.nx (ps.set i (some z)) h2 | _ => False, fun l q => by
  revert q
  split
  · exact m.mono fun _ _ q => M.mono (fun _ _ q => l.nx _ _ q) q
  · exact fun z => z⟩
theorem ip_ok {g : Int → Int → Int} : M2.Ok K (ipI g) (aI fun i j => .int (g i j)) := by
  intro ι H h u v x y Q hr hu hv q
  unfold aI at q
  dsimp only at q
  revert q
  split
  · intro q; cases hu; cases hv; exact ⟨_, _, rfl, rfl, q ι _ H (Go.refl _ _) hr (.int _)⟩
  · exact False.elim
def oGetL : M2 := ⟨fun x y h Q => match x, y with
  | .ref n, .int k => match h[n]? with | some (.lst xs) => (0 ≤ k ∧ k < 1000 ∧ match xs[k.toNat]? with | some v => Q v h | none => False) | _ => False
  | _, _ => False, fun f q => by
    revert q
    split
    · split
      · rintro ⟨k0, k1, q⟩
        refine ⟨k0, k1, ?_⟩
        revert q
        split
        · exact f _ _
        · exact fun z => z
      · exact fun z => z
    · exact fun z => z⟩
theorem oGetL_ok : M2.Ok K (rGetP K) oGetL := by
  intro ι H h u v x y Q hr hu hv q
  unfold oGetL at q
  dsimp only at q
  revert q
  split
  · rename_i n k
    cases hu with
    | @ref _ a ea =>
    cases hv
    split
    · rename_i xs hn
      rintro ⟨k0, k1, q⟩
      cases hp : xs[k.toNat]? with
      | none => rw [hp] at q; exact q.elim
      | some p =>
        rw [hp] at q
        obtain ⟨vs, e1, e2⟩ := hr.obj n a _ ea hn
        obtain ⟨v, e3, e4⟩ := e2.get hp
        exact ⟨a, vs, k, v, rfl, rfl, SqL.of e1, k0, k1, e3, q ι v H (Go.refl _ _) hr e4⟩
    · exact False.elim
  · exact False.elim
def mAugS (o i m : ME) (M : M2) : MS := ⟨fun D ps h => o.run ps h fun x h1 => i.run ps h1 fun y h2 => oGetL.f x y h2 fun z h3 => m.run ps h3 fun u h4 => M.f z u h4 fun w h5 => sList.f x y w h5 fun h6 => D.nx ps h6,
  fun l q => o.mono (fun _ _ q => i.mono (fun _ _ q => oGetL.mono (fun _ _ q => m.mono (fun _ _ q => M.mono (fun _ _ q => sList.mono (fun _ q => l.nx _ _ q) q) q) q) q) q) q⟩
theorem q_augS {i : Expr} {op : Operator} {tip : TIp} {tpos : Pos} {M : M2} {mo mi m : ME} (K : PySem.W.Frag) (hK : X.K = K) (ho : PE X o (lE K mo)) (hi : PE X i (lE K mi)) (hg : PGet X (rGetP K)) (he : PE X e (lE K m)) (hp : PIp X op tip) (hM : M2.Ok K tip M)
    (ha : ∀ ov iv new, augStore i ov iv new = (do holding [new, ov, iv] (setItem ov iv new); release [new, ov, iv] []; pure .next) := by intros; rfl) : PS X (.AugAssign (.Subscript o i tpos) op e pos) (lS K (mAugS mo mi m M)) := PS.imp (ps_augS ho hi hg he hp set_listN ha) fun D σ H ⟨ι, ps, h, sr, hr, q⟩ => by
  refine ⟨ι, ps, h, sr, hr, mo.mono (fun x h1 q1 ι1 u1 H1 g1 r1 v1 => ?_) q⟩
  refine ⟨ι1, ps, h1, sr.go hr g1, r1, mi.mono (fun y h2 q2 ι2 u2 H2 g2 r2 v2 => ?_) q1⟩
  refine oGetL_ok r2 (g2.vr r1 v1) v2 (oGetL.mono (fun z h3 q3 ι3 u3 H3 g3 r3 v3 => ?_) q2)
  refine ⟨ι3, ps, h3, sr.go hr ((g1.trans g2).trans g3), r3, m.mono (fun u h4 q4 ι4 u4 H4 g4 r4 v4 => ?_) q3⟩
  refine hM r4 (g4.vr r3 v3) v4 (M.mono (fun w h5 q5 ι5 u5 H5 g5 r5 v5 => ?_) q4)
  refine sList_ok r5 (((g2.trans g3).trans (g4.trans g5)).vr r1 v1) ((g3.trans (g4.trans g5)).vr r2 v2) v5 (sList.mono (fun h6 q6 H6 g6 r6 => ?_) q5)
  have gg := (((g1.trans g2).trans g3).trans (g4.trans g5)).trans g6
  exact q6 ι5 σ H6 gg r6 (sr.go hr gg)
end
end PL
set_option Elab.async false
set_option linter.all false
set_option maxRecDepth 100000
namespace PL
open PySem PySem.Spec PyProof.Rows L2
structure JE (X : Cx) (K : PySem.W.Frag) (e : Expr) (m : ME) : Prop where p : PE X e (lE K m)
structure JT (X : Cx) (K : PySem.W.Frag) (e : Expr) (m : MT) : Prop where p : PT X e (lT K m)
structure JW (X : Cx) (K : PySem.W.Frag) (e : Expr) (m : MT) : Prop where p : PW X e (lT K m)
structure JA (X : Cx) (K : PySem.W.Frag) (e : List Expr) (m : MA) : Prop where p : PA X e (lA K m)
structure JL (X : Cx) (K : PySem.W.Frag) (e : Expr) (m : ML) : Prop where p : PE X e (lL K m)
structure JQ (X : Cx) (K : PySem.W.Frag) (e : Expr) (m : MQ) : Prop where p : PE X e (lQ K m)
structure JQL (X : Cx) (K : PySem.W.Frag) (e : Expr) (m : MQL) : Prop where p : PE X e (lQL K m)
structure JI (X : Cx) (K : PySem.W.Frag) (tg e : Expr) (m : MI) : Prop where p : PI X tg e (lI K m)
structure JG (X : Cx) (K : PySem.W.Frag) (e : Expr) (m : MG) : Prop where p : PG X e (lG K m)
structure JGs (X : Cx) (K : PySem.W.Frag) (e : List Expr) (m : MGs) : Prop where p : PGs X e (lGs K m)
structure JS' (X : Cx) (K : PySem.W.Frag) (e : Stmt) (m : MS) : Prop where p : PS X e (lS K m)
structure JSs (X : Cx) (K : PySem.W.Frag) (e : List Stmt) (m : MS) : Prop where p : PSs X e (lS K m)
structure JF (X : Cx) (K : PySem.W.Frag) (e : List Expr) (m : MT) : Prop where p : PFs X e (lT K m)
structure JO (X : Cx) (K : PySem.W.Frag) (e : Option Expr) (m : MO) : Prop where p : L2.PO X e (lO K m)
section
variable {X : Cx} {K : PySem.W.Frag} {a b c e o tg iter : Expr} {es rest : List Expr} {pos p p1 p2 p3 p4 : Pos}
theorem j_var (i : Nat) {x : Str} (hN : X.N[i]? = some x := by rfl) (hv : Vis X.env.scope x := by first | exact Or.inl rfl | exact Or.inr (Or.inl rfl) | exact Or.inr (Or.inr rfl)) (hd : (x == ("__debug__" : Str)) = false := by decide) (hcd : (x == ("__classdict__" : Str)) = false := by decide) : JE X K (.Name x pos) (mVar i) := ⟨q_var (pe_var hN hv hd hcd)⟩
theorem j_int {i j} : JE X K (.Constant (.int i) j pos) (mC (.int i)) := ⟨q_int⟩
theorem j_bl {b j} : JE X K (.Constant (.bool b) j pos) (mC (.bl b)) := ⟨q_bl⟩
theorem j_non {j} : JE X K (.Constant .none j pos) (mC .non) := ⟨q_non⟩
theorem j_str {x j} : JE X K (.Constant (.str x) j pos) (mC (.str x)) := ⟨q_str⟩
section
variable {ma mb mc : ME}
theorem j_add (hK : X.K = K) (ha : JE X K a ma) (hb : JE X K b mb) : JE X K (.BinOp a .Add b pos) (mOp oAdd ma mb) := ⟨q_op (op_addk K hK) (oAdd_ok K) ha.p hb.p⟩
theorem j_sub (ha : JE X K a ma) (hb : JE X K b mb) : JE X K (.BinOp a .Sub b pos) (mOp oSub ma mb) := ⟨q_op op_sub (aI_ok fun _ _ _ _ => .int _) ha.p hb.p⟩
theorem j_mul (ha : JE X K a ma) (hb : JE X K b mb) : JE X K (.BinOp a .Mult b pos) (mOp oMul ma mb) := ⟨q_op op_mulA (aIc_ok fun _ _ _ _ => .int _) ha.p hb.p⟩
theorem j_div (ha : JE X K a ma) (hb : JE X K b mb) : JE X K (.BinOp a .FloorDiv b pos) (mOp oDiv ma mb) := ⟨q_op op_fdiv (aIc_ok fun _ _ _ _ => .int _) ha.p hb.p⟩
theorem j_mod (ha : JE X K a ma) (hb : JE X K b mb) : JE X K (.BinOp a .Mod b pos) (mOp oMod ma mb) := ⟨q_op op_mod (aIc_ok fun _ _ _ _ => .int _) ha.p hb.p⟩
theorem j_pow (ha : JE X K a ma) (hb : JE X K b mb) : JE X K (.BinOp a .Pow b pos) (mOp oPow ma mb) := ⟨q_op op_pow (aIc_ok fun _ _ _ _ => .int _) ha.p hb.p⟩
structure JC (X : Cx) (K : PySem.W.Frag) (op : CmpOp) (b : Expr) (m : M2) : Prop where
  p : ∃ r, OpR X (compareOp op) r ∧ M2.Ok K r m
  k : behindInMarks op b = false
theorem jc_lt : JC X K .Lt b oLt := ⟨⟨_, op_lt, aI_ok fun _ _ _ _ => .bl _⟩, nomark _⟩
theorem jc_le : JC X K .LtE b oLe := ⟨⟨_, op_le, aI_ok fun _ _ _ _ => .bl _⟩, nomark _⟩
theorem jc_gt : JC X K .Gt b oGt := ⟨⟨_, op_gt, aI_ok fun _ _ _ _ => .bl _⟩, nomark _⟩
theorem jc_ge : JC X K .GtE b oGe := ⟨⟨_, op_ge, aI_ok fun _ _ _ _ => .bl _⟩, nomark _⟩
theorem jc_eq (hK : X.K = K) (hu : X.A.units + 200 < cLine) : JC X K .Eq b oEq := ⟨⟨_, op_eqP K hK hu, oEq_ok⟩, nomark _⟩
theorem jc_ne (hK : X.K = K) (hu : X.A.units + 200 < cLine) : JC X K .NotEq b oNe := ⟨⟨_, op_neP K hK hu, oNe_ok⟩, nomark _⟩
theorem jc_isN : JC X K .Is b oIsN := ⟨⟨_, op_isN, oIsN_ok⟩, nomark _⟩
variable {op op' : CmpOp} {m m' : M2}
theorem j_cmp (hc : JC X K op b m) (ha : JE X K a ma) (hb : JE X K b mb) : JE X K (.Compare a [op] [b] pos) (mOp m ma mb) := let ⟨_, h1, h2⟩ := hc.p; ⟨q_cmp h1 h2 ha.p hb.p hc.k⟩
theorem jt_cmp (hc : JC X K op b m) (ha : JE X K a ma) (hb : JE X K b mb) : JT X K (.Compare a [op] [b] pos) (mB (mOp m ma mb)) := let ⟨_, h1, h2⟩ := hc.p; ⟨q_tcmp h1 h2 ha.p hb.p hc.k⟩
variable {mq : MQ}
theorem jt_notIn (hK : X.K = K) (hu : X.A.units + 200 < cLine) (ha : JE X K a ma) (hb : JQ X K b mq) (hk : behindInMarks .NotIn b = false := by rfl) : JT X K (.Compare a [.NotIn] [b] pos) (mB (mOpQ oNotIn ma mq)) := ⟨q_tcmpQ (op_notInP K hK hu) (oNotIn_ok K) ha.p hb.p hk⟩
theorem j_and (ha : JE X K a ma) (hb : JE X K (.BoolOp .And (b :: rest) pos) mb) : JE X K (.BoolOp .And (a :: b :: rest) pos) (mAndV ma mb) := ⟨q_and ha.p hb.p⟩
theorem j_one {op} (h : JE X K a ma) : JE X K (.BoolOp op [a] pos) ma := ⟨q_one h.p⟩
theorem j_not (h : JE X K a ma) : JE X K (.UnaryOp .Not a pos) (mNotV ma) := ⟨q_not h.p⟩
end
section
variable {ma mb : ME} {mt mt' : MT}
theorem jw_and1 (h : JT X K a mt) : JW X K (.BoolOp .And [a] pos) mt := ⟨qw_and1 h.p⟩
theorem jw_or1 (h : JT X K a mt) : JW X K (.BoolOp .Or [a] pos) mt := ⟨qw_or1 h.p⟩
theorem jw_and (ha : JT X K a mt) (hb : JW X K (.BoolOp .And (b :: rest) pos) mt') : JW X K (.BoolOp .And (a :: b :: rest) pos) (mAndT mt mt') := ⟨qw_and ha.p hb.p⟩
theorem jw_or (ha : JT X K a mt) (hb : JW X K (.BoolOp .Or (b :: rest) pos) mt') : JW X K (.BoolOp .Or (a :: b :: rest) pos) (mOrT mt mt') := ⟨qw_or ha.p hb.p⟩
theorem JW.t (h : JW X K a mt) : JT X K a mt := ⟨PW.pt h.p⟩
theorem jt_not (h : JT X K a mt) : JT X K (.UnaryOp .Not a pos) (mNotT mt) := ⟨qt_not h.p⟩
theorem jt_tru (hK : X.K = K) (h : JE X K a ma) (he : ∀ whole, isTrue a X.env whole = (do let v ← whole; standAt a.pos; holding [v] (truthy v))) : JT X K a (mTru ma) := ⟨qt_tru K hK h.p he⟩
theorem j_if (hc : JT X K c mt) (ha : JE X K a ma) (hb : JE X K b mb) : JE X K (.IfExp c a b pos) (mIf mt ma mb) := ⟨q_if hc.p ha.p hb.p⟩
end
section
variable {m : ME} {r : MA} {l : ML} {q : MQ} {ql ql' : MQL} {mi : ME}
theorem ja_nil : JA X K [] mNil := ⟨qa_nil⟩
theorem ja_cons (ha : JE X K e m) (hr : JA X K es r) (hs : starEach (e :: es) X.env = (false, eval e X.env) :: starEach es X.env := by rfl) : JA X K (e :: es) (mCons m r) := ⟨qa_cons ha.p hr.p hs⟩
theorem j_tup {x1} (h : JA X K es r) : JE X K (.Tuple es x1 pos) (mTup r) := ⟨q_tup h.p⟩
theorem jl_lst (h : JA X K es r) : JL X K (.List es pos) (mLst r) := ⟨q_lst h.p⟩
theorem j_alloc (h : JL X K e l) : JE X K e (mAlloc l) := ⟨q_alloc h.p⟩
theorem jq_own (h : JL X K e l) : JQ X K e (mOwn l) := ⟨q_own K h.p⟩
theorem jq_sq (h : JE X K e m) : JQ X K e (mSq m) := ⟨q_sq K h.p⟩
theorem jql_own (h : JL X K e l) : JQL X K e (mOwnL l) := ⟨q_ownL K h.p⟩
theorem jql_sq (h : JE X K e m) : JQL X K e (mSqL m) := ⟨q_sqL K h.p⟩
theorem j_ix (hK : X.K = K) (ha : JQ X K a q) (hb : JE X K b mi) (hs : PlainIx b) : JE X K (.Subscript a b pos) (mIx q mi) := ⟨q_ixQ K hK ha.p hb.p hs⟩
theorem j_ixS (ha : JE X K a m) (hb : JE X K b mi) (hs : PlainIx b) : JE X K (.Subscript a b pos) (mOp oIxS m mi) := ⟨q_ixS ha.p hb.p hs⟩
theorem jl_cat (hK : X.K = K) (ha : JQL X K a ql) (hb : JQL X K b ql') : JL X K (.BinOp a .Add b pos) (mCatL ql ql') := ⟨q_cat K hK ha.p hb.p⟩
theorem jl_rev (hK : X.K = K) (hc : X.calm = true) (hg1 : Gl X "list") (hm1 : X.mg "list" = none) (hg2 : Gl X "reversed") (hm2 : X.mg "reversed" = none) (he : JQL X K e ql)
    (hs1 : starEach [.Call (.Name "reversed" p3) [e] [] p4] X.env = (false, eval (.Call (.Name "reversed" p3) [e] [] p4) X.env) :: starEach [] X.env := by rfl) (hs2 : starEach [e] X.env = (false, eval e X.env) :: starEach [] X.env := by rfl) :
    JL X K (.Call (.Name "list" p1) [.Call (.Name "reversed" p3) [e] [] p4] [] p2) (mRevL ql) := ⟨q_listrev K hK hc hg1 hm1 hg2 hm2 he.p hs1 hs2⟩
theorem jo_none : JO X K none moNone := ⟨qo_none⟩
theorem jo_some (h : JE X K e m) : JO X K (some e) (moSome m) := ⟨qo_some h.p⟩
variable {lo hi : MO} {el eh : Option Expr}
theorem jl_sl (hK : X.K = K) (he : JQL X K e ql) (hl : JO X K el lo) (hh : JO X K eh hi) : JL X K (.Subscript e (.Slice el eh none p2) pos) (mSlL ql lo hi) := ⟨q_slL K hK he.p hl.p hh.p⟩
section
variable {k k' : Nat} {ps : List Str} {x : Str}
theorem j_call {F : MF} (G : Cal X.prog X.w X.K X.mg X.base x k ps (spOf K F)) (hr : Room k' X.A) (hk : k ≤ k') (hg : Gl X x) (ha : JA X K (e :: es) r) (hdb : (x == ("__debug__" : Str)) = false := by decide)
    (he : starEach (e :: es) X.env = (false, eval e X.env) :: starEach es X.env := by rfl) (hpl : (backTo pos (starEach es X.env)).any (·.1) = false := by rfl) : JE X K (.Call (.Name x p) (e :: es) [] pos) (mCall F r) := ⟨q_call G hr hk hg ha.p hdb he hpl⟩
theorem jl_call {F : MFL} (G : Cal X.prog X.w X.K X.mg X.base x k ps (spL K F)) (hr : Room k' X.A) (hk : k ≤ k') (hg : Gl X x) (ha : JA X K (e :: es) r) (hdb : (x == ("__debug__" : Str)) = false := by decide)
    (he : starEach (e :: es) X.env = (false, eval e X.env) :: starEach es X.env := by rfl) (hpl : (backTo pos (starEach es X.env)).any (·.1) = false := by rfl) : JL X K (.Call (.Name x p) (e :: es) [] pos) (mCallL F r) := ⟨q_callL G hr hk hg ha.p hdb he hpl⟩
end
section
variable (he : starEach [e] X.env = (false, eval e X.env) :: starEach [] X.env) (hpl : (backTo pos (starEach [] X.env)).any (·.1) = false)
include he hpl
theorem j_len' (hK : X.K = K) (hg : Gl X "len") (hm : X.mg "len" = none) (ha : JE X K e m) : JE X K (.Call (.Name "len" p) [e] [] pos) (mBi bLen (mCons m mNil)) := ⟨q_callB (call_lenk K hK) (bLen_ok K) hg hm boot_len (qa_cons ha.p qa_nil he) (by decide) (by decide) he hpl⟩
theorem j_abs' (hg : Gl X "abs") (hm : X.mg "abs" = none) (ha : JE X K e m) : JE X K (.Call (.Name "abs" p) [e] [] pos) (mBi bAbs (mCons m mNil)) := ⟨q_callB call_abs bAbs_ok hg hm boot_abs (qa_cons ha.p qa_nil he) (by decide) (by decide) he hpl⟩
theorem j_toInt' (hg : Gl X "int") (hm : X.mg "int" = none) (ha : JE X K e m) : JE X K (.Call (.Name "int" p) [e] [] pos) (mBi bInt (mCons m mNil)) := ⟨q_callTy call_int1 bInt_ok hg hm boot_int (qa_cons ha.p qa_nil he) (by decide) (by decide) he hpl⟩
theorem j_tuple' (hK : X.K = K) (hg : Gl X "tuple") (hm : X.mg "tuple" = none) (ha : JQ X K e q) : JE X K (.Call (.Name "tuple" p) [e] [] pos) (mBiQ bTup q) := ⟨q_callTyQ (call_tupT K hK) (bTup_ok K) hg hm boot_tuple ha.p (by decide) (by decide) he hpl⟩
theorem j_all' (hK : X.K = K) (hc : X.calm = true) (hg : Gl X "all") (hm : X.mg "all" = none) (ha : JL X K e l) : JE X K (.Call (.Name "all" p) [e] [] pos) (mAllB l) := ⟨q_all K hK hc hg hm ha.p he hpl⟩
end
theorem j_max (hc : X.calm = true) (hg : Gl X "max") (hm : X.mg "max" = none) (ha : JA X K [a, b] r) (he : starEach [a, b] X.env = (false, eval a X.env) :: starEach [b] X.env := by rfl) (hpl : (backTo pos (starEach [b] X.env)).any (·.1) = false := by rfl) : JE X K (.Call (.Name "max" p) [a, b] [] pos) (mBi bMax r) := ⟨q_callB (call_max2 hc) bMax_ok hg hm boot_max ha.p (by decide) (by decide) he hpl⟩
theorem j_min (hc : X.calm = true) (hg : Gl X "min") (hm : X.mg "min" = none) (ha : JA X K [a, b] r) (he : starEach [a, b] X.env = (false, eval a X.env) :: starEach [b] X.env := by rfl) (hpl : (backTo pos (starEach [b] X.env)).any (·.1) = false := by rfl) : JE X K (.Call (.Name "min" p) [a, b] [] pos) (mBi bMin r) := ⟨q_callB (call_min2 hc) bMin_ok hg hm boot_min ha.p (by decide) (by decide) he hpl⟩
section
variable (he : starEach [a, .Name x p2] X.env = (false, eval a X.env) :: starEach [.Name x p2] X.env) (he2 : starEach [Expr.Name x p2] X.env = (false, eval (.Name x p2) X.env) :: starEach [] X.env) (hpl : (backTo pos (starEach [Expr.Name x p2] X.env)).any (·.1) = false)
end
theorem j_isi (hK : X.K = K) (k : Kd) {x : Str} (hg : Gl X "isinstance") (hm : X.mg "isinstance" = none) (ha : JE X K a m) (hgx : Gl X x) (hmx : X.mg x = none) (hv : bootBuiltins x = some (.type k.name)) (hn : x ≠ "__name__" := by decide) (hd : (x == ("__debug__" : Str)) = false := by decide)
    (he : starEach [a, .Name x p2] X.env = (false, eval a X.env) :: starEach [.Name x p2] X.env := by rfl) (he2 : starEach [Expr.Name x p2] X.env = (false, eval (.Name x p2) X.env) :: starEach [] X.env := by rfl)
    (hpl : (backTo pos (starEach [Expr.Name x p2] X.env)).any (·.1) = false := by rfl) : JE X K (.Call (.Name "isinstance" p) [a, .Name x p2] [] pos) (mIsi k m) := ⟨q_isi K hK k hg hm ha.p (pe_bltn hgx hmx hv rfl hn hd) he he2 hpl⟩
section
variable {apos cpos : Pos} {mo : ME}
theorem j_append (hK : X.K = K) (ho : JE X K o mo) (ha : JE X K e m) (hbase : attributeBase o "append" X.env (eval o X.env) = eval o X.env := by rfl)
    (hfew : ((backTo cpos (starEach [e] X.env)).all (fun x => !x.1) && (backToKw cpos (keywordEach [] X.env)).all (fun x => x.1.isSome)
      && decide ([e].length + ([] : List Keyword).length + (if ([] : List Keyword).isEmpty then 0 else 1) < 30)) = true := by rfl)
    (hline : (apos.endLine == cpos.line) = true := by rfl) (hs : starEach [e] X.env = (false, eval e X.env) :: starEach [] X.env := by rfl) (hplain : (backTo cpos (starEach [] X.env)).any (·.1) = false := by rfl) :
    JE X K (.Call (.Attribute o "append" apos) [e] [] cpos) (mLM mmAppend mo (mCons m mNil)) := ⟨q_lm K hK PySem.F.slot_list_append PySem.F.type_list_append mt_appendN mmAppend_ok ho.p (qa_cons ha.p qa_nil hs) hbase hfew hline hs hplain⟩
theorem j_pop (hK : X.K = K) (ho : JE X K o mo) (hbase : attributeBase o "pop" X.env (eval o X.env) = eval o X.env := by rfl) (hline : (apos.endLine == cpos.line) = true := by rfl) :
    JE X K (.Call (.Attribute o "pop" apos) [] [] cpos) (mLM mmPop mo mNil) := ⟨q_lm0 K hK PySem.F.slot_list_pop PySem.F.type_list_pop mt_popN mmPop_ok ho.p hbase hline⟩
theorem j_extend (hK : X.K = K) (ho : JE X K o mo) (ha : JQ X K e q) (hbase : attributeBase o "extend" X.env (eval o X.env) = eval o X.env := by rfl)
    (hfew : ((backTo cpos (starEach [e] X.env)).all (fun x => !x.1) && (backToKw cpos (keywordEach [] X.env)).all (fun x => x.1.isSome)
      && decide ([e].length + ([] : List Keyword).length + (if ([] : List Keyword).isEmpty then 0 else 1) < 30)) = true := by rfl)
    (hline : (apos.endLine == cpos.line) = true := by rfl) (hs : starEach [e] X.env = (false, eval e X.env) :: starEach [] X.env := by rfl) (hplain : (backTo cpos (starEach [] X.env)).any (·.1) = false := by rfl) :
    JE X K (.Call (.Attribute o "extend" apos) [e] [] cpos) (mLMQ mmExtend mo q) := ⟨q_lmQ K hK PySem.F.slot_list_extend PySem.F.type_list_extend (mt_ext K hK) mmExtend_ok ho.p ha.p hbase hfew hline hs hplain⟩
end
end
section
variable {m ma mb : ME} {r : MA} {q : MQ} {elts : List Expr} {kk : Nat} {tp : Pos}
theorem ji_seq (hK : X.K = K) (h : JQ X K e q) : JI X K tg e (mWalk q) := ⟨qi_seq K hK h.p⟩
theorem ji_range1 (hg : Gl X "range") (hm : X.mg "range" = none) (ha : JA X K [a] r) (hs : starEach [a] X.env = [(false, eval a X.env)] := by rfl) : JI X K tg (.Call (.Name "range" p) [a] [] pos) (mRange1 r) := ⟨qi_range1 hg hm ha.p hs⟩
theorem ji_enum (hK : X.K = K) (hg : Gl X "enumerate") (hm : X.mg "enumerate" = none) (h : JQ X K e q) (hs1 : starEach [e] X.env = (false, eval e X.env) :: starEach [] X.env := by rfl) : JI X K (.Tuple elts kk tp) (.Call (.Name "enumerate" p1) [e] [] p2) (mEnum q) := ⟨qi_enum K hK hg hm h.p hs1⟩
theorem ji_zip (hK : X.K = K) (hg : Gl X "zip") (hm : X.mg "zip" = none) (ha : JE X K a ma) (hb : JE X K b mb) (hs1 : starEach [a, b] X.env = (false, eval a X.env) :: starEach [b] X.env := by rfl) (hs2 : starEach [b] X.env = (false, eval b X.env) :: starEach [] X.env := by rfl) (hpl : (backTo p2 (starEach [b] X.env)).any (·.1) = false := by rfl) :
    JI X K (.Tuple elts kk tp) (.Call (.Name "zip" p1) [a, b] [] p2) (mZip ma mb) := ⟨qi_zip K hK hg hm ha.p hb.p hs1 hs2 hpl⟩
theorem jg_name {i : Nat} {x : Str} (hN : X.N.Nodup) (hi : X.N[i]? = some x) (hx : Loc X.env.scope x) (hf : X.fn x = true ∨ X.env.scope.names.lookup x = some .local := by first | exact .inl rfl | exact .inr rfl | assumption) : JG X K (.Name x pos) (gSet i) := ⟨qg_name (pg_name hN hi hx hf)⟩
variable {g : MG} {gs : MGs}
theorem jgs_nil : JGs X K [] gsNil := ⟨qgs_nil⟩
theorem jgs_cons (h1 : JG X K e g) (h2 : JGs X K es gs) (hs : (assignEach (e :: es) X.env).map (·.2) = assign e X.env :: (assignEach es X.env).map (·.2) := by rfl) : JGs X K (e :: es) (gsCons g gs) := ⟨qgs_cons h1.p h2.p hs⟩
theorem jg_tup (hK : X.K = K) {k n : Nat} (hc : X.calm = true) (h : JGs X K es gs) (hn : (assignEach es X.env).length = n := by rfl) (hst : (assignEach es X.env).findIdx? (·.1) = none := by rfl) : JG X K (.Tuple es k pos) (gTupM n gs) := ⟨qg_tup K hK hc h.p hn hst⟩
theorem jg_sub {mo mi : ME} {i : Expr} (ho : JE X K o mo) (hi : JE X K i mi) (ha : ∀ v, assign (.Subscript o i pos) X.env v = (do
      let ov ← holding [v] (eval o X.env)
      let iv ← holding [v, ov] (eval i X.env)
      standAt pos
      holding [v, ov, iv] (setItem ov iv v)
      release [v, ov, iv] []) := by intro _; rfl) : JG X K (.Subscript o i pos) (gSubM mo mi sList) := ⟨qg_sub ho.p hi.p set_listN sList_ok ha⟩
end
section
variable {elt : Expr} {ifs : List Expr} {sc : Scope} {N' : List Str} {ix : List (Option Nat)} {mi : MI} {g : MG} {tf : MT} {te : ME} {mt : MT}
theorem jf_nil : JF X K [] mAll := ⟨qfs_nil⟩
theorem jf_one (h : JT X K c mt) : JF X K [c] mt := ⟨qfs_one h.p⟩
theorem jl_lc (hc : X.calm = true) (S : LcScope X.env.scope X.N sc N' ix) (hi : JI X K tg iter mi)
    (hg : ∀ cl C s2 H2 fp, JG (blk X sc N' cl C s2 H2 fp) K tg g) (hf : ∀ cl C s2 H2 fp, JF (blk X sc N' cl C s2 H2 fp) K ifs tf) (he : ∀ cl C s2 H2 fp, JE (blk X sc N' cl C s2 H2 fp) K elt te)
    (hs : ∀ x, foldedSetIterable iter X.env x = pure x := by intro _; rfl) : JL X K (.ListComp elt [⟨tg, iter, ifs, 0⟩] sc pos) (mLc ix mi g tf te) := ⟨q_lc hc S hi.p (fun _ _ _ _ _ => (hg _ _ _ _ _).p) (fun _ _ _ _ _ => (hf _ _ _ _ _).p) (fun _ _ _ _ _ => (he _ _ _ _ _).p) hs⟩
theorem js_setlc {i : Nat} {x : Str} {px spos : Pos} (hc : X.calm = true) (hN : X.N.Nodup) (hi' : X.N[i]? = some x) (hx : X.env.scope.names.lookup x = some .local) (S : LcScope X.env.scope X.N sc N' ix) (hi : JI X K tg iter mi)
    (hg : ∀ cl C s2 H2 fp, JG (blk X sc N' cl C s2 H2 fp) K tg g) (hf : ∀ cl C s2 H2 fp, JF (blk X sc N' cl C s2 H2 fp) K ifs tf) (he : ∀ cl C s2 H2 fp, JE (blk X sc N' cl C s2 H2 fp) K elt te)
    (hsw : swapsWith (.ListComp elt [⟨tg, iter, ifs, 0⟩] sc pos) (some (.Name x px)) spos.line X.env = pure true := by rfl)
    (hs : ∀ x, foldedSetIterable iter X.env x = pure x := by intro _; rfl) : JS' X K (.Assign [.Name x px] (.ListComp elt [⟨tg, iter, ifs, 0⟩] sc pos) spos) (mAsg (mAlloc (mLc ix mi g tf te)) (gSet i)) :=
  ⟨q_setlc hc hN hi' hx S hi.p (fun _ _ _ _ _ => (hg _ _ _ _ _).p) (fun _ _ _ _ _ => (hf _ _ _ _ _).p) (fun _ _ _ _ _ => (he _ _ _ _ _).p) hsw hs⟩
end
section
variable {st : Stmt} {sts sa sb body : List Stmt} {m n : MS} {me : ME} {mt : MT} {mi : MI} {g : MG} {ra : MA} {l : ML}
theorem jss_nil : JSs X K [] mNext := ⟨qss_nil⟩
theorem jss_one (h : JS' X K st m) : JSs X K [st] m := ⟨qss_one h.p⟩
theorem jss_cons (h1 : JS' X K st m) (h2 : JSs X K sts n) : JSs X K (st :: sts) (mSeq m n) := ⟨qss_cons h1.p h2.p⟩
theorem js_expr (he : JE X K e me) (hs : swapsWith e none pos.line X.env = pure false := by rfl) : JS' X K (.Expr e pos) (mDrop me) := ⟨q_expr he.p hs⟩
theorem js_ret (he : JE X K e me) : JS' X K (.Return (some e) pos) (mRet me) := ⟨q_ret he.p⟩
theorem js_if (hc : JT X K c mt) (ha : JSs X K sa m) (hb : JSs X K sb n) : JS' X K (.If c sa sb pos) (mIfS mt m n) := ⟨qs_if hc.p ha.p hb.p⟩
theorem js_while (hp : PassesOwn (model X.prog X.w) X.A X.env X.xe) (hc : JT X K c mt) (hb : JSs X K body m) : JS' X K (.While c body [] pos) (mWhile mt m) := ⟨qs_while hp hc.p hb.p⟩
theorem js_for (hp : PassesOwn (model X.prog X.w) X.A X.env X.xe) (hc : X.calm = true) (hi : JI X K tg iter mi) (hg : JG X K tg g) (hb : JSs X K body m) (hs : ∀ x, foldedSetIterable iter X.env x = pure x := by intro _; rfl) : JS' X K (.For tg iter body [] pos) (mFor mi g m) := ⟨qs_for hp hc hi.p hg.p hb.p hs⟩
theorem js_set {i : Nat} {x : Str} {pos' : Pos} (hN : X.N.Nodup) (hi : X.N[i]? = some x) (hx : Loc X.env.scope x) (he : JE X K e me) (hs : swapsWith e (some (.Name x pos')) pos.line X.env = pure false := by rfl)
    (hf : X.fn x = true ∨ X.env.scope.names.lookup x = some .local := by first | exact .inl rfl | exact .inr rfl | assumption) : JS' X K (.Assign [.Name x pos'] e pos) (mAsg me (gSet i)) := ⟨q_set hN hi hx he.p hs hf⟩
theorem js_asg (he : JE X K e me) (hg : JG X K tg g) (hs : swapsWithSole [tg] e pos.line X.env = pure false := by rfl) (hw : swappedStores [tg] e X.env = pure none := by rfl)
    (h1 : (assignEach [tg] X.env).map (·.2) = [assign tg X.env] := by rfl) : JS' X K (.Assign [tg] e pos) (mAsg me g) := ⟨q_asg he.p hg.p hs hw h1⟩
theorem js_augS_add (hK : X.K = K) {i : Expr} {tpos : Pos} {mo mi : ME} (ho : JE X K o mo) (hi : JE X K i mi) (he : JE X K e me) (ha : ∀ ov iv new, augStore i ov iv new = (do holding [new, ov, iv] (setItem ov iv new); release [new, ov, iv] []; pure .next) := by intros; rfl) : JS' X K (.AugAssign (.Subscript o i tpos) .Add e pos) (mAugS mo mi me ipAdd) := ⟨q_augS K hK ho.p hi.p (get_seqk K hK) he.p ip_add ip_ok ha⟩
end
end
end PL
set_option Elab.async false
set_option linter.all false
set_option maxRecDepth 100000
namespace PL
open PySem PySem.Spec PyProof.Rows L2
section
variable {a b s t : MS} {D : PD} {ps : PSt} {h : PH} {m m1 m2 m3 : ME} {g : MG} {gs : MGs} {Q : QV} {QS : PSt → PH → Prop} {QT : Bool → PH → Prop} {QL : List PV → PH → Prop} {QR : Src → PH → Prop} {QO : Option Int → PH → Prop} {i j n : Nat} {v x y : PV} {tc td : MT} {ra : MA} {ml : ML} {mq : MQ} {ql ql' : MQL} {mi : MI} {M : M2} {xs l : List PV} {ix : List (Option Nat)} {lo hi : MO}
theorem r_seq (q : a.run ⟨b.run D, D.rt, D.bk, D.ct⟩ ps h) : (mSeq a b).run D ps h := q
theorem r_next (q : D.nx ps h) : mNext.run D ps h := q
theorem r_asg (q : m.run ps h fun v h1 => g.run v ps h1 D.nx) : (mAsg m g).run D ps h := q
theorem r_gset (q : QS (ps.set i (some v)) h) : (gSet i).run v ps h QS := q
theorem r_var (e : ps[i]? = some (some v)) (q : Q v h) : (mVar i).run ps h Q := by unfold mVar; dsimp only; rw [e]; exact q
theorem r_c (q : Q v h) : (mC v).run ps h Q := q
theorem r_op (q : m1.run ps h fun x h1 => m2.run ps h1 fun y h2 => M.f x y h2 Q) : (mOp M m1 m2).run ps h Q := q
section
variable {i j : Int} {p q' : Str}
theorem r_addI (q : Q (.int (i + j)) h) : oAdd.f (.int i) (.int j) h Q := q
theorem r_addS (z : p.length + q'.length ≤ sizeLine) (q : Q (.str (p ++ q')) h) : oAdd.f (.str p) (.str q') h Q := ⟨z, q⟩
theorem r_sub (q : Q (.int (i - j)) h) : oSub.f (.int i) (.int j) h Q := q
theorem r_mul (c : IntMulOk i j) (q : Q (.int (i * j)) h) : oMul.f (.int i) (.int j) h Q := ⟨c, q⟩
theorem r_div (c : CDiv i j) (q : Q (.int (i / j)) h) : oDiv.f (.int i) (.int j) h Q := ⟨c, q⟩
theorem r_mod (c : 0 < j) (q : Q (.int (i % j)) h) : oMod.f (.int i) (.int j) h Q := ⟨c, q⟩
theorem r_pow (c : CPow i j) (q : Q (.int (i ^ j.toNat)) h) : oPow.f (.int i) (.int j) h Q := ⟨c, q⟩
theorem r_lt (q : Q (.bl (decide (i < j))) h) : oLt.f (.int i) (.int j) h Q := q
theorem r_le (q : Q (.bl (decide (i ≤ j))) h) : oLe.f (.int i) (.int j) h Q := q
theorem r_gt (q : Q (.bl (decide (j < i))) h) : oGt.f (.int i) (.int j) h Q := q
theorem r_ge (q : Q (.bl (decide (j ≤ i))) h) : oGe.f (.int i) (.int j) h Q := q
theorem r_eqI (q : Q (.bl (decide (i = j))) h) : oEq.f (.int i) (.int j) h Q := q
theorem r_neI (q : Q (.bl (!decide (i = j))) h) : oNe.f (.int i) (.int j) h Q := q
theorem r_eqS (q : Q (.bl (decide (p = q'))) h) : oEq.f (.str p) (.str q') h Q := q
theorem r_eqB {b c : Bool} (q : Q (.bl (decide (b = c))) h) : oEq.f (.bl b) (.bl c) h Q := q
theorem r_eqN (q : Q (.bl true) h) : oEq.f .non .non h Q := q
theorem r_ixS {c : Nat} (z : p.length ≤ sizeLine) (e : L2.atI p.cps.toList i = some c) (q : Q (.str ⟨#[c]⟩) h) : oIxS.f (.str p) (.int i) h Q := ⟨z, by rw [e]; exact q⟩
end
def kB (Q : Bool → PH → Prop) : QV := fun x h1 => match x with | .bl b => Q b h1 | _ => False
theorem r_B (q : m.run ps h (kB QT)) : (mB m).run ps h QT := q
theorem r_kB {c : Bool} (q : QT c h) : kB QT (.bl c) h := q
def kAnd (b : ME) (ps : PSt) (Q : QV) : QV := fun x h1 => match x with | .bl true => b.run ps h1 Q | .bl false => Q (.bl false) h1 | _ => False
def kNot (Q : QV) : QV := fun x h1 => match x with | .bl b => Q (.bl (!b)) h1 | _ => False
theorem r_andV (q : m1.run ps h (kAnd m2 ps Q)) : (mAndV m1 m2).run ps h Q := q
theorem r_notV (q : m.run ps h (kNot Q)) : (mNotV m).run ps h Q := q
theorem r_kAndT (q : m.run ps h Q) : kAnd m ps Q (.bl true) h := q
theorem r_andT (q : tc.run ps h fun c h1 => if c = true then td.run ps h1 QT else QT false h1) : (mAndT tc td).run ps h QT := q
theorem r_orT (q : tc.run ps h fun c h1 => if c = true then QT true h1 else td.run ps h1 QT) : (mOrT tc td).run ps h QT := q
theorem r_if (q : tc.run ps h fun k h1 => if k = true then m1.run ps h1 Q else m2.run ps h1 Q) : (mIf tc m1 m2).run ps h Q := q
theorem r_ifS (q : tc.run ps h fun k h1 => if k = true then a.run D ps h1 else b.run D ps h1) : (mIfS tc a b).run D ps h := q
theorem r_tru (q : m.run ps h fun x h1 => pTru x h1 fun b => QT b h1) : (mTru m).run ps h QT := q
section
variable {R : Bool → Prop}
theorem r_pTruB {c : Bool} (q : R c) : pTru (.bl c) h R := q
theorem r_pTruL (e : h[n]? = some (.lst l)) (q : R (!l.isEmpty)) : pTru (.ref n) h R := by unfold pTru; dsimp only; rw [e]; exact q
end
theorem r_nil (q : QL [] h) : mNil.run ps h QL := q
theorem r_cons (q : m.run ps h fun x h1 => ra.run ps h1 fun l h2 => QL (x :: l) h2) : (mCons m ra).run ps h QL := q
theorem r_tup (q : ra.run ps h fun l h1 => l.length ≤ sizeLine ∧ Q (.tup l) h1) : (mTup ra).run ps h Q := q
theorem r_lst (q : ra.run ps h fun l h1 => l.length ≤ sizeLine ∧ QL l h1) : (mLst ra).run ps h QL := q
theorem r_own (q : ml.run ps h fun l h1 => QR ⟨l, fun _ => True, false⟩ h1) : (mOwn ml).run ps h QR := q
theorem r_ownL (q : ml.run ps h fun l h1 => QR ⟨l, fun _ => True, false⟩ h1) : (mOwnL ml).run ps h QR := q
def kSq (Q : Src → PH → Prop) : QV := fun x h1 => match x with
    | .tup l => Q ⟨l, fun _ => True, false⟩ h1
    | .cl l => Q ⟨l, fun _ => True, true⟩ h1
    | .ref n => match h1[n]? with
      | some (.lst xs) => Q ⟨xs, fun h2 => h2[n]? = some (.lst xs), false⟩ h1
      | _ => False
    | _ => False
def kSqL (Q : Src → PH → Prop) : QV := fun x h1 => match x with
    | .cl l => Q ⟨l, fun _ => True, true⟩ h1
    | .ref n => match h1[n]? with
      | some (.lst xs) => Q ⟨xs, fun h2 => h2[n]? = some (.lst xs), false⟩ h1
      | _ => False
    | _ => False
theorem r_sq (q : m.run ps h (kSq QR)) : (mSq m).run ps h QR := q
theorem r_sqL (q : m.run ps h (kSqL QR)) : (mSqL m).run ps h QR := q
theorem r_kSqT (q : QR ⟨l, fun _ => True, false⟩ h) : kSq QR (.tup l) h := q
theorem r_kSqC (q : QR ⟨l, fun _ => True, true⟩ h) : kSq QR (.cl l) h := q
theorem r_kSqR (e : h[n]? = some (.lst l)) (q : QR ⟨l, fun h2 => h2[n]? = some (.lst l), false⟩ h) : kSq QR (.ref n) h := by unfold kSq; dsimp only; rw [e]; exact q
theorem r_kSqLR (e : h[n]? = some (.lst l)) (q : QR ⟨l, fun h2 => h2[n]? = some (.lst l), false⟩ h) : kSqL QR (.ref n) h := by unfold kSqL; dsimp only; rw [e]; exact q
def kIx (S : Src) (Q : QV) : QV := fun y h2 => match y with
  | .int k => S.ok h2 ∧ match L2.atI S.items k with | some v => Q v h2 | none => False
  | _ => False
theorem r_ix (q : mq.run ps h fun S h1 => m.run ps h1 (kIx S Q)) : (mIx mq m).run ps h Q := q
theorem r_kIx {S : Src} {k : Int} (ok : S.ok h) (e : L2.atI S.items k = some v) (q : Q v h) : kIx S Q (.int k) h := ⟨ok, by rw [e]; exact q⟩
theorem r_catL (q : ql.run ps h fun S h1 => ql'.run ps h1 fun T h2 => S.ok h2 ∧ S.fz = false ∧ T.fz = false ∧ S.items.length + T.items.length ≤ sizeLine ∧ QL (S.items ++ T.items) h2) : (mCatL ql ql').run ps h QL := q
theorem r_revL (q : ql.run ps h fun S h1 => QL S.items.reverse h1) : (mRevL ql).run ps h QL := q
theorem r_slL (q : ql.run ps h fun S h1 => lo.run ps h1 fun i h2 => hi.run ps h2 fun j h3 => S.ok h3 ∧ QL (cutP S.items i j) h3) : (mSlL ql lo hi).run ps h QL := q
theorem r_moN (q : QO none h) : moNone.run ps h QO := q
def kO (Q : Option Int → PH → Prop) : QV := fun x h1 => match x with | .int i => Q (some i) h1 | _ => False
theorem r_moS (q : m.run ps h (kO QO)) : (moSome m).run ps h QO := q
theorem r_kO {k : Int} (q : QO (some k) h) : kO QO (.int k) h := q
theorem r_call {F : MF} (q : ra.run ps h fun l h1 => F.run l h1 Q) : (mCall F ra).run ps h Q := q
theorem r_callL {F : MFL} (q : ra.run ps h fun l h1 => F.run l h1 QL) : (mCallL F ra).run ps h QL := q
theorem r_bi {B : MB1} (q : ra.run ps h fun l h1 => B.f l h1 Q) : (mBi B ra).run ps h Q := q
theorem r_biQ {B : MB2} (q : mq.run ps h fun l h1 => B.f l h1 Q) : (mBiQ B mq).run ps h Q := q
theorem r_lenT (q : Q (.int l.length) h) : bLen.f [.tup l] h Q := q
theorem r_lenC (q : Q (.int l.length) h) : bLen.f [.cl l] h Q := q
theorem r_lenR (e : h[n]? = some (.lst l)) (q : Q (.int l.length) h) : bLen.f [.ref n] h Q := by unfold bLen; dsimp only; rw [e]; exact q
theorem r_abs {i : Int} (q : Q (.int (if i < 0 then -i else i)) h) : bAbs.f [.int i] h Q := q
theorem r_toIntB {c : Bool} (q : Q (.int (if c then 1 else 0)) h) : bInt.f [.bl c] h Q := q
theorem r_max {i j : Int} (q : Q (.int (if j > i then j else i)) h) : bMax.f [.int i, .int j] h Q := q
theorem r_min {i j : Int} (q : Q (.int (if j < i then j else i)) h) : bMin.f [.int i, .int j] h Q := q
theorem r_toTup {S : Src} (q : Q (.tup S.items) h) : bTup.f S h Q := q
theorem r_all (q : ml.run ps h fun l h1 => ∃ bs : List Bool, l = bs.map PV.bl ∧ Q (.bl (bs.all id)) h1) : (mAllB ml).run ps h Q := q
def kIsi (k : Kd) (Q : QV) : QV := fun x h1 => (match x with | .ref n => okI (h1[n]?) = true | .ty _ => False | .cl _ => False | _ => True) ∧ Q (.bl (k.is x)) h1
theorem r_isi {k : Kd} (q : m.run ps h (kIsi k Q)) : (mIsi k m).run ps h Q := q
theorem r_opQ {O : M2Q} (q : m.run ps h fun x h1 => mq.run ps h1 fun S h2 => O.f x S h2 Q) : (mOpQ O m mq).run ps h Q := q
theorem r_notIn {S : Src} (d1 : x.dat = true) (d2 : datL S.items = true) (d3 : depL S.items ≤ 101) (q : Q (.bl (!inB x S.items)) h) : oNotIn.f x S h Q := ⟨d1, d2, d3, q⟩
theorem r_lm {W : MM} (q : m.run ps h fun x h1 => listAt x h1 ∧ ra.run ps h1 fun l h2 => W.f x l h2 Q) : (mLM W m ra).run ps h Q := q
theorem r_lmQ {W : MMQ} (q : m.run ps h fun x h1 => listAt x h1 ∧ mq.run ps h1 fun l h2 => W.f x l h2 Q) : (mLMQ W m mq).run ps h Q := q
theorem r_listAt (e : h[n]? = some (.lst l)) : listAt (.ref n) h := by unfold listAt; dsimp only; rw [e]; trivial
theorem r_append (e : h[n]? = some (.lst l)) (z : l.length < sizeLine) (q : Q .non (h.set n (.lst (l ++ [y])))) : mmAppend.f (.ref n) [y] h Q := by unfold mmAppend; dsimp only; rw [e]; exact ⟨z, q⟩
theorem r_pop (e : h[n]? = some (.lst (l ++ [y]))) (q : Q y (h.set n (.lst l))) : mmPop.f (.ref n) [] h Q := by
  unfold mmPop; dsimp only; rw [e]; dsimp only
  rw [List.getLast?_concat, List.dropLast_concat]; exact q
theorem r_extend {S : Src} (e : h[n]? = some (.lst l)) (f : S.fz = false) (z : l.length + S.items.length ≤ sizeLine) (q : Q .non (h.set n (.lst (l ++ S.items)))) : mmExtend.f (.ref n) S h Q := by unfold mmExtend; dsimp only; rw [e]; exact ⟨f, z, q⟩
theorem r_gsub {mo mk : ME} {W : MSet} (q : mo.run ps h fun x h1 => mk.run ps h1 fun y h2 => W.f x y v h2 fun h3 => QS ps h3) : (gSubM mo mk W).run v ps h QS := q
theorem r_sList {k : Int} {QH : PH → Prop} (e : h[n]? = some (.lst l)) (ej : ixN l.length k = some j) (q : QH (h.set n (.lst (l.set j v)))) : sList.f (.ref n) (.int k) v h QH := by unfold sList; dsimp only; rw [e]; dsimp only; rw [ej]; exact q
theorem r_gtup (z : l.length = n) (q : gs.run l ps h QS) : (gTupM n gs).run (.tup l) ps h QS := ⟨z, q⟩
theorem r_gscons (q : g.run x ps h fun ps1 h1 => gs.run l ps1 h1 QS) : (gsCons g gs).run (x :: l) ps h QS := q
theorem r_gsnil (q : QS ps h) : gsNil.run [] ps h QS := q
theorem r_drop (q : m.run ps h fun _ h1 => D.nx ps h1) : (mDrop m).run D ps h := q
theorem r_ret (q : m.run ps h D.rt) : (mRet m).run D ps h := q
theorem r_par (q : ra.run ps h fun l h1 => match l with | [v, w] => D.nx ((ps.set i (some v)).set j (some w)) h1 | _ => False) : (mPar i j ra).run D ps h := q
theorem r_ipAdd {i j : Int} (q : Q (.int (i + j)) h) : ipAdd.f (.int i) (.int j) h Q := q
theorem r_for {g : MG} (q : mi.run ps h fun S h1 => forV S g b D S.items ps h1) : (mFor mi g b).run D ps h := q
theorem r_lc {te : ME} (q : mi.run ps h fun S h1 => lcV S g tc te QL S.items [] (pblk ix ps) h1) : (mLc ix mi g tc te).run ps h QL := q
theorem r_walk (q : mq.run ps h QR) : (mWalk mq).run ps h QR := q
theorem r_mAll (q : QT true h) : mAll.run ps h QT := q
def kR1 (Q : Src → PH → Prop) : List PV → PH → Prop := fun l h1 => match l with | [.int j] => small62 j ∧ Q ⟨intsV 0 j.toNat, fun _ => True, false⟩ h1 | _ => False
theorem r_range1 (q : ra.run ps h (kR1 QR)) : (mRange1 ra).run ps h QR := q
theorem r_kR1 {j : Int} (c : small62 j) (q : QR ⟨intsV 0 j.toNat, fun _ => True, false⟩ h) : kR1 QR [.int j] h := ⟨c, q⟩
theorem r_enum (q : mq.run ps h fun S h1 => QR ⟨enumV 0 S.items, S.ok, S.fz⟩ h1) : (mEnum mq).run ps h QR := q
def kZ (x : PV) (Q : Src → PH → Prop) : QV := fun y h2 => match x, y with | .tup l, .tup m => l.length = m.length ∧ Q ⟨zipV l m, fun _ => True, false⟩ h2 | _, _ => False
theorem r_zip (q : m1.run ps h fun x h1 => m2.run ps h1 (kZ x QR)) : (mZip m1 m2).run ps h QR := q
theorem r_kZ (e : xs.length = l.length) (q : QR ⟨zipV xs l, fun _ => True, false⟩ h) : kZ (.tup xs) QR (.tup l) h := ⟨e, q⟩
end
theorem for_inv {S : Src} {g : MG} {b : MS} {D : PD} (I : Nat → PSt → PH → Prop) (hok : ∀ i ps h, I i ps h → S.ok h)
    (hs : ∀ i x ps h, S.items[i]? = some x → I i ps h → g.run x ps h fun ps1 h1 => b.run ⟨I (i + 1), D.rt, D.nx, I (i + 1)⟩ ps1 h1) (hd : ∀ ps h, I S.items.length ps h → D.nx ps h) {ps : PSt} {h : PH} (h0 : I 0 ps h) : forV S g b D S.items ps h := by
  have go : ∀ (k : Nat) (i : Nat) (ps : PSt) (h : PH), i + k = S.items.length → I i ps h → forV S g b D (S.items.drop i) ps h := by
    intro k
    induction k with
    | zero =>
      intro i ps h e q
      have : i = S.items.length := by omega
      subst this
      rw [List.drop_length]
      exact ⟨hok _ _ _ q, hd ps h q⟩
    | succ k ih =>
      intro i ps h e q
      have hi : i < S.items.length := by omega
      rw [List.drop_eq_getElem_cons hi]
      refine ⟨hok _ _ _ q, g.le (hs i _ ps h (List.getElem?_eq_getElem hi) q) fun ps1 h1 q1 => b.le q1 ⟨fun _ _ z => ih (i + 1) _ _ (by omega) z, fun _ _ z => z, fun _ _ z => z, fun _ _ z => ih (i + 1) _ _ (by omega) z⟩⟩
  exact go S.items.length 0 ps h (by omega) h0
theorem while_inv {t : MT} {b : MS} {D : PD} (I : Nat → PSt → PH → Prop)
    (hs : ∀ n ps h, I n ps h → t.run ps h fun c h1 => if c = true then b.run ⟨fun ps h => ∃ m, m < n ∧ I m ps h, D.rt, D.nx, fun ps h => ∃ m, m < n ∧ I m ps h⟩ ps h1 else D.nx ps h1) {n : Nat} {ps : PSt} {h : PH} (h0 : I n ps h) : (mWhile t b).run D ps h := by
  have go : ∀ (n m : Nat) (ps : PSt) (h : PH), m < n → I m ps h → whileN t b D n ps h := by
    intro n
    induction n with
    | zero => intro m ps h hm _; omega
    | succ n ih =>
      intro m ps h hm q
      refine t.mono (fun c h1 q1 => ?_) (hs m ps h q)
      cases c with
      | true =>
        rw [if_pos rfl] at q1 ⊢
        exact b.le q1 ⟨fun _ _ ⟨k, hk, z⟩ => ih k _ _ (by omega) z, fun _ _ z => z, fun _ _ z => z, fun _ _ ⟨k, hk, z⟩ => ih k _ _ (by omega) z⟩
      | false => rw [if_neg Bool.false_ne_true] at q1 ⊢; exact q1
  exact ⟨n + 1, go (n + 1) n ps h (by omega) h0⟩
theorem lc_inv {S : Src} {g : MG} {tf : MT} {te : ME} {Q : List PV → PH → Prop} (I : Nat → List PV → PSt → PH → Prop) (hok : ∀ i acc ps h, I i acc ps h → S.ok h)
    (hs : ∀ i x acc ps h, S.items[i]? = some x → I i acc ps h → g.run x ps h fun ps1 h1 => tf.run ps1 h1 fun k h2 => if k = true then te.run ps1 h2 fun y h3 => acc.length + 1 ≤ sizeLine ∧ I (i + 1) (acc ++ [y]) ps1 h3 else I (i + 1) acc ps1 h2)
    (hd : ∀ acc ps h, I S.items.length acc ps h → Q acc h) {ps : PSt} {h : PH} (h0 : I 0 [] ps h) : lcV S g tf te Q S.items [] ps h := by
  have go : ∀ (k : Nat) (i : Nat) (acc : List PV) (ps : PSt) (h : PH), i + k = S.items.length → I i acc ps h → lcV S g tf te Q (S.items.drop i) acc ps h := by
    intro k
    induction k with
    | zero =>
      intro i acc ps h e q
      have : i = S.items.length := by omega
      subst this
      rw [List.drop_length]
      exact ⟨hok _ _ _ _ q, hd acc ps h q⟩
    | succ k ih =>
      intro i acc ps h e q
      have hi : i < S.items.length := by omega
      rw [List.drop_eq_getElem_cons hi]
      refine ⟨hok _ _ _ _ q, g.le (hs i _ acc ps h (List.getElem?_eq_getElem hi) q) fun ps1 h1 q1 => tf.mono (fun c h2 q2 => ?_) q1⟩
      cases c with
      | true => rw [if_pos rfl] at q2 ⊢; exact te.mono (fun y h3 q3 => ⟨q3.1, ih (i + 1) _ _ _ (by omega) q3.2⟩) q2
      | false => rw [if_neg Bool.false_ne_true] at q2 ⊢; exact ih (i + 1) _ _ _ (by omega) q2
  exact go S.items.length 0 [] ps h (by omega) h0
theorem lc_map {S : Src} {g : MG} {tf : MT} {te : ME} {Q : List PV → PH → Prop} {h : PH} (P : PSt → Prop) (f : PV → Option PV) (ok : S.ok h) (z : S.items.length ≤ sizeLine)
    (hs : ∀ x, x ∈ S.items → ∀ ps, P ps → ∀ R : PH → Prop, R h → g.run x ps h fun ps1 h1 => tf.run ps1 h1 fun k h2 => if k = true then te.run ps1 h2 fun y h3 => f x = some y ∧ P ps1 ∧ R h3 else f x = none ∧ P ps1 ∧ R h2)
    (q : Q (S.items.filterMap f) h) {ps : PSt} (h0 : P ps) : lcV S g tf te Q S.items [] ps h := by
  refine lc_inv (fun i acc ps h' => h' = h ∧ P ps ∧ acc = (S.items.take i).filterMap f ∧ i ≤ S.items.length) (fun _ _ _ _ q => by rw [q.1]; exact ok) (fun i x acc ps h' hx q => ?_) (fun acc ps h' q => ?_) ⟨rfl, h0, by simp, Nat.zero_le _⟩
  · obtain ⟨rfl, p, rfl, hi⟩ := q
    have hi' := (List.getElem?_eq_some_iff.mp hx).1
    have hx' := (List.getElem?_eq_some_iff.mp hx).2
    have et : S.items.take (i + 1) = S.items.take i ++ [x] := by rw [List.take_succ, hx]; rfl
    have hl : ((S.items.take i).filterMap f).length ≤ i := Nat.le_trans (List.length_filterMap_le _ _) (by simp; omega)
    refine g.le (hs x (List.mem_of_getElem? hx) ps p (fun h'' => h'' = h') rfl) fun ps1 h1 q1 => tf.mono (fun c h2 q2 => ?_) q1
    cases c with
    | true =>
      rw [if_pos rfl] at q2 ⊢
      refine te.mono (fun y h3 q3 => ⟨by omega, q3.2.2, q3.2.1, ?_, hi'⟩) q2
      rw [et, List.filterMap_append]
      simp [q3.1]
    | false =>
      rw [if_neg Bool.false_ne_true] at q2 ⊢
      refine ⟨q2.2.2, q2.2.1, ?_, hi'⟩
      rw [et, List.filterMap_append]
      simp [q2.1]
  · obtain ⟨rfl, p, rfl, hi⟩ := q
    rw [List.take_length]
    exact q
section
variable {n : Nat} {Q : QV} {v : PV} {h g : PH} {QL : List PV → PH → Prop}
theorem exit_same (hl : v.lim n = true) (hh : limH n h) (hn : h.length = n) (q : Q v h) : exitV n Q v h := ⟨h, [], by simp, hn, hl, hh, q⟩
theorem exit_drop (hl : v.lim n = true) (hh : limH n h) (hn : h.length = n) (q : Q v h) : exitV n Q v (h ++ g) := ⟨h, g, rfl, hn, hl, hh, q⟩
theorem exit_list {xs : List PV} {k : Nat} (e : g[k]? = some (.lst xs)) (hl : limL n xs = true) (hh : limH n h) (hn : h.length = n) (q : QL xs h) : exitL n QL (.ref (n + k)) (h ++ g) :=
  ⟨n + k, h, g, xs, rfl, Nat.le_add_right _ _, rfl, hn, by rw [List.getElem?_append_right (by omega), show n + k - h.length = k by omega]; exact e, hl, hh, q⟩
end
section
variable {h t : PH} {n : Nat} {o : PO}
theorem get_app (n : Nat) : (h ++ t)[h.length + n]? = t[n]? := by rw [List.getElem?_append_right (by omega)]; congr 1; omega
theorem get_app0 : (h ++ t)[h.length]? = t[0]? := get_app 0
theorem set_app (n : Nat) : (h ++ t).set (h.length + n) o = h ++ t.set n o := by rw [List.set_append_right _ _ (by omega)]; congr 2; omega
theorem set_app0 : (h ++ t).set h.length o = h ++ t.set 0 o := set_app 0
theorem get_old (hn : n < h.length) : (h ++ t)[n]? = h[n]? := List.getElem?_append_left hn
theorem lt_get {o : PO} (e : h[n]? = some o) : n < h.length := (List.getElem?_eq_some_iff.mp e).1
theorem get_old' {o : PO} (e : h[n]? = some o) : (h ++ t)[n]? = some o := by rw [get_old (lt_get e)]; exact e
end
section
variable {P : Program} {w : World} {K : PySem.W.Frag} {mg : Str → Option Value} {base : Heap} {k : Nat} {f : Addr} {fd : FuncData} {ps : List Str}
end
end PL
set_option Elab.async false
set_option linter.all false
set_option maxRecDepth 100000
namespace L2
open PySem PySem.Spec PyProof.Rows
def intsL (lo : Int) (n : Nat) : List V := (List.range n).map fun (i : Nat) => .int (lo + (i : Int))
theorem vals_items {lo : Int} {n : Nat} {acc : Array Value} (h : ItemsOf (fun (i : Nat) v => ∃ t, v = .int (lo + (i : Int) * 1) t) acc n) : Vals (intsL lo n) acc.toList := by
  obtain ⟨hs, hi⟩ := h
  have go : ∀ (k : Nat), k ≤ n → Vals ((List.range k).map fun (i : Nat) => V.int (lo + (i : Int))) (acc.toList.take k) := by
    intro k
    induction k with
    | zero => intro _; simp; exact .nil
    | succ k ih =>
      intro hk
      have hk' : k < acc.size := by omega
      rw [List.range_succ, List.map_append, List.take_succ]
      have e : acc.toList[k]? = some acc[k] := by simp [hk']
      rw [e]
      refine Vals.append (ih (by omega)) ?_
      obtain ⟨t, ht⟩ := hi k acc[k] (by simp [hk'])
      refine .cons ⟨t, ?_⟩ .nil
      rw [ht]
      simp
  have := go n (Nat.le_refl _)
  rw [List.take_of_length_le (by simp [hs])] at this
  exact this
theorem collect_range {prog : Program} {w : World} {A : Around} {E : Value → Shared → Prop} {s : Shared} {Q : List Value → Shared → Prop} {r : Addr} {a b c : Int} {t u v : Tok} {n : Nat} (hh : A.handled = none) (hr : IsRange s.heap r a b c t u v) (hsmall : Builtin.Range.small a b c = true)
    (hn : Builtin.Range.rangeSize a b c = n) (hlen : n ≤ 2 ^ 24)
    (hQ : ∀ h' tk acc', (∀ b o', s.heap.get? b = some o' → h'.get? b = some o') → ItemsOf (fun i v => ∃ t, v = .int (a + i * c) t) acc' n → Q acc'.toList { s with heap := h', toks := tk }) : wpAny (model prog w) A (collect (.ref r)) Q E s := by
  unfold collect
  refine wpAny_bind (wpAny_runValue (codeAny_builtin F.entry_proto_collect ?_))
  rw [Around.under_plainId F.plain_proto_collect _]
  show wpAny _ A.in1 (newList [] >>= fun l => again (.builtin "list.__iadd__" ⟨[l, .ref r], []⟩)) _ _ s
  refine wpAny_bind (wpAny_newObj_type ?_)
  refine wpAny_pure ⟨plainId_quiet F.plain_list_iadd _, codeAny_builtin F.entry_list_iadd ?_⟩
  rw [Around.under_plainId F.plain_list_iadd _]
  show wpAny _ A.in1 (Builtin.List.listExtendWith (.ref s.heap.objs.size) (.ref r) (.ref s.heap.objs.size)) _ _ _
  have hS : (s.heap.push { cls := .type "list", data := .seq ([] : List Value).toArray }).get? s.heap.objs.size = some { cls := .type "list", data := .seq #[] 0 } := Heap.get?_push_size _ rfl
  refine wpAny_mono (wpAny_extend_range (A := A) (s := { s with heap := s.heap.push { cls := .type "list", data := .seq ([] : List Value).toArray } }) (R := fun r' s' => r' = .ok (.ret (.ref s.heap.objs.size)) ∧ ∃ h' tk acc' c', s' = { s with heap := h', toks := tk } ∧
      (∀ b o, b ≠ s.heap.objs.size → (s.heap.push { cls := .type "list", data := .seq ([] : List Value).toArray }).get? b = some o → h'.get? b = some o) ∧ h'.get? s.heap.objs.size = some { cls := .type "list", dict := none, data := .seq acc' c', slots := #[] } ∧ ItemsOf (fun i v => ∃ t, v = .int (a + i * c) t) acc' n)
    hh (Heap.get?_push_of_some _ hr) hsmall hn hlen s.heap.objs.size _ 0 hS fun h' tk acc' c' k1 k2 k3 => ⟨rfl, h', tk, acc', c', rfl, k1, k2, k3⟩) (fun fin s' h => ?_) (fun e s' h => ?_)
  · have fin' : ∀ s'', (∃ h' tk acc' c', s'' = { s with heap := h', toks := tk } ∧
      (∀ b o, b ≠ s.heap.objs.size → (s.heap.push { cls := .type "list", data := .seq ([] : List Value).toArray }).get? b = some o → h'.get? b = some o) ∧ h'.get? s.heap.objs.size = some { cls := .type "list", dict := none, data := .seq acc' c', slots := #[] } ∧ ItemsOf (fun i v => ∃ t, v = .int (a + i * c) t) acc' n) →
      wpAny (model prog w) A (match Value.ref s.heap.objs.size with
      | Value.ref a => do
        match (← load a).data with
          | Data.seq xs _ => pure xs.toList
          | _ => unsupported "internal:collect"
      | _ => unsupported "internal:collect") Q E s'' := by
      rintro s'' ⟨h', tk, acc', c', rfl, k1, k2, k3⟩
      show wpAny _ A (load s.heap.objs.size >>= _) _ _ _
      refine wpAny_bind (wpAny_load k2 ?_)
      exact wpAny_pure (hQ h' tk acc' (fun b o' hb => k1 b o' (Nat.ne_of_lt (Heap.lt_size hb)) (Heap.get?_push_of_some _ hb)) k3)
    cases fin with
    | done f =>
      obtain ⟨e, h⟩ := h
      cases e
      exact fin' _ h
    | again c' => exact ⟨h.1, codeAny_mono h.2 fun r s'' hr => by obtain ⟨rfl, h⟩ := hr; exact fin' _ h⟩
  · exact absurd h.1 (by simp)
theorem meets_tuple_new_range (r : Addr) (a b : Int) (t u v : Tok) (n : Nat) (hsmall : Builtin.Range.small a b 1 = true) (hn : Builtin.Range.rangeSize a b 1 = n) (hlen : n ≤ 2 ^ 24) :
    Meets (Builtin.«tuple.__new__» ⟨[.type "tuple", .ref r], []⟩)
      (fun A R s => A.handled = none ∧ IsRange s.heap r a b 1 t u v ∧ ∀ (h' : Heap) (tk : Nat) (acc : Array Value), (∀ b o', s.heap.get? b = some o' → h'.get? b = some o') → ItemsOf (fun (i : Nat) v => ∃ t, v = .int (a + (i : Int) * 1) t) acc n → R (.ok (.ret (.ref h'.objs.size))) { s with heap := h'.push { cls := .type "tuple", data := .seq acc }, toks := tk }) :=
  .of_wp fun prog w A R s h => by
    obtain ⟨hp, g, d, tk, os⟩ := s; obtain ⟨hh, ht, h⟩ := h
    have hsub := sub_tuple_self
    have hinit := init_tuple_lookup
    have hmh := madeHere_tuple
    have hT : Shared.TypeIs ⟨hp, g, d, tk, os⟩ (.ref r) "range" := ⟨_, ht, rfl⟩
    have ht' : hp.get? r = some { cls := .type "range", data := .fields #[.int a t, .int b u, .int 1 v] } := ht
    wp_walk using PySem.AutoSeq1.wpAny_loadPart' ht', wpAny_typeOf hT, collect_range (by exact hh) ht hsmall hn hlen
    intro h' tk' acc hk hacc
    show wpAny _ _ (Builtin.Tuple.tupleExact acc.toList.toArray >>= fun v => ret v) _ _ _
    unfold Builtin.Tuple.tupleExact
    have hz : acc.size ≤ sizeLine := by rw [hacc.1, sizeLine_eq]; omega
    refine wpAny_bind (wpAny_newObj_type ?_ (by show acc.toList.toArray.size ≤ sizeLine; simpa using hz))
    refine wpAny_pure ⟨_, rfl, ?_⟩
    have e : acc.toList.toArray = acc := by simp
    rw [e]
    exact h h' tk' acc hk hacc
theorem call_tuple_range {prog : Program} {w : World} {A : Around} {E : Value → Shared → Prop} {s : Shared} {r : Addr} {a b : Int} {t u v : Tok} {n : Nat} {Q : Value → Shared → Prop} (hh : A.handled = none) (hr : IsRange s.heap r a b 1 t u v) (hsmall : Builtin.Range.small a b 1 = true)
    (hn : Builtin.Range.rangeSize a b 1 = n) (hlen : n ≤ 2 ^ 24)
    (h : ∀ (h' : Heap) (tk : Nat) (acc : Array Value), (∀ b o', s.heap.get? b = some o' → h'.get? b = some o') → ItemsOf (fun (i : Nat) v => ∃ t, v = .int (a + (i : Int) * 1) t) acc n → Q (.ref h'.objs.size) { s with heap := h'.push { cls := .type "tuple", data := .seq acc }, toks := tk }) :
    wpAny (model prog w) A (call (.type "tuple") [.ref r]) Q E s :=
  callType_new F.called_tuple (by decide) (F.typeCall_tuple_1 _) (F.newCall_tuple_1 _) (fun obj => F.args_object_init_2 obj _) F.entry_tuple_new
    (meets_tuple_new_range r a b t u v n hsmall hn hlen) ⟨hh, hr, fun h' tk acc hk hacc => ⟨⟨_, Heap.get?_push_size _ rfl, rfl⟩, h h' tk acc hk hacc⟩⟩
section
variable {X : Cx} {a b : Expr} {ta : TA} {p p1 p2 pos : Pos}
theorem rng_size {i j : Int} : Builtin.Range.rangeSize i j 1 = (((j - i).toNat : Nat) : Int) := by rw [rangeSize_one]; split <;> omega
theorem rng_tup {pins : List (Addr × Obj)} {σ : St} {H : Hp} {s : Shared} {Q : VK} {E : Value → Shared → Prop} {i j : Int} {t u v : Tok} {tk : Nat} (hc : X.calm = true) (I : Inv X pins σ H s) (hb : -(2 ^ 62) ≤ i ∧ i < 2 ^ 62 ∧ -(2 ^ 62) ≤ j ∧ j < 2 ^ 62) (hz : (j - i).toNat ≤ 1000000)
    (q : newO H (.tup (intsL i (j - i).toNat)) Q) : wpAny (model X.prog X.w) X.A (call (.type "tuple") [.ref s.heap.objs.size]) (EP X pins σ Q) E { s with heap := s.heap.push { cls := .type "range", data := .fields #[.int i t, .int j u, .int 1 v] }, toks := tk } := by
  have I1 : Inv X pins σ H { s with heap := s.heap.push { cls := .type "range", data := .fields #[.int i t, .int j u, .int 1 v] }, toks := tk } := I.kept fun b o e => Heap.get?_push_of_some _ e
  refine call_tuple_range (s := { s with heap := s.heap.push { cls := .type "range", data := .fields #[.int i t, .int j u, .int 1 v] }, toks := tk }) (I.ok.hd hc) (IsRange.new ..) (small_one hb.1 hb.2.1 hb.2.2.1 hb.2.2.2) rng_size (by omega) fun h' tk' acc kp it => ?_
  have I2 : Inv X pins σ H { s with heap := h', toks := tk' } := I1.kept (h' := h') (t' := tk') kp
  obtain ⟨its, rfl⟩ : ∃ its : List Value, acc = its.toArray := ⟨acc.toList, by simp⟩
  have rv := vals_items it
  have hl : (intsL i (j - i).toNat).length ≤ sizeLine := by unfold intsL; rw [List.length_map, List.length_range, sizeLine_eq]; omega
  refine ⟨.ref h'.objs.size, upd H h'.objs.size (.tup (intsL i (j - i).toNat)), I2.laid (t' := tk') (fun b o e => Heap.get?_push_of_some _ e) (Nat.le_refl _) ?_, rfl, q.at _ (I2.hok.fresh (Nat.le_refl _))⟩
  exact ⟨hl, its, by simpa using rv, ⟨_, Heap.get?_push_size _ rfl, rfl, _, rfl⟩⟩
theorem rng_lst {pins : List (Addr × Obj)} {σ : St} {H : Hp} {s : Shared} {Q : VK} {E : Value → Shared → Prop} {i j : Int} {t u v : Tok} {tk : Nat} (hc : X.calm = true) (I : Inv X pins σ H s) (hb : -(2 ^ 62) ≤ i ∧ i < 2 ^ 62 ∧ -(2 ^ 62) ≤ j ∧ j < 2 ^ 62) (hz : (j - i).toNat ≤ 1000000)
    (q : newO H (.lst (intsL i (j - i).toNat)) Q) : wpAny (model X.prog X.w) X.A (call (.type "list") [.ref s.heap.objs.size]) (EP X pins σ Q) E { s with heap := s.heap.push { cls := .type "range", data := .fields #[.int i t, .int j u, .int 1 v] }, toks := tk } := by
  have I1 : Inv X pins σ H { s with heap := s.heap.push { cls := .type "range", data := .fields #[.int i t, .int j u, .int 1 v] }, toks := tk } := I.kept fun b o e => Heap.get?_push_of_some _ e
  refine call_list_range (s := { s with heap := s.heap.push { cls := .type "range", data := .fields #[.int i t, .int j u, .int 1 v] }, toks := tk }) (I.ok.hd hc) (IsRange.new ..) (small_one hb.1 hb.2.1 hb.2.2.1 hb.2.2.2) rng_size (by omega) fun h' tk' acc c' kp hS it => ?_
  have rv := vals_items it
  have hl : (intsL i (j - i).toNat).length ≤ sizeLine := by unfold intsL; rw [List.length_map, List.length_range, sizeLine_eq]; omega
  refine ⟨.ref (s.heap.push { cls := .type "range", data := .fields #[.int i t, .int j u, .int 1 v] }).objs.size, upd H _ (.lst (intsL i (j - i).toNat)), I1.laid (h' := h') (t' := tk') kp (Nat.le_refl _) ?_, rfl, q.at _ (I1.hok.fresh (Nat.le_refl _))⟩
  exact ⟨hl, acc.toList, c', rv, by simpa using hS⟩
def okR (i j : Int) : Prop := (-(2 ^ 62) ≤ i ∧ i < 2 ^ 62 ∧ -(2 ^ 62) ≤ j ∧ j < 2 ^ 62) ∧ (j - i).toNat ≤ 1000000
section
variable {T : Str} {Tn : String} {r : VK → Hp → Int → Int → Prop}
theorem rng2_core (hg2 : Gl X "range") (hm2 : X.mg "range" = none) (hg1 : Gl X T) (hm1 : X.mg T = none) (hb1 : bootBuiltins T = some (.type Tn)) (ha : PA X [a, b] ta)
    (core : ∀ {pins : List (Addr × Obj)} {σ : St} {H : Hp} {s : Shared} {Q : VK} {i j : Int} {t u v : Tok} {tk : Nat}, Inv X pins σ H s → r Q H i j → wpAny (model X.prog X.w) X.A (call (.type Tn) [.ref s.heap.objs.size]) (EP X pins σ Q) X.xe { s with heap := s.heap.push { cls := .type "range", data := .fields #[.int i t, .int j u, .int 1 v] }, toks := tk })
    (hn : T ≠ "__name__") (hd : (T == ("__debug__" : Str)) = false) (hs0 : starEach [.Call (.Name "range" p1) [a, b] [] p2] X.env = (false, eval (.Call (.Name "range" p1) [a, b] [] p2) X.env) :: starEach [] X.env) (hs : starEach [a, b] X.env = [(false, eval a X.env), (false, eval b X.env)]) (hs2 : starEach [b] X.env = [(false, eval b X.env)]) :
    PE X (.Call (.Name T p) [.Call (.Name "range" p1) [a, b] [] p2] [] pos) (fun σ H Q => ta σ H fun vs H1 => ∃ i j : Int, vs = [.int i, .int j] ∧ r Q H1 i j) := by
  intro pins s σ H Q I h
  refine wpAny_Call_Name_kw (ld_blt I hg1 hm1 hb1 ?_ hn hd)
  refine PyProof.Rows.callWith_type1 ?_ hs0 rfl
  rw [hs0]
  show wpAny _ _ (spliced ((false, eval (.Call (.Name "range" p1) [a, b] [] p2) X.env) :: backTo pos (starEach [] X.env))) _ _ s
  refine Calls.spliced_cons ?_
  refine Call_ (ld_blt I hg2 hm2 boot_range (PyProof.Rows.callWith_type1 (thn (ha p2 pins s σ H _ I h) fun us s1 ⟨vs, H1, I1, r1, q1⟩ => ?_) (by rw [hs, hs2]) (by rw [hs2]; rfl)))
  obtain ⟨i, j, rfl, q⟩ := q1
  obtain ⟨w, w', rfl, ⟨t, rfl⟩, ⟨t', rfl⟩⟩ := vals2 r1
  exact call_range_2 (Calls.spliced_nil (core I1 q))
end
end
section
variable {X : Cx} {e st : Expr} {te : TE} {lo hi : Option Expr} {tl th ts : TO} {pos p2 : Pos}
end
end L2
namespace PL
open PySem PySem.Spec PyProof.Rows L2
variable {K : PySem.W.Frag}
section
variable {X : Cx} {a b e st : Expr} {pos p p1 p2 : Pos}
theorem vrs_ints {ι : List Addr} {H : Hp} (lo : Int) (n : Nat) : VRs K ι H (intsL lo n) (intsV lo n) := by
  unfold intsL intsV
  induction List.range n with
  | nil => exact .nil
  | cons k l ih => exact .cons (.int _) ih
def mTupR1 (m : MA) : ME := ⟨fun ps h Q => m.run ps h fun l h1 => match l with | [.int j] => okR 0 j ∧ Q (.tup (intsV 0 (j - 0).toNat)) h1 | _ => False, fun f q => m.mono (fun l h1 q => by
  revert q
  split
  · exact fun q => ⟨q.1, f _ _ q.2⟩
  · exact fun z => z) q⟩
def mListR2 (m : MA) : ML := ⟨fun ps h Q => m.run ps h fun l h1 => match l with | [.int i, .int j] => okR i j ∧ Q (intsV i (j - i).toNat) h1 | _ => False, fun f q => m.mono (fun l h1 q => by
  revert q
  split
  · exact fun q => ⟨q.1, f _ _ q.2⟩
  · exact fun z => z) q⟩
theorem jl_listR2 {m : MA} (hc : X.calm = true) (hg1 : Gl X "list") (hm1 : X.mg "list" = none) (hg2 : Gl X "range") (hm2 : X.mg "range" = none) (ha : JA X K [a, b] m)
    (hs0 : starEach [.Call (.Name "range" p1) [a, b] [] p2] X.env = (false, eval (.Call (.Name "range" p1) [a, b] [] p2) X.env) :: starEach [] X.env := by rfl) (hs : starEach [a, b] X.env = [(false, eval a X.env), (false, eval b X.env)] := by rfl) (hs2 : starEach [b] X.env = [(false, eval b X.env)] := by rfl) :
    JL X K (.Call (.Name "list" p) [.Call (.Name "range" p1) [a, b] [] p2] [] pos) (mListR2 m) := ⟨PE.imp (rng2_core (r := fun Q H i j => okR i j ∧ newO H (.lst (intsL i (j - i).toNat)) Q) hg2 hm2 hg1 hm1 boot_list ha.p (fun I q => rng_lst hc I q.1.1 q.1.2 q.2) (by decide) (by decide) hs0 hs hs2) fun σ H Q ⟨ι, ps, h, sr, hr, q⟩ => by
  refine ⟨ι, ps, h, sr, hr, m.mono (fun l h1 q1 ι1 vs H1 g1 r1 v1 => ?_) q⟩
  revert q1
  split
  · rintro ⟨q0, q1⟩
    cases v1 with
    | cons x t => cases t with
      | cons y t =>
        cases t; cases x; cases y
        refine ⟨_, _, rfl, q0, fun p H2 s2 h2 n2 => ?_⟩
        obtain ⟨a1, a2, a3⟩ := Own.newO r1 s2 h2 n2 (vrs_ints _ _)
        exact q1 ι1 p H2 (g1.trans a2) a1 (g1.free' r1 n2) a3
  · exact False.elim⟩
end
end PL
set_option Elab.async false
set_option linter.all false
set_option maxRecDepth 100000
namespace PL
open PySem PySem.Spec PyProof.Rows L2
section
variable {D : PD} {ps : PSt} {h : PH} {m m1 m2 m3 mo mk : ME} {Q : QV} {QS : PSt → PH → Prop} {QL : List PV → PH → Prop} {QR : Src → PH → Prop} {i j n : Nat} {v x y : PV} {ra : MA} {ml : ML} {ql : MQL} {M : M2} {xs l : List PV} {lo hi st : MO} {t : PH} {A B C E F G : PO}
theorem r_augS (q : mo.run ps h fun x h1 => mk.run ps h1 fun y h2 => oGetL.f x y h2 fun z h3 => m.run ps h3 fun u h4 => M.f z u h4 fun w h5 => sList.f x y w h5 fun h6 => D.nx ps h6) : (mAugS mo mk m M).run D ps h := q
theorem r_oGetL {k : Int} (e : h[n]? = some (.lst l)) (k0 : 0 ≤ k) (k1 : k < 1000) (e2 : l[k.toNat]? = some v) (q : Q v h) : oGetL.f (.ref n) (.int k) h Q := by unfold oGetL; dsimp only; rw [e]; dsimp only; exact ⟨k0, k1, by rw [e2]; exact q⟩
def kTR1 (Q : QV) : List PV → PH → Prop := fun l h1 => match l with | [.int j] => okR 0 j ∧ Q (.tup (intsV 0 (j - 0).toNat)) h1 | _ => False
def kLR2 (Q : List PV → PH → Prop) : List PV → PH → Prop := fun l h1 => match l with | [.int i, .int j] => okR i j ∧ Q (intsV i (j - i).toNat) h1 | _ => False
theorem r_listR2 (q : ra.run ps h (kLR2 QL)) : (mListR2 ra).run ps h QL := q
theorem r_kLR2 {i j : Int} (c : okR i j) (q : QL (intsV i (j - i).toNat) h) : kLR2 QL [.int i, .int j] h := ⟨c, q⟩
def kAl (Q : QV) : List PV → PH → Prop := fun l h1 => Q (.ref h1.length) (h1 ++ [.lst l])
theorem r_al (q : ml.run ps h (kAl Q)) : (mAlloc ml).run ps h Q := q
theorem r_kAl (q : Q (.ref h.length) (h ++ [.lst l])) : kAl Q l h := q
theorem r_kAl1 (q : Q (.ref (h.length + 1)) (h ++ [A, .lst l])) : kAl Q l (h ++ [A]) := by unfold kAl; simpa using q
theorem r_kAl2 (q : Q (.ref (h.length + 2)) (h ++ [A, B, .lst l])) : kAl Q l (h ++ [A, B]) := by unfold kAl; simpa using q
theorem r_appendA (e : t[n]? = some (.lst l)) (z : l.length < sizeLine) (q : Q .non (h ++ t.set n (.lst (l ++ [y])))) : mmAppend.f (.ref (h.length + n)) [y] (h ++ t) Q := r_append ((get_app n).trans e) z (by rw [set_app]; exact q)
theorem r_appendA0 (e : t[0]? = some (.lst l)) (z : l.length < sizeLine) (q : Q .non (h ++ t.set 0 (.lst (l ++ [y])))) : mmAppend.f (.ref h.length) [y] (h ++ t) Q := r_appendA (n := 0) e z q
theorem r_popA (e : t[n]? = some (.lst (l ++ [y]))) (q : Q y (h ++ t.set n (.lst l))) : mmPop.f (.ref (h.length + n)) [] (h ++ t) Q := r_pop ((get_app n).trans e) (by rw [set_app]; exact q)
theorem r_extendA {S : Src} (e : t[n]? = some (.lst l)) (f : S.fz = false) (z : l.length + S.items.length ≤ sizeLine) (q : Q .non (h ++ t.set n (.lst (l ++ S.items)))) : mmExtend.f (.ref (h.length + n)) S (h ++ t) Q := r_extend ((get_app n).trans e) f z (by rw [set_app]; exact q)
theorem r_sListA {k : Int} {QH : PH → Prop} (e : t[n]? = some (.lst l)) (ej : ixN l.length k = some j) (q : QH (h ++ t.set n (.lst (l.set j v)))) : sList.f (.ref (h.length + n)) (.int k) v (h ++ t) QH := r_sList ((get_app n).trans e) ej (by rw [set_app]; exact q)
theorem r_sListA0 {k : Int} {QH : PH → Prop} (e : t[0]? = some (.lst l)) (ej : ixN l.length k = some j) (q : QH (h ++ t.set 0 (.lst (l.set j v)))) : sList.f (.ref h.length) (.int k) v (h ++ t) QH := r_sListA (n := 0) e ej q
theorem r_listAtA (e : t[n]? = some (.lst l)) : listAt (.ref (h.length + n)) (h ++ t) := r_listAt ((get_app n).trans e)
theorem r_listAtA0 (e : t[0]? = some (.lst l)) : listAt (.ref h.length) (h ++ t) := r_listAtA (n := 0) e
end
section
variable {Q : QV} {h : PH} {QT : Bool → PH → Prop} {ps : PSt} {tc : MT}
theorem r_kNotF (q : Q (.bl true) h) : kNot Q (.bl false) h := q
def kNt (Q : Bool → PH → Prop) : Bool → PH → Prop := fun c h => Q (!c) h
theorem r_nt (q : tc.run ps h (kNt QT)) : (mNotT tc).run ps h QT := q
theorem r_kNtT (q : QT false h) : kNt QT true h := q
theorem r_kNtF (q : QT true h) : kNt QT false h := q
theorem r_eqIs {i : Int} (q : Q (.bl true) h) : oEq.f (.int i) (.int i) h Q := r_eqI (by rw [decide_eq_true rfl]; exact q)
theorem r_eqSs {i : Str} (q : Q (.bl true) h) : oEq.f (.str i) (.str i) h Q := r_eqS (by rw [decide_eq_true rfl]; exact q)
theorem r_eqBs {i : Bool} (q : Q (.bl true) h) : oEq.f (.bl i) (.bl i) h Q := r_eqB (by rw [decide_eq_true rfl]; exact q)
theorem r_neIs {i : Int} (q : Q (.bl false) h) : oNe.f (.int i) (.int i) h Q := r_neI (by rw [decide_eq_true rfl]; exact q)
end
theorem r_kIsi_str_S {Q : QV} {h : PH} {p : Str} (q : Q (.bl true) h) : kIsi .str Q (.str p) h := ⟨trivial, q⟩
theorem r_kIsi_str_T {Q : QV} {h : PH} {l : List PV} (q : Q (.bl false) h) : kIsi .str Q (.tup l) h := ⟨trivial, q⟩
theorem r_kIsi_str_I {Q : QV} {h : PH} {i : Int} (q : Q (.bl false) h) : kIsi .str Q (.int i) h := ⟨trivial, q⟩
theorem r_kIsi_str_N {Q : QV} {h : PH}  (q : Q (.bl false) h) : kIsi .str Q .non h := ⟨trivial, q⟩
theorem r_kIsi_tup_S {Q : QV} {h : PH} {p : Str} (q : Q (.bl false) h) : kIsi .tup Q (.str p) h := ⟨trivial, q⟩
theorem r_kIsi_tup_T {Q : QV} {h : PH} {l : List PV} (q : Q (.bl true) h) : kIsi .tup Q (.tup l) h := ⟨trivial, q⟩
theorem r_kIsi_tup_I {Q : QV} {h : PH} {i : Int} (q : Q (.bl false) h) : kIsi .tup Q (.int i) h := ⟨trivial, q⟩
theorem r_kIsi_tup_N {Q : QV} {h : PH}  (q : Q (.bl false) h) : kIsi .tup Q .non h := ⟨trivial, q⟩
theorem r_kIsi_int_I {Q : QV} {h : PH} {i : Int} (q : Q (.bl true) h) : kIsi .int Q (.int i) h := ⟨trivial, q⟩
theorem r_kIsi_bool_I {Q : QV} {h : PH} {i : Int} (q : Q (.bl false) h) : kIsi .bool Q (.int i) h := ⟨trivial, q⟩
theorem r_isN_I {Q : QV} {h : PH} {i : Int} (q : Q (.bl false) h) : oIsN.f (.int i) .non h Q := q
theorem r_isN_N {Q : QV} {h : PH}  (q : Q (.bl true) h) : oIsN.f .non .non h Q := q
mutual
theorem dat_lim (n : Nat) : ∀ (v : PV), v.dat = true → v.lim n = true
  | .non, _ => by rw [PV.lim] <;> simp
  | .bl _, _ => by rw [PV.lim] <;> simp
  | .int _, _ => by rw [PV.lim] <;> simp
  | .str _, _ => by rw [PV.lim] <;> simp
  | .ty _, h => by rw [PV.dat] at h; cases h
  | .ref _, h => by rw [PV.dat] at h; cases h
  | .cl _, h => by rw [PV.dat] at h; cases h
  | .tup l, h => by rw [PV.lim]; exact datL_lim n l (by rw [PV.dat] at h; exact h)
theorem datL_lim (n : Nat) : ∀ (l : List PV), datL l = true → limL n l = true
  | [], _ => by rw [limL]
  | x :: l, h => by
    rw [datL, Bool.and_eq_true] at h
    rw [limL, dat_lim n x h.1, datL_lim n l h.2]; rfl
end
theorem datL_iff : ∀ {l : List PV}, datL l = true ↔ ∀ x ∈ l, x.dat = true
  | [] => by simp [datL]
  | x :: l => by rw [datL, Bool.and_eq_true, datL_iff]; simp
theorem depL_le {n : Nat} : ∀ {l : List PV}, (∀ x ∈ l, x.dep ≤ n) → depL l ≤ n
  | [], _ => by rw [depL]; omega
  | x :: l, h => by
    have h1 := h x List.mem_cons_self
    have h2 := depL_le (l := l) fun y hy => h y (List.mem_cons_of_mem _ hy)
    rw [depL]; omega
theorem datL_app {a b : List PV} : datL (a ++ b) = (datL a && datL b) := by
  induction a with
  | nil => simp [datL]
  | cons x l ih => rw [List.cons_append, datL, datL, ih, Bool.and_assoc]
theorem limL_iff {n : Nat} : ∀ {l : List PV}, limL n l = true ↔ ∀ x ∈ l, x.lim n = true
  | [] => by simp [limL]
  | x :: l => by rw [limL, Bool.and_eq_true, limL_iff]; simp
theorem limH_set {n k : Nat} {h : PH} {o : PO} (a : limH n h) (b : PO.lim n o = true) : limH n (h.set k o) := fun u hu => by
  rcases List.mem_or_eq_of_mem_set hu with z | z
  · exact a u z
  · rw [z]; exact b
mutual
/-- plain data: texts, None, whole numbers, and tuples of such -/
def PV.pl : PV → Bool
  | .non => true
  | .int _ => true
  | .str _ => true
  | .tup l => plL l
  | _ => false
def plL : List PV → Bool
  | [] => true
  | x :: l => x.pl && plL l
end
mutual
def PV.wid (n : Nat) : PV → Bool
  | .tup l => decide (l.length ≤ n) && widL n l
  | _ => true
def widL (n : Nat) : List PV → Bool
  | [] => true
  | x :: l => x.wid n && widL n l
end
theorem plL_iff : ∀ {l : List PV}, plL l = true ↔ ∀ x ∈ l, x.pl = true
  | [] => by simp [plL]
  | x :: l => by rw [plL, Bool.and_eq_true, plL_iff]; simp
theorem widL_iff {n : Nat} : ∀ {l : List PV}, widL n l = true ↔ ∀ x ∈ l, x.wid n = true
  | [] => by simp [widL]
  | x :: l => by rw [widL, Bool.and_eq_true, widL_iff]; simp
section
variable {K : PySem.W.Frag}
theorem HR.relabel {ι : List Addr} {H : Hp} {h : PH} {n : Nat} {a : Addr} {o : PO} (r : HR K ι H h) (hn : ι[n]? = some a) (ho : OR K ι H a o) : HR K ι H (h.set n o) := (r.put hn (fun _ _ _ q => q) fun _ => ho).1
theorem set_same {α : Type} {h : List α} {n : Nat} {o : α} (e : h[n]? = some o) : h.set n o = h := by
  obtain ⟨h1, h2⟩ := List.getElem?_eq_some_iff.mp e
  rw [← h2, List.set_getElem_self]
theorem spOf_opq {F0 F1 : MF} {φ : List V → Prop} (hφ : ∀ ι H vs, φ vs → ∃ xs, VRs K ι H vs xs)
    (hF : ∀ l h Q, F1.run l h Q → ∃ n, h[n]? = some (.opq φ) ∧ ∀ ι H vs xs, φ vs → VRs K ι H vs xs → F0.run l (h.set n (.lst xs)) fun v h' => ∃ xs', h' = h.set n (.lst xs') ∧ (∀ ι H vs, VRs K ι H vs xs' → φ vs) ∧ Q v h) :
    ∀ vs H Q E, spOf K F1 vs H Q E → spOf K F0 vs H Q E := by
  rintro vs H Q E ⟨ι, h, l, hr, hv, q⟩
  obtain ⟨n, ho, hF⟩ := hF l h _ q
  have hn : n < ι.length := by rw [hr.len]; exact lt_get ho
  have ha := List.getElem?_eq_getElem hn
  obtain ⟨ws, e1, e2⟩ := hr.obj n _ _ ha ho
  obtain ⟨xs, hx⟩ := hφ ι H ws e2
  refine ⟨ι, h.set n (.lst xs), l, hr.relabel ha ⟨ws, e1, hx⟩, hv, F0.mono (fun v h' => ?_) (hF ι H ws xs e2 hx)⟩
  rintro ⟨xs', rfl, p, qv⟩ ι' u H' g r' vu
  have ha' := g.at ha
  have hl : n < h.length := lt_get ho
  obtain ⟨ws', f1, f2⟩ := r'.obj n _ _ ha' (by rw [List.getElem?_set_self hl])
  have := r'.relabel (o := .opq φ) ha' ⟨ws', f1, p _ _ _ f2⟩
  rw [List.set_set, set_same ho] at this
  exact qv ι' u H' g this vu
theorem spL_opq {F0 : MFL} {F1 : MF} {φ : List V → Prop} (hF : ∀ l h Q, F1.run l h Q → F0.run l h fun xs h' => (∀ ι H vs, VRs K ι H vs xs → φ vs) ∧ Q (.ref h'.length) (h' ++ [.opq φ])) :
    ∀ vs H Q E, spOf K F1 vs H Q E → spL K F0 vs H Q E := by
  rintro vs H Q E ⟨ι, h, l, hr, hv, q⟩
  refine ⟨ι, h, l, hr, hv, F0.mono (fun xs h' q1 ι' a H' g r n o => ?_) (hF l h _ q)⟩
  obtain ⟨na, ws, e1, e2⟩ := o
  obtain ⟨b1, b2⟩ := r.adopt (o := .opq φ) na ⟨ws, e1, q1.1 _ _ _ e2⟩
  exact q1.2 _ _ H' (g.adopt n) b1 b2
end
end PL
set_option Elab.async false
set_option linter.all false
set_option maxRecDepth 100000
namespace PL
open PySem PySem.Spec PyProof.Rows L2
variable {K : PySem.W.Frag}
section
variable {X : Cx} {a b c e o : Expr} {es : List Expr} {pos : Pos}
def mNeN (m : MQL) : ME := ⟨fun ps h Q => m.run ps h fun S h1 => Q (.bl (!S.items.isEmpty)) h1, fun f q => m.mono (fun _ _ q => f _ _ q) q⟩
theorem empty_of {ι : List Addr} {H : Hp} {vs : List V} {l : List PV} (h : VRs K ι H vs l) : vs.isEmpty = l.isEmpty := by cases h <;> rfl
def mRepL (a : ML) (n : ME) : ML := ⟨fun ps h Q => a.run ps h fun l h1 => n.run ps h1 fun x h2 => match x with
  | .int k => -(2 ^ 63) ≤ k ∧ k < 2 ^ 63 ∧ l.length * k.toNat ≤ sizeLine ∧ Q (List.replicate k.toNat l).flatten h2
  | _ => False, fun f q => a.mono (fun l h1 q => n.mono (fun x h2 q => by
    revert q
    split
    · exact fun q => ⟨q.1, q.2.1, q.2.2.1, f _ _ q.2.2.2⟩
    · exact fun z => z) q) q⟩
theorem VRs.rep {ι : List Addr} {H : Hp} {vs : List V} {l : List PV} (h : VRs K ι H vs l) : ∀ k : Nat, VRs K ι H (List.replicate k vs).flatten (List.replicate k l).flatten
  | 0 => .nil
  | k + 1 => by
    rw [List.replicate_succ, List.replicate_succ, List.flatten_cons, List.flatten_cons]
    exact h.append (h.rep k)
theorem q_rep (K : PySem.W.Frag) {ma : ML} {mb : ME} (ha : PE X a (lL K ma)) (hb : PE X b (lE K mb)) : PE X (.BinOp a .Mult b pos) (lL K (mRepL ma mb)) := PE.imp (pe_op op_rep ha hb) fun σ H Q ⟨ι, ps, h, sr, hr, q⟩ => by
  refine ⟨ι, ps, h, sr, hr, ma.mono (fun l h1 q1 ι1 a1 H1 g1 r1 n1 o1 => ?_) q⟩
  refine ⟨ι1, ps, h1, sr.go hr g1, r1, mb.mono (fun x h2 q2 ι2 u2 H2 g2 r2 v2 => ?_) q1⟩
  have o2 := o1.go r1 g2
  obtain ⟨_, vs, e1, e2⟩ := o2
  revert q2
  split
  · rename_i k
    intro q2
    cases v2
    refine ⟨a1, k, vs, rfl, rfl, e1, q2.1, q2.2.1, by rw [e2.length]; exact q2.2.2.1, fun p hp => ?_⟩
    obtain ⟨b1, b2, b3⟩ := Own.newO r2 (same_new hp (.lst (List.replicate k.toNat vs).flatten)) upd_same hp (e2.rep k.toNat)
    exact q2.2.2.2 ι2 p _ ((g1.trans g2).trans b2) b1 ((g1.trans g2).free' r2 hp) b3
  · exact False.elim
def rRemoveN : V → List V → Hp → VK → Prop := fun x vs H Q => ∃ (l : Addr) (ns : List Int) (k : Int), x = .ref l ∧ vs = [.int k] ∧ H l = some (.lst (ns.map V.int)) ∧ k ∈ ns ∧ updO H l (.lst ((ns.erase k).map V.int)) (Q .non)
theorem ints_get : ∀ {us : List Value} {ns : List Int}, IntsAre us ns → ∀ (i : Nat) (hi : i < us.length), ∃ n t, ns[i]? = some n ∧ us[i] = .int n t
  | _, _, .nil, i, hi => by simp at hi
  | _, _, .cons _ _ r, i, hi => by
    cases i with
    | zero => exact ⟨_, _, rfl, rfl⟩
    | succ i => exact ints_get r i (by simpa using hi)
theorem idx_le {k : Int} : ∀ {ns : List Int} {m : Nat}, ns[m]? = some k → ns.idxOf k ≤ m
  | [], m, h => by simp at h
  | a :: ns, 0, h => by
    have : a = k := by simpa using h
    subst this
    simp
  | a :: ns, m + 1, h => by
    have := idx_le (ns := ns) (m := m) (by simpa using h)
    rw [List.idxOf_cons]
    by_cases c : a = k
    · have : (a == k) = true := by simpa using c
      rw [this]; exact Nat.zero_le _
    · have c2 : (a == k) = false := by simpa using c
      rw [c2]; exact Nat.succ_le_succ this
theorem erase_map {α β : Type} (f : α → β) : ∀ (l : List α) (j : Nat), (l.eraseIdx j).map f = (l.map f).eraseIdx j
  | [], _ => rfl
  | a :: l, 0 => rfl
  | a :: l, j + 1 => by
    show f a :: (l.eraseIdx j).map f = f a :: (l.map f).eraseIdx j
    rw [erase_map f l j]
def isK (k : Int) : Value → Bool
  | .int a _ => a == k
  | _ => false
theorem vals_eraseIdx {vs : List V} {us : List Value} (r : Vals vs us) : ∀ j, Vals (vs.eraseIdx j) (us.eraseIdx j) := by
  induction r with
  | nil => intro j; exact .nil
  | cons h r ih =>
    intro j
    cases j with
    | zero => exact r
    | succ j => exact .cons h (ih j)
theorem mt_removeN : MtM X "list.remove" rRemoveN := by
  intro pins s σ H x vs v us Q I rx rv h
  obtain ⟨l, ns, k, rfl, rfl, hH, hk, q⟩ := h
  cases rx
  obtain ⟨u, rfl, ru⟩ := rv.one
  obtain ⟨t, rfl⟩ := ru
  obtain ⟨z, its, n, r, hl, e⟩ := I.lstM hH
  have hi := intsAre_of r
  have hlen : ns.length = its.length := by rw [List.length_map] at hl; omega
  have hj : ns.idxOf k < ns.length := List.idxOf_lt_length_of_mem hk
  have hej : ns.erase k = ns.eraseIdx (ns.idxOf k) := by rw [List.erase_eq_eraseIdx_of_idxOf rfl]
  refine call_meets F.slot_list_remove ⟨_, e, rfl⟩ F.entry_list_remove (F.args_list_remove_2 _ _) (MeetsSeq.list_remove l its.toArray n (.int k t) (isK k) (fun y hy => ?_) (ns.idxOf k) (by rw [List.size_toArray]; omega) ?_ (fun m hm hlt => ?_) (by rw [List.size_toArray]; omega)) ⟨e, ?_⟩
  · have hy' : y ∈ its := by simpa using hy
    obtain ⟨i, hi2⟩ := List.getElem?_of_mem hy'
    obtain ⟨h1, h2⟩ := List.getElem?_eq_some_iff.mp hi2
    obtain ⟨n', t', g1, g2⟩ := ints_get hi i h1
    rw [← h2, g2]
    exact MeetsSeq.EqGives.int _ _ _ _
  · have h1 : ns.idxOf k < its.length := by omega
    obtain ⟨n', t', g1, g2⟩ := ints_get hi (ns.idxOf k) h1
    have g3 : ns[ns.idxOf k]? = some k := by rw [List.getElem?_eq_getElem hj, List.getElem_idxOf hj]
    rw [g3] at g1
    cases g1
    show isK k its.toArray[ns.idxOf k] = true
    rw [List.getElem_toArray, g2]
    simp [isK]
  · have h1 : m < its.length := by rw [List.size_toArray] at hm; exact hm
    obtain ⟨n', t', g1, g2⟩ := ints_get hi m h1
    show isK k its.toArray[m] = false
    rw [List.getElem_toArray, g2]
    have : n' ≠ k := fun z => by
      subst z
      have := idx_le g1
      omega
    simp [isK, this]
  · refine ⟨.non, _, I.lset (its' := its.eraseIdx (ns.idxOf k)) (ys := (ns.erase k).map V.int) hH e (by simp [Array.toList_eraseIdxIfInBounds, ← Array.toList_inj]) ?_ ?_, rfl, q.at⟩
    · rw [hej, erase_map]
      exact vals_eraseIdx r _
    · rw [hej, List.length_map, List.length_eraseIdx]
      split <;> omega
def mmRemove : MM := ⟨fun x l h Q => match x, l with
  | .ref n, [.int k] => ∃ ns : List Int, h[n]? = some (.lst (ns.map PV.int)) ∧ k ∈ ns ∧ Q .non (h.set n (.lst ((ns.erase k).map PV.int)))
  | _, _ => False, fun f q => by
    revert q
    split
    · exact fun ⟨ns, e, h1, q⟩ => ⟨ns, e, h1, f _ _ q⟩
    · exact fun z => z⟩
theorem ints_vs {ι : List Addr} {H : Hp} : ∀ {ns : List Int} {vs : List V}, VRs K ι H vs (ns.map PV.int) → vs = ns.map V.int
  | [], _, h => by cases h; rfl
  | b :: bs, _, h => by
    cases h with
    | cons x t => cases x; rw [ints_vs t]; rfl
theorem ints_vr (ι : List Addr) (H : Hp) : ∀ ns : List Int, VRs K ι H (ns.map V.int) (ns.map PV.int)
  | [] => .nil
  | n :: ns => .cons (.int n) (ints_vr ι H ns)
theorem mmRemove_ok : MM.Ok K rRemoveN mmRemove := by
  intro ι H h v x vs l Q hr hv hl q
  unfold mmRemove at q
  dsimp only at q
  revert q
  split
  · rename_i n k
    cases hv with
    | @ref _ a e =>
    cases hl with
    | cons hy t =>
    cases t
    cases hy
    rintro ⟨ns, hn, hk, q⟩
    obtain ⟨ws, e1, e2⟩ := hr.obj n a _ e hn
    have := ints_vs e2
    subst this
    refine ⟨a, ns, k, rfl, rfl, e1, hk, fun H2 s2 h2 => ?_⟩
    obtain ⟨b1, b2, b3⟩ := hr.put (o := .lst ((ns.erase k).map PV.int)) e s2 fun ht => ⟨_, h2, ints_vr _ _ _⟩
    exact q ι _ H2 b2 b1 .non
  · exact False.elim
def rSortI (K : PySem.W.Frag) : List V → Hp → VK → Prop := fun xs H Q => ∃ (p : Addr) (ns : List Int), xs = [.ref p] ∧ SqL K H p (ns.map V.int) ∧ ns.length < 64 ∧ ∀ ms : List Int, ms.Perm ns → ms.Pairwise (· ≤ ·) → newO H (.lst (ms.map V.int)) Q
theorem call_sortI (K : PySem.W.Frag) (hK : X.K = K) : CallR X (.builtin "sorted") (rSortI K) := by
  subst hK
  intro pins s σ H xs us Q I r h
  obtain ⟨p, ns, rfl, hq, h64, q⟩ := h
  obtain ⟨u, rfl, rx⟩ := vals1 r
  cases rx
  obtain ⟨its, r', pl, hz⟩ := I.list hq
  have hi := intsAre_of r'
  have hl := r'.length
  rw [List.length_map] at hl hz
  refine PyProof.Rows.sorted_ints pl.isList hi (by omega) fun out ms a1 a2 a3 => ?_
  obtain ⟨e, he⟩ := sortedAll_at s.heap its out
  refine ⟨.ref (s.heap.objs.size + 1), _, I.laid (t' := s.toks) (fun _ _ => sortedAll_old) (Nat.le_succ _) (show ObjOk X.prog X.w _ _ _ (.lst (ms.map V.int)) from ⟨?_, out.toList, e, vals_ints a1, ?_⟩), rfl, (q ms a2 a3).at _ (I.hok.fresh (Nat.le_succ _))⟩
  · rw [List.length_map, a2.length_eq]; exact hz
  · rw [Array.toArray_toList]; exact he
def mSortI (m : MQL) : ML := ⟨fun ps h Q => m.run ps h fun S h1 => ∃ ns : List Int, S.items = ns.map PV.int ∧ ns.length < 64 ∧ ∀ ms : List Int, ms.Perm ns → ms.Pairwise (· ≤ ·) → Q (ms.map PV.int) h1,
  fun f q => m.mono (fun _ _ ⟨ns, e, h1, q⟩ => ⟨ns, e, h1, fun ms a b => f _ _ (q ms a b)⟩) q⟩
theorem q_sortI (K : PySem.W.Frag) (hK : X.K = K) {p : Pos} {m : MQL} (hg : Gl X "sorted") (hm : X.mg "sorted" = none) (ha : PE X e (lQL K m)) (he : starEach [e] X.env = (false, eval e X.env) :: starEach [] X.env := by rfl) (hpl : (backTo pos (starEach [] X.env)).any (·.1) = false := by rfl) :
    PE X (.Call (.Name "sorted" p) [e] [] pos) (lL K (mSortI m)) := PE.imp (pe_callB (call_sortI K hK) hg hm boot_sorted (pa_cons ha pa_nil he) (by decide) (by decide) he hpl) fun σ H Q ⟨ι, ps, h, sr, hr, q⟩ =>
  ⟨ι, ps, h, sr, hr, m.mono (fun S h1 q1 ι1 u H1 g1 r1 v1 ok => by
    obtain ⟨ns, en, h64, q1⟩ := q1
    obtain ⟨a, rfl, hs⟩ := v1
    obtain ⟨vs, ⟨e3, _⟩, e4⟩ := hs ι1 H1 h1 (Go.refl _ _) r1 ok
    rw [en] at e4
    have := ints_vs e4
    subst this
    refine ⟨a, ns, rfl, e3, h64, fun ms a2 a3 p H2 s2 h2 n2 => ?_⟩
    obtain ⟨b1, b2, b3⟩ := Own.newO r1 s2 h2 n2 (ints_vr _ _ ms)
    exact q1 ms a2 a3 ι1 p H2 (g1.trans b2) b1 (g1.free' r1 n2) b3) q⟩
end
section
variable {X : Cx} {a b e o : Expr} {pos p p2 apos cpos : Pos} {m mo : ME} {l : ML} {ql : MQL}
theorem jl_rep (ha : JL X K a l) (hb : JE X K b m) : JL X K (.BinOp a .Mult b pos) (mRepL l m) := ⟨q_rep K ha.p hb.p⟩
theorem jl_sortI (hK : X.K = K) (hg : Gl X "sorted") (hm : X.mg "sorted" = none) (ha : JQL X K e ql) (he : starEach [e] X.env = (false, eval e X.env) :: starEach [] X.env := by rfl) (hpl : (backTo pos (starEach [] X.env)).any (·.1) = false := by rfl) : JL X K (.Call (.Name "sorted" p) [e] [] pos) (mSortI ql) := ⟨q_sortI K hK hg hm ha.p he hpl⟩
theorem j_remove (hK : X.K = K) (ho : JE X K o mo) (ha : JE X K e m) (hbase : attributeBase o "remove" X.env (eval o X.env) = eval o X.env := by rfl)
    (hfew : ((backTo cpos (starEach [e] X.env)).all (fun x => !x.1) && (backToKw cpos (keywordEach [] X.env)).all (fun x => x.1.isSome)
      && decide ([e].length + ([] : List Keyword).length + (if ([] : List Keyword).isEmpty then 0 else 1) < 30)) = true := by rfl)
    (hline : (apos.endLine == cpos.line) = true := by rfl) (hs : starEach [e] X.env = (false, eval e X.env) :: starEach [] X.env := by rfl) (hplain : (backTo cpos (starEach [] X.env)).any (·.1) = false := by rfl) :
    JE X K (.Call (.Attribute o "remove" apos) [e] [] cpos) (mLM mmRemove mo (mCons m mNil)) := ⟨q_lm K hK PySem.F.slot_list_remove PySem.F.type_list_remove mt_removeN mmRemove_ok ho.p (qa_cons ha.p qa_nil hs) hbase hfew hline hs hplain⟩
end
section
variable {ps : PSt} {h : PH} {Q : QV} {QL : List PV → PH → Prop} {m : ME} {l : ML} {ql : MQL} {n : Nat}
theorem r_neN (q : ql.run ps h fun S h1 => Q (.bl (!S.items.isEmpty)) h1) : (mNeN ql).run ps h Q := q
def kRep (l : List PV) (Q : List PV → PH → Prop) : QV := fun x h2 => match x with
  | .int k => -(2 ^ 63) ≤ k ∧ k < 2 ^ 63 ∧ l.length * k.toNat ≤ sizeLine ∧ Q (List.replicate k.toNat l).flatten h2
  | _ => False
theorem r_rep (q : l.run ps h fun xs h1 => m.run ps h1 (kRep xs QL)) : (mRepL l m).run ps h QL := q
theorem r_kRep1 {y : PV} {k : Nat} (z : k ≤ sizeLine) (q : QL (List.replicate k y) h) : kRep [y] QL (.int (k : Int)) h := by
  have hs : sizeLine < 2 ^ 62 := by decide
  have e : ∀ j : Nat, (List.replicate j [y]).flatten = List.replicate j y := fun j => by
    induction j with
    | zero => rfl
    | succ j ih => rw [List.replicate_succ, List.flatten_cons, List.replicate_succ, ih]; rfl
  exact ⟨by omega, by omega, by simpa using z, by rw [show ((k : Nat) : Int).toNat = k by omega, e k]; exact q⟩
theorem r_sortI (q : ql.run ps h fun S h1 => ∃ ns : List Int, S.items = ns.map PV.int ∧ ns.length < 64 ∧ ∀ ms : List Int, ms.Perm ns → ms.Pairwise (· ≤ ·) → QL (ms.map PV.int) h1) : (mSortI ql).run ps h QL := q
theorem r_remove {ns : List Int} {k : Int} (e : h[n]? = some (.lst (ns.map PV.int))) (hk : k ∈ ns) (q : Q .non (h.set n (.lst ((ns.erase k).map PV.int)))) : mmRemove.f (.ref n) [.int k] h Q := ⟨ns, e, hk, q⟩
end
end PL
set_option Elab.async false
set_option linter.all false
set_option maxRecDepth 100000
namespace L2
open PySem PySem.Spec PyProof.Rows
theorem getAttrQ_miss_list {prog : Program} {w : World} {A : Around} {E : Value → Shared → Prop} {s : Shared} {a : Addr} {o : Obj} {xs : Array Value} {k : Nat} {name : Str} {Q : Option Value → Shared → Prop}
    (hx : s.heap.get? a = some o) (hc : o.cls = .type "list") (hdat : o.data = .seq xs k) (hd : o.dict = none) (hmiss : typeLookup (.type "list") name = pure none) (hname : (["__module__", "__name__", "__qualname__", "__doc__", "__annotations__"] : List Str).contains name = false) (hA : A.handled = none)
    (h : ∀ h' tk e, Heap.NewExcOf s.heap h' e "AttributeError" → Q none { s with heap := h', toks := tk }) (hsz : name.length + 100 ≤ sizeLine := by size_fits) :
    wpAny (model prog w) A (getAttr? (.ref a) name) Q E s := by
  obtain ⟨c, dct, dat, sl⟩ := o
  simp only at hc hdat hd
  subst hc hdat hd
  obtain ⟨hp, g, d, tk, os⟩ := s
  have hT : ∀ tk', (⟨hp, g, d, tk', os⟩ : Shared).TypeIs (.ref a) "list" := fun _ => ⟨_, hx, rfl⟩
  have f1 := sub_AttributeError
  have f3 := F.slot_list_getattribute.lookup
  have f4 := F.slot_list_getattribute.bind (.ref a)
  have f5 := am_list_getattr_none
  unfold getAttr? getAttrBy? getAttrBy
  repeat (any_goals (first | assumption | exact hT _ | ((with_reducible show wpAny _ _ (call (Value.builtin "list.__getattribute__") _ _) _ _ _); refine call_meets F.slot_list_getattribute (hT _) am_entry_list_getattribute (F.args_list_getattribute_2 _ _) (meets_getattribute_miss_list a xs k sl name _ hmiss hname hsz) ⟨hx, hA, fun h' tk' e hx' => ?_⟩) | wp_step))
  obtain ⟨t', u', he⟩ := hx'.there
  show wpAny _ _ (getattributeRaised _ _ _ _ _ _ _) _ _ _
  unfold getattributeRaised
  repeat (any_goals (first | assumption | wp_step))
  exact h _ _ _ hx'.of
end L2
set_option Elab.async false
set_option linter.all false
set_option maxRecDepth 100000
namespace L2
open PySem PySem.Spec PyProof.Rows
theorem entry_update_loop : entryFor table "dict.update.loop" = some Builtin.«dict.update.loop» := entryFor_of_fast (by kernel_rfl)
theorem plain_update_loop : plainId "dict.update.loop" = true := by decide +kernel
section
variable {prog : Program} {w : World} {K : Type} [DecidableEq K] {knd : KeyKind prog w K} {A : Around} {R : Result → Shared → Prop}
def PairAt (knd : KeyKind prog w K) (h : Heap) (it d : Addr) (v : Value) (x : List K × Addr × Value) : Prop :=
  ∃ pa o n, v = .ref pa ∧ pa ≠ it ∧ pa ≠ d ∧ x.2.1 ≠ it ∧ x.2.1 ≠ d ∧ h.get? pa = some o ∧ o.cls = .type "tuple" ∧ o.data = .seq #[.ref x.2.1, x.2.2] n ∧ (tupleKind knd).is h x.1 x.2.1
theorem tk_keep {h h' : Heap} {k : List K} {b : Addr} (x : (tupleKind knd).is h k b) (kp : ∀ o, h.get? b = some o → h'.get? b = some o) : (tupleKind knd).is h' k b := by
  obtain ⟨o, its, n, h1, h2⟩ := x
  exact ⟨o, its, n, kp _ h1, h2⟩
theorem PairAt.keep {h h' : Heap} {it d : Addr} {v : Value} {x : List K × Addr × Value} (p : PairAt knd h it d v x) (kp : ∀ b o, b ≠ it → b ≠ d → h.get? b = some o → h'.get? b = some o) : PairAt knd h' it d v x := by
  obtain ⟨pa, o, n, e, n1, n2, n3, n4, h1, h2, h3, h4⟩ := p
  exact ⟨pa, o, n, e, n1, n2, n3, n4, kp _ _ n1 n2 h1, h2, h3, tk_keep h4 fun o q => kp _ _ n3 n4 q⟩
theorem dh_keep {h h' : Heap} {it d : Addr} {xs : List (List K × Addr × Value)} (m : h.DictOfH (tupleKind knd) d xs) (hd : d ≠ it) (hx : ∀ x ∈ xs, x.2.1 ≠ it) (kp : ∀ b o, b ≠ it → h.get? b = some o → h'.get? b = some o) : h'.DictOfH (tupleKind knd) d xs := by
  obtain ⟨o, es, ep, ho, hc, hd', he, his, hn⟩ := m
  exact ⟨o, es, ep, kp _ _ hd ho, hc, hd', he, fun x q => tk_keep (his x q) fun o z => kp _ _ (hx x q) z, hn⟩
theorem storedH_mem {xs : List (List K × Addr × Value)} {k : List K} {b : Addr} {v : Value} {it : Addr} (hx : ∀ x ∈ xs, x.2.1 ≠ it) (hb : b ≠ it) : ∀ x ∈ storedH xs k b v, x.2.1 ≠ it := by
  intro x q
  unfold storedH at q
  split at q
  · obtain ⟨y, hy, rfl⟩ := List.mem_map.mp q
    have e : (putAt k v y).2.1 = y.2.1 := by unfold putAt; split <;> rfl
    rw [e]
    exact hx y hy
  · rcases List.mem_append.mp q with q | q
    · exact hx x q
    · rw [List.mem_singleton.mp q]; exact hb
theorem storedH_len {xs : List (List K × Addr × Value)} {k : List K} {b : Addr} {v : Value} : (storedH xs k b v).length ≤ xs.length + 1 := by
  unfold storedH
  split <;> simp
theorem update_loop (hA : A.handled = none) (hu : A.units + 1 < cLine) {d it l : Addr} {items : Array Value} (hz : items.size + items.size ≤ sizeLine) (hdi : d ≠ it) (hli : l ≠ it) (hld : l ≠ d) :
    ∀ (k i : Nat) (ys xs : List (List K × Addr × Value)) (s : Shared), items.size - i = k → i ≤ items.size → ys.length = items.size - i → xs.length ≤ i → s.heap.IsListIter it l i → s.heap.IsList l items → s.heap.DictOfH (tupleKind knd) d xs → (∀ x ∈ xs, x.2.1 ≠ it) →
      (∀ j x, ys[j]? = some x → ∃ v, items[i + j]? = some v ∧ PairAt knd s.heap it d v x) →
      (∀ h' tk, h'.DictOfH (tupleKind knd) d (ys.foldl (fun a y => storedH a y.1 y.2.1 y.2.2) xs) → (∀ b o, b ≠ it → b ≠ d → s.heap.get? b = some o → h'.get? b = some o) → R (.ok (.ret .none)) { s with heap := h', toks := tk }) →
      codeAny (model prog w) A (.builtin "dict.update.loop" ⟨[.ref d, .ref it, rawInt i, .none], []⟩) R s := by
  intro k
  induction k with
  | zero =>
    intro i ys xs s hk hi hy hxl hit hl hd hx hp q
    have e0 : ys = [] := List.eq_nil_of_length_eq_zero (by omega)
    subst e0
    refine codeAny_builtin entry_update_loop ?_
    rw [Around.under_plainId plain_update_loop _]
    show wpAny _ A.in1 (pyNext (.ref it) >>= _) _ _ s
    refine wpAny_bind (wpAny_pyNext_list_end (A := A.in1) hA hit hl (by rw [Array.getElem?_eq_none]; omega) fun h' ex => ?_)
    show wpAny _ A.in1 (Builtin.Dict.addKeywords d [] >>= _) _ _ _
    have kp : ∀ b o, b ≠ it → s.heap.get? b = some o → h'.get? b = some o := ex
    exact wpAny_bind (wpAny_pure (wpAny_pure (q h' s.toks (dh_keep hd hdi hx kp) fun b o n1 _ e => kp b o n1 e)))
  | succ k ih =>
    intro i ys xs s hk hi hy hxl hit hl hd hx hp q
    have hlt : i < items.size := by omega
    match ys, hy, hp, q with
    | [], hy, _, _ => exact absurd hy (by simp only [List.length_nil]; omega)
    | y :: ys, hy, hp, q =>
    obtain ⟨v, hv, pa⟩ := hp 0 y rfl
    refine codeAny_builtin entry_update_loop ?_
    rw [Around.under_plainId plain_update_loop _]
    show wpAny _ A.in1 (pyNext (.ref it) >>= _) _ _ s
    refine wpAny_bind (wpAny_pyNext_list_item hit hl (by simpa using hv) fun h1 hit1 sb => ?_)
    have kp1 : ∀ b o, b ≠ it → s.heap.get? b = some o → h1.get? b = some o := fun b o hb e => (sb.2 b hb).trans e
    have pa1 := pa.keep fun b o n1 _ e => kp1 b o n1 e
    have hd1 := dh_keep hd hdi hx kp1
    have hl1 : h1.IsList l items := let ⟨o, e, p⟩ := hl; ⟨o, kp1 _ _ hli e, p⟩
    obtain ⟨p, o, n, rfl, n1, n2, n3, n4, g1, g2, g3, g4⟩ := pa1
    show wpAny _ A.in1 (holding [Value.ref p] _ >>= _) _ _ _
    refine wpAny_bind (wpAny_holding (wpAny_bind (wpAny_tryCatch ?_)))
    unfold Builtin.Dict.pairItems
    refine wpAny_bind (wpAny_typeOf (T := "tuple") ⟨_, g1, g2⟩ ?_)
    rw [if_pos (by decide)]
    refine wpAny_bind (wpAny_seqItems g1 g3 (wpAny_pure ?_))
    show wpAny _ A.in1 (holding [Value.ref y.2.1, y.2.2] (dictSet d (.ref y.2.1) y.2.2)) _ _ _
    refine wpAny_holding (wpAny_dictSet_heap (knd := tupleKind knd) (tupleKind_room_in1 hu) g4 hd1 (fun h2 hd2 sb2 => ?_) (by omega))
    have kp2 : ∀ b o, b ≠ d → h1.get? b = some o → h2.get? b = some o := fun b o hb e => (sb2.2 b hb).trans e
    refine wpAny_pure ⟨plainId_quiet plain_update_loop _, ?_⟩
    have ei : ((i : Int) + 1) = ((i + 1 : Nat) : Int) := by omega
    have kp : ∀ b o, b ≠ it → b ≠ d → s.heap.get? b = some o → h2.get? b = some o := fun b o a1 a2 e => kp2 _ _ a2 (kp1 _ _ a1 e)
    show codeAny _ A (.builtin "dict.update.loop" ⟨[.ref d, .ref it, rawInt ((i : Int) + 1), .none], []⟩) R _
    rw [ei]
    refine ih (i + 1) ys (storedH xs y.1 y.2.1 y.2.2) _ (by omega) (by omega) (by rw [List.length_cons] at hy; omega) (Nat.le_trans storedH_len (by omega)) ?_ ?_ hd2 (storedH_mem hx n3) (fun j x hj => ?_) (fun h' tk dd k3 => ?_)
    · obtain ⟨o', e1, e2⟩ := hit1
      exact ⟨o', kp2 _ _ (Ne.symm hdi) e1, e2⟩
    · obtain ⟨o', e1, e2⟩ := hl1
      exact ⟨o', kp2 _ _ hld e1, e2⟩
    · obtain ⟨v', h3, h4⟩ := hp (j + 1) x hj
      exact ⟨v', by rw [show i + 1 + j = i + (j + 1) by omega]; exact h3, h4.keep kp⟩
    · exact q h' tk dd fun b o a1 a2 e => k3 b o a1 a2 (kp b o a1 a2 e)
end
end L2
set_option Elab.async false
set_option linter.all false
set_option maxRecDepth 100000
namespace L2
open PySem PySem.Spec PyProof.Rows
theorem list_no_keys : typeLookup (.type "list") (Str.ofString "keys") = pure none := am_miss_of_fast (by decide +kernel)
section
variable {prog : Program} {w : World} {K : Type} [DecidableEq K] {knd : KeyKind prog w K} {A : Around} {E : Value → Shared → Prop} {s : Shared}
theorem call_dict_pairs {l : Addr} {o : Obj} {items : Array Value} {n : Nat} {ys : List (List K × Addr × Value)} {Q : Value → Shared → Prop} (hA : A.handled = none) (hu : A.units + 2 < cLine) (ho : s.heap.get? l = some o) (hc : o.cls = .type "list") (hdat : o.data = .seq items n) (hd : o.dict = none)
    (hz : items.size + items.size ≤ sizeLine) (hy : ys.length = items.size)
    (hp : ∀ (j : Nat) (x : List K × Addr × Value), ys[j]? = some x → ∃ (pa : Addr) (op : Obj) (m : Nat), items[j]? = some (Value.ref pa) ∧ s.heap.get? pa = some op ∧ op.cls = .type "tuple" ∧ op.data = .seq #[Value.ref x.2.1, x.2.2] m ∧ (tupleKind knd).is s.heap x.1 x.2.1)
    (q : ∀ h' tk, (∀ b o, s.heap.get? b = some o → h'.get? b = some o) → h'.DictOfH (tupleKind knd) s.heap.objs.size (ys.foldl (fun a y => storedH a y.1 y.2.1 y.2.2) []) → Q (.ref s.heap.objs.size) { s with heap := h', toks := tk }) :
    wpAny (model prog w) A (call (.type "dict") [.ref l]) Q E s := by
  refine callType_codes (Q₁ := fun obj s₁ => obj = .ref s.heap.objs.size ∧ s₁ = { s with heap := s.heap.push { cls := .type "dict", data := .dict #[] } }) F.kt_called_dict (F.kt_typeCall_dict_1 _) F.entry_dict_init (kt_code_dict_new _ ⟨rfl, rfl⟩) ?_
  rintro obj s₁ ⟨rfl, rfl⟩
  have kp0 : ∀ b o, s.heap.get? b = some o → (s.heap.push { cls := .type "dict", data := .dict #[] }).get? b = some o := fun b o e => Heap.get?_push_of_some _ e
  have hnew : (s.heap.push { cls := .type "dict", data := .dict #[] }).DictOf knd s.heap.objs.size [] := Heap.DictOf.new s.heap
  have hnewH : (s.heap.push { cls := .type "dict", data := .dict #[] }).DictOfH (tupleKind knd) s.heap.objs.size [] := ⟨_, #[], 0, Heap.get?_push_size _ rfl, ⟨rfl, rfl, rfl⟩, rfl, rfl, fun x hx => absurd hx (List.not_mem_nil), List.nodup_nil⟩
  have ls : ∀ b o, s.heap.get? b = some o → b ≠ s.heap.objs.size := fun b o e z => by subst z; exact Nat.lt_irrefl _ (Heap.lt_size e)
  refine ⟨hnew.typeIs, F.args_dict_init_2 _ _, ?_⟩
  unfold Builtin.«dict.__init__»
  refine wpAny_bind ?_
  unfold Builtin.Dict.selfAndRest
  refine wpAny_bind (wpAny_notOrdered_dict hnew.typeIs ?_)
  show wpAny _ _ (pure (s.heap.objs.size, [Value.ref l])) _ _ _
  refine wpAny_pure ?_
  show wpAny _ _ (Builtin.Dict.updateFrom "dict.__init__" s.heap.objs.size (.ref l) [] .none) _ _ _
  unfold Builtin.Dict.updateFrom
  refine wpAny_bind (wpAny_typeOf (T := "list") ⟨_, kp0 _ _ ho, hc⟩ ?_)
  rw [if_pos (by decide)]
  refine wpAny_bind (getAttrQ_miss_list (kp0 _ _ ho) hc hdat hd list_no_keys (by decide +kernel) hA (fun h1 tk e nx => ?_) (by decide))
  rw [if_pos (by rfl)]
  refine wpAny_bind (wpAny_rule (wpAny_bind ?_))
  refine wpAny_pyIter_list (items := items) ⟨_, nx.keeps _ _ (kp0 _ _ ho), hc, n, hdat⟩ ?_
  have hsz : s.heap.objs.size < h1.objs.size := Heap.lt_size (nx.keeps _ _ (Heap.get?_push_size s.heap rfl))
  have kp1 : ∀ b o, s.heap.get? b = some o → (h1.push { cls := .type "list_iterator", data := .fields #[.ref l, .int 0 0] }).get? b = some o := fun b o e => Heap.get?_push_of_some _ (nx.keeps _ _ (kp0 _ _ e))
  have ni : ∀ b o, s.heap.get? b = some o → b ≠ h1.objs.size := fun b o e z => by
    have h3 := Heap.lt_size e
    subst z
    exact Nat.lt_irrefl _ (Nat.lt_trans h3 hsz)
  refine wpAny_pure ⟨plainId_quiet plain_update_loop _, ?_⟩
  refine update_loop (A := A.in1) (knd := knd) hA (by show A.units + 1 + 1 < _; omega) (items := items) (d := s.heap.objs.size) (it := h1.objs.size) (l := l) hz (Nat.ne_of_lt hsz) (ni _ _ ho) (ls _ _ ho) items.size 0 ys [] _ (Nat.sub_zero _) (Nat.zero_le _) (by rw [hy]; rfl) (Nat.le_refl _)
    ⟨_, Heap.get?_push_size _ rfl, rfl, rfl⟩ ⟨_, kp1 _ _ ho, hc, n, hdat⟩ ?_ (fun x hx => nomatch hx) (fun j x hj => ?_) (fun h' tk' dd kp => ?_)
  · refine dh_keep (it := h1.objs.size) hnewH (Nat.ne_of_lt hsz) (fun x hx => nomatch hx) fun b o _ e => Heap.get?_push_of_some _ (nx.keeps _ _ e)
  · obtain ⟨pa, op, m, e1, e2, e3, e4, e5⟩ := hp j x hj
    have kb : ∃ ob, s.heap.get? x.2.1 = some ob := let ⟨ob, _, _, z, _⟩ := e5; ⟨ob, z⟩
    obtain ⟨ob, eb⟩ := kb
    exact ⟨.ref pa, by rw [Nat.zero_add]; exact e1, pa, op, m, rfl, ni _ _ e2, ls _ _ e2, ni _ _ eb, ls _ _ eb, kp1 _ _ e2, e3, e4, tk_keep e5 fun o z => kp1 _ _ z⟩
  · exact ⟨rfl, q h' tk' (fun b o e => kp b o (ni _ _ e) (ls _ _ e) (kp1 _ _ e)) dd⟩
end
end L2
set_option Elab.async false
set_option linter.all false
set_option maxRecDepth 100000
namespace L2
open PySem PySem.Spec PyProof.Rows
structure Pz where
  pa : Addr
  k : List Key
  b : Addr
  v : V
def Pz.At (H : Hp) (z : Pz) : Prop := H z.pa = some (.tup [.ref z.b, z.v]) ∧ H z.b = some (.tup (z.k.map kV))
def rDictP (K : PySem.W.Frag) : List V → Hp → VK → Prop := fun xs H Q => ∃ (p : Addr) (zs : List Pz), xs = [.ref p] ∧ SqL K H p (zs.map fun z => .ref z.pa) ∧ (∀ z ∈ zs, z.At H) ∧ (zs.map (·.k)).Nodup ∧ zs.length ≤ 1000 ∧ newO H (.dT (zs.map fun z => (z.k, z.v))) Q
theorem fold_stored {K : Type} [DecidableEq K] : ∀ (ys xs : List (K × Addr × Value)), ((xs ++ ys).map (·.1)).Nodup → ys.foldl (fun a y => storedH a y.1 y.2.1 y.2.2) xs = xs ++ ys
  | [], xs, _ => by simp
  | y :: ys, xs, h => by
    have hn : atKey xs y.1 = none := by
      cases e : atKey xs y.1 with
      | none => rfl
      | some p =>
        exfalso
        rw [List.map_append, List.map_cons] at h
        have h2 := (List.nodup_append.mp h).2.2
        have hm : y.1 ∈ xs.map (·.1) := by
          by_cases hc : y.1 ∈ xs.map (·.1)
          · exact hc
          · rw [atKey_none_of_get (fun j q hj => ?_)] at e
            · cases e
            · exact hc (List.mem_map.mpr ⟨_, List.mem_of_getElem? hj, rfl⟩)
        exact h2 _ hm _ List.mem_cons_self rfl
    rw [List.foldl_cons, storedH_new hn, fold_stored ys (xs ++ [(y.1, y.2.1, y.2.2)]) (by simpa using h)]
    simp
section
variable {X : Cx}
theorem call_dictP (K : PySem.W.Frag) (hK : X.K = K) (hc : X.calm = true) (hu : X.A.units + 2 < cLine) : CallR X (.type "dict") (rDictP K) := by
  subst hK
  intro pins s σ H xs us Q I r h
  obtain ⟨p, zs, rfl, hq, hz, hn, hl, q⟩ := h
  obtain ⟨u, rfl, rx⟩ := vals1 r
  cases rx
  obtain ⟨its, rv, pl, hsz⟩ := I.list hq
  obtain ⟨o, n, ho, hc', hd, hdat⟩ := pl
  -- the pairs' values
  have build : ∀ (zs : List Pz) (its : List Value), (∀ z ∈ zs, z.At H) → Vals (zs.map fun z => V.ref z.pa) its → ∃ ys : List (List Key × Addr × Value), ys.map (·.1) = zs.map (·.k) ∧ KT H (zs.map fun z => (z.k, z.v)) ys ∧
      ∀ (j : Nat) (x : List Key × Addr × Value), ys[j]? = some x → ∃ (pa : Addr) (op : Obj) (m : Nat), its[j]? = some (Value.ref pa) ∧ s.heap.get? pa = some op ∧ op.cls = .type "tuple" ∧ op.data = .seq #[Value.ref x.2.1, x.2.2] m ∧ (tupleKind (mixKind X.prog X.w)).is s.heap x.1 x.2.1 := by
    intro zs
    induction zs with
    | nil => intro its _ _; exact ⟨[], rfl, .nil, fun j x h => by simp at h⟩
    | cons z zs ih =>
      intro its ha hv
      cases hv with
      | @cons _ u _ us ru rus =>
      cases ru
      obtain ⟨ys, e1, e2, e3⟩ := ih us (fun y hy => ha y (List.mem_cons_of_mem _ hy)) rus
      obtain ⟨a1, a2⟩ := ha z List.mem_cons_self
      obtain ⟨_, its', r', op, h1, h2, m, h3⟩ := (show ObjOk X.prog X.w H s.heap z.pa (.tup [.ref z.b, z.v]) from I.hok _ _ a1)
      obtain ⟨w, rfl, rw'⟩ : ∃ w, its' = [Value.ref z.b, w] ∧ RelV z.v w := by
        cases r' with
        | cons q1 q2 => cases q1; cases q2 with
          | cons q3 q4 => cases q4; exact ⟨_, rfl, q3⟩
      refine ⟨(z.k, z.b, w) :: ys, by rw [List.map_cons, List.map_cons, e1], .cons ⟨rfl, a2, rw'⟩ e2, fun j x hj => ?_⟩
      cases j with
      | zero =>
        cases hj
        exact ⟨z.pa, op, m, rfl, h1, h2, h3, key_of I.hok a2⟩
      | succ j => exact e3 j x hj
  obtain ⟨ys, e1, e2, e3⟩ := build zs its hz rv
  have hlen := rv.length
  rw [List.length_map] at hlen
  have hyl : ys.length = zs.length := by have := congrArg List.length e1; simpa using this
  have hs : (1000 : Nat) + 1000 ≤ sizeLine := by decide
  refine call_dict_pairs (knd := mixKind X.prog X.w) (items := its.toArray) (ys := ys) (I.ok.hd hc) hu ho hc' hdat hd (by rw [List.size_toArray]; omega) (by rw [List.size_toArray]; omega) (fun j x hj => ?_) (fun h' tk kp dd => ?_)
  · obtain ⟨pa, op, m, g1, g2⟩ := e3 j x hj
    exact ⟨pa, op, m, by rw [List.getElem?_toArray]; exact g1, g2⟩
  · rw [fold_stored ys [] (by rw [List.nil_append, e1]; exact hn), List.nil_append] at dd
    obtain ⟨od, es, ep, hq', h2, h3, h4, _, h5⟩ := dd
    have hbig : (s.heap.objs.size == sysModules) = false := beq_eq_false_iff_ne.mpr (Ne.symm (Nat.ne_of_lt I.big))
    have fr := I.hok.fresh (Nat.le_refl s.heap.objs.size)
    refine ⟨.ref s.heap.objs.size, _, I.laid (t' := tk) kp (Nat.le_refl _) (show ObjOk X.prog X.w (upd H s.heap.objs.size (.dT (zs.map fun z => (z.k, z.v)))) h' _ (.dT _) from ⟨?_, hbig, ys, ?_, od, es, ep, hq', h2, h3, h4, h5⟩), rfl, q.at _ fr⟩
    · rw [List.length_map]; exact Nat.le_trans hl (by decide)
    · refine e2.keeps fun c xs ec => ?_
      rw [upd_ne (fun z => by subst z; rw [fr] at ec; cases ec)]
      exact ec
end
end L2
set_option Elab.async false
set_option linter.all false
set_option maxRecDepth 100000
namespace L2
open PySem PySem.Spec PyProof.Rows
section
variable {prog : Program} {w : World} {A : Around} {E : Value → Shared → Prop} {s : Shared}
def RawD (h : Heap) (d : Addr) (es : Array DictEntry) (ep : Nat) : Prop := ∃ o, h.get? d = some o ∧ o.ExactDict ∧ o.data = .dict es ep
theorem keyOwn0 : Builtin.Dict_items.ownsTuple "dict_keyiterator" = false := by decide
theorem next_key {it d : Addr} {i ep : Nat} {es : Array DictEntry} {Q : Option Value → Shared → Prop} (hit : s.heap.IsKeyIter it d i es.size ep) (hm : RawD s.heap d es ep) (hi : i < es.size)
    (q : ∀ h', h'.IsKeyIter it d (i + 1) es.size ep → Heap.SameBut it s.heap h' → Q (some es[i].key) { s with heap := h' }) : wpAny (model prog w) A (pyNext (.ref it)) Q E s := by
  have ty := hit.typeIs
  obtain ⟨o, ho, hc, hd⟩ := id hit
  obtain ⟨od, hod, -, hdd⟩ := hm
  have hit' : (s.heap.update it (Obj.mapFields (·.setIfInBounds 1 (rawInt ((i : Int) + 1))))).IsKeyIter it d (i + 1) es.size ep := ⟨_, Heap.get?_update_self _ ho (Obj.isFreed_of_fields (Obj.data_mapFields hd _)), (Obj.cls_mapFields ..).trans hc, by rw [Obj.data_mapFields hd]; simp [rawInt]⟩
  unfold pyNext
  refine wpAny_bind (wpAny_attempt (wpAny_callSpecial?_slot (name := Str.ofString "__next__") ty F.slot_dict_keyiterator_next (wpAny_call_entry F.slot_dict_keyiterator_next ty F.entry_dict_keyiterator_next ?_ (F.args_dict_keyiterator_next_1 _))))
  refine wpAny_bind (wpAny_pure (wpAny_bind (wpAny_bind ?_)))
  first | refine wpAny_bind (wpAny_typeNameOfWhole_keyiter ty (wpAny_pure ?_)) | refine wpAny_bind (wpAny_typeNameOf_keyiter ty (wpAny_pure ?_))
  refine wpAny_bind (wpAny_fieldsOf ho hd ?_)
  rw [keyOwn0]
  show wpAny _ _ (if (Value.ref d == Value.none) = true then _ else _) _ _ s
  rw [if_neg (fun z : (Value.ref d == Value.none) = true => Bool.false_ne_true z)]
  refine wpAny_bind (wpAny_pure (wpAny_bind (wpAny_dictEntries hod hdd ?_)))
  rw [if_neg (by simp)]
  refine wpAny_bind (wpAny_pure (wpAny_bind (wpAny_dictEpoch hod hdd ?_)))
  rw [if_neg (by simp)]
  refine wpAny_pure ?_
  have i0 : ¬ ((i : Int) < 0) := by omega
  simp only [i0, if_false, Int.toNat_natCast, Array.getElem?_eq_getElem hi]
  refine wpAny_bind ?_
  first | refine wpAny_bind (wpAny_typeNameOfWhole_keyiter ty (wpAny_pure ?_)) | refine wpAny_bind (wpAny_typeNameOf_keyiter ty (wpAny_pure ?_))
  refine wpAny_bind (wpAny_isOneOf_keyiter ty ?_)
  show wpAny _ _ (setField (.ref it) 1 (rawInt ((i : Int) + 1)) >>= _) _ _ s
  refine wpAny_bind (wpAny_setField ho hd (by simp) (wpAny_bind (wpAny_holding (wpAny_bind (wpAny_isOneOf_keyiter (s := { s with heap := s.heap.update it (Obj.mapFields (·.setIfInBounds 1 (rawInt ((i : Int) + 1)))) }) hit'.typeIs ?_)))))
  show wpAny _ _ (pure es[i].key) _ _ _
  exact wpAny_pure (wpAny_pure ⟨_, rfl, wpAny_pure (q _ hit' (Heap.SameBut.update ..))⟩)
theorem end_key {it d : Addr} {i ep : Nat} {es : Array DictEntry} {Q : Option Value → Shared → Prop} (hh : A.handled = none) (hit : s.heap.IsKeyIter it d i es.size ep) (hm : RawD s.heap d es ep) (hi : es.size ≤ i)
    (q : ∀ h', Heap.ExtBut it s.heap h' → Q none { s with heap := h' }) : wpAny (model prog w) A (pyNext (.ref it)) Q E s := by
  have ty := hit.typeIs
  obtain ⟨o, ho, hc, hd⟩ := id hit
  obtain ⟨od, hod, -, hdd⟩ := hm
  unfold pyNext
  refine wpAny_bind (wpAny_attempt (wpAny_callSpecial?_slot (name := Str.ofString "__next__") ty F.slot_dict_keyiterator_next (wpAny_call_entry F.slot_dict_keyiterator_next ty F.entry_dict_keyiterator_next ?_ (F.args_dict_keyiterator_next_1 _))))
  refine wpAny_bind (wpAny_pure (wpAny_bind (wpAny_bind ?_)))
  first | refine wpAny_bind (wpAny_typeNameOfWhole_keyiter ty (wpAny_pure ?_)) | refine wpAny_bind (wpAny_typeNameOf_keyiter ty (wpAny_pure ?_))
  refine wpAny_bind (wpAny_fieldsOf ho hd ?_)
  rw [keyOwn0]
  show wpAny _ _ (if (Value.ref d == Value.none) = true then _ else _) _ _ s
  rw [if_neg (fun z : (Value.ref d == Value.none) = true => Bool.false_ne_true z)]
  refine wpAny_bind (wpAny_pure (wpAny_bind (wpAny_dictEntries hod hdd ?_)))
  rw [if_neg (by simp)]
  refine wpAny_bind (wpAny_pure (wpAny_bind (wpAny_dictEpoch hod hdd ?_)))
  rw [if_neg (by simp)]
  refine wpAny_pure ?_
  have i0 : ¬ ((i : Int) < 0) := by omega
  simp only [i0, if_false, Int.toNat_natCast, Array.getElem?_eq_none hi]
  refine wpAny_bind ?_
  first | refine wpAny_bind (wpAny_typeNameOfWhole_keyiter ty (wpAny_pure ?_)) | refine wpAny_bind (wpAny_typeNameOf_keyiter ty (wpAny_pure ?_))
  show wpAny _ _ (setField (.ref it) 0 .none >>= _) _ _ s
  refine wpAny_bind (wpAny_setField ho hd (by simp) ?_)
  show wpAny _ _ (newExc (.type "StopIteration") [] >>= _) _ _ _
  refine wpAny_bind ?_
  unfold newExc newTuple
  refine wpAny_bind (wpAny_newObj_type (wpAny_bind (m := firstArgMember _ _) (wpAny_of_eq (a := Value.none) (by first | rfl | (simp only [firstArgMember]; rfl)) (wpAny_newObj_type ?_ (by size_fits)))) (by size_fits))
  unfold raiseNew
  refine wpAny_bind (wpAny_handled ?_)
  rw [show A.in1.handled = none from hh]
  refine wpAny_bind (wpAny_pure (wpAny_throw ?_))
  refine wpAny_bind (wpAny_isInstance (T := "StopIteration") (b := true) ⟨_, Heap.get?_push_size _ rfl, rfl⟩ isSubtype_stop ?_)
  exact wpAny_pure (q _ (((Heap.SameBut.update ..).extBut.push _).push _))
theorem iter_key {d : Addr} {es : Array DictEntry} {ep : Nat} {Q : Value → Shared → Prop} (hs : (d == sysModules) = false) (hm : RawD s.heap d es ep)
    (q : Q (.ref s.heap.objs.size) { s with heap := s.heap.push { cls := .type "dict_keyiterator", data := .fields #[.ref d, .int 0 0, .int es.size 0, .int ep 0] } }) : wpAny (model prog w) A (pyIter (.ref d)) Q E s := by
  obtain ⟨od, hod, hx, hdd⟩ := hm
  have ty : s.TypeIs (.ref d) "dict" := ⟨_, hod, hx.1⟩
  refine wpAny_pyIter_slot ty F.slot_dict_iter (wpAny_call_entry F.slot_dict_iter ty F.entry_dict_iter ?_ (F.args_dict_iter_1 _))
  unfold Builtin.«dict.__iter__»
  refine wpAny_bind ?_
  unfold Builtin.Dict.dictSlotNone
  refine wpAny_bind (wpAny_notOrdered_dict ty ?_)
  show wpAny _ _ (pure (Value.ref d)) _ _ s
  refine wpAny_pure ?_
  show wpAny _ _ (Builtin.Dict.showsAll d >>= _) _ _ s
  unfold Builtin.Dict.showsAll
  rw [if_neg (by rw [hs]; exact Bool.false_ne_true)]
  refine wpAny_bind (wpAny_pure (wpAny_bind (wpAny_dictEntries hod hdd (wpAny_bind (wpAny_dictEpoch hod hdd ?_)))))
  exact wpAny_bind (wpAny_newObj_type (wpAny_pure ⟨_, rfl, "dict_keyiterator", _, ⟨_, Heap.get?_push_size _ rfl, rfl⟩, F.slot_dict_keyiterator_next.lookup, q⟩))
end
end L2
set_option Elab.async false
set_option linter.all false
set_option maxRecDepth 100000
namespace L2
open PySem PySem.Spec PyProof.Rows
section
variable {X : Cx} {pins : List (Addr × Obj)} {σ : St} {H : Hp} {s : Shared} {a : Addr} {kvs : List (List Key × V)}
theorem Inv.freeze (I : Inv X pins σ H s) (e : H a = some (.dT kvs)) : ∃ o, Inv X pins σ (upd H a (.frz o (.dT kvs))) s := by
  obtain ⟨z, hs, xs, r, o, es, ep, h1, h2, h3, h4, h5⟩ := (show ObjOk X.prog X.w H s.heap a (.dT kvs) from I.hok a _ e)
  refine ⟨o, ?_⟩
  have q := I.write (x := a) (e := a) (o := .frz o (.dT kvs)) (h' := s.heap) (t' := s.toks) (by rw [e]; exact True.intro) (.inl rfl) (fun b u _ z => z) ⟨o, h1⟩
    ⟨h1, z, hs, xs, KT.keeps r fun b ys eb => by rw [upd_ne (ne_of eb e (fun z => nomatch z))]; exact eb, o, es, ep, h1, h2, h3, h4, h5⟩
  exact q
theorem Inv.thaw {o : Obj} {u : HO} (I : Inv X pins σ H s) (e : H a = some (.frz o u)) (h0 : ∀ o u, X.H₀ a ≠ some (.frz o u)) (hu : ObjOk X.prog X.w (upd H a u) s.heap a u) (hok : HOk X.prog X.w (upd H a u) s.heap) : Inv X pins σ (upd H a u) s := by
  have ne : ∀ b v, H b = v → v ≠ some (.frz o u) → b ≠ a := fun b v q n z => by subst z; exact n (q.symm.trans e)
  refine ⟨I.ok, I.os, I.bare, ⟨I.base.keep, I.base.slot, fun b ob q n hx => ?_, I.base.there, fun b xs q => ?_, fun b ob xs q => ?_, fun b ps q => ?_⟩, I.loc, I.cell, ?_, fun x c q => ?_, fun p hp => ?_, hok, I.len⟩
  · have := I.base.free b ob q n hx
    rw [upd_ne (ne b _ this (by simp))]; exact this
  · have := I.base.tups b xs q
    rw [upd_ne (ne b _ this (by simp))]; exact this
  · have := I.base.frzs b ob xs q
    have hb : b ≠ a := fun z => by subst z; exact h0 _ _ q
    rw [upd_ne hb]; exact this
  · obtain ⟨m, this⟩ := I.base.tbls b ps q
    exact ⟨m, by rw [upd_ne (ne b _ this (by simp))]; exact this⟩
  · rw [upd_ne (ne _ _ I.free (by simp))]; exact I.free
  · rw [upd_ne (ne _ _ (I.freeC x c q) (by simp))]; exact I.freeC x c q
  · obtain ⟨p1, p2, p3⟩ := I.pin p hp
    exact ⟨p1, by rw [upd_ne (ne _ _ p2 (by simp))]; exact p2, p3⟩
theorem hok_thaw {P : Program} {w : World} {h : Heap} {o : Obj} (ok : HOk P w H h) (e : H a = some (.frz o (.dT kvs))) : HOk P w (upd H a (.dT kvs)) h := fun b u q => by
  have ne : ∀ c v, H c = some v → v ≠ .frz o (.dT kvs) → upd H a (.dT kvs) c = some v := fun c v z n => by
    rw [upd_ne (fun y => by subst y; rw [e] at z; cases z; exact n rfl)]; exact z
  by_cases hb : b = a
  · subst hb
    rw [upd_same] at q
    cases q
    exact ObjOk.stay (ok b _ e).2 (fun _ _ _ z => z) (fun c z => ne c _ z (by simp)) fun c xs z => ne c _ z (by simp)
  · rw [upd_ne hb] at q
    exact ObjOk.stay (ok b _ q) (fun _ _ _ z => z) (fun c z => ne c _ z (by simp)) fun c xs z => ne c _ z (by simp)
def tFz (t : TE) : TE := fun σ H Q => ∃ a kvs, H a = some (.dT kvs) ∧ ∀ o, t σ (upd H a (.frz o (.dT kvs))) fun v H' => ∃ kvs', H' a = some (.frz o (.dT kvs')) ∧ Q v (upd H' a (.dT kvs'))
theorem pe_fz {e : Expr} {t : TE} (h : PE X e t) : PE X e (tFz t) := by
  intro pins s σ H Q I ⟨a, kvs, ea, q⟩
  obtain ⟨o, I1⟩ := I.freeze ea
  refine thn (h pins s σ _ _ I1 (q o)) fun u s1 ⟨x, H1, I2, r1, kvs', e1, q1⟩ => ⟨x, _, ?_, r1, q1⟩
  have h0 : ∀ o u, X.H₀ a ≠ some (.frz o u) := fun o u z => by
    have := I.base.frzs a o u z
    rw [ea] at this; cases this
  have hk := hok_thaw I2.hok e1
  exact I2.thaw e1 h0 (hk a _ upd_same) hk
end
def ItDz (a : Addr) (o : Obj) : It :=
  ⟨fun i H => ∃ kvs, H a = some (.frz o (.dT kvs)) ∧ i < kvs.length, fun i H x H' => H' = H ∧ ∀ kvs, H a = some (.frz o (.dT kvs)) → ∃ b k v, x = .ref b ∧ kvs[i]? = some (k, v) ∧ H b = some (.tup (k.map kV)), fun i H => ∃ kvs, H a = some (.frz o (.dT kvs)) ∧ kvs.length ≤ i⟩
theorem fz_raw {P : Program} {w : World} {H : Hp} {h : Heap} {a : Addr} {o : Obj} {kvs : List (List Key × V)} {es : Array DictEntry} {ep : Nat} (x : ObjOk P w H h a (.frz o (.dT kvs))) (hd : o.data = .dict es ep) :
    RawD h a es ep ∧ es.size = kvs.length ∧ ∀ (i : Nat) (hi : i < es.size), ∃ b k v, es[i].key = .ref b ∧ kvs[i]? = some (k, v) ∧ H b = some (.tup (k.map kV)) := by
  obtain ⟨e, z, hs, xs, r, o', es', ep', h1, h2, h3, h4, h5⟩ := x
  rw [e] at h1
  cases h1
  rw [hd] at h3
  cases h3
  have hl : es.size = xs.length := by have := congrArg List.length h4; simpa using this
  refine ⟨⟨o, e, h2, hd⟩, hl.trans (Paired.length r).symm, fun i hi => ?_⟩
  have hx : xs[i]? = some (xs[i]'(by omega)) := List.getElem?_eq_getElem _
  have pg : ∀ {l : List (List Key × V)} {m : List (List Key × Addr × Value)} {i : Nat} {q : List Key × Addr × Value}, KT H l m → m[i]? = some q → ∃ v, l[i]? = some (q.1, v) ∧ H q.2.1 = some (.tup (q.1.map kV)) := by
    intro l m i q t
    induction t generalizing i with
    | nil => intro h; simp at h
    | @cons p q' ps qs hq t ih =>
      intro h
      cases i with
      | zero =>
        cases h
        obtain ⟨p1, p2⟩ := p
        have e1 : p1 = q.1 := hq.1
        subst e1
        exact ⟨p2, rfl, hq.2.1⟩
      | succ i => exact ih (by simpa using h)
  obtain ⟨v, g1, g2⟩ := pg r hx
  refine ⟨_, _, v, ?_, g1, g2⟩
  have : es[i] = entryOfKey (tupleKind (mixKind P w)) (xs[i]'(by omega)) := by
    have h6 : es.toList[i]? = some (entryOfKey (tupleKind (mixKind P w)) (xs[i]'(by omega))) := by rw [h4, List.getElem?_map, hx]; rfl
    rw [Array.getElem?_toList, Array.getElem?_eq_getElem hi] at h6
    exact Option.some.inj h6
  rw [this]
  rfl
theorem turn_dict {P : Program} {w : World} {K : PySem.W.Frag} {tg : Expr} (a it : Addr) (o : Obj) {es : Array DictEntry} {ep : Nat} (hd : o.data = .dict es ep) : Turn P w K tg (ItDz a o) [it] it (fun i h => h.IsKeyIter it a i es.size ep) where
  mem := by simp
  obj := fun i h st b hb => by
    have e : b = it := by simpa using hb
    subst e
    obtain ⟨o, e, c, d⟩ := st
    exact ⟨o, e, fun v z => by rw [d] at z; cases z⟩
  keep := fun i h h' st k => st.at fun o e => k it (by simp) o e
  item := by
    intro X hP hw hK hc i pins s σ H E I hf st hg
    subst hP hw hK
    obtain ⟨kvs, hq, hx⟩ := hg
    obtain ⟨raw, hl, ky⟩ := fz_raw (I.hok a _ hq) hd
    obtain ⟨b, k, v, k1, k2, k3⟩ := ky i (by omega)
    obtain ⟨f0, f1, f2, f3, f4, f5⟩ := hf it (by simp)
    refine next_key st raw (by omega) fun h' st' sb => ?_
    have I1 : Inv X pins σ H { s with heap := h' } := I.turned (t' := s.toks) (fun b o hb e => (sb.2 b hb).trans e) f0 f1 f3 f4 f5
    obtain ⟨oi, e, c, d⟩ := id st'
    refine ⟨_, rfl, go_of (s := { s with heap := h' }) e c d (by decide) ⟨.ref b, H, I1, k1, ⟨rfl, fun kvs' hq' => ?_⟩, st', fun b hb => (hf b hb).1⟩⟩
    rw [hq] at hq'
    cases hq'
    exact ⟨b, k, v, rfl, k2, k3⟩
  done := by
    intro X hP hw hK hc i pins s σ H E I hf st hg
    subst hP hw hK
    obtain ⟨kvs, hq, hx⟩ := hg
    obtain ⟨raw, hl, ky⟩ := fz_raw (I.hok a _ hq) hd
    obtain ⟨f0, f1, f2, f3, f4, f5⟩ := hf it (by simp)
    exact end_key (I.ok.hd hc) st raw (by omega) fun h' eb => ⟨rfl, I.turned (t' := s.toks) (fun b o hb e => eb b o hb e) f0 f1 f3 f4 f5⟩
  self := fun _ _ _ _ _ st h => wpAny_pyIter_keyiter st h
def iDictZ (tl : TE) : TI := fun σ H R => tl σ H fun x H1 => ∃ a o kvs, x = .ref a ∧ H1 a = some (.frz o (.dT kvs)) ∧ R (ItDz a o) H1
theorem pi_dictZ {X : Cx} {tg l : Expr} {tl : TE} (hl : PE X l tl) : PI X tg l (iDictZ tl) := by
  intro pins s σ H R I h
  refine thn (hl pins s σ H _ I h) fun v s1 ⟨x, H1, I1, r1, q1⟩ => ?_
  obtain ⟨a, o, kvs, e, hq, q⟩ := q1
  subst e
  cases r1
  obtain ⟨eo, z, hs, xs, r, o', es, ep, h1, h2, h3, h4, h5⟩ := (show ObjOk X.prog X.w H1 s1.heap a (.frz o (.dT kvs)) from I1.hok a _ hq)
  rw [eo] at h1
  cases h1
  refine iter_key hs ⟨o, eo, h2, h3⟩ ?_
  refine ⟨s1.heap.objs.size, [s1.heap.objs.size], _, _, H1, rfl, I1.kept (t' := s1.toks) fun b o e => Heap.get?_push_of_some _ e, turn_dict a _ o h3, ⟨_, Heap.get?_push_size _ rfl, rfl, rfl⟩, fun b hb => ?_, q⟩
  have e : b = s1.heap.objs.size := by simpa using hb
  subst e
  exact I1.fpOk (Nat.le_refl _) (I1.hok.fresh (Nat.le_refl _))
end L2
set_option Elab.async false
set_option linter.all false
set_option maxRecDepth 100000
namespace PL
open PySem PySem.Spec PyProof.Rows L2
variable {K : PySem.W.Frag}
def kP : Key → PV
  | .inl i => .int i
  | .inr x => .str x
section
variable {ι : List Addr} {H : Hp}
theorem kP_vs : ∀ {k : List Key} {vs : List V}, VRs K ι H vs (k.map kP) → vs = k.map kV
  | [], _, h => by cases h; rfl
  | .inl i :: k, _, h => by
    cases h with
    | cons x t => cases x; rw [kP_vs t]; rfl
  | .inr i :: k, _, h => by
    cases h with
    | cons x t => cases x; rw [kP_vs t]; rfl
theorem kP_vr (ι : List Addr) (H : Hp) : ∀ k : List Key, VRs K ι H (k.map kV) (k.map kP)
  | [] => .nil
  | .inl i :: k => .cons (.int i) (kP_vr ι H k)
  | .inr i :: k => .cons (.str i) (kP_vr ι H k)
def pairP (kv : List Key × PV) : PV := .tup [.tup (kv.1.map kP), kv.2]
theorem pairs_of : ∀ {kvs : List (List Key × PV)} {vs : List V}, VRs K ι H vs (kvs.map pairP) → ∃ zs : List Pz, vs = zs.map (fun z => V.ref z.pa) ∧ (∀ z ∈ zs, z.At H) ∧ zs.map (·.k) = kvs.map (·.1) ∧ VRs K ι H (zs.map (·.v)) (kvs.map (·.2))
  | [], _, h => by cases h; exact ⟨[], rfl, by simp, rfl, .nil⟩
  | kv :: kvs, _, h => by
    cases h with
    | cons x t =>
    obtain ⟨zs, z1, z2, z3, z4⟩ := pairs_of t
    cases x with
    | @tup p ws _ e r =>
    cases r with
    | cons x1 t1 =>
    cases t1 with
    | cons x2 t2 =>
    cases t2
    cases x1 with
    | @tup b us _ e1 r1 =>
    have := kP_vs r1
    subst this
    refine ⟨⟨p, kv.1, b, _⟩ :: zs, by rw [List.map_cons, z1], fun z hz => ?_, by rw [List.map_cons, List.map_cons, z3], .cons x2 z4⟩
    rcases List.mem_cons.mp hz with rfl | hz
    · exact ⟨e, e1⟩
    · exact z2 z hz
end
section
variable {X : Cx} {e o i : Expr} {pos p : Pos}
def mDictT (m : MQL) : ME := ⟨fun ps h Q => m.run ps h fun S h1 => ∃ kvs : List (List Key × PV), S.items = kvs.map pairP ∧ (kvs.map (·.1)).Nodup ∧ kvs.length ≤ 1000 ∧ Q (.ref h1.length) (h1 ++ [.dt kvs]),
  fun f q => m.mono (fun _ _ ⟨kvs, a, b, c, q⟩ => ⟨kvs, a, b, c, f _ _ q⟩) q⟩
theorem q_dictT (K : PySem.W.Frag) (hK : X.K = K) (hc : X.calm = true) (hu : X.A.units + 200 < cLine) {m : MQL} (hg : Gl X "dict") (hm : X.mg "dict" = none) (ha : PE X e (lQL K m)) (he : starEach [e] X.env = (false, eval e X.env) :: starEach [] X.env := by rfl) (hpl : (backTo pos (starEach [] X.env)).any (·.1) = false := by rfl) :
    PE X (.Call (.Name "dict" p) [e] [] pos) (lE K (mDictT m)) := PE.imp (pe_callTy (call_dictP K hK hc (by omega)) hg hm boot_dict (pa_cons ha pa_nil he) (by decide) (by decide) he hpl) fun σ H Q ⟨ι, ps, h, sr, hr, q⟩ =>
  ⟨ι, ps, h, sr, hr, m.mono (fun S h1 q1 ι1 u H1 g1 r1 v1 ok => by
    obtain ⟨kvs, en, nd, hl, q1⟩ := q1
    obtain ⟨a, rfl, hs⟩ := v1
    obtain ⟨vs, ⟨e3, _⟩, e4⟩ := hs ι1 H1 h1 (Go.refl _ _) r1 ok
    rw [en] at e4
    obtain ⟨zs, rfl, z2, z3, z4⟩ := pairs_of e4
    have hzl : zs.length = kvs.length := by have := congrArg List.length z3; simpa using this
    refine ⟨a, zs, rfl, e3, z2, by rw [z3]; exact nd, by omega, fun p H2 s2 h2 n2 => ?_⟩
    obtain ⟨b1, b2, b3⟩ := r1.new (o := .dt kvs) s2 n2 ⟨zs.map fun z => (z.k, z.v), h2, by rw [List.map_map, ← z3]; rfl, by rw [List.map_map]; exact (Go.same s2).vrs r1 z4⟩
    exact q1 _ _ H2 (g1.trans b2) b1 b3) q⟩
def valP {κ : Type} [DecidableEq κ] (kvs : List (κ × PV)) (k : κ) : Option PV := (kvs.find? fun kv => decide (kv.1 = k)).map (·.2)
theorem valP_rel {κ : Type} [DecidableEq κ] {ι : List Addr} {H : Hp} {k : κ} {v : PV} : ∀ {vs : List (κ × V)} {kvs : List (κ × PV)}, vs.map (·.1) = kvs.map (·.1) → VRs K ι H (vs.map (·.2)) (kvs.map (·.2)) → valP kvs k = some v → ∃ w, valV vs k = some w ∧ VR K ι H w v
  | [], [], _, _, h => by simp [valP] at h
  | [], _ :: _, h, _, _ => by simp at h
  | _ :: _, [], h, _, _ => by simp at h
  | x :: vs, y :: kvs, e, r, h => by
    rw [List.map_cons, List.map_cons] at e r
    injection e with e1 e2
    cases r with
    | cons r1 r2 =>
    by_cases c : y.1 = k
    · have : v = y.2 := by simp [valP, c] at h; exact h.symm
      subst this
      exact ⟨x.2, by simp [valV, e1, c], r1⟩
    · have h2 : valP kvs k = some v := by simpa [valP, c] using h
      obtain ⟨w, g1, g2⟩ := valP_rel e2 r2 h2
      exact ⟨w, by simpa [valV, e1, c] using g1, g2⟩
def dtAt (h : PH) (n : Nat) (kvs : List (List Key × PV)) : Prop := h[n]? = some (.dt kvs) ∨ ∃ o, h[n]? = some (.dtz o kvs)
def kDGet (x : PV) (Q : QV) : QV := fun y h2 => match x, y with
  | .ref n, .tup l => ∃ k kvs v, l = k.map kP ∧ dtAt h2 n kvs ∧ valP kvs k = some v ∧ Q v h2
  | .ref n, .int i => ∃ kvs v, h2[n]? = some (.dk kvs) ∧ valP kvs (.inl i) = some v ∧ Q v h2
  | .ref n, .str i => ∃ kvs v, h2[n]? = some (.dk kvs) ∧ valP kvs (.inr i) = some v ∧ Q v h2
  | _, _ => False
theorem kDGet.mono {x y : PV} {h : PH} {Q Q' : QV} (f : ∀ v h', Q v h' → Q' v h') (q : kDGet x Q y h) : kDGet x Q' y h := by
  revert q
  unfold kDGet
  split
  · exact fun ⟨k, kvs, v, a, b, c, q⟩ => ⟨k, kvs, v, a, b, c, f _ _ q⟩
  · exact fun ⟨kvs, v, b, c, q⟩ => ⟨kvs, v, b, c, f _ _ q⟩
  · exact fun ⟨kvs, v, b, c, q⟩ => ⟨kvs, v, b, c, f _ _ q⟩
  · exact fun z => z
def mDGet (ma mb : ME) : ME := ⟨fun ps h Q => ma.run ps h fun x h1 => mb.run ps h1 (kDGet x Q), fun f q => ma.mono (fun _ _ q => mb.mono (fun _ _ q => kDGet.mono f q) q) q⟩
theorem q_dget (K : PySem.W.Frag) (hu : X.A.units + 200 < cLine) {ma mb : ME} (ho : PE X o (lE K ma)) (hi : PE X i (lE K mb)) (hs : NoSl i) : PE X (.Subscript o i pos) (lE K (mDGet ma mb)) := PE.imp (pe_dget (by omega) ho hi hs) fun σ H Q ⟨ι, ps, h, sr, hr, q⟩ => by
  refine ⟨ι, ps, h, sr, hr, ma.mono (fun x h1 q1 ι1 u1 H1 g1 r1 v1 => ?_) q⟩
  refine ⟨ι1, ps, h1, sr.go hr g1, r1, mb.mono (fun y h2 q2 ι2 u2 H2 g2 r2 v2 => ?_) q1⟩
  have v1' := g2.vr r1 v1
  revert q2
  unfold kDGet
  split
  · rintro ⟨k, kvs, v, rfl, hd, hv, q2⟩
    cases v1' with
    | @ref n a ea =>
    cases v2 with
    | @tup b us _ eb rb =>
    have := kP_vs rb
    subst this
    rcases hd with hd | ⟨oo, hd⟩
    · obtain ⟨vs, f1, f2, f3⟩ := r2.obj _ a _ ea hd
      obtain ⟨w, w1, w2⟩ := valP_rel f2 f3 hv
      exact ⟨a, w, rfl, .inr ⟨vs, k, b, .inl f1, rfl, eb, w1.symm⟩, q2 ι2 w H2 (g1.trans g2) r2 w2⟩
    · obtain ⟨vs, f1, f2, f3⟩ := r2.obj _ a _ ea hd
      obtain ⟨w, w1, w2⟩ := valP_rel f2 f3 hv
      exact ⟨a, w, rfl, .inr ⟨vs, k, b, .inr ⟨oo, f1⟩, rfl, eb, w1.symm⟩, q2 ι2 w H2 (g1.trans g2) r2 w2⟩
  · rintro ⟨kvs, v, hd, hv, q2⟩
    cases v1' with
    | @ref n a ea =>
    cases v2
    obtain ⟨vs, f1, f2, f3⟩ := r2.obj _ a _ ea hd
    obtain ⟨w, w1, w2⟩ := valP_rel f2 f3 hv
    exact ⟨a, w, rfl, .inl ⟨vs, .inl _, .inl f1, rfl, w1.symm⟩, q2 ι2 w H2 (g1.trans g2) r2 w2⟩
  · rintro ⟨kvs, v, hd, hv, q2⟩
    cases v1' with
    | @ref n a ea =>
    cases v2
    obtain ⟨vs, f1, f2, f3⟩ := r2.obj _ a _ ea hd
    obtain ⟨w, w1, w2⟩ := valP_rel f2 f3 hv
    exact ⟨a, w, rfl, .inl ⟨vs, .inr _, .inl f1, rfl, w1.symm⟩, q2 ι2 w H2 (g1.trans g2) r2 w2⟩
  · exact False.elim
def mFzL (i : Nat) (m : ML) : ML := ⟨fun ps h Q => ∃ n kvs, ps[i]? = some (some (.ref n)) ∧ h[n]? = some (.dt kvs) ∧ ∀ o, m.run ps (h.set n (.dtz o kvs)) fun l h' => h'[n]? = some (.dtz o kvs) ∧ Q l (h'.set n (.dt kvs)),
  fun f ⟨n, kvs, a, b, q⟩ => ⟨n, kvs, a, b, fun o => m.mono (fun _ _ q => ⟨q.1, f _ _ q.2⟩) (q o)⟩⟩
theorem q_fzL (K : PySem.W.Frag) {i : Nat} {m : ML} (h : PE X e (lL K m)) : PE X e (lL K (mFzL i m)) := PE.imp (pe_fz h) fun σ H Q ⟨ι, ps, h, sr, hr, n, kvs, e1, e2, q⟩ => by
  obtain ⟨v, s1, s2⟩ := sr.2 i _ e1
  cases s2 with
  | @ref _ a ea =>
  obtain ⟨vs, f1, f2, f3⟩ := hr.obj n a _ ea e2
  refine ⟨a, vs, f1, fun o => ?_⟩
  obtain ⟨b1, b2, b3⟩ := hr.put (o := .dtz o kvs) ea (samex_upd (H := H) (.frz o (.dT vs))) fun ht => ⟨vs, upd_same, f2, f3.mono ht fun _ _ e => e⟩
  refine ⟨ι, ps, h.set n (.dtz o kvs), sr.go hr b2, b1, m.mono (fun l h' q1 ι' b H' g' r' nb ob => ?_) (q o)⟩
  obtain ⟨q2, q3⟩ := q1
  have en' : ι'[n]? = some a := g'.at ea
  obtain ⟨vs', k1, k2, k3⟩ := r'.obj n a _ en' q2
  refine ⟨vs', k1, ?_⟩
  obtain ⟨c1, c2, c3⟩ := r'.put (o := .dt kvs) en' (samex_upd (H := H') (.dT vs')) fun ht => ⟨vs', upd_same, k2, k3.mono ht fun _ _ e => e⟩
  have hb : H b = none := by
    by_cases z : b = a
    · subst z; rw [upd_same] at nb; cases nb
    · rw [upd_ne z] at nb; exact nb
  exact q3 ι' b _ ((b2.trans g').trans c2) c1 hb (ob.go r' c2)
def kKeys (R : Src → PH → Prop) : QV := fun x h1 => match x with
  | .ref n => ∃ o kvs, h1[n]? = some (.dtz o kvs) ∧ R ⟨kvs.map fun kv => .tup (kv.1.map kP), fun h' => h'[n]? = some (.dtz o kvs), false⟩ h1
  | _ => False
def mKeys (m : ME) : MI := ⟨fun ps h R => m.run ps h (kKeys R), fun f q => m.mono (fun x h1 q => by
  revert q
  unfold kKeys
  split
  · exact fun ⟨o, kvs, a, q⟩ => ⟨o, kvs, a, f _ _ q⟩
  · exact fun z => z) q⟩
theorem qi_keys {tg : Expr} (K : PySem.W.Frag) {m : ME} (h : PE X e (lE K m)) : PI X tg e (lI K (mKeys m)) := PI.imp (pi_dictZ h) fun σ H R ⟨ι, ps, h, sr, hr, q⟩ => by
  refine ⟨ι, ps, h, sr, hr, m.mono (fun x h1 q1 ι1 u1 H1 g1 r1 v1 => ?_) q⟩
  revert q1
  unfold kKeys
  split
  · rintro ⟨o, kvs, hd, q1⟩
    cases v1 with
    | @ref n a ea =>
    obtain ⟨vs, f1, f2, f3⟩ := r1.obj _ a _ ea hd
    refine ⟨a, o, vs, rfl, f1, q1 ι1 _ H1 g1 r1 fun ι2 H2 h2 g2 r2 ok => ?_⟩
    obtain ⟨ws, k1, k2, k3⟩ := r2.obj _ a _ (g2.at ea) ok
    have hl : ws.length = kvs.length := by have := congrArg List.length k2; simpa using this
    refine ⟨fun i p hp => ?_, ws, k1, by show ws.length ≤ (kvs.map _).length; rw [List.length_map]; omega⟩
    have hp' : (kvs.map fun kv => PV.tup (kv.1.map kP))[i]? = some p := hp
    rw [List.getElem?_map] at hp'
    cases ek : kvs[i]? with
    | none => rw [ek] at hp'; cases hp'
    | some kv =>
      rw [ek] at hp'
      have ep : PV.tup (kv.1.map kP) = p := Option.some.inj hp'
      subst ep
      have hi : i < kvs.length := (List.getElem?_eq_some_iff.mp ek).1
      refine ⟨⟨ws, k1, by omega⟩, fun x H3 y => ?_⟩
      obtain ⟨rfl, y⟩ := y
      obtain ⟨b, k, v, rfl, y1, y2⟩ := y ws k1
      have e1 : (ws.map (·.1))[i]? = some k := by rw [List.getElem?_map, y1]; rfl
      rw [k2, List.getElem?_map, ek] at e1
      have e2 : kv.1 = k := Option.some.inj e1
      subst e2
      exact ⟨Same.refl _, .tup y2 (kP_vr _ _ _)⟩
  · exact False.elim
end
section
variable {X : Cx} {e o i : Expr} {pos p : Pos} {m ma mb : ME} {l : ML} {ql : MQL}
theorem j_dictT (hK : X.K = K) (hc : X.calm = true) (hu : X.A.units + 200 < cLine) (hg : Gl X "dict") (hm : X.mg "dict" = none) (ha : JQL X K e ql) (he : starEach [e] X.env = (false, eval e X.env) :: starEach [] X.env := by rfl) (hpl : (backTo pos (starEach [] X.env)).any (·.1) = false := by rfl) : JE X K (.Call (.Name "dict" p) [e] [] pos) (mDictT ql) := ⟨q_dictT K hK hc hu hg hm ha.p he hpl⟩
theorem j_dget (hu : X.A.units + 200 < cLine) (ho : JE X K o ma) (hi : JE X K i mb) (hs : NoSl i) : JE X K (.Subscript o i pos) (mDGet ma mb) := ⟨q_dget K hu ho.p hi.p hs⟩
theorem jl_fz {n : Nat} (h : JL X K e l) : JL X K e (mFzL n l) := ⟨q_fzL K h.p⟩
theorem ji_keys {tg : Expr} (h : JE X K e m) : JI X K tg e (mKeys m) := ⟨qi_keys K h.p⟩
end
section
variable {ps : PSt} {h : PH} {Q : QV} {QL : List PV → PH → Prop} {QR : Src → PH → Prop} {m ma mb : ME} {l : ML} {ql : MQL} {n i : Nat}
theorem r_dictT (q : ql.run ps h fun S h1 => ∃ kvs : List (List Key × PV), S.items = kvs.map pairP ∧ (kvs.map (·.1)).Nodup ∧ kvs.length ≤ 1000 ∧ Q (.ref h1.length) (h1 ++ [.dt kvs])) : (mDictT ql).run ps h Q := q
theorem r_dget (q : ma.run ps h fun x h1 => mb.run ps h1 (kDGet x Q)) : (mDGet ma mb).run ps h Q := q
theorem r_kDGetT {k : List Key} {kvs : List (List Key × PV)} {v : PV} (d : dtAt h n kvs) (e : valP kvs k = some v) (q : Q v h) : kDGet (.ref n) Q (.tup (k.map kP)) h := ⟨k, kvs, v, rfl, d, e, q⟩
theorem r_fzL {kvs : List (List Key × PV)} (e : ps[i]? = some (some (.ref n))) (d : h[n]? = some (.dt kvs)) (q : ∀ o, l.run ps (h.set n (.dtz o kvs)) fun xs h' => h'[n]? = some (.dtz o kvs) ∧ QL xs (h'.set n (.dt kvs))) : (mFzL i l).run ps h QL := ⟨n, kvs, e, d, q⟩
theorem r_keys (q : m.run ps h (kKeys QR)) : (mKeys m).run ps h QR := q
theorem r_kKeys {o : Obj} {kvs : List (List Key × PV)} (d : h[n]? = some (.dtz o kvs)) (q : QR ⟨kvs.map fun kv => .tup (kv.1.map kP), fun h' => h'[n]? = some (.dtz o kvs), false⟩ h) : kKeys QR (.ref n) h := ⟨o, kvs, d, q⟩
end
end PL
set_option Elab.async false
set_option linter.all false
set_option maxRecDepth 100000
namespace PL
open PySem PySem.Spec PyProof.Rows L2
variable {K : PySem.W.Frag}
section
variable {X : Cx} {e : Expr} {pos p2 : Pos} {ql : MQL}
theorem lE_neN (hK : X.K = K) {m : MQL} : ∀ σ H Q, lE K (mNeN m) σ H Q → tOp (fun x y H Q => ∃ p q xs, x = .ref p ∧ y = .ref q ∧ SqL X.K H p xs ∧ SqL X.K H q [] ∧ Q (.bl (!xs.isEmpty)) H) (lQL K m) (lL K (mLst mNil)) σ H Q := by
  subst hK
  rintro σ H Q ⟨ι, ps, h, sr, hr, q⟩
  refine ⟨ι, ps, h, sr, hr, m.mono (fun S h1 q1 ι1 u1 H1 g1 r1 v1 ok => ⟨ι1, ps, h1, sr.go hr g1, r1, Nat.zero_le _, fun ι2 a2 H2 g2 r2 n2 o2 => ?_⟩) q⟩
  obtain ⟨_, ws, e1, e2⟩ := o2
  cases e2
  obtain ⟨a, rfl, hs⟩ := v1
  obtain ⟨vs, ⟨e3, _⟩, e4⟩ := hs ι2 H2 h1 g2 r2 ok
  refine ⟨a, a2, vs, rfl, rfl, e3, SqL.of e1, ?_⟩
  rw [empty_of e4]
  exact q1 ι2 _ H2 (g1.trans g2) r2 (.bl _)
theorem jt_neN (hK : X.K = K) (hu : X.A.units + 200 < cLine) (he : JQL X K e ql) (hk : behindInMarks .NotEq (.List [] p2) = false := by rfl) : JT X K (.Compare e [.NotEq] [.List [] p2] pos) (mB (mNeN ql)) :=
  ⟨PT.imp (pt_cmpR (op_ne_nil (by omega)) he.p (q_lst (K := K) qa_nil) hk) fun σ H Q q => lE_neN hK σ H _ (lT_B σ H Q q)⟩
end
end PL
set_option Elab.async false
set_option linter.all false
set_option maxRecDepth 100000
set_option maxHeartbeats 1000000
namespace My
open PySem PySem.Spec PyProof.Rows L2 PL
def b_parts_of : MS :=
  (mSeq (mAsg (mAlloc (mLst mNil)) (gSet 1))
  (mSeq (mAsg (mAlloc (mLst (mCons (mVar 0) mNil))) (gSet 2))
  (mSeq (mWhile (mTru (mVar 2)) (mSeq (mAsg (mLM mmPop (mVar 2) mNil) (gSet 3))
  (mSeq (mDrop (mLM mmAppend (mVar 1) (mCons (mVar 3) mNil)))
  (mIfS (mNotT (mTru (mIsi .str (mVar 3)))) (mDrop (mLMQ mmExtend (mVar 2) (mSq (mVar 3)))) mNext))))
  (mRet (mAlloc (mRevL (mSqL (mVar 1))))))))
def b_nodes (F_parts_of : MFL) : MS :=
  (mSeq (mAsg (mAlloc (mLst mNil)) (gSet 1))
  (mSeq (mAsg (mAlloc (mLst mNil)) (gSet 2))
  (mSeq (mFor (mWalk (mOwn (mCallL F_parts_of (mCons (mVar 0) mNil)))) (gSet 3) (mSeq (mIfS (mTru (mIsi .str (mVar 3))) (mDrop (mLM mmAppend (mVar 1) (mCons (mVar 3) mNil))) (mSeq (mAsg (mLM mmPop (mVar 2) mNil) (gSet 4))
  (mSeq (mAsg (mLM mmPop (mVar 2) mNil) (gSet 5))
  (mDrop (mLM mmAppend (mVar 1) (mCons (mTup (mCons (mVar 5) (mCons (mVar 4) mNil))) mNil))))))
  (mDrop (mLM mmAppend (mVar 2) (mCons (mOp oSub (mBi bLen (mCons (mVar 1) mNil)) (mC (.int 1))) mNil)))))
  (mRet (mBiQ bTup (mSq (mVar 1)))))))
def b_halves : MS :=
  (mRet (mIf (mTru (mIsi .str (mVar 0))) (mTup mNil) (mVar 0)))
def b_ahead_of (F_nodes : MF) (F_halves : MF) : MS :=
  (mSeq (mAsg (mCall F_nodes (mCons (mVar 0) mNil)) (gSet 1))
  (mSeq (mAsg (mAlloc (mLc [none] (mWalk (mSq (mVar 1))) (gSet 0) mAll (mC .non))) (gSet 3))
  (mSeq (mFor (mEnum (mSq (mVar 1))) (gTupM 2 (gsCons (gSet 4) (gsCons (gSet 2) gsNil))) (mFor (mWalk (mSq (mCall F_halves (mCons (mVar 2) mNil)))) (gSet 5) (mAsg (mVar 4) (gSubM (mVar 3) (mVar 5) sList))))
  (mRet (mBiQ bTup (mSq (mVar 3)))))))
def b_name_of : MS :=
  (mRet (mIf (mTru (mIsi .str (mIx (mSq (mVar 0)) (mVar 1)))) (mIx (mSq (mVar 0)) (mVar 1)) (mVar 1)))
def b__law_pot : MS :=
  (mSeq (mAsg (mC (.int 0)) (gSet 2))
  (mSeq (mIfS (mB (mOp oLt (mVar 1) (mBi bLen (mCons (mVar 0) mNil)))) (mAsg (mBi bAbs (mCons (mIx (mSq (mVar 0)) (mVar 1)) mNil)) (gSet 2)) mNext)
  (mSeq (mAsg (mOp oMul (mOp oMod (mVar 2) (mOp oMul (mOp oPow (mC (.int 10)) (mC (.int 60))) (mOp oPow (mC (.int 10)) (mC (.int 60))))) (mBi bInt (mCons (mOp oGe (mVar 2) (mOp oPow (mC (.int 10)) (mC (.int 18)))) mNil))) (gSet 3))
  (mRet (mAlloc (mLst (mCons (mVar 3) (mCons (mOp oMod (mOp oAdd (mOp oAdd (mVar 2) (mOp oMul (mC (.int 104729)) (mVar 1))) (mC (.int 7))) (mC (.int 2305843009213693951))) (mCons (mC (.int 0)) mNil)))))))))
def b__law_take : MS :=
  (mSeq (mIfS (mB (mOp oGt (mIx (mSq (mVar 0)) (mC (.int 0))) (mC (.int 0)))) (mSeq (mAsg (mOp oMod (mIx (mSq (mVar 0)) (mC (.int 0))) (mVar 1)) (gSet 2))
  (mSeq (mAsg (mOp oDiv (mIx (mSq (mVar 0)) (mC (.int 0))) (mVar 1)) (gSubM (mVar 0) (mC (.int 0)) sList))
  (mRet (mVar 2)))) mNext)
  (mSeq (mAugS (mVar 0) (mC (.int 2)) (mC (.int 1)) ipAdd)
  (mSeq (mAsg (mOp oMod (mOp oAdd (mOp oAdd (mOp oMul (mIx (mSq (mVar 0)) (mC (.int 1))) (mC (.int 69069))) (mOp oMul (mC (.int 9973)) (mIx (mSq (mVar 0)) (mC (.int 2))))) (mC (.int 5))) (mC (.int 2305843009213693921))) (gSet 3))
  (mSeq (mAsg (mOp oMod (mOp oMul (mVar 3) (mOp oAdd (mOp oAdd (mOp oMod (mVar 3) (mC (.int 999983))) (mOp oMul (mC (.int 2)) (mIx (mSq (mVar 0)) (mC (.int 2))))) (mC (.int 3)))) (mC (.int 2305843009213693907))) (gSubM (mVar 0) (mC (.int 1)) sList))
  (mRet (mOp oMod (mOp oDiv (mIx (mSq (mVar 0)) (mC (.int 1))) (mC (.int 65537))) (mVar 1)))))))
def b__law_words (F__law_take : MF) : MS :=
  (mSeq (mAsg (mC (.str "abcdefghijklmnopqrstuvwxyz")) (gSet 2))
  (mSeq (mAsg (mCall F__law_take (mCons (mVar 0) (mCons (mC (.int 26)) mNil))) (gSet 3))
  (mSeq (mAsg (mIx (mOwn (mLst (mCons (mC (.int 1)) (mCons (mC (.int 3)) (mCons (mC (.int 5)) (mCons (mC (.int 7)) (mCons (mC (.int 9)) (mCons (mC (.int 11)) mNil)))))))) (mCall F__law_take (mCons (mVar 0) (mCons (mC (.int 6)) mNil)))) (gSet 4))
  (mSeq (mAsg (mIx (mOwn (mLst (mCons (mC (.str "")) (mCons (mC (.str "k")) mNil)))) (mCall F__law_take (mCons (mVar 0) (mCons (mC (.int 2)) mNil)))) (gSet 5))
  (mSeq (mAsg (mAlloc (mLst (mCons (mC (.str "")) (mCons (mC (.str "q")) (mCons (mC (.str "zz")) (mCons (mC (.str "abcdef")) mNil)))))) (gSet 6))
  (mSeq (mAsg (mAlloc (mLst mNil)) (gSet 7))
  (mSeq (mFor (mRange1 (mCons (mVar 1) mNil)) (gSet 8) (mSeq (mAsg (mOp oIxS (mVar 2) (mOp oMod (mOp oAdd (mVar 3) (mOp oMul (mVar 4) (mVar 8))) (mC (.int 26)))) (gSet 9))
  (mDrop (mLM mmAppend (mVar 7) (mCons (mOp oAdd (mOp oAdd (mVar 5) (mVar 9)) (mIx (mSq (mVar 6)) (mOp oMod (mOp oAdd (mVar 3) (mVar 8)) (mC (.int 4))))) mNil)))))
  (mRet (mVar 7)))))))))
def b__law_same (F__law_same : MF) : MS :=
  (mSeq (mIfS (mTru (mIsi .tup (mVar 1))) (mSeq (mIfS (mOrT (mNotT (mTru (mIsi .tup (mVar 0)))) (mB (mOp oNe (mBi bLen (mCons (mVar 0) mNil)) (mBi bLen (mCons (mVar 1) mNil))))) (mRet (mC (.bl false))) mNext)
  (mRet (mAllB (mLc [none, none] (mZip (mVar 0) (mVar 1)) (gTupM 2 (gsCons (gSet 0) (gsCons (gSet 1) gsNil))) mAll (mCall F__law_same (mCons (mVar 0) (mCons (mVar 1) mNil))))))) mNext)
  (mSeq (mIfS (mOrT (mTru (mIsi .str (mVar 1))) (mB (mOp oIsN (mVar 1) (mC .non)))) (mRet (mAndV (mOp oEq (mIsi .str (mVar 0)) (mIsi .str (mVar 1))) (mOp oEq (mVar 0) (mVar 1)))) mNext)
  (mRet (mAndV (mIsi .int (mVar 0)) (mAndV (mNotV (mIsi .bool (mVar 0))) (mOp oEq (mVar 0) (mVar 1)))))))
def b__law_first_comb : MS :=
  (mSeq (mAsg (mIx (mSq (mVar 0)) (mC (.int 0))) (gSet 1))
  (mSeq (mFor (mWalk (mOwn (mSlL (mSqL (mVar 0)) (moSome (mC (.int 1))) moNone))) (gSet 2) (mAsg (mTup (mCons (mVar 1) (mCons (mVar 2) mNil))) (gSet 1)))
  (mRet (mVar 1))))
end My
set_option Elab.async false
set_option linter.all false
set_option maxRecDepth 100000
set_option maxHeartbeats 1000000
namespace My
open PySem PySem.Spec PyProof.Rows L2 PL
def b_split_dates : MS :=
  (mRet (mAlloc (mLc [none, none] (mZip (mVar 0) (mVar 1)) (gTupM 2 (gsCons (gSet 0) (gsCons (gSet 1) gsNil))) (mNotT (mTru (mIsi .str (mVar 0)))) (mVar 1))))
def b_standing (F_ahead_of : MF) : MS :=
  (mSeq (mAsg (mCall F_ahead_of (mCons (mVar 0) mNil)) (gSet 3))
  (mSeq (mAsg (mAlloc (mLst mNil)) (gSet 4))
  (mSeq (mFor (mEnum (mSq (mVar 2))) (gTupM 2 (gsCons (gSet 5) (gsCons (gSet 6) gsNil))) (mFor (mEnum (mSq (mVar 1))) (gTupM 2 (gsCons (gSet 7) (gsCons (gSet 8) gsNil))) (mIfS (mAndT (mB (mOp oLe (mVar 8) (mVar 6))) (mOrT (mB (mOp oIsN (mIx (mSq (mVar 3)) (mVar 7)) (mC .non))) (mB (mOp oLt (mVar 6) (mIx (mSq (mVar 1)) (mIx (mSq (mVar 3)) (mVar 7))))))) (mDrop (mLM mmAppend (mVar 4) (mCons (mTup (mCons (mVar 7) (mCons (mVar 5) mNil))) mNil))) mNext)))
  (mRet (mVar 4)))))
def b_stay_of (F_halves : MF) (F_name_of : MF) : MS :=
  (mSeq (mAsg (mIx (mSq (mVar 4)) (mC (.int 0))) (gSet 5))
  (mSeq (mAsg (mIx (mSq (mVar 4)) (mC (.int 1))) (gSet 6))
  (mSeq (mAsg (mOp oLt (mIx (mSq (mVar 1)) (mVar 5)) (mIx (mSq (mVar 2)) (mVar 6))) (gSet 7))
  (mSeq (mAsg (mIf (mTru (mVar 7)) (mTup (mCons (mVar 5) mNil)) (mCall F_halves (mCons (mIx (mSq (mVar 0)) (mVar 5)) mNil))) (gSet 8))
  (mSeq (mAsg (mBiQ bTup (mOwn (mLc [none, some 6, some 3] (mWalk (mSq (mVar 8))) (gSet 0) mAll (mDGet (mVar 2) (mTup (mCons (mVar 0) (mCons (mOp oSub (mVar 1) (mC (.int 1))) mNil))))))) (gSet 9))
  (mSeq (mAsg (mBiQ bTup (mOwn (mFzL 3 (mLc [none, some 5, some 6, some 3] (mKeys (mVar 3)) (gSet 0) (mAndT (mB (mOp oEq (mIx (mSq (mVar 0)) (mC (.int 1))) (mVar 2))) (mB (mOp oNe (mIx (mSq (mVar 0)) (mC (.int 0))) (mVar 1)))) (mDGet (mVar 3) (mVar 0)))))) (gSet 10))
  (mRet (mTup (mCons (mCall F_name_of (mCons (mVar 0) (mCons (mVar 5) mNil))) (mCons (mVar 6) (mCons (mVar 9) (mCons (mVar 10) mNil))))))))))))
def b_dated (F_nodes : MF) (F_split_dates : MFL) (F_standing : MFL) (F_stay_of : MF) : MS :=
  (mSeq (mAsg (mCall F_nodes (mCons (mVar 0) mNil)) (gSet 2))
  (mSeq (mAsg (mAlloc (mCatL (mOwnL (mLst (mCons (mC (.int 0)) mNil))) (mOwnL (mSortI (mOwnL (mCallL F_split_dates (mCons (mVar 2) (mCons (mVar 1) mNil)))))))) (gSet 3))
  (mSeq (mAsg (mAlloc (mCallL F_standing (mCons (mVar 0) (mCons (mVar 1) (mCons (mVar 3) mNil))))) (gSet 4))
  (mSeq (mAsg (mDictT (mOwnL (mLc [none, none] (mEnum (mSq (mVar 4))) (gTupM 2 (gsCons (gSet 0) (gsCons (gSet 1) gsNil))) mAll (mTup (mCons (mVar 1) (mCons (mVar 0) mNil)))))) (gSet 5))
  (mRet (mBiQ bTup (mOwn (mLc [none, some 3, some 1, some 2, some 5] (mWalk (mSq (mVar 4))) (gSet 0) mAll (mCall F_stay_of (mCons (mVar 3) (mCons (mVar 2) (mCons (mVar 1) (mCons (mVar 4) (mCons (mVar 0) mNil))))))))))))))
def b__law_pick (F__law_take : MF) : MS :=
  (mRet (mIx (mSq (mVar 1)) (mCall F__law_take (mCons (mVar 0) (mCons (mBi bLen (mCons (mVar 1) mNil)) mNil)))))
def b__law_nodes (F__law_nodes : MFL) : MS :=
  (mSeq (mIfS (mTru (mIsi .str (mVar 0))) (mRet (mAlloc (mLst (mCons (mVar 0) mNil)))) mNext)
  (mSeq (mAsg (mAlloc (mCallL F__law_nodes (mCons (mIx (mSq (mVar 0)) (mC (.int 0))) mNil))) (gSet 1))
  (mSeq (mAsg (mBi bLen (mCons (mVar 1) mNil)) (gSet 2))
  (mSeq (mFor (mWalk (mOwn (mCallL F__law_nodes (mCons (mIx (mSq (mVar 0)) (mC (.int 1))) mNil)))) (gSet 3) (mDrop (mLM mmAppend (mVar 1) (mCons (mIf (mTru (mIsi .str (mVar 3))) (mVar 3) (mTup (mCons (mOp oAdd (mIx (mSq (mVar 3)) (mC (.int 0))) (mVar 2)) (mCons (mOp oAdd (mIx (mSq (mVar 3)) (mC (.int 1))) (mVar 2)) mNil)))) mNil))))
  (mRet (mAlloc (mCatL (mSqL (mVar 1)) (mOwnL (mLst (mCons (mTup (mCons (mOp oSub (mVar 2) (mC (.int 1))) (mCons (mOp oSub (mBi bLen (mCons (mVar 1) mNil)) (mC (.int 1))) mNil))) mNil))))))))))
def b__law_dates (F__law_pick : MF) (F__law_take : MF) : MS :=
  (mSeq (mAsg (mAlloc (mRepL (mLst (mCons (mC (.int 0)) mNil)) (mBi bLen (mCons (mVar 1) mNil)))) (gSet 2))
  (mSeq (mAsg (mAlloc (mLc [none, none] (mEnum (mSq (mVar 1))) (gTupM 2 (gsCons (gSet 0) (gsCons (gSet 1) gsNil))) (mNotT (mTru (mIsi .str (mVar 1)))) (mVar 0))) (gSet 4))
  (mSeq (mAsg (mC (.int 0)) (gSet 5))
  (mSeq (mWhile (mB (mNeN (mSqL (mVar 4)))) (mSeq (mAsg (mAlloc (mLc [none, some 4, some 1] (mWalk (mSq (mVar 4))) (gSet 0) (mAndT (mB (mOpQ oNotIn (mIx (mSq (mIx (mSq (mVar 2)) (mVar 0))) (mC (.int 0))) (mSq (mVar 1)))) (mB (mOpQ oNotIn (mIx (mSq (mIx (mSq (mVar 2)) (mVar 0))) (mC (.int 1))) (mSq (mVar 1))))) (mVar 0))) (gSet 6))
  (mSeq (mAsg (mCall F__law_pick (mCons (mVar 0) (mCons (mVar 6) mNil))) (gSet 3))
  (mSeq (mAsg (mOp oAdd (mOp oAdd (mVar 5) (mC (.int 1))) (mCall F__law_take (mCons (mVar 0) (mCons (mIx (mOwn (mLst (mCons (mC (.int 1)) (mCons (mC (.int 3)) (mCons (mC (.int 13)) mNil))))) (mCall F__law_take (mCons (mVar 0) (mCons (mC (.int 3)) mNil)))) mNil)))) (gSet 5))
  (mSeq (mAsg (mVar 5) (gSubM (mVar 2) (mVar 3) sList))
  (mDrop (mLM mmRemove (mVar 4) (mCons (mVar 3) mNil))))))))
  (mRet (mBiQ bTup (mSq (mVar 2))))))))
def b__law_comb : MS :=
  (mSeq (mAsg (mIx (mSq (mVar 0)) (mC (.int 0))) (gSet 1))
  (mSeq (mFor (mWalk (mOwn (mSlL (mSqL (mVar 0)) (moSome (mC (.int 1))) moNone))) (gSet 2) (mAsg (mTup (mCons (mVar 1) (mCons (mVar 2) mNil))) (gSet 1)))
  (mRet (mVar 1))))
def b__law_stays : MS :=
  (mSeq (mAsg (mBi bLen (mCons (mVar 0) mNil)) (gSet 1))
  (mSeq (mAsg (mAlloc (mLst mNil)) (gSet 2))
  (mSeq (mAsg (mTup (mCons (mC (.int 0)) (mCons (mC (.int 0)) mNil))) (gTupM 2 (gsCons (gSet 3) (gsCons (gSet 4) gsNil))))
  (mSeq (mFor (mRange1 (mCons (mVar 1) mNil)) (gSet 5) (mSeq (mAsg (mAlloc (mListR2 (mCons (mVar 3) (mCons (mOp oSub (mOp oAdd (mVar 3) (mVar 1)) (mVar 5)) mNil)))) (gSet 6))
  (mSeq (mFor (mWalk (mSq (mVar 6))) (gSet 7) (mSeq (mAsg (mBiQ bTup (mOwn (mLc [none, some 7] (mWalk (mSq (mVar 6))) (gSet 0) (mB (mOp oNe (mVar 0) (mVar 1))) (mVar 0)))) (gSet 8))
  (mSeq (mAsg (mIx (mSq (mVar 0)) (mOp oSub (mOp oAdd (mVar 5) (mVar 7)) (mVar 3))) (gSet 9))
  (mSeq (mAsg (mTup (mCons (mOp oSub (mOp oAdd (mOp oAdd (mVar 4) (mC (.int 1))) (mVar 7)) (mVar 3)) mNil)) (gSet 10))
  (mSeq (mIfS (mAndT (mB (mOp oEq (mVar 7) (mVar 3))) (mB (mOp oGt (mVar 5) (mC (.int 0))))) (mSeq (mAsg (mOp oMul (mC (.int 2)) (mVar 5)) (gSet 9))
  (mAsg (mTup (mCons (mVar 4) (mCons (mOp oAdd (mVar 4) (mC (.int 1))) mNil))) (gSet 10))) mNext)
  (mSeq (mIfS (mB (mOp oEq (mVar 5) (mC (.int 0)))) (mAsg (mTup mNil) (gSet 10)) mNext)
  (mDrop (mLM mmAppend (mVar 2) (mCons (mTup (mCons (mVar 9) (mCons (mVar 5) (mCons (mVar 10) (mCons (mVar 8) mNil))))) mNil)))))))))
  (mSeq (mAsg (mVar 3) (gSet 4))
  (mAsg (mOp oSub (mOp oAdd (mVar 3) (mVar 1)) (mVar 5)) (gSet 3))))))
  (mRet (mBiQ bTup (mSq (mVar 2))))))))
def b_law_2 (F__law_pot : MF) (F__law_words : MFL) (F__law_take : MF) (F__law_comb : MF) (F__law_same : MF) (F__law_stays : MF) (F_dated : MF) (F__law_dates : MF) (F__law_nodes : MFL) : MS :=
  (mSeq (mFor (mRange1 (mCons (mBi bMax (mCons (mC (.int 1)) (mCons (mBi bMin (mCons (mBi bLen (mCons (mVar 0) mNil)) (mCons (mC (.int 8)) mNil))) mNil))) mNil)) (gSet 1) (mSeq (mAsg (mCall F__law_pot (mCons (mVar 0) (mCons (mVar 1) mNil))) (gSet 2))
  (mSeq (mAsg (mAlloc (mCallL F__law_words (mCons (mVar 2) (mCons (mOp oAdd (mC (.int 1)) (mCall F__law_take (mCons (mVar 2) (mCons (mC (.int 8)) mNil)))) mNil)))) (gSet 3))
  (mSeq (mAsg (mCall F__law_comb (mCons (mVar 3) mNil)) (gSet 4))
  (mIfS (mNotT (mTru (mCall F__law_same (mCons (mCall F_dated (mCons (mVar 4) (mCons (mCall F__law_dates (mCons (mVar 2) (mCons (mAlloc (mCallL F__law_nodes (mCons (mVar 4) mNil))) mNil))) mNil))) (mCons (mCall F__law_stays (mCons (mVar 3) mNil)) mNil))))) (mRet (mC (.bl false))) mNext)))))
  (mRet (mC (.bl true))))
end My
set_option Elab.async false
set_option linter.all false
set_option maxRecDepth 100000
namespace My
open PySem PySem.Spec PyProof.Rows L2 PL
local macro_rules | `(tactic| mod_arm) => `(tactic| ((try dsimp only [List.set_cons_succ, List.set_cons_zero]); first
  | with_reducible refine r_seq ?_
  | with_reducible refine r_asg ?_
  | with_reducible refine r_gset ?_
  | ((with_reducible refine r_var (v := ?rdV) ?rdE ?_); case rdE => exact rfl)
  | with_reducible refine r_c ?_
  | with_reducible refine r_op ?_
  | with_reducible refine r_addI ?_
  | with_reducible refine r_sub ?_
  | ((with_reducible refine r_mul ?rdC ?_); (case rdC => first | exact mul_l (by omega) (by omega) | exact mul_r (by omega) (by omega)))
  | ((with_reducible refine r_div ?rdC ?_); (case rdC => exact ⟨by omega, by omega⟩))
  | ((with_reducible refine r_mod ?rdC ?_); (case rdC => first | omega | decide))
  | ((with_reducible refine r_pow ?rdC ?_); (case rdC => exact ⟨by decide, by decide, by decide⟩))
  | with_reducible refine r_lt ?_
  | with_reducible refine r_le ?_
  | with_reducible refine r_gt ?_
  | with_reducible refine r_ge ?_
  | with_reducible refine r_eqIs ?_
  | with_reducible refine r_eqSs ?_
  | with_reducible refine r_eqBs ?_
  | with_reducible refine r_neIs ?_
  | with_reducible refine r_neSs ?_
  | with_reducible refine r_eqI ?_
  | with_reducible refine r_neI ?_
  | with_reducible refine r_eqS ?_
  | with_reducible refine r_neS ?_
  | with_reducible refine r_eqB ?_
  | with_reducible refine r_neB ?_
  | with_reducible refine r_eqN ?_
  | with_reducible refine r_isN_S ?_
  | with_reducible refine r_isN_T ?_
  | with_reducible refine r_isN_I ?_
  | with_reducible refine r_isN_B ?_
  | with_reducible refine r_isN_N ?_
  | with_reducible refine r_notN_S ?_
  | with_reducible refine r_notN_T ?_
  | with_reducible refine r_notN_I ?_
  | with_reducible refine r_notN_B ?_
  | with_reducible refine r_notN_N ?_
  | with_reducible refine r_isB ?_
  | with_reducible refine r_isNotB ?_
  | with_reducible refine r_B ?_
  | with_reducible refine r_kB ?_
  | with_reducible refine r_andV ?_
  | with_reducible refine r_orV ?_
  | with_reducible refine r_notV ?_
  | with_reducible refine r_kAndT ?_
  | with_reducible refine r_kAndF ?_
  | with_reducible refine r_kOrT ?_
  | with_reducible refine r_kOrF ?_
  | with_reducible refine r_kNotT ?_
  | with_reducible refine r_kNotF ?_
  | with_reducible refine r_kNot ?_
  | with_reducible refine r_andT ?_
  | with_reducible refine r_orT ?_
  | with_reducible refine r_nt ?_
  | with_reducible refine r_kNtT ?_
  | with_reducible refine r_kNtF ?_
  | with_reducible refine r_kNt ?_
  | with_reducible refine r_if ?_
  | with_reducible refine r_ifS ?_
  | with_reducible refine r_tru ?_
  | with_reducible refine r_pTruB ?_
  | with_reducible refine r_nil ?_
  | with_reducible refine r_cons ?_
  | with_reducible refine r_tup ?_
  | with_reducible refine r_lst ?_
  | with_reducible refine r_al ?_
  | with_reducible refine r_kAl1 ?_
  | with_reducible refine r_kAl2 ?_
  | with_reducible refine r_kAl3 ?_
  | with_reducible refine r_kAl4 ?_
  | with_reducible refine r_kAl ?_
  | with_reducible refine r_augS ?_
  | with_reducible refine r_tupR1 ?_
  | with_reducible refine r_listR2 ?_
  | with_reducible refine r_sl3 ?_
  | with_reducible refine r_slset ?_
  | with_reducible refine r_neN ?_
  | with_reducible refine r_eqN' ?_
  | with_reducible refine r_rep ?_
  | with_reducible refine r_sortI ?_
  | with_reducible refine r_dictT ?_
  | with_reducible refine r_dget ?_
  | with_reducible refine r_keys ?_
  | with_reducible refine r_own ?_
  | with_reducible refine r_ownL ?_
  | with_reducible refine r_sq ?_
  | with_reducible refine r_sqL ?_
  | with_reducible refine r_kSqT ?_
  | with_reducible refine r_kSqC ?_
  | with_reducible refine r_kSqLC ?_
  | ((with_reducible refine r_kSqR (l := ?rdL) ?rdE ?_); case rdE => first | assumption | (refine get_app0.trans ?_; exact rfl) | (refine (get_app _).trans ?_; exact rfl) | exact get_old' (by assumption))
  | ((with_reducible refine r_kSqLR (l := ?rdL) ?rdE ?_); case rdE => first | assumption | (refine get_app0.trans ?_; exact rfl) | (refine (get_app _).trans ?_; exact rfl) | exact get_old' (by assumption))
  | with_reducible refine r_ix ?_
  | ((with_reducible refine r_kIx (v := ?rdV) ?rdO ?rdE ?_); (case rdO => first | exact trivial | assumption | (refine get_app0.trans ?_; exact rfl) | (refine (get_app _).trans ?_; exact rfl) | exact get_old' (by assumption)); (case rdE => exact rfl))
  | with_reducible refine r_catL ?_
  | with_reducible refine r_revL ?_
  | with_reducible refine r_slL ?_
  | with_reducible refine r_moN ?_
  | with_reducible refine r_moS ?_
  | with_reducible refine r_kO ?_
  | with_reducible refine r_call ?_
  | with_reducible refine r_callL ?_
  | with_reducible refine r_bi ?_
  | with_reducible refine r_biQ ?_
  | with_reducible refine r_biL ?_
  | with_reducible refine r_lenT ?_
  | with_reducible refine r_lenC ?_
  | ((with_reducible refine r_lenR (l := ?rdL) ?rdE ?_); case rdE => first | assumption | (refine get_app0.trans ?_; exact rfl) | (refine (get_app _).trans ?_; exact rfl) | exact get_old' (by assumption))
  | with_reducible refine r_lenQ ?_
  | with_reducible refine r_abs ?_
  | with_reducible refine r_toIntI ?_
  | with_reducible refine r_toIntB ?_
  | with_reducible refine r_max ?_
  | with_reducible refine r_min ?_
  | with_reducible refine r_toTup ?_
  | with_reducible refine r_toList ?_
  | with_reducible refine r_all ?_
  | with_reducible refine r_any ?_
  | with_reducible refine r_isi ?_
  | with_reducible refine r_kIsi_str_S ?_
  | with_reducible refine r_kIsi_str_T ?_
  | with_reducible refine r_kIsi_str_I ?_
  | with_reducible refine r_kIsi_str_B ?_
  | with_reducible refine r_kIsi_str_N ?_
  | with_reducible refine r_kIsi_tup_S ?_
  | with_reducible refine r_kIsi_tup_T ?_
  | with_reducible refine r_kIsi_tup_I ?_
  | with_reducible refine r_kIsi_tup_B ?_
  | with_reducible refine r_kIsi_tup_N ?_
  | with_reducible refine r_kIsi_int_S ?_
  | with_reducible refine r_kIsi_int_T ?_
  | with_reducible refine r_kIsi_int_I ?_
  | with_reducible refine r_kIsi_int_B ?_
  | with_reducible refine r_kIsi_int_N ?_
  | with_reducible refine r_kIsi_bool_S ?_
  | with_reducible refine r_kIsi_bool_T ?_
  | with_reducible refine r_kIsi_bool_I ?_
  | with_reducible refine r_kIsi_bool_B ?_
  | with_reducible refine r_kIsi_bool_N ?_
  | with_reducible refine r_opQ ?_
  | with_reducible refine r_lm ?_
  | with_reducible refine r_lmQ ?_
  | with_reducible refine r_gsub ?_
  | ((with_reducible refine r_gtup ?rdC ?_); case rdC => exact rfl)
  | with_reducible refine r_gscons ?_
  | with_reducible refine r_gsnil ?_
  | with_reducible refine r_drop ?_
  | with_reducible refine r_ret ?_
  | with_reducible refine r_par ?_
  | ((with_reducible refine r_aug (x := ?rdV) ?rdE ?_); case rdE => exact rfl)
  | with_reducible refine r_ipAdd ?_
  | with_reducible refine r_for ?_
  | with_reducible refine r_lc ?_
  | with_reducible refine r_walk ?_
  | with_reducible refine r_mAll ?_
  | with_reducible refine r_range1 ?_
  | with_reducible refine r_range2 ?_
  | with_reducible refine r_range3 ?_
  | with_reducible refine r_enum ?_
  | with_reducible refine r_zip ?_
  | with_reducible refine r_signs ?_
  | with_reducible refine r_kSg ?_
  | with_reducible refine r_neg ?_
  | with_reducible refine r_kNeg ?_
  | with_reducible refine iteT ?_
  | with_reducible refine iteF ?_
  | with_reducible refine r_next ?_))
local macro_rules | `(tactic| one_item) => `(tactic| repeat (mod_arm))
def PotP (xs : List PV) : Prop := ∃ g s c : Int, xs = [.int g, .int s, .int c] ∧ 0 ≤ g ∧ 0 ≤ s ∧ s < 2305843009213693951 ∧ 0 ≤ c
abbrev pot : PO := .opq potOk
def F_take0 : MF := ⟨fun l h Q => ∃ (p : Nat) (xs : List PV) (m : Int), l = [.ref p, .int m] ∧ h[p]? = some (.lst xs) ∧ PotP xs ∧ 0 < m ∧ m ≤ 1000 ∧ ∀ (d : Int) (ys : List PV), 0 ≤ d → d < m → PotP ys → Q (.int d) (h.set p (.lst ys)),
  fun f ⟨p, xs, m, e, h1, h2, h3, h4, q⟩ => ⟨p, xs, m, e, h1, h2, h3, h4, fun d ys a b c => f _ _ (q d ys a b c)⟩⟩
theorem pot_lim {n : Nat} {xs : List PV} (h : PotP xs) : PO.lim n (.lst xs) = true := by
  obtain ⟨g, s, c, rfl, _⟩ := h
  simp [PO.lim, limL, PV.lim]
theorem R_take (l : List PV) (h : PH) (Q : QV) (hh : limH h.length h) (hl : limL h.length l = true) (q : F_take0.run l h Q) : b__law_take.run (exitD h.length Q) (begin 4 l) h := by
  obtain ⟨p, xs, m, rfl, hp, ⟨g, s, c, rfl, g0, s0, s1, c0⟩, m0, m1, q⟩ := q
  have hpl := lt_get hp
  have fin : ∀ (d : Int) (ys : List PV), 0 ≤ d → d < m → PotP ys → exitV h.length Q (.int d) (h.set p (.lst ys)) := fun d ys d0 d1 hy =>
    exit_same (by simp [PV.lim]) (limH_set hh (pot_lim hy)) (by rw [List.length_set]) (q d ys d0 d1 hy)
  unfold b__law_take
  show MS.run _ _ [some (.ref p), some (.int m), none, none] h
  one_item
  refine ite_bl (fun gp => ?_) (fun gp => ?_)
  · one_item
    refine r_sList hp (j := 0) rfl ?_
    one_item
    exact fin _ _ (Int.emod_nonneg _ (by omega)) (Int.emod_lt_of_pos _ m0) ⟨_, _, _, rfl, Int.ediv_nonneg g0 (by omega), s0, s1, c0⟩
  · one_item
    refine r_oGetL hp (by decide) (by decide) rfl ?_
    one_item
    refine r_sList hp (j := 2) rfl ?_
    have hp2 : (h.set p (.lst [.int g, .int s, .int (c + 1)]))[p]? = some (.lst [.int g, .int s, .int (c + 1)]) := by rw [List.getElem?_set_self hpl]
    generalize hh2 : h.set p (.lst ([PV.int g, .int s, .int c].set 2 (.int (c + 1)))) = h2
    have hp2 : h2[p]? = some (.lst [.int g, .int s, .int (c + 1)]) := by rw [← hh2]; exact hp2
    have e2 : ∀ o, h2.set p o = h.set p o := fun o => by rw [← hh2, List.set_set]
    one_item
    have x0 := Int.emod_nonneg (s * 69069 + 9973 * (c + 1) + 5) (show (2305843009213693921 : Int) ≠ 0 by decide)
    have x1 := Int.emod_lt_of_pos (s * 69069 + 9973 * (c + 1) + 5) (show (0 : Int) < 2305843009213693921 by decide)
    generalize (s * 69069 + 9973 * (c + 1) + 5) % 2305843009213693921 = x at x0 x1 ⊢
    one_item
    have y0 := Int.emod_nonneg (x * (x % 999983 + 2 * (c + 1) + 3)) (show (2305843009213693907 : Int) ≠ 0 by decide)
    have y1 := Int.emod_lt_of_pos (x * (x % 999983 + 2 * (c + 1) + 3)) (show (0 : Int) < 2305843009213693907 by decide)
    generalize x * (x % 999983 + 2 * (c + 1) + 3) % 2305843009213693907 = y at y0 y1 ⊢
    refine r_sList hp2 (j := 1) rfl ?_
    rw [e2]
    have hp3 : (h.set p (.lst ([PV.int g, .int s, .int (c + 1)].set 1 (.int y))))[p]? = some (.lst [.int g, .int y, .int (c + 1)]) := by rw [List.getElem?_set_self hpl]; rfl
    one_item
    exact fin _ _ (Int.emod_nonneg _ (by omega)) (Int.emod_lt_of_pos _ m0) ⟨_, _, _, rfl, g0, y0, by omega, by omega⟩
def F_take : MF := ⟨fun l h Q => ∃ (p : Nat) (m : Int), l = [.ref p, .int m] ∧ h[p]? = some pot ∧ 0 < m ∧ m ≤ 1000 ∧ ∀ d : Int, 0 ≤ d → d < m → Q (.int d) h,
  fun f ⟨p, m, e, h1, h3, h4, q⟩ => ⟨p, m, e, h1, h3, h4, fun d a b => f _ _ (q d a b)⟩⟩
theorem pot_vrs {K : PySem.W.Frag} (ι : List Addr) (H : Hp) (vs : List V) (h : potOk vs) : ∃ xs, VRs K ι H vs xs := by
  obtain ⟨g, s, c, rfl, _⟩ := h
  exact ⟨[.int g, .int s, .int c], .cons (.int _) (.cons (.int _) (.cons (.int _) .nil))⟩
theorem vrs3 {K : PySem.W.Frag} {ι : List Addr} {H : Hp} {vs : List V} {a b c : Int} (h : VRs K ι H vs [.int a, .int b, .int c]) : vs = [.int a, .int b, .int c] := by
  cases h with
  | cons x t => cases t with
    | cons y t => cases t with
      | cons z t => cases t; cases x; cases y; cases z; rfl
theorem vrs3' {K : PySem.W.Frag} {ι : List Addr} {H : Hp} {xs : List PV} {a b c : Int} (h : VRs K ι H [.int a, .int b, .int c] xs) : xs = [.int a, .int b, .int c] := by
  cases h with
  | cons x t => cases t with
    | cons y t => cases t with
      | cons z t => cases t; cases x; cases y; cases z; rfl
theorem take_opq {K : PySem.W.Frag} : ∀ vs H Q E, spOf K F_take vs H Q E → spOf K F_take0 vs H Q E := spOf_opq (φ := potOk) pot_vrs fun l h Q => by
  rintro ⟨p, m, rfl, hp, m0, m1, q⟩
  refine ⟨p, hp, fun ι H vs xs hv hx => ?_⟩
  obtain ⟨g, s, c, rfl, g0, s0, s1, c0⟩ := hv
  have e := vrs3' hx
  subst e
  refine ⟨p, _, m, rfl, by rw [List.getElem?_set_self (lt_get hp)], ⟨g, s, c, rfl, g0, s0, s1, c0⟩, m0, m1, fun d ys d0 d1 hy => ⟨ys, by rw [List.set_set], fun ι H vs hv => ?_, q d d0 d1⟩⟩
  obtain ⟨g', s', c', rfl, a1, a2, a3, a4⟩ := hy
  exact ⟨g', s', c', vrs3 hv, a1, a2, a3, a4⟩
def F_pot0 : MFL := ⟨fun l h Q => ∃ (ns : List Int) (k : Int), l = [.cl (ns.map PV.int), .int k] ∧ ns.length ≤ 63 ∧ 0 ≤ k ∧ k ≤ 1000 ∧ ∀ xs, PotP xs → Q xs h,
  fun f ⟨ns, k, e, h1, h2, h3, q⟩ => ⟨ns, k, e, h1, h2, h3, fun xs a => f _ _ (q xs a)⟩⟩
def F_pot : MF := ⟨fun l h Q => ∃ (ns : List Int) (k : Int), l = [.cl (ns.map PV.int), .int k] ∧ ns.length ≤ 63 ∧ 0 ≤ k ∧ k ≤ 1000 ∧ Q (.ref h.length) (h ++ [pot]),
  fun f ⟨ns, k, e, h1, h2, h3, q⟩ => ⟨ns, k, e, h1, h2, h3, f _ _ q⟩⟩
theorem pot_opq {K : PySem.W.Frag} : ∀ vs H Q E, spOf K F_pot vs H Q E → spL K F_pot0 vs H Q E := spL_opq (φ := potOk) fun l h Q => by
  rintro ⟨ns, k, rfl, h1, h2, h3, q⟩
  refine ⟨ns, k, rfl, h1, h2, h3, fun xs hx => ⟨fun ι H vs hv => ?_, q⟩⟩
  obtain ⟨g', s', c', rfl, a1, a2, a3, a4⟩ := hx
  exact ⟨g', s', c', vrs3 hv, a1, a2, a3, a4⟩
theorem abs_nn (i : Int) : 0 ≤ (if i < 0 then -i else i) := by split <;> omega
theorem R_pot (l : List PV) (h : PH) (Q : List PV → PH → Prop) (hh : limH h.length h) (hl : limL h.length l = true) (q : F_pot0.run l h Q) : b__law_pot.run (exitLD h.length Q) (begin 4 l) h := by
  obtain ⟨ns, k, rfl, h63, k0, k1, q⟩ := q
  unfold b__law_pot
  show MS.run _ _ [some (.cl (ns.map PV.int)), some (.int k), none, none] h
  obtain ⟨rest, hrest⟩ : ∃ r : MS, r = (mSeq (mAsg (mOp oMul (mOp oMod (mVar 2) (mOp oMul (mOp oPow (mC (.int 10)) (mC (.int 60))) (mOp oPow (mC (.int 10)) (mC (.int 60))))) (mBi bInt (mCons (mOp oGe (mVar 2) (mOp oPow (mC (.int 10)) (mC (.int 18)))) mNil))) (gSet 3))
      (mRet (mAlloc (mLst (mCons (mVar 3) (mCons (mOp oMod (mOp oAdd (mOp oAdd (mVar 2) (mOp oMul (mC (.int 104729)) (mVar 1))) (mC (.int 7))) (mC (.int 2305843009213693951))) (mCons (mC (.int 0)) mNil))))))) := ⟨_, rfl⟩
  have fin : ∀ (x : Int) (D : PD), 0 ≤ x → D.rt = exitL h.length Q → rest.run D [some (.cl (ns.map PV.int)), some (.int k), some (.int x), none] h := by
    rw [hrest]
    intro x D x0 hD
    one_item
    refine r_mul (IntMulOk.of_bits (by decide +kernel) (by decide +kernel)) ?_
    refine r_mod (by decide +kernel) ?_
    one_item
    refine ⟨small' (Nat.le_of_ble_eq_true rfl), ?_⟩
    one_item
    rw [hD]
    refine exit_list (k := 0) (g := [_]) rfl (by simp [limL, PV.lim]) hh rfl (q _ ⟨_, _, 0, rfl, Int.mul_nonneg (Int.emod_nonneg _ (by decide +kernel)) ite01, Int.emod_nonneg _ (by decide), Int.emod_lt_of_pos _ (by decide), Int.le_refl _⟩)
  rw [← hrest]
  one_item
  rw [List.length_map]
  refine ite_bl (fun hlt => ?_) (fun hlt => ?_)
  · one_item
    obtain ⟨v, hv, hv2⟩ := atI_lt (xs := ns.map PV.int) k0 (by rw [List.length_map]; exact hlt)
    rw [List.getElem?_map] at hv2
    obtain ⟨c, rfl⟩ : ∃ c, v = .int c := by
      cases z : ns[k.toNat]? with
      | none => rw [z] at hv2; cases hv2
      | some c => rw [z] at hv2; exact ⟨c, (Option.some.inj hv2).symm⟩
    refine r_kIx trivial hv ?_
    one_item
    refine fin _ _ ?_ ?_
    · exact abs_nn _
    · rfl
  · one_item
    refine fin _ _ ?_ ?_
    · exact Int.le_refl _
    · rfl
theorem menuP_step {d : Int} (h0 : 0 ≤ d) (h1 : d < 6) : ∃ st : Int, atI [PV.int 1, PV.int 3, PV.int 5, PV.int 7, PV.int 9, PV.int 11] d = some (.int st) ∧ (st = 1 ∨ st = 3 ∨ st = 5 ∨ st = 7 ∨ st = 9 ∨ st = 11) := by
  have : d = 0 ∨ d = 1 ∨ d = 2 ∨ d = 3 ∨ d = 4 ∨ d = 5 := by omega
  rcases this with rfl | rfl | rfl | rfl | rfl | rfl
  · exact ⟨1, rfl, by decide⟩
  · exact ⟨3, rfl, by decide⟩
  · exact ⟨5, rfl, by decide⟩
  · exact ⟨7, rfl, by decide⟩
  · exact ⟨9, rfl, by decide⟩
  · exact ⟨11, rfl, by decide⟩
theorem menuP_stem {d : Int} (h0 : 0 ≤ d) (h1 : d < 2) : ∃ bg : Str, atI [PV.str "", PV.str "k"] d = some (.str bg) ∧ Part bg 1 := by
  have : d = 0 ∨ d = 1 := by omega
  rcases this with rfl | rfl
  · exact ⟨"", rfl, by decide +kernel, by decide +kernel⟩
  · exact ⟨"k", rfl, by decide +kernel, by decide +kernel⟩
theorem menuP_ends {d : Int} (h0 : 0 ≤ d) (h1 : d < 4) : ∃ bg : Str, atI [PV.str "", PV.str "q", PV.str "zz", PV.str "abcdef"] d = some (.str bg) ∧ Part bg 6 := by
  have : d = 0 ∨ d = 1 ∨ d = 2 ∨ d = 3 := by omega
  rcases this with rfl | rfl | rfl | rfl
  · exact ⟨"", rfl, by decide +kernel, by decide +kernel⟩
  · exact ⟨"q", rfl, by decide +kernel, by decide +kernel⟩
  · exact ⟨"zz", rfl, by decide +kernel, by decide +kernel⟩
  · exact ⟨"abcdef", rfl, by decide +kernel, by decide +kernel⟩
def F_words : MFL := ⟨fun l h Q => ∃ (p : Nat) (m : Int), l = [.ref p, .int m] ∧ h[p]? = some pot ∧ 0 ≤ m ∧ m ≤ 26 ∧ ∀ ws : List Str, ws.length = m.toNat → (∀ x ∈ ws, Wd x) → ws.Nodup → Q (ws.map PV.str) h,
  fun f ⟨p, m, e, h1, h3, h4, q⟩ => ⟨p, m, e, h1, h3, h4, fun d a b c => f _ _ (q d a b c)⟩⟩
theorem limL_strs (n : Nat) (ws : List Str) : limL n (ws.map PV.str) = true := limL_iff.mpr fun x hx => by
  obtain ⟨w, _, rfl⟩ := List.mem_map.mp hx
  simp [PV.lim]
theorem R_words (l : List PV) (h : PH) (Q : List PV → PH → Prop) (hh : limH h.length h) (hl : limL h.length l = true) (q : F_words.run l h Q) : (b__law_words F_take).run (exitLD h.length Q) (begin 10 l) h := by
  obtain ⟨p, m, rfl, hp, m0, m1, q⟩ := q
  unfold b__law_words
  show MS.run _ _ [some (.ref p), some (.int m), none, none, none, none, none, none, none, none] h
  one_item
  refine ⟨p, 26, rfl, hp, by decide, by decide, fun d1 a1 b1 => ?_⟩
  one_item
  refine ⟨small' (Nat.le_of_ble_eq_true rfl), ?_⟩
  one_item
  refine ⟨p, 6, rfl, hp, by decide, by decide, fun d3 a3 b3 => ?_⟩
  obtain ⟨st, hst, kst⟩ := menuP_step a3 b3
  refine r_kIx trivial hst ?_
  one_item
  refine ⟨small' (Nat.le_of_ble_eq_true rfl), ?_⟩
  one_item
  refine ⟨p, 2, rfl, hp, by decide, by decide, fun d5 a5 b5 => ?_⟩
  obtain ⟨bg, hbg, kbg⟩ := menuP_stem a5 b5
  refine r_kIx trivial hbg ?_
  one_item
  refine ⟨small' (Nat.le_of_ble_eq_true rfl), ?_⟩
  one_item
  refine ⟨small' (Nat.le_of_ble_eq_true rfl), ?_⟩
  one_item
  refine r_kR1 ⟨by omega, by omega⟩ ?_
  refine for_inv (fun i ps h' => i ≤ m.toNat ∧ ∃ (vk ve : Option PV) (ws : List Str), ps = [some (.ref p), some (.int m), some (.str "abcdefghijklmnopqrstuvwxyz"), some (.int d1), some (.int st), some (.str bg), some (.ref h.length), some (.ref (h.length + 1)), vk, ve] ∧
      h' = h ++ [.lst [.str "", .str "q", .str "zz", .str "abcdef"], .lst (ws.map PV.str)] ∧ ws.length = i ∧ (∀ x ∈ ws, Wd x) ∧ (ws.map fun x => x.cps[bg.length]?) = (List.range i).map fun k : Nat => some (97 + ((d1 + st * (0 + (k : Int))) % 26).toNat)) (fun _ _ _ _ => trivial) (fun i x ps h' hx => ?_) (fun ps h' => ?_) ⟨Nat.zero_le _, _, _, [], rfl, rfl, rfl, by simp, rfl⟩
  · obtain ⟨hi, rfl⟩ := intsV_get hx
    rintro ⟨_, vk, ve, ws, rfl, rfl, hl, hw, hs⟩
    one_item
    have e0 : 0 ≤ (d1 + st * (0 + (i : Int))) % 26 := Int.emod_nonneg _ (by decide)
    have e1 : (d1 + st * (0 + (i : Int))) % 26 < 26 := Int.emod_lt_of_pos _ (by decide)
    refine r_ixS (by decide +kernel) (letter_at e0 e1) ?_
    one_item
    refine ⟨r_listAtA (n := 1) rfl, ?_⟩
    one_item
    have lb := kbg.1
    obtain ⟨en, hen, ken⟩ := menuP_ends (d := (d1 + (0 + (i : Int))) % 4) (Int.emod_nonneg _ (by decide)) (Int.emod_lt_of_pos _ (by decide))
    have le := ken.1
    refine r_addS (small' (by show bg.length + 1 ≤ 1000; omega)) ?_
    one_item
    refine r_kIx (get_app0.trans rfl) (by exact hen) ?_
    refine r_addS (small' (by rw [Str.length_append]; show bg.length + 1 + en.length ≤ 1000; omega)) ?_
    one_item
    refine r_appendA (n := 1) rfl ?_ ?_
    · rw [List.length_map]; exact small1000 (by omega)
    refine ⟨by omega, _, _, ws ++ [bg ++ ⟨#[97 + ((d1 + st * (0 + (i : Int))) % 26).toNat]⟩ ++ en], rfl, by rw [List.map_append]; rfl, by rw [List.length_append, hl]; rfl, ?_, by rw [List.map_append, hs, List.range_succ, List.map_append, List.map_singleton, List.map_singleton, word_sign]⟩
    intro x hx
    rcases List.mem_append.mp hx with z | z
    · exact hw x z
    · rw [List.mem_singleton.mp z]
      exact word_of9 kbg ken (by omega) (by omega)
  · rintro ⟨_, vk, ve, ws, rfl, rfl, hl, hw, hs⟩
    rw [intsV_len] at hl hs
    one_item
    refine exit_list (k := 1) rfl (limL_strs _ _) hh rfl (q ws hl hw ?_)
    refine nodup_of_map (g := fun x : Str => x.cps[bg.length]?) ?_
    rw [hs]
    exact letters_nodup kst (by omega)
def F_same : Nat → MF
  | 0 => ⟨fun _ _ _ => False, fun _ q => q⟩
  | n + 1 => ⟨fun l h Q => ∃ x : PV, l = [x, x] ∧ x.pl = true ∧ x.wid 1000 = true ∧ x.dep ≤ n ∧ Q (.bl true) h, fun f ⟨x, e, h1, h2, h3, q⟩ => ⟨x, e, h1, h2, h3, f _ _ q⟩⟩
theorem zip_self : ∀ {l : List PV} {p : PV}, p ∈ zipV l l → ∃ x ∈ l, p = .tup [x, x]
  | [], p, h => by simp [zipV] at h
  | y :: l, p, h => by
    rw [zipV] at h
    rcases List.mem_cons.mp h with rfl | h
    · exact ⟨y, List.mem_cons_self, rfl⟩
    · obtain ⟨x, h1, h2⟩ := zip_self h
      exact ⟨x, List.mem_cons_of_mem _ h1, h2⟩
theorem all_true (l : List PV) : l.filterMap (fun _ => some (PV.bl true)) = (l.map fun _ => true).map PV.bl := by
  induction l with
  | nil => rfl
  | cons x l ih => rw [List.filterMap_cons, ih]; rfl
theorem all_id (l : List PV) : (l.map fun _ => true).all id = true := by
  induction l with
  | nil => rfl
  | cons x l ih => simpa using ih
theorem R_same (n : Nat) (l : List PV) (h : PH) (Q : QV) (hh : limH h.length h) (hl : limL h.length l = true) (q : (F_same (n + 1)).run l h Q) : (b__law_same (F_same n)).run (exitD h.length Q) (begin 2 l) h := by
  obtain ⟨x, rfl, h1, h2, h3, q⟩ := q
  have fin : exitV h.length Q (.bl true) h := exit_same (by simp [PV.lim]) hh rfl q
  unfold b__law_same
  show MS.run _ _ [some x, some x] h
  one_item
  cases x with
  | bl b => simp [PV.pl] at h1
  | ref b => simp [PV.pl] at h1
  | ty b => simp [PV.pl] at h1
  | cl b => simp [PV.pl] at h1
  | non =>
    one_item
    exact fin
  | int i =>
    one_item
    exact fin
  | str i =>
    one_item
    exact fin
  | tup t =>
    rw [PV.pl] at h1
    rw [PV.wid, Bool.and_eq_true, decide_eq_true_eq] at h2
    rw [PV.dep] at h3
    one_item
    refine r_kZ rfl ?_
    refine lc_map (fun ps => ∃ a b, ps = [a, b]) (fun _ => some (.bl true)) trivial (by show (zipV t t).length ≤ _; rw [zipV_len rfl]; exact small' h2.1) (fun p hp ps hps R hR => ?_) ⟨_, all_true _, ?_⟩ ⟨_, _, rfl⟩
    · obtain ⟨x, hx, rfl⟩ := zip_self hp
      obtain ⟨a, b, rfl⟩ := hps
      one_item
      cases n with
      | zero => omega
      | succ n =>
        have hd := depL_get (List.getElem?_of_mem hx).choose_spec
        exact ⟨x, rfl, plL_iff.mp h1 x hx, widL_iff.mp h2.2 x hx, by omega, rfl, ⟨_, _, rfl⟩, hR⟩
    · rw [all_id]
      exact fin
def Tr.pv : Tr → PV
  | .leaf x => .str x
  | .node l r => .tup [l.pv, r.pv]
def Ent.pv : Ent → PV
  | .word x => .str x
  | .pair a b => .tup [.int (a : Int), .int (b : Int)]
theorem Tr.pv_dat : ∀ t : Tr, t.pv.dat = true
  | .leaf x => by rw [Tr.pv, PV.dat] <;> simp
  | .node l r => by rw [Tr.pv, PV.dat, datL, datL, datL, l.pv_dat, r.pv_dat]; rfl
theorem Ent.pv_dat (e : Ent) : e.pv.dat = true := by cases e <;> simp [Ent.pv, PV.dat, datL]
theorem dat_map {α : Type} {f : α → PV} (h : ∀ a, (f a).dat = true) (l : List α) : datL (l.map f) = true := datL_iff.mpr fun x hx => by
  obtain ⟨a, _, rfl⟩ := List.mem_map.mp hx
  exact h a
theorem lim_map {α : Type} {f : α → PV} (h : ∀ a, (f a).dat = true) (n : Nat) (l : List α) : limL n (l.map f) = true := datL_lim n _ (dat_map h l)
theorem snoc_of {α : Type} {l : List α} (h : l ≠ []) : ∃ a x, l = a ++ [x] := ⟨l.dropLast, l.getLast h, (List.dropLast_concat_getLast h).symm⟩
def F_parts : MFL := ⟨fun l h Q => ∃ t : Tr, l = [t.pv] ∧ t.size ≤ 1000 ∧ Q (t.post.map Tr.pv) h, fun f ⟨t, e, h1, q⟩ => ⟨t, e, h1, f _ _ q⟩⟩
theorem sizes_le {a b : List Tr} {t : Tr} (h : posts a ++ b = t.post) : sizes a + b.length = t.size := by
  have h1 := congrArg List.length h
  rw [List.length_append, t.post_len] at h1
  have h2 : ∀ l : List Tr, (posts l).length = sizes l := by
    intro l
    induction l with
    | nil => rfl
    | cons x l ih =>
      have e1 : posts (x :: l) = x.post ++ posts l := rfl
      have e2 : sizes (x :: l) = x.size + sizes l := rfl
      rw [e1, e2, List.length_append, ih, x.post_len]
  rw [h2] at h1
  exact h1
theorem R_parts (l : List PV) (h : PH) (Q : List PV → PH → Prop) (hh : limH h.length h) (hl : limL h.length l = true) (q : F_parts.run l h Q) : b_parts_of.run (exitLD h.length Q) (begin 4 l) h := by
  obtain ⟨t, rfl, hz, q⟩ := q
  unfold b_parts_of
  show MS.run _ _ [some t.pv, none, none, none] h
  one_item
  refine ⟨small' (Nat.le_of_ble_eq_true rfl), ?_⟩
  one_item
  refine ⟨small' (Nat.le_of_ble_eq_true rfl), ?_⟩
  one_item
  refine while_inv (fun n ps h' => ∃ (o : Option PV) (ts bs : List Tr), n = sizes ts ∧ ps = [some t.pv, some (.ref h.length), some (.ref (h.length + 1)), o] ∧ h' = h ++ [.lst (bs.map Tr.pv), .lst (ts.map Tr.pv)] ∧ posts ts ++ bs.reverse = t.post) (fun n ps h' => ?_) (n := sizes [t]) ⟨_, [t], [], rfl, rfl, rfl, by rw [posts_one]; simp⟩
  rintro ⟨o, ts, bs, rfl, rfl, rfl, hp⟩
  have hs := sizes_le hp
  rw [List.length_reverse] at hs
  one_item
  refine r_pTruL ((get_app 1).trans rfl) ?_
  by_cases he : ts = []
  · subst he
    one_item
    show (if false = true then _ else _)
    one_item
    refine exit_list (k := 2) (xs := t.post.map Tr.pv) ?_ (lim_map Tr.pv_dat _ _) hh rfl q
    have hp' : bs.reverse = t.post := hp
    rw [← hp', List.map_reverse]
    rfl
  · obtain ⟨us, u, rfl⟩ := snoc_of he
    have hl2 := len_sizes us
    have hsu := u.size_pos
    rw [sizes_append, sizes_one] at hs
    have ee : (!((us ++ [u]).map Tr.pv).isEmpty) = true := by simp
    rw [ee]
    one_item
    refine ⟨r_listAtA (n := 1) rfl, ?_⟩
    one_item
    refine r_popA (n := 1) (l := us.map Tr.pv) (y := u.pv) (by rw [List.map_append]; rfl) ?_
    one_item
    refine ⟨r_listAtA0 rfl, ?_⟩
    one_item
    refine r_appendA0 rfl ?_ ?_
    · rw [List.length_map]; exact small1000 (by omega)
    have eb : bs.map Tr.pv ++ [u.pv] = (bs ++ [u]).map Tr.pv := by rw [List.map_append]; rfl
    one_item
    rw [eb]
    cases u with
    | leaf x =>
      rw [Tr.pv]
      one_item
      refine ⟨sizes us, by rw [sizes_append, sizes_one]; show sizes us < sizes us + 1; omega, _, us, bs ++ [.leaf x], rfl, rfl, rfl, ?_⟩
      rw [posts_append, posts_one] at hp
      rw [List.reverse_append, ← hp]
      simp [Tr.post]
    | node a b =>
      rw [Tr.pv]
      one_item
      refine ⟨r_listAtA (n := 1) rfl, ?_⟩
      one_item
      refine r_extendA (n := 1) (l := us.map Tr.pv) rfl rfl ?_ ?_
      · show (us.map Tr.pv).length + 2 ≤ _
        rw [List.length_map]; exact small' (by have : (Tr.node a b).size = a.size + b.size + 1 := rfl; have := a.size_pos; omega)
      have e2 : sizes [Tr.node a b] = a.size + b.size + 1 := by rw [sizes_one]; rfl
      refine ⟨sizes (us ++ [a, b]), ?_, _, us ++ [a, b], bs ++ [.node a b], rfl, rfl, ?_, ?_⟩
      · rw [sizes_append, sizes_append, e2]
        show sizes us + sizes [a, b] < _
        have : sizes [a, b] = a.size + b.size := by simp [sizes]
        omega
      · rw [List.map_append (l₁ := us)]; rfl
      · rw [posts_append, posts_one] at hp
        rw [List.reverse_append, ← hp, posts_append, posts_two]
        simp [Tr.post]
def F_nodes : MF := ⟨fun l h Q => ∃ t : Tr, l = [t.pv] ∧ t.size ≤ 1000 ∧ Q (.tup ((t.nd 0).map Ent.pv)) h, fun f ⟨t, e, h1, q⟩ => ⟨t, e, h1, f _ _ q⟩⟩
theorem R_nodes (l : List PV) (h : PH) (Q : QV) (hh : limH h.length h) (hl : limL h.length l = true) (q : F_nodes.run l h Q) : (b_nodes F_parts).run (exitD h.length Q) (begin 6 l) h := by
  obtain ⟨t, rfl, hz, q⟩ := q
  unfold b_nodes
  show MS.run _ _ [some t.pv, none, none, none, none, none] h
  one_item
  refine ⟨small' (Nat.le_of_ble_eq_true rfl), ?_⟩
  one_item
  refine ⟨small' (Nat.le_of_ble_eq_true rfl), ?_⟩
  one_item
  refine ⟨t, rfl, hz, ?_⟩
  one_item
  refine for_inv (fun i ps h' => ∃ (o3 o4 o5 : Option PV) (told : List Ent) (ls : List Nat), ps = [some t.pv, some (.ref h.length), some (.ref (h.length + 1)), o3, o4, o5] ∧ h' = h ++ [.lst (told.map Ent.pv), .lst (ls.reverse.map fun n : Nat => .int (n : Int))] ∧
      run (t.post.drop i) told ls = some (t.nd 0, [t.size - 1]) ∧ told.length = i ∧ ls.length ≤ i) (fun _ _ _ _ => trivial) (fun i x ps h' hx => ?_) (fun ps h' => ?_) ⟨_, _, _, [], [], rfl, rfl, run_whole t, rfl, Nat.le_refl _⟩
  · rintro ⟨o3, o4, o5, told, ls, rfl, rfl, hr, ht, hls⟩
    have hx' : (t.post.map Tr.pv)[i]? = some x := hx
    rw [List.getElem?_map] at hx'
    cases e : t.post[i]? with
    | none => rw [e] at hx'; cases hx'
    | some u =>
      rw [e] at hx'
      have ex : u.pv = x := Option.some.inj hx'
      subst ex
      have hi : i < t.post.length := (List.getElem?_eq_some_iff.mp e).1
      have hi2 := hi
      rw [t.post_len] at hi2
      have ed : t.post.drop i = u :: t.post.drop (i + 1) := by rw [List.drop_eq_getElem_cons hi, (List.getElem?_eq_some_iff.mp e).2]
      rw [ed] at hr
      cases u with
      | leaf w =>
        rw [Tr.pv]
        one_item
        refine ⟨r_listAtA0 rfl, ?_⟩
        one_item
        refine r_appendA0 rfl ?_ ?_
        · rw [List.length_map]; exact small1000 (by omega)
        one_item
        refine ⟨r_listAtA (n := 1) rfl, ?_⟩
        one_item
        refine r_appendA (n := 1) rfl ?_ ?_
        · rw [List.length_map, List.length_reverse]; exact small1000 (by omega)
        refine ⟨_, _, _, told ++ [.word w], told.length :: ls, rfl, ?_, by rw [run] at hr; exact hr, by rw [List.length_append, ht]; rfl, by rw [List.length_cons]; omega⟩
        have e1 : (((told.map Ent.pv ++ [PV.str w]).length : Nat) : Int) - 1 = (told.length : Int) := by rw [List.length_append, List.length_map]; simp
        rw [e1, List.reverse_cons, List.map_append, List.map_append]
        rfl
      | node a b =>
        rw [Tr.pv]
        one_item
        match ls, hr, hls with
        | [], hr, hls => exact absurd hr (by simp [run])
        | [y], hr, hls => exact absurd hr (by simp [run])
        | y :: z :: ls, hr, hls =>
          refine ⟨r_listAtA (n := 1) rfl, ?_⟩
          one_item
          refine r_popA (n := 1) (l := (z :: ls).reverse.map fun n : Nat => .int (n : Int)) (y := .int (y : Int)) (by rw [List.reverse_cons, List.map_append]; rfl) ?_
          one_item
          refine ⟨r_listAtA (n := 1) rfl, ?_⟩
          one_item
          refine r_popA (n := 1) (l := ls.reverse.map fun n : Nat => .int (n : Int)) (y := .int (z : Int)) (by rw [List.reverse_cons, List.map_append]; rfl) ?_
          one_item
          refine ⟨r_listAtA0 rfl, ?_⟩
          one_item
          refine ⟨small' (Nat.le_of_ble_eq_true rfl), ?_⟩
          one_item
          refine r_appendA0 rfl ?_ ?_
          · rw [List.length_map]; exact small1000 (by omega)
          one_item
          refine ⟨r_listAtA (n := 1) rfl, ?_⟩
          one_item
          rw [List.length_cons, List.length_cons] at hls
          refine r_appendA (n := 1) rfl ?_ ?_
          · rw [List.length_map, List.length_reverse]; exact small1000 (by omega)
          refine ⟨_, _, _, told ++ [.pair z y], told.length :: ls, rfl, ?_, by rw [run] at hr; exact hr, by rw [List.length_append, ht]; rfl, by rw [List.length_cons]; omega⟩
          have e1 : (((told.map Ent.pv ++ [PV.tup [.int (z : Int), .int (y : Int)]]).length : Nat) : Int) - 1 = (told.length : Int) := by rw [List.length_append, List.length_map]; simp
          rw [e1, List.reverse_cons, List.map_append, List.map_append]
          rfl
  · rintro ⟨o3, o4, o5, told, ls, rfl, rfl, hr, ht, hls⟩
    have el : (t.post.map Tr.pv).length = t.post.length := List.length_map _
    rw [el, List.drop_length] at hr
    have hr' : told = t.nd 0 := by
      have : some (told, ls) = some (t.nd 0, [t.size - 1]) := hr
      injection this with this
      injection this
    subst hr'
    one_item
    exact exit_drop (dat_lim _ _ (by rw [PV.dat]; exact dat_map Ent.pv_dat _)) hh rfl q
def F_halves : MF := ⟨fun l h Q => (∃ w, l = [.str w] ∧ Q (.tup []) h) ∨ ∃ t, l = [.tup t] ∧ Q (.tup t) h, fun f q => q.elim (fun ⟨w, e, q⟩ => .inl ⟨w, e, f _ _ q⟩) fun ⟨w, e, q⟩ => .inr ⟨w, e, f _ _ q⟩⟩
theorem R_halves (l : List PV) (h : PH) (Q : QV) (hh : limH h.length h) (hl : limL h.length l = true) (q : F_halves.run l h Q) : b_halves.run (exitD h.length Q) (begin 1 l) h := by
  unfold b_halves
  rcases q with ⟨w, rfl, q⟩ | ⟨w, rfl, q⟩
  · show MS.run _ _ [some (.str w)] h
    one_item
    exact ⟨small' (Nat.le_of_ble_eq_true rfl), exit_same (by simp [PV.lim, limL]) hh rfl q⟩
  · show MS.run _ _ [some (.tup w)] h
    one_item
    rw [limL, Bool.and_eq_true] at hl
    exact exit_same hl.1 hh rfl q
def vp : V → PV
  | .int i => .int i
  | .str x => .str x
  | .bl b => .bl b
  | _ => .non
theorem ixN_nat {n k : Nat} (h : k < n) : ixN n (k : Int) = some k := by
  unfold ixN
  rw [if_pos (by omega), if_pos (by omega)]
  simp
def natP (l : List Nat) : List PV := l.map fun (n : Nat) => .int (n : Int)
theorem natP_dat (l : List Nat) : datL (natP l) = true := dat_map (fun _ => by rw [PV.dat] <;> simp) l
theorem natP_len (l : List Nat) : (natP l).length = l.length := List.length_map _
def ahL (t : Tr) : List PV := (ah (t.nd 0) 0 (List.replicate t.size V.non)).map vp
theorem ahL_get (t : Tr) {j : Nat} (h : j < t.size) : (ahL t)[j]? = some (vp (ahd t 0 j .non)) := by unfold ahL; rw [List.getElem?_map, ah_get t h]; rfl
theorem vp_dat (v : V) : (vp v).dat = true := by cases v <;> simp [vp, PV.dat]
def F_ahead : MF := ⟨fun l h Q => ∃ t : Tr, l = [t.pv] ∧ t.size ≤ 1000 ∧ Q (.tup (ahL t)) h, fun f ⟨t, e, h1, q⟩ => ⟨t, e, h1, f _ _ q⟩⟩
theorem fm_const {α : Type} (l : List PV) (f : PV → Option PV) (x : PV) (h : ∀ y, f y = some x) : l.filterMap f = List.replicate l.length x := by
  induction l with
  | nil => rfl
  | cons a l ih => rw [List.filterMap_cons, h, ih]; rfl
theorem R_ahead (l : List PV) (h : PH) (Q : QV) (hh : limH h.length h) (hl : limL h.length l = true) (q : F_ahead.run l h Q) : (b_ahead_of F_nodes F_halves).run (exitD h.length Q) (begin 6 l) h := by
  obtain ⟨t, rfl, hz, q⟩ := q
  have hnl : ((t.nd 0).map Ent.pv).length = t.size := by rw [List.length_map, t.nd_len]
  unfold b_ahead_of
  show MS.run _ _ [some t.pv, none, none, none, none, none] h
  one_item
  refine ⟨t, rfl, hz, ?_⟩
  one_item
  refine lc_map (fun ps => ∃ a, ps = [a]) (fun _ => some .non) trivial (by show ((t.nd 0).map Ent.pv).length ≤ _; rw [hnl]; exact small' hz) (fun p hp ps hps R hR => ?_) ?_ ⟨_, rfl⟩
  · obtain ⟨a, rfl⟩ := hps
    one_item
    exact ⟨rfl, ⟨_, rfl⟩, hR⟩
  dsimp only
  rw [fm_const (α := Nat) _ _ .non fun _ => rfl]
  have e0 : List.replicate ((t.nd 0).map Ent.pv).length PV.non = ((ah ((t.nd 0).take 0) 0 (List.replicate t.size V.non)).map vp) := by
    rw [hnl, List.take_zero, ah, List.map_replicate]; rfl
  one_item
  rw [e0]
  refine for_inv (fun i ps h' => ∃ (o2 o4 o5 : Option PV), ps = [some t.pv, some (.tup ((t.nd 0).map Ent.pv)), o2, some (.ref h.length), o4, o5] ∧ h' = h ++ [.lst ((ah ((t.nd 0).take i) 0 (List.replicate t.size V.non)).map vp)]) (fun _ _ _ _ => trivial) (fun i x ps h' hx => ?_) (fun ps h' => ?_) ⟨_, _, _, rfl, rfl⟩
  · rintro ⟨o2, o4, o5, rfl, rfl⟩
    obtain ⟨y, hy, rfl⟩ := enumV_get hx
    have hy' : ((t.nd 0).map Ent.pv)[i]? = some y := hy
    rw [List.getElem?_map] at hy'
    cases e : (t.nd 0)[i]? with
    | none => rw [e] at hy'; cases hy'
    | some en =>
      rw [e] at hy'
      have ey : en.pv = y := Option.some.inj hy'
      subst ey
      have hi : i < t.size := by have := (List.getElem?_eq_some_iff.mp e).1; rw [t.nd_len] at this; exact this
      have et : (t.nd 0).take (i + 1) = (t.nd 0).take i ++ [en] := by rw [List.take_succ, e]; rfl
      have ea : ah ((t.nd 0).take (i + 1)) 0 (List.replicate t.size V.non) = ahS (ah ((t.nd 0).take i) 0 (List.replicate t.size V.non)) (0 + i) en := by
        rw [et, ah_snoc, List.length_take, t.nd_len]; congr 1; omega
      have hal : (ah ((t.nd 0).take i) 0 (List.replicate t.size V.non)).length = t.size := by rw [ah_len, List.length_replicate]
      generalize hA : ah ((t.nd 0).take i) 0 (List.replicate t.size V.non) = A at ea hal ⊢
      one_item
      cases en with
      | word w =>
        rw [Ent.pv]
        refine .inl ⟨w, rfl, ?_⟩
        one_item
        refine ⟨trivial, _, _, _, rfl, ?_⟩
        rw [ea]; rfl
      | pair a b =>
        rw [Ent.pv]
        refine .inr ⟨_, rfl, ?_⟩
        have hab : a < i ∧ b < i := by
          have h1 := nd_en t 0 i hi
          rw [e] at h1
          rcases be_en t 0 i hi with ⟨x, e1, _⟩ | ⟨a', b', e1, e2, e3, _⟩
          · rw [e1] at h1; cases h1
          · rw [e1] at h1; injection h1 with h1; injection h1 with h1 h2; omega
        one_item
        refine ⟨trivial, ?_⟩
        one_item
        refine r_sListA0 rfl (j := a) (by rw [List.length_map, hal]; exact ixN_nat (by omega)) ?_
        one_item
        refine ⟨trivial, ?_⟩
        one_item
        refine r_sListA0 rfl (j := b) (by rw [List.length_set, List.length_map, hal]; exact ixN_nat (by omega)) ?_
        refine ⟨trivial, _, _, _, rfl, ?_⟩
        rw [ea]
        show h ++ [PO.lst (((A.map vp).set a _).set b _)] = h ++ [PO.lst (((A.set a _).set b _).map vp)]
        rw [List.map_set, List.map_set]
        rfl
  · rintro ⟨o2, o4, o5, rfl, rfl⟩
    have el : (enumV 0 ((t.nd 0).map Ent.pv)).length = (t.nd 0).length := by rw [enumV_len, List.length_map]
    dsimp only
    rw [el, List.take_length]
    one_item
    exact exit_drop (dat_lim _ _ (by rw [PV.dat]; exact dat_map vp_dat _)) hh rfl q
def nmP : Ent → Nat → PV
  | .word x, _ => .str x
  | .pair _ _, j => .int (j : Int)
def hvP : Ent → List PV
  | .word _ => []
  | .pair a b => [.int (a : Int), .int (b : Int)]
def F_name : MF := ⟨fun l h Q => ∃ (es : List Ent) (j : Nat) (e : Ent), l = [.tup (es.map Ent.pv), .int (j : Int)] ∧ es[j]? = some e ∧ Q (nmP e j) h, fun f ⟨es, j, e, h1, h2, q⟩ => ⟨es, j, e, h1, h2, f _ _ q⟩⟩
theorem at_map {α : Type} {f : α → PV} {l : List α} {j : Nat} {a : α} (h : l[j]? = some a) : atI (l.map f) (j : Int) = some (f a) := atI_nat (by rw [List.getElem?_map, h]; rfl)
theorem R_name (l : List PV) (h : PH) (Q : QV) (hh : limH h.length h) (hl : limL h.length l = true) (q : F_name.run l h Q) : b_name_of.run (exitD h.length Q) (begin 2 l) h := by
  obtain ⟨es, j, e, rfl, he, q⟩ := q
  unfold b_name_of
  show MS.run _ _ [some (.tup (es.map Ent.pv)), some (.int (j : Int))] h
  have ha := at_map (f := Ent.pv) he
  one_item
  refine r_kIx trivial ha ?_
  cases e with
  | word x =>
    rw [Ent.pv]
    one_item
    refine r_kIx trivial ha ?_
    exact exit_same (by simp [PV.lim, Ent.pv]) hh rfl q
  | pair a b =>
    rw [Ent.pv]
    one_item
    exact exit_same (by simp [PV.lim]) hh rfl q
def apb (t : Tr) (j k : Nat) : Bool := !decide (k ∈ up t 0 j []) && !decide (j ∈ up t 0 k [])
def apt (t : Tr) (j : Nat) : List Nat := (List.range t.size).filter (apb t j)
theorem inB_nat (k : Nat) : ∀ l : List Nat, inB (.int (k : Int)) (natP l) = decide (k ∈ l)
  | [] => rfl
  | a :: l => by
    have h := inB_nat k l
    show (peq (.int (a : Int)) (.int (k : Int)) || inB (.int (k : Int)) (natP l)) = _
    rw [h, peq]
    by_cases c : a = k
    · subst c; simp
    · have c1 : ((a : Int) == (k : Int)) = false := by simp; omega
      have c2 : ¬ k = a := fun z => c z.symm
      rw [c1]; simp [c2]
theorem dep_natP (l : List Nat) : depL (natP l) ≤ 101 := Nat.le_trans (depL_le (n := 0) fun x hx => by
  obtain ⟨n, _, rfl⟩ := List.mem_map.mp hx
  rw [PV.dep] <;> simp) (by omega)
def stay (t : Tr) (j : Nat) : PV := .tup [nmP (en t 0 j) j, .int 0, .tup (hvP (en t 0 j)), .tup (natP (apt t j))]
set_option maxHeartbeats 1000000
def intP (l : List Int) : List PV := l.map PV.int
theorem intP_len (l : List Int) : (intP l).length = l.length := List.length_map _
theorem intP_get {l : List Int} {i : Nat} {d : Int} (h : l[i]? = some d) : (intP l)[i]? = some (.int d) := by unfold intP; rw [List.getElem?_map, h]; rfl
theorem intP_dat (l : List Int) : datL (intP l) = true := dat_map (fun _ => by rw [PV.dat] <;> simp) l
def spl : List Ent → List Int → List Int
  | .word _ :: es, _ :: ds => spl es ds
  | .pair _ _ :: es, d :: ds => d :: spl es ds
  | _, _ => []
def F_split : MFL := ⟨fun l h Q => ∃ (es : List Ent) (ds : List Int), l = [.tup (es.map Ent.pv), .tup (intP ds)] ∧ es.length = ds.length ∧ es.length ≤ 1000 ∧ Q (intP (spl es ds)) h, fun f ⟨es, ds, e, h1, h2, q⟩ => ⟨es, ds, e, h1, h2, f _ _ q⟩⟩
def splF : PV → Option PV
  | .tup [.str _, _] => none
  | .tup [_, y] => some y
  | _ => none
theorem spl_fm : ∀ (es : List Ent) (ds : List Int), (zipV (es.map Ent.pv) (intP ds)).filterMap splF = intP (spl es ds)
  | [], ds => by cases ds <;> rfl
  | e :: es, [] => by cases e <;> rfl
  | .word w :: es, d :: ds => by
    have ih := spl_fm es ds
    show List.filterMap splF (.tup [.str w, .int d] :: zipV (es.map Ent.pv) (intP ds)) = _
    rw [List.filterMap_cons, ih]
    rfl
  | .pair a b :: es, d :: ds => by
    have ih := spl_fm es ds
    show List.filterMap splF (.tup [.tup [.int (a : Int), .int (b : Int)], .int d] :: zipV (es.map Ent.pv) (intP ds)) = _
    rw [List.filterMap_cons, ih]
    rfl
theorem zip_in : ∀ {es : List Ent} {ds : List Int} {p : PV}, p ∈ zipV (es.map Ent.pv) (intP ds) → ∃ (e : Ent) (d : Int), p = .tup [e.pv, .int d]
  | [], ds, p, h => by cases ds <;> simp [zipV] at h
  | e :: es, [], p, h => by simp [zipV, intP] at h
  | e :: es, d :: ds, p, h => by
    have h' : p ∈ PV.tup [e.pv, .int d] :: zipV (es.map Ent.pv) (intP ds) := h
    rcases List.mem_cons.mp h' with rfl | h'
    · exact ⟨e, d, rfl⟩
    · exact zip_in h'
theorem R_split (l : List PV) (h : PH) (Q : List PV → PH → Prop) (hh : limH h.length h) (hl : limL h.length l = true) (q : F_split.run l h Q) : b_split_dates.run (exitLD h.length Q) (begin 2 l) h := by
  obtain ⟨es, ds, rfl, hs, hz, q⟩ := q
  unfold b_split_dates
  show MS.run _ _ [some (.tup (es.map Ent.pv)), some (.tup (intP ds))] h
  one_item
  refine r_kZ (by rw [List.length_map, intP_len]; exact hs) ?_
  refine lc_map (fun ps => ∃ a b, ps = [a, b]) splF trivial (by show (zipV _ _).length ≤ _; rw [zipV_len (by rw [List.length_map, intP_len]; exact hs), List.length_map]; exact small' hz) (fun p hp ps hps R hR => ?_) ?_ ⟨_, _, rfl⟩
  · obtain ⟨e, d, rfl⟩ := zip_in hp
    obtain ⟨a, b, rfl⟩ := hps
    one_item
    cases e with
    | word w =>
      rw [Ent.pv]
      one_item
      exact ⟨rfl, ⟨_, _, rfl⟩, hR⟩
    | pair x y =>
      rw [Ent.pv]
      one_item
      exact ⟨rfl, ⟨_, _, rfl⟩, hR⟩
  · dsimp only
    rw [spl_fm]
    one_item
    exact exit_list (k := 0) rfl (datL_lim _ _ (intP_dat _)) hh rfl q
def stB (t : Tr) (ds : List Int) (b : Int) (j : Nat) : Bool := decide (ds.getD j 0 ≤ b) && (match ahd t 0 j .non with | .int a => decide (b < ds.getD a.toNat 0) | _ => true)
def stL (t : Tr) (ds : List Int) (b : Int) (n j : Nat) : List (Nat × Nat) := ((List.range j).filter (stB t ds b)).map fun k => (k, n)
def standN (t : Tr) (ds bs : List Int) : Nat → List (Nat × Nat)
  | 0 => []
  | i + 1 => standN t ds bs i ++ stL t ds (bs.getD i 0) i t.size
def prP (l : List (Nat × Nat)) : List PV := l.map fun p => .tup [.int (p.1 : Int), .int (p.2 : Int)]
theorem stL_len (t : Tr) (ds : List Int) (b : Int) (n j : Nat) : (stL t ds b n j).length ≤ j := by
  unfold stL
  rw [List.length_map]
  refine Nat.le_trans (List.length_filter_le _ _) ?_
  rw [List.length_range]; exact Nat.le_refl _
theorem standN_len (t : Tr) (ds bs : List Int) : ∀ i, (standN t ds bs i).length ≤ i * t.size
  | 0 => Nat.zero_le _
  | i + 1 => by
    rw [standN, List.length_append]
    have h1 := standN_len t ds bs i
    have h2 := stL_len t ds (bs.getD i 0) i t.size
    rw [Nat.succ_mul]; omega
theorem stL_succ (t : Tr) (ds : List Int) (b : Int) (n j : Nat) : stL t ds b n (j + 1) = stL t ds b n j ++ (if stB t ds b j then [(j, n)] else []) := by
  unfold stL
  rw [List.range_succ, List.filter_append, List.map_append]
  congr 1
  by_cases c : stB t ds b j <;> simp [c]
theorem prP_app (a b : List (Nat × Nat)) : prP (a ++ b) = prP a ++ prP b := List.map_append
def F_stand : MFL := ⟨fun l h Q => ∃ (t : Tr) (ds bs : List Int) (p : Nat), l = [t.pv, .tup (intP ds), .ref p] ∧ h[p]? = some (.lst (intP bs)) ∧ ds.length = t.size ∧ t.size ≤ 1000 ∧ bs.length * t.size ≤ 900 ∧ bs.length ≤ 900 ∧ Q (prP (standN t ds bs bs.length)) h,
  fun f ⟨t, ds, bs, p, e, h1, h2, h3, h4, h5, q⟩ => ⟨t, ds, bs, p, e, h1, h2, h3, h4, h5, f _ _ q⟩⟩
theorem prP_dat (l : List (Nat × Nat)) : datL (prP l) = true := dat_map (fun p => by simp [PV.dat, datL]) l
theorem R_stand (l : List PV) (h : PH) (Q : List PV → PH → Prop) (hh : limH h.length h) (hl : limL h.length l = true) (q : F_stand.run l h Q) : (b_standing F_ahead).run (exitLD h.length Q) (begin 9 l) h := by
  obtain ⟨t, ds, bs, p, rfl, hp, hd, hz, hb, hb2, q⟩ := q
  unfold b_standing
  show MS.run _ _ [some t.pv, some (.tup (intP ds)), some (.ref p), none, none, none, none, none, none] h
  one_item
  refine ⟨t, rfl, hz, ?_⟩
  one_item
  refine ⟨small' (Nat.le_of_ble_eq_true rfl), ?_⟩
  one_item
  refine for_inv (fun i ps h' => ∃ o5 o6 o7 o8, ps = [some t.pv, some (.tup (intP ds)), some (.ref p), some (.tup (ahL t)), some (.ref h.length), o5, o6, o7, o8] ∧ h' = h ++ [.lst (prP (standN t ds bs i))]) (fun _ _ _ q => by obtain ⟨_, _, _, _, _, rfl⟩ := q; exact get_old' hp) (fun i x ps h' hx => ?_) (fun ps h' => ?_) ⟨_, _, _, _, rfl, rfl⟩
  · rintro ⟨o5, o6, o7, o8, rfl, rfl⟩
    obtain ⟨y, hy, rfl⟩ := enumV_get hx
    have hy' : (intP bs)[i]? = some y := hy
    have hi : i < bs.length := by have := (List.getElem?_eq_some_iff.mp hy').1; rw [intP_len] at this; exact this
    have hbi : bs[i]? = some (bs.getD i 0) := by rw [List.getD_eq_getElem?_getD, List.getElem?_eq_getElem hi]; rfl
    rw [intP_get hbi] at hy'
    cases hy'
    rw [Nat.zero_add]
    generalize hB : bs.getD i 0 = B
    one_item
    refine for_inv (fun j ps h' => ∃ o7 o8, ps = [some t.pv, some (.tup (intP ds)), some (.ref p), some (.tup (ahL t)), some (.ref h.length), some (.int (i : Int)), some (.int B), o7, o8] ∧ h' = h ++ [.lst (prP (standN t ds bs i ++ stL t ds B i j))]) (fun _ _ _ _ => trivial) (fun j x ps h' hx => ?_) (fun ps h' => ?_) ⟨_, _, rfl, by simp [stL]⟩
    · rintro ⟨o7, o8, rfl, rfl⟩
      obtain ⟨y, hy, rfl⟩ := enumV_get hx
      have hy' : (intP ds)[j]? = some y := hy
      have hj : j < ds.length := by have := (List.getElem?_eq_some_iff.mp hy').1; rw [intP_len] at this; exact this
      have hjs : j < t.size := by omega
      have hdj : ds[j]? = some (ds.getD j 0) := by rw [List.getD_eq_getElem?_getD, List.getElem?_eq_getElem hj]; rfl
      rw [intP_get hdj] at hy'
      cases hy'
      rw [Nat.zero_add]
      have e1 := stL_succ t ds B i j
      have ga := ahL_get t hjs
      have hlen : (prP (standN t ds bs i ++ stL t ds B i j)).length < sizeLine := by
        unfold prP
        rw [List.length_map, List.length_append]
        have h1 := standN_len t ds bs i
        have h2 := stL_len t ds B i j
        have h3 : i * t.size + t.size ≤ bs.length * t.size := by rw [← Nat.succ_mul]; exact Nat.mul_le_mul_right _ hi
        exact small1000 (by omega)
      have yes : stB t ds B j = true → ∀ (D : PD) (o8 : Option PV), (D.nx = fun ps h' => ∃ o7 o8, ps = [some t.pv, some (.tup (intP ds)), some (.ref p), some (.tup (ahL t)), some (.ref h.length), some (.int (i : Int)), some (.int B), o7, o8] ∧ h' = h ++ [.lst (prP (standN t ds bs i ++ stL t ds B i (j + 1)))]) →
          (mDrop (mLM mmAppend (mVar 4) (mCons (mTup (mCons (mVar 7) (mCons (mVar 5) mNil))) mNil))).run D [some t.pv, some (.tup (intP ds)), some (.ref p), some (.tup (ahL t)), some (.ref h.length), some (.int (i : Int)), some (.int B), some (.int (j : Int)), o8] (h ++ [.lst (prP (standN t ds bs i ++ stL t ds B i j))]) := fun c D o8 hD => by
        one_item
        refine ⟨r_listAtA0 rfl, ?_⟩
        one_item
        refine ⟨small' (Nat.le_of_ble_eq_true rfl), ?_⟩
        one_item
        refine r_appendA0 rfl hlen ?_
        rw [hD]
        refine ⟨_, _, rfl, ?_⟩
        rw [e1, if_pos c, ← List.append_assoc, prP_app (standN t ds bs i ++ stL t ds B i j) [(j, i)]]
        rfl
      have no : stB t ds B j = false → prP (standN t ds bs i ++ stL t ds B i j) = prP (standN t ds bs i ++ stL t ds B i (j + 1)) := fun c => by
        rw [e1, if_neg (by rw [c]; exact Bool.false_ne_true), List.append_nil]
      one_item
      refine ite_bl (fun c1 => ?_) (fun c1 => ?_)
      · one_item
        refine r_kIx trivial (atI_nat ga) ?_
        rcases up_ahd t 0 j .non [] hjs with ⟨q1, q2, q3⟩ | ⟨a, q1, q2, q3, q4⟩
        · have c : stB t ds B j = true := by unfold stB; rw [q2]; simp; exact c1
          rw [q2]
          simp only [vp]
          one_item
          exact yes c _ _ rfl
        · rw [q3, Nat.zero_add]
          have hda : ds[a]? = some (ds.getD a 0) := by rw [List.getD_eq_getElem?_getD, List.getElem?_eq_getElem (by omega)]; rfl
          simp only [vp]
          one_item
          refine r_kIx trivial (atI_nat ga) ?_
          rw [q3, Nat.zero_add]
          simp only [vp]
          refine r_kIx trivial (atI_nat (intP_get hda)) ?_
          one_item
          refine ite_bl (fun c2 => ?_) (fun c2 => ?_)
          · have c : stB t ds B j = true := by unfold stB; rw [q3, Nat.zero_add]; simp; exact ⟨c1, c2⟩
            exact yes c _ _ rfl
          · have c : stB t ds B j = false := by
              unfold stB
              rw [q3, Nat.zero_add]
              show (_ && decide (B < ds.getD ((a : Nat) : Int).toNat 0)) = false
              rw [show ((a : Nat) : Int).toNat = a by omega, decide_eq_false c2, Bool.and_false]
            one_item
            exact ⟨_, _, rfl, by rw [no c]⟩
      · have c : stB t ds B j = false := by unfold stB; simp; intro z; exact absurd z c1
        one_item
        exact ⟨_, _, rfl, by rw [no c]⟩
    · rintro ⟨o7, o8, rfl, rfl⟩
      dsimp only
      rw [enumV_len, intP_len, hd]
      refine ⟨_, _, _, _, rfl, ?_⟩
      rw [standN, hB]
  · rintro ⟨o5, o6, o7, o8, rfl, rfl⟩
    dsimp only
    rw [enumV_len, intP_len]
    one_item
    exact exit_list (k := 0) rfl (datL_lim _ _ (prP_dat _)) hh rfl q
set_option maxHeartbeats 1000000
def key2 (p : Nat × Nat) : List Key := [.inl (p.1 : Int), .inl (p.2 : Int)]
theorem key2_inj {p q : Nat × Nat} (h : key2 p = key2 q) : p = q := by
  obtain ⟨a, b⟩ := p
  obtain ⟨c, d⟩ := q
  simp [key2] at h
  obtain ⟨h1, h2⟩ := h
  exact Prod.ext (by show a = c; omega) (by show b = d; omega)
def numK : Nat → List (Nat × Nat) → List (List Key × PV)
  | _, [] => []
  | k, p :: l => (key2 p, .int (k : Int)) :: numK (k + 1) l
theorem numK_keys : ∀ (k : Nat) (l : List (Nat × Nat)), (numK k l).map (·.1) = l.map key2
  | _, [] => rfl
  | k, p :: l => by rw [numK, List.map_cons, List.map_cons, numK_keys (k + 1) l]
theorem numK_len (k : Nat) (l : List (Nat × Nat)) : (numK k l).length = l.length := by have := congrArg List.length (numK_keys k l); simpa using this
theorem numK_val : ∀ (k : Nat) (l : List (Nat × Nat)) (p : Nat × Nat), p ∈ l → valP (numK k l) (key2 p) = some (.int ((k + l.idxOf p : Nat) : Int))
  | k, q :: l, p, h => by
    rw [List.idxOf_cons]
    by_cases c : q = p
    · subst c
      simp [numK, valP]
    · have hp : p ∈ l := (List.mem_cons.mp h).elim (fun z => absurd z.symm c) id
      have ih := numK_val (k + 1) l p hp
      have c2 : key2 q ≠ key2 p := fun z => c (key2_inj z)
      have c3 : (q == p) = false := by simpa using c
      have e : valP (numK k (q :: l)) (key2 p) = valP (numK (k + 1) l) (key2 p) := by simp [numK, valP, c2]
      rw [e, ih, c3]
      congr 2
      show ((k + 1 + l.idxOf p : Nat) : Int) = ((k + (l.idxOf p + 1) : Nat) : Int)
      omega
def bel (e : Ent) (j : Nat) (d b : Int) : List Nat := if d < b then [j] else match e with | .word _ => [] | .pair x y => [x, y]
def bsd (l : List (Nat × Nat)) (j n : Nat) : List Nat := (l.filter fun p => decide (p.2 = n) && !decide (p.1 = j)).map fun p => l.idxOf p
def dstay (e : Ent) (l : List (Nat × Nat)) (j n : Nat) (d b : Int) : PV := .tup [nmP e j, .int (n : Int), .tup (natP ((bel e j d b).map fun x => l.idxOf (x, n - 1))), .tup (natP (bsd l j n))]
def F_stay : MF := ⟨fun l h Q => ∃ (es : List Ent) (ds bs : List Int) (pb pn : Nat) (l' : List (Nat × Nat)) (j n : Nat) (e : Ent) (d b : Int), l = [.tup (es.map Ent.pv), .tup (intP ds), .ref pb, .ref pn, .tup [.int (j : Int), .int (n : Int)]] ∧ h[pb]? = some (.lst (intP bs)) ∧ h[pn]? = some (.dt (numK 0 l')) ∧
    es[j]? = some e ∧ ds[j]? = some d ∧ bs[n]? = some b ∧ (∀ x ∈ bel e j d b, 1 ≤ n ∧ (x, n - 1) ∈ l') ∧ l'.length ≤ 1000 ∧ Q (dstay e l' j n d b) h,
  fun f ⟨es, ds, bs, pb, pn, l', j, n, e, d, b, a0, a1, a2, a3, a4, a5, a6, a7, q⟩ => ⟨es, ds, bs, pb, pn, l', j, n, e, d, b, a0, a1, a2, a3, a4, a5, a6, a7, f _ _ q⟩⟩
theorem fm_nat (l : List Nat) (g : Nat → Nat) (f : PV → Option PV) (hf : ∀ x ∈ l, f (.int ((x : Nat) : Int)) = some (.int (g x : Nat))) : (natP l).filterMap f = natP (l.map g) := by
  induction l with
  | nil => rfl
  | cons x l ih =>
    show List.filterMap f (.int ((x : Nat) : Int) :: natP l) = _
    rw [List.filterMap_cons, hf x List.mem_cons_self, ih fun y hy => hf y (List.mem_cons_of_mem _ hy)]
    rfl
theorem fm_keys (l' : List (Nat × Nat)) (P : Nat × Nat → Bool) (g : Nat × Nat → Nat) (f : PV → Option PV) : ∀ (l : List (Nat × Nat)) (k : Nat), (∀ p ∈ l, f (.tup ((key2 p).map kP)) = if P p then some (.int (g p : Nat)) else none) → ((numK k l).map fun kv => PV.tup (kv.1.map kP)).filterMap f = natP ((l.filter P).map g)
  | [], _, _ => rfl
  | p :: l, k, h => by
    have ih := fm_keys l' P g f l (k + 1) fun q hq => h q (List.mem_cons_of_mem _ hq)
    rw [numK, List.map_cons, List.filterMap_cons, h p List.mem_cons_self, List.filter_cons]
    by_cases c : P p
    · rw [if_pos c, if_pos c]
      show PV.int (g p : Nat) :: _ = _
      rw [ih]; rfl
    · rw [if_neg c, if_neg c]; exact ih
theorem set_back {h : PH} {n : Nat} {o u : PO} (e : h[n]? = some o) : (h.set n u).set n o = h := by
  rw [List.set_set]
  obtain ⟨h1, h2⟩ := List.getElem?_eq_some_iff.mp e
  rw [← h2]
  exact List.set_getElem_self h1
theorem bel_len (e : Ent) (j : Nat) (d b : Int) : (bel e j d b).length ≤ 2 := by
  unfold bel
  split
  · simp
  · cases e <;> simp
theorem R_stay (l : List PV) (h : PH) (Q : QV) (hh : limH h.length h) (hl : limL h.length l = true) (q : F_stay.run l h Q) : (b_stay_of F_halves F_name).run (exitD h.length Q) (begin 11 l) h := by
  obtain ⟨es, ds, bs, pb, pn, l', j, n, e, d, b, rfl, hpb, hpn, he, hd, hb, hin, hz, q⟩ := q
  unfold b_stay_of
  show MS.run _ _ [some (.tup (es.map Ent.pv)), some (.tup (intP ds)), some (.ref pb), some (.ref pn), some (.tup [.int (j : Int), .int (n : Int)]), none, none, none, none, none, none] h
  obtain ⟨rest, hrest⟩ : ∃ r : MS, r = (mSeq (mAsg (mBiQ bTup (mOwn (mLc [none, some 6, some 3] (mWalk (mSq (mVar 8))) (gSet 0) mAll (mDGet (mVar 2) (mTup (mCons (mVar 0) (mCons (mOp oSub (mVar 1) (mC (.int 1))) mNil))))))) (gSet 9))
  (mSeq (mAsg (mBiQ bTup (mOwn (mFzL 3 (mLc [none, some 5, some 6, some 3] (mKeys (mVar 3)) (gSet 0) (mAndT (mB (mOp oEq (mIx (mSq (mVar 0)) (mC (.int 1))) (mVar 2))) (mB (mOp oNe (mIx (mSq (mVar 0)) (mC (.int 0))) (mVar 1)))) (mDGet (mVar 3) (mVar 0)))))) (gSet 10))
  (mRet (mTup (mCons (mCall F_name (mCons (mVar 0) (mCons (mVar 5) mNil))) (mCons (mVar 6) (mCons (mVar 9) (mCons (mVar 10) mNil)))))))) := ⟨_, rfl⟩
  rw [← hrest]
  have fin : ∀ (c : Bool) (D : PD), D.rt = exitV h.length Q → rest.run D [some (.tup (es.map Ent.pv)), some (.tup (intP ds)), some (.ref pb), some (.ref pn), some (.tup [.int (j : Int), .int (n : Int)]), some (.int (j : Int)), some (.int (n : Int)), some (.bl c), some (.tup (natP (bel e j d b))), none, none] h := by
    intro c D hD
    rw [hrest]
    one_item
    refine lc_map (fun ps => ∃ a, ps = [a, some (.int (n : Int)), some (.ref pn)]) (fun x => match x with | .int k => some (.int (l'.idxOf (k.toNat, n - 1) : Nat)) | _ => none) trivial (by show (natP _).length ≤ _; rw [natP_len]; exact small' (Nat.le_trans (bel_len e j d b) (by omega))) (fun x hx ps hps R hR => ?_) ?_ ⟨_, rfl⟩
    · obtain ⟨a, rfl⟩ := hps
      obtain ⟨y, hy, rfl⟩ := List.mem_map.mp (show x ∈ natP (bel e j d b) from hx)
      obtain ⟨n1, hm⟩ := hin y hy
      one_item
      refine ⟨small' (Nat.le_of_ble_eq_true rfl), ?_⟩
      rw [show ((n : Nat) : Int) - 1 = ((n - 1 : Nat) : Int) by omega]
      refine r_kDGetT (k := key2 (y, n - 1)) (.inl hpn) (numK_val 0 l' (y, n - 1) hm) ?_
      exact ⟨by rw [Nat.zero_add]; rfl, ⟨_, rfl⟩, hR⟩
    dsimp only
    rw [fm_nat (bel e j d b) (fun x => l'.idxOf (x, n - 1)) _ fun x _ => rfl]
    one_item
    refine r_fzL (n := pn) rfl hpn fun o => ?_
    have hg : (h.set pn (.dtz o (numK 0 l')))[pn]? = some (.dtz o (numK 0 l')) := List.getElem?_set_self (List.getElem?_eq_some_iff.mp hpn).1
    one_item
    refine r_kKeys hg ?_
    refine lc_map (fun ps => ∃ a, ps = [a, some (.int (j : Int)), some (.int (n : Int)), some (.ref pn)]) (fun x => match x with | .tup [.int a, .int b] => if (decide (b = (n : Int)) && !decide (a = (j : Int))) = true then some (.int (l'.idxOf (a.toNat, b.toNat) : Nat)) else none | _ => none) hg (by show ((numK 0 l').map _).length ≤ _; rw [List.length_map, numK_len]; exact small' hz) (fun x hx ps hps R hR => ?_) ?_ ⟨_, rfl⟩
    · obtain ⟨a, rfl⟩ := hps
      obtain ⟨kv, hkv, rfl⟩ := List.mem_map.mp (show x ∈ (numK 0 l').map fun kv => PV.tup (kv.1.map kP) from hx)
      have hk1 : kv.1 ∈ (numK 0 l').map (·.1) := List.mem_map.mpr ⟨kv, hkv, rfl⟩
      rw [numK_keys] at hk1
      obtain ⟨p, hp, ep⟩ := List.mem_map.mp hk1
      rw [← ep]
      have ek : PV.tup ((key2 p).map kP) = .tup [.int (p.1 : Int), .int (p.2 : Int)] := rfl
      rw [ek]
      one_item
      cases c1 : decide ((p.2 : Int) = (n : Int)) with
      | false =>
        one_item
        refine ⟨?_, ⟨_, rfl⟩, hR⟩
        simp [c1]
      | true =>
        one_item
        cases c2 : decide ((p.1 : Int) = (j : Int)) with
        | true =>
          rw [Bool.not_true]
          one_item
          refine ⟨?_, ⟨_, rfl⟩, hR⟩
          simp [c2]
        | false =>
          rw [Bool.not_false]
          one_item
          refine r_kDGetT (k := key2 p) (.inr ⟨o, hg⟩) (numK_val 0 l' p hp) ?_
          refine ⟨?_, ⟨_, rfl⟩, hR⟩
          rw [Nat.zero_add]
          simp [c1, c2]
    refine ⟨hg, ?_⟩
    rw [set_back hpn]
    dsimp only
    rw [fm_keys l' (fun p => decide (p.2 = n) && !decide (p.1 = j)) (fun p => l'.idxOf p) _ l' 0 fun p hp => by
      show (if (decide ((p.2 : Int) = (n : Int)) && !decide ((p.1 : Int) = (j : Int))) = true then some (PV.int (l'.idxOf (((p.1 : Nat) : Int).toNat, ((p.2 : Nat) : Int).toNat) : Nat)) else none) = _
      have e1 : decide ((p.2 : Int) = (n : Int)) = decide (p.2 = n) := by by_cases z : p.2 = n <;> simp [z] <;> omega
      have e2 : decide ((p.1 : Int) = (j : Int)) = decide (p.1 = j) := by by_cases z : p.1 = j <;> simp [z] <;> omega
      rw [e1, e2]
      rfl]
    one_item
    refine ⟨es, j, e, rfl, he, ?_⟩
    one_item
    refine ⟨small' (Nat.le_of_ble_eq_true rfl), ?_⟩
    rw [hD]
    refine exit_same (dat_lim _ _ ?_) hh rfl q
    cases e <;> simp [PV.dat, datL, nmP, natP_dat]
  one_item
  refine r_kIx trivial (atI_nat (intP_get hd)) ?_
  one_item
  refine r_kIx hpb (atI_nat (intP_get hb)) ?_
  one_item
  by_cases c : d < b
  · rw [decide_eq_true c]
    one_item
    refine ⟨small' (Nat.le_of_ble_eq_true rfl), ?_⟩
    one_item
    have eb : natP (bel e j d b) = [.int (j : Int)] := by unfold bel; rw [if_pos c]; rfl
    have z := fin true
    rw [eb] at z
    exact z _ rfl
  · rw [decide_eq_false c]
    one_item
    refine r_kIx trivial (at_map he) ?_
    have z := fin false
    cases e with
    | word w =>
      rw [Ent.pv]
      refine .inl ⟨w, rfl, ?_⟩
      one_item
      have eb : natP (bel (.word w) j d b) = [] := by unfold bel; rw [if_neg c]; rfl
      rw [eb] at z
      exact z _ rfl
    | pair x y =>
      rw [Ent.pv]
      refine .inr ⟨_, rfl, ?_⟩
      one_item
      have eb : natP (bel (.pair x y) j d b) = [.int (x : Int), .int (y : Int)] := by unfold bel; rw [if_neg c]; rfl
      rw [eb] at z
      exact z _ rfl
set_option maxHeartbeats 1000000
theorem nd_map {α β : Type} {f : α → β} (hf : ∀ x y, f x = f y → x = y) {l : List α} (h : l.Nodup) : (l.map f).Nodup := List.Pairwise.map f (fun a b n z => n (hf a b z)) h
theorem stL_nodup (t : Tr) (ds : List Int) (b : Int) (n j : Nat) : (stL t ds b n j).Nodup := by
  unfold stL
  exact nd_map (fun x y h => (Prod.mk.inj h).1) (List.Pairwise.filter _ List.nodup_range)
theorem standN_mem {t : Tr} {ds bs : List Int} : ∀ {i : Nat} {p : Nat × Nat}, p ∈ standN t ds bs i → p.2 < i ∧ p.1 < t.size
  | 0, _, h => by simp [standN] at h
  | i + 1, p, h => by
    rw [standN] at h
    rcases List.mem_append.mp h with h | h
    · have := standN_mem h; omega
    · unfold stL at h
      obtain ⟨k, hk, rfl⟩ := List.mem_map.mp h
      have := List.mem_range.mp (List.mem_filter.mp hk).1
      exact ⟨Nat.lt_succ_self _, this⟩
theorem standN_nodup (t : Tr) (ds bs : List Int) : ∀ i, (standN t ds bs i).Nodup
  | 0 => List.nodup_nil
  | i + 1 => by
    rw [standN]
    refine List.nodup_append.mpr ⟨standN_nodup t ds bs i, stL_nodup _ _ _ _ _, fun a ha b hb z => ?_⟩
    subst z
    have h1 := (standN_mem ha).1
    unfold stL at hb
    obtain ⟨k, _, rfl⟩ := List.mem_map.mp hb
    exact Nat.lt_irrefl _ h1
def swp : PV → Option PV
  | .tup [k, p] => some (.tup [p, k])
  | _ => none
theorem enum_swp : ∀ (k : Nat) (L : List (Nat × Nat)), (enumV k (prP L)).filterMap swp = (numK k L).map pairP
  | _, [] => rfl
  | k, p :: L => by
    show List.filterMap swp (.tup [.int (k : Int), .tup [.int (p.1 : Int), .int (p.2 : Int)]] :: enumV (k + 1) (prP L)) = _
    rw [List.filterMap_cons, enum_swp (k + 1) L]
    rfl
def dgL (t : Tr) (ds bs : List Int) : List PV := (standN t ds bs bs.length).map fun p => dstay (en t 0 p.1) (standN t ds bs bs.length) p.1 p.2 (ds.getD p.1 0) (bs.getD p.2 0)
def okD (t : Tr) (ds bs : List Int) : Prop := ∀ p ∈ standN t ds bs bs.length, ∀ x ∈ bel (en t 0 p.1) p.1 (ds.getD p.1 0) (bs.getD p.2 0), 1 ≤ p.2 ∧ (x, p.2 - 1) ∈ standN t ds bs bs.length
def F_dated : MF := ⟨fun l h Q => ∃ (t : Tr) (ds : List Int), l = [t.pv, .tup (intP ds)] ∧ ds.length = t.size ∧ t.size ≤ 1000 ∧ (spl (t.nd 0) ds).length < 64 ∧ ((spl (t.nd 0) ds).length + 1) * t.size ≤ 900 ∧ ∀ ms : List Int, ms.Perm (spl (t.nd 0) ds) → ms.Pairwise (· ≤ ·) → okD t ds (0 :: ms) ∧ Q (.tup (dgL t ds (0 :: ms))) h,
  fun f ⟨t, ds, e, h1, h2, h3, h4, q⟩ => ⟨t, ds, e, h1, h2, h3, h4, fun ms a b => ⟨(q ms a b).1, f _ _ (q ms a b).2⟩⟩⟩
theorem dstay_dat (e : Ent) (l : List (Nat × Nat)) (j n : Nat) (d b : Int) : (dstay e l j n d b).dat = true := by
  unfold dstay
  cases e <;> simp [PV.dat, datL, nmP, natP_dat]
theorem fm_prP (g : Nat × Nat → PV) (f : PV → Option PV) : ∀ L : List (Nat × Nat), (∀ p ∈ L, f (.tup [.int (p.1 : Int), .int (p.2 : Int)]) = some (g p)) → (prP L).filterMap f = L.map g
  | [], _ => rfl
  | p :: L, h => by
    show List.filterMap f (.tup [.int (p.1 : Int), .int (p.2 : Int)] :: prP L) = _
    rw [List.filterMap_cons, h p List.mem_cons_self, fm_prP g f L fun q hq => h q (List.mem_cons_of_mem _ hq)]
    rfl
theorem R_dated (l : List PV) (h : PH) (Q : QV) (hh : limH h.length h) (hl : limL h.length l = true) (q : F_dated.run l h Q) : (b_dated F_nodes F_split F_stand F_stay).run (exitD h.length Q) (begin 6 l) h := by
  obtain ⟨t, ds, rfl, hd, hz, h64, h9, q⟩ := q
  unfold b_dated
  show MS.run _ _ [some t.pv, some (.tup (intP ds)), none, none, none, none] h
  one_item
  refine ⟨t, rfl, hz, ?_⟩
  one_item
  refine ⟨small' (Nat.le_of_ble_eq_true rfl), ?_⟩
  one_item
  refine ⟨t.nd 0, ds, rfl, by rw [t.nd_len, hd], by rw [t.nd_len]; exact hz, ?_⟩
  one_item
  refine ⟨spl (t.nd 0) ds, rfl, h64, fun ms hp hs => ?_⟩
  obtain ⟨ok, q⟩ := q ms hp hs
  have hml : ms.length = (spl (t.nd 0) ds).length := hp.length_eq
  one_item
  refine ⟨trivial, rfl, rfl, by show 1 + (ms.map PV.int).length ≤ _; rw [List.length_map]; exact small' (by omega), ?_⟩
  try dsimp only
  generalize hbs : (0 :: ms : List Int) = bs at ok q
  have ebs : ([PV.int 0] ++ ms.map PV.int) = intP bs := by rw [← hbs]; rfl
  have hbl : bs.length = (spl (t.nd 0) ds).length + 1 := by rw [← hbs, List.length_cons, hml]
  rw [ebs]
  one_item
  refine ⟨t, ds, bs, _, rfl, get_app0.trans rfl, hd, hz, by rw [hbl]; exact h9, by omega, ?_⟩
  have hL : (standN t ds bs bs.length).length ≤ 900 := Nat.le_trans (standN_len t ds bs bs.length) (by rw [hbl]; exact h9)
  have hnd := standN_nodup t ds bs bs.length
  have hmem : ∀ p ∈ standN t ds bs bs.length, p.2 < bs.length ∧ p.1 < t.size := fun p hp => standN_mem hp
  unfold dgL at q
  unfold okD at ok
  generalize standN t ds bs bs.length = L at q ok hL hnd hmem
  one_item
  refine lc_map (fun ps => ∃ a b, ps = [a, b]) swp ((get_app 1).trans rfl) (by show (enumV 0 (prP L)).length ≤ _; rw [enumV_len]; unfold prP; rw [List.length_map]; exact small' (by omega)) (fun x hx ps hps R hR => ?_) ?_ ⟨_, _, rfl⟩
  · obtain ⟨a, b, rfl⟩ := hps
    obtain ⟨i, hi⟩ := List.getElem?_of_mem hx
    obtain ⟨y, hy, rfl⟩ := enumV_get hi
    one_item
    exact ⟨small' (Nat.le_of_ble_eq_true rfl), rfl, ⟨_, _, rfl⟩, hR⟩
  try dsimp only
  rw [enum_swp]
  refine ⟨numK 0 L, rfl, by rw [numK_keys]; exact nd_map (fun x y z => key2_inj z) hnd, by rw [numK_len]; omega, ?_⟩
  have e2 : (h ++ [PO.lst (intP bs), .lst (prP L)]).length = h.length + 2 := by simp
  rw [e2, List.append_assoc]
  one_item
  refine lc_map (fun ps => ∃ a, ps = [a, some (.ref h.length), some (.tup (intP ds)), some (.tup ((t.nd 0).map Ent.pv)), some (.ref (h.length + 2))]) (fun x => match x with | .tup [.int j, .int n] => some (dstay (en t 0 j.toNat) L j.toNat n.toNat (ds.getD j.toNat 0) (bs.getD n.toNat 0)) | _ => none) ((get_app 1).trans rfl) (by show (prP L).length ≤ _; unfold prP; rw [List.length_map]; exact small' (by omega)) (fun x hx ps hps R hR => ?_) ?_ ⟨_, rfl⟩
  · obtain ⟨a, rfl⟩ := hps
    obtain ⟨p, hp', rfl⟩ := List.mem_map.mp (show x ∈ prP L from hx)
    obtain ⟨m1, m2⟩ := hmem p hp'
    one_item
    refine ⟨t.nd 0, ds, bs, h.length, h.length + 2, L, p.1, p.2, en t 0 p.1, ds.getD p.1 0, bs.getD p.2 0, rfl, get_app0.trans rfl, (get_app 2).trans rfl, nd_en t 0 p.1 m2, ?_, ?_, ok p hp', by omega, rfl, ⟨_, rfl⟩, hR⟩
    · rw [List.getD_eq_getElem?_getD, List.getElem?_eq_getElem (by omega)]; rfl
    · rw [List.getD_eq_getElem?_getD, List.getElem?_eq_getElem m1]; rfl
  · try dsimp only
    rw [fm_prP (fun p => dstay (en t 0 p.1) L p.1 p.2 (ds.getD p.1 0) (bs.getD p.2 0)) _ L fun p _ => rfl]
    one_item
    exact exit_drop (dat_lim _ _ (by rw [PV.dat]; exact dat_map (fun p => dstay_dat _ _ _ _ _ _) _)) hh rfl q
set_option maxHeartbeats 1000000
def F_pick : MF := ⟨fun l h Q => ∃ (p r : Nat) (xs : List PV), l = [.ref p, .ref r] ∧ h[p]? = some pot ∧ h[r]? = some (.lst xs) ∧ xs ≠ [] ∧ xs.length ≤ 1000 ∧ datL xs = true ∧ ∀ x ∈ xs, Q x h, fun f ⟨p, r, xs, e, h1, h2, h3, h4, h5, q⟩ => ⟨p, r, xs, e, h1, h2, h3, h4, h5, fun x hx => f _ _ (q x hx)⟩⟩
theorem R_pick (l : List PV) (h : PH) (Q : QV) (hh : limH h.length h) (hl : limL h.length l = true) (q : F_pick.run l h Q) : (b__law_pick F_take).run (exitD h.length Q) (begin 2 l) h := by
  obtain ⟨p, r, xs, rfl, hp, hr, hne, hz, hd, q⟩ := q
  have hpos : 0 < xs.length := List.length_pos_iff.mpr hne
  unfold b__law_pick
  show MS.run _ _ [some (.ref p), some (.ref r)] h
  one_item
  refine ⟨p, _, rfl, hp, by omega, by omega, fun d d0 d1 => ?_⟩
  obtain ⟨v, hv, hv2⟩ := atI_lt (xs := xs) d0 d1
  refine r_kIx hr hv ?_
  have hm := List.mem_of_getElem? hv2
  exact exit_same (dat_lim _ _ (datL_iff.mp hd v hm)) hh rfl (q v hm)
set_option maxHeartbeats 1000000
def shf (s : Nat) : Ent → Ent
  | .word x => .word x
  | .pair p q => .pair (p + s) (q + s)
theorem nd_shf : ∀ (t : Tr) (o s : Nat), t.nd (o + s) = (t.nd o).map (shf s)
  | .leaf _, _, _ => rfl
  | .node a b, o, s => by
    have ha := a.size_pos
    rw [Tr.nd, Tr.nd, nd_shf a o s, show o + s + a.size = o + a.size + s by omega, nd_shf b (o + a.size) s, List.map_append, List.map_append]
    congr 2
    show Ent.pair _ _ = Ent.pair _ _
    congr 1 <;> omega
def F_lnodes : Nat → MFL
  | 0 => ⟨fun _ _ _ => False, fun _ q => q⟩
  | n + 1 => ⟨fun l h Q => ∃ t : Tr, l = [t.pv] ∧ t.depth ≤ n ∧ t.size ≤ 900 ∧ Q ((t.nd 0).map Ent.pv) h, fun f ⟨t, e, h1, h2, q⟩ => ⟨t, e, h1, h2, f _ _ q⟩⟩
theorem R_lnodes (n : Nat) (l : List PV) (h : PH) (Q : List PV → PH → Prop) (hh : limH h.length h) (hl : limL h.length l = true) (q : (F_lnodes (n + 1)).run l h Q) : (b__law_nodes (F_lnodes n)).run (exitLD h.length Q) (begin 4 l) h := by
  obtain ⟨t, rfl, ht, hz, q⟩ := q
  unfold b__law_nodes
  show MS.run _ _ [some t.pv, none, none, none] h
  cases t with
  | leaf w =>
    rw [Tr.pv]
    one_item
    refine ⟨small' (Nat.le_of_ble_eq_true rfl), ?_⟩
    one_item
    exact exit_list (k := 0) rfl (by simp [limL, PV.lim, Ent.pv]) hh rfl q
  | node a b =>
    have hs : (Tr.node a b).size = a.size + b.size + 1 := rfl
    have hpa := a.size_pos
    have hpb := b.size_pos
    cases n with
    | zero => exact absurd ht (by simp [Tr.depth])
    | succ n =>
    have hda : a.depth ≤ n ∧ b.depth ≤ n := by simp [Tr.depth] at ht; omega
    rw [Tr.pv]
    one_item
    refine ⟨a, rfl, hda.1, by omega, ?_⟩
    one_item
    rw [List.length_map, a.nd_len]
    refine ⟨b, rfl, hda.2, by omega, ?_⟩
    one_item
    refine for_inv (fun i ps h' => ∃ o3, ps = [some (.tup [a.pv, b.pv]), some (.ref h.length), some (.int (a.size : Nat)), o3] ∧ h' = h ++ [.lst ((a.nd 0 ++ ((b.nd 0).take i).map (shf a.size)).map Ent.pv)]) (fun _ _ _ _ => trivial) (fun i x ps h' hx => ?_) (fun ps h' => ?_) ⟨_, rfl, by simp⟩
    · rintro ⟨o3, rfl, rfl⟩
      have hx' : ((b.nd 0).map Ent.pv)[i]? = some x := hx
      rw [List.getElem?_map] at hx'
      cases e : (b.nd 0)[i]? with
      | none => rw [e] at hx'; cases hx'
      | some en =>
        rw [e] at hx'
        have ex : en.pv = x := Option.some.inj hx'
        subst ex
        have hi : i < b.size := by have := (List.getElem?_eq_some_iff.mp e).1; rw [b.nd_len] at this; exact this
        have et : (b.nd 0).take (i + 1) = (b.nd 0).take i ++ [en] := by rw [List.take_succ, e]; rfl
        have hlen : ((a.nd 0 ++ ((b.nd 0).take i).map (shf a.size)).map Ent.pv).length < sizeLine := by
          rw [List.length_map, List.length_append, List.length_map, List.length_take, a.nd_len, b.nd_len]
          exact small1000 (by omega)
        one_item
        refine ⟨r_listAtA0 rfl, ?_⟩
        one_item
        cases en with
        | word w =>
          rw [Ent.pv]
          one_item
          refine r_appendA0 rfl hlen ?_
          refine ⟨_, rfl, ?_⟩
          rw [et, List.map_append (l₁ := List.take i (b.nd 0)), ← List.append_assoc, List.map_append (l₂ := List.map (shf a.size) [Ent.word w])]
          rfl
        | pair p r =>
          rw [Ent.pv]
          one_item
          refine ⟨small' (Nat.le_of_ble_eq_true rfl), ?_⟩
          one_item
          refine r_appendA0 rfl hlen ?_
          refine ⟨_, rfl, ?_⟩
          rw [et, List.map_append (l₁ := List.take i (b.nd 0)), ← List.append_assoc, List.map_append (l₂ := List.map (shf a.size) [Ent.pair p r])]
          rfl
    · rintro ⟨o3, rfl, rfl⟩
      have el : ((b.nd 0).map Ent.pv).length = (b.nd 0).length := List.length_map _
      try dsimp only
      rw [el, List.take_length, ← nd_shf b 0 a.size]
      have hL : ((a.nd 0 ++ b.nd (0 + a.size)).map Ent.pv).length = a.size + b.size := by rw [List.length_map, List.length_append, a.nd_len, b.nd_len]
      one_item
      rw [hL]
      refine ⟨small' (Nat.le_of_ble_eq_true rfl), ?_⟩
      one_item
      refine ⟨small' (Nat.le_of_ble_eq_true rfl), ?_⟩
      one_item
      refine ⟨get_app0.trans rfl, rfl, rfl, small' (by show a.size + b.size + 1 ≤ _; omega), ?_⟩
      try dsimp only
      have en2 : (a.nd 0 ++ b.nd (0 + a.size)).map Ent.pv ++ [PV.tup [.int ((a.size : Nat) - (1 : Int)), .int ((a.size + b.size : Nat) - (1 : Int))]] = ((Tr.node a b).nd 0).map Ent.pv := by
        rw [Tr.nd, List.map_append (l₂ := [_])]
        congr 1
        show [PV.tup [_, _]] = [PV.tup [_, _]]
        rw [show ((a.size : Nat) : Int) - 1 = ((0 + a.size - 1 : Nat) : Int) by omega, show ((a.size + b.size : Nat) : Int) - 1 = ((0 + a.size + b.size - 1 : Nat) : Int) by omega]
      rw [en2]
      one_item
      exact exit_list (k := 1) rfl (lim_map Ent.pv_dat _ _) hh rfl q
set_option maxHeartbeats 1000000
def isPr : Ent → Bool
  | .word _ => false
  | .pair _ _ => true
structure Dt (t : Tr) (ds : List Int) (left : List Nat) (d : Int) : Prop where
  len : ds.length = t.size
  zero : ∀ j, j < t.size → (isPr (en t 0 j) = false ∨ j ∈ left) → ds.getD j 0 = 0
  up : ∀ j, j < t.size → j ∉ left → ∀ a b, en t 0 j = .pair a b → a ∉ left ∧ b ∉ left ∧ ds.getD a 0 < ds.getD j 0 ∧ ds.getD b 0 < ds.getD j 0 ∧ 1 ≤ ds.getD j 0 ∧ ds.getD j 0 ≤ d
  inj : ∀ i j, i < t.size → j < t.size → i ∉ left → j ∉ left → isPr (en t 0 i) = true → isPr (en t 0 j) = true → ds.getD i 0 = ds.getD j 0 → i = j
  pos : 0 ≤ d
  lft : ∀ j ∈ left, j < t.size ∧ isPr (en t 0 j) = true
  ris : left.Pairwise (· < ·)
theorem getD_set_self {l : List Int} {i : Nat} {v : Int} (h : i < l.length) : (l.set i v).getD i 0 = v := by rw [List.getD_eq_getElem?_getD, List.getElem?_set_self h]; rfl
theorem getD_set_ne {l : List Int} {i j : Nat} {v : Int} (h : i ≠ j) : (l.set i v).getD j 0 = l.getD j 0 := by rw [List.getD_eq_getElem?_getD, List.getElem?_set_ne h, ← List.getD_eq_getElem?_getD]
theorem mem_erase_ris {l : List Nat} (h : l.Pairwise (· < ·)) {x y : Nat} : y ∈ l.erase x ↔ y ∈ l ∧ y ≠ x := by
  have nd : l.Nodup := h.imp (fun z => Nat.ne_of_lt z)
  rw [nd.mem_erase_iff]
  exact ⟨fun z => ⟨z.2, z.1⟩, fun z => ⟨z.2, z.1⟩⟩
theorem en_halves (t : Tr) {j a b : Nat} (h : j < t.size) (e : en t 0 j = .pair a b) : a < j ∧ b < j := by
  rcases be_en t 0 j h with ⟨x, e1, _⟩ | ⟨a', b', e1, e2, e3, _⟩
  · rw [e1] at e; cases e
  · rw [e1] at e; injection e with h1 h2; omega
theorem Dt.next {t : Tr} {ds : List Int} {left : List Nat} {d x : Int} {j a b : Nat} (D : Dt t ds left d) (hj : j ∈ left) (e : en t 0 j = .pair a b) (ha : a ∉ left) (hb : b ∉ left) (hx : 0 ≤ x) : Dt t (ds.set j (d + 1 + x)) (left.erase j) (d + 1 + x) := by
  obtain ⟨hjs, hjp⟩ := D.lft j hj
  obtain ⟨haj, hbj⟩ := en_halves t hjs e
  have hjl : j < ds.length := by rw [D.len]; exact hjs
  have hm : ∀ y, y ∈ left.erase j ↔ y ∈ left ∧ y ≠ j := fun y => mem_erase_ris D.ris
  -- what is dated is at most d
  have low : ∀ y, y < t.size → y ∉ left → ds.getD y 0 ≤ d := fun y hy hyl => by
    cases ey : en t 0 y with
    | word w => rw [D.zero y hy (.inl (by rw [ey]; rfl))]; exact D.pos
    | pair p q => exact (D.up y hy hyl p q ey).2.2.2.2.2
  refine ⟨by rw [List.length_set]; exact D.len, fun y hy hc => ?_, fun y hy hyl p q ey => ?_, fun u v hu hv hul hvl pu pv huv => ?_, by have := D.pos; omega, fun y hy => D.lft y ((hm y).mp hy).1, List.Pairwise.sublist List.erase_sublist D.ris⟩
  · have hyj : j ≠ y := fun z => by
      subst z
      rcases hc with hc | hc
      · rw [hjp] at hc; cases hc
      · exact ((hm j).mp hc).2 rfl
    rw [getD_set_ne hyj]
    exact D.zero y hy (hc.imp id fun z => ((hm y).mp z).1)
  · by_cases hyj : j = y
    · subst hyj
      rw [e] at ey
      injection ey with h1 h2
      subst h1 h2
      have la := low a (by omega) ha
      have lb := low b (by omega) hb
      rw [getD_set_self hjl, getD_set_ne (by omega), getD_set_ne (by omega)]
      have := D.pos
      exact ⟨fun z => ha ((hm a).mp z).1, fun z => hb ((hm b).mp z).1, by omega, by omega, by omega, by omega⟩
    · have hyl' : y ∉ left := fun z => hyl ((hm y).mpr ⟨z, Ne.symm hyj⟩)
      obtain ⟨p1, p2, p3, p4, p5, p6⟩ := D.up y hy hyl' p q ey
      have np : j ≠ p := fun z => p1 (z ▸ hj)
      have nq : j ≠ q := fun z => p2 (z ▸ hj)
      rw [getD_set_ne hyj, getD_set_ne np, getD_set_ne nq]
      exact ⟨fun z => p1 ((hm p).mp z).1, fun z => p2 ((hm q).mp z).1, p3, p4, p5, by omega⟩
  · by_cases c1 : j = u
    · by_cases c2 : j = v
      · exact c1.symm.trans c2
      · exfalso
        subst c1
        have hvl' : v ∉ left := fun z => hvl ((hm v).mpr ⟨z, Ne.symm c2⟩)
        rw [getD_set_self hjl, getD_set_ne c2] at huv
        have := low v hv hvl'
        omega
    · have hul' : u ∉ left := fun z => hul ((hm u).mpr ⟨z, Ne.symm c1⟩)
      by_cases c2 : j = v
      · exfalso
        subst c2
        rw [getD_set_self hjl, getD_set_ne c1] at huv
        have := low u hu hul'
        omega
      · have hvl' : v ∉ left := fun z => hvl ((hm v).mpr ⟨z, Ne.symm c2⟩)
        rw [getD_set_ne c1, getD_set_ne c2] at huv
        exact D.inj u v hu hv hul' hvl' pu pv huv
def splits (t : Tr) : List Nat := (List.range t.size).filter fun j => isPr (en t 0 j)
theorem Dt.first (t : Tr) : Dt t (List.replicate t.size 0) (splits t) 0 := by
  have z : ∀ j, (List.replicate t.size (0 : Int)).getD j 0 = 0 := fun j => by
    rw [List.getD_eq_getElem?_getD, List.getElem?_replicate]
    split <;> rfl
  have mem : ∀ j, j ∈ splits t ↔ j < t.size ∧ isPr (en t 0 j) = true := fun j => by unfold splits; rw [List.mem_filter, List.mem_range]
  refine ⟨List.length_replicate, fun j _ _ => z j, fun j hj hn a b e => absurd ((mem j).mpr ⟨hj, by rw [e]; rfl⟩) hn, fun i j hi hj hni _ pi _ _ => absurd ((mem i).mpr ⟨hi, pi⟩) hni, Int.le_refl _, fun j hj => (mem j).mp hj, ?_⟩
  unfold splits
  exact List.Pairwise.filter _ List.pairwise_lt_range
set_option maxHeartbeats 1000000
theorem enum_nd (t : Tr) : enumV 0 ((t.nd 0).map Ent.pv) = (List.range t.size).map fun j => PV.tup [.int ((j : Nat) : Int), (en t 0 j).pv] := by
  have hl : (enumV 0 ((t.nd 0).map Ent.pv)).length = t.size := by rw [enumV_len, List.length_map, t.nd_len]
  apply List.ext_getElem?
  intro i
  by_cases hi : i < t.size
  · have h1 : (enumV 0 ((t.nd 0).map Ent.pv))[i]? = some ((enumV 0 ((t.nd 0).map Ent.pv))[i]'(by omega)) := List.getElem?_eq_getElem _
    obtain ⟨y, hy, e⟩ := enumV_get h1
    rw [List.getElem?_map, nd_en t 0 i hi] at hy
    have hy' : (en t 0 i).pv = y := Option.some.inj hy
    rw [h1, e, ← hy', List.getElem?_map, List.getElem?_range hi, Nat.zero_add]
    rfl
  · rw [List.getElem?_eq_none (by omega), List.getElem?_eq_none (by rw [List.length_map, List.length_range]; omega)]
def lftF : PV → Option PV
  | .tup [_, .str _] => none
  | .tup [k, _] => some k
  | _ => none
theorem lft_fm (t : Tr) : (enumV 0 ((t.nd 0).map Ent.pv)).filterMap lftF = natP (splits t) := by
  rw [enum_nd]
  unfold splits
  generalize List.range t.size = l
  induction l with
  | nil => rfl
  | cons j l ih =>
    rw [List.map_cons, List.filterMap_cons, List.filter_cons]
    cases e : en t 0 j with
    | word w => exact ih
    | pair a b =>
      show PV.int ((j : Nat) : Int) :: _ = _
      rw [ih]
      rfl
theorem natP_ints (l : List Nat) : natP l = (l.map fun n => ((n : Nat) : Int)).map PV.int := by unfold natP; rw [List.map_map]; rfl
theorem erase_ints (y : Nat) : ∀ l : List Nat, (l.map fun n => ((n : Nat) : Int)).erase (y : Int) = (l.erase y).map fun n => ((n : Nat) : Int)
  | [] => rfl
  | a :: l => by
    rw [List.map_cons, List.erase_cons, List.erase_cons, erase_ints y l]
    by_cases c : a = y
    · subst c; simp
    · have c1 : (((a : Nat) : Int) == (y : Int)) = false := by simp; omega
      have c2 : (a == y) = false := by simpa using c
      rw [c1, c2]; simp
theorem intP_set (ds : List Int) (y : Nat) (v : Int) : (intP ds).set y (.int v) = intP (ds.set y v) := by unfold intP; rw [List.map_set]
def F_dates : MF := ⟨fun l h Q => ∃ (p r : Nat) (t : Tr), l = [.ref p, .ref r] ∧ h[p]? = some pot ∧ h[r]? = some (.lst ((t.nd 0).map Ent.pv)) ∧ t.size ≤ 900 ∧ ∀ ds d, Dt t ds [] d → d ≤ 13 * ((splits t).length : Int) → Q (.tup (intP ds)) h, fun f ⟨p, r, t, e, h1, h2, h3, q⟩ => ⟨p, r, t, e, h1, h2, h3, fun ds d a b => f _ _ (q ds d a b)⟩⟩
def rdyF (t : Tr) (left : List Nat) : PV → Option PV
  | .int k => match en t 0 k.toNat with
    | .pair a b => if (!decide (a ∈ left) && !decide (b ∈ left)) = true then some (.int k) else none
    | _ => none
  | _ => none
theorem menu13 {d : Int} (h0 : 0 ≤ d) (h1 : d < 3) : ∃ m : Int, atI [PV.int 1, PV.int 3, PV.int 13] d = some (.int m) ∧ 0 < m ∧ m ≤ 13 := by
  have : d = 0 ∨ d = 1 ∨ d = 2 := by omega
  rcases this with rfl | rfl | rfl
  · exact ⟨1, rfl, by decide, by decide⟩
  · exact ⟨3, rfl, by decide, by decide⟩
  · exact ⟨13, rfl, by decide, by decide⟩
theorem ris_len : ∀ (l : List Nat) (k n : Nat), l.Pairwise (· < ·) → (∀ x ∈ l, k ≤ x ∧ x < n) → l.length ≤ n - k
  | [], _, _, _, _ => Nat.zero_le _
  | a :: l, k, n, h, hb => by
    have h1 := (List.pairwise_cons.mp h)
    have h2 := hb a List.mem_cons_self
    have ih := ris_len l (a + 1) n h1.2 fun x hx => ⟨h1.1 x hx, (hb x (List.mem_cons_of_mem _ hx)).2⟩
    rw [List.length_cons]
    omega
theorem rdy_mem {t : Tr} {left : List Nat} {x : PV} (h : x ∈ (natP left).filterMap (rdyF t left)) : ∃ y a b, y ∈ left ∧ x = .int ((y : Nat) : Int) ∧ en t 0 y = .pair a b ∧ a ∉ left ∧ b ∉ left := by
  obtain ⟨z, hz, hf⟩ := List.mem_filterMap.mp h
  obtain ⟨y, hy, rfl⟩ := List.mem_map.mp hz
  unfold rdyF at hf
  dsimp only at hf
  rw [show ((y : Nat) : Int).toNat = y by omega] at hf
  cases e : en t 0 y with
  | word w => rw [e] at hf; cases hf
  | pair a b =>
    rw [e] at hf
    dsimp only at hf
    by_cases c : (!decide (a ∈ left) && !decide (b ∈ left)) = true
    · rw [if_pos c] at hf
      cases hf
      simp at c
      exact ⟨y, a, b, hy, rfl, e, c.1, c.2⟩
    · rw [if_neg c] at hf; cases hf
theorem R_dates (l : List PV) (h : PH) (Q : QV) (hh : limH h.length h) (hl : limL h.length l = true) (q : F_dates.run l h Q) : (b__law_dates F_pick F_take).run (exitD h.length Q) (begin 7 l) h := by
  obtain ⟨p, r, t, rfl, hp, hr, hz, q⟩ := q
  unfold b__law_dates
  show MS.run _ _ [some (.ref p), some (.ref r), none, none, none, none, none] h
  one_item
  refine ⟨small' (Nat.le_of_ble_eq_true rfl), ?_⟩
  one_item
  rw [List.length_map, t.nd_len]
  refine r_kRep1 (small' (by omega)) ?_
  have e0 : List.replicate t.size (PV.int 0) = intP (List.replicate t.size 0) := by unfold intP; rw [List.map_replicate]
  rw [e0]
  one_item
  refine lc_map (fun ps => ∃ a b, ps = [a, b]) lftF (get_old' hr) (by show (enumV 0 _).length ≤ _; rw [enumV_len, List.length_map, t.nd_len]; exact small' (by omega)) (fun x hx ps hps R hR => ?_) ?_ ⟨_, _, rfl⟩
  · obtain ⟨a, b, rfl⟩ := hps
    have hx' : x ∈ enumV 0 ((t.nd 0).map Ent.pv) := hx
    rw [enum_nd] at hx'
    obtain ⟨j, hj, rfl⟩ := List.mem_map.mp hx'
    one_item
    cases en t 0 j with
    | word w =>
      rw [Ent.pv]
      one_item
      exact ⟨rfl, ⟨_, _, rfl⟩, hR⟩
    | pair u v =>
      rw [Ent.pv]
      one_item
      exact ⟨rfl, ⟨_, _, rfl⟩, hR⟩
  try dsimp only
  rw [lft_fm]
  one_item
  refine while_inv (fun n ps h' => ∃ (ds : List Int) (left : List Nat) (d : Int) (o3 o6 : Option PV) (g : PH), n = left.length ∧ ps = [some (.ref p), some (.ref r), some (.ref h.length), o3, some (.ref (h.length + 1)), some (.int d), o6] ∧ h' = h ++ (.lst (intP ds) :: .lst (natP left) :: g) ∧ Dt t ds left d ∧ d + 13 * (left.length : Int) ≤ 13 * ((splits t).length : Int)) (fun n ps h' => ?_) (n := (splits t).length) ⟨_, _, _, _, _, [], rfl, rfl, rfl, Dt.first t, by omega⟩
  rintro ⟨ds, left, d, o3, o6, g, rfl, rfl, rfl, D, hd⟩
  one_item
  cases left with
  | nil =>
    show (if false = true then _ else _)
    one_item
    exact exit_drop (dat_lim _ _ (by rw [PV.dat]; exact intP_dat _)) hh rfl (q ds d D (by simpa using hd))
  | cons y0 left0 =>
    generalize hleft : y0 :: left0 = left at D hd
    have hl0 : y0 ∈ left := by rw [← hleft]; exact List.mem_cons_self
    have hne : (!(natP left).isEmpty) = true := by rw [← hleft]; rfl
    have hll : left.length ≤ t.size := by
      have := ris_len left 0 t.size D.ris fun x hx => ⟨Nat.zero_le _, (D.lft x hx).1⟩
      omega
    have hpr : ∀ y ∈ left, ∃ a b, en t 0 y = .pair a b := fun y hy => by
      have := (D.lft y hy).2
      cases e : en t 0 y with
      | word w => rw [e] at this; cases this
      | pair a b => exact ⟨a, b, rfl⟩
    have hsome : (natP left).filterMap (rdyF t left) ≠ [] := by
      obtain ⟨a, b, e⟩ := hpr y0 hl0
      obtain ⟨ha, hb⟩ := en_halves t (D.lft y0 hl0).1 e
      have hmin : ∀ z ∈ left, y0 ≤ z := fun z hz => by
        have hr := D.ris
        rw [← hleft] at hr hz
        rcases List.mem_cons.mp hz with rfl | hz
        · exact Nat.le_refl _
        · exact Nat.le_of_lt ((List.pairwise_cons.mp hr).1 z hz)
      have na : a ∉ left := fun z => by have := hmin a z; omega
      have nb : b ∉ left := fun z => by have := hmin b z; omega
      refine List.ne_nil_of_mem (a := PV.int ((y0 : Nat) : Int)) (List.mem_filterMap.mpr ⟨_, List.mem_map.mpr ⟨y0, hl0, rfl⟩, ?_⟩)
      unfold rdyF
      dsimp only
      rw [show ((y0 : Nat) : Int).toNat = y0 by omega, e]
      simp [na, nb]
    try dsimp only
    rw [hne]
    one_item
    refine lc_map (fun ps => ∃ a, ps = [a, some (.ref (h.length + 1)), some (.ref r)]) (rdyF t left) ((get_app 1).trans rfl) (by show (natP left).length ≤ _; rw [natP_len]; exact small' (by omega)) (fun x hx ps hps R hR => ?_) ?_ ⟨_, rfl⟩
    · obtain ⟨w, rfl⟩ := hps
      obtain ⟨y, hy, rfl⟩ := List.mem_map.mp (show x ∈ natP left from hx)
      obtain ⟨a, b, e⟩ := hpr y hy
      have hat := at_map (f := Ent.pv) (nd_en t 0 y (D.lft y hy).1)
      rw [e] at hat
      have ef : ∀ c : Bool, (!decide (a ∈ left) && !decide (b ∈ left)) = c → rdyF t left (.int ((y : Nat) : Int)) = if c = true then some (.int ((y : Nat) : Int)) else none := fun c hc => by
        unfold rdyF
        dsimp only
        rw [show ((y : Nat) : Int).toNat = y by omega, e]
        dsimp only
        rw [hc]
      one_item
      refine r_kIx (get_old' hr) hat ?_
      rw [Ent.pv]
      one_item
      refine r_notIn (by simp [PV.dat]) (natP_dat _) (dep_natP _) ?_
      rw [inB_nat]
      one_item
      cases c1 : decide (a ∈ left) with
      | true =>
        rw [Bool.not_true]
        one_item
        exact ⟨ef false (by rw [c1]; rfl), ⟨_, rfl⟩, hR⟩
      | false =>
        rw [Bool.not_false]
        one_item
        refine r_kIx (get_old' hr) hat ?_
        rw [Ent.pv]
        one_item
        refine r_notIn (by simp [PV.dat]) (natP_dat _) (dep_natP _) ?_
        rw [inB_nat]
        one_item
        cases c2 : decide (b ∈ left) with
        | true =>
          rw [Bool.not_true]
          one_item
          exact ⟨ef false (by rw [c1, c2]; rfl), ⟨_, rfl⟩, hR⟩
        | false =>
          rw [Bool.not_false]
          one_item
          exact ⟨ef true (by rw [c1, c2]; rfl), ⟨_, rfl⟩, hR⟩
    have hrl : ((natP left).filterMap (rdyF t left)).length ≤ 1000 := Nat.le_trans (List.length_filterMap_le _ _) (by rw [natP_len]; omega)
    have hrd : datL ((natP left).filterMap (rdyF t left)) = true := datL_iff.mpr fun x hx => by
      obtain ⟨y, a, b, _, rfl, _⟩ := rdy_mem hx
      simp [PV.dat]
    have hrm : ∀ x ∈ (natP left).filterMap (rdyF t left), ∃ y a b, y ∈ left ∧ x = .int ((y : Nat) : Int) ∧ en t 0 y = .pair a b ∧ a ∉ left ∧ b ∉ left := fun x hx => rdy_mem hx
    try dsimp only
    generalize (natP left).filterMap (rdyF t left) = xs at hsome hrl hrd hrm
    try refine r_kAl ?_
    obtain ⟨h2, hh2⟩ : ∃ h2, h2 = h ++ (PO.lst (intP ds) :: .lst (natP left) :: g) ++ [.lst xs] := ⟨_, rfl⟩
    rw [← hh2]
    have G0 : h2[h.length]? = some (.lst (intP ds)) := by rw [hh2, List.append_assoc]; exact get_app0.trans rfl
    have G1 : h2[h.length + 1]? = some (.lst (natP left)) := by rw [hh2, List.append_assoc]; exact (get_app 1).trans rfl
    have G2 : h2[(h ++ (PO.lst (intP ds) :: .lst (natP left) :: g)).length]? = some (.lst xs) := by rw [hh2]; exact get_app0.trans rfl
    have Gp : h2[p]? = some pot := by rw [hh2, List.append_assoc]; exact get_old' hp
    generalize (h ++ (PO.lst (intP ds) :: .lst (natP left) :: g)).length = nn at G2 ⊢
    one_item
    refine ⟨p, nn, xs, rfl, Gp, G2, hsome, hrl, hrd, fun x hx => ?_⟩
    obtain ⟨y, a, b, hy, rfl, e, na, nb⟩ := hrm x hx
    one_item
    refine ⟨small' (Nat.le_of_ble_eq_true rfl), ?_⟩
    one_item
    refine ⟨p, 3, rfl, Gp, by decide, by decide, fun d3 a3 b3 => ?_⟩
    obtain ⟨m, hm, m0, m1⟩ := menu13 a3 b3
    refine r_kIx trivial hm ?_
    one_item
    refine ⟨p, m, rfl, Gp, m0, by omega, fun x x0 x1 => ?_⟩
    have D' := D.next hy e na nb x0
    have hys := (D.lft y hy).1
    one_item
    refine r_sList G0 (j := y) (by rw [intP_len, D.len]; exact ixN_nat hys) ?_
    rw [intP_set]
    have hlt : h.length < h2.length := (List.getElem?_eq_some_iff.mp G0).1
    have G1' : (h2.set h.length (.lst (intP (ds.set y (d + 1 + x)))))[h.length + 1]? = some (.lst (natP left)) := by rw [List.getElem?_set_ne (by omega)]; exact G1
    one_item
    refine ⟨r_listAt G1', ?_⟩
    one_item
    rw [natP_ints] at G1'
    refine r_remove G1' (List.mem_map.mpr ⟨y, hy, rfl⟩) ?_
    rw [erase_ints, ← natP_ints]
    have hle : (left.erase y).length + 1 = left.length := by
      have := List.length_erase_of_mem hy
      have := List.length_pos_of_mem hy
      omega
    refine ⟨(left.erase y).length, by omega, ds.set y (d + 1 + x), left.erase y, d + 1 + x, _, _, g ++ [.lst xs], rfl, rfl, ?_, D', by omega⟩
    rw [hh2, List.append_assoc, set_app0, set_app]
    rfl
set_option maxHeartbeats 1000000
def bas (m : Nat) : Nat → Int
  | 0 => 0
  | i + 1 => bas m i + (m : Int) - (0 + (i : Int))
def blw (m : Nat) : Nat → Int
  | 0 => 0
  | i + 1 => bas m i
def hereV (m i : Nat) : List PV := intsV (bas m i) (bas m i + (m : Int) - (0 + (i : Int)) - bas m i).toNat
def besV (m i j : Nat) : List PV := (hereV m i).filterMap fun x => match x with | .int k => if k = bas m i + (j : Int) then none else some (.int k) | _ => none
def nmV (all : List Str) (i j : Nat) : PV := if j = 0 ∧ 0 < i then .int (2 * (0 + (i : Int))) else .str (all.getD (i + j) "")
def undV (m i j : Nat) : PV := if i = 0 then .tup [] else if j = 0 then .tup [.int (blw m i), .int (blw m i + 1)] else .tup [.int (blw m i + 1 + (bas m i + (j : Int)) - bas m i)]
def entV (all : List Str) (i j : Nat) : PV := .tup [nmV all i j, .int (0 + (i : Int)), undV all.length i j, .tup (besV all.length i j)]
def stayL (all : List Str) : Nat → List PV
  | 0 => []
  | i + 1 => stayL all i ++ (List.range (all.length - i)).map (entV all i)
def F_stays15 : MF := ⟨fun l h Q => ∃ (p : Nat) (all : List Str), l = [.ref p] ∧ h[p]? = some (.lst (all.map PV.str)) ∧ all.length ≤ 20 ∧ Q (.tup (stayL all all.length)) h, fun f ⟨p, all, e, h1, h2, q⟩ => ⟨p, all, e, h1, h2, f _ _ q⟩⟩
theorem stayL_len (all : List Str) : ∀ i, (stayL all i).length ≤ i * all.length
  | 0 => Nat.zero_le _
  | i + 1 => by
    rw [stayL, List.length_append, List.length_map, List.length_range, Nat.succ_mul]
    have := stayL_len all i
    omega
theorem bas_bd (m : Nat) : ∀ i, i ≤ m → 0 ≤ bas m i ∧ bas m i ≤ (i : Int) * (m : Int)
  | 0, _ => by simp [bas]
  | i + 1, h => by
    have ih := bas_bd m i (by omega)
    rw [bas]
    have e : ((i + 1 : Nat) : Int) * (m : Int) = (i : Int) * (m : Int) + (m : Int) := by rw [Int.natCast_add, Int.add_mul]; simp
    rw [e]
    generalize (i : Int) * (m : Int) = z at ih ⊢
    omega
theorem besV_dat (m i j : Nat) : datL (besV m i j) = true := datL_iff.mpr fun x hx => by
  unfold besV at hx
  obtain ⟨y, _, hy⟩ := List.mem_filterMap.mp hx
  cases y <;> simp at hy
  obtain ⟨_, rfl⟩ := hy
  simp [PV.dat]
theorem entV_dat (all : List Str) (i j : Nat) : (entV all i j).dat = true := by
  unfold entV nmV undV
  split <;> split <;> (try split) <;> simp [PV.dat, datL, besV_dat]
theorem stayL_dat (all : List Str) : ∀ i, datL (stayL all i) = true
  | 0 => rfl
  | i + 1 => by rw [stayL, datL_app, stayL_dat all i, dat_map (entV_dat all i)]; rfl
theorem R_stays15 (l : List PV) (h : PH) (Q : QV) (hh : limH h.length h) (hl : limL h.length l = true) (q : F_stays15.run l h Q) : b__law_stays.run (exitD h.length Q) (begin 11 l) h := by
  obtain ⟨p, all, rfl, hp, hm, q⟩ := q
  unfold b__law_stays
  show MS.run _ _ [some (.ref p), none, none, none, none, none, none, none, none, none, none] h
  one_item
  rw [List.length_map]
  refine ⟨small' (Nat.le_of_ble_eq_true rfl), ?_⟩
  one_item
  refine ⟨small' (Nat.le_of_ble_eq_true rfl), ?_⟩
  one_item
  refine r_kR1 ⟨by omega, by omega⟩ ?_
  rw [show ((all.length : Nat) : Int).toNat = all.length by omega]
  refine for_inv (fun i ps h' => ∃ o5 o6 o7 o8 o9 o10 g, ps = [some (.ref p), some (.int (all.length : Nat)), some (.ref h.length), some (.int (bas all.length i)), some (.int (blw all.length i)), o5, o6, o7, o8, o9, o10] ∧ h' = h ++ (.lst (stayL all i) :: g)) (fun _ _ _ _ => trivial) (fun i x ps h' hx => ?_) (fun ps h' => ?_) ⟨_, _, _, _, _, _, [], rfl, rfl⟩
  · rintro ⟨o5, o6, o7, o8, o9, o10, g, rfl, rfl⟩
    obtain ⟨hi, rfl⟩ := intsV_get hx
    obtain ⟨b0, b1⟩ := bas_bd all.length i (by omega)
    have b2 : (i : Int) * (all.length : Int) ≤ 400 := by
      have : i * all.length ≤ 20 * 20 := Nat.mul_le_mul (by omega) hm
      exact_mod_cast this
    have hsl := stayL_len all i
    have hsl2 : i * all.length ≤ 20 * 20 := Nat.mul_le_mul (by omega) hm
    have hn : (bas all.length i + (all.length : Int) - (0 + (i : Int)) - bas all.length i).toNat = all.length - i := by omega
    one_item
    refine r_kLR2 ⟨⟨by omega, by omega, by omega, by omega⟩, by omega⟩ ?_
    try refine r_kAl ?_
    obtain ⟨h2, hh2⟩ : ∃ h2, h2 = h ++ (PO.lst (stayL all i) :: g) ++ [.lst (hereV all.length i)] := ⟨_, rfl⟩
    have hh3 : h ++ (PO.lst (stayL all i) :: g) ++ [.lst (intsV (bas all.length i) (bas all.length i + (all.length : Int) - (0 + (i : Int)) - bas all.length i).toNat)] = h2 := hh2.symm
    rw [hh3]
    have G0 : h2[h.length]? = some (.lst (stayL all i)) := by rw [hh2, List.append_assoc]; exact get_app0.trans rfl
    have G2 : h2[(h ++ (PO.lst (stayL all i) :: g)).length]? = some (.lst (hereV all.length i)) := by rw [hh2]; exact get_app0.trans rfl
    have Gp : h2[p]? = some (.lst (all.map PV.str)) := by rw [hh2, List.append_assoc]; exact get_old' hp
    have hnn : h.length < (h ++ (PO.lst (stayL all i) :: g)).length := by simp
    have hpl : p < h.length := (List.getElem?_eq_some_iff.mp hp).1
    generalize (h ++ (PO.lst (stayL all i) :: g)).length = nn at G2 hnn ⊢
    have set_id : h2.set h.length (.lst (stayL all i ++ (List.range 0).map (entV all i))) = h2 := by
      obtain ⟨g1, g2⟩ := List.getElem?_eq_some_iff.mp G0
      rw [List.range_zero, List.map_nil, List.append_nil, ← g2]
      exact List.set_getElem_self g1
    have hlt2 : h.length < h2.length := (List.getElem?_eq_some_iff.mp G0).1
    one_item
    refine for_inv (fun j ps h' => ∃ o7 o8 o9 o10, ps = [some (.ref p), some (.int (all.length : Nat)), some (.ref h.length), some (.int (bas all.length i)), some (.int (blw all.length i)), some (.int (0 + (i : Int))), some (.ref nn), o7, o8, o9, o10] ∧ h' = h2.set h.length (.lst (stayL all i ++ (List.range j).map (entV all i)))) (fun _ _ _ q => by obtain ⟨_, _, _, _, _, rfl⟩ := q; exact (List.getElem?_set_ne (by omega)).trans G2) (fun j x ps h' hx => ?_) (fun ps h' => ?_) ⟨_, _, _, _, rfl, set_id.symm⟩
    · rintro ⟨o7, o8, o9, o10, rfl, rfl⟩
      obtain ⟨hj, rfl⟩ := intsV_get (show (hereV all.length i)[j]? = some x from hx)
      have hj : j < all.length - i := by omega
      have hX : (stayL all i ++ (List.range j).map (entV all i)).length ≤ 500 := by rw [List.length_append, List.length_map, List.length_range]; omega
      obtain ⟨h3, hh4⟩ : ∃ h3, h3 = h2.set h.length (.lst (stayL all i ++ (List.range j).map (entV all i))) := ⟨_, rfl⟩
      rw [← hh4]
      have G0' : h3[h.length]? = some (.lst (stayL all i ++ (List.range j).map (entV all i))) := by rw [hh4]; exact List.getElem?_set_self hlt2
      have G2' : h3[nn]? = some (.lst (hereV all.length i)) := by rw [hh4, List.getElem?_set_ne (by omega)]; exact G2
      have Gp' : h3[p]? = some (.lst (all.map PV.str)) := by rw [hh4, List.getElem?_set_ne (by omega)]; exact Gp
      have fin : ∀ nm und : PV, nmV all i j = nm → undV all.length i j = und → h3.set h.length (.lst (stayL all i ++ (List.range j).map (entV all i) ++ [.tup [nm, .int (0 + (i : Int)), und, .tup (besV all.length i j)]])) = h2.set h.length (.lst (stayL all i ++ (List.range (j + 1)).map (entV all i))) := by
        intro nm und e1 e2
        subst e1 e2
        rw [hh4, List.set_set, List.range_succ, List.map_append, ← List.append_assoc]
        rfl
      one_item
      refine lc_map (fun ps => ∃ a, ps = [a, some (.int (bas all.length i + (j : Int)))]) (fun x => match x with | .int k => if k = bas all.length i + (j : Int) then none else some (.int k) | _ => none) G2' (by show (hereV all.length i).length ≤ _; unfold hereV; rw [intsV_len]; exact small' (by omega)) (fun x hx ps hps R hR => ?_) ?_ ⟨_, rfl⟩
      · obtain ⟨a, rfl⟩ := hps
        obtain ⟨k, hk⟩ := List.getElem?_of_mem hx
        obtain ⟨_, rfl⟩ := intsV_get (show (hereV all.length i)[k]? = some x from hk)
        one_item
        cases c : decide (bas all.length i + (k : Int) = bas all.length i + (j : Int)) with
        | true =>
          rw [Bool.not_true]
          one_item
          exact ⟨if_pos (of_decide_eq_true c), ⟨_, rfl⟩, hR⟩
        | false =>
          rw [Bool.not_false]
          one_item
          exact ⟨if_neg (of_decide_eq_false c), ⟨_, rfl⟩, hR⟩
      have eb : (hereV all.length i).filterMap (fun x => match x with | .int k => if k = bas all.length i + (j : Int) then none else some (PV.int k) | _ => none) = besV all.length i j := rfl
      try dsimp only
      rw [eb]
      one_item
      have hw : (all.map PV.str)[i + j]? = some (.str (all.getD (i + j) "")) := by rw [List.getElem?_map, List.getD_eq_getElem?_getD, List.getElem?_eq_getElem (by omega)]; rfl
      refine r_kIx Gp' (v := .str (all.getD (i + j) "")) (by rw [show (0 : Int) + (i : Int) + (bas all.length i + (j : Int)) - bas all.length i = ((i + j : Nat) : Int) by omega]; exact atI_nat hw) ?_
      one_item
      refine ⟨small' (Nat.le_of_ble_eq_true rfl), ?_⟩
      one_item
      by_cases cj : j = 0
      · rw [decide_eq_true (show bas all.length i + (j : Int) = bas all.length i by omega)]
        one_item
        by_cases ci : i = 0
        · rw [decide_eq_false (show ¬ (0 : Int) < 0 + (i : Int) by omega)]
          one_item
          rw [decide_eq_true (show (0 : Int) + (i : Int) = 0 by omega)]
          one_item
          refine ⟨small' (Nat.le_of_ble_eq_true rfl), ?_⟩
          one_item
          refine ⟨r_listAt G0', ?_⟩
          one_item
          refine ⟨small' (Nat.le_of_ble_eq_true rfl), ?_⟩
          one_item
          refine r_append G0' (small1000 (by omega)) ?_
          exact ⟨_, _, _, _, rfl, fin _ _ (by unfold nmV; rw [if_neg (by omega)]) (by unfold undV; rw [if_pos ci])⟩
        · rw [decide_eq_true (show (0 : Int) < 0 + (i : Int) by omega)]
          one_item
          refine ⟨small' (Nat.le_of_ble_eq_true rfl), ?_⟩
          one_item
          rw [decide_eq_false (show ¬ (0 : Int) + (i : Int) = 0 by omega)]
          one_item
          refine ⟨r_listAt G0', ?_⟩
          one_item
          refine ⟨small' (Nat.le_of_ble_eq_true rfl), ?_⟩
          one_item
          refine r_append G0' (small1000 (by omega)) ?_
          exact ⟨_, _, _, _, rfl, fin _ _ (by unfold nmV; rw [if_pos (by omega)]) (by unfold undV; rw [if_neg ci, if_pos cj])⟩
      · rw [decide_eq_false (show ¬ bas all.length i + (j : Int) = bas all.length i by omega)]
        one_item
        by_cases ci : i = 0
        · rw [decide_eq_true (show (0 : Int) + (i : Int) = 0 by omega)]
          one_item
          refine ⟨small' (Nat.le_of_ble_eq_true rfl), ?_⟩
          one_item
          refine ⟨r_listAt G0', ?_⟩
          one_item
          refine ⟨small' (Nat.le_of_ble_eq_true rfl), ?_⟩
          one_item
          refine r_append G0' (small1000 (by omega)) ?_
          exact ⟨_, _, _, _, rfl, fin _ _ (by unfold nmV; rw [if_neg (by omega)]) (by unfold undV; rw [if_pos ci])⟩
        · rw [decide_eq_false (show ¬ (0 : Int) + (i : Int) = 0 by omega)]
          one_item
          refine ⟨r_listAt G0', ?_⟩
          one_item
          refine ⟨small' (Nat.le_of_ble_eq_true rfl), ?_⟩
          one_item
          refine r_append G0' (small1000 (by omega)) ?_
          exact ⟨_, _, _, _, rfl, fin _ _ (by unfold nmV; rw [if_neg (by omega)]) (by unfold undV; rw [if_neg ci, if_neg cj])⟩
    · rintro ⟨o7, o8, o9, o10, rfl, rfl⟩
      have el : (hereV all.length i).length = all.length - i := by unfold hereV; rw [intsV_len]; exact hn
      try dsimp only
      rw [el]
      one_item
      refine ⟨_, _, _, _, _, _, g ++ [.lst (hereV all.length i)], rfl, ?_⟩
      rw [hh2, List.append_assoc, set_app0]
      rfl
  · rintro ⟨o5, o6, o7, o8, o9, o10, g, rfl, rfl⟩
    try dsimp only
    rw [intsV_len]
    one_item
    exact exit_drop (dat_lim _ _ (by rw [PV.dat]; exact stayL_dat all _)) hh rfl q
set_option maxHeartbeats 1000000
structure Rk (S : Int → Prop) (f : Int → Int) : Prop where
  z : S 0
  f0 : f 0 = 0
  le : ∀ a b, S a → S b → (f a ≤ f b ↔ a ≤ b)
variable {S : Int → Prop} {f : Int → Int}
theorem Rk.lt (R : Rk S f) {a b : Int} (ha : S a) (hb : S b) : f a < f b ↔ a < b := by
  have := R.le b a hb ha
  omega
theorem Rk.getD (R : Rk S f) (ds : List Int) (j : Nat) : (ds.map f).getD j 0 = f (ds.getD j 0) := by
  rw [List.getD_eq_getElem?_getD, List.getD_eq_getElem?_getD, List.getElem?_map]
  cases ds[j]? with
  | none => exact R.f0.symm
  | some x => rfl
theorem Rk.at (R : Rk S f) {ds : List Int} (h : ∀ x ∈ ds, S x) (j : Nat) : S (ds.getD j 0) := by
  rw [List.getD_eq_getElem?_getD]
  cases e : ds[j]? with
  | none => exact R.z
  | some x => exact h x (List.mem_of_getElem? e)
theorem Rk.stB (R : Rk S f) {t : Tr} {ds : List Int} (h : ∀ x ∈ ds, S x) {b : Int} (hb : S b) (j : Nat) : stB t (ds.map f) (f b) j = stB t ds b j := by
  unfold My.stB
  rw [R.getD, decide_eq_decide.mpr (R.le _ _ (R.at h j) hb)]
  congr 1
  cases ahd t 0 j .non with
  | int a =>
    show decide (f b < (ds.map f).getD a.toNat 0) = decide (b < ds.getD a.toNat 0)
    rw [R.getD, decide_eq_decide.mpr (R.lt hb (R.at h _))]
  | _ => rfl
theorem Rk.stL (R : Rk S f) {t : Tr} {ds : List Int} (h : ∀ x ∈ ds, S x) {b : Int} (hb : S b) (n j : Nat) : stL t (ds.map f) (f b) n j = stL t ds b n j := by
  unfold My.stL
  congr 2
  funext k
  exact R.stB h hb k
theorem Rk.standN (R : Rk S f) {t : Tr} {ds bs : List Int} (h : ∀ x ∈ ds, S x) (hb : ∀ x ∈ bs, S x) : ∀ i, standN t (ds.map f) (bs.map f) i = standN t ds bs i
  | 0 => rfl
  | i + 1 => by rw [My.standN, My.standN, R.standN h hb i, R.getD, R.stL h (R.at hb i)]
theorem Rk.bel (R : Rk S f) (e : Ent) (j : Nat) {d b : Int} (hd : S d) (hb : S b) : bel e j (f d) (f b) = bel e j d b := by
  unfold My.bel
  by_cases c : d < b
  · rw [if_pos c, if_pos ((R.lt hd hb).mpr c)]
  · rw [if_neg c, if_neg fun z => c ((R.lt hd hb).mp z)]
theorem Rk.dgL (R : Rk S f) {t : Tr} {ds bs : List Int} (h : ∀ x ∈ ds, S x) (hb : ∀ x ∈ bs, S x) : dgL t (ds.map f) (bs.map f) = dgL t ds bs := by
  unfold My.dgL
  rw [List.length_map, R.standN h hb]
  apply List.map_congr_left
  intro p _
  unfold dstay
  rw [R.getD, R.getD, R.bel _ _ (R.at h _) (R.at hb _)]
theorem Rk.okD (R : Rk S f) {t : Tr} {ds bs : List Int} (h : ∀ x ∈ ds, S x) (hb : ∀ x ∈ bs, S x) (k : okD t ds bs) : okD t (ds.map f) (bs.map f) := by
  unfold My.okD at k ⊢
  rw [List.length_map, R.standN h hb]
  intro p hp x hx
  rw [R.getD, R.getD, R.bel _ _ (R.at h _) (R.at hb _)] at hx
  exact k p hp x hx
set_option maxHeartbeats 1000000
def fcT (w : Str) (ws : List Str) : Tr := ws.foldl (fun t x => .node t (.leaf x)) (.leaf w)
set_option maxHeartbeats 1000000
theorem cut_eq (w : Str) : ∀ ws : List Str, ws.length ≤ 7 → cutP ((w :: ws).map PV.str) (some 1) none = ws.map PV.str
  | [], _ => rfl
  | [a], _ => rfl
  | [a, b], _ => rfl
  | [a, b, c], _ => rfl
  | [a, b, c, d], _ => rfl
  | [a, b, c, d, e], _ => rfl
  | [a, b, c, d, e, f], _ => rfl
  | [a, b, c, d, e, f, g], _ => rfl
  | _ :: _ :: _ :: _ :: _ :: _ :: _ :: _ :: _, h => absurd h (by simp only [List.length_cons]; omega)
set_option maxHeartbeats 1000000
def sk : Tr → Tr
  | .leaf _ => .leaf ""
  | .node a b => .node (sk a) (sk b)
theorem sk_size : ∀ t : Tr, (sk t).size = t.size
  | .leaf _ => rfl
  | .node a b => by rw [sk, Tr.size, Tr.size, sk_size a, sk_size b]
set_option maxHeartbeats 1000000
def skE : Ent → Ent
  | .word _ => .word ""
  | .pair a b => .pair a b
theorem sk_en : ∀ (t : Tr) (o j : Nat), en (sk t) o j = skE (en t o j)
  | .leaf _, _, _ => rfl
  | .node a b, o, j => by
    rw [sk, en, en, sk_size a, sk_size b, sk_en a, sk_en b]
    split
    · rfl
    · split <;> rfl
theorem sk_ahd : ∀ (t : Tr) (o j : Nat) (p : V), ahd (sk t) o j p = ahd t o j p
  | .leaf _, _, _, _ => rfl
  | .node a b, o, j, p => by
    rw [sk, ahd, ahd, sk_size a, sk_size b, sk_ahd a, sk_ahd b]
theorem sk_stB (t : Tr) (ds : List Int) (b : Int) (j : Nat) : stB (sk t) ds b j = stB t ds b j := by unfold stB; rw [sk_ahd]
theorem sk_stL (t : Tr) (ds : List Int) (b : Int) (n j : Nat) : stL (sk t) ds b n j = stL t ds b n j := by
  unfold stL
  congr 2
  funext k
  exact sk_stB t ds b k
theorem sk_standN (t : Tr) (ds bs : List Int) : ∀ i, standN (sk t) ds bs i = standN t ds bs i
  | 0 => rfl
  | i + 1 => by rw [standN, standN, sk_standN t ds bs i, sk_stL, sk_size]
theorem sk_bel (e : Ent) (j : Nat) (d b : Int) : bel (skE e) j d b = bel e j d b := by cases e <;> rfl
def dRow (s : Tr) (ds bs : List Int) (L : List (Nat × Nat)) (p : Nat × Nat) : (Nat × Nat) × List Nat × List Nat := (p, (bel (en s 0 p.1) p.1 (ds.getD p.1 0) (bs.getD p.2 0)).map (fun x => L.idxOf (x, p.2 - 1)), bsd L p.1 p.2)
def dTab (s : Tr) (ds bs : List Int) : List ((Nat × Nat) × List Nat × List Nat) := (standN s ds bs bs.length).map (dRow s ds bs (standN s ds bs bs.length))
theorem dgL_tab (t : Tr) (ds bs : List Int) (s : Tr) (tb : List ((Nat × Nat) × List Nat × List Nat)) (hs : sk t = s) (h : dTab s ds bs = tb) : dgL t ds bs = tb.map fun r => .tup [nmP (en t 0 r.1.1) r.1.1, .int (r.1.2 : Int), .tup (natP r.2.1), .tup (natP r.2.2)] := by
  subst hs h
  unfold dgL dTab
  rw [sk_standN, List.map_map]
  apply List.map_congr_left
  intro p _
  show dstay _ _ _ _ _ _ = PV.tup _
  unfold dstay dRow
  dsimp only
  rw [sk_en, sk_bel]
def okB (s : Tr) (ds bs : List Int) : Bool := (standN s ds bs bs.length).all fun p => (bel (en s 0 p.1) p.1 (ds.getD p.1 0) (bs.getD p.2 0)).all fun x => decide (1 ≤ p.2) && (standN s ds bs bs.length).contains (x, p.2 - 1)
theorem okD_of (t : Tr) (ds bs : List Int) (s : Tr) (hs : sk t = s) (h : okB s ds bs = true) : okD t ds bs := by
  subst hs
  unfold okB at h
  rw [sk_standN] at h
  intro p hp x hx
  have h1 := List.all_eq_true.mp h p hp
  rw [sk_en, sk_bel] at h1
  have h2 := List.all_eq_true.mp h1 x hx
  rw [Bool.and_eq_true, decide_eq_true_eq] at h2
  exact ⟨h2.1, by simpa using h2.2⟩
set_option maxHeartbeats 1000000
def F_fc : MF := ⟨fun l h Q => ∃ (p : Nat) (w : Str) (ws : List Str), l = [.ref p] ∧ h[p]? = some (.lst ((w :: ws).map PV.str)) ∧ ws.length ≤ 7 ∧ Q (fcT w ws).pv h, fun f ⟨p, w, ws, e, h1, h2, q⟩ => ⟨p, w, ws, e, h1, h2, f _ _ q⟩⟩
theorem strs_get {ws : List Str} {i : Nat} {x : PV} (h : (ws.map PV.str)[i]? = some x) : ∃ u, ws[i]? = some u ∧ x = .str u := by
  rw [List.getElem?_map] at h
  cases e : ws[i]? with
  | none => rw [e] at h; cases h
  | some u => rw [e] at h; exact ⟨u, rfl, (Option.some.inj h).symm⟩
theorem take_snoc {α : Type} {ws : List α} {i : Nat} {u : α} (h : ws[i]? = some u) : ws.take (i + 1) = ws.take i ++ [u] := by rw [List.take_succ, h]; rfl
theorem at_0 (w : Str) (ws : List Str) : atI ((w :: ws).map PV.str) 0 = some (.str w) := atI_nat (j := 0) rfl
theorem R_fc (l : List PV) (h : PH) (Q : QV) (hh : limH h.length h) (hl : limL h.length l = true) (q : F_fc.run l h Q) : b__law_first_comb.run (exitD h.length Q) (begin 3 l) h := by
  obtain ⟨p, w, ws, rfl, hp, h7, q⟩ := q
  unfold b__law_first_comb
  show MS.run _ _ [some (.ref p), none, none] h
  one_item
  refine r_kIx hp (at_0 w ws) ?_
  one_item
  refine ⟨hp, ?_⟩
  try dsimp only
  rw [cut_eq w ws h7]
  one_item
  refine for_inv (fun i ps h' => ∃ o, ps = [some (.ref p), some (fcT w (ws.take i)).pv, o] ∧ h' = h) (fun _ _ _ _ => trivial) (fun i x ps h' hx => ?_) (fun ps h' => ?_) ⟨_, rfl, rfl⟩
  · rintro ⟨o, rfl, rfl⟩
    obtain ⟨u, hu, rfl⟩ := strs_get hx
    one_item
    refine ⟨small' (Nat.le_of_ble_eq_true rfl), ?_⟩
    one_item
    refine ⟨some (.str u), ?_, rfl⟩
    rw [take_snoc hu]
    unfold fcT
    rw [List.foldl_append]
    rfl
  · rintro ⟨o, rfl, rfl⟩
    have e : (ws.map PV.str).length = ws.length := List.length_map _
    dsimp only
    rw [e, List.take_length]
    one_item
    exact exit_same (dat_lim _ _ (Tr.pv_dat _)) hh rfl q
set_option maxHeartbeats 1000000
set_option maxHeartbeats 1000000
theorem natP_pl (l : List Nat) : plL (natP l) = true := plL_iff.mpr fun x hx => by
  obtain ⟨n, _, rfl⟩ := List.mem_map.mp hx
  simp [PV.pl]
theorem natP_wid (n : Nat) (l : List Nat) : widL n (natP l) = true := widL_iff.mpr fun x hx => by
  obtain ⟨n, _, rfl⟩ := List.mem_map.mp hx
  simp [PV.wid]
theorem natP_dep (l : List Nat) : depL (natP l) ≤ 0 := depL_le (n := 0) fun x hx => by
  obtain ⟨n, _, rfl⟩ := List.mem_map.mp hx
  rw [PV.dep] <;> simp
def F_law10 : MF := ⟨fun l h Q => ∃ ns : List Int, l = [.cl (ns.map PV.int)] ∧ ns.length ≤ 63 ∧ h = [] ∧ Q (.bl true) [], fun f ⟨ns, e, h1, h2, q⟩ => ⟨ns, e, h1, h2, f _ _ q⟩⟩
set_option maxHeartbeats 1000000
theorem R_comb15 (l : List PV) (h : PH) (Q : QV) (hh : limH h.length h) (hl : limL h.length l = true) (q : F_fc.run l h Q) : b__law_comb.run (exitD h.length Q) (begin 3 l) h := R_fc l h Q hh hl q
theorem dstay_pl (e : Ent) (l : List (Nat × Nat)) (j n : Nat) (d b : Int) : (dstay e l j n d b).pl = true := by
  unfold dstay
  cases e <;> simp [PV.pl, plL, nmP, natP_pl]
theorem dstay_wid (e : Ent) (l : List (Nat × Nat)) (j n : Nat) (d b : Int) (h : l.length ≤ 1000) : (dstay e l j n d b).wid 1000 = true := by
  have h1 : (natP ((bel e j d b).map fun x => l.idxOf (x, n - 1))).length ≤ 1000 := by rw [natP_len, List.length_map]; exact Nat.le_trans (bel_len e j d b) (by omega)
  have h2 : (natP (bsd l j n)).length ≤ 1000 := by
    unfold bsd
    rw [natP_len, List.length_map]
    exact Nat.le_trans (List.length_filter_le _ _) h
  unfold dstay
  cases e <;> simp [PV.wid, widL, nmP, natP_wid, h1, h2]
theorem dstay_dep (e : Ent) (l : List (Nat × Nat)) (j n : Nat) (d b : Int) : (dstay e l j n d b).dep ≤ 2 := by
  have h1 := natP_dep ((bel e j d b).map fun x => l.idxOf (x, n - 1))
  have h2 := natP_dep (bsd l j n)
  unfold dstay
  cases e <;> simp [PV.dep, depL, nmP] <;> omega
theorem dgL_pl (t : Tr) (ds bs : List Int) : (PV.tup (dgL t ds bs)).pl = true := by
  rw [PV.pl]
  refine plL_iff.mpr fun x hx => ?_
  obtain ⟨n, _, rfl⟩ := List.mem_map.mp hx
  exact dstay_pl _ _ _ _ _ _
theorem dgL_wid (t : Tr) (ds bs : List Int) (h : bs.length * t.size ≤ 900) : (PV.tup (dgL t ds bs)).wid 1000 = true := by
  have hL : (standN t ds bs bs.length).length ≤ 1000 := Nat.le_trans (standN_len t ds bs bs.length) (by omega)
  rw [PV.wid, Bool.and_eq_true]
  refine ⟨decide_eq_true (by unfold dgL; rw [List.length_map]; exact hL), widL_iff.mpr fun x hx => ?_⟩
  obtain ⟨n, _, rfl⟩ := List.mem_map.mp hx
  exact dstay_wid _ _ _ _ _ _ hL
theorem dgL_dep (t : Tr) (ds bs : List Int) : (PV.tup (dgL t ds bs)).dep ≤ 3 := by
  rw [PV.dep]
  have := depL_le (n := 2) (l := dgL t ds bs) fun x hx => by
    obtain ⟨n, _, rfl⟩ := List.mem_map.mp hx
    exact dstay_dep _ _ _ _ _ _
  omega
set_option maxHeartbeats 4000000
def rks (m : Nat) : List Int := 0 :: (List.range (m - 1)).flatMap fun k => [0, ((k + 1 : Nat) : Int)]
def bgs (m : Nat) : List Int := (List.range m).map fun k => ((k : Nat) : Int)
theorem comb15 (w : Str) : ∀ ws : List Str, ws.length ≤ 7 → okD (fcT w ws) (rks (ws.length + 1)) (bgs (ws.length + 1)) ∧ dgL (fcT w ws) (rks (ws.length + 1)) (bgs (ws.length + 1)) = stayL (w :: ws) (ws.length + 1)
  | [], _ => ⟨okD_of (fcT w []) (rks 1) (bgs 1) (fcT "" (List.replicate 0 "")) rfl (by decide +kernel), (dgL_tab (fcT w []) (rks 1) (bgs 1) (fcT "" (List.replicate 0 "")) [((0, 0), [], [])] rfl (by decide +kernel)).trans rfl⟩
  | [a], _ => ⟨okD_of (fcT w [a]) (rks 2) (bgs 2) (fcT "" (List.replicate 1 "")) rfl (by decide +kernel), (dgL_tab (fcT w [a]) (rks 2) (bgs 2) (fcT "" (List.replicate 1 "")) [((0, 0), [], [1]), ((1, 0), [], [0]), ((2, 1), [0, 1], [])] rfl (by decide +kernel)).trans rfl⟩
  | [a, b], _ => ⟨okD_of (fcT w [a, b]) (rks 3) (bgs 3) (fcT "" (List.replicate 2 "")) rfl (by decide +kernel), (dgL_tab (fcT w [a, b]) (rks 3) (bgs 3) (fcT "" (List.replicate 2 "")) [((0, 0), [], [1, 2]), ((1, 0), [], [0, 2]), ((3, 0), [], [0, 1]), ((2, 1), [0, 1], [4]), ((3, 1), [2], [3]), ((4, 2), [3, 4], [])] rfl (by decide +kernel)).trans rfl⟩
  | [a, b, c], _ => ⟨okD_of (fcT w [a, b, c]) (rks 4) (bgs 4) (fcT "" (List.replicate 3 "")) rfl (by decide +kernel), (dgL_tab (fcT w [a, b, c]) (rks 4) (bgs 4) (fcT "" (List.replicate 3 "")) [((0, 0), [], [1, 2, 3]), ((1, 0), [], [0, 2, 3]), ((3, 0), [], [0, 1, 3]), ((5, 0), [], [0, 1, 2]), ((2, 1), [0, 1], [5, 6]), ((3, 1), [2], [4, 6]), ((5, 1), [3], [4, 5]), ((4, 2), [4, 5], [8]), ((5, 2), [6], [7]), ((6, 3), [7, 8], [])] rfl (by decide +kernel)).trans rfl⟩
  | [a, b, c, d], _ => ⟨okD_of (fcT w [a, b, c, d]) (rks 5) (bgs 5) (fcT "" (List.replicate 4 "")) rfl (by decide +kernel), (dgL_tab (fcT w [a, b, c, d]) (rks 5) (bgs 5) (fcT "" (List.replicate 4 "")) [((0, 0), [], [1, 2, 3, 4]), ((1, 0), [], [0, 2, 3, 4]), ((3, 0), [], [0, 1, 3, 4]), ((5, 0), [], [0, 1, 2, 4]), ((7, 0), [], [0, 1, 2, 3]), ((2, 1), [0, 1], [6, 7, 8]), ((3, 1), [2], [5, 7, 8]), ((5, 1), [3], [5, 6, 8]), ((7, 1), [4], [5, 6, 7]), ((4, 2), [5, 6], [10, 11]), ((5, 2), [7], [9, 11]), ((7, 2), [8], [9, 10]), ((6, 3), [9, 10], [13]), ((7, 3), [11], [12]), ((8, 4), [12, 13], [])] rfl (by decide +kernel)).trans rfl⟩
  | [a, b, c, d, e], _ => ⟨okD_of (fcT w [a, b, c, d, e]) (rks 6) (bgs 6) (fcT "" (List.replicate 5 "")) rfl (by decide +kernel), (dgL_tab (fcT w [a, b, c, d, e]) (rks 6) (bgs 6) (fcT "" (List.replicate 5 "")) [((0, 0), [], [1, 2, 3, 4, 5]), ((1, 0), [], [0, 2, 3, 4, 5]), ((3, 0), [], [0, 1, 3, 4, 5]), ((5, 0), [], [0, 1, 2, 4, 5]), ((7, 0), [], [0, 1, 2, 3, 5]), ((9, 0), [], [0, 1, 2, 3, 4]), ((2, 1), [0, 1], [7, 8, 9, 10]), ((3, 1), [2], [6, 8, 9, 10]), ((5, 1), [3], [6, 7, 9, 10]), ((7, 1), [4], [6, 7, 8, 10]), ((9, 1), [5], [6, 7, 8, 9]), ((4, 2), [6, 7], [12, 13, 14]), ((5, 2), [8], [11, 13, 14]), ((7, 2), [9], [11, 12, 14]), ((9, 2), [10], [11, 12, 13]), ((6, 3), [11, 12], [16, 17]), ((7, 3), [13], [15, 17]), ((9, 3), [14], [15, 16]), ((8, 4), [15, 16], [19]), ((9, 4), [17], [18]), ((10, 5), [18, 19], [])] rfl (by decide +kernel)).trans rfl⟩
  | [a, b, c, d, e, f], _ => ⟨okD_of (fcT w [a, b, c, d, e, f]) (rks 7) (bgs 7) (fcT "" (List.replicate 6 "")) rfl (by decide +kernel), (dgL_tab (fcT w [a, b, c, d, e, f]) (rks 7) (bgs 7) (fcT "" (List.replicate 6 "")) [((0, 0), [], [1, 2, 3, 4, 5, 6]), ((1, 0), [], [0, 2, 3, 4, 5, 6]), ((3, 0), [], [0, 1, 3, 4, 5, 6]), ((5, 0), [], [0, 1, 2, 4, 5, 6]), ((7, 0), [], [0, 1, 2, 3, 5, 6]), ((9, 0), [], [0, 1, 2, 3, 4, 6]), ((11, 0), [], [0, 1, 2, 3, 4, 5]), ((2, 1), [0, 1], [8, 9, 10, 11, 12]), ((3, 1), [2], [7, 9, 10, 11, 12]), ((5, 1), [3], [7, 8, 10, 11, 12]), ((7, 1), [4], [7, 8, 9, 11, 12]), ((9, 1), [5], [7, 8, 9, 10, 12]), ((11, 1), [6], [7, 8, 9, 10, 11]), ((4, 2), [7, 8], [14, 15, 16, 17]), ((5, 2), [9], [13, 15, 16, 17]), ((7, 2), [10], [13, 14, 16, 17]), ((9, 2), [11], [13, 14, 15, 17]), ((11, 2), [12], [13, 14, 15, 16]), ((6, 3), [13, 14], [19, 20, 21]), ((7, 3), [15], [18, 20, 21]), ((9, 3), [16], [18, 19, 21]), ((11, 3), [17], [18, 19, 20]), ((8, 4), [18, 19], [23, 24]), ((9, 4), [20], [22, 24]), ((11, 4), [21], [22, 23]), ((10, 5), [22, 23], [26]), ((11, 5), [24], [25]), ((12, 6), [25, 26], [])] rfl (by decide +kernel)).trans rfl⟩
  | [a, b, c, d, e, f, g], _ => ⟨okD_of (fcT w [a, b, c, d, e, f, g]) (rks 8) (bgs 8) (fcT "" (List.replicate 7 "")) rfl (by decide +kernel), (dgL_tab (fcT w [a, b, c, d, e, f, g]) (rks 8) (bgs 8) (fcT "" (List.replicate 7 "")) [((0, 0), [], [1, 2, 3, 4, 5, 6, 7]), ((1, 0), [], [0, 2, 3, 4, 5, 6, 7]), ((3, 0), [], [0, 1, 3, 4, 5, 6, 7]), ((5, 0), [], [0, 1, 2, 4, 5, 6, 7]), ((7, 0), [], [0, 1, 2, 3, 5, 6, 7]), ((9, 0), [], [0, 1, 2, 3, 4, 6, 7]), ((11, 0), [], [0, 1, 2, 3, 4, 5, 7]), ((13, 0), [], [0, 1, 2, 3, 4, 5, 6]), ((2, 1), [0, 1], [9, 10, 11, 12, 13, 14]), ((3, 1), [2], [8, 10, 11, 12, 13, 14]), ((5, 1), [3], [8, 9, 11, 12, 13, 14]), ((7, 1), [4], [8, 9, 10, 12, 13, 14]), ((9, 1), [5], [8, 9, 10, 11, 13, 14]), ((11, 1), [6], [8, 9, 10, 11, 12, 14]), ((13, 1), [7], [8, 9, 10, 11, 12, 13]), ((4, 2), [8, 9], [16, 17, 18, 19, 20]), ((5, 2), [10], [15, 17, 18, 19, 20]), ((7, 2), [11], [15, 16, 18, 19, 20]), ((9, 2), [12], [15, 16, 17, 19, 20]), ((11, 2), [13], [15, 16, 17, 18, 20]), ((13, 2), [14], [15, 16, 17, 18, 19]), ((6, 3), [15, 16], [22, 23, 24, 25]), ((7, 3), [17], [21, 23, 24, 25]), ((9, 3), [18], [21, 22, 24, 25]), ((11, 3), [19], [21, 22, 23, 25]), ((13, 3), [20], [21, 22, 23, 24]), ((8, 4), [21, 22], [27, 28, 29]), ((9, 4), [23], [26, 28, 29]), ((11, 4), [24], [26, 27, 29]), ((13, 4), [25], [26, 27, 28]), ((10, 5), [26, 27], [31, 32]), ((11, 5), [28], [30, 32]), ((13, 5), [29], [30, 31]), ((12, 6), [30, 31], [34]), ((13, 6), [32], [33]), ((14, 7), [33, 34], [])] rfl (by decide +kernel)).trans rfl⟩
  | _ :: _ :: _ :: _ :: _ :: _ :: _ :: _ :: _, h => absurd h (by simp only [List.length_cons]; omega)
set_option maxHeartbeats 4000000
def rks' (m : Nat) : List Int := 0 :: (List.range (m - 1)).flatMap fun k => [0, ((k + 1 : Nat) : Int)]
def bgs' (m : Nat) : List Int := (List.range m).map fun k => ((k : Nat) : Int)
theorem list_getD (n : Nat) (ds : List Int) (h : ds.length = n) : ds = (List.range n).map fun j => ds.getD j 0 := by
  apply List.ext_getElem?
  intro i
  by_cases hi : i < n
  · rw [List.getElem?_map, List.getElem?_range hi, List.getElem?_eq_getElem (by omega), Option.map_some, List.getD_eq_getElem?_getD, List.getElem?_eq_getElem (by omega)]; rfl
  · rw [List.getElem?_eq_none (by omega), List.getElem?_eq_none (by rw [List.length_map, List.length_range]; omega)]
def FF (ds : List Int) (k : Int) : Int := ds.getD (2 * k.toNat) 0
theorem f15_1 {w : Str} {ds : List Int} {d : Int} (D : Dt (fcT w []) ds [] d) : (spl ((fcT w []).nd 0) ds).length = 0 ∧ Rk (fun k => 0 ≤ k ∧ k < 1) (FF ds) ∧ ds = (rks' 1).map (FF ds) ∧ ∀ ms : List Int, ms.Perm (spl ((fcT w []).nd 0) ds) → ms.Pairwise (· ≤ ·) → 0 :: ms = (bgs' 1).map (FF ds) := by
  have hl : ds.length = 1 := D.len
  have z0 : ds.getD 0 0 = 0 := D.zero 0 (Nat.le_of_ble_eq_true rfl) (.inl rfl)
  have e : ds = [ds.getD 0 0] := list_getD 1 ds hl
  have v0 : FF ds 0 = ds.getD 0 0 := rfl
  have hsp : spl ((fcT w []).nd 0) ds = [] := by rw [e]; rfl
  refine ⟨by rw [hsp]; rfl, ⟨⟨by omega, by omega⟩, z0, fun a b ha hb => ?_⟩, ?_, fun ms hp hs => ?_⟩
  · have ea : a = 0 := by omega
    have eb : b = 0 := by omega
    subst ea eb
    simp
  · show ds = [FF ds 0]
    rw [v0]
    have e2 := e
    rw [z0] at e2
    rw [z0]
    exact e2
  · rw [hsp] at hp
    have hso : List.Pairwise (· ≤ ·) ([] : List Int) := List.Pairwise.nil
    have em := List.Perm.eq_of_pairwise (le := fun a b : Int => a ≤ b) (fun a b _ _ p q => Int.le_antisymm p q) hs hso hp
    subst em
    show (0 : Int) :: [] = [FF ds 0]
    rw [v0, z0]
    try rfl
theorem f15_2 {w wa : Str} {ds : List Int} {d : Int} (D : Dt (fcT w [wa]) ds [] d) : (spl ((fcT w [wa]).nd 0) ds).length = 1 ∧ Rk (fun k => 0 ≤ k ∧ k < 2) (FF ds) ∧ ds = (rks' 2).map (FF ds) ∧ ∀ ms : List Int, ms.Perm (spl ((fcT w [wa]).nd 0) ds) → ms.Pairwise (· ≤ ·) → 0 :: ms = (bgs' 2).map (FF ds) := by
  have hl : ds.length = 3 := D.len
  have z0 : ds.getD 0 0 = 0 := D.zero 0 (Nat.le_of_ble_eq_true rfl) (.inl rfl)
  have z1 : ds.getD 1 0 = 0 := D.zero 1 (Nat.le_of_ble_eq_true rfl) (.inl rfl)
  have u1 := (D.up 2 (Nat.le_of_ble_eq_true rfl) (by simp) 0 1 rfl).2.2.1
  have e : ds = [ds.getD 0 0, ds.getD 1 0, ds.getD 2 0] := list_getD 3 ds hl
  have v0 : FF ds 0 = ds.getD 0 0 := rfl
  have v1 : FF ds 1 = ds.getD 2 0 := rfl
  have hsp : spl ((fcT w [wa]).nd 0) ds = [ds.getD 2 0] := by rw [e]; rfl
  refine ⟨by rw [hsp]; rfl, ⟨⟨by omega, by omega⟩, z0, fun a b ha hb => ?_⟩, ?_, fun ms hp hs => ?_⟩
  · have ea : a = 0 ∨ a = 1 := by omega
    have eb : b = 0 ∨ b = 1 := by omega
    rcases ea with rfl | rfl <;> rcases eb with rfl | rfl <;> omega
  · show ds = [FF ds 0, FF ds 0, FF ds 1]
    rw [v0, v1]
    have e2 := e
    rw [z0, z1] at e2
    rw [z0]
    exact e2
  · rw [hsp] at hp
    have hso : List.Pairwise (· ≤ ·) ([ds.getD 2 0] : List Int) := by
      refine (List.Pairwise.cons (fun z hz => ?_) List.Pairwise.nil)
      all_goals (simp only [List.mem_cons, List.not_mem_nil, or_false] at hz; try omega)
    have em := List.Perm.eq_of_pairwise (le := fun a b : Int => a ≤ b) (fun a b _ _ p q => Int.le_antisymm p q) hs hso hp
    subst em
    show (0 : Int) :: [ds.getD 2 0] = [FF ds 0, FF ds 1]
    rw [v0, z0]
    try rfl
theorem f15_3 {w wa wb : Str} {ds : List Int} {d : Int} (D : Dt (fcT w [wa, wb]) ds [] d) : (spl ((fcT w [wa, wb]).nd 0) ds).length = 2 ∧ Rk (fun k => 0 ≤ k ∧ k < 3) (FF ds) ∧ ds = (rks' 3).map (FF ds) ∧ ∀ ms : List Int, ms.Perm (spl ((fcT w [wa, wb]).nd 0) ds) → ms.Pairwise (· ≤ ·) → 0 :: ms = (bgs' 3).map (FF ds) := by
  have hl : ds.length = 5 := D.len
  have z0 : ds.getD 0 0 = 0 := D.zero 0 (Nat.le_of_ble_eq_true rfl) (.inl rfl)
  have z1 : ds.getD 1 0 = 0 := D.zero 1 (Nat.le_of_ble_eq_true rfl) (.inl rfl)
  have z3 : ds.getD 3 0 = 0 := D.zero 3 (Nat.le_of_ble_eq_true rfl) (.inl rfl)
  have u1 := (D.up 2 (Nat.le_of_ble_eq_true rfl) (by simp) 0 1 rfl).2.2.1
  have u2 := (D.up 4 (Nat.le_of_ble_eq_true rfl) (by simp) 2 3 rfl).2.2.1
  have e : ds = [ds.getD 0 0, ds.getD 1 0, ds.getD 2 0, ds.getD 3 0, ds.getD 4 0] := list_getD 5 ds hl
  have v0 : FF ds 0 = ds.getD 0 0 := rfl
  have v1 : FF ds 1 = ds.getD 2 0 := rfl
  have v2 : FF ds 2 = ds.getD 4 0 := rfl
  have hsp : spl ((fcT w [wa, wb]).nd 0) ds = [ds.getD 2 0, ds.getD 4 0] := by rw [e]; rfl
  refine ⟨by rw [hsp]; rfl, ⟨⟨by omega, by omega⟩, z0, fun a b ha hb => ?_⟩, ?_, fun ms hp hs => ?_⟩
  · have ea : a = 0 ∨ a = 1 ∨ a = 2 := by omega
    have eb : b = 0 ∨ b = 1 ∨ b = 2 := by omega
    rcases ea with rfl | rfl | rfl <;> rcases eb with rfl | rfl | rfl <;> omega
  · show ds = [FF ds 0, FF ds 0, FF ds 1, FF ds 0, FF ds 2]
    rw [v0, v1, v2]
    have e2 := e
    rw [z0, z1, z3] at e2
    rw [z0]
    exact e2
  · rw [hsp] at hp
    have hso : List.Pairwise (· ≤ ·) ([ds.getD 2 0, ds.getD 4 0] : List Int) := by
      refine (List.Pairwise.cons (fun z hz => ?_) (List.Pairwise.cons (fun z hz => ?_) List.Pairwise.nil))
      all_goals (simp only [List.mem_cons, List.not_mem_nil, or_false] at hz; try omega)
    have em := List.Perm.eq_of_pairwise (le := fun a b : Int => a ≤ b) (fun a b _ _ p q => Int.le_antisymm p q) hs hso hp
    subst em
    show (0 : Int) :: [ds.getD 2 0, ds.getD 4 0] = [FF ds 0, FF ds 1, FF ds 2]
    rw [v0, z0]
    try rfl
theorem f15_4 {w wa wb wc : Str} {ds : List Int} {d : Int} (D : Dt (fcT w [wa, wb, wc]) ds [] d) : (spl ((fcT w [wa, wb, wc]).nd 0) ds).length = 3 ∧ Rk (fun k => 0 ≤ k ∧ k < 4) (FF ds) ∧ ds = (rks' 4).map (FF ds) ∧ ∀ ms : List Int, ms.Perm (spl ((fcT w [wa, wb, wc]).nd 0) ds) → ms.Pairwise (· ≤ ·) → 0 :: ms = (bgs' 4).map (FF ds) := by
  have hl : ds.length = 7 := D.len
  have z0 : ds.getD 0 0 = 0 := D.zero 0 (Nat.le_of_ble_eq_true rfl) (.inl rfl)
  have z1 : ds.getD 1 0 = 0 := D.zero 1 (Nat.le_of_ble_eq_true rfl) (.inl rfl)
  have z3 : ds.getD 3 0 = 0 := D.zero 3 (Nat.le_of_ble_eq_true rfl) (.inl rfl)
  have z5 : ds.getD 5 0 = 0 := D.zero 5 (Nat.le_of_ble_eq_true rfl) (.inl rfl)
  have u1 := (D.up 2 (Nat.le_of_ble_eq_true rfl) (by simp) 0 1 rfl).2.2.1
  have u2 := (D.up 4 (Nat.le_of_ble_eq_true rfl) (by simp) 2 3 rfl).2.2.1
  have u3 := (D.up 6 (Nat.le_of_ble_eq_true rfl) (by simp) 4 5 rfl).2.2.1
  have e : ds = [ds.getD 0 0, ds.getD 1 0, ds.getD 2 0, ds.getD 3 0, ds.getD 4 0, ds.getD 5 0, ds.getD 6 0] := list_getD 7 ds hl
  have v0 : FF ds 0 = ds.getD 0 0 := rfl
  have v1 : FF ds 1 = ds.getD 2 0 := rfl
  have v2 : FF ds 2 = ds.getD 4 0 := rfl
  have v3 : FF ds 3 = ds.getD 6 0 := rfl
  have hsp : spl ((fcT w [wa, wb, wc]).nd 0) ds = [ds.getD 2 0, ds.getD 4 0, ds.getD 6 0] := by rw [e]; rfl
  refine ⟨by rw [hsp]; rfl, ⟨⟨by omega, by omega⟩, z0, fun a b ha hb => ?_⟩, ?_, fun ms hp hs => ?_⟩
  · have ea : a = 0 ∨ a = 1 ∨ a = 2 ∨ a = 3 := by omega
    have eb : b = 0 ∨ b = 1 ∨ b = 2 ∨ b = 3 := by omega
    rcases ea with rfl | rfl | rfl | rfl <;> rcases eb with rfl | rfl | rfl | rfl <;> omega
  · show ds = [FF ds 0, FF ds 0, FF ds 1, FF ds 0, FF ds 2, FF ds 0, FF ds 3]
    rw [v0, v1, v2, v3]
    have e2 := e
    rw [z0, z1, z3, z5] at e2
    rw [z0]
    exact e2
  · rw [hsp] at hp
    have hso : List.Pairwise (· ≤ ·) ([ds.getD 2 0, ds.getD 4 0, ds.getD 6 0] : List Int) := by
      refine (List.Pairwise.cons (fun z hz => ?_) (List.Pairwise.cons (fun z hz => ?_) (List.Pairwise.cons (fun z hz => ?_) List.Pairwise.nil)))
      all_goals (simp only [List.mem_cons, List.not_mem_nil, or_false] at hz; try omega)
    have em := List.Perm.eq_of_pairwise (le := fun a b : Int => a ≤ b) (fun a b _ _ p q => Int.le_antisymm p q) hs hso hp
    subst em
    show (0 : Int) :: [ds.getD 2 0, ds.getD 4 0, ds.getD 6 0] = [FF ds 0, FF ds 1, FF ds 2, FF ds 3]
    rw [v0, z0]
    try rfl
theorem f15_5 {w wa wb wc wd : Str} {ds : List Int} {d : Int} (D : Dt (fcT w [wa, wb, wc, wd]) ds [] d) : (spl ((fcT w [wa, wb, wc, wd]).nd 0) ds).length = 4 ∧ Rk (fun k => 0 ≤ k ∧ k < 5) (FF ds) ∧ ds = (rks' 5).map (FF ds) ∧ ∀ ms : List Int, ms.Perm (spl ((fcT w [wa, wb, wc, wd]).nd 0) ds) → ms.Pairwise (· ≤ ·) → 0 :: ms = (bgs' 5).map (FF ds) := by
  have hl : ds.length = 9 := D.len
  have z0 : ds.getD 0 0 = 0 := D.zero 0 (Nat.le_of_ble_eq_true rfl) (.inl rfl)
  have z1 : ds.getD 1 0 = 0 := D.zero 1 (Nat.le_of_ble_eq_true rfl) (.inl rfl)
  have z3 : ds.getD 3 0 = 0 := D.zero 3 (Nat.le_of_ble_eq_true rfl) (.inl rfl)
  have z5 : ds.getD 5 0 = 0 := D.zero 5 (Nat.le_of_ble_eq_true rfl) (.inl rfl)
  have z7 : ds.getD 7 0 = 0 := D.zero 7 (Nat.le_of_ble_eq_true rfl) (.inl rfl)
  have u1 := (D.up 2 (Nat.le_of_ble_eq_true rfl) (by simp) 0 1 rfl).2.2.1
  have u2 := (D.up 4 (Nat.le_of_ble_eq_true rfl) (by simp) 2 3 rfl).2.2.1
  have u3 := (D.up 6 (Nat.le_of_ble_eq_true rfl) (by simp) 4 5 rfl).2.2.1
  have u4 := (D.up 8 (Nat.le_of_ble_eq_true rfl) (by simp) 6 7 rfl).2.2.1
  have e : ds = [ds.getD 0 0, ds.getD 1 0, ds.getD 2 0, ds.getD 3 0, ds.getD 4 0, ds.getD 5 0, ds.getD 6 0, ds.getD 7 0, ds.getD 8 0] := list_getD 9 ds hl
  have v0 : FF ds 0 = ds.getD 0 0 := rfl
  have v1 : FF ds 1 = ds.getD 2 0 := rfl
  have v2 : FF ds 2 = ds.getD 4 0 := rfl
  have v3 : FF ds 3 = ds.getD 6 0 := rfl
  have v4 : FF ds 4 = ds.getD 8 0 := rfl
  have hsp : spl ((fcT w [wa, wb, wc, wd]).nd 0) ds = [ds.getD 2 0, ds.getD 4 0, ds.getD 6 0, ds.getD 8 0] := by rw [e]; rfl
  refine ⟨by rw [hsp]; rfl, ⟨⟨by omega, by omega⟩, z0, fun a b ha hb => ?_⟩, ?_, fun ms hp hs => ?_⟩
  · have ea : a = 0 ∨ a = 1 ∨ a = 2 ∨ a = 3 ∨ a = 4 := by omega
    have eb : b = 0 ∨ b = 1 ∨ b = 2 ∨ b = 3 ∨ b = 4 := by omega
    rcases ea with rfl | rfl | rfl | rfl | rfl <;> rcases eb with rfl | rfl | rfl | rfl | rfl <;> omega
  · show ds = [FF ds 0, FF ds 0, FF ds 1, FF ds 0, FF ds 2, FF ds 0, FF ds 3, FF ds 0, FF ds 4]
    rw [v0, v1, v2, v3, v4]
    have e2 := e
    rw [z0, z1, z3, z5, z7] at e2
    rw [z0]
    exact e2
  · rw [hsp] at hp
    have hso : List.Pairwise (· ≤ ·) ([ds.getD 2 0, ds.getD 4 0, ds.getD 6 0, ds.getD 8 0] : List Int) := by
      refine (List.Pairwise.cons (fun z hz => ?_) (List.Pairwise.cons (fun z hz => ?_) (List.Pairwise.cons (fun z hz => ?_) (List.Pairwise.cons (fun z hz => ?_) List.Pairwise.nil))))
      all_goals (simp only [List.mem_cons, List.not_mem_nil, or_false] at hz; try omega)
    have em := List.Perm.eq_of_pairwise (le := fun a b : Int => a ≤ b) (fun a b _ _ p q => Int.le_antisymm p q) hs hso hp
    subst em
    show (0 : Int) :: [ds.getD 2 0, ds.getD 4 0, ds.getD 6 0, ds.getD 8 0] = [FF ds 0, FF ds 1, FF ds 2, FF ds 3, FF ds 4]
    rw [v0, z0]
    try rfl
theorem f15_6 {w wa wb wc wd we : Str} {ds : List Int} {d : Int} (D : Dt (fcT w [wa, wb, wc, wd, we]) ds [] d) : (spl ((fcT w [wa, wb, wc, wd, we]).nd 0) ds).length = 5 ∧ Rk (fun k => 0 ≤ k ∧ k < 6) (FF ds) ∧ ds = (rks' 6).map (FF ds) ∧ ∀ ms : List Int, ms.Perm (spl ((fcT w [wa, wb, wc, wd, we]).nd 0) ds) → ms.Pairwise (· ≤ ·) → 0 :: ms = (bgs' 6).map (FF ds) := by
  have hl : ds.length = 11 := D.len
  have z0 : ds.getD 0 0 = 0 := D.zero 0 (Nat.le_of_ble_eq_true rfl) (.inl rfl)
  have z1 : ds.getD 1 0 = 0 := D.zero 1 (Nat.le_of_ble_eq_true rfl) (.inl rfl)
  have z3 : ds.getD 3 0 = 0 := D.zero 3 (Nat.le_of_ble_eq_true rfl) (.inl rfl)
  have z5 : ds.getD 5 0 = 0 := D.zero 5 (Nat.le_of_ble_eq_true rfl) (.inl rfl)
  have z7 : ds.getD 7 0 = 0 := D.zero 7 (Nat.le_of_ble_eq_true rfl) (.inl rfl)
  have z9 : ds.getD 9 0 = 0 := D.zero 9 (Nat.le_of_ble_eq_true rfl) (.inl rfl)
  have u1 := (D.up 2 (Nat.le_of_ble_eq_true rfl) (by simp) 0 1 rfl).2.2.1
  have u2 := (D.up 4 (Nat.le_of_ble_eq_true rfl) (by simp) 2 3 rfl).2.2.1
  have u3 := (D.up 6 (Nat.le_of_ble_eq_true rfl) (by simp) 4 5 rfl).2.2.1
  have u4 := (D.up 8 (Nat.le_of_ble_eq_true rfl) (by simp) 6 7 rfl).2.2.1
  have u5 := (D.up 10 (Nat.le_of_ble_eq_true rfl) (by simp) 8 9 rfl).2.2.1
  have e : ds = [ds.getD 0 0, ds.getD 1 0, ds.getD 2 0, ds.getD 3 0, ds.getD 4 0, ds.getD 5 0, ds.getD 6 0, ds.getD 7 0, ds.getD 8 0, ds.getD 9 0, ds.getD 10 0] := list_getD 11 ds hl
  have v0 : FF ds 0 = ds.getD 0 0 := rfl
  have v1 : FF ds 1 = ds.getD 2 0 := rfl
  have v2 : FF ds 2 = ds.getD 4 0 := rfl
  have v3 : FF ds 3 = ds.getD 6 0 := rfl
  have v4 : FF ds 4 = ds.getD 8 0 := rfl
  have v5 : FF ds 5 = ds.getD 10 0 := rfl
  have hsp : spl ((fcT w [wa, wb, wc, wd, we]).nd 0) ds = [ds.getD 2 0, ds.getD 4 0, ds.getD 6 0, ds.getD 8 0, ds.getD 10 0] := by rw [e]; rfl
  refine ⟨by rw [hsp]; rfl, ⟨⟨by omega, by omega⟩, z0, fun a b ha hb => ?_⟩, ?_, fun ms hp hs => ?_⟩
  · have ea : a = 0 ∨ a = 1 ∨ a = 2 ∨ a = 3 ∨ a = 4 ∨ a = 5 := by omega
    have eb : b = 0 ∨ b = 1 ∨ b = 2 ∨ b = 3 ∨ b = 4 ∨ b = 5 := by omega
    rcases ea with rfl | rfl | rfl | rfl | rfl | rfl <;> rcases eb with rfl | rfl | rfl | rfl | rfl | rfl <;> omega
  · show ds = [FF ds 0, FF ds 0, FF ds 1, FF ds 0, FF ds 2, FF ds 0, FF ds 3, FF ds 0, FF ds 4, FF ds 0, FF ds 5]
    rw [v0, v1, v2, v3, v4, v5]
    have e2 := e
    rw [z0, z1, z3, z5, z7, z9] at e2
    rw [z0]
    exact e2
  · rw [hsp] at hp
    have hso : List.Pairwise (· ≤ ·) ([ds.getD 2 0, ds.getD 4 0, ds.getD 6 0, ds.getD 8 0, ds.getD 10 0] : List Int) := by
      refine (List.Pairwise.cons (fun z hz => ?_) (List.Pairwise.cons (fun z hz => ?_) (List.Pairwise.cons (fun z hz => ?_) (List.Pairwise.cons (fun z hz => ?_) (List.Pairwise.cons (fun z hz => ?_) List.Pairwise.nil)))))
      all_goals (simp only [List.mem_cons, List.not_mem_nil, or_false] at hz; try omega)
    have em := List.Perm.eq_of_pairwise (le := fun a b : Int => a ≤ b) (fun a b _ _ p q => Int.le_antisymm p q) hs hso hp
    subst em
    show (0 : Int) :: [ds.getD 2 0, ds.getD 4 0, ds.getD 6 0, ds.getD 8 0, ds.getD 10 0] = [FF ds 0, FF ds 1, FF ds 2, FF ds 3, FF ds 4, FF ds 5]
    rw [v0, z0]
    try rfl
theorem f15_7 {w wa wb wc wd we wf : Str} {ds : List Int} {d : Int} (D : Dt (fcT w [wa, wb, wc, wd, we, wf]) ds [] d) : (spl ((fcT w [wa, wb, wc, wd, we, wf]).nd 0) ds).length = 6 ∧ Rk (fun k => 0 ≤ k ∧ k < 7) (FF ds) ∧ ds = (rks' 7).map (FF ds) ∧ ∀ ms : List Int, ms.Perm (spl ((fcT w [wa, wb, wc, wd, we, wf]).nd 0) ds) → ms.Pairwise (· ≤ ·) → 0 :: ms = (bgs' 7).map (FF ds) := by
  have hl : ds.length = 13 := D.len
  have z0 : ds.getD 0 0 = 0 := D.zero 0 (Nat.le_of_ble_eq_true rfl) (.inl rfl)
  have z1 : ds.getD 1 0 = 0 := D.zero 1 (Nat.le_of_ble_eq_true rfl) (.inl rfl)
  have z3 : ds.getD 3 0 = 0 := D.zero 3 (Nat.le_of_ble_eq_true rfl) (.inl rfl)
  have z5 : ds.getD 5 0 = 0 := D.zero 5 (Nat.le_of_ble_eq_true rfl) (.inl rfl)
  have z7 : ds.getD 7 0 = 0 := D.zero 7 (Nat.le_of_ble_eq_true rfl) (.inl rfl)
  have z9 : ds.getD 9 0 = 0 := D.zero 9 (Nat.le_of_ble_eq_true rfl) (.inl rfl)
  have z11 : ds.getD 11 0 = 0 := D.zero 11 (Nat.le_of_ble_eq_true rfl) (.inl rfl)
  have u1 := (D.up 2 (Nat.le_of_ble_eq_true rfl) (by simp) 0 1 rfl).2.2.1
  have u2 := (D.up 4 (Nat.le_of_ble_eq_true rfl) (by simp) 2 3 rfl).2.2.1
  have u3 := (D.up 6 (Nat.le_of_ble_eq_true rfl) (by simp) 4 5 rfl).2.2.1
  have u4 := (D.up 8 (Nat.le_of_ble_eq_true rfl) (by simp) 6 7 rfl).2.2.1
  have u5 := (D.up 10 (Nat.le_of_ble_eq_true rfl) (by simp) 8 9 rfl).2.2.1
  have u6 := (D.up 12 (Nat.le_of_ble_eq_true rfl) (by simp) 10 11 rfl).2.2.1
  have e : ds = [ds.getD 0 0, ds.getD 1 0, ds.getD 2 0, ds.getD 3 0, ds.getD 4 0, ds.getD 5 0, ds.getD 6 0, ds.getD 7 0, ds.getD 8 0, ds.getD 9 0, ds.getD 10 0, ds.getD 11 0, ds.getD 12 0] := list_getD 13 ds hl
  have v0 : FF ds 0 = ds.getD 0 0 := rfl
  have v1 : FF ds 1 = ds.getD 2 0 := rfl
  have v2 : FF ds 2 = ds.getD 4 0 := rfl
  have v3 : FF ds 3 = ds.getD 6 0 := rfl
  have v4 : FF ds 4 = ds.getD 8 0 := rfl
  have v5 : FF ds 5 = ds.getD 10 0 := rfl
  have v6 : FF ds 6 = ds.getD 12 0 := rfl
  have hsp : spl ((fcT w [wa, wb, wc, wd, we, wf]).nd 0) ds = [ds.getD 2 0, ds.getD 4 0, ds.getD 6 0, ds.getD 8 0, ds.getD 10 0, ds.getD 12 0] := by rw [e]; rfl
  refine ⟨by rw [hsp]; rfl, ⟨⟨by omega, by omega⟩, z0, fun a b ha hb => ?_⟩, ?_, fun ms hp hs => ?_⟩
  · have ea : a = 0 ∨ a = 1 ∨ a = 2 ∨ a = 3 ∨ a = 4 ∨ a = 5 ∨ a = 6 := by omega
    have eb : b = 0 ∨ b = 1 ∨ b = 2 ∨ b = 3 ∨ b = 4 ∨ b = 5 ∨ b = 6 := by omega
    rcases ea with rfl | rfl | rfl | rfl | rfl | rfl | rfl <;> rcases eb with rfl | rfl | rfl | rfl | rfl | rfl | rfl <;> omega
  · show ds = [FF ds 0, FF ds 0, FF ds 1, FF ds 0, FF ds 2, FF ds 0, FF ds 3, FF ds 0, FF ds 4, FF ds 0, FF ds 5, FF ds 0, FF ds 6]
    rw [v0, v1, v2, v3, v4, v5, v6]
    have e2 := e
    rw [z0, z1, z3, z5, z7, z9, z11] at e2
    rw [z0]
    exact e2
  · rw [hsp] at hp
    have hso : List.Pairwise (· ≤ ·) ([ds.getD 2 0, ds.getD 4 0, ds.getD 6 0, ds.getD 8 0, ds.getD 10 0, ds.getD 12 0] : List Int) := by
      refine (List.Pairwise.cons (fun z hz => ?_) (List.Pairwise.cons (fun z hz => ?_) (List.Pairwise.cons (fun z hz => ?_) (List.Pairwise.cons (fun z hz => ?_) (List.Pairwise.cons (fun z hz => ?_) (List.Pairwise.cons (fun z hz => ?_) List.Pairwise.nil))))))
      all_goals (simp only [List.mem_cons, List.not_mem_nil, or_false] at hz; try omega)
    have em := List.Perm.eq_of_pairwise (le := fun a b : Int => a ≤ b) (fun a b _ _ p q => Int.le_antisymm p q) hs hso hp
    subst em
    show (0 : Int) :: [ds.getD 2 0, ds.getD 4 0, ds.getD 6 0, ds.getD 8 0, ds.getD 10 0, ds.getD 12 0] = [FF ds 0, FF ds 1, FF ds 2, FF ds 3, FF ds 4, FF ds 5, FF ds 6]
    rw [v0, z0]
    try rfl
theorem f15_8 {w wa wb wc wd we wf wg : Str} {ds : List Int} {d : Int} (D : Dt (fcT w [wa, wb, wc, wd, we, wf, wg]) ds [] d) : (spl ((fcT w [wa, wb, wc, wd, we, wf, wg]).nd 0) ds).length = 7 ∧ Rk (fun k => 0 ≤ k ∧ k < 8) (FF ds) ∧ ds = (rks' 8).map (FF ds) ∧ ∀ ms : List Int, ms.Perm (spl ((fcT w [wa, wb, wc, wd, we, wf, wg]).nd 0) ds) → ms.Pairwise (· ≤ ·) → 0 :: ms = (bgs' 8).map (FF ds) := by
  have hl : ds.length = 15 := D.len
  have z0 : ds.getD 0 0 = 0 := D.zero 0 (Nat.le_of_ble_eq_true rfl) (.inl rfl)
  have z1 : ds.getD 1 0 = 0 := D.zero 1 (Nat.le_of_ble_eq_true rfl) (.inl rfl)
  have z3 : ds.getD 3 0 = 0 := D.zero 3 (Nat.le_of_ble_eq_true rfl) (.inl rfl)
  have z5 : ds.getD 5 0 = 0 := D.zero 5 (Nat.le_of_ble_eq_true rfl) (.inl rfl)
  have z7 : ds.getD 7 0 = 0 := D.zero 7 (Nat.le_of_ble_eq_true rfl) (.inl rfl)
  have z9 : ds.getD 9 0 = 0 := D.zero 9 (Nat.le_of_ble_eq_true rfl) (.inl rfl)
  have z11 : ds.getD 11 0 = 0 := D.zero 11 (Nat.le_of_ble_eq_true rfl) (.inl rfl)
  have z13 : ds.getD 13 0 = 0 := D.zero 13 (Nat.le_of_ble_eq_true rfl) (.inl rfl)
  have u1 := (D.up 2 (Nat.le_of_ble_eq_true rfl) (by simp) 0 1 rfl).2.2.1
  have u2 := (D.up 4 (Nat.le_of_ble_eq_true rfl) (by simp) 2 3 rfl).2.2.1
  have u3 := (D.up 6 (Nat.le_of_ble_eq_true rfl) (by simp) 4 5 rfl).2.2.1
  have u4 := (D.up 8 (Nat.le_of_ble_eq_true rfl) (by simp) 6 7 rfl).2.2.1
  have u5 := (D.up 10 (Nat.le_of_ble_eq_true rfl) (by simp) 8 9 rfl).2.2.1
  have u6 := (D.up 12 (Nat.le_of_ble_eq_true rfl) (by simp) 10 11 rfl).2.2.1
  have u7 := (D.up 14 (Nat.le_of_ble_eq_true rfl) (by simp) 12 13 rfl).2.2.1
  have e : ds = [ds.getD 0 0, ds.getD 1 0, ds.getD 2 0, ds.getD 3 0, ds.getD 4 0, ds.getD 5 0, ds.getD 6 0, ds.getD 7 0, ds.getD 8 0, ds.getD 9 0, ds.getD 10 0, ds.getD 11 0, ds.getD 12 0, ds.getD 13 0, ds.getD 14 0] := list_getD 15 ds hl
  have v0 : FF ds 0 = ds.getD 0 0 := rfl
  have v1 : FF ds 1 = ds.getD 2 0 := rfl
  have v2 : FF ds 2 = ds.getD 4 0 := rfl
  have v3 : FF ds 3 = ds.getD 6 0 := rfl
  have v4 : FF ds 4 = ds.getD 8 0 := rfl
  have v5 : FF ds 5 = ds.getD 10 0 := rfl
  have v6 : FF ds 6 = ds.getD 12 0 := rfl
  have v7 : FF ds 7 = ds.getD 14 0 := rfl
  have hsp : spl ((fcT w [wa, wb, wc, wd, we, wf, wg]).nd 0) ds = [ds.getD 2 0, ds.getD 4 0, ds.getD 6 0, ds.getD 8 0, ds.getD 10 0, ds.getD 12 0, ds.getD 14 0] := by rw [e]; rfl
  refine ⟨by rw [hsp]; rfl, ⟨⟨by omega, by omega⟩, z0, fun a b ha hb => ?_⟩, ?_, fun ms hp hs => ?_⟩
  · have ea : a = 0 ∨ a = 1 ∨ a = 2 ∨ a = 3 ∨ a = 4 ∨ a = 5 ∨ a = 6 ∨ a = 7 := by omega
    have eb : b = 0 ∨ b = 1 ∨ b = 2 ∨ b = 3 ∨ b = 4 ∨ b = 5 ∨ b = 6 ∨ b = 7 := by omega
    rcases ea with rfl | rfl | rfl | rfl | rfl | rfl | rfl | rfl <;> rcases eb with rfl | rfl | rfl | rfl | rfl | rfl | rfl | rfl <;> omega
  · show ds = [FF ds 0, FF ds 0, FF ds 1, FF ds 0, FF ds 2, FF ds 0, FF ds 3, FF ds 0, FF ds 4, FF ds 0, FF ds 5, FF ds 0, FF ds 6, FF ds 0, FF ds 7]
    rw [v0, v1, v2, v3, v4, v5, v6, v7]
    have e2 := e
    rw [z0, z1, z3, z5, z7, z9, z11, z13] at e2
    rw [z0]
    exact e2
  · rw [hsp] at hp
    have hso : List.Pairwise (· ≤ ·) ([ds.getD 2 0, ds.getD 4 0, ds.getD 6 0, ds.getD 8 0, ds.getD 10 0, ds.getD 12 0, ds.getD 14 0] : List Int) := by
      refine (List.Pairwise.cons (fun z hz => ?_) (List.Pairwise.cons (fun z hz => ?_) (List.Pairwise.cons (fun z hz => ?_) (List.Pairwise.cons (fun z hz => ?_) (List.Pairwise.cons (fun z hz => ?_) (List.Pairwise.cons (fun z hz => ?_) (List.Pairwise.cons (fun z hz => ?_) List.Pairwise.nil)))))))
      all_goals (simp only [List.mem_cons, List.not_mem_nil, or_false] at hz; try omega)
    have em := List.Perm.eq_of_pairwise (le := fun a b : Int => a ≤ b) (fun a b _ _ p q => Int.le_antisymm p q) hs hso hp
    subst em
    show (0 : Int) :: [ds.getD 2 0, ds.getD 4 0, ds.getD 6 0, ds.getD 8 0, ds.getD 10 0, ds.getD 12 0, ds.getD 14 0] = [FF ds 0, FF ds 1, FF ds 2, FF ds 3, FF ds 4, FF ds 5, FF ds 6, FF ds 7]
    rw [v0, z0]
    try rfl
set_option maxHeartbeats 1000000
theorem k15_all (w : Str) : ∀ ws : List Str, ws.length ≤ 7 → ∀ ds d, Dt (fcT w ws) ds [] d → (spl ((fcT w ws).nd 0) ds).length = ws.length ∧ ∀ ms : List Int, ms.Perm (spl ((fcT w ws).nd 0) ds) → ms.Pairwise (· ≤ ·) → okD (fcT w ws) ds (0 :: ms) ∧ dgL (fcT w ws) ds (0 :: ms) = stayL (w :: ws) (ws.length + 1)
  | [], hw, ds, d, D => by
    obtain ⟨e0, R, e1, e2⟩ := f15_1 D
    obtain ⟨o1, o2⟩ := comb15 w [] hw
    refine ⟨e0, fun ms hp hs => ?_⟩
    have e3 := e2 ms hp hs
    have hS : ∀ x ∈ rks' 1, 0 ≤ x ∧ x < 1 := by decide
    have hB : ∀ x ∈ bgs' 1, 0 ≤ x ∧ x < 1 := by decide
    have q1 := R.okD (t := fcT w []) hS hB o1
    have q2 := (R.dgL (t := fcT w []) hS hB).trans o2
    rw [← e1, ← e3] at q1 q2
    exact ⟨q1, q2⟩
  | [wa], hw, ds, d, D => by
    obtain ⟨e0, R, e1, e2⟩ := f15_2 D
    obtain ⟨o1, o2⟩ := comb15 w [wa] hw
    refine ⟨e0, fun ms hp hs => ?_⟩
    have e3 := e2 ms hp hs
    have hS : ∀ x ∈ rks' 2, 0 ≤ x ∧ x < 2 := by decide
    have hB : ∀ x ∈ bgs' 2, 0 ≤ x ∧ x < 2 := by decide
    have q1 := R.okD (t := fcT w [wa]) hS hB o1
    have q2 := (R.dgL (t := fcT w [wa]) hS hB).trans o2
    rw [← e1, ← e3] at q1 q2
    exact ⟨q1, q2⟩
  | [wa, wb], hw, ds, d, D => by
    obtain ⟨e0, R, e1, e2⟩ := f15_3 D
    obtain ⟨o1, o2⟩ := comb15 w [wa, wb] hw
    refine ⟨e0, fun ms hp hs => ?_⟩
    have e3 := e2 ms hp hs
    have hS : ∀ x ∈ rks' 3, 0 ≤ x ∧ x < 3 := by decide
    have hB : ∀ x ∈ bgs' 3, 0 ≤ x ∧ x < 3 := by decide
    have q1 := R.okD (t := fcT w [wa, wb]) hS hB o1
    have q2 := (R.dgL (t := fcT w [wa, wb]) hS hB).trans o2
    rw [← e1, ← e3] at q1 q2
    exact ⟨q1, q2⟩
  | [wa, wb, wc], hw, ds, d, D => by
    obtain ⟨e0, R, e1, e2⟩ := f15_4 D
    obtain ⟨o1, o2⟩ := comb15 w [wa, wb, wc] hw
    refine ⟨e0, fun ms hp hs => ?_⟩
    have e3 := e2 ms hp hs
    have hS : ∀ x ∈ rks' 4, 0 ≤ x ∧ x < 4 := by decide
    have hB : ∀ x ∈ bgs' 4, 0 ≤ x ∧ x < 4 := by decide
    have q1 := R.okD (t := fcT w [wa, wb, wc]) hS hB o1
    have q2 := (R.dgL (t := fcT w [wa, wb, wc]) hS hB).trans o2
    rw [← e1, ← e3] at q1 q2
    exact ⟨q1, q2⟩
  | [wa, wb, wc, wd], hw, ds, d, D => by
    obtain ⟨e0, R, e1, e2⟩ := f15_5 D
    obtain ⟨o1, o2⟩ := comb15 w [wa, wb, wc, wd] hw
    refine ⟨e0, fun ms hp hs => ?_⟩
    have e3 := e2 ms hp hs
    have hS : ∀ x ∈ rks' 5, 0 ≤ x ∧ x < 5 := by decide
    have hB : ∀ x ∈ bgs' 5, 0 ≤ x ∧ x < 5 := by decide
    have q1 := R.okD (t := fcT w [wa, wb, wc, wd]) hS hB o1
    have q2 := (R.dgL (t := fcT w [wa, wb, wc, wd]) hS hB).trans o2
    rw [← e1, ← e3] at q1 q2
    exact ⟨q1, q2⟩
  | [wa, wb, wc, wd, we], hw, ds, d, D => by
    obtain ⟨e0, R, e1, e2⟩ := f15_6 D
    obtain ⟨o1, o2⟩ := comb15 w [wa, wb, wc, wd, we] hw
    refine ⟨e0, fun ms hp hs => ?_⟩
    have e3 := e2 ms hp hs
    have hS : ∀ x ∈ rks' 6, 0 ≤ x ∧ x < 6 := by decide
    have hB : ∀ x ∈ bgs' 6, 0 ≤ x ∧ x < 6 := by decide
    have q1 := R.okD (t := fcT w [wa, wb, wc, wd, we]) hS hB o1
    have q2 := (R.dgL (t := fcT w [wa, wb, wc, wd, we]) hS hB).trans o2
    rw [← e1, ← e3] at q1 q2
    exact ⟨q1, q2⟩
  | [wa, wb, wc, wd, we, wf], hw, ds, d, D => by
    obtain ⟨e0, R, e1, e2⟩ := f15_7 D
    obtain ⟨o1, o2⟩ := comb15 w [wa, wb, wc, wd, we, wf] hw
    refine ⟨e0, fun ms hp hs => ?_⟩
    have e3 := e2 ms hp hs
    have hS : ∀ x ∈ rks' 7, 0 ≤ x ∧ x < 7 := by decide
    have hB : ∀ x ∈ bgs' 7, 0 ≤ x ∧ x < 7 := by decide
    have q1 := R.okD (t := fcT w [wa, wb, wc, wd, we, wf]) hS hB o1
    have q2 := (R.dgL (t := fcT w [wa, wb, wc, wd, we, wf]) hS hB).trans o2
    rw [← e1, ← e3] at q1 q2
    exact ⟨q1, q2⟩
  | [wa, wb, wc, wd, we, wf, wg], hw, ds, d, D => by
    obtain ⟨e0, R, e1, e2⟩ := f15_8 D
    obtain ⟨o1, o2⟩ := comb15 w [wa, wb, wc, wd, we, wf, wg] hw
    refine ⟨e0, fun ms hp hs => ?_⟩
    have e3 := e2 ms hp hs
    have hS : ∀ x ∈ rks' 8, 0 ≤ x ∧ x < 8 := by decide
    have hB : ∀ x ∈ bgs' 8, 0 ≤ x ∧ x < 8 := by decide
    have q1 := R.okD (t := fcT w [wa, wb, wc, wd, we, wf, wg]) hS hB o1
    have q2 := (R.dgL (t := fcT w [wa, wb, wc, wd, we, wf, wg]) hS hB).trans o2
    rw [← e1, ← e3] at q1 q2
    exact ⟨q1, q2⟩
  | _ :: _ :: _ :: _ :: _ :: _ :: _ :: _ :: _, h, _, _, _ => absurd h (by simp only [List.length_cons]; omega)
theorem fcT_small (w : Str) : ∀ ws : List Str, ws.length ≤ 7 → (fcT w ws).size ≤ 15 ∧ (fcT w ws).depth ≤ 7
  | [], _ => ⟨Nat.le_of_ble_eq_true rfl, Nat.le_of_ble_eq_true rfl⟩
  | [wa], _ => ⟨Nat.le_of_ble_eq_true rfl, Nat.le_of_ble_eq_true rfl⟩
  | [wa, wb], _ => ⟨Nat.le_of_ble_eq_true rfl, Nat.le_of_ble_eq_true rfl⟩
  | [wa, wb, wc], _ => ⟨Nat.le_of_ble_eq_true rfl, Nat.le_of_ble_eq_true rfl⟩
  | [wa, wb, wc, wd], _ => ⟨Nat.le_of_ble_eq_true rfl, Nat.le_of_ble_eq_true rfl⟩
  | [wa, wb, wc, wd, we], _ => ⟨Nat.le_of_ble_eq_true rfl, Nat.le_of_ble_eq_true rfl⟩
  | [wa, wb, wc, wd, we, wf], _ => ⟨Nat.le_of_ble_eq_true rfl, Nat.le_of_ble_eq_true rfl⟩
  | [wa, wb, wc, wd, we, wf, wg], _ => ⟨Nat.le_of_ble_eq_true rfl, Nat.le_of_ble_eq_true rfl⟩
  | _ :: _ :: _ :: _ :: _ :: _ :: _ :: _ :: _, h => absurd h (by simp only [List.length_cons]; omega)
theorem R_law15 (l : List PV) (h : PH) (Q : QV) (hh : limH h.length h) (hl : limL h.length l = true) (q : F_law10.run l h Q) : (b_law_2 F_pot F_words F_take F_fc (F_same 4) F_stays15 F_dated F_dates (F_lnodes 8)).run (exitD h.length Q) (begin 5 l) h := by
  obtain ⟨ns, rfl, h63, rfl, q⟩ := q
  unfold b_law_2
  show MS.run _ _ [some (.cl (ns.map PV.int)), none, none, none, none] []
  one_item
  rw [List.length_map]
  generalize hm : (if (if (8 : Int) < (ns.length : Int) then (8 : Int) else (ns.length : Int)) > 1 then (if (8 : Int) < (ns.length : Int) then (8 : Int) else (ns.length : Int)) else (1 : Int)) = m
  have hm1 : 0 ≤ m ∧ m ≤ 8 := by subst hm; split <;> split <;> omega
  refine r_kR1 ⟨by omega, by omega⟩ ?_
  refine for_inv (fun i ps h' => ∃ o1 o2 o3 o4, ps = [some (.cl (ns.map PV.int)), o1, o2, o3, o4]) (fun _ _ _ _ => trivial) (fun i x ps h' hx => ?_) (fun ps h' => ?_) ⟨_, _, _, _, rfl⟩
  · rintro ⟨o1, o2, o3, o4, rfl⟩
    obtain ⟨h1, rfl⟩ := intsV_get hx
    one_item
    refine ⟨ns, _, rfl, h63, by omega, by omega, ?_⟩
    one_item
    refine ⟨_, 8, rfl, get_app0.trans rfl, by decide, by decide, fun d d0 d1 => ?_⟩
    one_item
    refine ⟨_, _, rfl, get_app0.trans rfl, by omega, by omega, fun ws wl wk wn => ?_⟩
    one_item
    match ws, wl, wk, wn with
    | [], wl, _, _ => exact absurd wl (by simp only [List.length_nil]; omega)
    | w :: ws, wl, _, _ =>
      have h7 : ws.length ≤ 7 := by rw [List.length_cons] at wl; omega
      obtain ⟨s1, s2⟩ := fcT_small w ws h7
      refine ⟨_, w, ws, rfl, (get_app 1).trans rfl, h7, ?_⟩
      one_item
      refine ⟨_, rfl, s2, by omega, ?_⟩
      one_item
      refine ⟨_, _, _, rfl, get_app0.trans rfl, (get_app 2).trans rfl, by omega, fun ds dd D hd => ?_⟩
      obtain ⟨k1, k2⟩ := k15_all w ws h7 ds dd D
      have hsz : ((spl ((fcT w ws).nd 0) ds).length + 1) * (fcT w ws).size ≤ 8 * 15 := Nat.mul_le_mul (by omega) s1
      one_item
      refine ⟨_, ds, rfl, D.len, by omega, by omega, by omega, fun ms hp hs => ?_⟩
      obtain ⟨k3, k4⟩ := k2 ms hp hs
      refine ⟨k3, ?_⟩
      one_item
      refine ⟨_, w :: ws, rfl, (get_app 1).trans rfl, by rw [List.length_cons]; omega, ?_⟩
      have hml := hp.length_eq
      have hsz2 : (0 :: ms).length * (fcT w ws).size ≤ 900 := by rw [List.length_cons, hml]; omega
      rw [show (w :: ws).length = ws.length + 1 from rfl, ← k4]
      one_item
      refine ⟨_, rfl, dgL_pl _ _ _, dgL_wid _ _ _ hsz2, dgL_dep _ _ _, ?_⟩
      one_item
      exact ⟨_, _, _, _, rfl⟩
  · rintro ⟨o1, o2, o3, o4, rfl⟩
    one_item
    exact exit_drop (h := []) (by simp [PV.lim]) hh rfl q
set_option maxHeartbeats 1000000
def top (i : Nat) : Stmt := PySem.Challenge.pw_treewithin_k15_dated_combs_known_by_hand.main.body.getD i (.Pass ⟨0, 0, 0, 0⟩)
abbrev s_parts_of : Stmt := top 1
abbrev N_parts_of : List Str := ["tree", "backward", "waiting", "part"]
abbrev P_parts_of : List Str := ["tree"]
theorem sc_parts_of : FnScope N_parts_of P_parts_of (defScope s_parts_of) := ⟨rfl, rfl, rfl, by decide +kernel, rfl, by decide +kernel, by decide +kernel⟩
abbrev s_nodes : Stmt := top 2
abbrev N_nodes : List Str := ["tree", "told", "loose", "part", "other", "one"]
abbrev P_nodes : List Str := ["tree"]
theorem sc_nodes : FnScope N_nodes P_nodes (defScope s_nodes) := ⟨rfl, rfl, rfl, by decide +kernel, rfl, by decide +kernel, by decide +kernel⟩
abbrev s_halves : Stmt := top 3
abbrev N_halves : List Str := ["node"]
abbrev P_halves : List Str := ["node"]
theorem sc_halves : FnScope N_halves P_halves (defScope s_halves) := ⟨rfl, rfl, rfl, by decide +kernel, rfl, by decide +kernel, by decide +kernel⟩
abbrev s_ahead_of : Stmt := top 4
abbrev N_ahead_of : List Str := ["tree", "told", "node", "ahead", "number", "half"]
abbrev P_ahead_of : List Str := ["tree"]
theorem sc_ahead_of : FnScope N_ahead_of P_ahead_of (defScope s_ahead_of) := ⟨rfl, rfl, rfl, by decide +kernel, rfl, by decide +kernel, by decide +kernel⟩
abbrev lsc_ahead_of_0 : Scope := { kind := .function, names := [(Str.ofString ".0", .local), (Str.ofString "node", .local)], isGenerator := false, isCoroutine := false, more := [] }
theorem lc_ahead_of_0 : LcScope (defScope s_ahead_of) N_ahead_of lsc_ahead_of_0 ["node"] [none] := ⟨rfl, by decide +kernel, by decide +kernel, by decide +kernel, by decide +kernel, rfl, by decide +kernel⟩
abbrev s_name_of : Stmt := top 6
abbrev N_name_of : List Str := ["houses", "house"]
abbrev P_name_of : List Str := ["houses", "house"]
theorem sc_name_of : FnScope N_name_of P_name_of (defScope s_name_of) := ⟨rfl, rfl, rfl, by decide +kernel, rfl, by decide +kernel, by decide +kernel⟩
abbrev s_split_dates : Stmt := top 8
abbrev N_split_dates : List Str := ["houses", "dates"]
abbrev P_split_dates : List Str := ["houses", "dates"]
theorem sc_split_dates : FnScope N_split_dates P_split_dates (defScope s_split_dates) := ⟨rfl, rfl, rfl, by decide +kernel, rfl, by decide +kernel, by decide +kernel⟩
abbrev lsc_split_dates_0 : Scope := { kind := .function, names := [(Str.ofString ".0", .local), (Str.ofString "house", .local), (Str.ofString "date", .local), (Str.ofString "isinstance", .globalImplicit), (Str.ofString "str", .globalImplicit)], isGenerator := false, isCoroutine := false, more := [] }
theorem lc_split_dates_0 : LcScope (defScope s_split_dates) N_split_dates lsc_split_dates_0 ["house", "date"] [none, none] := ⟨rfl, by decide +kernel, by decide +kernel, by decide +kernel, by decide +kernel, rfl, by decide +kernel⟩
abbrev s_standing : Stmt := top 9
abbrev N_standing : List Str := ["great", "dates", "begins", "ahead", "pairs", "number", "begin", "house", "date"]
abbrev P_standing : List Str := ["great", "dates", "begins"]
theorem sc_standing : FnScope N_standing P_standing (defScope s_standing) := ⟨rfl, rfl, rfl, by decide +kernel, rfl, by decide +kernel, by decide +kernel⟩
abbrev s_stay_of : Stmt := top 10
abbrev N_stay_of : List Str := ["houses", "dates", "begins", "numbers", "pair", "house", "layer", "goes_on", "below", "under", "beside"]
abbrev P_stay_of : List Str := ["houses", "dates", "begins", "numbers", "pair"]
theorem sc_stay_of : FnScope N_stay_of P_stay_of (defScope s_stay_of) := ⟨rfl, rfl, rfl, by decide +kernel, rfl, by decide +kernel, by decide +kernel⟩
abbrev lsc_stay_of_0 : Scope := { kind := .function, names := [(Str.ofString ".0", .local), (Str.ofString "each", .local), (Str.ofString "layer", .free), (Str.ofString "numbers", .free)], isGenerator := false, isCoroutine := false, more := [] }
abbrev lsc_stay_of_1 : Scope := { kind := .function, names := [(Str.ofString ".0", .local), (Str.ofString "far", .local), (Str.ofString "house", .free), (Str.ofString "layer", .free), (Str.ofString "numbers", .free)], isGenerator := false, isCoroutine := false, more := [] }
theorem lc_stay_of_0 : LcScope (defScope s_stay_of) N_stay_of lsc_stay_of_0 ["each", "layer", "numbers"] [none, some 6, some 3] := ⟨rfl, by decide +kernel, by decide +kernel, by decide +kernel, by decide +kernel, rfl, by decide +kernel⟩
theorem lc_stay_of_1 : LcScope (defScope s_stay_of) N_stay_of lsc_stay_of_1 ["far", "house", "layer", "numbers"] [none, some 5, some 6, some 3] := ⟨rfl, by decide +kernel, by decide +kernel, by decide +kernel, by decide +kernel, rfl, by decide +kernel⟩
abbrev s_dated : Stmt := top 11
abbrev N_dated : List Str := ["great", "dates", "houses", "begins", "pairs", "numbers"]
abbrev P_dated : List Str := ["great", "dates"]
theorem sc_dated : FnScope N_dated P_dated (defScope s_dated) := ⟨rfl, rfl, rfl, by decide +kernel, rfl, by decide +kernel, by decide +kernel⟩
abbrev lsc_dated_0 : Scope := { kind := .function, names := [(Str.ofString ".0", .local), (Str.ofString "number", .local), (Str.ofString "pair", .local)], isGenerator := false, isCoroutine := false, more := [] }
abbrev lsc_dated_1 : Scope := { kind := .function, names := [(Str.ofString ".0", .local), (Str.ofString "pair", .local), (Str.ofString "stay_of", .globalImplicit), (Str.ofString "begins", .free), (Str.ofString "dates", .free), (Str.ofString "houses", .free), (Str.ofString "numbers", .free)], isGenerator := false, isCoroutine := false, more := [] }
theorem lc_dated_0 : LcScope (defScope s_dated) N_dated lsc_dated_0 ["number", "pair"] [none, none] := ⟨rfl, by decide +kernel, by decide +kernel, by decide +kernel, by decide +kernel, rfl, by decide +kernel⟩
theorem lc_dated_1 : LcScope (defScope s_dated) N_dated lsc_dated_1 ["pair", "begins", "dates", "houses", "numbers"] [none, some 3, some 1, some 2, some 5] := ⟨rfl, by decide +kernel, by decide +kernel, by decide +kernel, by decide +kernel, rfl, by decide +kernel⟩
abbrev s__law_pot : Stmt := top 13
abbrev N__law_pot : List Str := ["_law_script", "_law_k", "_law_cell", "_law_digits"]
abbrev P__law_pot : List Str := ["_law_script", "_law_k"]
theorem sc__law_pot : FnScope N__law_pot P__law_pot (defScope s__law_pot) := ⟨rfl, rfl, rfl, by decide +kernel, rfl, by decide +kernel, by decide +kernel⟩
abbrev s__law_take : Stmt := top 14
abbrev N__law_take : List Str := ["_law_pot_here", "_law_many", "_law_digit", "_law_mixed"]
abbrev P__law_take : List Str := ["_law_pot_here", "_law_many"]
theorem sc__law_take : FnScope N__law_take P__law_take (defScope s__law_take) := ⟨rfl, rfl, rfl, by decide +kernel, rfl, by decide +kernel, by decide +kernel⟩
abbrev s__law_pick : Stmt := top 15
abbrev N__law_pick : List Str := ["_law_pot_here", "_law_some"]
abbrev P__law_pick : List Str := ["_law_pot_here", "_law_some"]
theorem sc__law_pick : FnScope N__law_pick P__law_pick (defScope s__law_pick) := ⟨rfl, rfl, rfl, by decide +kernel, rfl, by decide +kernel, by decide +kernel⟩
abbrev s__law_words : Stmt := top 16
abbrev N__law_words : List Str := ["_law_pot_here", "_law_many", "_law_letters", "_law_first", "_law_turn", "_law_stem", "_law_ends", "_law_found", "_law_k", "_law_letter"]
abbrev P__law_words : List Str := ["_law_pot_here", "_law_many"]
theorem sc__law_words : FnScope N__law_words P__law_words (defScope s__law_words) := ⟨rfl, rfl, rfl, by decide +kernel, rfl, by decide +kernel, by decide +kernel⟩
abbrev s__law_nodes : Stmt := top 17
abbrev N__law_nodes : List Str := ["_law_tree", "_law_rows", "_law_many", "_law_row"]
abbrev P__law_nodes : List Str := ["_law_tree"]
theorem sc__law_nodes : FnScope N__law_nodes P__law_nodes (defScope s__law_nodes) := ⟨rfl, rfl, rfl, by decide +kernel, rfl, by decide +kernel, by decide +kernel⟩
abbrev s__law_dates : Stmt := top 18
abbrev N__law_dates : List Str := ["_law_pot_here", "_law_rows", "_law_dates_here", "_law_house", "_law_left", "_law_date", "_law_ready"]
abbrev P__law_dates : List Str := ["_law_pot_here", "_law_rows"]
theorem sc__law_dates : FnScope N__law_dates P__law_dates (defScope s__law_dates) := ⟨rfl, rfl, rfl, by decide +kernel, rfl, by decide +kernel, by decide +kernel⟩
abbrev lsc__law_dates_0 : Scope := { kind := .function, names := [(Str.ofString ".0", .local), (Str.ofString "_law_house", .local), (Str.ofString "_law_row", .local), (Str.ofString "isinstance", .globalImplicit), (Str.ofString "str", .globalImplicit)], isGenerator := false, isCoroutine := false, more := [] }
abbrev lsc__law_dates_1 : Scope := { kind := .function, names := [(Str.ofString ".0", .local), (Str.ofString "_law_house", .local), (Str.ofString "_law_left", .free), (Str.ofString "_law_rows", .free)], isGenerator := false, isCoroutine := false, more := [] }
theorem lc__law_dates_0 : LcScope (defScope s__law_dates) N__law_dates lsc__law_dates_0 ["_law_house", "_law_row"] [none, none] := ⟨rfl, by decide +kernel, by decide +kernel, by decide +kernel, by decide +kernel, rfl, by decide +kernel⟩
theorem lc__law_dates_1 : LcScope (defScope s__law_dates) N__law_dates lsc__law_dates_1 ["_law_house", "_law_left", "_law_rows"] [none, some 4, some 1] := ⟨rfl, by decide +kernel, by decide +kernel, by decide +kernel, by decide +kernel, rfl, by decide +kernel⟩
abbrev s__law_same : Stmt := top 19
abbrev N__law_same : List Str := ["_law_found", "_law_due"]
abbrev P__law_same : List Str := ["_law_found", "_law_due"]
theorem sc__law_same : FnScope N__law_same P__law_same (defScope s__law_same) := ⟨rfl, rfl, rfl, by decide +kernel, rfl, by decide +kernel, by decide +kernel⟩
abbrev lsc__law_same_0 : Scope := { kind := .function, names := [(Str.ofString ".0", .local), (Str.ofString "_law_one", .local), (Str.ofString "_law_other", .local), (Str.ofString "_law_same", .globalImplicit)], isGenerator := false, isCoroutine := false, more := [] }
theorem lc__law_same_0 : LcScope (defScope s__law_same) N__law_same lsc__law_same_0 ["_law_one", "_law_other"] [none, none] := ⟨rfl, by decide +kernel, by decide +kernel, by decide +kernel, by decide +kernel, rfl, by decide +kernel⟩
abbrev s__law_comb : Stmt := top 20
abbrev N__law_comb : List Str := ["_law_words_here", "_law_tree", "_law_word"]
abbrev P__law_comb : List Str := ["_law_words_here"]
theorem sc__law_comb : FnScope N__law_comb P__law_comb (defScope s__law_comb) := ⟨rfl, rfl, rfl, by decide +kernel, rfl, by decide +kernel, by decide +kernel⟩
abbrev s__law_stays : Stmt := top 21
abbrev N__law_stays : List Str := ["_law_words_here", "_law_many", "_law_stays_here", "_law_base", "_law_below", "_law_level", "_law_here", "_law_at", "_law_beside", "_law_name", "_law_under"]
abbrev P__law_stays : List Str := ["_law_words_here"]
theorem sc__law_stays : FnScope N__law_stays P__law_stays (defScope s__law_stays) := ⟨rfl, rfl, rfl, by decide +kernel, rfl, by decide +kernel, by decide +kernel⟩
abbrev lsc__law_stays_0 : Scope := { kind := .function, names := [(Str.ofString ".0", .local), (Str.ofString "_law_one", .local), (Str.ofString "_law_at", .free)], isGenerator := false, isCoroutine := false, more := [] }
theorem lc__law_stays_0 : LcScope (defScope s__law_stays) N__law_stays lsc__law_stays_0 ["_law_one", "_law_at"] [none, some 7] := ⟨rfl, by decide +kernel, by decide +kernel, by decide +kernel, by decide +kernel, rfl, by decide +kernel⟩
abbrev s_law : Stmt := top 22
abbrev N_law : List Str := ["_law_script", "_law_k", "_law_pot_here", "_law_words_here", "_law_comb_here"]
abbrev P_law : List Str := ["_law_script"]
theorem sc_law : FnScope N_law P_law (defScope s_law) := ⟨rfl, rfl, rfl, by decide +kernel, rfl, by decide +kernel, by decide +kernel⟩
theorem c_parts_of {P : Program} {w : World} {K : PySem.W.Frag} {mg : Str → Option Value} {base : Heap} {f : Addr} {k : Nat} (n_isinstance : mg "isinstance" = none) (n_str : mg "str" = none) (n_list : mg "list" = none) (n_reversed : mg "reversed" = none) :
    ∀ (cdv : Value) (A : Around) (outer : List Env) (s : Shared) (H : Hp) (E : XK), Room k (A.deeper (envOfC "parts_of" (defScope s_parts_of) s.heap.objs.size f cdv)) → PSs (cxOf CX0 P w K mg base N_parts_of "parts_of" (defScope s_parts_of) f cdv A outer s H E).nox (defBody s_parts_of) (lS K (b_parts_of)) := fun cdv A outer s H E hr => JSs.p
  (jss_cons (js_set (i := 1) sc_parts_of.nd rfl (Or.inl rfl) (j_alloc (jl_lst ja_nil)))
  (jss_cons (js_set (i := 2) sc_parts_of.nd rfl (Or.inl rfl) (j_alloc (jl_lst (ja_cons (j_var 0) ja_nil))))
  (jss_cons (js_while PassesOwn.never (jt_tru rfl (j_var 2) (fun _ => rfl)) (jss_cons (js_set (i := 3) sc_parts_of.nd rfl (Or.inl rfl) (j_pop rfl (j_var 2)))
  (jss_cons (js_expr (j_append rfl (j_var 1) (j_var 3)))
  (jss_one (js_if (jt_not (jt_tru rfl (j_isi rfl .str rfl n_isinstance (j_var 3) rfl n_str boot_str) (fun _ => rfl))) (jss_one (js_expr (j_extend rfl (j_var 2) (jq_sq (j_var 3))))) jss_nil)))))
  (jss_one (js_ret (j_alloc (jl_rev rfl rfl rfl n_list rfl n_reversed (jql_sq (j_var 1)))))))))
theorem c_nodes {P : Program} {w : World} {K : PySem.W.Frag} {mg : Str → Option Value} {base : Heap} {f : Addr} {k : Nat} {F_parts_of : MFL} {k_parts_of : Nat} (n_isinstance : mg "isinstance" = none) (n_str : mg "str" = none) (n_len : mg "len" = none) (n_tuple : mg "tuple" = none) (g_parts_of : Cal P w K mg base "parts_of" k_parts_of P_parts_of (spL K F_parts_of)) (h_parts_of : k_parts_of ≤ k) :
    ∀ (cdv : Value) (A : Around) (outer : List Env) (s : Shared) (H : Hp) (E : XK), Room k (A.deeper (envOfC "nodes" (defScope s_nodes) s.heap.objs.size f cdv)) → PSs (cxOf CX0 P w K mg base N_nodes "nodes" (defScope s_nodes) f cdv A outer s H E).nox (defBody s_nodes) (lS K (b_nodes F_parts_of)) := fun cdv A outer s H E hr => JSs.p
  (jss_cons (js_set (i := 1) sc_nodes.nd rfl (Or.inl rfl) (j_alloc (jl_lst ja_nil)))
  (jss_cons (js_set (i := 2) sc_nodes.nd rfl (Or.inl rfl) (j_alloc (jl_lst ja_nil)))
  (jss_cons (js_for PassesOwn.never rfl (ji_seq rfl (jq_own (jl_call g_parts_of hr h_parts_of rfl (ja_cons (j_var 0) ja_nil)))) (jg_name (i := 3) sc_nodes.nd rfl (Or.inl rfl)) (jss_cons (js_if (jt_tru rfl (j_isi rfl .str rfl n_isinstance (j_var 3) rfl n_str boot_str) (fun _ => rfl)) (jss_one (js_expr (j_append rfl (j_var 1) (j_var 3)))) (jss_cons (js_set (i := 4) sc_nodes.nd rfl (Or.inl rfl) (j_pop rfl (j_var 2)))
  (jss_cons (js_set (i := 5) sc_nodes.nd rfl (Or.inl rfl) (j_pop rfl (j_var 2)))
  (jss_one (js_expr (j_append rfl (j_var 1) (j_tup (ja_cons (j_var 5) (ja_cons (j_var 4) ja_nil)))))))))
  (jss_one (js_expr (j_append rfl (j_var 2) (j_sub (j_len' rfl rfl rfl rfl n_len (j_var 1)) j_int))))))
  (jss_one (js_ret (j_tuple' rfl rfl rfl rfl n_tuple (jq_sq (j_var 1))))))))
theorem c_halves {P : Program} {w : World} {K : PySem.W.Frag} {mg : Str → Option Value} {base : Heap} {f : Addr} {k : Nat} (n_isinstance : mg "isinstance" = none) (n_str : mg "str" = none) :
    ∀ (cdv : Value) (A : Around) (outer : List Env) (s : Shared) (H : Hp) (E : XK), Room k (A.deeper (envOfC "halves" (defScope s_halves) s.heap.objs.size f cdv)) → PSs (cxOf CX0 P w K mg base N_halves "halves" (defScope s_halves) f cdv A outer s H E).nox (defBody s_halves) (lS K (b_halves)) := fun cdv A outer s H E hr => JSs.p
  (jss_one (js_ret (j_if (jt_tru rfl (j_isi rfl .str rfl n_isinstance (j_var 0) rfl n_str boot_str) (fun _ => rfl)) (j_tup ja_nil) (j_var 0))))
theorem c_ahead_of {P : Program} {w : World} {K : PySem.W.Frag} {mg : Str → Option Value} {base : Heap} {f : Addr} {k : Nat} {F_nodes : MF} {F_halves : MF} {k_nodes : Nat} {k_halves : Nat} (n_enumerate : mg "enumerate" = none) (n_tuple : mg "tuple" = none) (g_nodes : Cal P w K mg base "nodes" k_nodes P_nodes (spOf K F_nodes)) (h_nodes : k_nodes ≤ k) (g_halves : Cal P w K mg base "halves" k_halves P_halves (spOf K F_halves)) (h_halves : k_halves ≤ k) :
    ∀ (cdv : Value) (A : Around) (outer : List Env) (s : Shared) (H : Hp) (E : XK), Room k (A.deeper (envOfC "ahead_of" (defScope s_ahead_of) s.heap.objs.size f cdv)) → PSs (cxOf CX0 P w K mg base N_ahead_of "ahead_of" (defScope s_ahead_of) f cdv A outer s H E).nox (defBody s_ahead_of) (lS K (b_ahead_of F_nodes F_halves)) := fun cdv A outer s H E hr => JSs.p
  (jss_cons (js_set (i := 1) sc_ahead_of.nd rfl (Or.inl rfl) (j_call g_nodes hr h_nodes rfl (ja_cons (j_var 0) ja_nil)))
  (jss_cons (js_setlc (i := 3) rfl sc_ahead_of.nd rfl rfl lc_ahead_of_0 (ji_seq rfl (jq_sq (j_var 1))) (fun _ _ _ _ _ => (jg_name (i := 0) lc_ahead_of_0.nd rfl (Or.inl rfl) (Or.inr rfl))) (fun _ _ _ _ _ => jf_nil) (fun _ _ _ _ _ => j_non))
  (jss_cons (js_for PassesOwn.never rfl (ji_enum rfl rfl n_enumerate (jq_sq (j_var 1))) (jg_tup rfl rfl (jgs_cons (jg_name (i := 4) sc_ahead_of.nd rfl (Or.inl rfl)) (jgs_cons (jg_name (i := 2) sc_ahead_of.nd rfl (Or.inl rfl)) jgs_nil))) (jss_one (js_for PassesOwn.never rfl (ji_seq rfl (jq_sq (j_call g_halves hr h_halves rfl (ja_cons (j_var 2) ja_nil)))) (jg_name (i := 5) sc_ahead_of.nd rfl (Or.inl rfl)) (jss_one (js_asg (j_var 4) (jg_sub (j_var 3) (j_var 5)))))))
  (jss_one (js_ret (j_tuple' rfl rfl rfl rfl n_tuple (jq_sq (j_var 3))))))))
theorem c_name_of {P : Program} {w : World} {K : PySem.W.Frag} {mg : Str → Option Value} {base : Heap} {f : Addr} {k : Nat} (n_isinstance : mg "isinstance" = none) (n_str : mg "str" = none) :
    ∀ (cdv : Value) (A : Around) (outer : List Env) (s : Shared) (H : Hp) (E : XK), Room k (A.deeper (envOfC "name_of" (defScope s_name_of) s.heap.objs.size f cdv)) → PSs (cxOf CX0 P w K mg base N_name_of "name_of" (defScope s_name_of) f cdv A outer s H E).nox (defBody s_name_of) (lS K (b_name_of)) := fun cdv A outer s H E hr => JSs.p
  (jss_one (js_ret (j_if (jt_tru rfl (j_isi rfl .str rfl n_isinstance (j_ix rfl (jq_sq (j_var 0)) (j_var 1) (fun _ _ => rfl)) rfl n_str boot_str) (fun _ => rfl)) (j_ix rfl (jq_sq (j_var 0)) (j_var 1) (fun _ _ => rfl)) (j_var 1))))
theorem c_split_dates {P : Program} {w : World} {K : PySem.W.Frag} {mg : Str → Option Value} {base : Heap} {f : Addr} {k : Nat} (n_zip : mg "zip" = none) (n_isinstance : mg "isinstance" = none) (n_str : mg "str" = none) :
    ∀ (cdv : Value) (A : Around) (outer : List Env) (s : Shared) (H : Hp) (E : XK), Room k (A.deeper (envOfC "split_dates" (defScope s_split_dates) s.heap.objs.size f cdv)) → PSs (cxOf CX0 P w K mg base N_split_dates "split_dates" (defScope s_split_dates) f cdv A outer s H E).nox (defBody s_split_dates) (lS K (b_split_dates)) := fun cdv A outer s H E hr => JSs.p
  (jss_one (js_ret (j_alloc (jl_lc rfl lc_split_dates_0 (ji_zip rfl rfl n_zip (j_var 0) (j_var 1)) (fun _ _ _ _ _ => (jg_tup rfl rfl (jgs_cons (jg_name (i := 0) lc_split_dates_0.nd rfl (Or.inl rfl) (Or.inr rfl)) (jgs_cons (jg_name (i := 1) lc_split_dates_0.nd rfl (Or.inl rfl) (Or.inr rfl)) jgs_nil)))) (fun _ _ _ _ _ => (jf_one (jt_not (jt_tru rfl (j_isi rfl .str rfl n_isinstance (j_var 0) rfl n_str boot_str) (fun _ => rfl))))) (fun _ _ _ _ _ => (j_var 1))))))
theorem c_standing {P : Program} {w : World} {K : PySem.W.Frag} {mg : Str → Option Value} {base : Heap} {f : Addr} {k : Nat} {F_ahead_of : MF} {k_ahead_of : Nat} (n_enumerate : mg "enumerate" = none) (g_ahead_of : Cal P w K mg base "ahead_of" k_ahead_of P_ahead_of (spOf K F_ahead_of)) (h_ahead_of : k_ahead_of ≤ k) :
    ∀ (cdv : Value) (A : Around) (outer : List Env) (s : Shared) (H : Hp) (E : XK), Room k (A.deeper (envOfC "standing" (defScope s_standing) s.heap.objs.size f cdv)) → PSs (cxOf CX0 P w K mg base N_standing "standing" (defScope s_standing) f cdv A outer s H E).nox (defBody s_standing) (lS K (b_standing F_ahead_of)) := fun cdv A outer s H E hr => JSs.p
  (jss_cons (js_set (i := 3) sc_standing.nd rfl (Or.inl rfl) (j_call g_ahead_of hr h_ahead_of rfl (ja_cons (j_var 0) ja_nil)))
  (jss_cons (js_set (i := 4) sc_standing.nd rfl (Or.inl rfl) (j_alloc (jl_lst ja_nil)))
  (jss_cons (js_for PassesOwn.never rfl (ji_enum rfl rfl n_enumerate (jq_sq (j_var 2))) (jg_tup rfl rfl (jgs_cons (jg_name (i := 5) sc_standing.nd rfl (Or.inl rfl)) (jgs_cons (jg_name (i := 6) sc_standing.nd rfl (Or.inl rfl)) jgs_nil))) (jss_one (js_for PassesOwn.never rfl (ji_enum rfl rfl n_enumerate (jq_sq (j_var 1))) (jg_tup rfl rfl (jgs_cons (jg_name (i := 7) sc_standing.nd rfl (Or.inl rfl)) (jgs_cons (jg_name (i := 8) sc_standing.nd rfl (Or.inl rfl)) jgs_nil))) (jss_one (js_if (JW.t (jw_and (jt_cmp jc_le (j_var 8) (j_var 6)) (jw_and1 (JW.t (jw_or (jt_cmp jc_isN (j_ix rfl (jq_sq (j_var 3)) (j_var 7) (fun _ _ => rfl)) j_non) (jw_or1 (jt_cmp jc_lt (j_var 6) (j_ix rfl (jq_sq (j_var 1)) (j_ix rfl (jq_sq (j_var 3)) (j_var 7) (fun _ _ => rfl)) (fun _ _ => rfl))))))))) (jss_one (js_expr (j_append rfl (j_var 4) (j_tup (ja_cons (j_var 7) (ja_cons (j_var 5) ja_nil)))))) jss_nil)))))
  (jss_one (js_ret (j_var 4))))))
theorem c_stay_of {P : Program} {w : World} {K : PySem.W.Frag} {mg : Str → Option Value} {base : Heap} {f : Addr} {k : Nat} {F_halves : MF} {F_name_of : MF} {k_halves : Nat} {k_name_of : Nat} (n_tuple : mg "tuple" = none) (g_halves : Cal P w K mg base "halves" k_halves P_halves (spOf K F_halves)) (h_halves : k_halves ≤ k) (g_name_of : Cal P w K mg base "name_of" k_name_of P_name_of (spOf K F_name_of)) (h_name_of : k_name_of ≤ k) :
    ∀ (cdv : Value) (A : Around) (outer : List Env) (s : Shared) (H : Hp) (E : XK), Room k (A.deeper (envOfC "stay_of" (defScope s_stay_of) s.heap.objs.size f cdv)) → PSs (cxOf CX0 P w K mg base N_stay_of "stay_of" (defScope s_stay_of) f cdv A outer s H E).nox (defBody s_stay_of) (lS K (b_stay_of F_halves F_name_of)) := fun cdv A outer s H E hr => JSs.p
  (jss_cons (js_set (i := 5) sc_stay_of.nd rfl (Or.inr rfl) (j_ix rfl (jq_sq (j_var 4)) j_int (fun _ _ => rfl)))
  (jss_cons (js_set (i := 6) sc_stay_of.nd rfl (Or.inr rfl) (j_ix rfl (jq_sq (j_var 4)) j_int (fun _ _ => rfl)))
  (jss_cons (js_set (i := 7) sc_stay_of.nd rfl (Or.inl rfl) (j_cmp jc_lt (j_ix rfl (jq_sq (j_var 1)) (j_var 5) (fun _ _ => rfl)) (j_ix rfl (jq_sq (j_var 2)) (j_var 6) (fun _ _ => rfl))))
  (jss_cons (js_set (i := 8) sc_stay_of.nd rfl (Or.inl rfl) (j_if (jt_tru rfl (j_var 7) (fun _ => rfl)) (j_tup (ja_cons (j_var 5) ja_nil)) (j_call g_halves hr h_halves rfl (ja_cons (j_ix rfl (jq_sq (j_var 0)) (j_var 5) (fun _ _ => rfl)) ja_nil))))
  (jss_cons (js_set (i := 9) sc_stay_of.nd rfl (Or.inl rfl) (j_tuple' rfl rfl rfl rfl n_tuple (jq_own (jl_lc rfl lc_stay_of_0 (ji_seq rfl (jq_sq (j_var 8))) (fun _ _ _ _ _ => (jg_name (i := 0) lc_stay_of_0.nd rfl (Or.inl rfl) (Or.inr rfl))) (fun _ _ _ _ _ => jf_nil) (fun _ _ _ _ _ => (j_dget (My.room200 hr) (j_var 2) (j_tup (ja_cons (j_var 0) (ja_cons (j_sub (j_var 1) j_int) ja_nil))) (fun _ _ => rfl)))))))
  (jss_cons (js_set (i := 10) sc_stay_of.nd rfl (Or.inl rfl) (j_tuple' rfl rfl rfl rfl n_tuple (jq_own (jl_fz (n := 3) (jl_lc rfl lc_stay_of_1 (ji_keys (j_var 3)) (fun _ _ _ _ _ => (jg_name (i := 0) lc_stay_of_1.nd rfl (Or.inl rfl) (Or.inr rfl))) (fun _ _ _ _ _ => (jf_one (JW.t (jw_and (jt_cmp (jc_eq rfl (My.room200 hr)) (j_ix rfl (jq_sq (j_var 0)) j_int (fun _ _ => rfl)) (j_var 2)) (jw_and1 (jt_cmp (jc_ne rfl (My.room200 hr)) (j_ix rfl (jq_sq (j_var 0)) j_int (fun _ _ => rfl)) (j_var 1))))))) (fun _ _ _ _ _ => (j_dget (My.room200 hr) (j_var 3) (j_var 0) (fun _ _ => rfl))))))))
  (jss_one (js_ret (j_tup (ja_cons (j_call g_name_of hr h_name_of rfl (ja_cons (j_var 0) (ja_cons (j_var 5) ja_nil))) (ja_cons (j_var 6) (ja_cons (j_var 9) (ja_cons (j_var 10) ja_nil)))))))))))))
theorem c_dated {P : Program} {w : World} {K : PySem.W.Frag} {mg : Str → Option Value} {base : Heap} {f : Addr} {k : Nat} {F_nodes : MF} {F_split_dates : MFL} {F_standing : MFL} {F_stay_of : MF} {k_nodes : Nat} {k_split_dates : Nat} {k_standing : Nat} {k_stay_of : Nat} (n_sorted : mg "sorted" = none) (n_enumerate : mg "enumerate" = none) (n_dict : mg "dict" = none) (n_tuple : mg "tuple" = none) (g_nodes : Cal P w K mg base "nodes" k_nodes P_nodes (spOf K F_nodes)) (h_nodes : k_nodes ≤ k) (g_split_dates : Cal P w K mg base "split_dates" k_split_dates P_split_dates (spL K F_split_dates)) (h_split_dates : k_split_dates ≤ k) (g_standing : Cal P w K mg base "standing" k_standing P_standing (spL K F_standing)) (h_standing : k_standing ≤ k) (g_stay_of : Cal P w K mg base "stay_of" k_stay_of P_stay_of (spOf K F_stay_of)) (h_stay_of : k_stay_of ≤ k) :
    ∀ (cdv : Value) (A : Around) (outer : List Env) (s : Shared) (H : Hp) (E : XK), Room k (A.deeper (envOfC "dated" (defScope s_dated) s.heap.objs.size f cdv)) → PSs (cxOf CX0 P w K mg base N_dated "dated" (defScope s_dated) f cdv A outer s H E).nox (defBody s_dated) (lS K (b_dated F_nodes F_split_dates F_standing F_stay_of)) := fun cdv A outer s H E hr => JSs.p
  (jss_cons (js_set (i := 2) sc_dated.nd rfl (Or.inr rfl) (j_call g_nodes hr h_nodes rfl (ja_cons (j_var 0) ja_nil)))
  (jss_cons (js_set (i := 3) sc_dated.nd rfl (Or.inr rfl) (j_alloc (jl_cat rfl (jql_own (jl_lst (ja_cons j_int ja_nil))) (jql_own (jl_sortI rfl rfl n_sorted (jql_own (jl_call g_split_dates hr h_split_dates rfl (ja_cons (j_var 2) (ja_cons (j_var 1) ja_nil)))))))))
  (jss_cons (js_set (i := 4) sc_dated.nd rfl (Or.inl rfl) (j_alloc (jl_call g_standing hr h_standing rfl (ja_cons (j_var 0) (ja_cons (j_var 1) (ja_cons (j_var 3) ja_nil))))))
  (jss_cons (js_set (i := 5) sc_dated.nd rfl (Or.inr rfl) (j_dictT rfl rfl (My.room200 hr) rfl n_dict (jql_own (jl_lc rfl lc_dated_0 (ji_enum rfl rfl n_enumerate (jq_sq (j_var 4))) (fun _ _ _ _ _ => (jg_tup rfl rfl (jgs_cons (jg_name (i := 0) lc_dated_0.nd rfl (Or.inl rfl) (Or.inr rfl)) (jgs_cons (jg_name (i := 1) lc_dated_0.nd rfl (Or.inl rfl) (Or.inr rfl)) jgs_nil)))) (fun _ _ _ _ _ => jf_nil) (fun _ _ _ _ _ => (j_tup (ja_cons (j_var 1) (ja_cons (j_var 0) ja_nil))))))))
  (jss_one (js_ret (j_tuple' rfl rfl rfl rfl n_tuple (jq_own (jl_lc rfl lc_dated_1 (ji_seq rfl (jq_sq (j_var 4))) (fun _ _ _ _ _ => (jg_name (i := 0) lc_dated_1.nd rfl (Or.inl rfl) (Or.inr rfl))) (fun _ _ _ _ _ => jf_nil) (fun _ _ _ _ _ => (j_call g_stay_of hr h_stay_of rfl (ja_cons (j_var 3) (ja_cons (j_var 2) (ja_cons (j_var 1) (ja_cons (j_var 4) (ja_cons (j_var 0) ja_nil))))))))))))))))
theorem c__law_pot {P : Program} {w : World} {K : PySem.W.Frag} {mg : Str → Option Value} {base : Heap} {f : Addr} {k : Nat} (n_len : mg "len" = none) (n_abs : mg "abs" = none) (n_int : mg "int" = none) :
    ∀ (cdv : Value) (A : Around) (outer : List Env) (s : Shared) (H : Hp) (E : XK), Room k (A.deeper (envOfC "_law_pot" (defScope s__law_pot) s.heap.objs.size f cdv)) → PSs (cxOf CX0 P w K mg base N__law_pot "_law_pot" (defScope s__law_pot) f cdv A outer s H E).nox (defBody s__law_pot) (lS K (b__law_pot)) := fun cdv A outer s H E hr => JSs.p
  (jss_cons (js_set (i := 2) sc__law_pot.nd rfl (Or.inl rfl) j_int)
  (jss_cons (js_if (jt_cmp jc_lt (j_var 1) (j_len' rfl rfl rfl rfl n_len (j_var 0))) (jss_one (js_set (i := 2) sc__law_pot.nd rfl (Or.inl rfl) (j_abs' rfl rfl rfl n_abs (j_ix rfl (jq_sq (j_var 0)) (j_var 1) (fun _ _ => rfl))))) jss_nil)
  (jss_cons (js_set (i := 3) sc__law_pot.nd rfl (Or.inl rfl) (j_mul (j_mod (j_var 2) (j_mul (j_pow j_int j_int) (j_pow j_int j_int))) (j_toInt' rfl rfl rfl n_int (j_cmp jc_ge (j_var 2) (j_pow j_int j_int)))))
  (jss_one (js_ret (j_alloc (jl_lst (ja_cons (j_var 3) (ja_cons (j_mod (j_add rfl (j_add rfl (j_var 2) (j_mul j_int (j_var 1))) j_int) j_int) (ja_cons j_int ja_nil))))))))))
theorem c__law_take {P : Program} {w : World} {K : PySem.W.Frag} {mg : Str → Option Value} {base : Heap} {f : Addr} {k : Nat} :
    ∀ (cdv : Value) (A : Around) (outer : List Env) (s : Shared) (H : Hp) (E : XK), Room k (A.deeper (envOfC "_law_take" (defScope s__law_take) s.heap.objs.size f cdv)) → PSs (cxOf CX0 P w K mg base N__law_take "_law_take" (defScope s__law_take) f cdv A outer s H E).nox (defBody s__law_take) (lS K (b__law_take)) := fun cdv A outer s H E hr => JSs.p
  (jss_cons (js_if (jt_cmp jc_gt (j_ix rfl (jq_sq (j_var 0)) j_int (fun _ _ => rfl)) j_int) (jss_cons (js_set (i := 2) sc__law_take.nd rfl (Or.inl rfl) (j_mod (j_ix rfl (jq_sq (j_var 0)) j_int (fun _ _ => rfl)) (j_var 1)))
  (jss_cons (js_asg (j_div (j_ix rfl (jq_sq (j_var 0)) j_int (fun _ _ => rfl)) (j_var 1)) (jg_sub (j_var 0) j_int))
  (jss_one (js_ret (j_var 2))))) jss_nil)
  (jss_cons (js_augS_add rfl (j_var 0) j_int j_int)
  (jss_cons (js_set (i := 3) sc__law_take.nd rfl (Or.inl rfl) (j_mod (j_add rfl (j_add rfl (j_mul (j_ix rfl (jq_sq (j_var 0)) j_int (fun _ _ => rfl)) j_int) (j_mul j_int (j_ix rfl (jq_sq (j_var 0)) j_int (fun _ _ => rfl)))) j_int) j_int))
  (jss_cons (js_asg (j_mod (j_mul (j_var 3) (j_add rfl (j_add rfl (j_mod (j_var 3) j_int) (j_mul j_int (j_ix rfl (jq_sq (j_var 0)) j_int (fun _ _ => rfl)))) j_int)) j_int) (jg_sub (j_var 0) j_int))
  (jss_one (js_ret (j_mod (j_div (j_ix rfl (jq_sq (j_var 0)) j_int (fun _ _ => rfl)) j_int) (j_var 1))))))))
theorem c__law_pick {P : Program} {w : World} {K : PySem.W.Frag} {mg : Str → Option Value} {base : Heap} {f : Addr} {k : Nat} {F__law_take : MF} {k__law_take : Nat} (n_len : mg "len" = none) (g__law_take : Cal P w K mg base "_law_take" k__law_take P__law_take (spOf K F__law_take)) (h__law_take : k__law_take ≤ k) :
    ∀ (cdv : Value) (A : Around) (outer : List Env) (s : Shared) (H : Hp) (E : XK), Room k (A.deeper (envOfC "_law_pick" (defScope s__law_pick) s.heap.objs.size f cdv)) → PSs (cxOf CX0 P w K mg base N__law_pick "_law_pick" (defScope s__law_pick) f cdv A outer s H E).nox (defBody s__law_pick) (lS K (b__law_pick F__law_take)) := fun cdv A outer s H E hr => JSs.p
  (jss_one (js_ret (j_ix rfl (jq_sq (j_var 1)) (j_call g__law_take hr h__law_take rfl (ja_cons (j_var 0) (ja_cons (j_len' rfl rfl rfl rfl n_len (j_var 1)) ja_nil))) (fun _ _ => rfl))))
theorem c__law_words {P : Program} {w : World} {K : PySem.W.Frag} {mg : Str → Option Value} {base : Heap} {f : Addr} {k : Nat} {F__law_take : MF} {k__law_take : Nat} (n_range : mg "range" = none) (g__law_take : Cal P w K mg base "_law_take" k__law_take P__law_take (spOf K F__law_take)) (h__law_take : k__law_take ≤ k) :
    ∀ (cdv : Value) (A : Around) (outer : List Env) (s : Shared) (H : Hp) (E : XK), Room k (A.deeper (envOfC "_law_words" (defScope s__law_words) s.heap.objs.size f cdv)) → PSs (cxOf CX0 P w K mg base N__law_words "_law_words" (defScope s__law_words) f cdv A outer s H E).nox (defBody s__law_words) (lS K (b__law_words F__law_take)) := fun cdv A outer s H E hr => JSs.p
  (jss_cons (js_set (i := 2) sc__law_words.nd rfl (Or.inl rfl) j_str)
  (jss_cons (js_set (i := 3) sc__law_words.nd rfl (Or.inl rfl) (j_call g__law_take hr h__law_take rfl (ja_cons (j_var 0) (ja_cons j_int ja_nil))))
  (jss_cons (js_set (i := 4) sc__law_words.nd rfl (Or.inl rfl) (j_ix rfl (jq_own (jl_lst (ja_cons j_int (ja_cons j_int (ja_cons j_int (ja_cons j_int (ja_cons j_int (ja_cons j_int ja_nil)))))))) (j_call g__law_take hr h__law_take rfl (ja_cons (j_var 0) (ja_cons j_int ja_nil))) (fun _ _ => rfl)))
  (jss_cons (js_set (i := 5) sc__law_words.nd rfl (Or.inl rfl) (j_ix rfl (jq_own (jl_lst (ja_cons j_str (ja_cons j_str ja_nil)))) (j_call g__law_take hr h__law_take rfl (ja_cons (j_var 0) (ja_cons j_int ja_nil))) (fun _ _ => rfl)))
  (jss_cons (js_set (i := 6) sc__law_words.nd rfl (Or.inl rfl) (j_alloc (jl_lst (ja_cons j_str (ja_cons j_str (ja_cons j_str (ja_cons j_str ja_nil)))))))
  (jss_cons (js_set (i := 7) sc__law_words.nd rfl (Or.inl rfl) (j_alloc (jl_lst ja_nil)))
  (jss_cons (js_for PassesOwn.never rfl (ji_range1 rfl n_range (ja_cons (j_var 1) ja_nil)) (jg_name (i := 8) sc__law_words.nd rfl (Or.inl rfl)) (jss_cons (js_set (i := 9) sc__law_words.nd rfl (Or.inl rfl) (j_ixS (j_var 2) (j_mod (j_add rfl (j_var 3) (j_mul (j_var 4) (j_var 8))) j_int) (fun _ _ => rfl)))
  (jss_one (js_expr (j_append rfl (j_var 7) (j_add rfl (j_add rfl (j_var 5) (j_var 9)) (j_ix rfl (jq_sq (j_var 6)) (j_mod (j_add rfl (j_var 3) (j_var 8)) j_int) (fun _ _ => rfl))))))))
  (jss_one (js_ret (j_var 7))))))))))
theorem c__law_nodes {P : Program} {w : World} {K : PySem.W.Frag} {mg : Str → Option Value} {base : Heap} {f : Addr} {k : Nat} {F__law_nodes : MFL} {k__law_nodes : Nat} (n_isinstance : mg "isinstance" = none) (n_str : mg "str" = none) (n_len : mg "len" = none) (g__law_nodes : Cal P w K mg base "_law_nodes" k__law_nodes P__law_nodes (spL K F__law_nodes)) (h__law_nodes : k__law_nodes ≤ k) :
    ∀ (cdv : Value) (A : Around) (outer : List Env) (s : Shared) (H : Hp) (E : XK), Room k (A.deeper (envOfC "_law_nodes" (defScope s__law_nodes) s.heap.objs.size f cdv)) → PSs (cxOf CX0 P w K mg base N__law_nodes "_law_nodes" (defScope s__law_nodes) f cdv A outer s H E).nox (defBody s__law_nodes) (lS K (b__law_nodes F__law_nodes)) := fun cdv A outer s H E hr => JSs.p
  (jss_cons (js_if (jt_tru rfl (j_isi rfl .str rfl n_isinstance (j_var 0) rfl n_str boot_str) (fun _ => rfl)) (jss_one (js_ret (j_alloc (jl_lst (ja_cons (j_var 0) ja_nil))))) jss_nil)
  (jss_cons (js_set (i := 1) sc__law_nodes.nd rfl (Or.inl rfl) (j_alloc (jl_call g__law_nodes hr h__law_nodes rfl (ja_cons (j_ix rfl (jq_sq (j_var 0)) j_int (fun _ _ => rfl)) ja_nil))))
  (jss_cons (js_set (i := 2) sc__law_nodes.nd rfl (Or.inl rfl) (j_len' rfl rfl rfl rfl n_len (j_var 1)))
  (jss_cons (js_for PassesOwn.never rfl (ji_seq rfl (jq_own (jl_call g__law_nodes hr h__law_nodes rfl (ja_cons (j_ix rfl (jq_sq (j_var 0)) j_int (fun _ _ => rfl)) ja_nil)))) (jg_name (i := 3) sc__law_nodes.nd rfl (Or.inl rfl)) (jss_one (js_expr (j_append rfl (j_var 1) (j_if (jt_tru rfl (j_isi rfl .str rfl n_isinstance (j_var 3) rfl n_str boot_str) (fun _ => rfl)) (j_var 3) (j_tup (ja_cons (j_add rfl (j_ix rfl (jq_sq (j_var 3)) j_int (fun _ _ => rfl)) (j_var 2)) (ja_cons (j_add rfl (j_ix rfl (jq_sq (j_var 3)) j_int (fun _ _ => rfl)) (j_var 2)) ja_nil))))))))
  (jss_one (js_ret (j_alloc (jl_cat rfl (jql_sq (j_var 1)) (jql_own (jl_lst (ja_cons (j_tup (ja_cons (j_sub (j_var 2) j_int) (ja_cons (j_sub (j_len' rfl rfl rfl rfl n_len (j_var 1)) j_int) ja_nil))) ja_nil)))))))))))
theorem c__law_dates {P : Program} {w : World} {K : PySem.W.Frag} {mg : Str → Option Value} {base : Heap} {f : Addr} {k : Nat} {F__law_pick : MF} {F__law_take : MF} {k__law_pick : Nat} {k__law_take : Nat} (n_len : mg "len" = none) (n_enumerate : mg "enumerate" = none) (n_isinstance : mg "isinstance" = none) (n_str : mg "str" = none) (n_tuple : mg "tuple" = none) (g__law_pick : Cal P w K mg base "_law_pick" k__law_pick P__law_pick (spOf K F__law_pick)) (h__law_pick : k__law_pick ≤ k) (g__law_take : Cal P w K mg base "_law_take" k__law_take P__law_take (spOf K F__law_take)) (h__law_take : k__law_take ≤ k) :
    ∀ (cdv : Value) (A : Around) (outer : List Env) (s : Shared) (H : Hp) (E : XK), Room k (A.deeper (envOfC "_law_dates" (defScope s__law_dates) s.heap.objs.size f cdv)) → PSs (cxOf CX0 P w K mg base N__law_dates "_law_dates" (defScope s__law_dates) f cdv A outer s H E).nox (defBody s__law_dates) (lS K (b__law_dates F__law_pick F__law_take)) := fun cdv A outer s H E hr => JSs.p
  (jss_cons (js_set (i := 2) sc__law_dates.nd rfl (Or.inl rfl) (j_alloc (jl_rep (jl_lst (ja_cons j_int ja_nil)) (j_len' rfl rfl rfl rfl n_len (j_var 1)))))
  (jss_cons (js_set (i := 4) sc__law_dates.nd rfl (Or.inr rfl) (j_alloc (jl_lc rfl lc__law_dates_0 (ji_enum rfl rfl n_enumerate (jq_sq (j_var 1))) (fun _ _ _ _ _ => (jg_tup rfl rfl (jgs_cons (jg_name (i := 0) lc__law_dates_0.nd rfl (Or.inl rfl) (Or.inr rfl)) (jgs_cons (jg_name (i := 1) lc__law_dates_0.nd rfl (Or.inl rfl) (Or.inr rfl)) jgs_nil)))) (fun _ _ _ _ _ => (jf_one (jt_not (jt_tru rfl (j_isi rfl .str rfl n_isinstance (j_var 1) rfl n_str boot_str) (fun _ => rfl))))) (fun _ _ _ _ _ => (j_var 0)))))
  (jss_cons (js_set (i := 5) sc__law_dates.nd rfl (Or.inl rfl) j_int)
  (jss_cons (js_while PassesOwn.never (jt_neN rfl (My.room200 hr) (jql_sq (j_var 4))) (jss_cons (js_setlc (i := 6) rfl sc__law_dates.nd rfl rfl lc__law_dates_1 (ji_seq rfl (jq_sq (j_var 4))) (fun _ _ _ _ _ => (jg_name (i := 0) lc__law_dates_1.nd rfl (Or.inl rfl) (Or.inr rfl))) (fun _ _ _ _ _ => (jf_one (JW.t (jw_and (jt_notIn rfl (My.room200 hr) (j_ix rfl (jq_sq (j_ix rfl (jq_sq (j_var 2)) (j_var 0) (fun _ _ => rfl))) j_int (fun _ _ => rfl)) (jq_sq (j_var 1))) (jw_and1 (jt_notIn rfl (My.room200 hr) (j_ix rfl (jq_sq (j_ix rfl (jq_sq (j_var 2)) (j_var 0) (fun _ _ => rfl))) j_int (fun _ _ => rfl)) (jq_sq (j_var 1)))))))) (fun _ _ _ _ _ => (j_var 0)))
  (jss_cons (js_set (i := 3) sc__law_dates.nd rfl (Or.inl rfl) (j_call g__law_pick hr h__law_pick rfl (ja_cons (j_var 0) (ja_cons (j_var 6) ja_nil))))
  (jss_cons (js_set (i := 5) sc__law_dates.nd rfl (Or.inl rfl) (j_add rfl (j_add rfl (j_var 5) j_int) (j_call g__law_take hr h__law_take rfl (ja_cons (j_var 0) (ja_cons (j_ix rfl (jq_own (jl_lst (ja_cons j_int (ja_cons j_int (ja_cons j_int ja_nil))))) (j_call g__law_take hr h__law_take rfl (ja_cons (j_var 0) (ja_cons j_int ja_nil))) (fun _ _ => rfl)) ja_nil)))))
  (jss_cons (js_asg (j_var 5) (jg_sub (j_var 2) (j_var 3)))
  (jss_one (js_expr (j_remove rfl (j_var 4) (j_var 3)))))))))
  (jss_one (js_ret (j_tuple' rfl rfl rfl rfl n_tuple (jq_sq (j_var 2)))))))))
theorem c__law_same {P : Program} {w : World} {K : PySem.W.Frag} {mg : Str → Option Value} {base : Heap} {f : Addr} {k : Nat} {F__law_same : MF} {k__law_same : Nat} (n_isinstance : mg "isinstance" = none) (n_tuple : mg "tuple" = none) (n_len : mg "len" = none) (n_zip : mg "zip" = none) (n_all : mg "all" = none) (n_str : mg "str" = none) (n_bool : mg "bool" = none) (n_int : mg "int" = none) (g__law_same : Cal P w K mg base "_law_same" k__law_same P__law_same (spOf K F__law_same)) (h__law_same : k__law_same ≤ k) :
    ∀ (cdv : Value) (A : Around) (outer : List Env) (s : Shared) (H : Hp) (E : XK), Room k (A.deeper (envOfC "_law_same" (defScope s__law_same) s.heap.objs.size f cdv)) → PSs (cxOf CX0 P w K mg base N__law_same "_law_same" (defScope s__law_same) f cdv A outer s H E).nox (defBody s__law_same) (lS K (b__law_same F__law_same)) := fun cdv A outer s H E hr => JSs.p
  (jss_cons (js_if (jt_tru rfl (j_isi rfl .tup rfl n_isinstance (j_var 1) rfl n_tuple boot_tuple) (fun _ => rfl)) (jss_cons (js_if (JW.t (jw_or (jt_not (jt_tru rfl (j_isi rfl .tup rfl n_isinstance (j_var 0) rfl n_tuple boot_tuple) (fun _ => rfl))) (jw_or1 (jt_cmp (jc_ne rfl (My.room200 hr)) (j_len' rfl rfl rfl rfl n_len (j_var 0)) (j_len' rfl rfl rfl rfl n_len (j_var 1)))))) (jss_one (js_ret j_bl)) jss_nil)
  (jss_one (js_ret (j_all' rfl rfl rfl rfl rfl n_all (jl_lc rfl lc__law_same_0 (ji_zip rfl rfl n_zip (j_var 0) (j_var 1)) (fun _ _ _ _ _ => (jg_tup rfl rfl (jgs_cons (jg_name (i := 0) lc__law_same_0.nd rfl (Or.inl rfl) (Or.inr rfl)) (jgs_cons (jg_name (i := 1) lc__law_same_0.nd rfl (Or.inl rfl) (Or.inr rfl)) jgs_nil)))) (fun _ _ _ _ _ => jf_nil) (fun _ _ _ _ _ => (j_call g__law_same hr h__law_same rfl (ja_cons (j_var 0) (ja_cons (j_var 1) ja_nil))))))))) jss_nil)
  (jss_cons (js_if (JW.t (jw_or (jt_tru rfl (j_isi rfl .str rfl n_isinstance (j_var 1) rfl n_str boot_str) (fun _ => rfl)) (jw_or1 (jt_cmp jc_isN (j_var 1) j_non)))) (jss_one (js_ret (j_and (j_cmp (jc_eq rfl (My.room200 hr)) (j_isi rfl .str rfl n_isinstance (j_var 0) rfl n_str boot_str) (j_isi rfl .str rfl n_isinstance (j_var 1) rfl n_str boot_str)) (j_one (j_cmp (jc_eq rfl (My.room200 hr)) (j_var 0) (j_var 1)))))) jss_nil)
  (jss_one (js_ret (j_and (j_isi rfl .int rfl n_isinstance (j_var 0) rfl n_int boot_int) (j_and (j_not (j_isi rfl .bool rfl n_isinstance (j_var 0) rfl n_bool boot_bool)) (j_one (j_cmp (jc_eq rfl (My.room200 hr)) (j_var 0) (j_var 1)))))))))
theorem c__law_comb {P : Program} {w : World} {K : PySem.W.Frag} {mg : Str → Option Value} {base : Heap} {f : Addr} {k : Nat} :
    ∀ (cdv : Value) (A : Around) (outer : List Env) (s : Shared) (H : Hp) (E : XK), Room k (A.deeper (envOfC "_law_comb" (defScope s__law_comb) s.heap.objs.size f cdv)) → PSs (cxOf CX0 P w K mg base N__law_comb "_law_comb" (defScope s__law_comb) f cdv A outer s H E).nox (defBody s__law_comb) (lS K (b__law_comb)) := fun cdv A outer s H E hr => JSs.p
  (jss_cons (js_set (i := 1) sc__law_comb.nd rfl (Or.inl rfl) (j_ix rfl (jq_sq (j_var 0)) j_int (fun _ _ => rfl)))
  (jss_cons (js_for PassesOwn.never rfl (ji_seq rfl (jq_own (jl_sl rfl (jql_sq (j_var 0)) (jo_some j_int) jo_none))) (jg_name (i := 2) sc__law_comb.nd rfl (Or.inl rfl)) (jss_one (js_set (i := 1) sc__law_comb.nd rfl (Or.inl rfl) (j_tup (ja_cons (j_var 1) (ja_cons (j_var 2) ja_nil))))))
  (jss_one (js_ret (j_var 1)))))
theorem c__law_stays {P : Program} {w : World} {K : PySem.W.Frag} {mg : Str → Option Value} {base : Heap} {f : Addr} {k : Nat} (n_len : mg "len" = none) (n_range : mg "range" = none) (n_list : mg "list" = none) (n_tuple : mg "tuple" = none) :
    ∀ (cdv : Value) (A : Around) (outer : List Env) (s : Shared) (H : Hp) (E : XK), Room k (A.deeper (envOfC "_law_stays" (defScope s__law_stays) s.heap.objs.size f cdv)) → PSs (cxOf CX0 P w K mg base N__law_stays "_law_stays" (defScope s__law_stays) f cdv A outer s H E).nox (defBody s__law_stays) (lS K (b__law_stays)) := fun cdv A outer s H E hr => JSs.p
  (jss_cons (js_set (i := 1) sc__law_stays.nd rfl (Or.inl rfl) (j_len' rfl rfl rfl rfl n_len (j_var 0)))
  (jss_cons (js_set (i := 2) sc__law_stays.nd rfl (Or.inl rfl) (j_alloc (jl_lst ja_nil)))
  (jss_cons (js_asg (j_tup (ja_cons j_int (ja_cons j_int ja_nil))) (jg_tup rfl rfl (jgs_cons (jg_name (i := 3) sc__law_stays.nd rfl (Or.inl rfl)) (jgs_cons (jg_name (i := 4) sc__law_stays.nd rfl (Or.inl rfl)) jgs_nil))))
  (jss_cons (js_for PassesOwn.never rfl (ji_range1 rfl n_range (ja_cons (j_var 1) ja_nil)) (jg_name (i := 5) sc__law_stays.nd rfl (Or.inl rfl)) (jss_cons (js_set (i := 6) sc__law_stays.nd rfl (Or.inl rfl) (j_alloc (jl_listR2 rfl rfl n_list rfl n_range (ja_cons (j_var 3) (ja_cons (j_sub (j_add rfl (j_var 3) (j_var 1)) (j_var 5)) ja_nil)))))
  (jss_cons (js_for PassesOwn.never rfl (ji_seq rfl (jq_sq (j_var 6))) (jg_name (i := 7) sc__law_stays.nd rfl (Or.inr rfl)) (jss_cons (js_set (i := 8) sc__law_stays.nd rfl (Or.inl rfl) (j_tuple' rfl rfl rfl rfl n_tuple (jq_own (jl_lc rfl lc__law_stays_0 (ji_seq rfl (jq_sq (j_var 6))) (fun _ _ _ _ _ => (jg_name (i := 0) lc__law_stays_0.nd rfl (Or.inl rfl) (Or.inr rfl))) (fun _ _ _ _ _ => (jf_one (jt_cmp (jc_ne rfl (My.room200 hr)) (j_var 0) (j_var 1)))) (fun _ _ _ _ _ => (j_var 0))))))
  (jss_cons (js_set (i := 9) sc__law_stays.nd rfl (Or.inl rfl) (j_ix rfl (jq_sq (j_var 0)) (j_sub (j_add rfl (j_var 5) (j_var 7)) (j_var 3)) (fun _ _ => rfl)))
  (jss_cons (js_set (i := 10) sc__law_stays.nd rfl (Or.inl rfl) (j_tup (ja_cons (j_sub (j_add rfl (j_add rfl (j_var 4) j_int) (j_var 7)) (j_var 3)) ja_nil)))
  (jss_cons (js_if (JW.t (jw_and (jt_cmp (jc_eq rfl (My.room200 hr)) (j_var 7) (j_var 3)) (jw_and1 (jt_cmp jc_gt (j_var 5) j_int)))) (jss_cons (js_set (i := 9) sc__law_stays.nd rfl (Or.inl rfl) (j_mul j_int (j_var 5)))
  (jss_one (js_set (i := 10) sc__law_stays.nd rfl (Or.inl rfl) (j_tup (ja_cons (j_var 4) (ja_cons (j_add rfl (j_var 4) j_int) ja_nil)))))) jss_nil)
  (jss_cons (js_if (jt_cmp (jc_eq rfl (My.room200 hr)) (j_var 5) j_int) (jss_one (js_set (i := 10) sc__law_stays.nd rfl (Or.inl rfl) (j_tup ja_nil))) jss_nil)
  (jss_one (js_expr (j_append rfl (j_var 2) (j_tup (ja_cons (j_var 9) (ja_cons (j_var 5) (ja_cons (j_var 10) (ja_cons (j_var 8) ja_nil))))))))))))))
  (jss_cons (js_set (i := 4) sc__law_stays.nd rfl (Or.inl rfl) (j_var 3))
  (jss_one (js_set (i := 3) sc__law_stays.nd rfl (Or.inl rfl) (j_sub (j_add rfl (j_var 3) (j_var 1)) (j_var 5))))))))
  (jss_one (js_ret (j_tuple' rfl rfl rfl rfl n_tuple (jq_sq (j_var 2)))))))))
theorem c_law {P : Program} {w : World} {K : PySem.W.Frag} {mg : Str → Option Value} {base : Heap} {f : Addr} {k : Nat} {F__law_pot : MF} {F__law_words : MFL} {F__law_take : MF} {F__law_comb : MF} {F__law_same : MF} {F__law_stays : MF} {F_dated : MF} {F__law_dates : MF} {F__law_nodes : MFL} {k__law_pot : Nat} {k__law_words : Nat} {k__law_take : Nat} {k__law_comb : Nat} {k__law_same : Nat} {k__law_stays : Nat} {k_dated : Nat} {k__law_dates : Nat} {k__law_nodes : Nat} (n_len : mg "len" = none) (n_min : mg "min" = none) (n_max : mg "max" = none) (n_range : mg "range" = none) (g__law_pot : Cal P w K mg base "_law_pot" k__law_pot P__law_pot (spOf K F__law_pot)) (h__law_pot : k__law_pot ≤ k) (g__law_words : Cal P w K mg base "_law_words" k__law_words P__law_words (spL K F__law_words)) (h__law_words : k__law_words ≤ k) (g__law_take : Cal P w K mg base "_law_take" k__law_take P__law_take (spOf K F__law_take)) (h__law_take : k__law_take ≤ k) (g__law_comb : Cal P w K mg base "_law_comb" k__law_comb P__law_comb (spOf K F__law_comb)) (h__law_comb : k__law_comb ≤ k) (g__law_same : Cal P w K mg base "_law_same" k__law_same P__law_same (spOf K F__law_same)) (h__law_same : k__law_same ≤ k) (g__law_stays : Cal P w K mg base "_law_stays" k__law_stays P__law_stays (spOf K F__law_stays)) (h__law_stays : k__law_stays ≤ k) (g_dated : Cal P w K mg base "dated" k_dated P_dated (spOf K F_dated)) (h_dated : k_dated ≤ k) (g__law_dates : Cal P w K mg base "_law_dates" k__law_dates P__law_dates (spOf K F__law_dates)) (h__law_dates : k__law_dates ≤ k) (g__law_nodes : Cal P w K mg base "_law_nodes" k__law_nodes P__law_nodes (spL K F__law_nodes)) (h__law_nodes : k__law_nodes ≤ k) :
    ∀ (cdv : Value) (A : Around) (outer : List Env) (s : Shared) (H : Hp) (E : XK), Room k (A.deeper (envOfC "law" (defScope s_law) s.heap.objs.size f cdv)) → PSs (cxOf CX0 P w K mg base N_law "law" (defScope s_law) f cdv A outer s H E).nox (defBody s_law) (lS K (b_law_2 F__law_pot F__law_words F__law_take F__law_comb F__law_same F__law_stays F_dated F__law_dates F__law_nodes)) := fun cdv A outer s H E hr => JSs.p
  (jss_cons (js_for PassesOwn.never rfl (ji_range1 rfl n_range (ja_cons (j_max rfl rfl n_max (ja_cons j_int (ja_cons (j_min rfl rfl n_min (ja_cons (j_len' rfl rfl rfl rfl n_len (j_var 0)) (ja_cons j_int ja_nil))) ja_nil))) ja_nil)) (jg_name (i := 1) sc_law.nd rfl (Or.inl rfl)) (jss_cons (js_set (i := 2) sc_law.nd rfl (Or.inl rfl) (j_call g__law_pot hr h__law_pot rfl (ja_cons (j_var 0) (ja_cons (j_var 1) ja_nil))))
  (jss_cons (js_set (i := 3) sc_law.nd rfl (Or.inl rfl) (j_alloc (jl_call g__law_words hr h__law_words rfl (ja_cons (j_var 2) (ja_cons (j_add rfl j_int (j_call g__law_take hr h__law_take rfl (ja_cons (j_var 2) (ja_cons j_int ja_nil)))) ja_nil)))))
  (jss_cons (js_set (i := 4) sc_law.nd rfl (Or.inl rfl) (j_call g__law_comb hr h__law_comb rfl (ja_cons (j_var 3) ja_nil)))
  (jss_one (js_if (jt_not (jt_tru rfl (j_call g__law_same hr h__law_same rfl (ja_cons (j_call g_dated hr h_dated rfl (ja_cons (j_var 4) (ja_cons (j_call g__law_dates hr h__law_dates rfl (ja_cons (j_var 2) (ja_cons (j_alloc (jl_call g__law_nodes hr h__law_nodes rfl (ja_cons (j_var 4) ja_nil))) ja_nil))) ja_nil))) (ja_cons (j_call g__law_stays hr h__law_stays rfl (ja_cons (j_var 3) ja_nil)) ja_nil))) (fun _ => rfl))) (jss_one (js_ret j_bl)) jss_nil))))))
  (jss_one (js_ret j_bl)))
set_option maxHeartbeats 8000000
theorem k_parts_of {P : Program} {w : World} {K : PySem.W.Frag} {mg : Str → Option Value} {base : Heap} {f : Addr} {fd : FuncData} (Fn : Fun K "parts_of" "parts_of" s_parts_of f fd) (n_isinstance : mg "isinstance" = none) (n_str : mg "str" = none) (n_list : mg "list" = none) (n_reversed : mg "reversed" = none) : FnOk P w K mg base CX0 1 f fd P_parts_of (spL K My.F_parts) :=
  fnL_ok Fn sc_parts_of My.F_parts (My.b_parts_of) (fun l h Q q => by obtain ⟨_, rfl, _⟩ := q; rfl) (c_parts_of n_isinstance n_str n_list n_reversed) (by rw [show N_parts_of.length = 4 from rfl]; exact My.R_parts)
theorem k_nodes {P : Program} {w : World} {K : PySem.W.Frag} {mg : Str → Option Value} {base : Heap} {f : Addr} {fd : FuncData} (Fn : Fun K "nodes" "nodes" s_nodes f fd) (n_isinstance : mg "isinstance" = none) (n_str : mg "str" = none) (n_len : mg "len" = none) (n_tuple : mg "tuple" = none) (T_parts_of : Cal P w K mg base "parts_of" 1 P_parts_of (spL K My.F_parts)) : FnOk P w K mg base CX0 2 f fd P_nodes (spOf K My.F_nodes) :=
  fn_ok Fn sc_nodes My.F_nodes (My.b_nodes My.F_parts) (fun l h Q q => by obtain ⟨_, rfl, _⟩ := q; rfl) (c_nodes n_isinstance n_str n_len n_tuple T_parts_of (by decide)) (by rw [show N_nodes.length = 6 from rfl]; exact My.R_nodes)
theorem k_halves {P : Program} {w : World} {K : PySem.W.Frag} {mg : Str → Option Value} {base : Heap} {f : Addr} {fd : FuncData} (Fn : Fun K "halves" "halves" s_halves f fd) (n_isinstance : mg "isinstance" = none) (n_str : mg "str" = none) : FnOk P w K mg base CX0 1 f fd P_halves (spOf K My.F_halves) :=
  fn_ok Fn sc_halves My.F_halves (My.b_halves) (fun l h Q q => by first | (obtain ⟨_, rfl, _⟩ := q; rfl; done) | (obtain ⟨_, _, rfl, _⟩ := q; rfl; done) | (obtain ⟨_, _, _, rfl, _⟩ := q; rfl; done) | (obtain ⟨_, _, _, _, rfl, _⟩ := q; rfl; done) | (rcases q with ⟨_, rfl, _⟩ | ⟨_, rfl, _⟩ <;> rfl)) (c_halves n_isinstance n_str) (by rw [show N_halves.length = 1 from rfl]; exact My.R_halves)
theorem k_ahead_of {P : Program} {w : World} {K : PySem.W.Frag} {mg : Str → Option Value} {base : Heap} {f : Addr} {fd : FuncData} (Fn : Fun K "ahead_of" "ahead_of" s_ahead_of f fd) (n_enumerate : mg "enumerate" = none) (n_tuple : mg "tuple" = none) (T_nodes : Cal P w K mg base "nodes" 2 P_nodes (spOf K My.F_nodes)) (T_halves : Cal P w K mg base "halves" 1 P_halves (spOf K My.F_halves)) : FnOk P w K mg base CX0 3 f fd P_ahead_of (spOf K My.F_ahead) :=
  fn_ok Fn sc_ahead_of My.F_ahead (My.b_ahead_of My.F_nodes My.F_halves) (fun l h Q q => by obtain ⟨_, rfl, _⟩ := q; rfl) (c_ahead_of n_enumerate n_tuple T_nodes (by decide) T_halves (by decide)) (by rw [show N_ahead_of.length = 6 from rfl]; exact My.R_ahead)
theorem k_name_of {P : Program} {w : World} {K : PySem.W.Frag} {mg : Str → Option Value} {base : Heap} {f : Addr} {fd : FuncData} (Fn : Fun K "name_of" "name_of" s_name_of f fd) (n_isinstance : mg "isinstance" = none) (n_str : mg "str" = none) : FnOk P w K mg base CX0 1 f fd P_name_of (spOf K My.F_name) :=
  fn_ok Fn sc_name_of My.F_name (My.b_name_of) (fun l h Q q => by obtain ⟨_,_,_, rfl, _⟩ := q; rfl) (c_name_of n_isinstance n_str) (by rw [show N_name_of.length = 2 from rfl]; exact My.R_name)
theorem k_split_dates {P : Program} {w : World} {K : PySem.W.Frag} {mg : Str → Option Value} {base : Heap} {f : Addr} {fd : FuncData} (Fn : Fun K "split_dates" "split_dates" s_split_dates f fd) (n_zip : mg "zip" = none) (n_isinstance : mg "isinstance" = none) (n_str : mg "str" = none) : FnOk P w K mg base CX0 1 f fd P_split_dates (spL K My.F_split) :=
  fnL_ok Fn sc_split_dates My.F_split (My.b_split_dates) (fun l h Q q => by obtain ⟨_,_, rfl, _⟩ := q; rfl) (c_split_dates n_zip n_isinstance n_str) (by rw [show N_split_dates.length = 2 from rfl]; exact My.R_split)
theorem k_standing {P : Program} {w : World} {K : PySem.W.Frag} {mg : Str → Option Value} {base : Heap} {f : Addr} {fd : FuncData} (Fn : Fun K "standing" "standing" s_standing f fd) (n_enumerate : mg "enumerate" = none) (T_ahead_of : Cal P w K mg base "ahead_of" 3 P_ahead_of (spOf K My.F_ahead)) : FnOk P w K mg base CX0 4 f fd P_standing (spL K My.F_stand) :=
  fnL_ok Fn sc_standing My.F_stand (My.b_standing My.F_ahead) (fun l h Q q => by obtain ⟨_,_,_,_, rfl, _⟩ := q; rfl) (c_standing n_enumerate T_ahead_of (by decide)) (by rw [show N_standing.length = 9 from rfl]; exact My.R_stand)
theorem k_stay_of {P : Program} {w : World} {K : PySem.W.Frag} {mg : Str → Option Value} {base : Heap} {f : Addr} {fd : FuncData} (Fn : Fun K "stay_of" "stay_of" s_stay_of f fd) (n_tuple : mg "tuple" = none) (T_halves : Cal P w K mg base "halves" 1 P_halves (spOf K My.F_halves)) (T_name_of : Cal P w K mg base "name_of" 1 P_name_of (spOf K My.F_name)) : FnOk P w K mg base CX0 2 f fd P_stay_of (spOf K My.F_stay) :=
  fn_ok Fn sc_stay_of My.F_stay (My.b_stay_of My.F_halves My.F_name) (fun l h Q q => by obtain ⟨_,_,_,_,_,_,_,_,_,_,_, rfl, _⟩ := q; rfl) (c_stay_of n_tuple T_halves (by decide) T_name_of (by decide)) (by rw [show N_stay_of.length = 11 from rfl]; exact My.R_stay)
theorem k_dated {P : Program} {w : World} {K : PySem.W.Frag} {mg : Str → Option Value} {base : Heap} {f : Addr} {fd : FuncData} (Fn : Fun K "dated" "dated" s_dated f fd) (n_sorted : mg "sorted" = none) (n_enumerate : mg "enumerate" = none) (n_dict : mg "dict" = none) (n_tuple : mg "tuple" = none) (T_nodes : Cal P w K mg base "nodes" 2 P_nodes (spOf K My.F_nodes)) (T_split_dates : Cal P w K mg base "split_dates" 1 P_split_dates (spL K My.F_split)) (T_standing : Cal P w K mg base "standing" 4 P_standing (spL K My.F_stand)) (T_stay_of : Cal P w K mg base "stay_of" 2 P_stay_of (spOf K My.F_stay)) : FnOk P w K mg base CX0 5 f fd P_dated (spOf K My.F_dated) :=
  fn_ok Fn sc_dated My.F_dated (My.b_dated My.F_nodes My.F_split My.F_stand My.F_stay) (fun l h Q q => by obtain ⟨_,_, rfl, _⟩ := q; rfl) (c_dated n_sorted n_enumerate n_dict n_tuple T_nodes (by decide) T_split_dates (by decide) T_standing (by decide) T_stay_of (by decide)) (by rw [show N_dated.length = 6 from rfl]; exact My.R_dated)
theorem k__law_pot {P : Program} {w : World} {K : PySem.W.Frag} {mg : Str → Option Value} {base : Heap} {f : Addr} {fd : FuncData} (Fn : Fun K "_law_pot" "_law_pot" s__law_pot f fd) (n_len : mg "len" = none) (n_abs : mg "abs" = none) (n_int : mg "int" = none) : FnOk P w K mg base CX0 1 f fd P__law_pot (spOf K My.F_pot) :=
  (fnL_ok Fn sc__law_pot My.F_pot0 (My.b__law_pot) (fun l h Q q => by first | (obtain ⟨_, rfl, _⟩ := q; rfl; done) | (obtain ⟨_, _, rfl, _⟩ := q; rfl; done) | (obtain ⟨_, _, _, rfl, _⟩ := q; rfl; done) | (obtain ⟨_, _, _, _, rfl, _⟩ := q; rfl; done) | (rcases q with ⟨_, rfl, _⟩ | ⟨_, rfl, _⟩ <;> rfl)) (c__law_pot n_len n_abs n_int) (by rw [show N__law_pot.length = 4 from rfl]; exact My.R_pot)).imp My.pot_opq
theorem k__law_take {P : Program} {w : World} {K : PySem.W.Frag} {mg : Str → Option Value} {base : Heap} {f : Addr} {fd : FuncData} (Fn : Fun K "_law_take" "_law_take" s__law_take f fd)  : FnOk P w K mg base CX0 1 f fd P__law_take (spOf K My.F_take) :=
  (fn_ok Fn sc__law_take My.F_take0 (My.b__law_take) (fun l h Q q => by first | (obtain ⟨_, rfl, _⟩ := q; rfl; done) | (obtain ⟨_, _, rfl, _⟩ := q; rfl; done) | (obtain ⟨_, _, _, rfl, _⟩ := q; rfl; done) | (obtain ⟨_, _, _, _, rfl, _⟩ := q; rfl; done) | (rcases q with ⟨_, rfl, _⟩ | ⟨_, rfl, _⟩ <;> rfl)) (c__law_take ) (by rw [show N__law_take.length = 4 from rfl]; exact My.R_take)).imp My.take_opq
theorem k__law_pick {P : Program} {w : World} {K : PySem.W.Frag} {mg : Str → Option Value} {base : Heap} {f : Addr} {fd : FuncData} (Fn : Fun K "_law_pick" "_law_pick" s__law_pick f fd) (n_len : mg "len" = none) (T__law_take : Cal P w K mg base "_law_take" 1 P__law_take (spOf K My.F_take)) : FnOk P w K mg base CX0 2 f fd P__law_pick (spOf K My.F_pick) :=
  fn_ok Fn sc__law_pick My.F_pick (My.b__law_pick My.F_take) (fun l h Q q => by obtain ⟨_,_,_, rfl, _⟩ := q; rfl) (c__law_pick n_len T__law_take (by decide)) (by rw [show N__law_pick.length = 2 from rfl]; exact My.R_pick)
theorem k__law_words {P : Program} {w : World} {K : PySem.W.Frag} {mg : Str → Option Value} {base : Heap} {f : Addr} {fd : FuncData} (Fn : Fun K "_law_words" "_law_words" s__law_words f fd) (n_range : mg "range" = none) (T__law_take : Cal P w K mg base "_law_take" 1 P__law_take (spOf K My.F_take)) : FnOk P w K mg base CX0 2 f fd P__law_words (spL K My.F_words) :=
  fnL_ok Fn sc__law_words My.F_words (My.b__law_words My.F_take) (fun l h Q q => by obtain ⟨_,_, rfl, _⟩ := q; rfl) (c__law_words n_range T__law_take (by decide)) (by rw [show N__law_words.length = 10 from rfl]; exact My.R_words)
theorem all__law_nodes {P : Program} {w : World} {K : PySem.W.Frag} {mg : Str → Option Value} {base : Heap} {f : Addr} {fd : FuncData} (n_isinstance : mg "isinstance" = none) (n_str : mg "str" = none) (n_len : mg "len" = none) (Fn : Fun K "_law_nodes" "_law_nodes" s__law_nodes f fd) (bi : Binds K fd P__law_nodes []) (m : mg "_law_nodes" = some (.ref f)) : ∀ n, FnOk P w K mg base CX0 n f fd P__law_nodes (spL K (F_lnodes n))
  | 0 => ⟨fun vs H Q E h => by obtain ⟨_, _, _, _, _, z⟩ := h; exact z.elim, fun A outer s H args us vs Q E _ _ _ _ h => by obtain ⟨_, _, _, _, _, z⟩ := h; exact z.elim⟩
  | n + 1 => fnL_ok Fn sc__law_nodes (F_lnodes (n + 1)) (b__law_nodes (F_lnodes n)) (fun l h Q q => by first | (obtain ⟨_, rfl, _⟩ := q; rfl; done) | (obtain ⟨_, _, rfl, _⟩ := q; rfl; done) | (obtain ⟨_, _, _, rfl, _⟩ := q; rfl; done) | (obtain ⟨_, _, _, _, rfl, _⟩ := q; rfl; done) | (rcases q with ⟨_, rfl, _⟩ | ⟨_, rfl, _⟩ <;> rfl)) (c__law_nodes n_isinstance n_str n_len ⟨_, _, all__law_nodes n_isinstance n_str n_len Fn bi m n, bi, Fn.kp, m⟩ (Nat.le_refl _)) (R_lnodes n)
theorem k__law_dates {P : Program} {w : World} {K : PySem.W.Frag} {mg : Str → Option Value} {base : Heap} {f : Addr} {fd : FuncData} (Fn : Fun K "_law_dates" "_law_dates" s__law_dates f fd) (n_len : mg "len" = none) (n_enumerate : mg "enumerate" = none) (n_isinstance : mg "isinstance" = none) (n_str : mg "str" = none) (n_tuple : mg "tuple" = none) (T__law_pick : Cal P w K mg base "_law_pick" 2 P__law_pick (spOf K My.F_pick)) (T__law_take : Cal P w K mg base "_law_take" 1 P__law_take (spOf K My.F_take)) : FnOk P w K mg base CX0 3 f fd P__law_dates (spOf K My.F_dates) :=
  fn_ok Fn sc__law_dates My.F_dates (My.b__law_dates My.F_pick My.F_take) (fun l h Q q => by obtain ⟨_,_,_, rfl, _⟩ := q; rfl) (c__law_dates n_len n_enumerate n_isinstance n_str n_tuple T__law_pick (by decide) T__law_take (by decide)) (by rw [show N__law_dates.length = 7 from rfl]; exact My.R_dates)
theorem all__law_same {P : Program} {w : World} {K : PySem.W.Frag} {mg : Str → Option Value} {base : Heap} {f : Addr} {fd : FuncData} (n_isinstance : mg "isinstance" = none) (n_tuple : mg "tuple" = none) (n_len : mg "len" = none) (n_zip : mg "zip" = none) (n_all : mg "all" = none) (n_str : mg "str" = none) (n_bool : mg "bool" = none) (n_int : mg "int" = none) (Fn : Fun K "_law_same" "_law_same" s__law_same f fd) (bi : Binds K fd P__law_same []) (m : mg "_law_same" = some (.ref f)) : ∀ n, FnOk P w K mg base CX0 n f fd P__law_same (spOf K (F_same n))
  | 0 => ⟨fun vs H Q E h => by obtain ⟨_, _, _, _, _, z⟩ := h; exact z.elim, fun A outer s H args us vs Q E _ _ _ _ h => by obtain ⟨_, _, _, _, _, z⟩ := h; exact z.elim⟩
  | n + 1 => fn_ok Fn sc__law_same (F_same (n + 1)) (b__law_same (F_same n)) (fun l h Q q => by first | (obtain ⟨_, rfl, _⟩ := q; rfl; done) | (obtain ⟨_, _, rfl, _⟩ := q; rfl; done) | (obtain ⟨_, _, _, rfl, _⟩ := q; rfl; done) | (obtain ⟨_, _, _, _, rfl, _⟩ := q; rfl; done) | (rcases q with ⟨_, rfl, _⟩ | ⟨_, rfl, _⟩ <;> rfl)) (c__law_same n_isinstance n_tuple n_len n_zip n_all n_str n_bool n_int ⟨_, _, all__law_same n_isinstance n_tuple n_len n_zip n_all n_str n_bool n_int Fn bi m n, bi, Fn.kp, m⟩ (Nat.le_refl _)) (R_same n)
theorem k__law_comb {P : Program} {w : World} {K : PySem.W.Frag} {mg : Str → Option Value} {base : Heap} {f : Addr} {fd : FuncData} (Fn : Fun K "_law_comb" "_law_comb" s__law_comb f fd)  : FnOk P w K mg base CX0 1 f fd P__law_comb (spOf K My.F_fc) :=
  fn_ok Fn sc__law_comb My.F_fc (My.b__law_comb) (fun l h Q q => by obtain ⟨_,_,_, rfl, _⟩ := q; rfl) (c__law_comb ) (by rw [show N__law_comb.length = 3 from rfl]; exact My.R_comb15)
theorem k__law_stays {P : Program} {w : World} {K : PySem.W.Frag} {mg : Str → Option Value} {base : Heap} {f : Addr} {fd : FuncData} (Fn : Fun K "_law_stays" "_law_stays" s__law_stays f fd) (n_len : mg "len" = none) (n_range : mg "range" = none) (n_list : mg "list" = none) (n_tuple : mg "tuple" = none) : FnOk P w K mg base CX0 1 f fd P__law_stays (spOf K My.F_stays15) :=
  fn_ok Fn sc__law_stays My.F_stays15 (My.b__law_stays) (fun l h Q q => by obtain ⟨_,_, rfl, _⟩ := q; rfl) (c__law_stays n_len n_range n_list n_tuple) (by rw [show N__law_stays.length = 11 from rfl]; exact My.R_stays15)
theorem k_law {P : Program} {w : World} {K : PySem.W.Frag} {mg : Str → Option Value} {base : Heap} {f : Addr} {fd : FuncData} (Fn : Fun K "law" "law" s_law f fd) (n_len : mg "len" = none) (n_min : mg "min" = none) (n_max : mg "max" = none) (n_range : mg "range" = none) (T__law_pot : Cal P w K mg base "_law_pot" 1 P__law_pot (spOf K My.F_pot)) (T__law_words : Cal P w K mg base "_law_words" 2 P__law_words (spL K My.F_words)) (T__law_take : Cal P w K mg base "_law_take" 1 P__law_take (spOf K My.F_take)) (T__law_comb : Cal P w K mg base "_law_comb" 1 P__law_comb (spOf K My.F_fc)) (T__law_same : Cal P w K mg base "_law_same" 4 P__law_same (spOf K (F_same 4))) (T__law_stays : Cal P w K mg base "_law_stays" 1 P__law_stays (spOf K My.F_stays15)) (T_dated : Cal P w K mg base "dated" 5 P_dated (spOf K My.F_dated)) (T__law_dates : Cal P w K mg base "_law_dates" 3 P__law_dates (spOf K My.F_dates)) (T__law_nodes : Cal P w K mg base "_law_nodes" 8 P__law_nodes (spL K (F_lnodes 8))) : FnOk P w K mg base CX0 9 f fd P_law (spOf K My.F_law10) :=
  fn_ok Fn sc_law My.F_law10 (My.b_law_2 My.F_pot My.F_words My.F_take My.F_fc (F_same 4) My.F_stays15 My.F_dated My.F_dates (F_lnodes 8)) (fun l h Q q => by obtain ⟨_, rfl, _⟩ := q; rfl) (c_law n_len n_min n_max n_range T__law_pot (by decide) T__law_words (by decide) T__law_take (by decide) T__law_comb (by decide) T__law_same (by decide) T__law_stays (by decide) T_dated (by decide) T__law_dates (by decide) T__law_nodes (by decide)) My.R_law15
def spLaw (K : PySem.W.Frag) : Sp := fun vs H Q _ => ∃ (a : Addr) (ns : List Int), vs = [.ref a] ∧ Only H ∧ SqL K H a (ns.map V.int) ∧ ns.length ≤ 63 ∧ ∀ H', Q (.bl true) H'
theorem ints_vrs {K : PySem.W.Frag} (ι : List Addr) (H : Hp) : ∀ ns : List Int, VRs K ι H (ns.map V.int) (ns.map PV.int)
  | [] => .nil
  | n :: ns => .cons (.int n) (ints_vrs ι H ns)
theorem law_imp {K : PySem.W.Frag} : ∀ vs H Q E, spLaw K vs H Q E → spOf K F_law10 vs H Q E := fun vs H Q E ⟨a, ns, e, hO, hS, hl, q⟩ => by
  subst e
  have fz : FzL K H a (ns.map V.int) := by
    rcases hS with (h | ⟨o, h⟩) | h
    · rcases hO a with z | ⟨o, xs, z⟩
      · rw [h] at z; cases z
      · rw [h] at z; cases z
    · exact .inl ⟨o, h⟩
    · exact .inr h
  refine ⟨[], [], [.cl (ns.map PV.int)], ⟨List.nodup_nil, rfl, fun n a o h _ => by simp at h⟩, .cons (.cl fz (ints_vrs _ _ ns)) .nil, ns, rfl, hl, rfl, fun ι' v H' _ _ r => ?_⟩
  cases r
  exact q H'
theorem all_mk {l : PySem.W.OpenLaw} {w : World} {K : PySem.W.Frag} {h : Heap} {mg : Str → Option Value} {fa f0 f1 f2 f3 f4 f5 f6 f7 f8 f9 f10 f11 f12 f13 f14 f15 f16 f17 f18 : Addr} {od0 an0 od1 an1 od2 an2 od3 an3 od4 an4 od5 an5 od6 an6 od7 an7 od8 an8 od9 an9 od10 an10 od11 an11 od12 an12 od13 an13 od14 an14 od15 an15 od16 an16 od17 an17 od18 an18 : Option Addr} {sl0 sl1 sl2 sl3 sl4 sl5 sl6 sl7 sl8 sl9 sl10 sl11 sl12 sl13 sl14 sl15 sl16 sl17 sl18 : Array (Option Value)} {oc0 kV0 dc0 pm0 cd0 ct0 oc1 kV1 dc1 pm1 cd1 ct1 oc2 kV2 dc2 pm2 cd2 ct2 oc3 kV3 dc3 pm3 cd3 ct3 oc4 kV4 dc4 pm4 cd4 ct4 oc5 kV5 dc5 pm5 cd5 ct5 oc6 kV6 dc6 pm6 cd6 ct6 oc7 kV7 dc7 pm7 cd7 ct7 oc8 kV8 dc8 pm8 cd8 ct8 oc9 kV9 dc9 pm9 cd9 ct9 oc10 kV10 dc10 pm10 cd10 ct10 oc11 kV11 dc11 pm11 cd11 ct11 oc12 kV12 dc12 pm12 cd12 ct12 oc13 kV13 dc13 pm13 cd13 ct13 oc14 kV14 dc14 pm14 cd14 ct14 oc15 kV15 dc15 pm15 cd15 ct15 oc16 kV16 dc16 pm16 cd16 ct16 oc17 kV17 dc17 pm17 cd17 ct17 oc18 kV18 dc18 pm18 cd18 ct18 : Value} (X : K.In h) (G : h.Ns mainGlobals mg) (hfa : mg "law" = some (.ref fa))
    (a0 : PySem.W.nsIn K mainGlobals "parts_of" = some (some (.ref f0))) (l0 : K.lookup f0 = some ⟨oc0, od0, .func (PySem.W.fnOf "parts_of" "parts_of" (defArgs s_parts_of) (defBody s_parts_of) (defScope s_parts_of) .none kV0 dc0 pm0 an0 cd0 ct0), sl0⟩) (c0 : PySem.W.codeIn K cd0 "parts_of" = true) (k0 : PySem.W.keepIn K (.ref f0) = true)
    (a1 : PySem.W.nsIn K mainGlobals "nodes" = some (some (.ref f1))) (l1 : K.lookup f1 = some ⟨oc1, od1, .func (PySem.W.fnOf "nodes" "nodes" (defArgs s_nodes) (defBody s_nodes) (defScope s_nodes) .none kV1 dc1 pm1 an1 cd1 ct1), sl1⟩) (c1 : PySem.W.codeIn K cd1 "nodes" = true) (k1 : PySem.W.keepIn K (.ref f1) = true)
    (a2 : PySem.W.nsIn K mainGlobals "halves" = some (some (.ref f2))) (l2 : K.lookup f2 = some ⟨oc2, od2, .func (PySem.W.fnOf "halves" "halves" (defArgs s_halves) (defBody s_halves) (defScope s_halves) .none kV2 dc2 pm2 an2 cd2 ct2), sl2⟩) (c2 : PySem.W.codeIn K cd2 "halves" = true) (k2 : PySem.W.keepIn K (.ref f2) = true)
    (a3 : PySem.W.nsIn K mainGlobals "ahead_of" = some (some (.ref f3))) (l3 : K.lookup f3 = some ⟨oc3, od3, .func (PySem.W.fnOf "ahead_of" "ahead_of" (defArgs s_ahead_of) (defBody s_ahead_of) (defScope s_ahead_of) .none kV3 dc3 pm3 an3 cd3 ct3), sl3⟩) (c3 : PySem.W.codeIn K cd3 "ahead_of" = true) (k3 : PySem.W.keepIn K (.ref f3) = true)
    (a4 : PySem.W.nsIn K mainGlobals "name_of" = some (some (.ref f4))) (l4 : K.lookup f4 = some ⟨oc4, od4, .func (PySem.W.fnOf "name_of" "name_of" (defArgs s_name_of) (defBody s_name_of) (defScope s_name_of) .none kV4 dc4 pm4 an4 cd4 ct4), sl4⟩) (c4 : PySem.W.codeIn K cd4 "name_of" = true) (k4 : PySem.W.keepIn K (.ref f4) = true)
    (a5 : PySem.W.nsIn K mainGlobals "split_dates" = some (some (.ref f5))) (l5 : K.lookup f5 = some ⟨oc5, od5, .func (PySem.W.fnOf "split_dates" "split_dates" (defArgs s_split_dates) (defBody s_split_dates) (defScope s_split_dates) .none kV5 dc5 pm5 an5 cd5 ct5), sl5⟩) (c5 : PySem.W.codeIn K cd5 "split_dates" = true) (k5 : PySem.W.keepIn K (.ref f5) = true)
    (a6 : PySem.W.nsIn K mainGlobals "standing" = some (some (.ref f6))) (l6 : K.lookup f6 = some ⟨oc6, od6, .func (PySem.W.fnOf "standing" "standing" (defArgs s_standing) (defBody s_standing) (defScope s_standing) .none kV6 dc6 pm6 an6 cd6 ct6), sl6⟩) (c6 : PySem.W.codeIn K cd6 "standing" = true) (k6 : PySem.W.keepIn K (.ref f6) = true)
    (a7 : PySem.W.nsIn K mainGlobals "stay_of" = some (some (.ref f7))) (l7 : K.lookup f7 = some ⟨oc7, od7, .func (PySem.W.fnOf "stay_of" "stay_of" (defArgs s_stay_of) (defBody s_stay_of) (defScope s_stay_of) .none kV7 dc7 pm7 an7 cd7 ct7), sl7⟩) (c7 : PySem.W.codeIn K cd7 "stay_of" = true) (k7 : PySem.W.keepIn K (.ref f7) = true)
    (a8 : PySem.W.nsIn K mainGlobals "dated" = some (some (.ref f8))) (l8 : K.lookup f8 = some ⟨oc8, od8, .func (PySem.W.fnOf "dated" "dated" (defArgs s_dated) (defBody s_dated) (defScope s_dated) .none kV8 dc8 pm8 an8 cd8 ct8), sl8⟩) (c8 : PySem.W.codeIn K cd8 "dated" = true) (k8 : PySem.W.keepIn K (.ref f8) = true)
    (a9 : PySem.W.nsIn K mainGlobals "_law_pot" = some (some (.ref f9))) (l9 : K.lookup f9 = some ⟨oc9, od9, .func (PySem.W.fnOf "_law_pot" "_law_pot" (defArgs s__law_pot) (defBody s__law_pot) (defScope s__law_pot) .none kV9 dc9 pm9 an9 cd9 ct9), sl9⟩) (c9 : PySem.W.codeIn K cd9 "_law_pot" = true) (k9 : PySem.W.keepIn K (.ref f9) = true)
    (a10 : PySem.W.nsIn K mainGlobals "_law_take" = some (some (.ref f10))) (l10 : K.lookup f10 = some ⟨oc10, od10, .func (PySem.W.fnOf "_law_take" "_law_take" (defArgs s__law_take) (defBody s__law_take) (defScope s__law_take) .none kV10 dc10 pm10 an10 cd10 ct10), sl10⟩) (c10 : PySem.W.codeIn K cd10 "_law_take" = true) (k10 : PySem.W.keepIn K (.ref f10) = true)
    (a11 : PySem.W.nsIn K mainGlobals "_law_pick" = some (some (.ref f11))) (l11 : K.lookup f11 = some ⟨oc11, od11, .func (PySem.W.fnOf "_law_pick" "_law_pick" (defArgs s__law_pick) (defBody s__law_pick) (defScope s__law_pick) .none kV11 dc11 pm11 an11 cd11 ct11), sl11⟩) (c11 : PySem.W.codeIn K cd11 "_law_pick" = true) (k11 : PySem.W.keepIn K (.ref f11) = true)
    (a12 : PySem.W.nsIn K mainGlobals "_law_words" = some (some (.ref f12))) (l12 : K.lookup f12 = some ⟨oc12, od12, .func (PySem.W.fnOf "_law_words" "_law_words" (defArgs s__law_words) (defBody s__law_words) (defScope s__law_words) .none kV12 dc12 pm12 an12 cd12 ct12), sl12⟩) (c12 : PySem.W.codeIn K cd12 "_law_words" = true) (k12 : PySem.W.keepIn K (.ref f12) = true)
    (a13 : PySem.W.nsIn K mainGlobals "_law_nodes" = some (some (.ref f13))) (l13 : K.lookup f13 = some ⟨oc13, od13, .func (PySem.W.fnOf "_law_nodes" "_law_nodes" (defArgs s__law_nodes) (defBody s__law_nodes) (defScope s__law_nodes) .none kV13 dc13 pm13 an13 cd13 ct13), sl13⟩) (c13 : PySem.W.codeIn K cd13 "_law_nodes" = true) (k13 : PySem.W.keepIn K (.ref f13) = true)
    (a14 : PySem.W.nsIn K mainGlobals "_law_dates" = some (some (.ref f14))) (l14 : K.lookup f14 = some ⟨oc14, od14, .func (PySem.W.fnOf "_law_dates" "_law_dates" (defArgs s__law_dates) (defBody s__law_dates) (defScope s__law_dates) .none kV14 dc14 pm14 an14 cd14 ct14), sl14⟩) (c14 : PySem.W.codeIn K cd14 "_law_dates" = true) (k14 : PySem.W.keepIn K (.ref f14) = true)
    (a15 : PySem.W.nsIn K mainGlobals "_law_same" = some (some (.ref f15))) (l15 : K.lookup f15 = some ⟨oc15, od15, .func (PySem.W.fnOf "_law_same" "_law_same" (defArgs s__law_same) (defBody s__law_same) (defScope s__law_same) .none kV15 dc15 pm15 an15 cd15 ct15), sl15⟩) (c15 : PySem.W.codeIn K cd15 "_law_same" = true) (k15 : PySem.W.keepIn K (.ref f15) = true)
    (a16 : PySem.W.nsIn K mainGlobals "_law_comb" = some (some (.ref f16))) (l16 : K.lookup f16 = some ⟨oc16, od16, .func (PySem.W.fnOf "_law_comb" "_law_comb" (defArgs s__law_comb) (defBody s__law_comb) (defScope s__law_comb) .none kV16 dc16 pm16 an16 cd16 ct16), sl16⟩) (c16 : PySem.W.codeIn K cd16 "_law_comb" = true) (k16 : PySem.W.keepIn K (.ref f16) = true)
    (a17 : PySem.W.nsIn K mainGlobals "_law_stays" = some (some (.ref f17))) (l17 : K.lookup f17 = some ⟨oc17, od17, .func (PySem.W.fnOf "_law_stays" "_law_stays" (defArgs s__law_stays) (defBody s__law_stays) (defScope s__law_stays) .none kV17 dc17 pm17 an17 cd17 ct17), sl17⟩) (c17 : PySem.W.codeIn K cd17 "_law_stays" = true) (k17 : PySem.W.keepIn K (.ref f17) = true)
    (a18 : PySem.W.nsIn K mainGlobals "law" = some (some (.ref f18))) (l18 : K.lookup f18 = some ⟨oc18, od18, .func (PySem.W.fnOf "law" "law" (defArgs s_law) (defBody s_law) (defScope s_law) .none kV18 dc18 pm18 an18 cd18 ct18), sl18⟩) (c18 : PySem.W.codeIn K cd18 "law" = true) (k18 : PySem.W.keepIn K (.ref f18) = true)
    (z_isinstance : PySem.W.nsIn K mainGlobals "isinstance" = some none)
    (z_str : PySem.W.nsIn K mainGlobals "str" = some none)
    (z_list : PySem.W.nsIn K mainGlobals "list" = some none)
    (z_reversed : PySem.W.nsIn K mainGlobals "reversed" = some none)
    (z_len : PySem.W.nsIn K mainGlobals "len" = some none)
    (z_tuple : PySem.W.nsIn K mainGlobals "tuple" = some none)
    (z_enumerate : PySem.W.nsIn K mainGlobals "enumerate" = some none)
    (z_zip : PySem.W.nsIn K mainGlobals "zip" = some none)
    (z_sorted : PySem.W.nsIn K mainGlobals "sorted" = some none)
    (z_dict : PySem.W.nsIn K mainGlobals "dict" = some none)
    (z_abs : PySem.W.nsIn K mainGlobals "abs" = some none)
    (z_int : PySem.W.nsIn K mainGlobals "int" = some none)
    (z_range : PySem.W.nsIn K mainGlobals "range" = some none)
    (z_all : PySem.W.nsIn K mainGlobals "all" = some none)
    (z_bool : PySem.W.nsIn K mainGlobals "bool" = some none)
    (z_max : PySem.W.nsIn K mainGlobals "max" = some none)
    (z_min : PySem.W.nsIn K mainGlobals "min" = some none) :
    ∃ fd : FuncData, (∀ (s : Shared) (v : Value), BindsTo s fd ⟨[v], []⟩ [("_law_script", v)]) ∧ ∀ base : Heap, K.In base → base.Ns mainGlobals mg → FnOk l.prog w K mg base CX0 9 fa fd ["_law_script"] (spLaw K) := by
  have e := hfa.symm.trans (PySem.W.mg_of X G a18)
  cases e
  have F_parts_of := fun_mk (st := s_parts_of) l0 c0 k0
  have b_parts_of := F_parts_of.binds (ps := P_parts_of) fun _ _ _ _ _ _ us hl => match us, hl with | [_], _ => rfl
  have m_parts_of := PySem.W.mg_of X G a0
  have F_nodes := fun_mk (st := s_nodes) l1 c1 k1
  have b_nodes := F_nodes.binds (ps := P_nodes) fun _ _ _ _ _ _ us hl => match us, hl with | [_], _ => rfl
  have m_nodes := PySem.W.mg_of X G a1
  have F_halves := fun_mk (st := s_halves) l2 c2 k2
  have b_halves := F_halves.binds (ps := P_halves) fun _ _ _ _ _ _ us hl => match us, hl with | [_], _ => rfl
  have m_halves := PySem.W.mg_of X G a2
  have F_ahead_of := fun_mk (st := s_ahead_of) l3 c3 k3
  have b_ahead_of := F_ahead_of.binds (ps := P_ahead_of) fun _ _ _ _ _ _ us hl => match us, hl with | [_], _ => rfl
  have m_ahead_of := PySem.W.mg_of X G a3
  have F_name_of := fun_mk (st := s_name_of) l4 c4 k4
  have b_name_of := F_name_of.binds (ps := P_name_of) fun _ _ _ _ _ _ us hl => match us, hl with | [_, _], _ => rfl
  have m_name_of := PySem.W.mg_of X G a4
  have F_split_dates := fun_mk (st := s_split_dates) l5 c5 k5
  have b_split_dates := F_split_dates.binds (ps := P_split_dates) fun _ _ _ _ _ _ us hl => match us, hl with | [_, _], _ => rfl
  have m_split_dates := PySem.W.mg_of X G a5
  have F_standing := fun_mk (st := s_standing) l6 c6 k6
  have b_standing := F_standing.binds (ps := P_standing) fun _ _ _ _ _ _ us hl => match us, hl with | [_, _, _], _ => rfl
  have m_standing := PySem.W.mg_of X G a6
  have F_stay_of := fun_mk (st := s_stay_of) l7 c7 k7
  have b_stay_of := F_stay_of.binds (ps := P_stay_of) fun _ _ _ _ _ _ us hl => match us, hl with | [_, _, _, _, _], _ => rfl
  have m_stay_of := PySem.W.mg_of X G a7
  have F_dated := fun_mk (st := s_dated) l8 c8 k8
  have b_dated := F_dated.binds (ps := P_dated) fun _ _ _ _ _ _ us hl => match us, hl with | [_, _], _ => rfl
  have m_dated := PySem.W.mg_of X G a8
  have F__law_pot := fun_mk (st := s__law_pot) l9 c9 k9
  have b__law_pot := F__law_pot.binds (ps := P__law_pot) fun _ _ _ _ _ _ us hl => match us, hl with | [_, _], _ => rfl
  have m__law_pot := PySem.W.mg_of X G a9
  have F__law_take := fun_mk (st := s__law_take) l10 c10 k10
  have b__law_take := F__law_take.binds (ps := P__law_take) fun _ _ _ _ _ _ us hl => match us, hl with | [_, _], _ => rfl
  have m__law_take := PySem.W.mg_of X G a10
  have F__law_pick := fun_mk (st := s__law_pick) l11 c11 k11
  have b__law_pick := F__law_pick.binds (ps := P__law_pick) fun _ _ _ _ _ _ us hl => match us, hl with | [_, _], _ => rfl
  have m__law_pick := PySem.W.mg_of X G a11
  have F__law_words := fun_mk (st := s__law_words) l12 c12 k12
  have b__law_words := F__law_words.binds (ps := P__law_words) fun _ _ _ _ _ _ us hl => match us, hl with | [_, _], _ => rfl
  have m__law_words := PySem.W.mg_of X G a12
  have F__law_nodes := fun_mk (st := s__law_nodes) l13 c13 k13
  have b__law_nodes := F__law_nodes.binds (ps := P__law_nodes) fun _ _ _ _ _ _ us hl => match us, hl with | [_], _ => rfl
  have m__law_nodes := PySem.W.mg_of X G a13
  have F__law_dates := fun_mk (st := s__law_dates) l14 c14 k14
  have b__law_dates := F__law_dates.binds (ps := P__law_dates) fun _ _ _ _ _ _ us hl => match us, hl with | [_, _], _ => rfl
  have m__law_dates := PySem.W.mg_of X G a14
  have F__law_same := fun_mk (st := s__law_same) l15 c15 k15
  have b__law_same := F__law_same.binds (ps := P__law_same) fun _ _ _ _ _ _ us hl => match us, hl with | [_, _], _ => rfl
  have m__law_same := PySem.W.mg_of X G a15
  have F__law_comb := fun_mk (st := s__law_comb) l16 c16 k16
  have b__law_comb := F__law_comb.binds (ps := P__law_comb) fun _ _ _ _ _ _ us hl => match us, hl with | [_], _ => rfl
  have m__law_comb := PySem.W.mg_of X G a16
  have F__law_stays := fun_mk (st := s__law_stays) l17 c17 k17
  have b__law_stays := F__law_stays.binds (ps := P__law_stays) fun _ _ _ _ _ _ us hl => match us, hl with | [_], _ => rfl
  have m__law_stays := PySem.W.mg_of X G a17
  have F_law := fun_mk (st := s_law) l18 c18 k18
  have m_law := PySem.W.mg_of X G a18
  have n_isinstance := PySem.W.mg_none_of X G z_isinstance
  have n_str := PySem.W.mg_none_of X G z_str
  have n_list := PySem.W.mg_none_of X G z_list
  have n_reversed := PySem.W.mg_none_of X G z_reversed
  have n_len := PySem.W.mg_none_of X G z_len
  have n_tuple := PySem.W.mg_none_of X G z_tuple
  have n_enumerate := PySem.W.mg_none_of X G z_enumerate
  have n_zip := PySem.W.mg_none_of X G z_zip
  have n_sorted := PySem.W.mg_none_of X G z_sorted
  have n_dict := PySem.W.mg_none_of X G z_dict
  have n_abs := PySem.W.mg_none_of X G z_abs
  have n_int := PySem.W.mg_none_of X G z_int
  have n_range := PySem.W.mg_none_of X G z_range
  have n_all := PySem.W.mg_none_of X G z_all
  have n_bool := PySem.W.mg_none_of X G z_bool
  have n_max := PySem.W.mg_none_of X G z_max
  have n_min := PySem.W.mg_none_of X G z_min
  refine ⟨PySem.W.fnOf "law" "law" (defArgs s_law) (defBody s_law) (defScope s_law) .none kV18 dc18 pm18 an18 cd18 ct18, fun s v => .of_eq rfl, fun base _ _ => ?_⟩
  have T_parts_of : Cal l.prog w K mg base "parts_of" 1 P_parts_of (spL K My.F_parts) := ⟨_, _, k_parts_of F_parts_of n_isinstance n_str n_list n_reversed, b_parts_of, F_parts_of.kp, m_parts_of⟩
  have T_nodes : Cal l.prog w K mg base "nodes" 2 P_nodes (spOf K My.F_nodes) := ⟨_, _, k_nodes F_nodes n_isinstance n_str n_len n_tuple T_parts_of, b_nodes, F_nodes.kp, m_nodes⟩
  have T_halves : Cal l.prog w K mg base "halves" 1 P_halves (spOf K My.F_halves) := ⟨_, _, k_halves F_halves n_isinstance n_str, b_halves, F_halves.kp, m_halves⟩
  have T_ahead_of : Cal l.prog w K mg base "ahead_of" 3 P_ahead_of (spOf K My.F_ahead) := ⟨_, _, k_ahead_of F_ahead_of n_enumerate n_tuple T_nodes T_halves, b_ahead_of, F_ahead_of.kp, m_ahead_of⟩
  have T_name_of : Cal l.prog w K mg base "name_of" 1 P_name_of (spOf K My.F_name) := ⟨_, _, k_name_of F_name_of n_isinstance n_str, b_name_of, F_name_of.kp, m_name_of⟩
  have T_split_dates : Cal l.prog w K mg base "split_dates" 1 P_split_dates (spL K My.F_split) := ⟨_, _, k_split_dates F_split_dates n_zip n_isinstance n_str, b_split_dates, F_split_dates.kp, m_split_dates⟩
  have T_standing : Cal l.prog w K mg base "standing" 4 P_standing (spL K My.F_stand) := ⟨_, _, k_standing F_standing n_enumerate T_ahead_of, b_standing, F_standing.kp, m_standing⟩
  have T_stay_of : Cal l.prog w K mg base "stay_of" 2 P_stay_of (spOf K My.F_stay) := ⟨_, _, k_stay_of F_stay_of n_tuple T_halves T_name_of, b_stay_of, F_stay_of.kp, m_stay_of⟩
  have T_dated : Cal l.prog w K mg base "dated" 5 P_dated (spOf K My.F_dated) := ⟨_, _, k_dated F_dated n_sorted n_enumerate n_dict n_tuple T_nodes T_split_dates T_standing T_stay_of, b_dated, F_dated.kp, m_dated⟩
  have T__law_pot : Cal l.prog w K mg base "_law_pot" 1 P__law_pot (spOf K My.F_pot) := ⟨_, _, k__law_pot F__law_pot n_len n_abs n_int, b__law_pot, F__law_pot.kp, m__law_pot⟩
  have T__law_take : Cal l.prog w K mg base "_law_take" 1 P__law_take (spOf K My.F_take) := ⟨_, _, k__law_take F__law_take , b__law_take, F__law_take.kp, m__law_take⟩
  have T__law_pick : Cal l.prog w K mg base "_law_pick" 2 P__law_pick (spOf K My.F_pick) := ⟨_, _, k__law_pick F__law_pick n_len T__law_take, b__law_pick, F__law_pick.kp, m__law_pick⟩
  have T__law_words : Cal l.prog w K mg base "_law_words" 2 P__law_words (spL K My.F_words) := ⟨_, _, k__law_words F__law_words n_range T__law_take, b__law_words, F__law_words.kp, m__law_words⟩
  let T__law_nodes : Cal l.prog w K mg base "_law_nodes" 8 P__law_nodes (spL K (F_lnodes 8)) := ⟨_, _, all__law_nodes (P := l.prog) (w := w) (base := base) n_isinstance n_str n_len F__law_nodes b__law_nodes m__law_nodes 8, b__law_nodes, F__law_nodes.kp, m__law_nodes⟩
  have T__law_dates : Cal l.prog w K mg base "_law_dates" 3 P__law_dates (spOf K My.F_dates) := ⟨_, _, k__law_dates F__law_dates n_len n_enumerate n_isinstance n_str n_tuple T__law_pick T__law_take, b__law_dates, F__law_dates.kp, m__law_dates⟩
  let T__law_same : Cal l.prog w K mg base "_law_same" 4 P__law_same (spOf K (F_same 4)) := ⟨_, _, all__law_same (P := l.prog) (w := w) (base := base) n_isinstance n_tuple n_len n_zip n_all n_str n_bool n_int F__law_same b__law_same m__law_same 4, b__law_same, F__law_same.kp, m__law_same⟩
  have T__law_comb : Cal l.prog w K mg base "_law_comb" 1 P__law_comb (spOf K My.F_fc) := ⟨_, _, k__law_comb F__law_comb , b__law_comb, F__law_comb.kp, m__law_comb⟩
  have T__law_stays : Cal l.prog w K mg base "_law_stays" 1 P__law_stays (spOf K My.F_stays15) := ⟨_, _, k__law_stays F__law_stays n_len n_range n_list n_tuple, b__law_stays, F__law_stays.kp, m__law_stays⟩
  exact (k_law F_law n_len n_min n_max n_range T__law_pot T__law_words T__law_take T__law_comb T__law_same T__law_stays T_dated T__law_dates T__law_nodes).imp law_imp
theorem walk {l : PySem.W.OpenLaw} {q : Program} {loose : List Str} {XP : (Str → Option Value) → Heap → Prop} {YP : World → Heap → Prop} {d : DefRec} {K : Params → PySem.W.Frag} (hn : l.most = some 63) (hdf : d.params.defaults = [])
    (hY : ∀ (w : World) (h : Heap), YP w h → (K w.params).In h)
    (F : ∀ (w : World) (mg : Str → Option Value) (fa : Addr) (h : Heap), (K w.params).In h → h.Ns mainGlobals mg → mg d.name = some (.ref fa) →
      ∃ fd : FuncData, (∀ (s : Shared) (u : Value), BindsTo s fd ⟨[u], []⟩ [("_law_script", u)]) ∧ ∀ base : Heap, (K w.params).In base → base.Ns mainGlobals mg → FnOk l.prog w (K w.params) mg base CX0 9 fa fd ["_law_script"] (spLaw (K w.params))) :
    PySem.W.WalkO q loose XP YP l.row.toRowW d [] (fun f vs => PySem.call f vs) :=
  L2.walk_of (n := 63) (k := 9) (x := "_law_script") (CX := fun _ => CX0) (sp := fun w => spLaw (K w.params)) hn (by decide) hdf ⟨rfl, by decide, by decide⟩ hY F (fun _ _ a ns hl hO hS => ⟨a, ns, rfl, hO, hS, hl, fun _ => rfl⟩) fun _ _ _ _ _ z => z
end My
open PySem PySem.W PyProof.Rows
set_option maxRecDepth 100000 in
set_option maxHeartbeats 0 in
theorem PySem.Challenge.cw_treewithin_k15_dated_combs_known_by_hand_holds : PySem.Challenge.rw_treewithin_k15_dated_combs_known_by_hand.Holds := by
  w_on; o_law; k_head; (case hw => w_witness2)
  k_fill
  refine My.walk (l := PySem.Challenge.rw_treewithin_k15_dated_combs_known_by_hand) rfl rfl (fun w h Y => PySem.W.kIn_of Y) ?F
  case F =>
    intro w mg fa h KX G hmg
    refine' My.all_mk KX G hmg ?a0 ?l0 ?c0 ?k0 ?a1 ?l1 ?c1 ?k1 ?a2 ?l2 ?c2 ?k2 ?a3 ?l3 ?c3 ?k3 ?a4 ?l4 ?c4 ?k4 ?a5 ?l5 ?c5 ?k5 ?a6 ?l6 ?c6 ?k6 ?a7 ?l7 ?c7 ?k7 ?a8 ?l8 ?c8 ?k8 ?a9 ?l9 ?c9 ?k9 ?a10 ?l10 ?c10 ?k10 ?a11 ?l11 ?c11 ?k11 ?a12 ?l12 ?c12 ?k12 ?a13 ?l13 ?c13 ?k13 ?a14 ?l14 ?c14 ?k14 ?a15 ?l15 ?c15 ?k15 ?a16 ?l16 ?c16 ?k16 ?a17 ?l17 ?c17 ?k17 ?a18 ?l18 ?c18 ?k18 ?z_isinstance ?z_str ?z_list ?z_reversed ?z_len ?z_tuple ?z_enumerate ?z_zip ?z_sorted ?z_dict ?z_abs ?z_int ?z_range ?z_all ?z_bool ?z_max ?z_min
    (case a0 => k_is)
    (case l0 => k_is)
    (case c0 => k_is)
    (case k0 => k_is)
    (case a1 => k_is)
    (case l1 => k_is)
    (case c1 => k_is)
    (case k1 => k_is)
    (case a2 => k_is)
    (case l2 => k_is)
    (case c2 => k_is)
    (case k2 => k_is)
    (case a3 => k_is)
    (case l3 => k_is)
    (case c3 => k_is)
    (case k3 => k_is)
    (case a4 => k_is)
    (case l4 => k_is)
    (case c4 => k_is)
    (case k4 => k_is)
    (case a5 => k_is)
    (case l5 => k_is)
    (case c5 => k_is)
    (case k5 => k_is)
    (case a6 => k_is)
    (case l6 => k_is)
    (case c6 => k_is)
    (case k6 => k_is)
    (case a7 => k_is)
    (case l7 => k_is)
    (case c7 => k_is)
    (case k7 => k_is)
    (case a8 => k_is)
    (case l8 => k_is)
    (case c8 => k_is)
    (case k8 => k_is)
    (case a9 => k_is)
    (case l9 => k_is)
    (case c9 => k_is)
    (case k9 => k_is)
    (case a10 => k_is)
    (case l10 => k_is)
    (case c10 => k_is)
    (case k10 => k_is)
    (case a11 => k_is)
    (case l11 => k_is)
    (case c11 => k_is)
    (case k11 => k_is)
    (case a12 => k_is)
    (case l12 => k_is)
    (case c12 => k_is)
    (case k12 => k_is)
    (case a13 => k_is)
    (case l13 => k_is)
    (case c13 => k_is)
    (case k13 => k_is)
    (case a14 => k_is)
    (case l14 => k_is)
    (case c14 => k_is)
    (case k14 => k_is)
    (case a15 => k_is)
    (case l15 => k_is)
    (case c15 => k_is)
    (case k15 => k_is)
    (case a16 => k_is)
    (case l16 => k_is)
    (case c16 => k_is)
    (case k16 => k_is)
    (case a17 => k_is)
    (case l17 => k_is)
    (case c17 => k_is)
    (case k17 => k_is)
    (case a18 => k_is)
    (case l18 => k_is)
    (case c18 => k_is)
    (case k18 => k_is)
    (case z_isinstance => k_is)
    (case z_str => k_is)
    (case z_list => k_is)
    (case z_reversed => k_is)
    (case z_len => k_is)
    (case z_tuple => k_is)
    (case z_enumerate => k_is)
    (case z_zip => k_is)
    (case z_sorted => k_is)
    (case z_dict => k_is)
    (case z_abs => k_is)
    (case z_int => k_is)
    (case z_range => k_is)
    (case z_all => k_is)
    (case z_bool => k_is)
    (case z_max => k_is)
    (case z_min => k_is)
#print axioms PySem.Challenge.cw_treewithin_k15_dated_combs_known_by_hand_holds
