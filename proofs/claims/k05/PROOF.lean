import PyProof.Rows.All
import Wide.All
import OpenK.AllK
import Wide.FinOn
import Lean
import PyProof.EqAt
import PyProof.EqKinds
import PyProof.TupleCall
import PyProof.NeKinds
import PyProof.FactsAll.tuple_2
import PyProof.FactsAll.str_0
import PyProof.FactsAll.str_1
import PyProof.FactsAll.str_2
import PyProof.FactsAll.str_3
import PyProof.Rows.MinMaxN
import PyProof.Rows.SumAny
import PyProof.Rows.SetFrom
import PyProof.ReprRoads
import PyProof.Rows.StrKeys3
import PyProof.CallFns
import KE.KSortTup
import KE.KDictSum
import PySem.Challenge.RW_treewithin_k05_what_is_a_small_tree

set_option Elab.async false
set_option linter.all false
set_option maxRecDepth 100000
namespace L2
open PySem PySem.Spec PyProof.Rows
abbrev Key := Sum Int Str
def keyIs : Key → Value → Bool
  | .inl k, v => Value.isInt k v
  | .inr x, v => Value.isStrOf x v
def keyH (w : World) : Key → Int
  | .inl k => hashInt k
  | .inr x => hashStr w x
theorem keyIs_shape : ∀ {k : Key} {v : Value}, keyIs k v = true → (∃ i t, k = Sum.inl i ∧ v = Value.int i t) ∨ (∃ x t, k = Sum.inr x ∧ v = Value.str x t)
  | .inl i, v, h => by
    obtain ⟨t, e⟩ := Value.isInt_shape (k := i) (v := v) h
    exact .inl ⟨i, t, rfl, e⟩
  | .inr x, v, h => by
    obtain ⟨t, e⟩ := Value.isStrOf_shape (x := x) (v := v) h
    exact .inr ⟨x, t, rfl, e⟩
theorem keyIs_int (i : Int) (t : Tok) : keyIs (.inl i) (.int i t) = true := by simp [keyIs, Value.isInt]
theorem keyIs_str (x : Str) (t : Tok) : keyIs (.inr x) (.str x t) = true := by simp [keyIs, Value.isStrOf]
theorem key_ll (a b : Int) : decide ((Sum.inl a : Key) = Sum.inl b) = (a == b) := by
  by_cases e : a = b
  · subst e; simp
  · have h : ¬ (Sum.inl a : Key) = Sum.inl b := fun q => e (Sum.inl.inj q)
    rw [decide_eq_false h]
    exact (beq_eq_false_iff_ne.mpr e).symm
theorem key_rr (a b : Str) : decide ((Sum.inr a : Key) = Sum.inr b) = decide (a = b) := by
  by_cases e : a = b
  · subst e; simp
  · have h : ¬ (Sum.inr a : Key) = Sum.inr b := fun q => e (Sum.inr.inj q)
    rw [decide_eq_false h, decide_eq_false e]
theorem key_lr (a : Int) (b : Str) : decide ((Sum.inl a : Key) = Sum.inr b) = false := decide_eq_false (fun q => nomatch q)
theorem key_rl (a : Str) (b : Int) : decide ((Sum.inr a : Key) = Sum.inl b) = false := decide_eq_false (fun q => nomatch q)
def mixKind (prog : Program) (w : World) : PySem.KeyKind prog w Key where
  is := keyIs
  hash := keyH w
  inj := fun v a b ha hb => by
    rcases keyIs_shape ha with ⟨i, t, rfl, rfl⟩ | ⟨x, t, rfl, rfl⟩
    · rcases keyIs_shape hb with ⟨j, u, rfl, e⟩ | ⟨y, u, rfl, e⟩
      · injection e with e1 _; rw [e1]
      · exact nomatch e
    · rcases keyIs_shape hb with ⟨j, u, rfl, e⟩ | ⟨y, u, rfl, e⟩
      · exact nomatch e
      · injection e with e1 _; rw [e1]
  byValue := fun k v h => by
    rcases keyIs_shape h with ⟨i, t, rfl, rfl⟩ | ⟨x, t, rfl, rfl⟩ <;> rfl
  pyHash := fun hv h => by
    rcases keyIs_shape hv with ⟨i, t, rfl, rfl⟩ | ⟨x, t, rfl, rfl⟩
    · exact wpAny_pyHash_int h
    · exact wpAny_pyHash_str h
  eqBool := fun hu hv h => by
    rcases keyIs_shape hu with ⟨i, t, rfl, rfl⟩ | ⟨x, t, rfl, rfl⟩
    · rcases keyIs_shape hv with ⟨j, u, rfl, rfl⟩ | ⟨y, u, rfl, rfl⟩
      · rw [key_ll] at h; exact wpAny_eqBool_int h
      · rw [key_lr] at h; exact SeqAt.EqAt.int_str i t y u _ _ _ _ h
    · rcases keyIs_shape hv with ⟨j, u, rfl, rfl⟩ | ⟨y, u, rfl, rfl⟩
      · rw [key_rl] at h; exact SeqAt.EqAt.str_int x t j u _ _ _ _ h
      · rw [key_rr] at h; exact wpAny_eqBool_str h
  «strs» := fun k x t v h => by
    rcases keyIs_shape h with ⟨i, u, rfl, e⟩ | ⟨y, u, rfl, e⟩
    · exact nomatch e
    · injection e with e1 _
      subst e1
      cases v <;> rfl
theorem mixKind_int (prog : Program) (w : World) (i : Int) (t : Tok) : (mixKind prog w).is (.inl i) (.int i t) = true := keyIs_int i t
theorem mixKind_str (prog : Program) (w : World) (x : Str) (t : Tok) : (mixKind prog w).is (.inr x) (.str x t) = true := keyIs_str x t
end L2
namespace L2
open PySem PySem.Spec PyProof.Rows
inductive V where
  | non | bl (b : Bool) | int (i : Int) | str (x : Str) | byt (b : Array UInt8) | flt (b : UInt64) | ref (a : Addr) | ty (n : String)
  deriving DecidableEq
def RelV : V → Value → Prop
  | .non, u => u = Value.none
  | .bl b, u => u = Value.bool b
  | .int i, u => ∃ t, u = Value.int i t
  | .str x, u => ∃ t, u = Value.str x t
  | .byt b, u => ∃ t, u = Value.bytes b t
  | .flt b, u => ∃ t, u = Value.float b t
  | .ref a, u => u = Value.ref a
  | .ty n, u => u = Value.type n
abbrev Vals : List V → List Value → Prop := Paired RelV
theorem Vals.length {xs : List V} {us : List Value} (r : Vals xs us) : xs.length = us.length := Paired.length r
theorem Vals.get : ∀ {xs : List V} {us : List Value} {i : Nat} {x : V}, Vals xs us → xs[i]? = some x → ∃ u, us[i]? = some u ∧ RelV x u
  | _, _, _, _, .nil, e => by simp at e
  | _, _, 0, _, .cons r _, e => by simp at e; subst e; exact ⟨_, rfl, r⟩
  | _, _, i + 1, x, .cons _ t, e => by
    obtain ⟨u, h1, h2⟩ := Vals.get (i := i) (x := x) t (by simpa using e)
    exact ⟨u, by simpa using h1, h2⟩
theorem Vals.set {x : V} {u : Value} (r : RelV x u) : ∀ {xs : List V} {us : List Value} (i : Nat), Vals xs us → Vals (xs.set i x) (us.set i u)
  | _, _, _, .nil => .nil
  | _, _, 0, .cons _ t => .cons r t
  | _, _, i + 1, .cons q t => .cons q (Vals.set r i t)
theorem Vals.append : ∀ {xs ys : List V} {us ws : List Value}, Vals xs us → Vals ys ws → Vals (xs ++ ys) (us ++ ws)
  | _, _, _, _, .nil, s => s
  | _, _, _, _, .cons r t, s => .cons r (Vals.append t s)
theorem Vals.take : ∀ {xs : List V} {us : List Value} (n : Nat), Vals xs us → Vals (xs.take n) (us.take n)
  | _, _, 0, _ => .nil
  | _, _, _ + 1, .nil => .nil
  | _, _, n + 1, .cons r t => .cons r (Vals.take n t)
theorem Vals.drop : ∀ {xs : List V} {us : List Value} (n : Nat), Vals xs us → Vals (xs.drop n) (us.drop n)
  | _, _, 0, r => r
  | _, _, _ + 1, .nil => .nil
  | _, _, n + 1, .cons _ t => Vals.drop n t
def RelO : Option V → Option Value → Prop
  | some v, some u => RelV v u
  | none, none => True
  | _, _ => False
def KV {κ : Type} : List (κ × V) → List (κ × Value) → Prop := Paired fun (p : κ × V) (q : κ × Value) => p.1 = q.1 ∧ RelV p.2 q.2
def kV : Key → V
  | .inl i => .int i
  | .inr x => .str x
inductive HO where
  | lst (xs : List V)
  | tup (xs : List V)
  | dK (kvs : List (Key × V)) | dT (kvs : List (List Key × V))
  | set (S : Int → Bool) (n : Nat)
  | ins (C dx : Addr) (fs : List (Str × V))
  | own (x : Addr)
  | xd (fs : List (Str × V))
  | met (f x : Addr)
  | rng (lo hi : Int)
  | frz (o : Obj) (u : HO)
  | tbl (ps : Array Value)
  | ext (φ : Heap → Prop)
abbrev Hp := Addr → Option HO
def upd (H : Hp) (a : Addr) (o : HO) : Hp := fun b => if b = a then some o else H b
theorem upd_same {H : Hp} {a : Addr} {o : HO} : upd H a o a = some o := by unfold upd; rw [if_pos rfl]
theorem upd_ne {H : Hp} {a b : Addr} {o : HO} (h : b ≠ a) : upd H a o b = H b := by unfold upd; rw [if_neg h]
theorem ne_of {H : Hp} {a b : Addr} {o u : HO} (h : H a = some o) (h' : H b = some u) (d : o ≠ u) : a ≠ b := by
  intro e; subst e; rw [h] at h'; exact d (Option.some.inj h')
theorem ne_of_none {H : Hp} {a b : Addr} {o : HO} (h : H a = some o) (h' : H b = none) : a ≠ b := by
  intro e; subst e; rw [h] at h'; cases h'
section
variable (P : Program) (w : World)
def ObjOk (H : Hp) (h : Heap) (a : Addr) : HO → Prop
  | .lst xs => xs.length ≤ sizeLine ∧ ∃ (its : List Value) (n : Nat), Vals xs its ∧ h.get? a = some { cls := .type "list", data := .seq its.toArray n }
  | .tup xs => xs.length ≤ sizeLine ∧ ∃ its : List Value, Vals xs its ∧ IsTup h a its.toArray
  | .dK kvs => kvs.length ≤ sizeLine ∧ (a == sysModules) = false ∧ ∃ vs, KV kvs vs ∧ h.DictOf (mixKind P w) a vs
  | .dT kvs => kvs.length ≤ sizeLine ∧ (a == sysModules) = false ∧ ∃ xs : List (List Key × Addr × Value),
      Paired (fun (p : List Key × V) (q : List Key × Addr × Value) => p.1 = q.1 ∧ H q.2.1 = some (.tup (p.1.map kV)) ∧ RelV p.2 q.2.2) kvs xs ∧
      ∃ o es ep, h.get? a = some o ∧ o.ExactDict ∧ o.data = .dict es ep ∧ es.toList = xs.map (entryOfKey (tupleKind (mixKind P w))) ∧ (xs.map (·.1)).Nodup
  | .set S n => h.SetOf (intKind P w) a S n
  | .ins C dx fs => H dx = some (.own a) ∧ fs.length ≤ 1000 ∧ dx ≠ a ∧ h.get? a = some (PySem.W.instObj C dx) ∧
      ∃ mA, h.Ns1 dx mA ∧ (∀ f, RelO (fs.lookup f) (mA f)) ∧ PySem.Within mA (fs.map (·.1))
  | .own _ => ∃ o, h.get? a = some o
  | .xd fs => ∃ mA, h.Ns1 a mA ∧ ∀ f, RelO (fs.lookup f) (mA f)
  | .rng lo hi => ∃ t u v, h.get? a = some { cls := .type "range", data := .fields #[.int lo t, .int hi u, .int 1 v] }
  | .frz o u => h.get? a = some o ∧ ObjOk H h a u
  | .tbl ps => h.get? a = some { cls := .none, data := .fields ps }
  | .met f x => h.get? a = some (PySem.W.methodObj (.ref f) (.ref x))
  | .ext φ => φ h ∧ (∃ o, h.get? a = some o) ∧ ∀ h1 h2 : Heap, φ h1 → (∀ o, h1.get? a = some o → h2.get? a = some o) → φ h2
def HOk (H : Hp) (h : Heap) : Prop := ∀ a o, H a = some o → ObjOk P w H h a o
end
section
variable {P : Program} {w : World} {H H' : Hp} {h h' : Heap} {a : Addr} {o : HO}
theorem ObjOk.lt (x : ObjOk P w H h a o) : a < h.objs.size := by
  cases o with
  | lst xs => obtain ⟨_, _, _, _, e⟩ := x; exact Heap.lt_size e
  | tup xs => obtain ⟨_, _, _, p⟩ := x; exact p.lt
  | dK kvs => obtain ⟨_, _, _, _, o, _, _, e, _⟩ := x; exact Heap.lt_size e
  | dT kvs => obtain ⟨_, _, _, _, o, _, _, e, _⟩ := x; exact Heap.lt_size e
  | set S n => obtain ⟨o, _, _, _, e, _⟩ := x; exact Heap.lt_size e
  | ins C dx fs => obtain ⟨_, _, _, e, _⟩ := x; exact Heap.lt_size e
  | own y => obtain ⟨_, e⟩ := x; exact Heap.lt_size e
  | xd fs => obtain ⟨_, ⟨_, _, _, e, _⟩, _⟩ := x; exact Heap.lt_size e
  | rng lo hi => obtain ⟨_, _, _, e⟩ := x; exact Heap.lt_size e
  | frz ob u => obtain ⟨e, _⟩ := x; exact Heap.lt_size e
  | tbl ps => exact Heap.lt_size (show h.get? a = some _ from x)
  | met f y => exact Heap.lt_size (show h.get? a = some _ from x)
  | ext φ => obtain ⟨_, ⟨_, e⟩, _⟩ := x; exact Heap.lt_size e
theorem Paired.mapP {α β : Type} {F G : α → β → Prop} : ∀ {l₁ : List α} {l₂ : List β}, Paired F l₁ l₂ → (∀ a b, F a b → G a b) → Paired G l₁ l₂
  | _, _, .nil, _ => .nil
  | _, _, .cons r t, f => .cons (f _ _ r) (Paired.mapP t f)
theorem ObjOk.stay (x : ObjOk P w H h a o) (k : ∀ b u, (b = a ∨ H b = some (.own a)) → h.get? b = some u → h'.get? b = some u)
    (ho : ∀ b, H b = some (.own a) → H' b = some (.own a)) (ht : ∀ b xs, H b = some (.tup xs) → H' b = some (.tup xs)) : ObjOk P w H' h' a o := by
  induction o with
  | lst xs => obtain ⟨z, its, n, r, e⟩ := x; exact ⟨z, its, n, r, k _ _ (.inl rfl) e⟩
  | tup xs => obtain ⟨z, its, r, ob, e, c⟩ := x; exact ⟨z, its, r, ob, k _ _ (.inl rfl) e, c⟩
  | dK kvs => obtain ⟨z, y, vs, r, ob, es, ep, e, c⟩ := x; exact ⟨z, y, vs, r, ob, es, ep, k _ _ (.inl rfl) e, c⟩
  | dT kvs =>
    obtain ⟨z, y, xs, r, ob, es, ep, e, c⟩ := x
    exact ⟨z, y, xs, Paired.mapP r fun p q z => ⟨z.1, ht _ _ z.2.1, z.2.2⟩, ob, es, ep, k _ _ (.inl rfl) e, c⟩
  | set S n => obtain ⟨ob, es, ep, t, e, c⟩ := x; exact ⟨ob, es, ep, t, k _ _ (.inl rfl) e, c⟩
  | ins C dx fs =>
    obtain ⟨d, z, ne, e, mA, ⟨od, es, ep, e2, c⟩, r⟩ := x
    exact ⟨ho _ d, z, ne, k _ _ (.inl rfl) e, mA, ⟨od, es, ep, k _ _ (.inr d) e2, c⟩, r⟩
  | own y => obtain ⟨ob, e⟩ := x; exact ⟨ob, k _ _ (.inl rfl) e⟩
  | xd fs => obtain ⟨mA, ⟨od, es, ep, e, c⟩, r⟩ := x; exact ⟨mA, ⟨od, es, ep, k _ _ (.inl rfl) e, c⟩, r⟩
  | rng lo hi => obtain ⟨t, u, v, e⟩ := x; exact ⟨t, u, v, k _ _ (.inl rfl) e⟩
  | frz ob u ih => obtain ⟨e, q⟩ := x; exact ⟨k _ _ (.inl rfl) e, ih q⟩
  | tbl ps =>
    have e : h.get? a = some { cls := .none, data := .fields ps } := x
    show h'.get? a = some { cls := .none, data := .fields ps }
    exact k a _ (.inl rfl) e
  | met f y =>
    have e : h.get? a = some (PySem.W.methodObj (.ref f) (.ref y)) := x
    show h'.get? a = some (PySem.W.methodObj (.ref f) (.ref y))
    exact k a _ (.inl rfl) e
  | ext φ => obtain ⟨p, ⟨o, e⟩, st⟩ := x; exact ⟨st _ _ p fun o q => k _ _ (.inl rfl) q, ⟨o, k _ _ (.inl rfl) e⟩, st⟩
theorem HOk.lt (x : HOk P w H h) (e : H a = some o) : a < h.objs.size := (x a o e).lt
theorem HOk.fresh (x : HOk P w H h) (e : h.objs.size ≤ a) : H a = none := by
  cases q : H a with
  | none => rfl
  | some u => exact absurd (Nat.lt_of_lt_of_le (x.lt q) e) (Nat.lt_irrefl _)
theorem HOk.kept (x : HOk P w H h) (k : ∀ b u, h.get? b = some u → h'.get? b = some u) : HOk P w H h' := fun a o e =>
  (x a o e).stay (fun b u _ q => k b u q) (fun _ q => q) fun _ _ q => q
theorem HOk.laid (x : HOk P w H h) (k : ∀ b u, h.get? b = some u → h'.get? b = some u) (hp : h.objs.size ≤ a) (new : ObjOk P w (upd H a o) h' a o) : HOk P w (upd H a o) h' := fun b u e => by
  have hn := x.fresh hp
  by_cases hb : b = a
  · subst hb; rw [upd_same] at e; cases e; exact new
  · rw [upd_ne hb] at e
    exact (x b u e).stay (fun c v _ q => k c v q) (fun c q => by rw [upd_ne (ne_of_none q hn)]; exact q) fun c xs q => by rw [upd_ne (ne_of_none q hn)]; exact q
end
def Rd (H : Hp) (a : Addr) (u : HO) : Prop := H a = some u ∨ ∃ o, H a = some (.frz o u)
theorem Rd.ok {P : Program} {w : World} {H : Hp} {h : Heap} {a : Addr} {u : HO} (r : Rd H a u) (x : HOk P w H h) : ObjOk P w H h a u := by
  rcases r with r | ⟨o, r⟩
  · exact x a u r
  · obtain ⟨_, q⟩ := x a _ r
    exact q
def Mut : Option HO → Prop
  | some (.lst _) => True
  | some (.dK _) => True
  | some (.dT _) => True
  | some (.set _ _) => True
  | some (.ins _ _ _) => True
  | some (.ext _) => True
  | _ => False
section
variable {P : Program} {w : World} {H : Hp} {h h' : Heap} {x e : Addr} {o' : HO}
theorem HOk.write (ok : HOk P w H h) (mu : Mut (H x)) (he : e = x ∨ H e = some (.own x)) (k : ∀ b u, b ≠ e → h.get? b = some u → h'.get? b = some u) (heo : ∃ u, h'.get? e = some u)
    (new : ObjOk P w (upd H x o') h' x o') : HOk P w (upd H x o') h' := fun b u q => by
  have nown : ∀ c y, H c = some (.own y) → c ≠ x := fun c y r z => by subst z; rw [r] at mu; exact mu
  have ntup : ∀ c xs, H c = some (.tup xs) → c ≠ x := fun c xs r z => by subst z; rw [r] at mu; exact mu
  by_cases hb : b = x
  · subst hb; rw [upd_same] at q; cases q; exact new
  · rw [upd_ne hb] at q
    by_cases hbe : b = e
    · have q' : H b = some (.own x) := by
        rcases he with z | z
        · exact absurd (hbe.trans z) hb
        · rw [hbe]; exact z
      rw [q] at q'; cases q'
      obtain ⟨v, hv⟩ := heo
      exact ⟨v, by rw [hbe]; exact hv⟩
    · refine (ok b u q).stay (fun c v hc r => k c v ?_ r) (fun c r => by rw [upd_ne (nown c b r)]; exact r) fun c xs r => by rw [upd_ne (ntup c xs r)]; exact r
      rcases hc with rfl | hc
      · exact hbe
      · rintro rfl
        rcases he with z | z
        · exact nown c b hc z
        · rw [hc] at z; cases z; exact hb rfl
end
structure Un (fs ex : List Addr) (H H' : Hp) (h h' : Heap) : Prop where
  keep : ∀ b o, h.get? b = some o → H b = none → b ∉ fs → b ∉ ex → h'.get? b = some o
  slot : ∀ b o, h.get? b = some o → H b = none → b ∈ fs → b ∉ ex → ∃ sl, h'.get? b = some { o with slots := sl }
  free : ∀ b o, h.get? b = some o → H b = none → b ∉ ex → H' b = none
  there : ∀ b o, h.get? b = some o → b ∉ ex → ∃ o', h'.get? b = some o'
  tups : ∀ b xs, H b = some (.tup xs) → H' b = some (.tup xs)
  frzs : ∀ b o u, H b = some (.frz o u) → H' b = some (.frz o u)
  tbls : ∀ b ps, H b = some (.tbl ps) → ∃ more, H' b = some (.tbl (ps ++ more))
section
variable {fs fs' ex ex' : List Addr} {H H1 H2 : Hp} {h h1 h2 h' : Heap} {a x e : Addr} {o : HO}
theorem Un.any (u : Un fs ex H H1 h h1) {b : Addr} {ob : Obj} (q : h.get? b = some ob) (n : H b = none) (hx : b ∉ ex) : ∃ sl, h1.get? b = some { ob with slots := sl } := by
  by_cases hb : b ∈ fs
  · exact u.slot b ob q n hb hx
  · exact ⟨ob.slots, u.keep b ob q n hb hx⟩
theorem Un.kept (k : ∀ b u, h.get? b = some u → h'.get? b = some u) : Un fs ex H H h h' :=
  ⟨fun b ob q _ _ _ => k b ob q, fun b ob q _ _ _ => ⟨ob.slots, k b ob q⟩, fun _ _ _ n _ => n, fun b ob q _ => ⟨ob, k b ob q⟩, fun _ _ q => q, fun _ _ _ q => q, fun _ ps q => ⟨#[], by rw [q]; simp⟩⟩
theorem Un.refl : Un fs ex H H h h := Un.kept fun _ _ q => q
theorem Un.laid (k : ∀ b u, h.get? b = some u → h'.get? b = some u) (hp : h.objs.size ≤ a) (hn : H a = none) : Un fs ex H (upd H a o) h h' where
  keep := fun b u q _ _ _ => k b u q
  slot := fun b u q _ _ _ => ⟨u.slots, k b u q⟩
  free := fun b u q n _ => by rw [upd_ne (Nat.ne_of_lt (Nat.lt_of_lt_of_le (Heap.lt_size q) hp))]; exact n
  there := fun b u q _ => ⟨u, k b u q⟩
  tups := fun b xs q => by rw [upd_ne (ne_of_none q hn)]; exact q
  frzs := fun b u xs q => by rw [upd_ne (ne_of_none q hn)]; exact q
  tbls := fun b ps q => ⟨#[], by rw [upd_ne (ne_of_none q hn), q]; simp⟩
theorem Un.write (mu : Mut (H x)) (he : e = x ∨ H e = some (.own x)) (k : ∀ b u, b ≠ e → h.get? b = some u → h'.get? b = some u) (heo : ∃ u, h'.get? e = some u) : Un fs ex H (upd H x o) h h' := by
  have hx : ∀ b, H b = none → b ≠ x := fun b n z => by subst z; rw [n] at mu; exact mu
  have hb : ∀ b, H b = none → b ≠ e := fun b n z => by
    subst z
    rcases he with r | r
    · exact hx b n r
    · rw [n] at r; cases r
  have hm : ∀ b u, H b = some u → ¬ Mut (some u) → b ≠ x := fun b u q nm z => by subst z; rw [q] at mu; exact nm mu
  refine ⟨fun b u q n _ _ => k b u (hb b n) q, fun b u q n _ _ => ⟨u.slots, k b u (hb b n) q⟩, fun b u q n _ => by rw [upd_ne (hx b n)]; exact n, fun b u q _ => ?_,
    fun b xs q => by rw [upd_ne (hm b _ q fun z => z)]; exact q, fun b u xs q => by rw [upd_ne (hm b _ q fun z => z)]; exact q, fun b ps q => ⟨#[], by rw [upd_ne (hm b _ q fun z => z), q]; simp⟩⟩
  by_cases hbe : b = e
  · subst hbe; exact heo
  · exact ⟨u, k b u hbe q⟩
end
def trk (h : Heap) (H : Hp) : List Addr := (List.range h.objs.size).filter fun a => (H a).isSome
def hidT (h : Heap) (H : Hp) : Heap := PySem.W.hideAll h (trk h H)
theorem hidT_size (h : Heap) (H : Hp) : (hidT h H).objs.size = h.objs.size := PySem.W.hideAll_size _ _
theorem hidT_get {h : Heap} {H : Hp} {b : Addr} {o : Obj} (e : h.get? b = some o) (n : H b = none) : (hidT h H).get? b = some o :=
  PySem.W.hideAll_get _ e fun hm => by
    have q := (List.mem_filter.mp hm).2
    rw [n] at q; simp at q
theorem of_hidT {h : Heap} {H : Hp} {b : Addr} {o : Obj} (e : (hidT h H).get? b = some o) : h.get? b = some o ∧ H b = none := by
  have e' := PySem.W.of_hideAll (trk h H) e
  refine ⟨e', ?_⟩
  cases q : H b with
  | none => rfl
  | some x =>
    have hm : b ∈ trk h H := List.mem_filter.mpr ⟨List.mem_range.mpr (Heap.lt_size e'), by simp [q]⟩
    have z : (hidT h H).get? b = none := PySem.W.hideAll_none (trk h H) hm
    rw [z] at e; cases e
def allNews (g h : Heap) (L : Addr) : List (Addr × Obj) := (List.range h.objs.size).filterMap fun a => if a = L ∨ (g.get? a).isSome = true then none else (h.get? a).map fun o => (a, o)
def rest (g h : Heap) (L d : Addr) : List (Addr × Obj) := (allNews g h L).filter fun p => decide (p.1 ≠ d)
end L2
namespace L2
open PySem PySem.Spec PyProof.Rows
structure Mod (K : PySem.W.Frag) (mg : Str → Option Value) (base : Heap) : Prop where
  kin : K.In base
  glob : base.Ns mainGlobals mg
  blt : ∃ mb, base.Ns builtinsNs mb ∧ ∀ x : Str, x ≠ "__name__" → mb x = bootBuiltins x
  nolimit : base.NoLimit
  bm : ∃ bm ob, mg "__builtins__" = some (.ref bm) ∧ bm ≠ builtinsNs ∧ base.get? bm = some ob ∧ ob.cls = .type "module" ∧ ob.dict = some builtinsNs ∧ ob.data = .plain
structure Cx where
  prog : Program
  w : World
  K : PySem.W.Frag
  mg : Str → Option Value
  base : Heap
  A : Around
  N : List Str
  s₀ : Shared
  H₀ : Hp
  env : Env
  outer : List Env
  stack : List Env
  ex : List Addr
  fn : Str → Bool
  calm : Bool
  pn : List (Addr × Obj)
  xe : Value → Shared → Prop
def frs (l : List Env) : List Addr := l.filterMap (·.frame)
abbrev Cx.fs (X : Cx) : List Addr := frs X.outer
def Vis (sc : Scope) (x : Str) : Prop := sc.names.lookup x = some .local ∨ sc.names.lookup x = some .cell ∨ sc.names.lookup x = some .free
def Loc (sc : Scope) (x : Str) : Prop := sc.names.lookup x = some .local ∨ sc.names.lookup x = some .cell
def Look (env : Env) (h : Heap) (m : Str → Option Value) (x : Str) (u : Value) : Prop :=
  (env.kindOf x = some .local ∧ m x = some u) ∨ ((env.kindOf x = some .cell ∨ env.kindOf x = some .free) ∧ ∃ c, env.cells.lookup x = some c ∧ h.IsCell c (some u))
structure Cx.Ok (X : Cx) : Prop where
  mod : Mod X.K X.mg X.base
  kind : X.env.scope.kind = .function
  glob : X.env.globals = mainGlobals
  blt : X.env.builtins = builtinsNs
  above : X.s₀.heap.objs.size ≤ X.env.locals
  inj : ∀ x y c, X.env.cells.lookup x = some c → X.env.cells.lookup y = some c → x = y
  has : ∀ x, (X.env.kindOf x = some .cell ∨ X.env.kindOf x = some .free) → ∃ c, X.env.cells.lookup x = some c
  cab : ∀ x c, X.fn x = true → X.env.cells.lookup x = some c → X.s₀.heap.objs.size ≤ c
  hd : X.calm = true → X.A.handled = none
  frames : X.A.frames = some X.stack
  stk : X.stack = X.outer ∨ (X.stack = X.env :: X.outer ∧ X.env.frame = some X.env.locals)
  exf : ∀ b ∈ X.ex, b ≠ X.env.locals ∧ ∀ x c, X.env.cells.lookup x = some c → c ≠ b
  bs : ∀ b o, X.base.get? b = some o → X.s₀.heap.get? b = some o ∧ X.H₀ b = none
  bsz : X.base.objs.size ≤ X.s₀.heap.objs.size
  noex : ∀ b o, X.base.get? b = some o → b ∉ X.ex
  exfs : ∀ b ∈ X.ex, b ∉ X.fs
  funs : X.s₀.heap.FunFrames X.base X.outer
  frf : ∀ b ∈ X.fs, X.H₀ b = none
structure Inv (X : Cx) (pins : List (Addr × Obj)) (σ : List (Option V)) (H : Hp) (s : Shared) : Prop where
  ok : X.Ok
  os : s.os = X.s₀.os
  bare : AllBare s.gens
  base : Un X.fs X.ex X.H₀ H X.s₀.heap s.heap
  loc : ∃ m, s.heap.Ns X.env.locals m ∧ ∀ (i : Nat) (x : Str) (v : V), X.N[i]? = some x → σ[i]? = some (some v) → Vis X.env.scope x → ∃ u, RelV v u ∧ Look X.env s.heap m x u
  cell : ∀ x c, X.env.cells.lookup x = some c → ∃ v, s.heap.IsCell c v
  free : H X.env.locals = none
  freeC : ∀ x c, X.env.cells.lookup x = some c → H c = none
  pin : ∀ p ∈ X.pn ++ pins, s.heap.get? p.1 = some p.2 ∧ H p.1 = none ∧ p.1 ≠ X.env.locals ∧ p.1 ∉ X.fs ∧ ∀ v, p.2.data ≠ .cell v
  hok : HOk X.prog X.w H s.heap
  len : σ.length = X.N.length
section
variable {X : Cx} {pins : List (Addr × Obj)} {σ : List (Option V)} {H H' : Hp} {s : Shared} {h' : Heap}
theorem Cx.Ok.nofr (ok : X.Ok) {b : Addr} {o : Obj} (e : X.base.get? b = some o) : b ∉ X.fs := fun hb => by
  have := (ok.funs.mem hb).1
  rw [e] at this; cases this
theorem Inv.bs (I : Inv X pins σ H s) : ∀ b o, X.base.get? b = some o → s.heap.get? b = some o ∧ H b = none := fun b o e =>
  ⟨I.base.keep b o (I.ok.bs b o e).1 (I.ok.bs b o e).2 (I.ok.nofr e) (I.ok.noex b o e), I.base.free b o (I.ok.bs b o e).1 (I.ok.bs b o e).2 (I.ok.noex b o e)⟩
theorem Inv.bk (I : Inv X pins σ H s) : ∀ b o, X.base.get? b = some o → s.heap.get? b = some o := fun b o e => (I.bs b o e).1
theorem Inv.mod (I : Inv X pins σ H s) : Mod X.K X.mg X.base := I.ok.mod
theorem Inv.kIn (I : Inv X pins σ H s) : X.K.In s.heap := I.ok.mod.kin.keeps I.bk
theorem Inv.lt (I : Inv X pins σ H s) : X.env.locals < s.heap.objs.size := let ⟨_, hn, _⟩ := I.loc; hn.lt
theorem Inv.sz (I : Inv X pins σ H s) : X.s₀.heap.objs.size ≤ s.heap.objs.size := Nat.le_trans I.ok.above (Nat.le_of_lt I.lt)
theorem Inv.nofs (I : Inv X pins σ H s) {a : Addr} (h : s.heap.objs.size ≤ a) : a ∉ X.fs := fun hb => by
  obtain ⟨_, o, ho, _⟩ := I.ok.funs.mem hb
  exact absurd (Nat.lt_of_lt_of_le (Heap.lt_size ho) (Nat.le_trans I.sz h)) (Nat.lt_irrefl _)
theorem Inv.cne (I : Inv X pins σ H s) : ∀ x c, X.env.cells.lookup x = some c → c ≠ X.env.locals := fun x c e z => by
  obtain ⟨v, o, ho, hd⟩ := I.cell x c e
  obtain ⟨m, ⟨o', es, ep, ho', hd', _⟩, _⟩ := I.loc
  rw [z, ho'] at ho; cases ho; rw [hd'] at hd; cases hd
theorem Inv.funs (I : Inv X pins σ H s) : s.heap.FunFrames X.base X.outer := by
  have all : ∀ (l : List Env), (∀ b ∈ frs l, b ∈ X.fs) → X.s₀.heap.FunFrames X.base l → s.heap.FunFrames X.base l := by
    intro l
    induction l with
    | nil => intro _ _; trivial
    | cons env r ih =>
      intro hs hl
      obtain ⟨hk, ⟨L, o, hf, hn, ho, hd⟩, hr⟩ := hl
      have hL := hs L (by unfold frs; rw [List.filterMap_cons, hf]; exact List.mem_cons_self)
      obtain ⟨sl, e⟩ := I.base.slot L o ho (I.ok.frf L hL) hL fun z => I.ok.exfs L z hL
      exact ⟨hk, ⟨L, _, hf, hn, e, hd⟩, ih (fun b hb => hs b (by unfold frs; rw [List.filterMap_cons, hf]; exact List.mem_cons_of_mem _ hb)) hr⟩
  exact all X.outer (fun _ hb => hb) I.ok.funs
theorem Inv.stack (I : Inv X pins σ H s) : s.heap.FunFrames X.base X.stack := by
  rcases I.ok.stk with e | ⟨e, hf⟩
  · rw [e]; exact I.funs
  · rw [e]
    obtain ⟨m, hn, _⟩ := I.loc
    refine .cons (by rw [I.ok.kind]; decide) hf hn ?_ I.funs
    exact Heap.get?_none_of_le (Nat.le_trans I.ok.bsz I.ok.above)
theorem Inv.stkSub (I : Inv X pins σ H s) : ∀ b ∈ frs X.stack, b ∈ X.env.locals :: X.fs := fun b hb => by
  rcases I.ok.stk with e | ⟨e, hf⟩
  · rw [e] at hb; exact List.mem_cons_of_mem _ hb
  · rw [e] at hb
    unfold frs at hb
    rw [List.filterMap_cons, hf] at hb
    exact hb
theorem Inv.stkFree (I : Inv X pins σ H s) : ∀ b ∈ frs X.stack, H b = none := fun b hb => by
  rcases List.mem_cons.mp (I.stkSub b hb) with e | hb
  · rw [e]; exact I.free
  · obtain ⟨_, o, ho, _⟩ := I.ok.funs.mem hb
    exact I.base.free b o ho (I.ok.frf b hb) fun z => I.ok.exfs b z hb
theorem Inv.step {g' : Array GenState} {t' : Nat} {d' : Drawn} {ch : List Addr} (I : Inv X pins σ H s)
    (hch : ∀ b ∈ ch, (b ∈ X.ex ∨ X.s₀.heap.objs.size ≤ b) ∧ b ≠ X.env.locals ∧ (∀ x c, X.env.cells.lookup x = some c → c ≠ b) ∧ ∀ p ∈ X.pn ++ pins, p.1 ≠ b)
    (keep : ∀ b o, b ≠ X.env.locals → b ∉ X.fs → b ∉ ch → s.heap.get? b = some o → H b = none → h'.get? b = some o)
    (slot : ∀ b o, b ≠ X.env.locals → b ∈ X.fs → b ∉ ch → s.heap.get? b = some o → H b = none → ∃ sl, h'.get? b = some { o with slots := sl }) (free : ∀ b o, b ∉ ch → s.heap.get? b = some o → H b = none → H' b = none)
    (there : ∀ b o, b ∉ ch → s.heap.get? b = some o → ∃ o', h'.get? b = some o')
    (tups : ∀ b xs, H b = some (.tup xs) → H' b = some (.tup xs)) (frzs : ∀ b o u, H b = some (.frz o u) → H' b = some (.frz o u)) (tbls : ∀ b ps, H b = some (.tbl ps) → ∃ more, H' b = some (.tbl (ps ++ more)))
    (ns : ∀ m, s.heap.Ns X.env.locals m → h'.Ns X.env.locals m) (hok : HOk X.prog X.w H' h') (hg : AllBare g') :
    Inv X pins σ H' { s with heap := h', gens := g', drawn := d', toks := t' } := by
  have neL : ∀ b o, X.s₀.heap.get? b = some o → b ≠ X.env.locals := fun b o e => Nat.ne_of_lt (Nat.lt_of_lt_of_le (Heap.lt_size e) I.ok.above)
  have neC : ∀ b o, X.s₀.heap.get? b = some o → b ∉ X.ex → b ∉ ch := fun b o e hx hb => by
    rcases (hch b hb).1 with z | z
    · exact hx z
    · exact absurd (Nat.lt_of_lt_of_le (Heap.lt_size e) z) (Nat.lt_irrefl _)
  have cellK : ∀ x c, X.env.cells.lookup x = some c → ∀ v, s.heap.IsCell c v → h'.IsCell c v := fun x c e v ⟨o, ho, hd⟩ => by
    have nch : c ∉ ch := fun z => (hch c z).2.2.1 x c e rfl
    by_cases hc : c ∈ X.fs
    · obtain ⟨sl, q⟩ := slot c o (I.cne x c e) hc nch ho (I.freeC x c e)
      exact ⟨_, q, hd⟩
    · exact ⟨o, keep c o (I.cne x c e) hc nch ho (I.freeC x c e), hd⟩
  refine ⟨I.ok, I.os, hg, ⟨fun b o e n hb hx => ?_, fun b o e n hb hx => ?_, fun b o e n hx => ?_, fun b o e hx => ?_, fun b xs e => tups b xs (I.base.tups b xs e), fun b o xs e => frzs b o xs (I.base.frzs b o xs e), fun b ps e => ?_⟩, ?_, fun x c e => ?_, ?_, fun x c e => ?_, fun p hp => ?_, hok, I.len⟩
  · exact keep b o (neL b o e) hb (neC b o e hx) (I.base.keep b o e n hb hx) (I.base.free b o e n hx)
  · obtain ⟨sl, e1⟩ := I.base.slot b o e n hb hx
    obtain ⟨sl', e2⟩ := slot b _ (neL b o e) hb (neC b o e hx) e1 (I.base.free b o e n hx)
    exact ⟨sl', e2⟩
  · obtain ⟨o', e1⟩ := I.base.there b o e hx
    exact free b o' (neC b o e hx) e1 (I.base.free b o e n hx)
  · obtain ⟨o', e1⟩ := I.base.there b o e hx
    exact there b o' (neC b o e hx) e1
  · obtain ⟨m1, e1⟩ := I.base.tbls b ps e
    obtain ⟨m2, e2⟩ := tbls b _ e1
    exact ⟨m1 ++ m2, by rw [e2, Array.append_assoc]⟩
  · obtain ⟨m, hn, hl⟩ := I.loc
    refine ⟨m, ns m hn, fun i x v e1 e2 e3 => ?_⟩
    obtain ⟨u, r, l⟩ := hl i x v e1 e2 e3
    refine ⟨u, r, ?_⟩
    rcases l with l | ⟨k, c, e, z⟩
    · exact .inl l
    · exact .inr ⟨k, c, e, cellK x c e _ z⟩
  · obtain ⟨v, z⟩ := I.cell x c e
    exact ⟨v, cellK x c e v z⟩
  · obtain ⟨m, ⟨o, _, _, ho, _⟩, _⟩ := I.loc
    exact free _ o (fun z => (hch _ z).2.1 rfl) ho I.free
  · obtain ⟨v, o, ho, hd⟩ := I.cell x c e
    exact free c o (fun z => (hch c z).2.2.1 x c e rfl) ho (I.freeC x c e)
  · obtain ⟨e, n, ne, nf, d⟩ := I.pin p hp
    have nch : p.1 ∉ ch := fun z => (hch p.1 z).2.2.2 p hp rfl
    exact ⟨keep p.1 p.2 ne nf nch e n, free p.1 p.2 nch e n, ne, nf, d⟩
theorem Inv.un {t' : Nat} (I : Inv X pins σ H s) (u : Un X.fs [] H H' s.heap h') (hok : HOk X.prog X.w H' h') : Inv X pins σ H' { s with heap := h', toks := t' } := by
  obtain ⟨m, ⟨o, es, ep, ho, r⟩, _⟩ := id I.loc
  obtain ⟨sl, hL⟩ := u.any ho I.free (by simp)
  exact I.step (g' := s.gens) (d' := s.drawn) (ch := []) (fun _ z => nomatch z) (fun b o _ hb _ e n => u.keep b o e n hb (by simp)) (fun b o _ hb _ e n => u.slot b o e n hb (by simp)) (fun b o _ e n => u.free b o e n (by simp)) (fun b o _ e => u.there b o e (by simp)) u.tups u.frzs u.tbls (fun m' hm => by
    obtain ⟨o', es', ep', ho', r'⟩ := hm
    rw [ho] at ho'; cases ho'
    exact ⟨_, es', ep', hL, r'⟩) hok I.bare
theorem Inv.call {g' : Array GenState} {t' : Nat} {d' : Drawn} {ch : List Addr} (I : Inv X pins σ H s) (u : Un (frs X.stack) ch H H' s.heap h') (hok : HOk X.prog X.w H' h') (hg : AllBare g')
    (hch : ∀ b ∈ ch, (b ∈ X.ex ∨ X.s₀.heap.objs.size ≤ b) ∧ b ≠ X.env.locals ∧ (∀ x c, X.env.cells.lookup x = some c → c ≠ b) ∧ ∀ p ∈ X.pn ++ pins, p.1 ≠ b) :
    Inv X pins σ H' { s with heap := h', gens := g', drawn := d', toks := t' } := by
  obtain ⟨m, ⟨o, es, ep, ho, r⟩, _⟩ := id I.loc
  obtain ⟨sl, hL⟩ := u.any ho I.free fun z => (hch _ z).2.1 rfl
  exact I.step (ch := ch) hch (fun b o hL hb hc e n => u.keep b o e n (fun z => (List.mem_cons.mp (I.stkSub b z)).elim hL hb) hc) (fun b o _ _ hc e n => u.any e n hc) (fun b o hc e n => u.free b o e n hc) (fun b o hc e => u.there b o e hc) u.tups u.frzs u.tbls (fun m' hm => by
    obtain ⟨o', es', ep', ho', r'⟩ := hm
    rw [ho] at ho'; cases ho'
    exact ⟨_, es', ep', hL, r'⟩) hok hg
theorem Inv.turned {t' : Nat} {it : Addr} (I : Inv X pins σ H s) (k : ∀ b o, b ≠ it → s.heap.get? b = some o → h'.get? b = some o) (hn : H it = none) (hL : it ≠ X.env.locals)
    (h1 : it ∈ X.ex ∨ X.s₀.heap.objs.size ≤ it) (h2 : ∀ x c, X.env.cells.lookup x = some c → c ≠ it) (h3 : ∀ p ∈ X.pn ++ pins, p.1 ≠ it) : Inv X pins σ H { s with heap := h', toks := t' } := by
  have nit : ∀ b u, H b = some u → b ≠ it := fun b u e z => by rw [z, hn] at e; cases e
  refine I.step (g' := s.gens) (d' := s.drawn) (ch := [it]) (fun b hb => ?_) (fun b o _ _ hc e _ => k b o (fun z => hc (by simp [z])) e) (fun b o _ _ hc e _ => ⟨o.slots, k b o (fun z => hc (by simp [z])) e⟩) (fun _ _ _ _ n => n)
    (fun b o hc e => ⟨o, k b o (fun z => hc (by simp [z])) e⟩) (fun _ _ e => e) (fun _ _ _ e => e) (fun b ps e => ⟨#[], by rw [e]; simp⟩) (fun m hm => ?_) (fun b u e => ?_) I.bare
  · have e : b = it := by simpa using hb
    subst e
    exact ⟨h1, hL, h2, h3⟩
  · obtain ⟨o, es, ep, ho, r⟩ := hm
    exact ⟨o, es, ep, k _ o (Ne.symm hL) ho, r⟩
  · refine (I.hok b u e).stay (fun c v hc q => k c v ?_ q) (fun _ q => q) fun _ _ q => q
    rcases hc with z | z
    · rw [z]; exact nit b u e
    · exact nit c _ z
theorem Inv.tok (I : Inv X pins σ H s) (t : Nat) : Inv X pins σ H { s with toks := t } := I.un (h' := s.heap) (t' := t) Un.refl I.hok
theorem Inv.kept {t' : Nat} (I : Inv X pins σ H s) (k : ∀ b u, s.heap.get? b = some u → h'.get? b = some u) : Inv X pins σ H { s with heap := h', toks := t' } := I.un (Un.kept k) (I.hok.kept k)
theorem Inv.laid {a : Addr} {o : HO} {t' : Nat} (I : Inv X pins σ H s) (k : ∀ b u, s.heap.get? b = some u → h'.get? b = some u) (hp : s.heap.objs.size ≤ a) (new : ObjOk X.prog X.w (upd H a o) h' a o) :
    Inv X pins σ (upd H a o) { s with heap := h', toks := t' } := I.un (Un.laid k hp (I.hok.fresh hp)) (I.hok.laid k hp new)
theorem Inv.write {x e : Addr} {o : HO} {t' : Nat} (I : Inv X pins σ H s) (mu : Mut (H x)) (he : e = x ∨ H e = some (.own x)) (k : ∀ b u, b ≠ e → s.heap.get? b = some u → h'.get? b = some u) (heo : ∃ u, h'.get? e = some u)
    (new : ObjOk X.prog X.w (upd H x o) h' x o) : Inv X pins σ (upd H x o) { s with heap := h', toks := t' } := I.un (Un.write mu he k heo) (I.hok.write mu he k heo new)
theorem Inv.pins_of {pins' : List (Addr × Obj)} (I : Inv X pins σ H s) (h : ∀ p ∈ pins', s.heap.get? p.1 = some p.2 ∧ H p.1 = none ∧ p.1 ≠ X.env.locals ∧ p.1 ∉ X.fs ∧ ∀ v, p.2.data ≠ .cell v) : Inv X pins' σ H s :=
  ⟨I.ok, I.os, I.bare, I.base, I.loc, I.cell, I.free, I.freeC, fun p hp => (List.mem_append.mp hp).elim (fun z => I.pin p (List.mem_append_left _ z)) (h p), I.hok, I.len⟩
theorem nodup_ix {N : List Str} (hN : N.Nodup) {i j : Nat} {x : Str} (a : N[i]? = some x) (b : N[j]? = some x) : i = j := by
  obtain ⟨h1, e1⟩ := List.getElem?_eq_some_iff.mp a
  obtain ⟨h2, e2⟩ := List.getElem?_eq_some_iff.mp b
  exact (List.getElem_inj hN).mp (e1.trans e2.symm)
theorem store_ok2 {M : Model} {A : Around} {E : Value → Shared → Prop} {i : Nat} {x : Str} {v : V} {u : Value} {Q : Unit → Shared → Prop} (I : Inv X pins σ H s) (hN : X.N.Nodup) (hi : X.N[i]? = some x) (hx : Loc X.env.scope x) (r : RelV v u)
    (h : ∀ s', Inv X pins (σ.set i (some v)) H s' → (∃ a, Heap.SameBut a s.heap s'.heap ∧ (a = X.env.locals ∨ X.env.cells.lookup x = some a)) → Q () s') (hf : X.fn x = true ∨ X.env.scope.names.lookup x = some .local := by first | exact .inl rfl | exact .inr rfl | assumption) : wpAny M A (storeName X.env x u) Q E s := by
  obtain ⟨m, hn, hl⟩ := id I.loc
  have hcls : (X.env.scope.kind == .class || (X.env.scope.kind == .module && X.env.locals != X.env.globals)) = false := by rw [I.ok.kind]; rfl
  have hiσ : i < σ.length := by rw [I.len]; exact (List.getElem?_eq_some_iff.mp hi).1
  have cne := I.cne
  have tracked : ∀ {a : Addr} {h' : Heap}, (∃ o, s.heap.get? a = some o ∧ H a = none) → Heap.SameBut a s.heap h' → HOk X.prog X.w H h' := fun {a h'} ha hs b ob e => by
    obtain ⟨_, _, hfree⟩ := ha
    refine (I.hok b ob e).stay (fun c w' hc q => (hs.2 c ?_).trans q) (fun _ q => q) fun _ _ q => q
    rintro rfl
    rcases hc with rfl | hc
    · rw [hfree] at e; cases e
    · rw [hfree] at hc; cases hc
  rcases hx with hk | hk
  · refine wpAny_storeName_local hk hn (fun h' hn' hs => ?_) hcls
    obtain ⟨oL, _, _, hoL, _⟩ := id hn
    refine h _ ⟨I.ok, I.os, I.bare, ⟨fun b o e n hb hx => ?_, fun b o e n hb hx => ?_, I.base.free, fun b o e hx => ?_, I.base.tups, I.base.frzs, I.base.tbls⟩, ⟨_, hn', fun j y v' e1 e2 e3 => ?_⟩, fun y c e => ?_, I.free, I.freeC, fun p hp => ?_, tracked ⟨oL, hoL, I.free⟩ hs, by simpa using I.len⟩ ⟨_, hs, .inl rfl⟩
    · exact (hs.2 b (Nat.ne_of_lt (Nat.lt_of_lt_of_le (Heap.lt_size e) I.ok.above))).trans (I.base.keep b o e n hb hx)
    · obtain ⟨sl, e1⟩ := I.base.slot b o e n hb hx
      exact ⟨sl, (hs.2 b (Nat.ne_of_lt (Nat.lt_of_lt_of_le (Heap.lt_size e) I.ok.above))).trans e1⟩
    · obtain ⟨o', e1⟩ := I.base.there b o e hx
      exact ⟨o', (hs.2 b (Nat.ne_of_lt (Nat.lt_of_lt_of_le (Heap.lt_size e) I.ok.above))).trans e1⟩
    · by_cases hj : j = i
      · subst hj
        rw [hi] at e1; cases e1
        rw [List.getElem?_set_self hiσ] at e2
        cases e2
        exact ⟨u, r, .inl ⟨hk, by simp⟩⟩
      · rw [List.getElem?_set_ne (Ne.symm hj)] at e2
        obtain ⟨u', r', q⟩ := hl j y v' e1 e2 e3
        refine ⟨u', r', ?_⟩
        rcases q with ⟨k, e⟩ | ⟨k, c, e, z⟩
        · refine .inl ⟨k, ?_⟩
          have : y ≠ x := fun e => hj (nodup_ix hN e1 (e ▸ hi))
          simp [this, e]
        · exact .inr ⟨k, c, e, z.sameBut hs (cne y c e)⟩
    · obtain ⟨w', z⟩ := I.cell y c e
      exact ⟨w', z.sameBut hs (cne y c e)⟩
    · obtain ⟨e, n, ne, nf, d⟩ := I.pin p hp
      exact ⟨(hs.2 p.1 ne).trans e, n, ne, nf, d⟩
  · have hfn : X.fn x = true := by
      rcases hf with z | z
      · exact z
      · rw [z] at hk; cases hk
    obtain ⟨c, hc⟩ := I.ok.has x (.inl hk)
    obtain ⟨w', z⟩ := I.cell x c hc
    refine wpAny_storeName_cell I.ok.kind hk hc z (fun h' hc' hs => ?_)
    obtain ⟨oc, hoc, hocd⟩ := id z
    refine h { s with heap := h' } ⟨I.ok, I.os, I.bare, ⟨fun b o e n hb hx => ?_, fun b o e n hb hx => ?_, I.base.free, fun b o e hx => ?_, I.base.tups, I.base.frzs, I.base.tbls⟩, ⟨m, hn.sameBut hs (Ne.symm (cne x c hc)), fun j y v' e1 e2 e3 => ?_⟩, fun y c' e => ?_, I.free, I.freeC, fun p hp => ?_, tracked ⟨oc, hoc, I.freeC x c hc⟩ hs, by simpa using I.len⟩ ⟨c, hs, .inr hc⟩
    · exact (hs.2 b (Nat.ne_of_lt (Nat.lt_of_lt_of_le (Heap.lt_size e) (I.ok.cab x c hfn hc)))).trans (I.base.keep b o e n hb hx)
    · obtain ⟨sl, e1⟩ := I.base.slot b o e n hb hx
      exact ⟨sl, (hs.2 b (Nat.ne_of_lt (Nat.lt_of_lt_of_le (Heap.lt_size e) (I.ok.cab x c hfn hc)))).trans e1⟩
    · obtain ⟨o', e1⟩ := I.base.there b o e hx
      exact ⟨o', (hs.2 b (Nat.ne_of_lt (Nat.lt_of_lt_of_le (Heap.lt_size e) (I.ok.cab x c hfn hc)))).trans e1⟩
    · by_cases hj : j = i
      · subst hj
        rw [hi] at e1; cases e1
        rw [List.getElem?_set_self hiσ] at e2
        cases e2
        exact ⟨u, r, .inr ⟨.inl hk, c, hc, hc'⟩⟩
      · rw [List.getElem?_set_ne (Ne.symm hj)] at e2
        obtain ⟨u', r', q⟩ := hl j y v' e1 e2 e3
        refine ⟨u', r', ?_⟩
        rcases q with q | ⟨k, c', e, z'⟩
        · exact .inl q
        · refine .inr ⟨k, c', e, z'.sameBut hs ?_⟩
          rintro rfl
          exact hj (nodup_ix hN e1 (I.ok.inj _ _ _ e hc ▸ hi))
    · by_cases hcc : c' = c
      · subst hcc; exact ⟨_, hc'⟩
      · obtain ⟨w2, z2⟩ := I.cell y c' e
        exact ⟨w2, z2.sameBut hs hcc⟩
    · obtain ⟨e, n, ne, nf, d⟩ := I.pin p hp
      refine ⟨(hs.2 p.1 ?_).trans e, n, ne, nf, d⟩
      intro q
      rw [q, hoc] at e
      have q' : oc = p.2 := Option.some.inj e
      exact d w' (by rw [← q']; exact hocd)
theorem store_ok {M : Model} {A : Around} {E : Value → Shared → Prop} {i : Nat} {x : Str} {v : V} {u : Value} {Q : Unit → Shared → Prop} (I : Inv X pins σ H s) (hN : X.N.Nodup) (hi : X.N[i]? = some x) (hx : Loc X.env.scope x) (r : RelV v u)
    (h : ∀ s', Inv X pins (σ.set i (some v)) H s' → Q () s') (hf : X.fn x = true ∨ X.env.scope.names.lookup x = some .local := by first | exact .inl rfl | exact .inr rfl | assumption) : wpAny M A (storeName X.env x u) Q E s :=
  store_ok2 I hN hi hx r (fun s' I' _ => h s' I') hf
theorem Inv.call' {s' : Shared} {ch : List Addr} (I : Inv X pins σ H s) (ho : s'.os = s.os) (u : Un (frs X.stack) ch H H' s.heap s'.heap) (hok : HOk X.prog X.w H' s'.heap) (hg : AllBare s'.gens)
    (hch : ∀ b ∈ ch, (b ∈ X.ex ∨ X.s₀.heap.objs.size ≤ b) ∧ b ≠ X.env.locals ∧ (∀ x c, X.env.cells.lookup x = some c → c ≠ b) ∧ ∀ p ∈ X.pn ++ pins, p.1 ≠ b) : Inv X pins σ H' s' := by
  obtain ⟨h', g', d', t', o'⟩ := s'
  have e : o' = s.os := ho
  subst e
  exact I.call (g' := g') (t' := t') (d' := d') u hok hg hch
end
abbrev XK := Value → Option Addr → Hp → Prop
abbrev St := List (Option V)
abbrev VK := V → Hp → Prop
abbrev TE := St → Hp → VK → Prop
abbrev TT := St → Hp → (Bool → Hp → Prop) → Prop
abbrev TA := St → Hp → (List V → Hp → Prop) → Prop
structure Ends where
  nx : St → Hp → Prop
  rt : VK
  bk : St → Hp → Prop := fun _ _ => False
  ct : St → Hp → Prop := fun _ _ => False
abbrev TS := Ends → St → Hp → Prop
def EP (X : Cx) (pins : List (Addr × Obj)) (σ : St) (Q : VK) (u : Value) (s' : Shared) : Prop := ∃ v H', Inv X pins σ H' s' ∧ RelV v u ∧ Q v H'
def TP (X : Cx) (pins : List (Addr × Obj)) (σ : St) (Q : Bool → Hp → Prop) (b : Bool) (s' : Shared) : Prop := ∃ H', Inv X pins σ H' s' ∧ Q b H'
def AP (X : Cx) (pins : List (Addr × Obj)) (σ : St) (Q : List V → Hp → Prop) (us : List Value) (s' : Shared) : Prop := ∃ vs H', Inv X pins σ H' s' ∧ Vals vs us ∧ Q vs H'
def SP (X : Cx) (pins : List (Addr × Obj)) (D : Ends) (f : Flow) (s' : Shared) : Prop :=
  match f with
  | .next => ∃ σ' H', Inv X pins σ' H' s' ∧ D.nx σ' H'
  | .brk => ∃ σ' H', Inv X pins σ' H' s' ∧ D.bk σ' H'
  | .cont => ∃ σ' H', Inv X pins σ' H' s' ∧ D.ct σ' H'
  | .ret u => ∃ v σ' H', Inv X pins σ' H' s' ∧ RelV v u ∧ D.rt v H'
def PE (X : Cx) (e : Expr) (t : TE) : Prop :=
  ∀ (pins : List (Addr × Obj)) (s : Shared) (σ : St) (H : Hp) (Q : VK), Inv X pins σ H s → t σ H Q → wpAny (model X.prog X.w) X.A (eval e X.env) (EP X pins σ Q) X.xe s
def PT (X : Cx) (e : Expr) (t : TT) : Prop :=
  ∀ (pins : List (Addr × Obj)) (s : Shared) (σ : St) (H : Hp) (Q : Bool → Hp → Prop), Inv X pins σ H s → t σ H Q → wpAny (model X.prog X.w) X.A (isTrue e X.env (eval e X.env)) (TP X pins σ Q) X.xe s
def PW (X : Cx) (e : Expr) (t : TT) : Prop :=
  ∀ (whole : Sem Value) (pins : List (Addr × Obj)) (s : Shared) (σ : St) (H : Hp) (Q : Bool → Hp → Prop), Inv X pins σ H s → t σ H Q → wpAny (model X.prog X.w) X.A (isTrue e X.env whole) (TP X pins σ Q) X.xe s
theorem PW.pt {X : Cx} {e : Expr} {t : TT} (h : PW X e t) : PT X e t := h _
def PA (X : Cx) (es : List Expr) (t : TA) : Prop :=
  ∀ (pos : Pos) (pins : List (Addr × Obj)) (s : Shared) (σ : St) (H : Hp) (Q : List V → Hp → Prop), Inv X pins σ H s → t σ H Q → wpAny (model X.prog X.w) X.A (spliced (backTo pos (starEach es X.env))) (AP X pins σ Q) X.xe s
def PS (X : Cx) (st : Stmt) (t : TS) : Prop :=
  ∀ (pins : List (Addr × Obj)) (s : Shared) (σ : St) (H : Hp) (D : Ends), Inv X pins σ H s → t D σ H → wpAny (model X.prog X.w) X.A (exec st X.env) (SP X pins D) X.xe s
def PSs (X : Cx) (st : List Stmt) (t : TS) : Prop :=
  ∀ (pins : List (Addr × Obj)) (s : Shared) (σ : St) (H : Hp) (D : Ends), Inv X pins σ H s → t D σ H → wpAny (model X.prog X.w) X.A (execs st X.env) (SP X pins D) X.xe s
theorem thn {α : Type} {t : Sem α} {Q Q' : α → Shared → Prop} {M : Model} {A : Around} {E : Value → Shared → Prop} {s : Shared} (h : wpAny M A t Q E s) (hQ : ∀ a s, Q a s → Q' a s) : wpAny M A t Q' E s := wpAny_mono h hQ fun _ _ x => x
end L2
namespace L2
open PySem PySem.Spec PyProof.Rows
section
variable {X : Cx}
theorem bin {a b : Expr} {ta tb : TE} (ha : PE X a ta) (hb : PE X b tb) {pins : List (Addr × Obj)} {s : Shared} {σ : St} {H : Hp} {R : V → V → Hp → Prop} (I : Inv X pins σ H s) (h : ta σ H fun x H1 => tb σ H1 fun y H2 => R x y H2)
    {α : Type} {Q : α → Shared → Prop} {f : Value → Value → Sem α}
    (hf : ∀ v u s2 x y H2, Inv X pins σ H2 s2 → RelV x v → RelV y u → R x y H2 → wpAny (model X.prog X.w) X.A (f v u) Q X.xe s2) :
    wpAny (model X.prog X.w) X.A (eval a X.env) (fun v s₁ => wpAny (model X.prog X.w) X.A (eval b X.env) (fun u s₂ => wpAny (model X.prog X.w) X.A (f v u) Q X.xe s₂) X.xe s₁) X.xe s := by
  refine thn (ha pins s σ H _ I h) fun v s1 ⟨x, H1, I1, r1, q1⟩ => ?_
  refine thn (hb pins s1 σ H1 _ I1 q1) fun u s2 ⟨y, H2, I2, r2, q2⟩ => ?_
  exact hf v u s2 x y H2 I2 r1 r2 q2
def tVar (i : Nat) : TE := fun σ H Q => ∃ v, σ[i]? = some (some v) ∧ Q v H
def tC (v : V) : TE := fun _ H Q => Q v H
theorem pe_var {i : Nat} {x : Str} {pos : Pos} (hN : X.N[i]? = some x) (hv : Vis X.env.scope x) (hd : (x == ("__debug__" : Str)) = false := by decide) (hcd : (x == ("__classdict__" : Str)) = false := by decide) : PE X (.Name x pos) (tVar i) := by
  intro pins s σ H Q I h
  obtain ⟨v, e, h⟩ := h
  obtain ⟨m, hn, hl⟩ := I.loc
  obtain ⟨u, r, l⟩ := hl i x v hN e hv
  have fin : EP X pins σ Q u s := ⟨v, H, I, r, h⟩
  rcases l with ⟨hk, hm⟩ | ⟨hk, c, hc, hcell⟩
  · exact wpAny_Name (wpAny_loadName_local I.ok.kind hk hn hm fin) hd
  · rcases hk with hk | hk
    · exact wpAny_Name (wpAny_loadName_cell I.ok.kind hk hc hcell fin) hd
    · exact wpAny_Name (wpAny_loadName_free I.ok.kind hk hc hcell fin hcd) hd
theorem pe_int {i j pos} : PE X (.Constant (.int i) j pos) (tC (.int i)) := fun _ _ _ H _ I h => wpAny_Constant_int ⟨.int i, H, I.tok _, ⟨_, rfl⟩, h⟩
theorem pe_bl {b j pos} : PE X (.Constant (.bool b) j pos) (tC (.bl b)) := fun _ _ _ H _ I h => Constant_bool ⟨.bl b, H, I, rfl, h⟩
theorem pe_non {j pos} : PE X (.Constant .none j pos) (tC .non) := fun _ _ _ H _ I h => Constant_none ⟨.non, H, I, rfl, h⟩
theorem pe_str {x j pos} : PE X (.Constant (.str x) j pos) (tC (.str x)) := fun _ _ _ H _ I h => Calls.Constant_str ⟨.str x, H, I.tok _, ⟨_, rfl⟩, h⟩
def Gl (X : Cx) (x : Str) : Prop := X.env.kindOf x = some .globalImplicit
theorem ld_glob {E : Value → Shared → Prop} {pins : List (Addr × Obj)} {s : Shared} {σ : St} {H : Hp} {x : Str} {u : Value} {pos : Pos} {Q : Value → Shared → Prop} (I : Inv X pins σ H s) (hg : Gl X x) (hm : X.mg x = some u) (h : Q u s)
    (hd : (x == ("__debug__" : Str)) = false := by decide) : wpAny (model X.prog X.w) X.A (eval (.Name x pos) X.env) Q E s :=
  Calls.Name_function_global I.ok.kind hg (Calls.loadGlobal_global (by rw [I.ok.glob]; exact I.mod.glob.keeps I.bk) hm h) hd
theorem ld_blt {E : Value → Shared → Prop} {pins : List (Addr × Obj)} {s : Shared} {σ : St} {H : Hp} {x : Str} {u : Value} {pos : Pos} {Q : Value → Shared → Prop} (I : Inv X pins σ H s) (hg : Gl X x) (hm : X.mg x = none) (hv : bootBuiltins x = some u) (h : Q u s)
    (hn : x ≠ "__name__" := by decide) (hd : (x == ("__debug__" : Str)) = false := by decide) : wpAny (model X.prog X.w) X.A (eval (.Name x pos) X.env) Q E s := by
  obtain ⟨mb, h1, h2⟩ := I.mod.blt
  exact Calls.Name_function_global I.ok.kind hg (Calls.loadGlobal_builtin (by rw [I.ok.glob]; exact I.mod.glob.keeps I.bk) hm (by rw [I.ok.blt]; exact h1.keeps I.bk) ((h2 x hn).trans hv) h) hd
theorem pe_glob {x : Str} {v : V} {u : Value} {pos : Pos} (hg : Gl X x) (hm : X.mg x = some u) (r : RelV v u) (hd : (x == ("__debug__" : Str)) = false := by decide) : PE X (.Name x pos) (tC v) :=
  fun _ _ _ H _ I h => ld_glob I hg hm ⟨v, H, I, r, h⟩ hd
theorem pe_bltn {x : Str} {v : V} {u : Value} {pos : Pos} (hg : Gl X x) (hm : X.mg x = none) (hv : bootBuiltins x = some u) (r : RelV v u) (hn : x ≠ "__name__" := by decide) (hd : (x == ("__debug__" : Str)) = false := by decide) : PE X (.Name x pos) (tC v) :=
  fun _ _ _ H _ I h => ld_blt I hg hm hv ⟨v, H, I, r, h⟩ hn hd
variable {a b : Expr} {ta tb : TE} {pos : Pos}
def PC (X : Cx) (op : CmpOp) (a b : Expr) (t : TE) : Prop :=
  ∀ (pins : List (Addr × Obj)) (s : Shared) (σ : St) (H : Hp) (Q : VK), Inv X pins σ H s → t σ H Q →
    wpAny (model X.prog X.w) X.A (eval a X.env) (fun v s₁ => wpAny (model X.prog X.w) X.A (eval b X.env) (fun u s₂ => wpAny (model X.prog X.w) X.A (compareOp op v u) (EP X pins σ Q) X.xe s₂) X.xe s₁) X.xe s
def tB (t : TE) : TT := fun σ H Q => t σ H fun x H1 => ∃ c, x = .bl c ∧ Q c H1
theorem pt_cmp {op : CmpOp} {t : TE} (h : PC X op a b t) (h1 : behindInMarks op b = false := by first | exact nobehind _ (by decide) (by decide) | rfl) : PT X (.Compare a [op] [b] pos) (tB t) := by
  intro pins s σ H Q I hw
  refine wpAny_isTrue_Compare1 (thn (h pins s σ H _ I hw) fun v s1 h1 => thn h1 fun u s2 h2 => thn h2 fun c s3 ⟨x, H1, I1, r1, q1⟩ => ?_) h1
  obtain ⟨d, rfl, q⟩ := q1
  cases r1
  exact wpAny_truthy_bool ⟨H1, I1, q⟩
variable {tA tB' : TT} {rest : List Expr}
def tAnd (t u : TT) : TT := fun σ H Q => t σ H fun c H1 => if c = true then u σ H1 Q else Q false H1
def tOr (t u : TT) : TT := fun σ H Q => t σ H fun c H1 => if c = true then Q true H1 else u σ H1 Q
def tNot (t : TT) : TT := fun σ H Q => t σ H fun c H1 => Q (!c) H1
theorem pw_and1 (ha : PT X a tA) : PW X (.BoolOp .And [a] pos) tA := by
  intro wh pins s σ H Q I h
  refine isTrue_and (thn (ha pins s σ H Q I h) fun c s1 e => ?_)
  cases c with
  | true => exact isTrue_and_nil e
  | false => exact e
theorem pw_or1 (ha : PT X a tA) : PW X (.BoolOp .Or [a] pos) tA := by
  intro wh pins s σ H Q I h
  refine isTrue_or (thn (ha pins s σ H Q I h) fun c s1 e => ?_)
  cases c with
  | false => exact isTrue_or_nil e
  | true => exact e
theorem pw_and (ha : PT X a tA) (hb : PW X (.BoolOp .And (b :: rest) pos) tB') : PW X (.BoolOp .And (a :: b :: rest) pos) (tAnd tA tB') := by
  intro wh pins s σ H Q I h
  refine isTrue_and (thn (ha pins s σ H _ I h) fun c s1 ⟨H1, I1, q1⟩ => ?_)
  cases c with
  | true => exact hb wh pins s1 σ H1 Q I1 q1
  | false => exact ⟨H1, I1, q1⟩
theorem pw_or (ha : PT X a tA) (hb : PW X (.BoolOp .Or (b :: rest) pos) tB') : PW X (.BoolOp .Or (a :: b :: rest) pos) (tOr tA tB') := by
  intro wh pins s σ H Q I h
  refine isTrue_or (thn (ha pins s σ H _ I h) fun c s1 ⟨H1, I1, q1⟩ => ?_)
  cases c with
  | true => exact ⟨H1, I1, q1⟩
  | false => exact hb wh pins s1 σ H1 Q I1 q1
theorem pt_not (ha : PT X a tA) : PT X (.UnaryOp .Not a pos) (tNot tA) := by
  intro pins s σ H Q I h
  exact isTrue_not (ha pins s σ H (fun c H1 => Q (!c) H1) I h)
def tAndV (ta tb : TE) : TE := fun σ H Q => ta σ H fun x H1 => ∃ c, x = .bl c ∧ if c = true then tb σ H1 Q else Q (.bl false) H1
theorem pe_one {op} {t : TE} (h : PE X a t) : PE X (.BoolOp op [a] pos) t := fun pins s σ H Q I hw => BoolOp_one (h pins s σ H Q I hw)
theorem pe_and (ha : PE X a ta) (hb : PE X (.BoolOp .And (b :: rest) pos) tb) : PE X (.BoolOp .And (a :: b :: rest) pos) (tAndV ta tb) := by
  intro pins s σ H Q I h
  refine BoolOp_and (thn (ha pins s σ H _ I h) fun v s1 ⟨x, H1, I1, r1, q1⟩ => ?_)
  obtain ⟨c, rfl, q1⟩ := q1
  cases r1
  refine wpAny_truthy_bool ?_
  cases c with
  | true => exact hb pins s1 σ H1 Q I1 q1
  | false => exact ⟨.bl false, H1, I1, rfl, q1⟩
def tIf (t : TT) (ta tb : TE) : TE := fun σ H Q => t σ H fun c H1 => if c = true then ta σ H1 Q else tb σ H1 Q
theorem pe_ifExp {c : Expr} (hc : PT X c tA) (ha : PE X a ta) (hb : PE X b tb) : PE X (.IfExp c a b pos) (tIf tA ta tb) := by
  intro pins s σ H Q I h
  refine wpAny_IfExp (thn (hc pins s σ H _ I h) fun d s1 ⟨H1, I1, q1⟩ => ?_)
  cases d with
  | true => exact ha pins s1 σ H1 Q I1 q1
  | false => exact hb pins s1 σ H1 Q I1 q1
end
end L2
namespace L2
open PySem PySem.Spec PyProof.Rows
def SqL (K : PySem.W.Frag) (H : Hp) (a : Addr) (xs : List V) : Prop :=
  Rd H a (.lst xs) ∨
    ∃ (o : Obj) (its : Array Value) (n : Nat), K.lookup a = some o ∧ o.cls = .type "list" ∧ o.dict = none ∧ o.data = .seq its n ∧ its.size ≤ sizeLine ∧ Vals xs its.toList
def SqT (K : PySem.W.Frag) (H : Hp) (a : Addr) (xs : List V) : Prop :=
  Rd H a (.tup xs) ∨
    ∃ (o : Obj) (its : Array Value) (n : Nat), K.lookup a = some o ∧ o.cls = .type "tuple" ∧ o.data = .seq its n ∧ its.size ≤ sizeLine ∧ Vals xs its.toList
def absV : Value → Option V
  | .none => some .non
  | .bool b => some (.bl b)
  | .int i _ => some (.int i)
  | .str x _ => some (.str x)
  | .bytes b _ => some (.byt b)
  | .float b _ => some (.flt b)
  | .ref a => some (.ref a)
  | .type n => some (.ty n)
  | _ => none
theorem RelV.abs {x : V} {u : Value} (r : RelV x u) : absV u = some x := by
  cases x with
  | non => cases r; rfl
  | bl _ => cases r; rfl
  | int _ => obtain ⟨t, rfl⟩ := r; rfl
  | str _ => obtain ⟨t, rfl⟩ := r; rfl
  | byt _ => obtain ⟨t, rfl⟩ := r; rfl
  | flt _ => obtain ⟨t, rfl⟩ := r; rfl
  | ref _ => cases r; rfl
  | ty _ => cases r; rfl
theorem RelV.inj {x y : V} {u : Value} (r : RelV x u) (q : RelV y u) : x = y := Option.some.inj (r.abs.symm.trans q.abs)
theorem Vals.inj : ∀ {xs ys : List V} {us : List Value}, Vals xs us → Vals ys us → xs = ys
  | _, _, _, .nil, .nil => rfl
  | _, _, _, .cons r t, .cons r' t' => by rw [r.inj r', Vals.inj t t']
section
variable {X : Cx} {pins : List (Addr × Obj)} {σ : St} {H : Hp} {s : Shared} {a : Addr} {xs ys : List V}
theorem SqL.of {K : PySem.W.Frag} (h : H a = some (.lst xs)) : SqL K H a xs := .inl (.inl h)
theorem SqT.of {K : PySem.W.Frag} (h : H a = some (.tup xs)) : SqT K H a xs := .inl (.inl h)
theorem Inv.list (I : Inv X pins σ H s) (h : SqL X.K H a xs) : ∃ its : List Value, Vals xs its ∧ PlainL s.heap a its.toArray ∧ xs.length ≤ sizeLine := by
  rcases h with h | ⟨o, its, n, hk, hc, hd, hs, hz, r⟩
  · obtain ⟨z, its, n, r, e⟩ := h.ok I.hok
    exact ⟨its, r, ⟨_, n, e, rfl, rfl, rfl⟩, z⟩
  · refine ⟨its.toList, r, ⟨o, n, I.kIn a o hk, hc, hd, by simpa using hs⟩, ?_⟩
    have e := r.length
    simp only [Array.length_toList] at e
    omega
theorem Inv.tuple (I : Inv X pins σ H s) (h : SqT X.K H a xs) : ∃ its : List Value, Vals xs its ∧ IsTup s.heap a its.toArray ∧ xs.length ≤ sizeLine := by
  rcases h with h | ⟨o, its, n, hk, hc, hs, hz, r⟩
  · obtain ⟨z, its, r, p⟩ := h.ok I.hok
    exact ⟨its, r, p, z⟩
  · refine ⟨its.toList, r, ⟨o, I.kIn a o hk, hc, n, by simpa using hs⟩, ?_⟩
    have e := r.length
    simp only [Array.length_toList] at e
    omega
theorem Inv.list_inj (I : Inv X pins σ H s) (h : SqL X.K H a xs) (h' : SqL X.K H a ys) : xs = ys := by
  obtain ⟨its, r, ⟨o, n, e, _, _, d⟩, _⟩ := I.list h
  obtain ⟨its', r', ⟨o', n', e', _, _, d'⟩, _⟩ := I.list h'
  rw [e] at e'; cases e'
  rw [d] at d'
  injection d' with d1 _
  have : its = its' := by simpa using congrArg Array.toList d1
  subst this
  exact r.inj r'
theorem Inv.tuple_inj (I : Inv X pins σ H s) (h : SqT X.K H a xs) (h' : SqT X.K H a ys) : xs = ys := by
  obtain ⟨its, r, ⟨o, e, _, n, d⟩, _⟩ := I.tuple h
  obtain ⟨its', r', ⟨o', e', _, n', d'⟩, _⟩ := I.tuple h'
  rw [e] at e'; cases e'
  rw [d] at d'
  injection d' with d1 _
  have : its = its' := by simpa using congrArg Array.toList d1
  subst this
  exact r.inj r'
end
abbrev Cx.wish (X : Cx) (E : Value → Shared → Prop) : Cx := { X with xe := E }
abbrev Cx.nox (X : Cx) : Cx := X.wish fun _ _ => False
theorem Cx.Ok.wish {X : Cx} (ok : X.Ok) (E : Value → Shared → Prop) : (X.wish E).Ok :=
  ⟨ok.mod, ok.kind, ok.glob, ok.blt, ok.above, ok.inj, ok.has, ok.cab, ok.hd, ok.frames, ok.stk, ok.exf, ok.bs, ok.bsz, ok.noex, ok.exfs, ok.funs, ok.frf⟩
theorem Cx.Ok.unwish {X : Cx} {E : Value → Shared → Prop} (ok : (X.wish E).Ok) : X.Ok :=
  ⟨ok.mod, ok.kind, ok.glob, ok.blt, ok.above, ok.inj, ok.has, ok.cab, ok.hd, ok.frames, ok.stk, ok.exf, ok.bs, ok.bsz, ok.noex, ok.exfs, ok.funs, ok.frf⟩
section
variable {X : Cx} {pins : List (Addr × Obj)} {σ : St} {H : Hp} {s : Shared} {E : Value → Shared → Prop}
theorem Inv.wish (I : Inv X pins σ H s) (E : Value → Shared → Prop) : Inv (X.wish E) pins σ H s := ⟨I.ok.wish E, I.os, I.bare, I.base, I.loc, I.cell, I.free, I.freeC, I.pin, I.hok, I.len⟩
theorem Inv.unwish (I : Inv (X.wish E) pins σ H s) : Inv X pins σ H s := ⟨I.ok.unwish, I.os, I.bare, I.base, I.loc, I.cell, I.free, I.freeC, I.pin, I.hok, I.len⟩
theorem SP.unwish {D : Ends} {f : Flow} {s' : Shared} (h : SP (X.wish E) pins D f s') : SP X pins D f s' := by
  cases f with
  | next => obtain ⟨σ', H', I, q⟩ := h; exact ⟨σ', H', I.unwish, q⟩
  | brk => obtain ⟨σ', H', I, q⟩ := h; exact ⟨σ', H', I.unwish, q⟩
  | cont => obtain ⟨σ', H', I, q⟩ := h; exact ⟨σ', H', I.unwish, q⟩
  | ret u => obtain ⟨v, σ', H', I, r, q⟩ := h; exact ⟨v, σ', H', I.unwish, r, q⟩
theorem PSs.nox {st : List Stmt} {t : TS} (h : PSs X.nox st t) : PSs X st t := fun pins s σ H D I hw =>
  wpAny_mono (h pins s σ H D (I.wish _) hw) (fun _ _ q => q.unwish) fun _ _ z => False.elim z
end
section
variable {X : Cx} {st : Stmt} {rest : List Stmt} {t u : TS} {e : Expr} {te : TE} {pos : Pos}
def tNext : TS := fun D σ H => D.nx σ H
def tSeq (t u : TS) : TS := fun D σ H => t { D with nx := u D } σ H
theorem pss_nil : PSs X [] tNext := fun _ _ σ H _ I h => wpAny_execs_nil ⟨σ, H, I, h⟩
theorem pss_cons (h1 : PS X st t) (h2 : PSs X rest u) : PSs X (st :: rest) (tSeq t u) := by
  intro pins s σ H D I h
  refine wpAny_execs_cons (thn (h1 pins s σ H { D with nx := u D } I h) fun f s1 q => ?_)
  cases f with
  | next =>
    obtain ⟨σ', H', I', q⟩ := q
    exact h2 pins s1 σ' H' D I' q
  | ret v => exact q
  | brk => exact q
  | cont => exact q
theorem pss_one (h1 : PS X st t) : PSs X [st] t := by
  intro pins s σ H D I h
  refine wpAny_execs_cons (thn (h1 pins s σ H D I h) fun f s1 q => ?_)
  cases f with
  | next => exact wpAny_execs_nil q
  | ret v => exact q
  | brk => exact q
  | cont => exact q
def tCont : TS := fun D σ H => D.ct σ H
theorem ps_continue : PS X (.Continue pos) tCont := fun _ _ σ H _ I h => wpAny_Continue ⟨σ, H, I, h⟩
theorem Inv.quiet {pins : List (Addr × Obj)} {σ : St} {H : Hp} {s : Shared} (I : Inv X pins σ H s) : interactive X.env = false := by simp [interactive, I.ok.kind]
def tDrop (te : TE) : TS := fun D σ H => te σ H fun _ H1 => D.nx σ H1
theorem ps_expr (he : PE X e te) (hs : swapsWith e none pos.line X.env = pure false := by rfl) : PS X (.Expr e pos) (tDrop te) := by
  intro pins s σ H D I h
  exact wpAny_Expr_any (thn (he pins s σ H _ I h) fun v s1 ⟨x, H1, I1, r1, q1⟩ => ⟨σ, H1, I1, q1⟩) I.quiet hs
def tRet (te : TE) : TS := fun D σ H => te σ H D.rt
theorem ps_ret (he : PE X e te) : PS X (.Return (some e) pos) (tRet te) := by
  intro pins s σ H D I h
  exact wpAny_Return_some (thn (he pins s σ H _ I h) fun v s1 ⟨x, H1, I1, r1, q1⟩ => ⟨x, σ, H1, I1, r1, q1⟩)
def tIfS (c : TT) (t u : TS) : TS := fun D σ H => c σ H fun b H1 => if b = true then t D σ H1 else u D σ H1
theorem ps_if {c : Expr} {a b : List Stmt} {tc : TT} (hc : PT X c tc) (ha : PSs X a t) (hb : PSs X b u) : PS X (.If c a b pos) (tIfS tc t u) := by
  intro pins s σ H D I h
  refine wpAny_If (thn (hc pins s σ H _ I h) fun d s1 ⟨H1, I1, q1⟩ => ?_)
  cases d with
  | true => exact ha pins s1 σ H1 D I1 q1
  | false => exact hb pins s1 σ H1 D I1 q1
def tNever : TS := fun _ _ _ => False
end
abbrev TG := V → St → Hp → (St → Hp → Prop) → Prop
def PG (X : Cx) (target : Expr) (t : TG) : Prop :=
  ∀ (pins : List (Addr × Obj)) (s : Shared) (σ : St) (H : Hp) (v : V) (u : Value) (Q : St → Hp → Prop), Inv X pins σ H s → RelV v u → t v σ H Q →
    wpAny (model X.prog X.w) X.A (assign target X.env u) (fun _ s' => ∃ σ' H', Inv X pins σ' H' s' ∧ Q σ' H') X.xe s
abbrev TSet := V → V → V → Hp → (Hp → Prop) → Prop
def PSet (X : Cx) (t : TSet) : Prop :=
  ∀ (pins : List (Addr × Obj)) (s : Shared) (σ : St) (H : Hp) (o i v : V) (ov iv u : Value) (Q : Hp → Prop), Inv X pins σ H s → RelV o ov → RelV i iv → RelV v u → t o i v H Q →
    wpAny (model X.prog X.w) X.A (setItem ov iv u) (fun _ s' => ∃ H', Inv X pins σ H' s' ∧ Q H') X.xe s
section
variable {X : Cx} {pos : Pos}
def gName (i : Nat) : TG := fun v σ H Q => Q (σ.set i (some v)) H
theorem pg_name {i : Nat} {x : Str} (hN : X.N.Nodup) (hi : X.N[i]? = some x) (hx : Loc X.env.scope x) (hf : X.fn x = true ∨ X.env.scope.names.lookup x = some .local := by first | exact .inl rfl | exact .inr rfl | assumption) : PG X (.Name x pos) (gName i) := by
  intro pins s σ H v u Q I r h
  exact wpAny_assign_Name (store_ok I hN hi hx r (fun s' I' => ⟨_, H, I', h⟩) hf)
def gSub (to ti : TE) (t : TSet) : TG := fun v σ H Q => to σ H fun o H1 => ti σ H1 fun i H2 => t o i v H2 fun H3 => Q σ H3
theorem pg_sub {o i : Expr} {to ti : TE} {t : TSet} (ho : PE X o to) (hi : PE X i ti) (hs : PSet X t)
    (ha : ∀ v, assign (.Subscript o i pos) X.env v = (do
      let ov ← holding [v] (eval o X.env)
      let iv ← holding [v, ov] (eval i X.env)
      standAt pos
      holding [v, ov, iv] (setItem ov iv v)
      release [v, ov, iv] []) := by intro _; rfl) : PG X (.Subscript o i pos) (gSub to ti t) := by
  intro pins s σ H v u Q I r h
  refine wpAny_bind (wpAny_holding (thn (ho pins s σ H _ I h) fun ov s1 ⟨x, H1, I1, r1, q1⟩ => ?_))
  refine wpAny_bind (wpAny_holding (thn (hi pins s1 σ H1 _ I1 q1) fun iv s2 ⟨y, H2, I2, r2, q2⟩ => ?_))
  refine wpAny_bind (wpAny_standAt (wpAny_bind (wpAny_holding (thn (hs pins s2 σ H2 x y v ov iv u _ I2 r1 r2 r q2) fun _ s3 ⟨H3, I3, q3⟩ => ?_))))
  exact wpAny_release ⟨σ, H3, I3, q3⟩
def tAsg (te : TE) (g : TG) : TS := fun D σ H => te σ H fun x H1 => g x σ H1 D.nx
theorem ps_asg {tg e : Expr} {te : TE} {g : TG} (he : PE X e te) (hg : PG X tg g) (hs : swapsWithSole [tg] e pos.line X.env = pure false := by rfl) (hw : swappedStores [tg] e X.env = pure none := by rfl)
    (h1 : (assignEach [tg] X.env).map (·.2) = [assign tg X.env] := by rfl) : PS X (.Assign [tg] e pos) (tAsg te g) := by
  intro pins s σ H D I h
  refine wpAny_Assign_stores (thn (he pins s σ H _ I h) fun v s1 ⟨x, H1, I1, r1, q1⟩ => ?_) hs hw
  rw [h1]
  exact thn (hg pins s1 σ H1 x v _ I1 r1 q1) fun _ s2 q => q
theorem ps_set {i : Nat} {x : Str} {e : Expr} {te : TE} {pos' : Pos} (hN : X.N.Nodup) (hi : X.N[i]? = some x) (hx : Loc X.env.scope x) (he : PE X e te) (hs : swapsWith e (some (.Name x pos')) pos.line X.env = pure false := by rfl) (hf : X.fn x = true ∨ X.env.scope.names.lookup x = some .local := by first | exact .inl rfl | exact .inr rfl | assumption) :
    PS X (.Assign [.Name x pos'] e pos) (tAsg te (gName i)) := by
  intro pins s σ H D I h
  refine wpAny_Assign_Name (thn (he pins s σ H _ I h) fun v s1 ⟨y, H1, I1, r1, q1⟩ => ?_) hs
  exact store_ok I1 hN hi hx r1 (fun s2 I2 => ⟨_, H1, I2, q1⟩) hf
def tPar (i j : Nat) (ta : TA) : TS := fun D σ H => ta σ H fun vs H1 => ∃ v w, vs = [v, w] ∧ D.nx ((σ.set i (some v)).set j (some w)) H1
theorem ps_par {i j : Nat} {x y : Str} {a b : Expr} {ta : TA} {px py pt : Pos} {kt k2 pt2} (hc : X.calm = true) (hN : X.N.Nodup) (hi : X.N[i]? = some x) (hj : X.N[j]? = some y) (hij : i ≠ j)
    (hx : X.env.scope.names.lookup x = some .local) (hy : X.env.scope.names.lookup y = some .local) (ha : PA X [a, b] ta)
    (hw : swappedStores [.Tuple [.Name x px, .Name y py] kt pt] (.Tuple [a, b] k2 pt2) X.env = pure (some [x, y]))
    (hs : swapsWithSole [.Tuple [.Name x px, .Name y py] kt pt] (.Tuple [a, b] k2 pt2) pos.line X.env = pure false := by rfl) :
    PS X (.Assign [.Tuple [.Name x px, .Name y py] kt pt] (.Tuple [a, b] k2 pt2) pos) (tPar i j ta) := by
  intro pins s σ H D I h
  refine wpAny_bind (wpAny_standAt ?_)
  refine wpAny_bind (wpAny_pure ?_)
  rw [if_neg (by decide)]
  refine wpAny_bind (Tuple_ (thn (ha _ pins s σ H _ I h) fun us s1 ⟨vs, H1, I1, r1, q1⟩ => ?_))
  obtain ⟨v, w, e1, q1⟩ := q1
  subst e1
  obtain ⟨u1, u2, rfl, rv, rw'⟩ : ∃ u1 u2, us = [u1, u2] ∧ RelV v u1 ∧ RelV w u2 := by
    cases r1 with
    | cons p q =>
      cases q with
      | cons p' q' =>
        cases q'
        exact ⟨_, _, rfl, p, p'⟩
  refine wpAny_newObj_type ?_ (by show 2 ≤ sizeLine; decide)
  have I2 : Inv X pins σ H1 { s1 with heap := s1.heap.push { cls := .type "tuple", data := .seq [u1, u2].toArray } } := I1.kept (t' := s1.toks) fun b o e => Heap.get?_push_of_some _ e
  rw [hw]
  refine wpAny_bind (wpAny_pure ?_)
  refine wpAny_bind (wpAny_rule (wpAny_bind (unpackItems_tuple (items := #[u1, u2]) (I.ok.hd hc) (IsTup.new s1.heap _) fun h' hx' => ?_)))
  have I3 := I2.kept (h' := h') (t' := s1.toks) fun b o e => hx' b o (Nat.ne_of_lt (Heap.lt_size e)) e
  show wpAny _ _ (assignInOrder [fun v => bindName X.env y v, fun v => bindName X.env x v] [u2, u1] >>= fun _ => pure Flow.next) _ _ _
  refine wpAny_bind (assignInOrder_cons (wpAny_bindName (store_ok I3 hN hj (.inl hy) rw' (fun s2 I4 => ?_) (.inr hy))))
  refine assignInOrder_cons (wpAny_bindName (store_ok I4 hN hi (.inl hx) rv (fun s3 I5 => assignInOrder_nil (wpAny_pure ?_)) (.inr hx)))
  rw [List.set_comm _ _ (Ne.symm hij)] at I5
  exact ⟨_, H1, I5, q1⟩
end
section
variable {X : Cx} {pos : Pos}
def tWhile (c : TT) (tb : TS) : TS := fun D σ H => ∃ W : Nat → St → Hp → Prop, (∃ m, W m σ H) ∧ ∀ m σ H, W m σ H →
  c σ H fun b H1 => if b = true then ∃ N : St → Hp → Prop, (∀ σ' H', N σ' H' → ∃ m', m' < m ∧ W m' σ' H') ∧ tb { D with nx := N, ct := N, bk := D.nx } σ H1 else D.nx σ H1
theorem ps_while {c : Expr} {body : List Stmt} {tc : TT} {tb : TS} (hp : PassesOwn (model X.prog X.w) X.A X.env X.xe) (hc : PT X c tc) (hb : PSs X body tb) : PS X (.While c body [] pos) (tWhile tc tb) := by
  intro pins s σ H D I h
  obtain ⟨W, ⟨m0, w0⟩, turn⟩ := h
  refine wpAny_While (codeAny_whileLoop (fun n s' => ∃ σ' H', Inv X pins σ' H' s' ∧ W n σ' H') ?_ m0 ⟨σ, H, I, w0⟩)
  rintro n s1 ⟨σ1, H1, I1, w1⟩
  refine wpAny_passesOwn hp (thn (hc pins s1 σ1 H1 _ I1 (turn n σ1 H1 w1)) fun b s2 ⟨H2, I2, q2⟩ => ?_)
  cases b with
  | true =>
    obtain ⟨N, hN, q2⟩ := q2
    refine wpAny_passesOwn hp (thn (hb pins s2 σ1 H2 _ I2 q2) fun f s3 q3 => ?_)
    cases f with
    | next =>
      obtain ⟨σ3, H3, I3, n3⟩ := q3
      obtain ⟨m', hm, w3⟩ := hN σ3 H3 n3
      exact ⟨m', hm, σ3, H3, I3, w3⟩
    | cont =>
      obtain ⟨σ3, H3, I3, n3⟩ := q3
      obtain ⟨m', hm, w3⟩ := hN σ3 H3 n3
      exact ⟨m', hm, σ3, H3, I3, w3⟩
    | brk => exact q3
    | ret v => exact q3
  | false =>
    exact wpAny_execs_nil ⟨σ1, H2, I2, q2⟩
end
structure It where
  go : Nat → Hp → Prop
  yld : Nat → Hp → V → Hp → Prop
  stop : Nat → Hp → Prop
def FpOk (X : Cx) (pins : List (Addr × Obj)) (H : Hp) (b : Addr) : Prop :=
  H b = none ∧ b ≠ X.env.locals ∧ b ∉ X.fs ∧ (b ∈ X.ex ∨ X.s₀.heap.objs.size ≤ b) ∧ (∀ x c, X.env.cells.lookup x = some c → c ≠ b) ∧ ∀ p ∈ X.pn ++ pins, p.1 ≠ b
theorem Inv.fpOk {X : Cx} {pins : List (Addr × Obj)} {σ : St} {H H' : Hp} {s : Shared} {b : Addr} (I : Inv X pins σ H s) (hb : s.heap.objs.size ≤ b) (hn : H' b = none) : FpOk X pins H' b := by
  refine ⟨hn, Nat.ne_of_gt (Nat.lt_of_lt_of_le I.lt hb), I.nofs hb, .inr (Nat.le_trans I.sz hb), fun x c e z => ?_, fun p hp z => ?_⟩
  · obtain ⟨v, q⟩ := I.cell x c e
    exact absurd (Nat.lt_of_lt_of_le q.lt (by rw [z]; exact hb)) (Nat.lt_irrefl _)
  · exact absurd (Nat.lt_of_lt_of_le (Heap.lt_size (I.pin p hp).1) (by rw [z]; exact hb)) (Nat.lt_irrefl _)
structure Turn (P : Program) (w : World) (K : PySem.W.Frag) (tg : Expr) (J : It) (fp : List Addr) (it : Addr) (tn : Nat → Heap → Prop) : Prop where
  mem : it ∈ fp
  obj : ∀ i h, tn i h → ∀ b ∈ fp, ∃ o, h.get? b = some o ∧ ∀ v, o.data ≠ .cell v
  keep : ∀ i h h', tn i h → (∀ b ∈ fp, ∀ o, h.get? b = some o → h'.get? b = some o) → tn i h'
  item : ∀ (X : Cx), X.prog = P → X.w = w → X.K = K → X.calm = true → ∀ (i : Nat) (pins : List (Addr × Obj)) (s : Shared) (σ : St) (H : Hp) (E : Value → Shared → Prop), Inv X pins σ H s → (∀ b ∈ fp, FpOk X pins H b) → tn i s.heap → J.go i H →
    wpAny (model P w) X.A (pyNext (.ref it)) (fun r s1 => ∃ u, r = some u ∧
      wpAny (model P w) X.A (letOwnedTupleGo tg (.ref it) u) (fun _ s2 => ∃ x H', Inv X pins σ H' s2 ∧ RelV x u ∧ J.yld i H x H' ∧ tn (i + 1) s2.heap ∧ ∀ b ∈ fp, H' b = none) E s1) E s
  done : ∀ (X : Cx), X.prog = P → X.w = w → X.K = K → X.calm = true → ∀ (i : Nat) (pins : List (Addr × Obj)) (s : Shared) (σ : St) (H : Hp) (E : Value → Shared → Prop), Inv X pins σ H s → (∀ b ∈ fp, FpOk X pins H b) → tn i s.heap → J.stop i H →
    wpAny (model P w) X.A (pyNext (.ref it)) (fun r s1 => r = none ∧ Inv X pins σ H s1) E s
  self : ∀ (A : Around) (i : Nat) (s : Shared) (Q : Value → Shared → Prop) (E : Value → Shared → Prop), tn i s.heap → Q (.ref it) s → wpAny (model P w) A (pyIter (.ref it)) Q E s
abbrev TI := St → Hp → (It → Hp → Prop) → Prop
def PIE (X : Cx) (pins : List (Addr × Obj)) (σ : St) (tg : Expr) (R : It → Hp → Prop) (itv : Value) (s2 : Shared) : Prop :=
  ∃ (it : Addr) (fp : List Addr) (tn : Nat → Heap → Prop) (J : It) (H' : Hp), itv = .ref it ∧ Inv X pins σ H' s2 ∧ Turn X.prog X.w X.K tg J fp it tn ∧ tn 0 s2.heap ∧ (∀ b ∈ fp, FpOk X pins H' b) ∧ R J H'
def PI (X : Cx) (tg iter : Expr) (wi : TI) : Prop :=
  ∀ (pins : List (Addr × Obj)) (s : Shared) (σ : St) (H : Hp) (R : It → Hp → Prop), Inv X pins σ H s → wi σ H R →
    wpAny (model X.prog X.w) X.A (eval iter X.env) (fun v s1 => wpAny (model X.prog X.w) X.A (pyIter v) (PIE X pins σ tg R) X.xe s1) X.xe s
theorem go_of {M : Model} {A : Around} {E : Value → Shared → Prop} {s : Shared} {tg : Expr} {it : Addr} {u : Value} {o : Obj} {n : String} {vs : Array Value} {Q : Unit → Shared → Prop} (ho : s.heap.get? it = some o) (hc : o.cls = .type n) (hd : o.data = .fields vs)
    (hn : ["enumerate", "zip", "dict_itemiterator", "dict_reverseitemiterator", "odict_iterator", "itertools.zip_longest", "itertools.pairwise"].contains n = false) (hQ : Q () s) : wpAny M A (letOwnedTupleGo tg (.ref it) u) Q E s := by
  unfold letOwnedTupleGo
  cases tg <;> first
    | exact wpAny_pure hQ
    | (cases u <;> first
        | exact wpAny_pure hQ
        | (refine wpAny_bind (wpAny_load ho ?_)
           rw [hc, hd]
           show wpAny M A (if (["enumerate", "zip", "dict_itemiterator", "dict_reverseitemiterator", "odict_iterator", "itertools.zip_longest", "itertools.pairwise"].contains n && vs[0]? == some (rawInt _)) = true then _ else _) Q E s
           rw [if_neg (by intro h; rw [hn, Bool.false_and] at h; cases h)]
           exact wpAny_pure hQ))
def Itl (K : PySem.W.Frag) (a : Addr) : It :=
  ⟨fun i H => ∃ xs x, SqL K H a xs ∧ xs[i]? = some x, fun i H x H' => H' = H ∧ ∀ xs, SqL K H a xs → xs[i]? = some x, fun i H => ∃ xs, SqL K H a xs ∧ xs.length ≤ i⟩
def Itt (K : PySem.W.Frag) (a : Addr) : It :=
  ⟨fun i H => ∃ xs x, SqT K H a xs ∧ xs[i]? = some x, fun i H x H' => H' = H ∧ ∀ xs, SqT K H a xs → xs[i]? = some x, fun i H => ∃ xs, SqT K H a xs ∧ xs.length ≤ i⟩
def Itr (lo : Int) (n : Nat) : It := ⟨fun i _ => i < n, fun i H x H' => H' = H ∧ x = .int (lo + i), fun i _ => n ≤ i⟩
theorem turn_list {P : Program} {w : World} {K : PySem.W.Frag} {tg : Expr} (a it : Addr) : Turn P w K tg (Itl K a) [it] it (fun i h => h.IsListIter it a i) where
  mem := by simp
  obj := fun i h st b hb => by
    have e : b = it := by simpa using hb
    subst e
    obtain ⟨o, e, c, d⟩ := st
    exact ⟨o, e, fun v z => by rw [d] at z; cases z⟩
  keep := fun i h h' st k => st.at fun o e => k it (by simp) o e
  item := by
    intro X hP hw hK hc i pins s σ H E I hf st hg
    subst hP hw hK
    obtain ⟨xs, x, hq, hx⟩ := hg
    obtain ⟨its, rv, p, hz⟩ := I.list hq
    obtain ⟨u, hu, ru⟩ := rv.get hx
    obtain ⟨f0, f1, f2, f3, f4, f5⟩ := hf it (by simp)
    refine wpAny_pyNext_list_item st p.isList (x := u) (by simpa using hu) fun h' st' sb => ?_
    have I1 : Inv X pins σ H { s with heap := h' } := I.turned (t' := s.toks) (fun b o hb e => (sb.2 b hb).trans e) f0 f1 f3 f4 f5
    obtain ⟨o, e, c, d⟩ := id st'
    exact ⟨u, rfl, go_of (s := { s with heap := h' }) e c d (by decide) ⟨x, H, I1, ru, ⟨rfl, fun ys hy => by rw [I.list_inj hy hq]; exact hx⟩, st', fun b hb => (hf b hb).1⟩⟩
  done := by
    intro X hP hw hK hc i pins s σ H E I hf st hg
    subst hP hw hK
    obtain ⟨xs, hq, hx⟩ := hg
    obtain ⟨its, rv, p, hz⟩ := I.list hq
    obtain ⟨f0, f1, f2, f3, f4, f5⟩ := hf it (by simp)
    have hl := rv.length
    exact wpAny_pyNext_list_end (I.ok.hd hc) st p.isList (by simp; omega) fun h' eb => ⟨rfl, I.turned (t' := s.toks) (fun b o hb e => eb b o hb e) f0 f1 f3 f4 f5⟩
  self := fun _ _ _ _ _ st h => wpAny_pyIter_listiter st h
theorem turn_tuple {P : Program} {w : World} {K : PySem.W.Frag} {tg : Expr} (a it : Addr) : Turn P w K tg (Itt K a) [it] it (fun i h => h.IsTupleIter it a i) where
  mem := by simp
  obj := fun i h st b hb => by
    have e : b = it := by simpa using hb
    subst e
    obtain ⟨o, e, c, d⟩ := st
    exact ⟨o, e, fun v z => by rw [d] at z; cases z⟩
  keep := fun i h h' st k => st.at fun o e => k it (by simp) o e
  item := by
    intro X hP hw hK hc i pins s σ H E I hf st hg
    subst hP hw hK
    obtain ⟨xs, x, hq, hx⟩ := hg
    obtain ⟨its, rv, p, hz⟩ := I.tuple hq
    obtain ⟨u, hu, ru⟩ := rv.get hx
    obtain ⟨f0, f1, f2, f3, f4, f5⟩ := hf it (by simp)
    refine wpAny_pyNext_tuple_item st (show s.heap.IsTuple a its.toArray from p) (x := u) (by simpa using hu) fun h' st' sb => ?_
    have I1 : Inv X pins σ H { s with heap := h' } := I.turned (t' := s.toks) (fun b o hb e => (sb.2 b hb).trans e) f0 f1 f3 f4 f5
    obtain ⟨o, e, c, d⟩ := id st'
    exact ⟨u, rfl, go_of (s := { s with heap := h' }) e c d (by decide) ⟨x, H, I1, ru, ⟨rfl, fun ys hy => by rw [I.tuple_inj hy hq]; exact hx⟩, st', fun b hb => (hf b hb).1⟩⟩
  done := by
    intro X hP hw hK hc i pins s σ H E I hf st hg
    subst hP hw hK
    obtain ⟨xs, hq, hx⟩ := hg
    obtain ⟨its, rv, p, hz⟩ := I.tuple hq
    obtain ⟨f0, f1, f2, f3, f4, f5⟩ := hf it (by simp)
    have hl := rv.length
    exact wpAny_pyNext_tuple_end (I.ok.hd hc) st (show s.heap.IsTuple a its.toArray from p) (by simp; omega) fun h' eb => ⟨rfl, I.turned (t' := s.toks) (fun b o hb e => eb b o hb e) f0 f1 f3 f4 f5⟩
  self := fun _ _ _ _ _ st h => wpAny_pyIter_tupleiter st h
theorem turn_range {P : Program} {w : World} {K : PySem.W.Frag} {tg : Expr} (it : Addr) (lo : Int) (n : Nat) : Turn P w K tg (Itr lo n) [it] it (fun i h => IsRangeIter h it (lo + (i : Nat) * 1) ((n : Int) - (i : Nat)) 1) where
  mem := by simp
  obj := fun i h st b hb => by
    have e : b = it := by simpa using hb
    subst e
    exact ⟨_, st, fun v z => by
      have z' := z
      cases z'⟩
  keep := fun i h h' st k => k it (by simp) _ st
  item := by
    intro X hP hw hK hc i pins s σ H E I hf st hg
    subst hP hw hK
    obtain ⟨f0, f1, f2, f3, f4, f5⟩ := hf it (by simp)
    have W := Walks.range (prog := X.prog) (w := X.w) (I.ok.hd hc) it lo 1 n
    refine W.item i s _ _ hg st fun v h' tk hv st' kk => ?_
    obtain ⟨t, rfl⟩ := hv
    have I1 : Inv X pins σ H { s with heap := h', toks := tk } := I.turned (fun b o hb e => kk b o (by simpa using hb) e) f0 f1 f3 f4 f5
    refine ⟨_, rfl, go_of (s := { s with heap := h', toks := tk }) (n := "range_iterator") st' rfl rfl (by decide) ⟨.int (lo + i), H, I1, ⟨t, ?_⟩, ⟨rfl, rfl⟩, st', fun b hb => (hf b hb).1⟩⟩
    rw [Int.mul_one]
  done := by
    intro X hP hw hK hc i pins s σ H E I hf st hg
    obtain ⟨f0, f1, f2, f3, f4, f5⟩ := hf it (by simp)
    exact wpAny_pyNext_range_end (I.ok.hd hc) st (by have : n ≤ i := hg; omega) fun h' eb => ⟨rfl, I.turned (t' := s.toks) (fun b o hb e => eb b o hb e) f0 f1 f3 f4 f5⟩
  self := fun _ _ _ _ _ st h => wpAny_pyIter_rangeiter st h
end L2
namespace L2
open PySem PySem.Spec PyProof.Rows
section
variable {X : Cx} {tg : Expr}
theorem range_it {pins : List (Addr × Obj)} {σ : St} {H : Hp} {s : Shared} {R : It → Hp → Prop} {E : Value → Shared → Prop} {lo hi : Int} {t u v : Tok} {tk : Nat} (I : Inv X pins σ H s) (h1 : -(2 ^ 62) ≤ lo) (h2 : lo < 2 ^ 62) (h3 : -(2 ^ 62) ≤ hi) (h4 : hi < 2 ^ 62)
    (q : R (Itr lo (hi - lo).toNat) H) : wpAny (model X.prog X.w) X.A (pyIter (.ref s.heap.objs.size)) (PIE X pins σ tg R) E { s with heap := s.heap.push { cls := .type "range", data := .fields #[.int lo t, .int hi u, .int 1 v] }, toks := tk } := by
  refine wpAny_pyIter_range (IsRange.new ..) (small_one h1 h2 h3 h4) ?_
  have I1 : Inv X pins σ H { s with heap := s.heap.push { cls := .type "range", data := .fields #[.int lo t, .int hi u, .int 1 v] }, toks := tk } := I.kept fun b o e => Heap.get?_push_of_some _ e
  refine ⟨(s.heap.push { cls := .type "range", data := .fields #[.int lo t, .int hi u, .int 1 v] }).objs.size, [(s.heap.push { cls := .type "range", data := .fields #[.int lo t, .int hi u, .int 1 v] }).objs.size], _, _, H, rfl,
    I1.kept (t' := tk) fun b o e => Heap.get?_push_of_some _ e, turn_range _ lo (hi - lo).toNat, ?_, fun b hb => ?_, q⟩
  · have e1 : lo + ((0 : Nat) : Int) * 1 = lo := by simp
    have e2 : (((hi - lo).toNat : Nat) : Int) - ((0 : Nat) : Int) = Builtin.Range.rangeSize lo hi 1 := by rw [rangeSize_one]; split <;> omega
    show IsRangeIter _ _ (lo + ((0 : Nat) : Int) * 1) ((((hi - lo).toNat : Nat) : Int) - ((0 : Nat) : Int)) 1
    rw [e1, e2]
    exact Heap.get?_push_size _ rfl
  · have e : b = (s.heap.push { cls := .type "range", data := .fields #[.int lo t, .int hi u, .int 1 v] }).objs.size := by simpa using hb
    subst e
    exact I1.fpOk (Nat.le_refl _) (I1.hok.fresh (Nat.le_refl _))
def iRng1 (ta : TA) : TI := fun σ H R => ta σ H fun vs H1 => ∃ j : Int, vs = [.int j] ∧ -(2 ^ 62) ≤ j ∧ j < 2 ^ 62 ∧ R (Itr 0 j.toNat) H1
theorem pi_range1 {a : Expr} {ta : TA} {p pos : Pos} (hg : Gl X "range") (hm : X.mg "range" = none) (ha : PA X [a] ta) (hs : starEach [a] X.env = [(false, eval a X.env)] := by rfl) : PI X tg (.Call (.Name "range" p) [a] [] pos) (iRng1 ta) := by
  intro pins s σ H R I h
  refine Call_ (ld_blt I hg hm boot_range (PyProof.Rows.callWith_type1 (thn (ha pos pins s σ H _ I h) fun us s1 ⟨vs, H1, I1, r1, q1⟩ => ?_) hs rfl))
  obtain ⟨j, e, q1, q2, q⟩ := q1
  subst e
  cases r1 with
  | cons r rr =>
    cases rr
    obtain ⟨t, rfl⟩ := r
    exact call_range_1 (range_it I1 (by omega) (by omega) q1 q2 (by simpa using q))
def tFor (wi : TI) (g : TG) (tb : TS) : TS := fun D σ H => wi σ H fun J H1 => ∃ W : Nat → Nat → St → Hp → Prop, (∃ m, W 0 m σ H1) ∧ ∀ i m σ H, W i m σ H →
  (J.stop i H ∧ D.nx σ H) ∨ (J.go i H ∧ ∃ N : St → Hp → Prop, (∀ σ' H', N σ' H' → ∃ m', m' < m ∧ W (i + 1) m' σ' H') ∧ ∀ x H', J.yld i H x H' → g x σ H' fun σ2 H2 => tb { D with nx := N, ct := N, bk := D.nx } σ2 H2)
def pinsAt (fp : List Addr) (h : Heap) : List (Addr × Obj) := fp.filterMap fun b => (h.get? b).map fun o => (b, o)
theorem mem_pinsAt {fp : List Addr} {h : Heap} {b : Addr} {o : Obj} (hb : b ∈ fp) (e : h.get? b = some o) : (b, o) ∈ pinsAt fp h := List.mem_filterMap.mpr ⟨b, hb, by rw [e]; rfl⟩
theorem of_pinsAt {fp : List Addr} {h : Heap} {p : Addr × Obj} (hp : p ∈ pinsAt fp h) : p.1 ∈ fp ∧ h.get? p.1 = some p.2 := by
  obtain ⟨b, hb, e⟩ := List.mem_filterMap.mp hp
  cases q : h.get? b with
  | none => rw [q] at e; cases e
  | some o =>
    rw [q] at e
    have e' := Option.some.inj e
    subst e'
    exact ⟨hb, q⟩
theorem Inv.pinned {pins : List (Addr × Obj)} {σ : St} {H : Hp} {s : Shared} {fp : List Addr} (I : Inv X pins σ H s) (hf : ∀ b ∈ fp, FpOk X pins H b) (ho : ∀ b ∈ fp, ∃ o, s.heap.get? b = some o ∧ ∀ v, o.data ≠ .cell v) : Inv X (pins ++ pinsAt fp s.heap) σ H s :=
  I.pins_of fun p hp => (List.mem_append.mp hp).elim (fun z => I.pin p (List.mem_append_right _ z)) fun z => by
    obtain ⟨hb, e⟩ := of_pinsAt z
    obtain ⟨f0, f1, f2, _⟩ := hf p.1 hb
    obtain ⟨o, e', d⟩ := ho p.1 hb
    rw [e] at e'; cases e'
    exact ⟨e, f0, f1, f2, d⟩
theorem Inv.unpinned {pins pl : List (Addr × Obj)} {σ : St} {H : Hp} {s : Shared} (I : Inv X (pins ++ pl) σ H s) : Inv X pins σ H s := I.pins_of fun p hp => I.pin p (List.mem_append_right _ (List.mem_append_left _ hp))
theorem ps_for {iter : Expr} {body : List Stmt} {wi : TI} {g : TG} {tb : TS} {pos : Pos} (hp : PassesOwn (model X.prog X.w) X.A X.env X.xe) (hc : X.calm = true) (hi : PI X tg iter wi) (hg : PG X tg g) (hb : PSs X body tb)
    (hs : ∀ x, foldedSetIterable iter X.env x = pure x := by intro _; rfl) : PS X (.For tg iter body [] pos) (tFor wi g tb) := by
  intro pins s σ H D I h
  refine wpAny_For (thn (hi pins s σ H _ I h) fun v s1 h1 => thn h1 fun itv s2 h2 => ?_) hs
  obtain ⟨it, fp, tn, J, H2, e, I2, T, st2, f2, W, ⟨m0, w0⟩, turn⟩ := h2
  subst e
  have stat : ∀ {H' : Hp}, (∀ b ∈ fp, H' b = none) → ∀ b ∈ fp, FpOk X pins H' b := fun hn b hb => ⟨hn b hb, (f2 b hb).2⟩
  refine codeAny_forLoop_any (fun n s' => ∃ i σ' H', Inv X pins σ' H' s' ∧ tn i s'.heap ∧ (∀ b ∈ fp, H' b = none) ∧ W i n σ' H') ?_ m0 ⟨0, σ, H2, I2, st2, fun b hb => (f2 b hb).1, w0⟩
  rintro n s3 ⟨i, σ3, H3, I3, st3, fr3, w3⟩
  rcases turn i n σ3 H3 w3 with ⟨stop, qn⟩ | ⟨go, N, hN, step⟩
  · refine wpAny_passesOwn hp (thn (T.done X rfl rfl rfl hc i pins s3 σ3 H3 X.xe I3 (stat fr3) st3 stop) fun r s4 ⟨hr, I4⟩ => ?_)
    subst hr
    exact wpAny_execs_nil ⟨σ3, H3, I4, qn⟩
  · refine wpAny_passesOwn hp (thn (T.item X rfl rfl rfl hc i pins s3 σ3 H3 X.xe I3 (stat fr3) st3 go) fun r s4 ⟨u, hr, h4⟩ => ?_)
    subst hr
    refine wpAny_passesOwn hp (thn h4 fun _ s5 ⟨x, H5, I5, r5, y5, st5, fr5⟩ => ?_)
    have I5' := I5.pinned (stat fr5) (T.obj _ _ st5)
    refine wpAny_passesOwn hp (thn (hg _ s5 σ3 H5 x u _ I5' r5 (step x H5 y5)) fun _ s6 ⟨σ6, H6, I6, q6⟩ => ?_)
    refine wpAny_passesOwn hp (thn (hb _ s6 σ6 H6 _ I6 q6) fun f s7 q7 => ?_)
    have again : ∀ {σ7 : St} {H7 : Hp}, Inv X (pins ++ pinsAt fp s5.heap) σ7 H7 s7 → N σ7 H7 → ∃ m, m < n ∧ ∃ i σ' H', Inv X pins σ' H' s7 ∧ tn i s7.heap ∧ (∀ b ∈ fp, H' b = none) ∧ W i m σ' H' := fun {σ7 H7} I7 n7 => by
      obtain ⟨m', hm, w7⟩ := hN σ7 H7 n7
      refine ⟨m', hm, i + 1, σ7, H7, I7.unpinned, T.keep _ _ _ st5 fun b hb o e => (I7.pin (b, o) (List.mem_append_right _ (List.mem_append_right _ (mem_pinsAt hb e)))).1, fun b hb => ?_, w7⟩
      obtain ⟨o, e, d⟩ := T.obj _ _ st5 b hb
      exact (I7.pin (b, o) (List.mem_append_right _ (List.mem_append_right _ (mem_pinsAt hb e)))).2.1
    cases f with
    | next => obtain ⟨σ7, H7, I7, n7⟩ := q7; exact again I7 n7
    | cont => obtain ⟨σ7, H7, I7, n7⟩ := q7; exact again I7 n7
    | brk => obtain ⟨σ7, H7, I7, q7⟩ := q7; exact ⟨σ7, H7, I7.unpinned, q7⟩
    | ret v => obtain ⟨x7, σ7, H7, I7, r7, q7⟩ := q7; exact ⟨x7, σ7, H7, I7.unpinned, r7, q7⟩
end
end L2
namespace L2
open PySem PySem.Spec PyProof.Rows
abbrev R2 := V → V → Hp → VK → Prop
def OpR (X : Cx) (f : Value → Value → Sem Value) (r : R2) : Prop :=
  ∀ (pins : List (Addr × Obj)) (s : Shared) (σ : St) (H : Hp) (x y : V) (v u : Value) (Q : VK), Inv X pins σ H s → RelV x v → RelV y u → r x y H Q →
    wpAny (model X.prog X.w) X.A (f v u) (EP X pins σ Q) X.xe s
def UnR (X : Cx) (f : Value → Sem Value) (r : V → Hp → VK → Prop) : Prop :=
  ∀ (pins : List (Addr × Obj)) (s : Shared) (σ : St) (H : Hp) (x : V) (v : Value) (Q : VK), Inv X pins σ H s → RelV x v → r x H Q →
    wpAny (model X.prog X.w) X.A (f v) (EP X pins σ Q) X.xe s
def CallR (X : Cx) (f : Value) (r : List V → Hp → VK → Prop) : Prop :=
  ∀ (pins : List (Addr × Obj)) (s : Shared) (σ : St) (H : Hp) (xs : List V) (us : List Value) (Q : VK), Inv X pins σ H s → Vals xs us → r xs H Q →
    wpAny (model X.prog X.w) X.A (call f us) (EP X pins σ Q) X.xe s
def TruR (X : Cx) (r : V → Hp → (Bool → Hp → Prop) → Prop) : Prop :=
  ∀ (pins : List (Addr × Obj)) (s : Shared) (σ : St) (H : Hp) (x : V) (v : Value) (Q : Bool → Hp → Prop), Inv X pins σ H s → RelV x v → r x H Q →
    wpAny (model X.prog X.w) X.A (truthy v) (TP X pins σ Q) X.xe s
def tOp (r : R2) (ta tb : TE) : TE := fun σ H Q => ta σ H fun x H1 => tb σ H1 fun y H2 => r x y H2 Q
def tUn (r : V → Hp → VK → Prop) (ta : TE) : TE := fun σ H Q => ta σ H fun x H1 => r x H1 Q
def rI (C : Int → Int → Prop) (g : Int → Int → V) : R2 := fun x y H Q => ∃ i j, x = .int i ∧ y = .int j ∧ C i j ∧ Q (g i j) H
def rI0 (g : Int → Int → V) : R2 := fun x y H Q => ∃ i j, x = .int i ∧ y = .int j ∧ Q (g i j) H
def rU (g : Int → V) : V → Hp → VK → Prop := fun x H Q => ∃ i, x = .int i ∧ Q (g i) H
section
variable {X : Cx} {a b c : Expr} {ta tb tc : TE} {pos : Pos}
theorem binT (ha : PE X a ta) (hb : PE X b tb) {pins : List (Addr × Obj)} {s : Shared} {σ : St} {H : Hp} {R : V → V → Hp → Prop} (I : Inv X pins σ H s)
    (h : ta σ H fun x H1 => tb σ H1 fun y H2 => R x y H2) {Q : Value → Shared → Prop} {f : Value → Value → Sem Value}
    (hf : ∀ v u s2 x y H2, Inv X pins σ H2 s2 → RelV x v → RelV y u → R x y H2 → wpAny (model X.prog X.w) X.A (f v u) Q X.xe s2) :
    wpAny (model X.prog X.w) X.A (eval a X.env) (fun v s₁ => wpAny (model X.prog X.w) X.A (eval b X.env) (fun u s₂ => wpAny (model X.prog X.w) X.A (f v u) Q X.xe s₂) X.xe s₁) X.xe s := by
  refine thn (ha pins s σ H _ I h) fun v s1 ⟨x, H1, I1, r1, q1⟩ => ?_
  refine thn (hb pins s1 σ H1 _ I1 q1) fun u s2 ⟨y, H2, I2, r2, q2⟩ => ?_
  exact hf v u s2 x y H2 I2 r1 r2 q2
theorem pe_op {op : Operator} {r : R2} (ho : OpR X (binaryOp op) r) (ha : PE X a ta) (hb : PE X b tb) : PE X (.BinOp a op b pos) (tOp r ta tb) := by
  intro pins s σ H Q I h
  exact wpAny_BinOp (binT ha hb I h fun v u s2 x y H2 I2 rx ry q => ho pins s2 σ H2 x y v u Q I2 rx ry q)
theorem pe_un {op : UnaryOp} {r : V → Hp → VK → Prop} (ho : UnR X (unaryOp op) r) (ha : PE X a ta) : PE X (.UnaryOp op a pos) (tUn r ta) := by
  intro pins s σ H Q I h
  exact UnaryOp_ (thn (ha pins s σ H _ I h) fun v s1 ⟨x, H1, I1, r1, q1⟩ => ho pins s1 σ H1 x v Q I1 r1 q1)
theorem opI {f : Value → Value → Sem Value} {C : Int → Int → Prop} {g : Int → Int → Int}
    (rule : ∀ (i j : Int) (t u : Tok) (s : Shared) (Q : Value → Shared → Prop) (E : Value → Shared → Prop), C i j → Q (.int (g i j) s.toks) { s with toks := s.toks + 1 } → wpAny (model X.prog X.w) X.A (f (.int i t) (.int j u)) Q E s) :
    OpR X f (rI C fun i j => .int (g i j)) := by
  intro pins s σ H x y v u Q I rx ry h
  obtain ⟨i, j, rfl, rfl, hc, q⟩ := h
  obtain ⟨t, rfl⟩ := rx
  obtain ⟨t', rfl⟩ := ry
  exact rule i j t t' s _ _ hc ⟨.int (g i j), H, I.tok _, ⟨_, rfl⟩, q⟩
theorem opI0 {f : Value → Value → Sem Value} {g : Int → Int → Int}
    (rule : ∀ (i j : Int) (t u : Tok) (s : Shared) (Q : Value → Shared → Prop) (E : Value → Shared → Prop), Q (.int (g i j) s.toks) { s with toks := s.toks + 1 } → wpAny (model X.prog X.w) X.A (f (.int i t) (.int j u)) Q E s) :
    OpR X f (rI0 fun i j => .int (g i j)) := by
  intro pins s σ H x y v u Q I rx ry h
  obtain ⟨i, j, rfl, rfl, q⟩ := h
  obtain ⟨t, rfl⟩ := rx
  obtain ⟨t', rfl⟩ := ry
  exact rule i j t t' s _ _ ⟨.int (g i j), H, I.tok _, ⟨_, rfl⟩, q⟩
theorem opB0 {f : Value → Value → Sem Value} {g : Int → Int → Bool}
    (rule : ∀ (i j : Int) (t u : Tok) (s : Shared) (Q : Value → Shared → Prop) (E : Value → Shared → Prop), Q (.bool (g i j)) s → wpAny (model X.prog X.w) X.A (f (.int i t) (.int j u)) Q E s) :
    OpR X f (rI0 fun i j => .bl (g i j)) := by
  intro pins s σ H x y v u Q I rx ry h
  obtain ⟨i, j, rfl, rfl, q⟩ := h
  obtain ⟨t, rfl⟩ := rx
  obtain ⟨t', rfl⟩ := ry
  exact rule i j t t' s _ _ ⟨.bl (g i j), H, I, rfl, q⟩
def CDiv (i j : Int) : Prop := 0 < j ∧ j < 1073741824
def CPow (i j : Int) : Prop := 0 ≤ j ∧ j ≤ 1000000 ∧ i.natAbs < 2 ^ 64
def CMul (i j : Int) : Prop := (-(2 ^ 64) < i ∧ i < 2 ^ 64) ∨ (-(2 ^ 64) < j ∧ j < 2 ^ 64)
theorem CMul.ok {i j : Int} (h : CMul i j) : IntMulOk i j := by
  rcases h with ⟨h1, h2⟩ | ⟨h1, h2⟩
  · exact .of_left (intBits_le_64 h1 h2)
  · exact .of_right (intBits_le_64 h1 h2)
theorem op_add : OpR X (binaryOp .Add) (rI0 fun i j => .int (i + j)) := opI0 fun _ _ _ _ _ _ _ q => add_int q
theorem op_sub : OpR X (binaryOp .Sub) (rI0 fun i j => .int (i - j)) := opI0 fun _ _ _ _ _ _ _ q => sub_int q
theorem op_fdiv : OpR X (binaryOp .FloorDiv) (rI CDiv fun i j => .int (i / j)) := opI fun i j _ _ _ _ _ hc q => by
  have h1 : (0 : Int) < j := hc.1
  have h2 : j < 1073741824 := hc.2
  exact floordiv_int (by omega) (by rw [Int.fdiv_eq_ediv_of_nonneg i (by omega)]; exact q) (.inl (PyProof.noPylong_small (by omega)))
theorem op_mod : OpR X (binaryOp .Mod) (rI (fun _ j => 0 < j) fun i j => .int (i % j)) := opI fun i j _ _ _ _ _ hc q => by
  have h1 : (0 : Int) < j := hc
  exact mod_int' (by omega) (by rw [Int.fmod_eq_emod_of_nonneg i (by omega)]; exact q)
theorem op_pow : OpR X (binaryOp .Pow) (rI CPow fun i j => .int (i ^ j.toNat)) := opI fun _ _ _ _ _ _ _ hc q => pow_int_small hc.1 hc.2.1 hc.2.2 q
theorem unI {f : Value → Sem Value} {g : Int → Int}
    (rule : ∀ (i : Int) (t : Tok) (s : Shared) (Q : Value → Shared → Prop) (E : Value → Shared → Prop), Q (.int (g i) s.toks) { s with toks := s.toks + 1 } → wpAny (model X.prog X.w) X.A (f (.int i t)) Q E s) :
    UnR X f (rU fun i => .int (g i)) := by
  intro pins s σ H x v Q I rx h
  obtain ⟨i, rfl, q⟩ := h
  obtain ⟨t, rfl⟩ := rx
  exact rule i t s _ _ ⟨.int (g i), H, I.tok _, ⟨_, rfl⟩, q⟩
theorem un_neg : UnR X (unaryOp .USub) (rU fun i => .int (-i)) := unI fun _ _ _ _ _ q => neg_int q
end
section
variable {X : Cx} {a b c : Expr} {ta tb tc : TE} {pos : Pos}
theorem fin_bl {pins : List (Addr × Obj)} {σ : St} {H : Hp} {s : Shared} {Q : VK} {k k' : Bool} (I : Inv X pins σ H s) (q : Q (.bl k) H) (e : k = k') : EP X pins σ Q (.bool k') s := by
  subst e
  exact ⟨.bl k, H, I, rfl, q⟩
theorem op_lt : OpR X (compareOp .Lt) (rI0 fun i j => .bl (decide (i < j))) := opB0 fun _ _ _ _ _ _ _ q => lt_int q
theorem op_le : OpR X (compareOp .LtE) (rI0 fun i j => .bl (decide (i ≤ j))) := opB0 fun _ _ _ _ _ _ _ q => le_int q
theorem op_gt : OpR X (compareOp .Gt) (rI0 fun i j => .bl (decide (j < i))) := opB0 fun _ _ _ _ _ _ _ q => gt_int q
theorem op_ge : OpR X (compareOp .GtE) (rI0 fun i j => .bl (decide (j ≤ i))) := opB0 fun _ _ _ _ _ _ _ q => ge_int q
theorem op_in_str : OpR X (compareOp .In) (fun x y H Q => ∃ i j, x = .str i ∧ y = .str j ∧ Q (.bl (!(Builtin.Str.occurrences j i 0 j.length 1).isEmpty)) H) := by
  intro pins s σ H x y v u Q I rx ry h
  obtain ⟨i, j, rfl, rfl, q⟩ := h
  obtain ⟨t, rfl⟩ := rx
  obtain ⟨t', rfl⟩ := ry
  exact in_str (fin_bl I q rfl)
theorem OpR.or {f : Value → Value → Sem Value} {r r' : R2} (h : OpR X f r) (h' : OpR X f r') : OpR X f (fun x y H Q => r x y H Q ∨ r' x y H Q) := by
  intro pins s σ H x y v u Q I rx ry q
  rcases q with q | q
  · exact h pins s σ H x y v u Q I rx ry q
  · exact h' pins s σ H x y v u Q I rx ry q
theorem nomark (b : Expr) {op : CmpOp} (h : op ≠ .In := by decide) (h2 : op ≠ .NotIn := by decide) : behindInMarks op b = false := by
  have e1 : (op == CmpOp.In) = false := by cases op <;> first | rfl | exact absurd rfl h
  have e2 : (op == CmpOp.NotIn) = false := by cases op <;> first | rfl | exact absurd rfl h2
  cases b <;> simp [behindInMarks, e1, e2]
theorem pe_cmpR {op : CmpOp} {r : R2} (ho : OpR X (compareOp op) r) (ha : PE X a ta) (hb : PE X b tb) (hm : behindInMarks op b = false) : PE X (.Compare a [op] [b] pos) (tOp r ta tb) := by
  intro pins s σ H Q I h
  exact wpAny_Compare1 (binT ha hb I h fun v u s2 x y H2 I2 rx ry q => ho pins s2 σ H2 x y v u Q I2 rx ry q) hm
def tTest (t : TE) : TT := fun σ H Q => t σ H fun x H' => ∃ k, x = .bl k ∧ Q k H'
theorem pt_cmpR {op : CmpOp} {r : R2} (ho : OpR X (compareOp op) r) (ha : PE X a ta) (hb : PE X b tb) (hm : behindInMarks op b = false) : PT X (.Compare a [op] [b] pos) (tTest (tOp r ta tb)) := by
  intro pins s σ H Q I h
  refine wpAny_isTrue_Compare1 (thn (ha pins s σ H _ I h) fun v s1 ⟨x, H1, I1, r1, q1⟩ => thn (hb pins s1 σ H1 _ I1 q1) fun u s2 ⟨y, H2, I2, r2, q2⟩ =>
    thn (ho pins s2 σ H2 x y v u _ I2 r1 r2 q2) fun c s3 ⟨z, H3, I3, r3, k, e, q3⟩ => ?_) hm
  subst e
  cases r3
  exact wpAny_truthy_bool ⟨H3, I3, q3⟩
def tChain (r r' : R2) (ta tb tc : TE) : TE := fun σ H Q => ta σ H fun x H1 => tb σ H1 fun y H2 => r x y H2 fun z H3 => ∃ k, z = .bl k ∧
  (if k = true then tc σ H3 fun w' H4 => r' y w' H4 Q else Q (.bl false) H3)
theorem pt_chain {op op' : CmpOp} {r r' : R2} (ho : OpR X (compareOp op) r) (ho' : OpR X (compareOp op') r') (ha : PE X a ta) (hb : PE X b tb) (hc : PE X c tc)
    (hm : lastMarks [op, op'] [b, c] = false := by with_unfolding_all rfl) : PT X (.Compare a [op, op'] [b, c] pos) (tTest (tChain r r' ta tb tc)) := by
  intro pins s σ H Q I h
  refine isTrue_chain (thn (ha pins s σ H _ I h) fun v s1 ⟨x, H1, I1, r1, q1⟩ => test_link (thn (hb pins s1 σ H1 _ I1 q1) fun u s2 ⟨y, H2, I2, r2, q2⟩ =>
    thn (ho pins s2 σ H2 x y v u _ I2 r1 r2 q2) fun d s3 ⟨z, H3, I3, r3, k, e, q3⟩ => ?_)) hm
  subst e
  cases r3
  refine wpAny_truthy_bool ?_
  cases k with
  | false =>
    obtain ⟨k', e', q'⟩ := q3
    cases e'
    exact ite_ff ⟨H3, I3, q'⟩
  | true =>
    refine ite_tt (test_last (thn (hc pins s3 σ H3 _ I3 q3) fun w' s4 ⟨z', H4, I4, r4, q4⟩ => thn (ho' pins s4 σ H4 y z' u w' _ I4 r2 r4 q4) fun d' s5 ⟨z2, H5, I5, r5, k2, e2, q5⟩ => ?_))
    subst e2
    cases r5
    exact wpAny_truthy_bool ⟨H5, I5, q5⟩
def TruV (K : PySem.W.Frag) (x : V) (H : Hp) (k : Bool) : Prop :=
  match x with
  | .non => k = false
  | .bl b => k = b
  | .int i => k = (i != 0)
  | .str y => y.length ≤ sizeLine ∧ k = ((y.length : Int) != 0)
  | .byt y => y.size ≤ sizeLine ∧ k = ((y.size : Int) != 0)
  | .ref p => (∃ xs, SqL K H p xs ∧ k = !xs.isEmpty) ∨ (∃ xs, SqT K H p xs ∧ k = !xs.isEmpty) ∨ ∃ kvs, H p = some (.dK kvs) ∧ k = !kvs.isEmpty
  | _ => False
theorem isEmpty_kv {κ : Type} {kvs : List (κ × V)} {vs : List (κ × Value)} (r : KV kvs vs) : (!vs.isEmpty) = !kvs.isEmpty := by
  cases r <;> rfl
theorem isEmpty_of {xs : List V} {its : List Value} (r : Vals xs its) : (!its.toArray.isEmpty) = !xs.isEmpty := by
  cases r <;> simp
theorem line63 : (sizeLine : Nat) < 2 ^ 63 := by rw [sizeLine_eq]; decide
theorem tru_ok : TruR X (fun x H Q => ∃ k, TruV X.K x H k ∧ Q k H) := by
  intro pins s σ H x v Q I rx h
  obtain ⟨k, e, q⟩ := h
  have hs := sizeLine_eq
  cases x with
  | non =>
    cases rx
    have e' := e
    subst e'
    exact truthy_none ⟨H, I, q⟩
  | bl b =>
    cases rx
    have e' := e
    subst e'
    exact wpAny_truthy_bool ⟨H, I, q⟩
  | int i =>
    obtain ⟨t, rfl⟩ := rx
    have e' := e
    subst e'
    exact PySem.P.truthy_int ⟨H, I, q⟩
  | str y =>
    obtain ⟨t, rfl⟩ := rx
    obtain ⟨hy, e'⟩ : y.length ≤ sizeLine ∧ k = ((y.length : Int) != 0) := e
    subst e'
    exact PySem.P.truthy_str (by omega) ⟨H, I.tok _, q⟩
  | byt y =>
    obtain ⟨t, rfl⟩ := rx
    obtain ⟨hy, e'⟩ : y.size ≤ sizeLine ∧ k = ((y.size : Int) != 0) := e
    subst e'
    exact PySem.W.truthy_bytes (by omega) ⟨H, I.tok _, q⟩
  | ref p =>
    cases rx
    have e' := e
    rcases e' with ⟨xs, hx, e'⟩ | ⟨xs, hx, e'⟩ | ⟨kvs, hx, e'⟩
    · subst e'
      obtain ⟨its, r, pl, hz⟩ := I.list hx
      have hlen := r.length
      exact wpAny_truthy_list pl.isList (by simp only [List.size_toArray]; omega) ⟨H, I.tok _, by rw [isEmpty_of r]; exact q⟩
    · subst e'
      obtain ⟨its, r, pl, hz⟩ := I.tuple hx
      have hlen := r.length
      exact truthy_tuple pl (by simp only [List.size_toArray]; omega) ⟨H, I.tok _, by rw [isEmpty_of r]; exact q⟩
    · subst e'
      obtain ⟨hz, hS, vs, r, m⟩ : kvs.length ≤ sizeLine ∧ (p == sysModules) = false ∧ ∃ vs, KV kvs vs ∧ s.heap.DictOf (mixKind X.prog X.w) p vs := I.hok p _ hx
      have hlen := Paired.length r
      exact wpAny_truthy_dict hS m (by omega) ⟨H, I.tok _, by rw [isEmpty_kv r]; exact q⟩
  | _ => exact (show False from e).elim
theorem pt_truth (ha : PE X a ta) (he : ∀ whole, isTrue a X.env whole = (do let v ← whole; standAt a.pos; holding [v] (truthy v))) :
    PT X a (fun σ H Q => ta σ H fun x H' => ∃ k, TruV X.K x H' k ∧ Q k H') := by
  intro pins s σ H Q I h
  exact isTrue_plain (thn (ha pins s σ H _ I h) fun v s1 ⟨x, H1, I1, r1, q1⟩ => tru_ok pins s1 σ H1 x v Q I1 r1 q1) (he _)
theorem op_add_str : OpR X (binaryOp .Add) (fun x y H Q => ∃ i j, x = .str i ∧ y = .str j ∧ i.length + j.length ≤ sizeLine ∧ Q (.str (i ++ j)) H) := by
  intro pins s σ H x y v u Q I rx ry h
  obtain ⟨i, j, rfl, rfl, hz, q⟩ := h
  obtain ⟨t, rfl⟩ := rx
  obtain ⟨t', rfl⟩ := ry
  exact add_str (fun t' tk => ⟨.str (i ++ j), H, I.tok _, ⟨_, rfl⟩, q⟩) hz
theorem vals1 {x : V} {us : List Value} (r : Vals [x] us) : ∃ u, us = [u] ∧ RelV x u := by
  cases r with
  | cons r1 r2 => cases r2; exact ⟨_, rfl, r1⟩
theorem vals2 {x y : V} {us : List Value} (r : Vals [x, y] us) : ∃ u w', us = [u, w'] ∧ RelV x u ∧ RelV y w' := by
  cases r with
  | cons r1 r2 =>
    cases r2 with
    | cons r3 r4 => cases r4; exact ⟨_, _, rfl, r1, r3⟩
theorem call_abs : CallR X (.builtin "abs") (fun xs H Q => ∃ i, xs = [.int i] ∧ Q (.int (if i < 0 then -i else i)) H) := by
  intro pins s σ H xs us Q I r h
  obtain ⟨i, rfl, q⟩ := h
  obtain ⟨u, rfl, t, rfl⟩ := vals1 r
  exact call_abs_int fun u tk => ⟨.int (if i < 0 then -i else i), H, I.tok _, ⟨_, rfl⟩, q⟩
theorem call_int1 : CallR X (.type "int") (fun xs H Q => (∃ i, xs = [.int i] ∧ Q (.int i) H) ∨ ∃ k, xs = [.bl k] ∧ Q (.int (if k then 1 else 0)) H) := by
  intro pins s σ H xs us Q I r h
  rcases h with ⟨i, rfl, q⟩ | ⟨k, rfl, q⟩
  · obtain ⟨u, rfl, t, rfl⟩ := vals1 r
    exact call_int_int ⟨.int i, H, I, ⟨_, rfl⟩, q⟩
  · obtain ⟨u, rfl, r1⟩ := vals1 r
    cases r1
    exact call_int_bool ⟨.int (if k then 1 else 0), H, I.tok _, ⟨_, rfl⟩, q⟩
def LenV (K : PySem.W.Frag) (x : V) (H : Hp) (n : Nat) : Prop :=
  match x with
  | .str y => y.length ≤ sizeLine ∧ n = y.length
  | .byt y => y.size ≤ sizeLine ∧ n = y.size
  | .ref p => (∃ xs, SqL K H p xs ∧ n = xs.length) ∨ ∃ xs, SqT K H p xs ∧ n = xs.length
  | _ => False
theorem call_len : CallR X (.builtin "len") (fun xs H Q => ∃ x n, xs = [x] ∧ LenV X.K x H n ∧ Q (.int n) H) := by
  intro pins s σ H xs us Q I r h
  obtain ⟨x, n, rfl, e, q⟩ := h
  obtain ⟨u, rfl, rx⟩ := vals1 r
  have hs := sizeLine_eq
  cases x with
  | str y =>
    obtain ⟨t, rfl⟩ := rx
    obtain ⟨hy, e'⟩ : y.length ≤ sizeLine ∧ n = y.length := e
    subst e'
    exact len_str (by omega) ⟨.int _, H, I.tok _, ⟨_, rfl⟩, q⟩
  | byt y =>
    obtain ⟨t, rfl⟩ := rx
    obtain ⟨hy, e'⟩ : y.size ≤ sizeLine ∧ n = y.size := e
    subst e'
    exact PySem.W.len_bytes (by omega) ⟨.int _, H, I.tok _, ⟨_, rfl⟩, q⟩
  | ref p =>
    cases rx
    have e' := e
    rcases e' with ⟨xs, hx, e'⟩ | ⟨xs, hx, e'⟩
    · subst e'
      obtain ⟨its, r', pl, hz⟩ := I.list hx
      have hlen := r'.length
      exact Calls.call_len_list pl.isList (by simp only [List.size_toArray]; omega) ⟨.int xs.length, H, I.tok _, ⟨_, by simp only [List.size_toArray]; rw [hlen]⟩, q⟩
    · subst e'
      obtain ⟨its, r', pl, hz⟩ := I.tuple hx
      have hlen := r'.length
      exact len_tuple pl (by simp only [List.size_toArray]; omega) ⟨.int xs.length, H, I.tok _, ⟨_, by simp only [List.size_toArray]; rw [hlen]⟩, q⟩
  | _ => exact (show False from e).elim
end
end L2
namespace L2
open PySem PySem.Spec PyProof.Rows
structure ObjM (h : Heap) (x dx C : Addr) (mA : Str → Option Value) : Prop where
  obj : h.get? x = some (PySem.W.instObj C dx)
  ns : h.Ns1 dx mA
  ne : dx ≠ x
theorem lookIn_ns {h : Heap} {dx : Addr} {mA : Str → Option Value} (n : h.Ns1 dx mA) : ∃ od, h.get? dx = some od ∧ ∀ name, PySem.W.lookIn name od = some (mA name) := by
  obtain ⟨o, es, ep, ho, hd, hk, _, hm⟩ := n
  refine ⟨o, ho, fun name => ?_⟩
  have e := hm name
  unfold nsFind findBy at e
  rw [← Array.find?_toList] at e
  unfold PySem.W.lookIn
  rw [hd]
  dsimp only
  split
  · rename_i y q
    rw [q] at e
    exact congrArg some e
  · rename_i q
    rw [q] at e
    have a : es.toList.any (·.refKey) = false := by
      rw [List.any_eq_false]
      intro y hy
      obtain ⟨z, t, hkey⟩ := hk y (Array.mem_toList_iff.mp hy)
      simp [DictEntry.refKey, hkey]
    have a' : ¬ es.toList.any (·.refKey) = true := by rw [a]; exact Bool.false_ne_true
    rw [if_neg a']
    exact congrArg some e
theorem ObjM.look {h : Heap} {x dx C : Addr} {mA : Str → Option Value} (I : ObjM h x dx C mA) : ∃ od, PySem.W.InstAt h x (PySem.W.instObj C dx) C (some od) ∧ ∀ name, PySem.W.lookIn name od = some (mA name) :=
  let ⟨od, ho, hl⟩ := lookIn_ns I.ns
  ⟨od, ⟨I.obj, rfl, rfl, ho⟩, hl⟩
section
variable {P : Program} {w : World} {H H' : Hp} {h h' : Heap} {a C dx : Addr} {fs fs' : List (Str × V)}
theorem ins_get (hok : HOk P w H h) (e : H a = some (.ins C dx fs)) : ∃ mA, ObjM h a dx C mA ∧ (∀ f, RelO (fs.lookup f) (mA f)) ∧ PySem.Within mA (fs.map (·.1)) ∧ fs.length ≤ 1000 ∧ H dx = some (.own a) := by
  obtain ⟨d, z, ne, ob, mA, n, r, q⟩ := (show ObjOk P w H h a (.ins C dx fs) from hok a _ e)
  exact ⟨mA, ⟨ob, n, ne⟩, r, q, z, d⟩
end
structure Cls (K : PySem.W.Frag) (C : Addr) : Prop where
  pg : PySem.W.plainGet K C Str.empty = true
  hd : PySem.W.hasDictIn K C = true
  po : PySem.W.plainOver K C = true
  sa : PySem.W.findIn K (.ref C) "__setattr__" = some (some (.builtin "object.__setattr__"))
theorem Cls.get {K : PySem.W.Frag} {C : Addr} (c : Cls K C) (f : Str) : PySem.W.plainGet K C f = true := c.pg
section
variable {X : Cx} {pins : List (Addr × Obj)} {σ : St} {H : Hp} {s : Shared} {A : Around} {E : Value → Shared → Prop} {Q : Value → Shared → Prop} {c : Value} {b : Bool}
inductive TyOf (K : PySem.W.Frag) (H : Hp) : V → Value → Prop where
  | non : TyOf K H .non (.type "NoneType")
  | bl (x : Bool) : TyOf K H (.bl x) (.type "bool")
  | int (i : Int) : TyOf K H (.int i) (.type "int")
  | str (x : Str) : TyOf K H (.str x) (.type "str")
  | flt (x : UInt64) : TyOf K H (.flt x) (.type "float")
  | lst {a : Addr} {xs : List V} (e : H a = some (.lst xs)) : TyOf K H (.ref a) (.type "list")
  | frz {a : Addr} {o : Obj} {xs : List V} (e : H a = some (.frz o (.lst xs))) : TyOf K H (.ref a) (.type "list")
  | tup {a : Addr} {xs : List V} (e : H a = some (.tup xs)) : TyOf K H (.ref a) (.type "tuple")
  | dK {a : Addr} {kvs : List (Key × V)} (e : H a = some (.dK kvs)) : TyOf K H (.ref a) (.type "dict")
  | dT {a : Addr} {kvs : List (List Key × V)} (e : H a = some (.dT kvs)) : TyOf K H (.ref a) (.type "dict")
  | ins {a C dx : Addr} {fs : List (Str × V)} (e : H a = some (.ins C dx fs)) (cl : Cls K C) (ha : PySem.W.findIn K (.ref C) "__class__" = some (some (.builtin "object.__class__")))
      (hn : PySem.W.specialIn K (.builtin "object.__class__") "__get__" = some (some (.builtin "getset_descriptor.__get__"))) (htk : PySem.W.takesIn K (.builtin "object.__class__") = some true)
      (hm : PySem.W.mroIn K C (.type "object") = some true) : TyOf K H (.ref a) (.ref C)
theorem isinst_ok {x : V} {u t : Value} (I : Inv X pins σ H s) (rx : RelV x u) (ty : TyOf X.K H x t) (e : PySem.W.kitOne X.K t c = some b) (h : ∀ tk, Q (.bool b) { s with toks := tk }) :
    wpAny (model X.prog X.w) A (call (.builtin "isinstance") [u, c]) Q E s := by
  cases ty with
  | non => cases (show u = Value.none from rx); exact PySem.W.kia_one PySem.W.kitx_none I.kIn True.intro e (fun z => nomatch z) h
  | bl y => cases (show u = Value.bool y from rx); exact PySem.W.kia_one PySem.W.kitx_bool I.kIn True.intro e (fun z => nomatch z) h
  | int i => obtain ⟨t, q⟩ := (show ∃ t, u = Value.int i t from rx); cases q; exact PySem.W.kia_one PySem.W.kitx_int I.kIn True.intro e (fun z => nomatch z) h
  | str y => obtain ⟨t, q⟩ := (show ∃ t, u = Value.str y t from rx); cases q; exact PySem.W.kia_one PySem.W.kitx_str I.kIn True.intro e (fun z => nomatch z) h
  | flt y => obtain ⟨t, q⟩ := (show ∃ t, u = Value.float y t from rx); cases q; exact PySem.W.kia_one PySem.W.kitx_float I.kIn True.intro e (fun z => nomatch z) h
  | @lst a xs ea =>
    cases (show u = Value.ref a from rx)
    obtain ⟨_, _, n, _, h1⟩ := (show ObjOk X.prog X.w H s.heap a (.lst xs) from I.hok a _ ea)
    exact PySem.W.kia_one PySem.W.kitx_list I.kIn ⟨_, h1, rfl⟩ e (fun z => nomatch z) h
  | @frz a ob xs ea =>
    cases (show u = Value.ref a from rx)
    obtain ⟨_, _, _, n, _, h1⟩ := (show ObjOk X.prog X.w H s.heap a (.frz ob (.lst xs)) from I.hok a _ ea)
    exact PySem.W.kia_one PySem.W.kitx_list I.kIn ⟨_, h1, rfl⟩ e (fun z => nomatch z) h
  | @tup a xs ea =>
    cases (show u = Value.ref a from rx)
    obtain ⟨_, _, _, p⟩ := (show ObjOk X.prog X.w H s.heap a (.tup xs) from I.hok a _ ea)
    obtain ⟨o, h1, h2, _⟩ := p
    exact PySem.W.kia_one PySem.W.kitx_tuple I.kIn ⟨o, h1, h2⟩ e (fun z => nomatch z) h
  | @dK a kvs ea =>
    cases (show u = Value.ref a from rx)
    obtain ⟨_, _, vs, _, p⟩ := (show ObjOk X.prog X.w H s.heap a (.dK kvs) from I.hok a _ ea)
    obtain ⟨o, es, ep, h1, h2, _⟩ := p
    exact PySem.W.kia_one PySem.W.kitx_dict I.kIn ⟨o, h1, h2.1⟩ e (fun z => nomatch z) h
  | @dT a kvs ea =>
    cases (show u = Value.ref a from rx)
    obtain ⟨_, _, xs, _, o, es, ep, h1, h2, _⟩ := (show ObjOk X.prog X.w H s.heap a (.dT kvs) from I.hok a _ ea)
    exact PySem.W.kia_one PySem.W.kitx_dict I.kIn ⟨o, h1, h2.1⟩ e (fun z => nomatch z) h
  | @ins a C dx fs ea cl ha hn htk hm =>
    cases (show u = Value.ref a from rx)
    obtain ⟨mA, O, _⟩ := ins_get I.hok ea
    obtain ⟨od, J, _⟩ := O.look
    exact PySem.W.kia_one (PySem.W.kitx_own (cl.get _) cl.hd ha hn htk hm) I.kIn J e (fun z => nomatch z) h
end
end L2
namespace L2
open PySem PySem.Spec PyProof.Rows
structure Room (k : Nat) (A : Around) : Prop where
  hd : A.handled = none
  dp : A.depth + 3 * k + 5 < recursionLimit
  un : A.units + 16 * k + 200 < cLine
  gd : A.guards = some []
theorem Room.mono {j k : Nat} {A : Around} (r : Room k A) (h : j ≤ k) : Room j A := ⟨r.hd, by have := r.dp; omega, by have := r.un; omega, r.gd⟩
theorem Room.deeper {k : Nat} {A : Around} (r : Room (k + 1) A) (env : Env) : Room k (A.deeper env) :=
  ⟨r.hd, by have := r.dp; show A.depth + 1 + 3 * k + 5 < _; omega, by have := r.un; show A.units + 3 + 16 * k + 200 < _; omega, r.gd⟩
theorem Room.depth {k : Nat} {A : Around} (r : Room k A) : A.depth < recursionLimit := by have := r.dp; omega
def tNil : TA := fun _ H Q => Q [] H
def tCons (ta : TE) (tr : TA) : TA := fun σ H Q => ta σ H fun x H1 => tr σ H1 fun xs H2 => Q (x :: xs) H2
section
variable {X : Cx} {e : Expr} {es : List Expr} {te : TE} {t : TA} {pos : Pos}
theorem pa_nil : PA X [] tNil := fun _ _ _ _ H Q I h => Calls.spliced_nil ⟨[], H, I, .nil, h⟩
theorem pa_cons (ha : PE X e te) (hr : PA X es t) (hs : starEach (e :: es) X.env = (false, eval e X.env) :: starEach es X.env := by rfl) : PA X (e :: es) (tCons te t) := by
  intro pos pins s σ H Q I h
  rw [hs]
  refine Calls.spliced_cons (thn (ha pins s σ H _ I h) fun u s1 ⟨x, H1, I1, r1, q1⟩ => ?_)
  exact thn (hr pos pins s1 σ H1 _ I1 q1) fun us s2 ⟨xs, H2, I2, r2, q2⟩ => ⟨x :: xs, H2, I2, .cons r1 r2, q2⟩
end
abbrev Sp := List V → Hp → VK → XK → Prop
abbrev CXT := List Env → Hp → Shared → XK → Value → Shared → Prop
structure Env0 (P : Program) (w : World) (K : PySem.W.Frag) (mg : Str → Option Value) (base : Heap) (A : Around) (outer : List Env) (s : Shared) (H : Hp) : Prop where
  frames : A.frames = some outer
  mod : Mod K mg base
  bs : ∀ b o, base.get? b = some o → s.heap.get? b = some o ∧ H b = none
  bsz : base.objs.size ≤ s.heap.objs.size
  funs : s.heap.FunFrames base outer
  frf : ∀ b ∈ frs outer, H b = none
  hok : HOk P w H s.heap
  bare : AllBare s.gens
def CE (outer : List Env) (P : Program) (w : World) (H : Hp) (s : Shared) (Q : VK) (u : Value) (s' : Shared) : Prop :=
  ∃ v H', s'.os = s.os ∧ AllBare s'.gens ∧ Un (frs outer) [] H H' s.heap s'.heap ∧ HOk P w H' s'.heap ∧ RelV v u ∧ Q v H'
def CR (CX : CXT) (outer : List Env) (P : Program) (w : World) (H : Hp) (s : Shared) (Q : VK) (E : XK) (r : Result) (s' : Shared) : Prop :=
  match r with
  | .ok (.ret u) => CE outer P w H s Q u s'
  | .ok _ => False
  | .error e => CX outer H s E e s'
structure FnOk (P : Program) (w : World) (K : PySem.W.Frag) (mg : Str → Option Value) (base : Heap) (CX : CXT) (k : Nat) (f : Addr) (fd : FuncData) (ps : List Str) (sp : Sp) : Prop where
  len : ∀ vs H Q E, sp vs H Q E → vs.length = ps.length
  run : ∀ (A : Around) (outer : List Env) (s : Shared) (H : Hp) (args : Args) (us : List Value) (vs : List V) (Q : VK) (E : XK), Room k A → Env0 P w K mg base A outer s H → BindsTo s fd args (ps.zip us) → Vals vs us → sp vs H Q E →
    codeAny (model P w) A (.call (.ref f) args) (CR CX outer P w H s Q E) s
theorem FnOk.mono {P : Program} {w : World} {K : PySem.W.Frag} {mg : Str → Option Value} {base : Heap} {CX : CXT} {j k : Nat} {f : Addr} {fd : FuncData} {ps : List Str} {sp : Sp} (F : FnOk P w K mg base CX j f fd ps sp) (h : j ≤ k) :
    FnOk P w K mg base CX k f fd ps sp := ⟨F.len, fun A outer s H args us vs Q E hr => F.run A outer s H args us vs Q E (hr.mono h)⟩
theorem FnOk.imp {P : Program} {w : World} {K : PySem.W.Frag} {mg : Str → Option Value} {base : Heap} {CX : CXT} {k : Nat} {f : Addr} {fd : FuncData} {ps : List Str} {sp sp' : Sp} (F : FnOk P w K mg base CX k f fd ps sp)
    (h : ∀ vs H Q E, sp' vs H Q E → sp vs H Q E) : FnOk P w K mg base CX k f fd ps sp' :=
  ⟨fun vs H Q E q => F.len vs H Q E (h _ _ _ _ q), fun A outer s H args us vs Q E hr he hb hv hs => F.run A outer s H args us vs Q E hr he hb hv (h _ _ _ _ hs)⟩
section
variable {X : Cx} {pins : List (Addr × Obj)} {σ : St} {H : Hp} {s s' : Shared}
theorem Inv.env0 (I : Inv X pins σ H s) : Env0 X.prog X.w X.K X.mg X.base X.A X.stack s H :=
  ⟨I.ok.frames, I.ok.mod, I.bs, Nat.le_trans I.ok.bsz I.sz, I.stack, I.stkFree, I.hok, I.bare⟩
theorem Inv.after {Q : VK} {u : Value} (I : Inv X pins σ H s) (h : CE X.stack X.prog X.w H s Q u s') : EP X pins σ Q u s' := by
  obtain ⟨v, H', os, bare, un, hok, r, q⟩ := h
  obtain ⟨hh, g, d, t, os'⟩ := s'
  obtain rfl : os' = s.os := os
  exact ⟨v, H', I.call (h' := hh) (g' := g) (d' := d) (t' := t) (ch := []) un hok bare (fun b z => absurd z (by simp)), r, q⟩
end
def Binds (K : PySem.W.Frag) (fd : FuncData) (ps : List Str) (ds : List Value) : Prop :=
  ∀ (s : Shared) (us : List Value), K.In s.heap → (us ++ ds).length = ps.length → BindsTo s fd ⟨us, []⟩ (ps.zip (us ++ ds))
theorem Binds.all {K : PySem.W.Frag} {fd : FuncData} {ps : List Str} (h : ∀ us : List Value, us.length = ps.length → bindArgs fd ⟨us, []⟩ = pure (ps.zip us)) : Binds K fd ps [] := fun s us _ hl => by
  rw [List.append_nil] at hl ⊢
  exact .of_eq (h us hl)
def Passes (CX : CXT) (X : Cx) (E : XK) : Prop := ∀ (pins : List (Addr × Obj)) (σ : St) (H : Hp) (s : Shared) (e : Value) (s' : Shared), Inv X pins σ H s → CX X.stack H s E e s' → X.xe e s'
section
variable {X : Cx} {CX : CXT} {k : Nat} {f C : Addr} {fd : FuncData} {ps : List Str} {sp : Sp} {dvs : List V} {ds : List Value} {E : XK} {x m : Str} {p pos apos : Pos} {e o : Expr} {es : List Expr} {ta : TE} {t : TA}
theorem run_fn {pins : List (Addr × Obj)} {σ : St} {H : Hp} {s : Shared} {Q : VK} {us : List Value} {vs : List V} (F : FnOk X.prog X.w X.K X.mg X.base CX k f fd ps sp) (hr : Room k X.A) (hb : Binds X.K fd ps ds) (hd : Vals dvs ds) (hx : Passes CX X E)
    (I : Inv X pins σ H s) (r : Vals vs us) (h : sp (vs ++ dvs) H Q E) : wpAny (model X.prog X.w) X.A (call (.ref f) us) (EP X pins σ Q) X.xe s := by
  have r2 : Vals (vs ++ dvs) (us ++ ds) := r.append hd
  have hl : (us ++ ds).length = ps.length := by rw [← r2.length]; exact F.len _ _ _ _ h
  refine wpAny_call (codeAny_mono (F.run X.A X.stack s H ⟨us, []⟩ (us ++ ds) (vs ++ dvs) Q E hr I.env0 (hb s us I.kIn hl) r2 h) fun r s' hq => ?_)
  cases r with
  | error e => exact hx pins σ H s e s' I hq
  | ok fl =>
    cases fl with
    | ret u => exact I.after hq
    | next => exact False.elim hq
    | brk => exact False.elim hq
    | cont => exact False.elim hq
end
structure FnScope (N P : List Str) (sc : Scope) : Prop where
  kind : sc.kind = .function
  co : sc.isCoroutine = false
  gen : sc.isGenerator = false
  nd : N.Nodup
  pre : N.take P.length = P
  par : ∀ x ∈ P, sc.names.lookup x = some .local ∨ sc.names.lookup x = some .cell
  nofree : ∀ y ∈ sc.names, y.2 ≠ .free
theorem bindL_out {kindOf : Str → Option NameKind} {x : Str} : ∀ {binds : List (Str × Value)} {m : Str → Option Value}, (∀ v, (x, v) ∉ binds) → bindL kindOf binds m x = m x
  | [], _, _ => rfl
  | (n, v) :: r, m, h => by
    unfold bindL
    rw [bindL_out fun w hw => h w (List.mem_cons_of_mem _ hw)]
    split
    · have : x ≠ n := by rintro rfl; exact h v List.mem_cons_self
      simp [this]
    · rfl
theorem bindC_out {kindOf : Str → Option NameKind} {x : Str} : ∀ {binds : List (Str × Value)} {m : Str → Option Value}, (∀ v, (x, v) ∉ binds) → bindC kindOf binds m x = m x
  | [], _, _ => rfl
  | (n, v) :: r, m, h => by
    unfold bindC
    rw [bindC_out fun w hw => h w (List.mem_cons_of_mem _ hw)]
    split
    · rfl
    · have : x ≠ n := by rintro rfl; exact h v List.mem_cons_self
      simp [this]
theorem bindL_get {kindOf : Str → Option NameKind} {x : Str} {v : Value} : ∀ {P : List Str} {vs : List Value} {i : Nat} {m : Str → Option Value}, P.Nodup → P[i]? = some x → vs[i]? = some v → kindOf x = some .local →
    bindL kindOf (P.zip vs) m x = some v
  | [], _, _, _, _, h, _, _ => by simp at h
  | _ :: _, [], _, _, _, _, h, _ => by simp at h
  | p :: P, w :: vs, 0, m, nd, h1, h2, hk => by
    simp at h1 h2; subst h1; subst h2
    show bindL kindOf ((p, w) :: P.zip vs) m p = _
    unfold bindL
    rw [bindL_out fun v hv => (List.nodup_cons.mp nd).1 (List.of_mem_zip hv).1, if_pos hk]
    simp
  | p :: P, w :: vs, i + 1, m, nd, h1, h2, hk => by
    show bindL kindOf ((p, w) :: P.zip vs) m x = _
    unfold bindL
    exact bindL_get (i := i) (List.nodup_cons.mp nd).2 (by simpa using h1) (by simpa using h2) hk
theorem bindC_get {kindOf : Str → Option NameKind} {x : Str} {v : Value} : ∀ {P : List Str} {vs : List Value} {i : Nat} {m : Str → Option Value}, P.Nodup → P[i]? = some x → vs[i]? = some v → kindOf x ≠ some .local →
    bindC kindOf (P.zip vs) m x = some v
  | [], _, _, _, _, h, _, _ => by simp at h
  | _ :: _, [], _, _, _, _, h, _ => by simp at h
  | p :: P, w :: vs, 0, m, nd, h1, h2, hk => by
    simp at h1 h2; subst h1; subst h2
    show bindC kindOf ((p, w) :: P.zip vs) m p = _
    unfold bindC
    rw [bindC_out fun v hv => (List.nodup_cons.mp nd).1 (List.of_mem_zip hv).1, if_neg hk]
    simp
  | p :: P, w :: vs, i + 1, m, nd, h1, h2, hk => by
    show bindC kindOf ((p, w) :: P.zip vs) m x = _
    unfold bindC
    exact bindC_get (i := i) (List.nodup_cons.mp nd).2 (by simpa using h1) (by simpa using h2) hk
def start (N : List Str) (vs : List V) : St := vs.map some ++ List.replicate (N.length - vs.length) none
def cxOf (CX : CXT) (P : Program) (w : World) (K : PySem.W.Frag) (mg : Str → Option Value) (base : Heap) (N : List Str) (qual : Str) (scope : Scope) (f : Addr) (cd : Value) (A : Around) (outer : List Env) (s : Shared) (H : Hp) (E : XK) : Cx where
  prog := P
  w := w
  K := K
  mg := mg
  base := base
  A := A.deeper (envOfC qual scope s.heap.objs.size f cd)
  N := N
  s₀ := s
  H₀ := H
  env := envOfC qual scope s.heap.objs.size f cd
  outer := outer
  stack := envOfC qual scope s.heap.objs.size f cd :: outer
  ex := []
  calm := true
  fn := fun _ => true
  pn := []
  xe := fun e s' => wpAny (model P w) (A.deeper (envOfC qual scope s.heap.objs.size f cd)) (leaving (envOfC qual scope s.heap.objs.size f cd) e) (fun _ s'' => CX outer H s E e s'') (fun e' s'' => CX outer H s E e' s'') s'
theorem cell_has {sc : Scope} {n : Nat} {x : Str} (h : sc.names.lookup x = some .cell) : ∃ c, (cellsFrom n sc.names []).lookup x = some c := by
  have q := PySem.W.cellsFrom_some sc.names n [] (.inl h)
  exact Option.isSome_iff_exists.mp q
theorem inv_start {CX : CXT} {P : Program} {w : World} {K : PySem.W.Frag} {mg : Str → Option Value} {base : Heap} {N ps : List Str} {qual : Str} {scope : Scope} {f : Addr} {cd : Value} {A : Around} {outer : List Env} {s s1 : Shared} {H : Hp} {E : XK} {us : List Value} {vs : List V}
    (S : FnScope N ps scope) (hd : A.handled = none) (e0 : Env0 P w K mg base A outer s H) (hl : vs.length = ps.length) (r : Vals vs us)
    (x : InCallC s s.heap.objs.size (bindL (envOfC qual scope s.heap.objs.size f cd).kindOf (ps.zip us) fun _ => none) (cellsFrom (s.heap.objs.size + 1) scope.names []) (bindC (envOfC qual scope s.heap.objs.size f cd).kindOf (ps.zip us) fun _ => none) s1) :
    Inv (cxOf CX P w K mg base N qual scope f cd A outer s H E) [] (start N vs) H s1 := by
  have hpl : ps.length ≤ N.length := by have := congrArg List.length S.pre; rw [List.length_take] at this; omega
  obtain ⟨h1, tk, rfl, hk⟩ := x.done
  have noA : ∀ b : Addr, b ∉ (cxOf CX P w K mg base N qual scope f cd A outer s H E).ex := fun b z => absurd (show b ∈ ([] : List Addr) from z) (by simp)
  refine ⟨⟨e0.mod, S.kind, rfl, rfl, Nat.le_refl _, fun y z c h1 h2 => ?_, fun y hy => ?_, fun y c _ h => ?_, fun _ => hd, Around.frames_deeper e0.frames, .inr ⟨rfl, rfl⟩, fun b z => absurd z (noA b), e0.bs, e0.bsz, fun b _ _ => noA b, fun b z => absurd z (noA b), e0.funs, e0.frf⟩,
    rfl, e0.bare, Un.kept hk, ⟨_, x.toInCall.ns, fun i y v h1 h2 h3 => ?_⟩, fun y c h => ⟨_, x.cell y c h⟩, e0.hok.fresh (Nat.le_refl _), fun y c h => ?_, fun p hp => absurd (show p ∈ ([] : List (Addr × Obj)) from hp) (by simp), e0.hok.kept hk, ?_⟩
  · exact name_of_addr x.apart (PySem.mem_of_lookup h1) (PySem.mem_of_lookup h2)
  · rcases hy with hy | hy
    · exact cell_has hy
    · exact absurd rfl (S.nofree _ (PySem.mem_of_lookup hy))
  · exact Nat.le_of_lt (x.above y c (PySem.mem_of_lookup h))
  · have hi : i < vs.length := by
      unfold start at h2
      by_cases hi : i < vs.length
      · exact hi
      · rw [List.getElem?_append_right (by simpa using hi)] at h2
        rw [List.getElem?_replicate] at h2
        split at h2 <;> cases h2
    have ha : vs[i]? = some v := by
      unfold start at h2
      rw [List.getElem?_append_left (by simpa using hi), List.getElem?_map] at h2
      cases e : vs[i]? with
      | none => rw [e] at h2; cases h2
      | some a => rw [e] at h2; cases h2; rfl
    obtain ⟨u, hu, rv⟩ := r.get ha
    have hp : ps[i]? = some y := by
      rw [← S.pre, List.getElem?_take_of_lt (by omega)]; exact h1
    have ndP : ps.Nodup := by rw [← S.pre]; exact S.nd.sublist (List.take_sublist _ _)
    refine ⟨u, rv, ?_⟩
    rcases S.par y (List.mem_of_getElem? hp) with k | k
    · exact .inl ⟨k, bindL_get ndP hp hu k⟩
    · obtain ⟨c, e⟩ := cell_has (n := s.heap.objs.size + 1) k
      refine .inr ⟨.inl k, c, e, ?_⟩
      have q := x.cell y c e
      rw [bindC_get ndP hp hu (by show scope.names.lookup y ≠ _; rw [k]; decide)] at q
      exact q
  · exact e0.hok.fresh (Nat.le_of_lt (x.above y c (PySem.mem_of_lookup h)))
  · unfold start
    show _ = N.length
    rw [List.length_append, List.length_map, List.length_replicate]
    omega
theorem fn_of {CX : CXT} {P : Program} {w : World} {K : PySem.W.Frag} {mg : Str → Option Value} {base : Heap} {k : Nat} {f : Addr} {name qual : Str} {params : Arguments} {body : List Stmt} {scope : Scope} {dV kV doc pm cdv ct oc : Value} {an od : Option Addr}
    {osl : Array (Option Value)} {N ps : List Str} {sp : Sp} (lk : K.lookup f = some ⟨oc, od, .func (PySem.W.fnOf name qual params body scope dV kV doc pm an cdv ct), osl⟩) (hcd : PySem.W.codeIn K cdv qual = true) (S : FnScope N ps scope)
    (len : ∀ vs H Q E, sp vs H Q E → vs.length = ps.length)
    (hbody : ∀ (A : Around) (outer : List Env) (s : Shared) (H : Hp) (vs : List V) (Q : VK) (E : XK), Room k (A.deeper (envOfC qual scope s.heap.objs.size f cdv)) → sp vs H Q E →
      ∃ t, PSs (cxOf CX P w K mg base N qual scope f cdv A outer s H E) body t ∧ t { nx := fun _ H' => Q .non H', rt := Q } (start N vs) H) :
    FnOk P w K mg base CX (k + 1) f (PySem.W.fnOf name qual params body scope dV kV doc pm an cdv ct) ps sp := by
  refine ⟨len, fun A outer s H args us vs Q E hr e0 hb r hsp => ?_⟩
  have hl := len _ _ _ _ hsp
  have KX : K.In s.heap := e0.mod.kin.keeps fun b o e => (e0.bs b o e).1
  have lim : s.heap.NoLimit := e0.mod.nolimit.keeps fun b o e => (e0.bs b o e).1
  have hkind : ∀ y ∈ ps.zip us, scope.names.lookup y.1 = some .local ∨ (scope.names.lookup y.1 = some .cell ∧ ((cellsFrom (s.heap.objs.size + 1) scope.names []).lookup y.1).isSome = true) := fun ⟨n, v⟩ hy => by
    rcases S.par n (List.of_mem_zip hy).1 with q | q
    · exact .inl q
    · exact .inr ⟨q, PySem.W.cellsFrom_some _ _ _ (.inl q)⟩
  refine codeAny_call_function hr.depth (KX _ _ lk) rfl S.co S.gen rfl (PySem.W.codeRec_of KX hcd) (hb _ _ _ _ ?_)
  refine wpAny_newFunctionEnv_cells S.kind hkind fun env he s1 x => ?_
  subst he
  refine ⟨lim.keeps x.toInCall.keep, codeAny_func ?_⟩
  obtain ⟨t, ht, hq⟩ := hbody A outer s H vs Q E (hr.deeper _) hsp
  have I : Inv (cxOf CX P w K mg base N qual scope f cdv A outer s H E) [] (start N vs) H s1 := inv_start S hr.hd e0 hl r x
  refine wpAny_mono (ht [] s1 (start N vs) H _ I hq) (fun fl s' hs => ?_) fun e s' hs => hs
  have fin : ∀ {σ' : St} {H' : Hp} {v : V} {u : Value}, Inv (cxOf CX P w K mg base N qual scope f cdv A outer s H E) [] σ' H' s' → RelV v u → Q v H' → CE outer P w H s Q u s' :=
    fun {σ' H' v u} J rv q => ⟨v, H', J.os, J.bare, J.base, J.hok, rv, q⟩
  cases fl with
  | ret u =>
    obtain ⟨v, σ', H', J, rv, q⟩ := hs
    exact fin J rv q
  | next =>
    obtain ⟨σ', H', J, q⟩ := hs
    exact fin (v := V.non) (u := Value.none) J rfl q
  | brk =>
    obtain ⟨_, _, _, q⟩ := hs
    exact False.elim q
  | cont =>
    obtain ⟨_, _, _, q⟩ := hs
    exact False.elim q
end L2
namespace L2
open PySem PySem.Spec PyProof.Rows
section
variable {X : Cx} {x : Str} {p pos : Pos} {e : Expr} {es : List Expr} {t : TA} {id T : String} {r : List V → Hp → VK → Prop}
def tCB (r : List V → Hp → VK → Prop) (t : TA) : TE := fun σ H Q => t σ H fun vs H1 => r vs H1 Q
theorem pe_callB (hc : CallR X (.builtin id) r) (hg : Gl X x) (hm : X.mg x = none) (hv : bootBuiltins x = some (.builtin id)) (ha : PA X (e :: es) t) (hn : x ≠ "__name__" := by decide) (hdb : (x == ("__debug__" : Str)) = false := by decide)
    (he : starEach (e :: es) X.env = (false, eval e X.env) :: starEach es X.env := by rfl) (hpl : (backTo pos (starEach es X.env)).any (·.1) = false := by rfl) : PE X (.Call (.Name x p) (e :: es) [] pos) (tCB r t) := by
  intro pins s σ H Q I h
  refine wpAny_Call_Name_kw (ld_blt I hg hm hv ?_ hn hdb)
  exact PyProof.Rows.callWith_builtin1 (thn (ha pos pins s σ H _ I h) fun us s1 ⟨vs, H1, I1, r1, q1⟩ => hc pins s1 σ H1 vs us Q I1 r1 q1) he hpl
theorem pe_callTy (hc : CallR X (.type T) r) (hg : Gl X x) (hm : X.mg x = none) (hv : bootBuiltins x = some (.type T)) (ha : PA X (e :: es) t) (hn : x ≠ "__name__" := by decide) (hdb : (x == ("__debug__" : Str)) = false := by decide)
    (he : starEach (e :: es) X.env = (false, eval e X.env) :: starEach es X.env := by rfl) (hpl : (backTo pos (starEach es X.env)).any (·.1) = false := by rfl) : PE X (.Call (.Name x p) (e :: es) [] pos) (tCB r t) := by
  intro pins s σ H Q I h
  refine wpAny_Call_Name_kw (ld_blt I hg hm hv ?_ hn hdb)
  exact PyProof.Rows.callWith_type1 (thn (ha pos pins s σ H _ I h) fun us s1 ⟨vs, H1, I1, r1, q1⟩ => hc pins s1 σ H1 vs us Q I1 r1 q1) he hpl
end
end L2
namespace HT
open PySem PyProof.Rows
section
variable {prog : Program} {w : World} {A : Around} {E : Value → Shared → Prop} {s : Shared}
theorem cat_tup {t b : Addr} {vs ws : List Value} {Q : Value → Shared → Prop} (ht : IsTup s.heap t vs.toArray) (hb : IsTup s.heap b ws.toArray) (hv : vs ≠ [])
    (h1 : ws = [] → Q (.ref t) s) (h2 : ws ≠ [] → Q (.ref s.heap.objs.size) { s with heap := s.heap.push { cls := .type "tuple", data := .seq (vs ++ ws).toArray } })
    (hsz : vs.length + ws.length ≤ sizeLine) : wpAny (model prog w) A (binaryOp .Add (.ref t) (.ref b)) Q E s := by
  obtain ⟨⟨cls, dd, data, sl⟩, ho, hc, n, hd⟩ := id ht
  obtain ⟨⟨cls2, dd2, data2, sl2⟩, ho2, hc2, n2, hd2⟩ := id hb
  simp only at hc hd hc2 hd2
  subst hc hd hc2 hd2
  have e : vs.toArray ++ ws.toArray = (vs ++ ws).toArray := by simp
  by_cases hw : ws = []
  · exact concat_meets ⟨_, ho, rfl⟩ ⟨_, ho2, rfl⟩ noFill_tuple_add seq_tuple_add PySem.F.slot_tuple_add PySem.F.entry_tuple_add (PySem.F.args_tuple_add_2 _ _)
      (tuple_addW1 t b vs.toArray ws.toArray n n2 dd dd2 sl sl2 (by simpa using hv) (by simp [hw])) ⟨ho, ho2, h1 hw⟩
  · refine concat_meets ⟨_, ho, rfl⟩ ⟨_, ho2, rfl⟩ noFill_tuple_add seq_tuple_add PySem.F.slot_tuple_add PySem.F.entry_tuple_add (PySem.F.args_tuple_add_2 _ _)
      (tuple_addW2 t b vs.toArray ws.toArray n n2 dd dd2 sl sl2 (by simpa using hv) (by simpa using hw) (by rw [List.size_toArray, List.size_toArray]; exact hsz)) ⟨ho, ho2, ?_⟩
    rw [e]
    exact h2 hw
def sIx (n d : Nat) : Option Int → Nat
  | none => d
  | some v => if v < 0 then (v + (n : Int)).toNat else min v.toNat n
theorem sIx_none (n d : Nat) : sIx n d none = d := rfl
theorem sIx_nat (n d k : Nat) : sIx n d (some (k : Int)) = min k n := by
  show (if (k : Int) < 0 then ((k : Int) + (n : Int)).toNat else min (k : Int).toNat n) = min k n
  rw [if_neg (by omega), Int.toNat_natCast]
end
end HT
namespace L2
open PySem PySem.Spec PyProof.Rows
abbrev TO := St → Hp → (Option Int → Hp → Prop) → Prop
def PO (X : Cx) (e : Option Expr) (t : TO) : Prop :=
  ∀ (pins : List (Addr × Obj)) (s : Shared) (σ : St) (H : Hp) (Q : Option Int → Hp → Prop), Inv X pins σ H s → t σ H Q →
    wpAny (model X.prog X.w) X.A (evalPart e X.env) (fun u s' => ∃ o H', Inv X pins σ H' s' ∧ IsPart u o ∧ Q o H') X.xe s
def tNoPart : TO := fun _ H Q => Q none H
def tPart (t : TE) : TO := fun σ H Q => t σ H fun x H1 => ∃ i, x = .int i ∧ Q (some i) H1
section
variable {X : Cx} {e : Expr} {te : TE} {lo hi : Option Expr} {tl th : TO} {pos p2 : Pos}
theorem po_none : PO X none tNoPart := by
  intro pins s σ H Q I h
  exact wpAny_pure ⟨none, H, I, .none, h⟩
theorem po_some (h : PE X e te) : PO X (some e) (tPart te) := by
  intro pins s σ H Q I hw
  refine thn (h pins s σ H _ I hw) fun u s1 ⟨x, H1, I1, r1, q1⟩ => ?_
  obtain ⟨i, rfl, q⟩ := q1
  obtain ⟨t, rfl⟩ := r1
  exact ⟨some i, H1, I1, .int i t, q⟩
def SlR (X : Cx) (r : V → Option Int → Option Int → Hp → VK → Prop) : Prop :=
  ∀ (pins : List (Addr × Obj)) (s : Shared) (σ : St) (H : Hp) (x : V) (v vl vu : Value) (lo hi : Option Int) (sl : Addr) (Q : VK), Inv X pins σ H s → RelV x v → s.heap.IsSliceOf sl vl vu .none → IsPart vl lo → IsPart vu hi → r x lo hi H Q →
    ∃ T id, typeLookup (.type T) "__getitem__" = pure (some (.builtin id)) ∧ s.TypeIs v T ∧ wpAny (model X.prog X.w) X.A (getItem v (.ref sl)) (EP X pins σ Q) X.xe s
def tSl (r : V → Option Int → Option Int → Hp → VK → Prop) (te : TE) (tl th : TO) : TE := fun σ H Q => te σ H fun x H1 => tl σ H1 fun l H2 => th σ H2 fun u H3 => r x l u H3 Q
theorem pe_slice {r : V → Option Int → Option Int → Hp → VK → Prop} (hr : SlR X r) (he : PE X e te) (hl : PO X lo tl) (hu : PO X hi th) : PE X (.Subscript e (.Slice lo hi none p2) pos) (tSl r te tl th) := by
  intro pins s σ H Q I h
  refine Subscript_ (thn (he pins s σ H _ I h) fun v s1 ⟨x, H1, I1, r1, q1⟩ => ?_)
  refine wpAny_Slice (thn (hl pins s1 σ H1 _ I1 q1) fun vl s2 ⟨l, H2, I2, pl, q2⟩ => thn (hu pins s2 σ H2 _ I2 q2) fun vu s3 ⟨u, H3, I3, pu, q3⟩ => ?_)
  rw [evalPart_none]
  refine wpAny_pure ?_
  have I4 : Inv X pins σ H3 { s3 with heap := s3.heap.push { cls := .type "slice", data := .fields #[vl, vu, .none] } } := I3.kept (t' := s3.toks) fun b ob q => Heap.get?_push_of_some _ q
  obtain ⟨T, id, hT, ht, hg⟩ := hr pins { s3 with heap := s3.heap.push { cls := .type "slice", data := .fields #[vl, vu, .none] } } σ H3 x v vl vu l u s3.heap.objs.size Q I4 r1 (Heap.IsSliceOf.new ..) pl pu q3
  show wpAny (model X.prog X.w) X.A (subscriptTail e (.Slice lo hi none p2) v (.ref s3.heap.objs.size)) (EP X pins σ Q) X.xe { s3 with heap := s3.heap.push { cls := .type "slice", data := .fields #[vl, vu, .none] } }
  exact tail_any (ops := [.ref s3.heap.objs.size, v]) ht hT hg (by with_unfolding_all rfl)
def cutV (xs : List V) (lo hi : Option Int) : List V := (xs.drop (HT.sIx xs.length 0 lo)).take (HT.sIx xs.length xs.length hi - HT.sIx xs.length 0 lo)
theorem cutV_length (xs : List V) (lo hi : Option Int) : (cutV xs lo hi).length ≤ xs.length := by
  unfold cutV
  rw [List.length_take, List.length_drop]
  omega
def rCatT (K : PySem.W.Frag) : R2 := fun x y H Q => ∃ a b xs ys, x = .ref a ∧ y = .ref b ∧ SqT K H a xs ∧ SqT K H b ys ∧ xs ≠ [] ∧ xs.length + ys.length ≤ sizeLine ∧
  (ys = [] → Q (.ref a) H) ∧ (ys ≠ [] → ∀ p, H p = none → Q (.ref p) (upd H p (.tup (xs ++ ys))))
theorem Vals.nil_iff {xs : List V} {us : List Value} (r : Vals xs us) : us = [] ↔ xs = [] := by
  cases r with
  | nil => simp
  | cons _ _ => simp
theorem op_catT : OpR X (binaryOp .Add) (rCatT X.K) := by
  intro pins s σ H x y v u Q I rx ry h
  obtain ⟨a, b, xs, ys, rfl, rfl, ha, hb, hx, hz, q1, q2⟩ := h
  cases rx
  cases ry
  obtain ⟨its, r1, p1, _⟩ := I.tuple ha
  obtain ⟨its2, r2, p2, _⟩ := I.tuple hb
  refine HT.cat_tup p1 p2 (fun z => hx (r1.nil_iff.mp z)) (fun z => ⟨.ref a, H, I, rfl, q1 (r2.nil_iff.mp z)⟩) (fun z => ?_) (by rw [← r1.length, ← r2.length]; exact hz)
  refine ⟨.ref s.heap.objs.size, _, I.laid (t' := s.toks) (o := .tup (xs ++ ys)) (fun b ob q => Heap.get?_push_of_some _ q) (Nat.le_refl _) ?_, rfl, q2 (fun w => z (r2.nil_iff.mpr w)) _ (I.hok.fresh (Nat.le_refl _))⟩
  exact ⟨by rw [List.length_append]; exact hz, _, r1.append r2, IsTup.new _ _⟩
end
end L2
namespace L2
open PySem PySem.Spec PyProof.Rows
def ixN (n : Nat) (i : Int) : Option Nat := if 0 ≤ i then (if i < n then some i.toNat else none) else if -(n : Int) ≤ i then some (i + n).toNat else none
def atI {α : Type} (xs : List α) (i : Int) : Option α := (ixN xs.length i).bind fun j => xs[j]?
theorem ixN_seq {n : Nat} {i : Int} {j : Nat} (h : ixN n i = some j) : seqIndex? i n = some j ∧ j < n ∧ -(n : Int) ≤ i ∧ i < n := by
  unfold ixN at h
  by_cases h0 : 0 ≤ i
  · rw [if_pos h0] at h
    by_cases h1 : i < n
    · rw [if_pos h1] at h
      have e := Option.some.inj h
      exact ⟨by rw [seqIndex_of h0 h1, e], by omega, by omega, h1⟩
    · rw [if_neg h1] at h; cases h
  · rw [if_neg h0] at h
    by_cases h1 : -(n : Int) ≤ i
    · rw [if_pos h1] at h
      have e := Option.some.inj h
      exact ⟨by rw [seqIndex_neg (by omega) h1, e], by omega, h1, by omega⟩
    · rw [if_neg h1] at h; cases h
theorem atI_get {α : Type} {xs : List α} {i : Int} {v : α} (h : atI xs i = some v) : ∃ j, seqIndex? i xs.length = some j ∧ xs[j]? = some v ∧ j < xs.length ∧ -(xs.length : Int) ≤ i ∧ i < xs.length := by
  unfold atI at h
  cases e : ixN xs.length i with
  | none => rw [e] at h; cases h
  | some j =>
    rw [e] at h
    obtain ⟨h1, h2, h3, h4⟩ := ixN_seq e
    exact ⟨j, h1, h, h2, h3, h4⟩
theorem atI_nat {α : Type} {xs : List α} {j : Nat} {v : α} (h : xs[j]? = some v) : atI xs (j : Int) = some v := by
  have hj := (List.getElem?_eq_some_iff.mp h).1
  have e : ixN xs.length (j : Int) = some j := by
    unfold ixN
    rw [if_pos (by omega), if_pos (by omega)]; simp
  unfold atI; rw [e]; exact h
theorem atI_last {α : Type} (xs : List α) (v : α) : atI (xs ++ [v]) (-1) = some v := by
  have hl : (xs ++ [v]).length = xs.length + 1 := by simp
  have e : ixN (xs ++ [v]).length (-1) = some xs.length := by
    unfold ixN
    rw [hl, if_neg (by decide), if_pos (by omega)]
    congr 1
    omega
  unfold atI
  rw [e]
  simp
def PlainIx (b : Expr) : Prop := ∀ o i, subscripted b false o i = operate [o, i] (getItem o i)
def IxR (X : Cx) (r : R2) : Prop :=
  ∀ (value slice : Expr) (pins : List (Addr × Obj)) (s : Shared) (σ : St) (H : Hp) (x y : V) (v u : Value) (Q : VK), Inv X pins σ H s → RelV x v → RelV y u → r x y H Q →
    subscripted slice false v u = operate [v, u] (getItem v u) → wpAny (model X.prog X.w) X.A (subscriptTail value slice v u) (EP X pins σ Q) X.xe s
def MtR (X : Cx) (id : String) (r : V → List V → Hp → VK → Prop) : Prop :=
  ∀ (pins : List (Addr × Obj)) (s : Shared) (σ : St) (H : Hp) (x : V) (xs : List V) (v : Value) (us : List Value) (Q : VK), Inv X pins σ H s → RelV x v → Vals xs us → r x xs H Q →
    wpAny (model X.prog X.w) X.A (call (.builtin id) (v :: us)) (EP X pins σ Q) X.xe s
section
variable {X : Cx} {a b : Expr} {ta tb : TE} {pos : Pos}
theorem IxR.or {r r' : R2} (h : IxR X r) (h' : IxR X r') : IxR X (fun x y H Q => r x y H Q ∨ r' x y H Q) := by
  intro value slice pins s σ H x y v u Q I rx ry q hs
  rcases q with q | q
  · exact h value slice pins s σ H x y v u Q I rx ry q hs
  · exact h' value slice pins s σ H x y v u Q I rx ry q hs
theorem pe_ix {r : R2} (hr : IxR X r) (ha : PE X a ta) (hb : PE X b tb) (hs : PlainIx b) : PE X (.Subscript a b pos) (tOp r ta tb) := by
  intro pins s σ H Q I h
  exact Subscript_ (binT ha hb I h fun v u s2 x y H2 I2 rx ry q => hr a b pins s2 σ H2 x y v u Q I2 rx ry q (hs _ _))
def rIxL (K : PySem.W.Frag) : R2 := fun x y H Q => ∃ p xs i v, x = .ref p ∧ y = .int i ∧ SqL K H p xs ∧ atI xs i = some v ∧ Q v H
def rIxT (K : PySem.W.Frag) : R2 := fun x y H Q => ∃ p xs i v, x = .ref p ∧ y = .int i ∧ SqT K H p xs ∧ atI xs i = some v ∧ Q v H
def rIxS : R2 := fun x y H Q => ∃ z i c, x = .str z ∧ y = .int i ∧ z.length ≤ sizeLine ∧ atI z.cps.toList i = some c ∧ Q (.str ⟨#[c]⟩) H
theorem ix_list : IxR X (rIxL X.K) := by
  intro value slice pins s σ H x y v u Q I rx ry h hs
  obtain ⟨p, xs, i, z, rfl, rfl, hq, he, q⟩ := h
  cases rx
  obtain ⟨t, rfl⟩ := ry
  obtain ⟨its, r, pl, hz⟩ := I.list hq
  obtain ⟨j, h1, h2, h3, h4, h5⟩ := atI_get he
  obtain ⟨w, ew, rw'⟩ := r.get h2
  have hl := r.length
  have hn := line63
  have fin : EP X pins σ Q w s := ⟨z, H, I, rw', q⟩
  by_cases h0 : 0 ≤ i
  · have hj : i.toNat = j := by
      rw [seqIndex_of h0 h5] at h1
      exact Option.some.inj h1
    exact item_listR pl.isList h0 (by omega) (by rw [hj]; simpa using ew) fin hs
  · have hj : (i + (its.toArray.size : Int)).toNat = j := by
      rw [seqIndex_neg (by omega) h4] at h1
      rw [List.size_toArray, ← hl]
      exact Option.some.inj h1
    exact subscriptTail_builtinR (x := w) pl.isList.typeIs slot_list_getitem.lookup
      (wpAny_getItem_list_neg (Q := fun r s' => r = w ∧ EP X pins σ Q r s') pl.isList (by omega) (by rw [List.size_toArray] <;> omega) (by omega) (by rw [hj]; simpa using ew) ⟨rfl, fin⟩) hs
theorem ix_tup : IxR X (rIxT X.K) := by
  intro value slice pins s σ H x y v u Q I rx ry h hs
  obtain ⟨p, xs, i, z, rfl, rfl, hq, he, q⟩ := h
  cases rx
  obtain ⟨t, rfl⟩ := ry
  obtain ⟨its, r, pl, hz⟩ := I.tuple hq
  obtain ⟨j, h1, h2, h3, h4, h5⟩ := atI_get he
  obtain ⟨w, ew, rw'⟩ := r.get h2
  have hl := r.length
  have hn := line63
  have fin : EP X pins σ Q w s := ⟨z, H, I, rw', q⟩
  exact subscriptTail_builtinR (x := w) pl.typeIs slot_tuple_getitem.lookup
    (getItem_tuple (j := j) (Q := fun r s' => r = w ∧ EP X pins σ Q r s') pl (by omega) (by omega) (by rw [List.size_toArray, ← hl]; exact h1) (by simpa using ew) ⟨rfl, fin⟩) hs
theorem ix_str : IxR X rIxS := by
  intro value slice pins s σ H x y v u Q I rx ry h hs
  obtain ⟨z, i, c, rfl, rfl, hz, he, q⟩ := h
  obtain ⟨t, rfl⟩ := rx
  obtain ⟨t', rfl⟩ := ry
  obtain ⟨j, h1, h2, h3, h4, h5⟩ := atI_get he
  have hl : z.cps.toList.length = z.length := by simp [Str.length]
  rw [hl] at h1 h4 h5
  have hn := line63
  exact tail_any (typeIs_str s z t) slot_str_getitem.lookup (getItem_str (c := c) (by
    have e1 : decide (i < -(2 ^ 63 : Int)) = false := decide_eq_false (by omega)
    have e2 : decide (i ≥ 2 ^ 63) = false := decide_eq_false (by omega)
    rw [e1, e2, Bool.or_false]) (by rw [h1]; simpa using h2) ⟨.str ⟨#[c]⟩, H, I.tok _, ⟨_, rfl⟩, q⟩) hs
def rIx (K : PySem.W.Frag) : R2 := fun x y H Q => rIxL K x y H Q ∨ rIxT K x y H Q ∨ rIxS x y H Q
theorem ix_seq : IxR X (rIx X.K) := ix_list.or (ix_tup.or ix_str)
theorem mapSeq_set (its : List Value) (n j : Nat) (u : Value) : Obj.mapSeq (·.setIfInBounds j u) { cls := .type "list", data := .seq its.toArray n } = { cls := .type "list", data := .seq (its.set j u).toArray n } := by
  simp [Obj.mapSeq]
theorem Inv.lst {pins : List (Addr × Obj)} {σ : St} {H : Hp} {s : Shared} {p : Addr} {xs : List V} (I : Inv X pins σ H s) (h : H p = some (.lst xs)) :
    ∃ (its : List Value) (n : Nat), Vals xs its ∧ s.heap.get? p = some { cls := .type "list", data := .seq its.toArray n } ∧ xs.length ≤ sizeLine := by
  obtain ⟨z, its, n, r, e⟩ := I.hok p _ h
  exact ⟨its, n, r, e, z⟩
theorem Inv.lstUpd {pins : List (Addr × Obj)} {σ : St} {H : Hp} {s : Shared} {p : Addr} {xs ys : List V} {its its' : List Value} {n n' : Nat} {f : Obj → Obj} (I : Inv X pins σ H s) (h : H p = some (.lst xs))
    (ho : s.heap.get? p = some { cls := .type "list", data := .seq its.toArray n }) (hf : f { cls := .type "list", data := .seq its.toArray n } = { cls := .type "list", data := .seq its'.toArray n' }) (r : Vals ys its') (hz : ys.length ≤ sizeLine) (t : Nat) :
    Inv X pins σ (upd H p (.lst ys)) { s with heap := s.heap.update p f, toks := t } := by
  have e : (s.heap.update p f).get? p = some { cls := .type "list", data := .seq its'.toArray n' } := by
    rw [Heap.get?_update_self f ho (by rw [hf] <;> rfl), hf]
  refine I.write (x := p) (e := p) (by rw [h]; trivial) (.inl rfl) (fun b u hb q => (Heap.get?_update_other _ _ (Ne.symm hb)).trans q) ⟨_, e⟩ ?_
  exact ⟨hz, its', n', r, e⟩
def rSetL : V → V → V → Hp → (Hp → Prop) → Prop := fun o i v H Q => ∃ p xs k j, o = .ref p ∧ i = .int k ∧ H p = some (.lst xs) ∧ ixN xs.length k = some j ∧ Q (upd H p (.lst (xs.set j v)))
theorem set_list : PSet X rSetL := by
  intro pins s σ H o i v ov iv u Q I ro ri rv h
  obtain ⟨p, xs, k, j, rfl, rfl, hp, hj, q⟩ := h
  cases ro
  obtain ⟨t, rfl⟩ := ri
  obtain ⟨its, n, r, ho, hz⟩ := I.lst hp
  obtain ⟨h1, h2, h3, h4⟩ := ixN_seq hj
  have hl := r.length
  have hn := line63
  have I' : Inv X pins σ (upd H p (.lst (xs.set j v))) { s with heap := s.heap.update p (Obj.mapSeq (·.setIfInBounds j u)) } :=
    I.lstUpd hp ho (mapSeq_set its n j u) (r.set rv j) (by rw [List.length_set]; exact hz) s.toks
  by_cases h0 : 0 ≤ k
  · have hk : k.toNat = j := by
      rw [seqIndex_of h0 h4] at h1
      exact Option.some.inj h1
    exact PySem.W.ki_setAt ho h0 (by omega) (by rw [List.size_toArray, ← hl]; exact h4) (by rw [hk]; exact ⟨_, I', q⟩)
  · have hk : (k + (its.toArray.size : Int)).toNat = j := by
      rw [seqIndex_neg (by omega) h3] at h1
      rw [List.size_toArray, ← hl]
      exact Option.some.inj h1
    exact PySem.W.ki_setBack ho (by omega) (by rw [List.size_toArray, ← hl]; exact h3) (by omega) (by rw [hk]; exact ⟨_, I', q⟩)
theorem slice_bounds (lo hi : Option Int) (n : Nat) : (sliceBounds lo hi none n).1 = ((HT.sIx n 0 lo : Nat) : Int) ∧ (sliceBounds lo hi none n).2.1 = ((HT.sIx n n hi : Nat) : Int) ∧ (sliceBounds lo hi none n).2.2 = 1 := by
  refine ⟨?_, ?_, rfl⟩
  · cases lo with
    | none => simp [sliceBounds, HT.sIx]
    | some i =>
      simp only [sliceBounds, HT.sIx, Option.getD_none, show (1 : Int) > 0 by decide, if_true]
      by_cases h : i < 0
      · simp only [h, if_true] <;> omega
      · simp only [h, if_false] <;> omega
  · cases hi with
    | none => simp [sliceBounds, HT.sIx]
    | some i =>
      simp only [sliceBounds, HT.sIx, Option.getD_none, show (1 : Int) > 0 by decide, if_true]
      by_cases h : i < 0
      · simp only [h, if_true] <;> omega
      · simp only [h, if_false] <;> omega
theorem slicePick_cut (its : List Value) (lo hi : Option Int) : slicePick its.toArray lo hi none = ((its.drop (HT.sIx its.length 0 lo)).take (HT.sIx its.length its.length hi - HT.sIx its.length 0 lo)).toArray := by
  obtain ⟨h1, h2, h3⟩ := slice_bounds lo hi its.toArray.size
  unfold slicePick
  rw [h1, h2, h3]
  simp only [sliceRange_one, pick_run, List.size_toArray] <;> rfl
def rSlL (K : PySem.W.Frag) : V → Option Int → Option Int → Hp → VK → Prop := fun x lo hi H Q => ∃ a xs, x = .ref a ∧ SqL K H a xs ∧ ∀ p, H p = none → Q (.ref p) (upd H p (.lst (cutV xs lo hi)))
theorem sl_list : SlR X (rSlL X.K) := by
  intro pins s σ H x v vl vu lo hi sl Q I rx hs pl pu h
  obtain ⟨a, xs, rfl, hx, q⟩ := h
  cases rx
  obtain ⟨its, r, ht, hz⟩ := I.list hx
  have hlen := r.length
  refine ⟨"list", _, slot_list_getitem.lookup, ht.isList.typeIs, ?_⟩
  refine wpAny_getItem_list_slice ht.isList hs pl pu .none (by simp) ?_ (by rw [List.size_toArray] <;> omega)
  rw [slicePick_cut, ← hlen]
  refine ⟨.ref s.heap.objs.size, _, I.laid (t' := s.toks) (o := .lst (cutV xs lo hi)) (fun b ob q => Heap.get?_push_of_some _ q) (Nat.le_refl _) ?_, rfl, q _ (I.hok.fresh (Nat.le_refl _))⟩
  exact ⟨Nat.le_trans (cutV_length xs lo hi) hz, _, 0, (r.drop (HT.sIx xs.length 0 lo)).take (HT.sIx xs.length xs.length hi - HT.sIx xs.length 0 lo), Heap.get?_push_size _ rfl⟩
theorem call_list_of : CallR X (.type "list") (fun xs H Q => ∃ p ys, xs = [.ref p] ∧ (SqL X.K H p ys ∨ SqT X.K H p ys) ∧ ∀ l, H l = none → Q (.ref l) (upd H l (.lst ys))) := by
  intro pins s σ H xs us Q I r h
  obtain ⟨p, ys, rfl, hq, q⟩ := h
  obtain ⟨u, rfl, rx⟩ := vals1 r
  cases rx
  have fin : ∀ (its : List Value), Vals ys its → ys.length ≤ sizeLine → ∀ (h' : Heap) (c' : Nat), (∀ b o', s.heap.get? b = some o' → h'.get? b = some o') →
      h'.get? s.heap.objs.size = some { cls := .type "list", dict := none, data := .seq its.toArray c', slots := #[] } → EP X pins σ Q (.ref s.heap.objs.size) { s with heap := h' } := fun its r' hz h' c' kp e =>
    ⟨.ref s.heap.objs.size, _, I.laid (t' := s.toks) kp (Nat.le_refl _) (show ObjOk X.prog X.w _ h' _ (.lst ys) from ⟨hz, its, c', r', e⟩), rfl, q _ (I.hok.fresh (Nat.le_refl _))⟩
  rcases hq with hq | hq
  · obtain ⟨its, r', pl, hz⟩ := I.list hq
    have hlen := r'.length
    obtain ⟨o, ho, hc, n, hd⟩ := pl.isList
    exact call_list_seq p (.inl rfl) ho hc hd (fun h' c' kp e => fin its r' hz h' c' kp e) (by simp only [List.size_toArray] <;> omega)
  · obtain ⟨its, r', pl, hz⟩ := I.tuple hq
    have hlen := r'.length
    obtain ⟨o, ho, hc, n, hd⟩ := pl
    exact call_list_seq p (.inr rfl) ho hc hd (fun h' c' kp e => fin its r' hz h' c' kp e) (by simp only [List.size_toArray] <;> omega)
theorem call_tuple_of : CallR X (.type "tuple") (fun xs H Q => ∃ p ys, xs = [.ref p] ∧ ((SqL X.K H p ys ∧ ∀ l, H l = none → Q (.ref l) (upd H l (.tup ys))) ∨ (SqT X.K H p ys ∧ Q (.ref p) H))) := by
  intro pins s σ H xs us Q I r h
  obtain ⟨p, ys, rfl, h⟩ := h
  obtain ⟨u, rfl, rx⟩ := vals1 r
  cases rx
  rcases h with ⟨hq, q⟩ | ⟨hq, q⟩
  · obtain ⟨its, r', pl, hz⟩ := I.list hq
    have hlen := r'.length
    refine call_tuple_list pl.isList (fun h' kp => ?_) (by simp only [List.size_toArray] <;> omega)
    have I1 : Inv X pins σ H { s with heap := h' } := I.kept (t' := s.toks) kp
    have I2 : Inv X pins σ (upd H h'.objs.size (.tup ys)) { s with heap := h'.push { cls := .type "tuple", data := .seq its.toArray } } :=
      I1.laid (t' := s.toks) (fun b o e => Heap.get?_push_of_some _ e) (Nat.le_refl _) (show ObjOk X.prog X.w _ _ _ (.tup ys) from ⟨hz, its, r', IsTup.new _ _⟩)
    exact ⟨.ref h'.objs.size, _, I2, rfl, q _ (I1.hok.fresh (Nat.le_refl _))⟩
  · obtain ⟨its, r', pl, hz⟩ := I.tuple hq
    exact call_tuple_same pl ⟨.ref p, H, I, rfl, q⟩
def tyV (K : PySem.W.Frag) (T : String) (x : V) (H : Hp) : Prop := match x with
  | .str _ => T = "str"
  | .int _ => T = "int"
  | .ref p => (T = "list" ∧ ∃ xs, SqL K H p xs) ∨ (T = "tuple" ∧ ∃ o, K.lookup p = some o ∧ o.cls = .type "tuple" ∧ o.dict = none) ∨
      (T = "dict" ∧ ((∃ kvs, H p = some (.dK kvs)) ∨ ∃ kvs, H p = some (.dT kvs))) ∨ (T = "set" ∧ ∃ S n, H p = some (.set S n))
  | _ => False
theorem tyV_is {pins : List (Addr × Obj)} {σ : St} {H : Hp} {s : Shared} {T : String} {x : V} {v : Value} (I : Inv X pins σ H s) (r : RelV x v) (ty : tyV X.K T x H) :
    s.TypeIs v T ∧ ∀ a, v = .ref a → ∃ ob, s.heap.get? a = some ob ∧ ob.dict = none := by
  cases x with
  | str z =>
    obtain ⟨t, rfl⟩ := r
    cases (show T = "str" from ty)
    exact ⟨typeIs_str s z t, fun _ e => nomatch e⟩
  | int i =>
    obtain ⟨t, rfl⟩ := r
    cases (show T = "int" from ty)
    exact ⟨typeIs_int s i t, fun _ e => nomatch e⟩
  | ref p =>
    cases r
    rcases ty with ⟨rfl, xs, hq⟩ | ⟨rfl, o, hk, hc, hd⟩ | ⟨rfl, hk⟩ | ⟨rfl, S, n, hk⟩
    · obtain ⟨its, _, pl, _⟩ := I.list hq
      refine ⟨pl.isList.typeIs, fun a e => ?_⟩
      cases e
      obtain ⟨o, n, e, c, hd, _⟩ := pl
      exact ⟨o, e, hd⟩
    · refine ⟨⟨o, I.kIn p o hk, hc⟩, fun a e => ?_⟩
      cases e
      exact ⟨o, I.kIn _ o hk, hd⟩
    · have z : ∃ o, s.heap.get? p = some o ∧ o.ExactDict := by
        rcases hk with ⟨kvs, hk⟩ | ⟨kvs, hk⟩
        · obtain ⟨_, _, _, _, o, _, _, e, ex, _⟩ := I.hok p _ hk
          exact ⟨o, e, ex⟩
        · obtain ⟨_, _, _, _, o, _, _, e, ex, _⟩ := I.hok p _ hk
          exact ⟨o, e, ex⟩
      obtain ⟨o, e, ex⟩ := z
      refine ⟨⟨o, e, ex.1⟩, fun a e2 => ?_⟩
      cases e2
      exact ⟨o, e, ex.2.1⟩
    · obtain ⟨o, _, _, _, e, ex, _⟩ := I.hok p _ hk
      refine ⟨⟨o, e, ex.1⟩, fun a e2 => ?_⟩
      cases e2
      exact ⟨o, e, ex.2.1⟩
  | _ => exact False.elim ty
def tBM0 (K : PySem.W.Frag) (T : String) (r : V → List V → Hp → VK → Prop) (to : TE) : TE := fun σ H Q => to σ H fun x H1 => tyV K T x H1 ∧ r x [] H1 Q
def tBM (K : PySem.W.Frag) (T : String) (r : V → List V → Hp → VK → Prop) (to : TE) (t : TA) : TE := fun σ H Q => to σ H fun x H1 => tyV K T x H1 ∧ t σ H1 fun xs H2 => r x xs H2 Q
variable {o e : Expr} {es : List Expr} {to : TE} {t : TA} {name : Str} {apos cpos : Pos} {T id : String} {r : V → List V → Hp → VK → Prop}
theorem pe_bm0 (pa : PlainAttrs T) (slot : Slot T name id) (hty : typeOf (.builtin id) = pure (.type "method_descriptor")) (hm : MtR X id r) (ho : PE X o to)
    (hbase : attributeBase o name X.env (eval o X.env) = eval o X.env := by rfl) (hline : (apos.endLine == cpos.line) = true := by rfl) : PE X (.Call (.Attribute o name apos) [] [] cpos) (tBM0 X.K T r to) := by
  intro pins s σ H Q I h
  refine wpAny_Call_method0_late hbase hline (thn (ho pins s σ H _ I h) fun v s1 ⟨x, H1, I1, r1, ty, q1⟩ => ?_)
  obtain ⟨h1, h2⟩ := tyV_is I1 r1 ty
  exact ⟨T, id, pa, slot, hty, h1, h2, Calls.callWith_builtin rfl (PySem.evalArgs_none (hm pins s1 σ H1 x [] v [] Q I1 r1 .nil q1))⟩
theorem pe_bm (pa : PlainAttrs T) (slot : Slot T name id) (hty : typeOf (.builtin id) = pure (.type "method_descriptor")) (hm : MtR X id r) (ho : PE X o to) (ha : PA X (e :: es) t)
    (hbase : attributeBase o name X.env (eval o X.env) = eval o X.env := by rfl)
    (hfew : ((backTo cpos (starEach (e :: es) X.env)).all (fun x => !x.1) && (backToKw cpos (keywordEach [] X.env)).all (fun x => x.1.isSome)
      && decide ((e :: es).length + ([] : List Keyword).length + (if ([] : List Keyword).isEmpty then 0 else 1) < 30)) = true := by rfl)
    (hline : (apos.endLine == cpos.line) = true := by rfl) (hs : starEach (e :: es) X.env = (false, eval e X.env) :: starEach es X.env := by rfl) (hplain : (backTo cpos (starEach es X.env)).any (·.1) = false := by rfl) :
    PE X (.Call (.Attribute o name apos) (e :: es) [] cpos) (tBM X.K T r to t) := by
  intro pins s σ H Q I h
  refine wpAny_Call_method_late hbase hfew hline rfl (thn (ho pins s σ H _ I h) fun v s1 ⟨x, H1, I1, r1, ty, q1⟩ => ?_)
  obtain ⟨h1, h2⟩ := tyV_is I1 r1 ty
  refine ⟨T, id, pa, slot, hty, h1, h2, ?_⟩
  have hA := ha cpos pins s1 σ H1 _ I1 q1
  rw [hs] at hA ⊢
  refine Calls.callWith_builtin (by show (false || (backTo cpos (starEach es X.env)).any (·.1)) = false; rw [hplain] <;> rfl) (Calls.evalArgs_plain ?_)
  exact thn hA fun us s2 ⟨vs, H2, I2, r2, q2⟩ => hm pins s2 σ H2 x vs v us Q I2 r1 r2 q2
end
end L2
namespace L2
open PySem PySem.Spec PyProof.Rows
def MtM (X : Cx) (id : String) (r : V → List V → Hp → VK → Prop) : Prop :=
  ∀ (pins : List (Addr × Obj)) (s : Shared) (σ : St) (H : Hp) (x : V) (xs : List V) (v : Value) (us : List Value) (Q : VK), Inv X pins σ H s → RelV x v → Vals xs us → r x xs H Q →
    wpAny (model X.prog X.w) X.A (call (.builtin id) (v :: us)) (EP X pins σ Q) X.xe s
theorem Vals.one : ∀ {x : V} {us : List Value}, Vals [x] us → ∃ u, us = [u] ∧ RelV x u
  | _, _, .cons r .nil => ⟨_, rfl, r⟩
theorem Vals.zero : ∀ {us : List Value}, Vals [] us → us = []
  | _, .nil => rfl
theorem Vals.dropLast {xs : List V} {us : List Value} (h : Vals xs us) : Vals xs.dropLast us.dropLast := by
  induction h with
  | nil => exact .nil
  | cons r t ih =>
    cases t with
    | nil => exact .nil
    | cons q t' => exact .cons r ih
theorem Vals.rep {xs : List V} {us : List Value} (h : Vals xs us) : ∀ k : Nat, Vals (List.replicate k xs).flatten (List.replicate k us).flatten
  | 0 => .nil
  | k + 1 => by
    rw [List.replicate_succ, List.replicate_succ, List.flatten_cons, List.flatten_cons]
    exact Vals.append h (Vals.rep h k)
theorem erase_last {α : Type} (l : List α) : l.eraseIdx (l.length - 1) = l.dropLast := by
  induction l with
  | nil => rfl
  | cons a r ih =>
    cases r with
    | nil => rfl
    | cons b r =>
      have e : (a :: b :: r).length - 1 = ((b :: r).length - 1) + 1 := by
        have h1 : (a :: b :: r).length = r.length + 2 := rfl
        have h2 : (b :: r).length = r.length + 1 := rfl
        omega
      rw [e, List.eraseIdx_cons_succ, ih]
      all_goals rfl
theorem foldl_rep (its : List Value) : ∀ (k : Nat) (acc : List Value),
    List.foldl (fun x1 x2 => x1 ++ x2) acc.toArray (List.replicate k its.toArray) = (acc ++ (List.replicate k its).flatten).toArray
  | 0, acc => by simp
  | k + 1, acc => by
    have e : acc.toArray ++ its.toArray = (acc ++ its).toArray := by simp
    have e2 : (acc ++ its) ++ (List.replicate k its).flatten = acc ++ (List.replicate (k + 1) its).flatten := by
      rw [List.replicate_succ, List.flatten_cons, List.append_assoc]
    rw [← e2, ← foldl_rep its k (acc ++ its), ← e, List.replicate_succ, List.foldl_cons]
section
variable {X : Cx} {pins : List (Addr × Obj)} {σ : St} {H : Hp} {s : Shared} {l b : Addr} {xs ys zs : List V}
theorem Inv.lset {its its' : List Value} {n : Nat} {f : Array Value → Array Value} {t' : Nat} (I : Inv X pins σ H s) (hH : H l = some (.lst xs))
    (e : s.heap.get? l = some { cls := .type "list", data := .seq its.toArray n }) (hf : f its.toArray = its'.toArray) (hv : Vals ys its') (hz : ys.length ≤ sizeLine) :
    Inv X pins σ (upd H l (.lst ys)) { s with heap := s.heap.update l (Obj.mapSeq f), toks := t' } := by
  have q := PySem.IsL.update e f
  rw [hf] at q
  refine I.write (x := l) (e := l) (by rw [hH]; exact trivial) (.inl rfl) (fun b' u hb hu => (Heap.get?_update_other s.heap (Obj.mapSeq f) (Ne.symm hb)).trans hu) ⟨_, q⟩ ?_
  exact ⟨hz, its', _, hv, q⟩
theorem Inv.lnew {its : List Value} {t' : Nat} (I : Inv X pins σ H s) (hv : Vals ys its) (hz : ys.length ≤ sizeLine) :
    Inv X pins σ (upd H s.heap.objs.size (.lst ys)) { s with heap := s.heap.push { cls := .type "list", data := .seq its.toArray }, toks := t' } :=
  I.laid (fun _ _ q => Heap.get?_push_of_some _ q) (Nat.le_refl _) ⟨hz, its, 0, hv, Heap.get?_push_size _ rfl⟩
theorem Inv.fresh (I : Inv X pins σ H s) : H s.heap.objs.size = none := I.hok.fresh (Nat.le_refl _)
theorem Inv.lstM (I : Inv X pins σ H s) (hH : H l = some (.lst xs)) : xs.length ≤ sizeLine ∧ ∃ (its : List Value) (n : Nat), Vals xs its ∧ xs.length = its.length ∧ s.heap.get? l = some { cls := .type "list", data := .seq its.toArray n } := by
  obtain ⟨z, its, n, r, e⟩ := I.hok l _ hH
  exact ⟨z, its, n, r, r.length, e⟩
theorem notLongL {n : Nat} (h : n ≤ sizeLine) : Builtin.List.listTooLong n = false := by
  exact decide_eq_false (by omega)
end
section
variable {X : Cx}
def rAppend : V → List V → Hp → VK → Prop := fun x vs H Q => ∃ l xs y, x = .ref l ∧ vs = [y] ∧ H l = some (.lst xs) ∧ xs.length < sizeLine ∧ Q .non (upd H l (.lst (xs ++ [y])))
theorem mt_append : MtM X "list.append" rAppend := by
  intro pins s σ H x vs v us Q I rx rv h
  obtain ⟨l, xs, y, rfl, rfl, hH, hz, q⟩ := h
  cases rx
  obtain ⟨u, rfl, ru⟩ := rv.one
  obtain ⟨z, its, n, r, hl, e⟩ := I.lstM hH
  refine call_meets F.slot_list_append ⟨_, e, rfl⟩ F.entry_list_append (F.args_list_append_2 _ _) (PySem.list_append l its.toArray n u (by rw [List.size_toArray]; omega)) ⟨e, ?_⟩
  refine ⟨.non, _, I.lset (its' := its ++ [u]) hH e (by simp) (r.append (.cons ru .nil)) ?_, rfl, q⟩
  rw [List.length_append, List.length_singleton]
  omega
def rExtend : V → List V → Hp → VK → Prop := fun x vs H Q => ∃ l b xs zs, x = .ref l ∧ vs = [.ref b] ∧ H l = some (.lst xs) ∧ H b = some (.lst zs) ∧ xs.length + zs.length ≤ sizeLine ∧ Q .non (upd H l (.lst (xs ++ zs)))
theorem mt_extend : MtM X "list.extend" rExtend := by
  intro pins s σ H x vs v us Q I rx rv h
  obtain ⟨l, b, xs, zs, rfl, rfl, hH, hB, hz, q⟩ := h
  cases rx
  obtain ⟨u, rfl, ru⟩ := rv.one
  cases ru
  obtain ⟨z, its, n, r, hl, e⟩ := I.lstM hH
  obtain ⟨z2, its2, n2, r2, hl2, e2⟩ := I.lstM hB
  have hsz : its.toArray.size + its2.toArray.size ≤ sizeLine := by rw [List.size_toArray, List.size_toArray]; omega
  have hlong : ¬ (!its.toArray.isEmpty && Builtin.List.listTooLong (its.toArray.size + its2.toArray.size)) = true := by
    rw [notLongL hsz, Bool.and_false]
    exact Bool.false_ne_true
  refine call_meets F.slot_list_extend ⟨_, e, rfl⟩ F.entry_list_extend (F.args_list_extend_2 _ _)
    (AutoSeq1.list_extend_list_list_0 l its.toArray n b its2.toArray n2 hlong (by rw [List.size_toArray]; omega) (by omega)) ⟨e, e2, ?_⟩
  refine ⟨.non, _, I.lset (its' := its ++ its2) hH e (by simp) (r.append r2) ?_, rfl, q⟩
  rw [List.length_append]
  omega
def rPop : V → List V → Hp → VK → Prop := fun x vs H Q => ∃ l xs y, x = .ref l ∧ vs = [] ∧ H l = some (.lst xs) ∧ xs[xs.length - 1]? = some y ∧ Q y (upd H l (.lst xs.dropLast))
theorem mt_pop : MtM X "list.pop" rPop := by
  intro pins s σ H x vs v us Q I rx rv h
  obtain ⟨l, xs, y, rfl, rfl, hH, hy, q⟩ := h
  cases rx
  have hus := rv.zero
  subst hus
  obtain ⟨z, its, n, r, hl, e⟩ := I.lstM hH
  obtain ⟨u, hu, ru⟩ := r.get hy
  have hy' : its.toArray[its.toArray.size - 1]? = some u := by
    show its.toArray[its.length - 1]? = some u
    rw [← Array.getElem?_toList, ← hl]
    exact hu
  refine call_meets F.slot_list_pop ⟨_, e, rfl⟩ F.entry_list_pop (F.args_list_pop_1 _) (MeetsSeq.list_pop_last l its.toArray n u hy' (by rw [List.size_toArray]; omega)) ⟨e, ?_⟩
  refine ⟨y, _, I.lset (its' := its.dropLast) hH e ?_ r.dropLast ?_, ru, q⟩
  · rw [List.size_toArray, List.eraseIdxIfInBounds_toArray, erase_last]
  · rw [List.length_dropLast]
    omega
def rCat : R2 := fun x y H Q => ∃ l b xs zs, x = .ref l ∧ y = .ref b ∧ H l = some (.lst xs) ∧ H b = some (.lst zs) ∧ xs.length + zs.length ≤ sizeLine ∧ ∀ p, H p = none → Q (.ref p) (upd H p (.lst (xs ++ zs)))
theorem op_cat : OpR X (binaryOp .Add) rCat := by
  intro pins s σ H x y v u Q I rx ry h
  obtain ⟨l, b, xs, zs, rfl, rfl, hH, hB, hz, q⟩ := h
  cases rx
  cases ry
  obtain ⟨z, its, n, r, hl, e⟩ := I.lstM hH
  obtain ⟨z2, its2, n2, r2, hl2, e2⟩ := I.lstM hB
  refine PySem.P.add_list e e2 ?_ (by rw [List.size_toArray, List.size_toArray]; omega)
  have ea : its.toArray ++ its2.toArray = (its ++ its2).toArray := by simp
  rw [ea]
  exact ⟨.ref _, _, I.lnew (t' := s.toks) (r.append r2) (by rw [List.length_append]; omega), rfl, q _ I.fresh⟩
def rRep : R2 := fun x y H Q => ∃ l k xs, x = .ref l ∧ y = .int k ∧ H l = some (.lst xs) ∧ -(2 ^ 63) ≤ k ∧ k < 2 ^ 63 ∧ xs.length * k.toNat ≤ sizeLine ∧
  ∀ p, H p = none → Q (.ref p) (upd H p (.lst (List.replicate k.toNat xs).flatten))
theorem len_rep {α : Type} (xs : List α) (k : Nat) : (List.replicate k xs).flatten.length = k * xs.length := by
  induction k with
  | zero => simp
  | succ k ih => rw [List.replicate_succ, List.flatten_cons, List.length_append, ih, Nat.succ_mul, Nat.add_comm]
theorem op_rep : OpR X (binaryOp .Mult) rRep := by
  intro pins s σ H x y v u Q I rx ry h
  obtain ⟨l, k, xs, rfl, rfl, hH, h1, h2, hz, q⟩ := h
  cases rx
  obtain ⟨t, rfl⟩ := ry
  obtain ⟨z, its, n, r, hl, e⟩ := I.lstM hH
  have hlen : its.toArray.size * k.toNat ≤ sizeLine := by rw [List.size_toArray, ← hl]; exact hz
  have hcap : ¬ its.toArray.size * k.toNat > (2 ^ 63 - 1) / 8 := by
    have : (sizeLine : Nat) ≤ (2 ^ 63 - 1) / 8 := by decide
    omega
  have hfit : ¬ (!Builtin.List.listFitsIndex k) = true := by
    rw [fitsIndex_both h1 h2]
    exact Bool.false_ne_true
  have hlong : ¬ Builtin.List.listTooLong (its.toArray.size * k.toNat) = true := by
    rw [notLongL hlen]
    exact Bool.false_ne_true
  have hnew : List.foldl (fun x1 x2 => x1 ++ x2) #[] (List.replicate (if its.toArray.isEmpty = true then 0 else k.toNat) its.toArray) = (List.replicate k.toNat its).flatten.toArray := by
    have f0 : ∀ m : Nat, List.foldl (fun x1 x2 => x1 ++ x2) #[] (List.replicate m its.toArray) = (List.replicate m its).flatten.toArray := fun m => by
      have := foldl_rep its m []
      exact this
    rw [f0]
    cases its with
    | nil => simp
    | cons a r' => rw [if_neg (by simp)]
  refine wpAny_binaryOp_repeat_ref (T := "list") (U := "int") (by decide) ⟨_, e, rfl⟩ (fun s' => typeIs_int s' k t) noFill_list_mul F.fills_int_mul F.slot_int_rmul repeat_list F.slot_int_index.lookup
    (call_meets F.slot_int_rmul (typeIs_int s k t) F.entry_int_rmul (F.args_int_rmul_2 _ _) (int___rmul___int_list k t l its.toArray n)
      ⟨e, rfl, ⟨_, e, rfl⟩, call_meets F.slot_list_mul ⟨_, e, rfl⟩ F.entry_list_mul (F.args_list_mul_2 _ _) (AutoListH.list___mul___list_int_3 l its.toArray n k t hfit hcap hlong) ⟨e, ?_⟩⟩)
  rw [hnew]
  exact ⟨.ref _, _, I.lnew (t' := s.toks) (r.rep k.toNat) (by rw [len_rep, Nat.mul_comm]; exact hz), rfl, q _ I.fresh⟩
end
section
variable {prog : Program} {w : World} {A : Around} {E : Value → Shared → Prop} {s : Shared}
theorem splice_eq (its its2 : List Value) (a c : Nat) : its.toArray.extract 0 a ++ its2.toArray ++ its.toArray.extract c its.toArray.size = (its.take a ++ its2 ++ its.drop c).toArray := by
  apply Array.toList_inj.mp
  first
    | (simp
       exact List.take_of_length_le (by simp))
    | simp [List.take_of_length_le]
    | simp
theorem bounds_run {a c n : Nat} (hac : a ≤ c) (hc : c ≤ n) : sliceBounds (some (a : Int)) (some (c : Int)) none n = ((a : Int), (c : Int), 1) := by
  simp only [sliceBounds, Option.getD_none]
  have h1 : ¬ ((a : Int) < 0) := by omega
  have h2 : ¬ ((c : Int) < 0) := by omega
  congr 1
  · omega
  · congr 1; omega
set_option maxRecDepth 100000 in
theorem setItem_slice {l b sl : Addr} {items new : Array Value} {n n2 : Nat} {vl vu : Value} {a c : Nat} {Q : Unit → Shared → Prop}
    (e : s.heap.get? l = some { cls := .type "list", data := .seq items n }) (e2 : s.heap.get? b = some { cls := .type "list", data := .seq new n2 }) (hne : l ≠ b)
    (hs : s.heap.IsSliceOf sl vl vu .none) (pl : IsPart vl (some (a : Int))) (pu : IsPart vu (some (c : Int))) (hac : a ≤ c) (hc : c ≤ items.size)
    (hsz : items.size + new.size ≤ sizeLine) (h : Q () { s with heap := s.heap.update l (Obj.mapSeq fun xs => xs.extract 0 a ++ new ++ xs.extract c xs.size) }) :
    wpAny (model prog w) A (setItem (.ref l) (.ref sl) (.ref b)) Q E s := by
  have hl : s.heap.IsList l items := PySem.IsL.isList e
  have hb : s.heap.IsList b new := PySem.IsL.isList e2
  obtain ⟨os, hos, hcs, hds⟩ := id hs
  have hTs : s.TypeIs (.ref sl) "slice" := ⟨os, hos, hcs⟩
  have hstep : ¬ ((rawPart none == rawInt 0) = true) := Bool.false_ne_true
  have hsame : Builtin.List.listSameRef (.ref l) (.ref b) = false := by
    unfold Builtin.List.listSameRef
    exact beq_eq_false_iff_ne.mpr hne
  have hmax : (max (a : Int) (c : Int)).toNat = c := by omega
  have hz' : ((fun xs : Array Value => xs.extract 0 a ++ new ++ xs.extract c xs.size) items).size ≤ sizeLine + 1 := by
    simp only [Array.size_append, Array.size_extract]
    omega
  unfold setItem
  try with_reducible refine wpAny_holding ?_
  first | refine wpAny_bind (wpAny_pure ?_) | skip
  refine wpAny_bind (wpAny_sequenceKey hl.typeIs (by decide) ?_)
  refine wpAny_bind (wpAny_callSpecial?_slot (name := Str.ofString "__setitem__") hl.typeIs slot_list_setitem
    (wpAny_call_entry slot_list_setitem hl.typeIs entry_list_setitem ?_ (args_list_setitem _ _ _)))
  show wpAny _ _ (Builtin.List.listSubscript? (.ref sl) >>= _) _ _ s
  refine wpAny_bind ?_
  unfold Builtin.List.listSubscript?
  refine wpAny_bind (wpAny_specialOf hTs slice_no_index ?_)
  simp only [Option.isNone_none, if_true]
  refine wpAny_pure ?_
  show wpAny _ _ (typeOf (.ref sl) >>= _) _ _ s
  refine wpAny_bind (wpAny_typeOf hTs ?_)
  first
    | rw [if_neg (by decide)]
    | refine PySem.W.KFB.if_not (by decide) ?_
  rw [listSliceParts_eq]
  refine wpAny_bind (wpAny_bind (wpAny_field hos hds (x := .none) rfl (wpAny_bind (wpAny_listPart .none ?_))))
  rw [if_neg hstep]
  refine wpAny_bind (wpAny_field hos hds (x := vl) rfl (wpAny_bind (wpAny_listPart pl ?_)))
  refine wpAny_bind (wpAny_field hos hds (x := vu) rfl (wpAny_bind (wpAny_listPart pu (wpAny_pure ?_))))
  first
    | simp only [hsame, Bool.false_eq_true, if_false]
    | refine PySem.W.KFB.if_not hsame ?_
    | (dsimp only
       rw [if_neg (by rw [hsame]; exact Bool.false_ne_true)])
  refine wpAny_bind (m := Builtin.List.listAllItems (.ref b) "must assign iterable to extended slice") ?_
  unfold Builtin.List.listAllItems
  refine wpAny_bind (wpAny_typeOf hb.typeIs ?_)
  first
    | refine PySem.W.KFB.if_so (by decide) ?_
    | rw [if_pos (by decide)]
    | simp only [beq_self_eq_true, Bool.true_or, if_true]
  unfold Builtin.List.listItems
  refine wpAny_bind (wpAny_seqItems e2 rfl (wpAny_pure ?_))
  refine wpAny_bind (wpAny_bind (wpAny_seqItems e rfl (wpAny_pure ?_)))
  refine wpAny_bind (wpAny_of_eq ((sliceIndices_raw (some (a : Int)) (some (c : Int)) none items.size (by simp)).trans (congrArg (pure : Int × Int × Int → Sem (Int × Int × Int)) (bounds_run hac hc))) ?_)
  show wpAny _ _ (if ((1 : Int) == 1) = true then _ else _) _ _ s
  rw [if_pos (by decide)]
  refine wpAny_bind (wpAny_rule ?_)
  first
    | simp only [notLongL hsz, Bool.false_eq_true, if_false]
    | refine PySem.W.KFB.if_not (notLongL hsz) ?_
  first | refine wpAny_bind (wpAny_pure ?_) | skip
  show wpAny _ _ (updateSeq l (fun xs => xs.extract 0 ((a : Int)).toNat ++ new ++ xs.extract (max (a : Int) (c : Int)).toNat xs.size) >>= _) _ _ s
  rw [hmax, Int.toNat_natCast]
  refine wpAny_bind (wpAny_updateSeq (hz := Nat.le_trans (Nat.le_add_right _ _) hsz) (_hz' := hz') e rfl ?_)
  refine wpAny_bind (wpAny_letGo ?_)
  first
    | exact wpAny_bind (wpAny_pure (wpAny_pure ⟨.none, rfl, wpAny_pure h⟩))
    | exact wpAny_pure ⟨.none, rfl, wpAny_pure h⟩
end
section
variable {X : Cx}
theorem set_slice {pins : List (Addr × Obj)} {s : Shared} {σ : St} {H : Hp} {l b sl : Addr} {xs ys : List V} {a c : Int} {vl vu : Value} {Q : Unit → Shared → Prop} (I : Inv X pins σ H s)
    (hH : H l = some (.lst xs)) (hB : H b = some (.lst ys)) (hne : l ≠ b) (hs : s.heap.IsSliceOf sl vl vu .none) (ra : RelV (.int a) vl) (rc : RelV (.int c) vu) (h0 : 0 ≤ a) (hac : a ≤ c) (hc : c ≤ xs.length)
    (hz : xs.length + ys.length ≤ sizeLine) (h : ∀ s', Inv X pins σ (upd H l (.lst (xs.take a.toNat ++ ys ++ xs.drop c.toNat))) s' → Q () s') :
    wpAny (model X.prog X.w) X.A (setItem (.ref l) (.ref sl) (.ref b)) Q X.xe s := by
  obtain ⟨ta, rfl⟩ := ra
  obtain ⟨tc, rfl⟩ := rc
  obtain ⟨z, its, n, r, hl, e⟩ := I.lstM hH
  obtain ⟨z2, its2, n2, r2, hl2, e2⟩ := I.lstM hB
  obtain ⟨a', rfl⟩ := Int.eq_ofNat_of_zero_le h0
  obtain ⟨c', rfl⟩ := Int.eq_ofNat_of_zero_le (Int.le_trans h0 hac)
  simp only [Int.toNat_natCast] at h
  refine setItem_slice (a := a') (c := c') e e2 hne hs (.int _ _) (.int _ _) (by omega) (by rw [List.size_toArray]; omega) (by rw [List.size_toArray, List.size_toArray]; omega) (h _ ?_)
  refine I.lset (its' := its.take a' ++ its2 ++ its.drop c') (t' := s.toks) hH e ?_ (Vals.append (Vals.append (r.take _) r2) (r.drop _)) ?_
  · exact splice_eq its its2 a' c'
  · rw [List.length_append, List.length_append, List.length_take, List.length_drop]
    omega
end
end L2
namespace L2
open PySem PySem.Spec PyProof.Rows
section
variable {κ : Type} [DecidableEq κ]
def valV (kvs : List (κ × V)) (k : κ) : Option V := (kvs.find? fun kv => decide (kv.1 = k)).map (·.2)
def putK (kvs : List (κ × V)) (k : κ) (v : V) : List (κ × V) :=
  if (kvs.any fun kv => decide (kv.1 = k)) = true then kvs.map (fun kv => if kv.1 = k then (kv.1, v) else kv) else kvs ++ [(k, v)]
theorem valV_pos {p : κ × V} {r : List (κ × V)} {k : κ} (e : p.1 = k) : valV (p :: r) k = some p.2 := by simp [valV, List.find?_cons, e]
theorem valV_neg {p : κ × V} {r : List (κ × V)} {k : κ} (e : ¬ p.1 = k) : valV (p :: r) k = valV r k := by simp [valV, List.find?_cons, e]
theorem valV_any (k : κ) : ∀ kvs : List (κ × V), (kvs.any fun kv => decide (kv.1 = k)) = (valV kvs k).isSome
  | [] => rfl
  | p :: r => by
    rw [List.any_cons]
    by_cases e : p.1 = k
    · simp only [valV_pos e, decide_eq_true e, Bool.true_or, Option.isSome_some]
    · rw [valV_neg e, decide_eq_false e, Bool.false_or]; exact valV_any k r
theorem length_putK (kvs : List (κ × V)) (k : κ) (v : V) : (putK kvs k v).length ≤ kvs.length + 1 := by
  unfold putK
  split
  · rw [List.length_map]; omega
  · rw [List.length_append, List.length_cons, List.length_nil]; omega
theorem RelO.isSome_eq {o : Option V} {u : Option Value} (r : RelO o u) : o.isSome = u.isSome := by
  cases o with
  | none => cases u with
    | none => rfl
    | some _ => exact (show False from r).elim
  | some _ => cases u with
    | none => exact (show False from r).elim
    | some _ => rfl
theorem KV.val {kvs : List (κ × V)} {vs : List (κ × Value)} (r : KV kvs vs) (k : κ) : RelO (valV kvs k) (valueAt vs k) := by
  unfold KV at r
  induction r with
  | nil => exact True.intro
  | @cons p q ps qs h t ih =>
    obtain ⟨h1, h2⟩ := h
    by_cases e : p.1 = k
    · have e' : q.1 = k := h1.symm.trans e
      have b : valueAt (q :: qs) k = some q.2 := by simp [valueAt, List.find?_cons, e']
      rw [valV_pos e, b]; exact h2
    · have e' : ¬ q.1 = k := fun z => e (h1.trans z)
      have b : valueAt (q :: qs) k = valueAt qs k := by simp [valueAt, List.find?_cons, e']
      rw [valV_neg e, b]; exact ih
theorem KV.any {kvs : List (κ × V)} {vs : List (κ × Value)} (r : KV kvs vs) (k : κ) : (kvs.any fun kv => decide (kv.1 = k)) = vs.any fun kv => decide (kv.1 = k) := by
  induction r with
  | nil => rfl
  | cons h t ih => rw [List.any_cons, List.any_cons, ih, h.1]
theorem KV.repl {kvs : List (κ × V)} {vs : List (κ × Value)} (r : KV kvs vs) (k : κ) {y : V} {u : Value} (ry : RelV y u) :
    KV (kvs.map fun kv => if kv.1 = k then (kv.1, y) else kv) (vs.map fun kv => if kv.1 = k then (kv.1, u) else kv) := by
  induction r with
  | nil => exact .nil
  | @cons p q ps qs h t ih =>
    rw [List.map_cons, List.map_cons]
    refine .cons ?_ ih
    obtain ⟨h1, h2⟩ := h
    by_cases e : p.1 = k
    · rw [if_pos e, if_pos (h1.symm.trans e)]; exact ⟨h1, ry⟩
    · rw [if_neg e, if_neg (fun z => e (h1.trans z))]; exact ⟨h1, h2⟩
theorem KV.put {kvs : List (κ × V)} {vs : List (κ × Value)} (r : KV kvs vs) (k : κ) {y : V} {u : Value} (ry : RelV y u) : KV (putK kvs k y) (stored vs k u) := by
  unfold putK stored
  rw [r.any k]
  by_cases e : (vs.any fun kv => decide (kv.1 = k)) = true
  · rw [if_pos e, if_pos e]; exact r.repl k ry
  · rw [if_neg e, if_neg e]; exact Paired.snoc r ⟨rfl, ry⟩
theorem KV.length {kvs : List (κ × V)} {vs : List (κ × Value)} (r : KV kvs vs) : kvs.length = vs.length := Paired.length r
end
theorem kV_is {P : Program} {w : World} {k : Key} {u : Value} (r : RelV (kV k) u) : (mixKind P w).is k u = true := by
  cases k with
  | inl i => obtain ⟨t, e⟩ := (show ∃ t, u = Value.int i t from r); subst e; exact mixKind_int P w i t
  | inr x => obtain ⟨t, e⟩ := (show ∃ t, u = Value.str x t from r); subst e; exact mixKind_str P w x t
theorem items_are {P : Program} {w : World} : ∀ {ks : List Key} {us : List Value}, Vals (ks.map kV) us → ItemsAre (mixKind P w) ks us
  | [], _, r => by rw [List.map_nil] at r; cases r; exact .nil
  | k :: ks, _, r => by
    rw [List.map_cons] at r
    cases r with
    | cons h t => exact .cons (kV_is h) (items_are t)
abbrev KT (H : Hp) : List (List Key × V) → List (List Key × Addr × Value) → Prop := Paired fun p q => p.1 = q.1 ∧ H q.2.1 = some (.tup (p.1.map kV)) ∧ RelV p.2 q.2.2
theorem KT.val {H : Hp} {kvs : List (List Key × V)} {xs : List (List Key × Addr × Value)} (r : KT H kvs xs) (k : List Key) : RelO (valV kvs k) ((atKey xs k).map (·.2)) := by
  induction r with
  | nil => exact True.intro
  | @cons p q ps qs h t ih =>
    obtain ⟨h1, _, h2⟩ := h
    by_cases e : p.1 = k
    · have e' : q.1 = k := h1.symm.trans e
      have b : atKey (q :: qs) k = some q.2 := by simp [atKey, List.find?_cons, e']
      rw [valV_pos e, b]; exact h2
    · have e' : ¬ q.1 = k := fun z => e (h1.trans z)
      have b : atKey (q :: qs) k = atKey qs k := by simp [atKey, List.find?_cons, e']
      rw [valV_neg e, b]; exact ih
theorem KT.repl {H : Hp} {kvs : List (List Key × V)} {xs : List (List Key × Addr × Value)} (r : KT H kvs xs) (k : List Key) {y : V} {u : Value} (ry : RelV y u) :
    KT H (kvs.map fun kv => if kv.1 = k then (kv.1, y) else kv) (xs.map (putAt k u)) := by
  induction r with
  | nil => exact .nil
  | @cons p q ps qs h t ih =>
    rw [List.map_cons, List.map_cons]
    refine .cons ?_ ih
    obtain ⟨h1, h2, h3⟩ := h
    unfold putAt
    by_cases e : p.1 = k
    · rw [if_pos e, if_pos (h1.symm.trans e)]; exact ⟨h1, h2, ry⟩
    · rw [if_neg e, if_neg (fun z => e (h1.trans z))]; exact ⟨h1, h2, h3⟩
theorem KT.put {H : Hp} {kvs : List (List Key × V)} {xs : List (List Key × Addr × Value)} (r : KT H kvs xs) (k : List Key) {b : Addr} {y : V} {u : Value} (hb : H b = some (.tup (k.map kV))) (ry : RelV y u) :
    KT H (putK kvs k y) (storedH xs k b u) := by
  have e : (kvs.any fun kv => decide (kv.1 = k)) = (atKey xs k).isSome := by
    rw [valV_any, (r.val k).isSome_eq, Option.isSome_map]
  unfold putK storedH
  rw [e]
  by_cases q : (atKey xs k).isSome = true
  · rw [if_pos q, if_pos q]; exact r.repl k ry
  · rw [if_neg q, if_neg q]; exact Paired.snoc r ⟨rfl, hb, ry⟩
theorem KT.keeps {H H' : Hp} {kvs : List (List Key × V)} {xs : List (List Key × Addr × Value)} (r : KT H kvs xs) (ht : ∀ b ys, H b = some (.tup ys) → H' b = some (.tup ys)) : KT H' kvs xs :=
  Paired.mapP r fun _ _ z => ⟨z.1, ht _ _ z.2.1, z.2.2⟩
section
variable {P : Program} {w : World} {H : Hp} {h : Heap} {a : Addr}
theorem rd_of {u : HO} (ok : HOk P w H h) (e : Rd H a u) : ObjOk P w H h a u := e.ok ok
theorem dk_rd {kvs : List (Key × V)} (ok : HOk P w H h) (e : Rd H a (.dK kvs)) : kvs.length ≤ sizeLine ∧ (a == sysModules) = false ∧ ∃ vs, KV kvs vs ∧ h.DictOf (mixKind P w) a vs :=
  show ObjOk P w H h a (.dK kvs) from rd_of ok e
theorem dk_of {kvs : List (Key × V)} (ok : HOk P w H h) (e : H a = some (.dK kvs)) : kvs.length ≤ sizeLine ∧ (a == sysModules) = false ∧ ∃ vs, KV kvs vs ∧ h.DictOf (mixKind P w) a vs := dk_rd ok (.inl e)
theorem key_of {ks : List Key} (ok : HOk P w H h) (e : H a = some (.tup (ks.map kV))) : (tupleKind (mixKind P w)).is h ks a := by
  obtain ⟨_, its, r, o, h1, h2, n, h3⟩ := (show ObjOk P w H h a (.tup (ks.map kV)) from ok a _ e)
  exact ⟨o, its.toArray, n, h1, h2, h3, by simpa using items_are r⟩
theorem dt_rd {kvs : List (List Key × V)} (ok : HOk P w H h) (e : Rd H a (.dT kvs)) : kvs.length ≤ sizeLine ∧ (a == sysModules) = false ∧
    ∃ xs, KT H kvs xs ∧ h.DictOfH (tupleKind (mixKind P w)) a xs := by
  obtain ⟨z, y, xs, r, o, es, ep, h1, h2, h3, h4, h5⟩ := (show ObjOk P w H h a (.dT kvs) from rd_of ok e)
  refine ⟨z, y, xs, r, o, es, ep, h1, h2, h3, h4, fun x hx => ?_, h5⟩
  have all : ∀ {l : List (List Key × V)} {m : List (List Key × Addr × Value)}, KT H l m → ∀ x ∈ m, (tupleKind (mixKind P w)).is h x.1 x.2.1 := by
    intro l m q
    induction q with
    | nil => intro x hx; exact nomatch hx
    | @cons p q ps qs hq t ih =>
      intro x hx
      rcases List.mem_cons.mp hx with e | hx
      · subst e
        exact key_of ok (by rw [← hq.1]; exact hq.2.1)
      · exact ih x hx
  exact all r x hx
theorem dt_of {kvs : List (List Key × V)} (ok : HOk P w H h) (e : H a = some (.dT kvs)) : kvs.length ≤ sizeLine ∧ (a == sysModules) = false ∧
    ∃ xs, KT H kvs xs ∧ h.DictOfH (tupleKind (mixKind P w)) a xs := dt_rd ok (.inl e)
end
def DGet (H : Hp) (a : Addr) (y : V) (r : Option V) : Prop :=
  (∃ kvs k, Rd H a (.dK kvs) ∧ y = kV k ∧ r = valV kvs k) ∨ ∃ kvs k b, Rd H a (.dT kvs) ∧ y = .ref b ∧ H b = some (.tup (k.map kV)) ∧ r = valV kvs k
def DPut (H : Hp) (a : Addr) (y v : V) (H' : Hp) : Prop :=
  (∃ kvs k, H a = some (.dK kvs) ∧ y = kV k ∧ kvs.length < sizeLine ∧ H' = upd H a (.dK (putK kvs k v))) ∨
  ∃ kvs k b, H a = some (.dT kvs) ∧ y = .ref b ∧ H b = some (.tup (k.map kV)) ∧ kvs.length < sizeLine ∧ H' = upd H a (.dT (putK kvs k v))
theorem DGet.k {H : Hp} {a : Addr} {kvs : List (Key × V)} {k : Key} (e : H a = some (.dK kvs)) : DGet H a (kV k) (valV kvs k) := .inl ⟨kvs, k, .inl e, rfl, rfl⟩
theorem DPut.k {H : Hp} {a : Addr} {kvs : List (Key × V)} {k : Key} {v : V} (e : H a = some (.dK kvs)) (hl : kvs.length < sizeLine) : DPut H a (kV k) v (upd H a (.dK (putK kvs k v))) := .inl ⟨kvs, k, e, rfl, hl, rfl⟩
section
variable {X : Cx} {pins : List (Addr × Obj)} {σ : St} {H : Hp} {s : Shared} {a : Addr} {y v : V} {u r : Value} {o : Option V} {A : Around} {E : Value → Shared → Prop}
theorem Inv.big (I : Inv X pins σ H s) : sysModules < s.heap.objs.size := by
  have h := (I.mod.glob.keeps I.bk).lt
  exact Nat.lt_trans (by decide) h
theorem d_in {Q : Value → Shared → Prop} (hu : A.units + 1 < cLine) (I : Inv X pins σ H s) (g : DGet H a y o) (ry : RelV y u) (h : ∀ s', Inv X pins σ H s' → Q (.bool o.isSome) s') :
    wpAny (model X.prog X.w) A (compareOp .In u (.ref a)) Q E s := by
  rcases g with ⟨kvs, k, e, ey, l⟩ | ⟨kvs, k, b, e, ey, eb, l⟩
  · subst ey
    obtain ⟨z, hd, vs, rel, dd⟩ := dk_rd I.hok e
    refine wpAny_in_of (kV_is ry) hd dd.mapOf ?_
    rw [← (rel.val k).isSome_eq, ← l]
    exact h _ (I.tok _)
  · subst ey
    cases (show u = Value.ref b from ry)
    obtain ⟨z, hd, xs, rel, dd⟩ := dt_rd I.hok e
    refine wpAny_in_heap (tupleKind_room_in1 hu) (key_of I.hok eb) hd dd ?_
    have q := (rel.val k).isSome_eq
    rw [Option.isSome_map] at q
    rw [← q, ← l]
    exact h _ (I.tok _)
theorem d_write {h' : Heap} {t' : Nat} {ob : HO} (I : Inv X pins σ H s) (mu : Mut (H a)) (hs : Heap.SameBut a s.heap h') (he : ∃ q, h'.get? a = some q) (new : ObjOk X.prog X.w (upd H a ob) h' a ob) :
    Inv X pins σ (upd H a ob) { s with heap := h', toks := t' } :=
  I.write (x := a) (e := a) mu (.inl rfl) (fun b q hb z => (hs.2 b hb).trans z) he new
theorem dk_new {P : Program} {w : World} {H' : Hp} {h' : Heap} {kvs : List (Key × V)} {vs : List (Key × Value)} (z : kvs.length ≤ sizeLine) (hd : (a == sysModules) = false) (rel : KV kvs vs) (dd : h'.DictOf (mixKind P w) a vs) :
    ObjOk P w H' h' a (.dK kvs) := ⟨z, hd, vs, rel, dd⟩
theorem d_setItem {H' : Hp} {Q : Unit → Shared → Prop} (hu : A.units + 1 < cLine) (I : Inv X pins σ H s) (g : DPut H a y v H') (ry : RelV y u) (rv : RelV v r) (h : ∀ s', Inv X pins σ H' s' → Q () s') :
    wpAny (model X.prog X.w) A (setItem (.ref a) u r) Q E s := by
  rcases g with ⟨kvs, k, e, ey, l, eH⟩ | ⟨kvs, k, b, e, ey, eb, l, eH⟩
  · subst ey eH
    obtain ⟨z, hd, vs, rel, dd⟩ := dk_of I.hok e
    have hz : vs.length ≤ sizeLine := by rw [← rel.length]; exact z
    have hl : (putK kvs k v).length ≤ sizeLine := by have := length_putK kvs k v; omega
    refine wpAny_setItem_pairs (hsz := hz) (kV_is ry) dd fun h' dd' hs => h _ ?_
    have he : ∃ q, h'.get? a = some q := let ⟨q, _, _, hq, _⟩ := dd'; ⟨q, hq⟩
    exact d_write I (by rw [e]; exact True.intro) hs he (dk_new hl hd (rel.put k rv) dd')
  · subst ey eH
    cases (show u = Value.ref b from ry)
    obtain ⟨z, hd, xs, rel, dd⟩ := dt_of I.hok e
    have hz : xs.length ≤ sizeLine := by rw [← Paired.length rel]; exact z
    have hl : (putK kvs k v).length ≤ sizeLine := by have := length_putK kvs k v; omega
    refine wpAny_setItem_heap (hsz := hz) (tupleKind_room_in1 hu) (key_of I.hok eb) dd fun h' dd' hs => h _ ?_
    obtain ⟨q, es, ep, hq, h2, h3, h4, _, h5⟩ := dd'
    refine d_write I (by rw [e]; exact True.intro) hs ⟨q, hq⟩ ⟨hl, hd, _, (rel.put k eb rv).keeps fun c ys ec => ?_, q, es, ep, hq, h2, h3, h4, h5⟩
    rw [upd_ne (ne_of ec e (fun z => nomatch z))]
    exact ec
end
def tDIn (ty td : TE) : TE := fun σ H Q => ty σ H fun y H1 => td σ H1 fun x H2 => ∃ a o, x = .ref a ∧ DGet H2 a y o ∧ Q (.bl o.isSome) H2
def sDPut (td ty tv : TE) : TS := fun D σ H => tv σ H fun v H1 => td σ H1 fun x H2 => ty σ H2 fun y H3 => ∃ a H4, x = .ref a ∧ DPut H3 a y v H4 ∧ D.nx σ H4
section
variable {X : Cx} {o i e value : Expr} {pos pos' tpos : Pos} {td ty tv : TE}
theorem pc_din (hu : X.A.units + 1 < cLine) (hi : PE X i ty) (ho : PE X o td) : PC X .In i o (tDIn ty td) := by
  intro pins s σ H Q I h
  refine thn (hi pins s σ H _ I h) fun iv s1 ⟨y, H1, I1, ry, q1⟩ => thn (ho pins s1 σ H1 _ I1 q1) fun u s2 ⟨x, H2, I2, rx, a, ov, ex, g, q2⟩ => ?_
  subst ex
  obtain rfl : u = Value.ref a := rx
  exact d_in hu I2 g ry fun s3 I3 => ⟨.bl ov.isSome, H2, I3, rfl, q2⟩
theorem ps_dput (hu : X.A.units + 1 < cLine) (ho : PE X o td) (hi : PE X i ty) (hv : PE X value tv) (hs : swapsWith value (some (.Subscript o i pos')) pos.line X.env = pure false) :
    PS X (.Assign [.Subscript o i pos'] value pos) (sDPut td ty tv) := by
  intro pins s σ H D I h
  refine wpAny_Assign_Subscript (thn (hv pins s σ H _ I h) fun r s1 ⟨v, H1, I1, rv, q1⟩ => thn (ho pins s1 σ H1 _ I1 q1) fun u s2 ⟨x, H2, I2, rx, q2⟩ => thn (hi pins s2 σ H2 _ I2 q2) fun iv s3 ⟨y, H3, I3, ry, a, H4, ex, g, q3⟩ => ?_) hs
  subst ex
  obtain rfl : u = Value.ref a := rx
  exact d_setItem hu I3 g ry rv fun s4 I4 => ⟨σ, H4, I4, q3⟩
end
theorem dk_empty {P : Program} {w : World} {H : Hp} (h : Heap) (hb : sysModules < h.objs.size) : ObjOk P w H (h.push { cls := .type "dict", data := .dict #[] }) h.objs.size (.dK []) :=
  ⟨Nat.zero_le _, beq_eq_false_iff_ne.mpr (Ne.symm (Nat.ne_of_lt hb)), [], .nil, Heap.DictOf.new h⟩
def tDNewK : TE := fun _ H Q => ∀ p, H p = none → Q (.ref p) (upd H p (.dK []))
section
variable {X : Cx} {pos : Pos}
theorem pe_dnewK : PE X (.Dict [] [] pos) tDNewK := fun pins s σ H Q I h =>
  wpAny_Dict_empty ⟨.ref s.heap.objs.size, _, I.laid (a := s.heap.objs.size) (o := .dK []) (t' := s.toks) (fun _ _ q => Heap.get?_push_of_some _ q) (Nat.le_refl _) (dk_empty s.heap I.big), rfl, h _ (I.hok.fresh (Nat.le_refl _))⟩
end
structure M2 (X : Cx) (o : Expr) (m : Str) (apos : Pos) (e f : Expr) (cpos : Pos) : Prop where
  base : attributeBase o m X.env (eval o X.env) = eval o X.env
  few : ((backTo cpos (starEach [e, f] X.env)).all (fun x => !x.1) && (backToKw cpos (keywordEach [] X.env)).all (fun x => x.1.isSome)
    && decide (([e, f] : List Expr).length + ([] : List Keyword).length + (if ([] : List Keyword).isEmpty then 0 else 1) < 30)) = true
  line : (apos.endLine == cpos.line) = true
  trees : backTo cpos (starEach [e, f] X.env) = [(false, eval e X.env), (false, eval f X.env)]
def IsD (H : Hp) (a : Addr) : Prop := (∃ kvs, Rd H a (.dK kvs)) ∨ ∃ kvs, Rd H a (.dT kvs)
end L2
namespace Att
open PySem PySem.W PySem.Calls PyProof.Rows
theorem ints_of_wellAll {P : Params} {h : Heap} : ∀ (ns : List Int) (vs : List Value), WellAll P h vs (ns.map WData.int) → IntsAre vs ns := by
  intro ns
  induction ns with
  | nil =>
    intro vs w
    cases w
    exact .nil
  | cons n ns ih =>
    intro vs w
    cases w with
    | cons a b =>
      cases a
      exact .cons _ _ (ih _ b)
theorem script_of {l : OpenLaw} {n : Nat} (hn : l.most = some n) {P : Params} {h : Heap} {args : List WData} {vals : List Value}
    (hpre : l.row.toRowW.claim.pre args = true) (hwl : WellAll P h vals args) :
    ∃ a vs ns, vals = [Value.ref a] ∧ args = [WData.list (ns.map WData.int)] ∧ h.get? a = some { cls := .type "list", data := .seq vs.toArray } ∧ IntsAre vs ns ∧ ns.length ≤ n := by
  have hsh := (pre_splitW hpre).1
  have hc : l.pre.holds [] { args := args } = true := (pre_splitW hpre).2
  obtain ⟨d, r, rfl, h1, h2⟩ := hasAllW_cons hsh
  obtain rfl := hasAllW_nil h2
  obtain ⟨xs, rfl, h3⟩ := hasW_list h1
  obtain ⟨ns, rfl⟩ := items_int h3
  have hlen : ns.length ≤ n := by
    unfold OpenLaw.pre at hc
    have h4 : (WTm.not (.lt (.lit (.int (n : Int))) (.len (.arg 0)))).holds [] { args := [.list (ns.map .int)] } = true := by
      have h4 := (holds_andW hc).1
      rw [hn] at h4
      exact h4
    have h5 := condW_of h4 (w_not (w_lt w_lit (w_len_list (w_arg rfl))))
    refine Nat.le_of_not_lt fun q => ?_
    first
      | (rw [decide_eq_true q'] at h5; exact absurd h5 (by decide))
      | (simp at h5; omega)
  cases hwl with
  | cons w1 w2 =>
    cases w2
    cases w1 with
    | list ho hall => exact ⟨_, _, ns, rfl, rfl, ho, ints_of_wellAll ns _ hall, hlen⟩
theorem post_true (l : OpenLaw) (args : List WData) : l.row.toRowW.claim.post args (.bool true) args = true :=
  postW_of (r := l.row.toRowW) (X := (true == true))
    (show WShape.has [] (.bool true) .bool = true by first | rfl | decide | simp [WShape.has, WShape.arms, WShape.armsAll])
    (show (WTm.eq .res (.lit (.bool true))).value [] { args := args, res := some (.bool true), after := args } = some (.bool (true == true)) from w_eq_bool (w_res rfl) w_lit) rfl
theorem attach_call {l : OpenLaw} {n : Nat} {q : Program} {loose : List Str} {XP : (Str → Option Value) → Heap → Prop} {YP : World → Heap → Prop} {d : DefRec}
    (hn : l.most = some n) (hdf : d.params.defaults = [])
    (call : ∀ (w : World) (s₀ s₁ : Shared) (mg mb : Str → Option Value) (fa : Addr) (o : Obj) (pm cd doc : Value) (a : Addr) (vs : List Value) (ns : List Int),
      Ground q loose [] XP w s₀ mg mb s₁.heap → YP w s₁.heap →
      s₁.heap.get? fa = some o → o.data = .func (docDef d.name d.params d.body d.scope pm cd doc) → s₁.heap.CodeRec cd d.name → mg d.name = some (.ref fa) →
      s₁.heap.get? a = some { cls := .type "list", data := .seq vs.toArray } → IntsAre vs ns → ns.length ≤ n → s₁.gens = #[] →
      codeAny (model l.prog w) callerA (.call (.ref fa) ⟨[.ref a], []⟩) (fun r s' => r = .ok (.ret (.bool true)) ∧ OldK s₁.heap s'.heap ∧ s'.os = s₁.os ∧ AllBare s'.gens) s₁) :
    WalkO q loose XP YP l.row.toRowW d [] (fun f vs => PySem.call f vs) := by
  intro w s₀ s₁ mg mb G Y fa o pm cd doc dV kV ho hd hcd hD hmg hg args vals as hpre hlay hrd hwl hlo
  obtain rfl : dV = .none := Dflts.none hD hdf
  obtain rfl : kV = .none := Dflts.noKw hD
  obtain ⟨a, vs, ns, rfl, rfl, hobj, hints, hlen⟩ := script_of hn hpre hwl
  refine enter_call (codeAny_mono (call w s₀ s₁ mg mb fa o pm cd doc a vs ns G Y ho (fd_plain hd) hcd hmg hobj hints hlen hg) fun r s' hq => ?_)
  obtain ⟨rfl, h2, h3, h4⟩ := hq
  exact ⟨.inl ⟨.bool true, .bool true, [], rfl, fun _ => rfl, .bool true, post_true l _, fun _ => ⟨List.Pairwise.nil, fun _ hm => (nomatch hm)⟩⟩, h2, h3, h4⟩
end Att
namespace L2
open PySem PySem.Spec PyProof.Rows
theorem vals_ints : ∀ {vs : List Value} {ns : List Int}, IntsAre vs ns → Vals (ns.map V.int) vs
  | _, _, .nil => .nil
  | _, _, .cons n t h => .cons ⟨t, rfl⟩ (vals_ints h)
end L2
namespace L2
open PySem PySem.Spec PyProof.Rows
def defArgs (s : Stmt) : Arguments := match s with
  | .FunctionDef _ a _ _ _ _ _ _ _ _ => a
  | _ => { posonlyargs := [], args := [], vararg := none, kwonlyargs := [], kw_defaults := [], kwarg := none, defaults := [] }
def defBody (s : Stmt) : List Stmt := match s with
  | .FunctionDef _ _ b _ _ _ _ _ _ _ => b
  | _ => []
def defScope (s : Stmt) : Scope := match s with
  | .FunctionDef _ _ _ _ _ _ sc _ _ _ => sc
  | _ => { kind := .function, names := [], isGenerator := false, isCoroutine := false }
abbrev CX0 : CXT := fun _ _ _ _ _ _ => False
abbrev E0 : XK := fun _ _ _ => False
theorem pass0 {X : Cx} : Passes CX0 X E0 := fun _ _ _ _ _ _ _ h => h.elim
structure Fun (K : PySem.W.Frag) (x qual : Str) (st : Stmt) (f : Addr) (fd : FuncData) : Prop where
  ex : ∃ (oc : Value) (od : Option Addr) (kV doc pm : Value) (an : Option Addr) (cdv ct : Value) (osl : Array (Option Value)),
    fd = PySem.W.fnOf x qual (defArgs st) (defBody st) (defScope st) .none kV doc pm an cdv ct ∧ K.lookup f = some ⟨oc, od, .func fd, osl⟩ ∧ PySem.W.codeIn K cdv qual = true
  kp : PySem.W.keepIn K (.ref f) = true
section
variable {P : Program} {w : World} {K : PySem.W.Frag} {mg : Str → Option Value} {base : Heap}
theorem Fun.ok {x qual : Str} {st : Stmt} {f : Addr} {fd : FuncData} {N ps : List Str} {k : Nat} {sp : Sp} (F : Fun K x qual st f fd) (S : FnScope N ps (defScope st)) (len : ∀ vs H Q E, sp vs H Q E → vs.length = ps.length)
    (hbody : ∀ (cdv : Value) (A : Around) (outer : List Env) (s : Shared) (H : Hp) (vs : List V) (Q : VK) (E : XK), Room k (A.deeper (envOfC qual (defScope st) s.heap.objs.size f cdv)) → sp vs H Q E →
      ∃ t, PSs (cxOf CX0 P w K mg base N qual (defScope st) f cdv A outer s H E).nox (defBody st) t ∧ t { nx := fun _ H' => Q .non H', rt := Q } (start N vs) H) : FnOk P w K mg base CX0 (k + 1) f fd ps sp := by
  obtain ⟨oc, od, kV, doc, pm, an, cdv, ct, osl, rfl, lk, hcd⟩ := F.ex
  refine fn_of lk hcd S len fun A outer s H vs Q E hr hsp => ?_
  obtain ⟨t, h, q⟩ := hbody cdv A outer s H vs Q E hr hsp
  exact ⟨t, h.nox, q⟩
theorem Fun.binds {x qual : Str} {st : Stmt} {f : Addr} {fd : FuncData} {ps : List Str} (F : Fun K x qual st f fd)
    (h : ∀ (kV doc pm : Value) (an : Option Addr) (cdv ct : Value) (us : List Value), us.length = ps.length → bindArgs (PySem.W.fnOf x qual (defArgs st) (defBody st) (defScope st) .none kV doc pm an cdv ct) ⟨us, []⟩ = pure (ps.zip us)) : Binds K fd ps [] := by
  obtain ⟨oc, od, kV, doc, pm, an, cdv, ct, osl, rfl, lk, hcd⟩ := F.ex
  exact .all (h kV doc pm an cdv ct)
theorem fun_mk {x qual : Str} {st : Stmt} {f : Addr} {oc : Value} {od an : Option Addr} {osl : Array (Option Value)} {kV doc pm cdv ct : Value} (l : K.lookup f = some ⟨oc, od, .func (PySem.W.fnOf x qual (defArgs st) (defBody st) (defScope st) .none kV doc pm an cdv ct), osl⟩)
    (c : PySem.W.codeIn K cdv qual = true) (k : PySem.W.keepIn K (.ref f) = true) : Fun K x qual st f (PySem.W.fnOf x qual (defArgs st) (defBody st) (defScope st) .none kV doc pm an cdv ct) := ⟨⟨oc, od, kV, doc, pm, an, cdv, ct, osl, rfl, l, c⟩, k⟩
end
theorem small1000 {n : Nat} (h : n ≤ 1000) : n < sizeLine := Nat.lt_of_le_of_lt h (by decide)
theorem iteF {A B : Prop} (h : B) : if false = true then A else B := by
  exact h
theorem iteT {A B : Prop} (h : A) : if true = true then A else B := by
  exact h
def Same (H H' : Hp) : Prop := ∀ b o, H b = some o → H' b = some o
theorem Same.refl (H : Hp) : Same H H := fun _ _ h => h
theorem Same.free {H H' : Hp} (e : Same H H') {l : Addr} (h : H' l = Option.none) : H l = Option.none := by
  cases q : H l with
  | none => rfl
  | some o =>
    rw [e l o q] at h
    cases h
end L2
set_option Elab.async false
set_option linter.all false
set_option maxRecDepth 100000
namespace L2
open PySem PySem.Spec PyProof.Rows
theorem lsz {h : Heap} {b : Nat} {o : Obj} (e : h.get? b = some o) : b < h.objs.size := Heap.lt_size e
theorem neN {a b : Nat} (h : a ≠ b) : a ≠ b := h
theorem ltN {a b : Nat} (h : a < b) : a < b := h
theorem cellN {h : Heap} {c : Nat} {v : Option Value} (q : h.IsCell c v) : c < h.objs.size := q.lt
structure LcScope (Xs : Scope) (N : List Str) (sc : Scope) (N' : List Str) (ix : List (Option Nat)) : Prop where
  kind : sc.kind = .function
  nc : ∀ y ∈ sc.names, y.2 ≠ .cell
  loc : ∀ y ∈ sc.names, y.2 = .local → sc.names.lookup y.1 = some .local
  fr : ∀ y ∈ sc.names, y.2 = .free → (Xs.names.lookup y.1 = some .cell ∨ Xs.names.lookup y.1 = some .free)
  nd : N'.Nodup
  len : ix.length = N'.length
  map : ((ix.zip N').all fun p => match p.1 with | none => true | some j => decide (N[j]? = some p.2) && decide (sc.names.lookup p.2 = some .free)) = true
theorem LcScope.at {Xs : Scope} {N : List Str} {sc : Scope} {N' : List Str} {ix : List (Option Nat)} (S : LcScope Xs N sc N' ix) {i j : Nat} {x : Str} (h1 : ix[i]? = some (some j)) (h2 : N'[i]? = some x) :
    N[j]? = some x ∧ sc.names.lookup x = some .free := by
  have hm : ((some j, x) : Option Nat × Str) ∈ ix.zip N' := by
    refine List.mem_of_getElem? (i := i) ?_
    rw [List.getElem?_zip_eq_some]
    exact ⟨h1, h2⟩
  have q := List.all_eq_true.mp S.map _ hm
  simp only [Bool.and_eq_true, decide_eq_true_eq] at q
  exact q
def blkSt (ix : List (Option Nat)) (σ : St) : St := ix.map fun o => match o with | some j => (σ[j]?).getD none | none => none
def blk (X : Cx) (sc : Scope) (N' : List Str) (cl : List (Str × Addr)) (C : Addr) (s2 : Shared) (H2 : Hp) (fp : List Addr) : Cx where
  prog := X.prog
  w := X.w
  K := X.K
  mg := X.mg
  base := X.base
  A := X.A
  N := N'
  s₀ := s2
  H₀ := H2
  env := compEnvC sc cl C X.env
  outer := X.stack
  stack := X.stack
  ex := fp
  calm := X.calm
  fn := fun _ => false
  pn := []
  xe := fun _ _ => False
theorem closure_ok {env : Env} : ∀ (names : List (Str × NameKind)) (cs : List (Str × Addr)), (∀ y ∈ names, y.2 = .free → ∃ c, env.cells.lookup y.1 = some c) →
    ∃ cl, (forIn names cs fun (x : Str × NameKind) (c : List (Str × Addr)) => (match x with | (name, kind) => do
        let c ← if (kind == NameKind.free) = true then do let a ← cellOf env name; pure ((name, a) :: c) else pure c
        pure (ForInStep.yield c) : Sem (ForInStep (List (Str × Addr))))) = pure cl ∧ (∀ x c, cl.lookup x = some c → cs.lookup x = some c ∨ (env.cells.lookup x = some c ∧ (x, NameKind.free) ∈ names)) ∧ (∀ x, ((x, NameKind.free) ∈ names ∨ (∃ c, cs.lookup x = some c)) → ∃ c, cl.lookup x = some c)
  | [], cs, _ => ⟨cs, rfl, fun _ _ h => .inl h, fun x h => h.elim (fun z => nomatch z) fun z => z⟩
  | (n, k) :: r, cs, h => by
    by_cases hk : k = .free
    · subst hk
      obtain ⟨c, hc⟩ := h (n, .free) List.mem_cons_self rfl
      obtain ⟨cl, e, h1, h2⟩ := closure_ok r ((n, c) :: cs) fun y hy => h y (List.mem_cons_of_mem _ hy)
      refine ⟨cl, ?_, fun x d hd => ?_, fun x hx => ?_⟩
      · rw [List.forIn_cons, ← e]
        simp only [beq_self_eq_true, if_true, cellOf, hc, pure_bind]
      · rcases h1 x d hd with z | ⟨z1, z2⟩
        · rw [List.lookup_cons] at z
          by_cases hx : (x == n) = true
          · rw [hx] at z
            have hx' : x = n := eq_of_beq hx
            subst hx'
            cases z
            exact .inr ⟨hc, List.mem_cons_self⟩
          · have hx' : (x == n) = false := by simpa using hx
            rw [hx'] at z
            exact .inl z
        · exact .inr ⟨z1, List.mem_cons_of_mem _ z2⟩
      · refine h2 x ?_
        rcases hx with hx | ⟨d, hd⟩
        · rcases List.mem_cons.mp hx with z | z
          · injection z with z1 _
            subst z1
            exact .inr ⟨c, by rw [List.lookup_cons]; simp⟩
          · exact .inl z
        · by_cases hx : (x == n) = true
          · exact .inr ⟨c, by rw [List.lookup_cons, hx]⟩
          · have hx' : (x == n) = false := by simpa using hx
            exact .inr ⟨d, by rw [List.lookup_cons, hx']; exact hd⟩
    · obtain ⟨cl, e, h1, h2⟩ := closure_ok r cs fun y hy => h y (List.mem_cons_of_mem _ hy)
      refine ⟨cl, ?_, fun x d hd => ?_, fun x hx => ?_⟩
      · have hb : (k == NameKind.free) = false := by simpa using hk
        rw [List.forIn_cons, ← e]
        simp only [hb, Bool.false_eq_true, if_false, pure_bind]
      · rcases h1 x d hd with z | ⟨z1, z2⟩
        · exact .inl z
        · exact .inr ⟨z1, List.mem_cons_of_mem _ z2⟩
      · refine h2 x ?_
        rcases hx with hx | hx
        · rcases List.mem_cons.mp hx with z | z
          · injection z with _ z2
            exact absurd z2.symm hk
          · exact .inl z
        · exact .inr hx
theorem closureFor_ok {sc : Scope} {env : Env} (h : ∀ y ∈ sc.names, y.2 = .free → ∃ c, env.cells.lookup y.1 = some c) :
    ∃ cl, closureFor sc env = pure cl ∧ (∀ x c, cl.lookup x = some c → env.cells.lookup x = some c ∧ (x, NameKind.free) ∈ sc.names) ∧ (∀ x, (x, NameKind.free) ∈ sc.names → ∃ c, cl.lookup x = some c) := by
  obtain ⟨cl, e, h1, h2⟩ := closure_ok (env := env) sc.names [] h
  refine ⟨cl, ?_, fun x c hc => (h1 x c hc).resolve_left (fun z => nomatch z), fun x hx => h2 x (.inl hx)⟩
  unfold closureFor
  have e' : (forIn sc.names ([] : List (Str × Addr)) fun x r => (match x with | (name, kind) => if (kind == NameKind.free) = true then do let a ← cellOf env name; pure (ForInStep.yield ((name, a) :: r)) else pure (ForInStep.yield r) : Sem (ForInStep (List (Str × Addr))))) = pure cl := by
    rw [← e]
    first
      | rfl
      | (congr 1
         funext x r
         obtain ⟨n, k⟩ := x
         by_cases hk : (k == NameKind.free) = true
         · simp only [hk, if_true, pure_bind]
         · simp only [hk, if_false, pure_bind, Bool.false_eq_true])
      | simp only [pure_bind]
  simpa using e'
theorem lookup_relabel {env : Env} : ∀ {names : List (Str × NameKind)} {x : Str},
    (names.map fun (n, k) => if (k == NameKind.free && env.scope.kind == .function && env.kindOf n == some .cell) then (n, NameKind.cell) else (n, k)).lookup x =
      (names.lookup x).map fun k => if (k == NameKind.free && env.scope.kind == .function && env.kindOf x == some .cell) then NameKind.cell else k
  | [], _ => rfl
  | (n, k) :: r, x => by
    have ih := @lookup_relabel env r x
    show List.lookup x ((if (k == NameKind.free && env.scope.kind == .function && env.kindOf n == some .cell) = true then (n, NameKind.cell) else (n, k)) :: _) = _
    cases hx : x == n with
    | true =>
      have e := eq_of_beq hx
      subst e
      by_cases hc : (k == NameKind.free && env.scope.kind == .function && env.kindOf x == some .cell) = true
      · rw [if_pos hc, List.lookup_cons, List.lookup_cons, hx]
        simp only [Option.map_some, hc, if_true]
      · rw [if_neg hc, List.lookup_cons, List.lookup_cons, hx]
        simp only [Option.map_some, hc, if_false]
        simp
    | false =>
      by_cases hc : (k == NameKind.free && env.scope.kind == .function && env.kindOf n == some .cell) = true
      · rw [if_pos hc, List.lookup_cons, List.lookup_cons, hx]; exact ih
      · rw [if_neg hc, List.lookup_cons, List.lookup_cons, hx]; exact ih
def PFs (X : Cx) (ifs : List Expr) (t : TT) : Prop :=
  ∀ (pins : List (Addr × Obj)) (s : Shared) (σ : St) (H : Hp) (Q : Bool → Hp → Prop), Inv X pins σ H s → t σ H Q →
    wpAny (model X.prog X.w) X.A (forIn ifs true fun c r => if r = true then do let ok ← isTrue c X.env (eval c X.env); pure (ForInStep.yield ok) else pure (ForInStep.yield r)) (TP X pins σ Q) X.xe s
def tAll : TT := fun _ H Q => Q true H
theorem pfs_nil {X : Cx} : PFs X [] tAll := fun pins s σ H Q I h => by
  exact wpAny_pure ⟨H, I, h⟩
theorem pfs_one {X : Cx} {c : Expr} {t : TT} (hc : PT X c t) : PFs X [c] t := fun pins s σ H Q I h => by
  rw [List.forIn_cons]
  simp only [if_true, bind_assoc, pure_bind]
  refine wpAny_bind (thn (hc pins s σ H Q I h) fun b s1 q => ?_)
  exact wpAny_pure q
def tLc (ix : List (Option Nat)) (wi : TI) (g : TG) (tf : TT) (te : TE) : TE := fun σ H Q => wi σ H fun J H1 => ∀ D, H1 D = none → ∃ W : Nat → Nat → St → List V → Hp → Prop,
  (∃ m, W 0 m (blkSt ix σ) [] (upd H1 D (.lst []))) ∧ ∀ i m σ' ys H, W i m σ' ys H → H D = some (.lst ys) ∧
    ((J.stop i H ∧ Q (.ref D) H) ∨ (J.go i H ∧ ∀ x H', J.yld i H x H' → g x σ' H' fun σ2 H2 => tf σ2 H2 fun b H3 =>
      if b = true then te σ2 H3 fun y H4 => H4 D = some (.lst ys) ∧ ys.length + 1 ≤ sizeLine ∧ ∃ m', m' < m ∧ W (i + 1) m' σ2 (ys ++ [y]) (upd H4 D (.lst (ys ++ [y]))) else ∃ m', m' < m ∧ W (i + 1) m' σ2 ys H3))
theorem codeAny_compLoop_go {prog : Program} {w : World} {A : Around} {R : Result → Shared → Prop} {s : Shared} {elt target iter : Expr} {ifs : List Expr} {scope : Scope} {pos : Pos} {it acc : Value} {env : Env} (I : Nat → Shared → Prop)
    (turn : ∀ n s, I n s → wpAny (model prog w) A (pyNext it) (fun r s₁ => match r with
      | none => R (.ok .next) s₁
      | some v => wpAny (model prog w) A (letOwnedTupleGo target it v) (fun _ s₁' => wpAny (model prog w) A (assign target env v) (fun _ s₂ =>
          wpAny (model prog w) A (forIn ifs true fun c r => if r = true then do let ok ← isTrue c env (eval c env); pure (ForInStep.yield ok) else pure (ForInStep.yield r)) (fun ok s₃ =>
            if ok = true then wpAny (model prog w) A (eval elt env) (fun x s₄ =>
              wpAny (model prog w) A (call (.builtin "list.append") [acc, x]) (fun _ s₅ => ∃ m, m < n ∧ I m s₅) (fun _ _ => False) s₄) (fun _ _ => False) s₃
            else ∃ m, m < n ∧ I m s₃) (fun _ _ => False) s₂) (fun _ _ => False) s₁') (fun _ _ => False) s₁) (fun _ _ => False) s)
    (n : Nat) (h : I n s) :
    codeAny (model prog w) A (.compLoop (.ListComp elt [⟨target, iter, ifs, 0⟩] scope pos) 0 it acc env) R s := by
  refine codeAny_loop rfl I (fun n s hI => ?_) n h
  refine wpAny_noted ?_
  rw [compTurn_list]
  refine wpAny_bind (wpAny_standAt (wpAny_bind (wpAny_mono (turn n s hI) (fun r s₁ h₁ => ?_) fun _ _ h' => h'.elim)))
  cases r with
  | none => exact wpAny_pure h₁
  | some v =>
    refine wpAny_bind (wpAny_mono h₁ (fun _ s₁' h₁' => ?_) fun _ _ h' => h'.elim)
    refine wpAny_bind (wpAny_mono h₁' (fun _ s₂ h₂ => wpAny_bind (wpAny_mono h₂ (fun ok s₃ h₃ => ?_) fun _ _ h' => h'.elim)) fun _ _ h' => h'.elim)
    cases ok with
    | false => exact wpAny_pure ⟨rfl, h₃⟩
    | true =>
      have h₃' : wpAny (model prog w) A (eval elt env) (fun x s₄ =>
              wpAny (model prog w) A (call (.builtin "list.append") [acc, x]) (fun _ s₅ => ∃ m, m < n ∧ I m s₅) (fun _ _ => False) s₄) (fun _ _ => False) s₃ := h₃
      exact wpAny_bind (wpAny_bind (wpAny_mono h₃' (fun x s₄ h₄ => wpAny_bind (wpAny_mono h₄ (fun _ s₅ h₅ => wpAny_pure (wpAny_pure ⟨rfl, h₅⟩)) fun _ _ h' => h'.elim)) fun _ _ h' => h'.elim))
section
variable {X : Cx} {elt tg iter : Expr} {ifs : List Expr} {sc : Scope} {pos : Pos} {N' : List Str} {ix : List (Option Nat)} {wi : TI} {g : TG} {tf : TT} {te : TE}
structure CFree (X : Cx) (pins : List (Addr × Obj)) (H : Hp) (C : Addr) : Prop where
  hn : H C = none
  hL : C ≠ X.env.locals
  ab : X.s₀.heap.objs.size ≤ C
  cl : ∀ x c, X.env.cells.lookup x = some c → c ≠ C
  pn : ∀ p ∈ X.pn ++ pins, p.1 ≠ C
theorem lc_core (hc : X.calm = true) (S : LcScope X.env.scope X.N sc N' ix)
    (hg : ∀ cl C s2 H2 fp, PG (blk X sc N' cl C s2 H2 fp) tg g) (hf : ∀ cl C s2 H2 fp, PFs (blk X sc N' cl C s2 H2 fp) ifs tf) (he : ∀ cl C s2 H2 fp, PE (blk X sc N' cl C s2 H2 fp) elt te)
    {pins : List (Addr × Obj)} {σ : St} {H2 : Hp} {s2 : Shared} {cl : List (Str × Addr)} (hcl1 : ∀ x c, cl.lookup x = some c → X.env.cells.lookup x = some c ∧ (x, NameKind.free) ∈ sc.names) (hcl2 : ∀ x, (x, NameKind.free) ∈ sc.names → ∃ c, cl.lookup x = some c)
    {it : Addr} {fp : List Addr} {tn : Nat → Heap → Prop} {J : It} {Q : VK} (I2 : Inv X pins σ H2 s2) (T : Turn X.prog X.w X.K tg J fp it tn) (st2 : tn 0 s2.heap) (f2 : ∀ b ∈ fp, FpOk X pins H2 b)
    (hW : ∀ D, H2 D = none → ∃ W : Nat → Nat → St → List V → Hp → Prop,
      (∃ m, W 0 m (blkSt ix σ) [] (upd H2 D (.lst []))) ∧ ∀ i m σ' ys H, W i m σ' ys H → H D = some (.lst ys) ∧
        ((J.stop i H ∧ Q (.ref D) H) ∨ (J.go i H ∧ ∀ x H', J.yld i H x H' → g x σ' H' fun σ2 H2 => tf σ2 H2 fun b H3 =>
          if b = true then te σ2 H3 fun y H4 => H4 D = some (.lst ys) ∧ ys.length + 1 ≤ sizeLine ∧ ∃ m', m' < m ∧ W (i + 1) m' σ2 (ys ++ [y]) (upd H4 D (.lst (ys ++ [y]))) else ∃ m', m' < m ∧ W (i + 1) m' σ2 ys H3)))
    {RR : Value → Addr → Result → Shared → Prop} {E : Value → Shared → Prop}
    (hRR : ∀ D C m s' H', Inv X pins σ H' s' → Q (.ref D) H' → s'.heap.Ns C m → CFree X pins H' C → RR (.ref D) C (.ok .next) s') :
    wpAny (model X.prog X.w) X.A (newList []) (fun acc s₃ => wpAny (model X.prog X.w) X.A (newFunctionEnv sc X.env.globals cl [] X.env.qual none .none (some X.env)) (fun cenv s₄ =>
      codeAny (model X.prog X.w) X.A (.compStart (.ListComp elt [⟨tg, iter, ifs, 0⟩] sc pos) 0 (.ref it) acc { cenv with scope := relabel sc X.env }) (RR acc cenv.locals) s₄) E s₃) E s2 := by
  refine wpAny_newObj_type (wpAny_newFunctionEnv S.nc (by intro y hy; simp at hy) (fun h₁ hns₁ hsb₁ => ?_) S.kind)
  generalize hH2 : s2.heap.push { cls := .type "list", dict := none, data := .seq ([] : List Value).toArray } = G2 at hns₁ hsb₁ ⊢
  have hC : G2.objs.size = s2.heap.objs.size + 1 := by rw [← hH2, Heap.size_push]
  obtain ⟨D, hD⟩ : ∃ D : Nat, s2.heap.objs.size = D := ⟨_, rfl⟩
  obtain ⟨C, hCC⟩ : ∃ C : Nat, G2.objs.size = C := ⟨_, rfl⟩
  simp only [hD, hCC] at hns₁ hsb₁ hC ⊢
  have hDC : D ≠ C := by omega
  have old : ∀ b o, s2.heap.get? b = some o → h₁.get? b = some o := fun b o e => by
    have hb := lsz e
    exact hsb₁.extBut b o (neN (by omega)) (Heap.get?_push_of_some _ (hH2 ▸ Heap.get?_push_of_some _ e))
  have hacc : h₁.get? D = some { cls := .type "list", data := .seq ([] : List Value).toArray } := by
    refine hsb₁.extBut D _ hDC (Heap.get?_push_of_some _ ?_)
    rw [← hH2, ← hD]
    exact Heap.get?_push_size _ rfl
  have hD2 : H2 D = none := I2.hok.fresh (by omega)
  have hC2 : H2 C = none := I2.hok.fresh (by omega)
  obtain ⟨W, ⟨m0, w0⟩, turn⟩ := hW D hD2
  have cellX : ∀ x c, cl.lookup x = some c → ∃ v, s2.heap.IsCell c v := fun x c e => I2.cell x c (hcl1 x c e).1
  have cltD : ∀ x c, cl.lookup x = some c → c < D := fun x c e => by
    obtain ⟨v, q⟩ := cellX x c e
    have := cellN q
    exact ltN (by omega)
  have fpD : ∀ b ∈ fp, b < D := fun b hb => by
    obtain ⟨o, e, _⟩ := T.obj 0 _ st2 b hb
    have := lsz e
    exact ltN (by omega)
  have Yok : (blk X sc N' cl C s2 H2 fp).Ok := by
    refine ⟨I2.ok.mod, S.kind, I2.ok.glob, I2.ok.blt, ?_, ?_, ?_, ?_, I2.ok.hd, I2.ok.frames, .inl rfl, ?_, I2.bs, ?_, ?_, ?_, I2.stack, I2.stkFree⟩
    · show s2.heap.objs.size ≤ C
      omega
    · intro x y c e1 e2
      exact I2.ok.inj x y c (hcl1 x c e1).1 (hcl1 y c e2).1
    · intro x hx
      have hx' : (relabel sc X.env).names.lookup x = some .cell ∨ (relabel sc X.env).names.lookup x = some .free := hx
      unfold relabel at hx'
      rw [lookup_relabel] at hx'
      cases q : sc.names.lookup x with
      | none => rw [q] at hx'; simp at hx'
      | some k =>
        have hm := PySem.mem_of_lookup q
        by_cases hk : k = .free
        · subst hk
          exact hcl2 x hm
        · have hk2 : k ≠ .cell := S.nc _ hm
          rw [q] at hx'
          have hb : (k == NameKind.free) = false := by simpa using hk
          simp only [Option.map_some, hb, Bool.false_and, Bool.false_eq_true, if_false] at hx'
          rcases hx' with z | z
          · exact absurd (Option.some.inj z) hk2
          · exact absurd (Option.some.inj z) hk
    · intro x c hfn
      exact absurd hfn Bool.false_ne_true
    · intro b hb
      refine ⟨?_, fun x c e z => (f2 b hb).2.2.2.2.1 x c (hcl1 x c e).1 z⟩
      show b ≠ C
      have := ltN (fpD b hb)
      exact neN (by omega)
    · exact Nat.le_trans I2.ok.bsz I2.sz
    · intro b o e hb
      rcases (f2 b hb).2.2.2.1 with z | z
      · exact I2.ok.noex b o e z
      · have h1 := lsz (h := X.base) e
        have h2 := I2.ok.bsz
        omega
    · intro b hb z
      rcases List.mem_cons.mp (I2.stkSub b z) with q | q
      · exact (f2 b hb).2.1 q
      · exact (f2 b hb).2.2.1 q
  have un0 : Un (frs X.stack) fp H2 (upd H2 D (.lst [])) s2.heap h₁ := Un.laid old (by omega) hD2
  have hok0 : HOk X.prog X.w (upd H2 D (.lst [])) h₁ := I2.hok.laid old (by omega) ⟨Nat.zero_le _, [], 0, .nil, hacc⟩
  have IY : ∀ tk, Inv (blk X sc N' cl C s2 H2 fp) [] (blkSt ix σ) (upd H2 D (.lst [])) { s2 with heap := h₁, toks := tk } := fun tk => by
    refine ⟨Yok, rfl, I2.bare, un0, ⟨_, hns₁, fun i x v e1 e2 e3 => ?_⟩, fun x c e => ?_, ?_, fun x c e => ?_, fun p hp => absurd (show p ∈ ([] : List (Addr × Obj)) from hp) (by simp), hok0, ?_⟩
    · have e1' : N'[i]? = some x := e1
      unfold blkSt at e2
      rw [List.getElem?_map] at e2
      cases q : ix[i]? with
      | none => rw [q] at e2; cases e2
      | some o =>
        cases o with
        | none => rw [q] at e2; cases e2
        | some j =>
          rw [q] at e2
          have e2' : (σ[j]?).getD none = some v := Option.some.inj e2
          have e4 : σ[j]? = some (some v) := by
            cases z : σ[j]? with
            | none => rw [z] at e2'; cases e2'
            | some y => rw [z] at e2'; exact congrArg some e2'
          obtain ⟨a1, a2⟩ := S.at q e1'
          have hmem := PySem.mem_of_lookup a2
          have hk := S.fr _ hmem rfl
          obtain ⟨m, _, hl⟩ := I2.loc
          obtain ⟨u, r, l⟩ := hl j x v a1 e4 (.inr hk)
          refine ⟨u, r, .inr ⟨?_, ?_⟩⟩
          · show (relabel sc X.env).names.lookup x = some .cell ∨ (relabel sc X.env).names.lookup x = some .free
            unfold relabel
            rw [lookup_relabel, a2]
            by_cases hb : (X.env.scope.kind == .function && X.env.kindOf x == some .cell) = true
            · left
              simp only [Option.map_some, beq_self_eq_true, Bool.true_and, hb, if_true]
            · right
              simp only [Option.map_some, beq_self_eq_true, Bool.true_and, hb, if_false, Bool.false_eq_true]
          · obtain ⟨c, hcx⟩ := hcl2 x hmem
            have hcX := (hcl1 x c hcx).1
            refine ⟨c, hcx, ?_⟩
            rcases l with ⟨k, _⟩ | ⟨k, c', e', z⟩
            · have k' : X.env.scope.names.lookup x = some .local := k
              rcases hk with y | y <;> rw [k'] at y <;> cases y
            · rw [hcX] at e'
              cases e'
              obtain ⟨o, ho, hd⟩ := z
              exact ⟨o, old _ _ ho, hd⟩
    · obtain ⟨v, o, ho, hd⟩ := cellX x c e
      exact ⟨v, o, old _ _ ho, hd⟩
    · show upd H2 D (.lst []) C = none
      rw [upd_ne (Ne.symm hDC)]
      exact hC2
    · have hlt := ltN (cltD x c e)
      show upd H2 D (.lst []) c = none
      rw [upd_ne (neN (by omega))]
      exact I2.freeC x c (hcl1 x c e).1
    · unfold blkSt
      rw [List.length_map]
      exact S.len
  have fpY : ∀ {pins' : List (Addr × Obj)} {H' : Hp}, (∀ b ∈ fp, H' b = none) → (∀ p ∈ pins', p.1 ∉ fp) → ∀ b ∈ fp, FpOk (blk X sc N' cl C s2 H2 fp) pins' H' b := fun hn hp b hb => by
    refine ⟨hn b hb, ?_, ?_, .inl hb, fun x c e z => (f2 b hb).2.2.2.2.1 x c (hcl1 x c e).1 z, fun p hpp z => ?_⟩
    · show b ≠ C
      have := ltN (fpD b hb)
      exact neN (by omega)
    · exact Yok.exfs b hb
    · have hpp' : p ∈ ([] : List (Addr × Obj)) ++ _ := hpp
      exact hp p hpp' (z ▸ hb)
  have loop : ∀ s₃ : Shared, s₃ = { s2 with heap := h₁, toks := s2.toks + ([] : List (Str × Value)).length } →
      codeAny (model X.prog X.w) X.A (.compLoop (.ListComp elt [⟨tg, iter, ifs, 0⟩] sc pos) 0 (.ref it) (.ref D) (compEnvC sc cl C X.env)) (RR (.ref D) C) s₃ := by
    rintro s₃ rfl
    refine codeAny_compLoop_go (fun n s' => ∃ i σ' ys H', Inv (blk X sc N' cl C s2 H2 fp) [] σ' H' s' ∧ tn i s'.heap ∧ (∀ b ∈ fp, H' b = none) ∧ W i n σ' ys H') ?_ m0
      ⟨0, _, [], _, IY _, T.keep _ _ _ st2 (fun b _ o e => old b o e), fun b hb => by rw [upd_ne (Nat.ne_of_lt (fpD b hb))]; exact (f2 b hb).1, w0⟩
    rintro n s3 ⟨i, σ3, ys, H3, I3, st3, fr3, w3⟩
    obtain ⟨hDl, w3⟩ := turn i n σ3 ys H3 w3
    rcases w3 with ⟨stop, qn⟩ | ⟨go, step⟩
    · refine thn (T.done (blk X sc N' cl C s2 H2 fp) rfl rfl rfl hc i [] s3 σ3 H3 _ I3 (fpY fr3 (by simp)) st3 stop) fun r s4 ⟨hr, I4⟩ => ?_
      subst hr
      obtain ⟨m, hn, _⟩ := I4.loc
      refine hRR D C m s4 H3 (I2.call' (ch := fp) I4.os I4.base I4.hok I4.bare fun b hb => ?_) qn hn ?_
      · obtain ⟨a0, a1, a2, a3, a4, a5⟩ := f2 b hb
        exact ⟨a3, a1, a4, a5⟩
      · refine ⟨I4.free, ?_, ?_, fun x c e z => ?_, fun p hp z => ?_⟩
        · have := ltN I2.lt
          exact neN (by omega)
        · have := I2.sz
          omega
        · obtain ⟨v, q⟩ := I2.cell x c e
          have := cellN q
          exact neN (a := c) (b := C) (by omega) z
        · have := lsz (I2.pin p hp).1
          exact neN (a := p.1) (b := C) (by omega) z
    · refine thn (T.item (blk X sc N' cl C s2 H2 fp) rfl rfl rfl hc i [] s3 σ3 H3 (fun _ _ => False) I3 (fpY fr3 (by simp)) st3 go) fun r s4 ⟨u, hr, h4⟩ => ?_
      subst hr
      refine thn h4 fun _ s5 ⟨x, H5, I5, r5, y5, st5, fr5⟩ => ?_
      have I5' := I5.pinned (fpY fr5 (by simp)) (T.obj _ _ st5)
      refine thn (hg _ _ _ _ _ _ s5 σ3 H5 x u _ I5' r5 (step x H5 y5)) fun _ s6 ⟨σ6, H6, I6, q6⟩ => ?_
      refine thn (hf _ _ _ _ _ _ s6 σ6 H6 _ I6 q6) fun b s7 ⟨H7, I7, q7⟩ => ?_
      have keepT : ∀ {s8 : Shared} {σ8 : St} {H8 : Hp}, Inv (blk X sc N' cl C s2 H2 fp) ([] ++ pinsAt fp s5.heap) σ8 H8 s8 → tn (i + 1) s8.heap ∧ ∀ b ∈ fp, H8 b = none := fun {s8 σ8 H8} I8 => by
        refine ⟨T.keep _ _ _ st5 fun b hb o e => (I8.pin (b, o) (List.mem_append_right _ (List.mem_append_right _ (mem_pinsAt hb e)))).1, fun b hb => ?_⟩
        obtain ⟨o, e, d⟩ := T.obj _ _ st5 b hb
        exact (I8.pin (b, o) (List.mem_append_right _ (List.mem_append_right _ (mem_pinsAt hb e)))).2.1
      cases b with
      | false =>
        have q7' := q7
        obtain ⟨m', hm, w7⟩ := q7'
        obtain ⟨t7, fr7⟩ := keepT I7
        exact ⟨m', hm, i + 1, σ6, ys, H7, I7.unpinned, t7, fr7, w7⟩
      | true =>
        refine thn (he _ _ _ _ _ _ s7 σ6 H7 _ I7 q7) fun yv s8 ⟨y, H8, I8, r8, hD8, hz8, m', hm, w8⟩ => ?_
        obtain ⟨z, its, k, rv, hl8, e8⟩ := I8.lstM hD8
        obtain ⟨t8, fr8⟩ := keepT I8
        refine wpAny_list_append_plain (s := s8) (items := its.toArray) (hsz := by rw [List.size_toArray]; omega) ⟨_, e8⟩ fun h9 hl9 hs9 => ?_
        obtain ⟨k9, e9⟩ := hl9
        have hv9 := Vals.append rv (.cons r8 .nil)
        have I9 : Inv (blk X sc N' cl C s2 H2 fp) ([] ++ pinsAt fp s5.heap) σ6 (upd H8 D (.lst (ys ++ [y]))) { s8 with heap := h9, toks := s8.toks } := by
          refine I8.write (x := D) (e := D) (by rw [hD8]; exact trivial) (.inl rfl) (fun b u hb hu => (hs9.2 b hb).trans hu) ⟨_, e9⟩ ?_
          refine ⟨by rw [List.length_append, List.length_singleton]; exact hz8, its ++ [yv], k9, hv9, ?_⟩
          rw [e9]
          simp
        obtain ⟨t9, fr9⟩ := keepT I9
        exact ⟨m', hm, i + 1, σ6, _, _, I9.unpinned, t9, fr9, w8⟩
  exact codeAny_compStart_list (loop _ rfl) (T.self _ 0 _ _ _ (T.keep _ _ _ st2 fun b _ o e => old b o e) (loop _ rfl))
theorem pe_lc (hc : X.calm = true) (S : LcScope X.env.scope X.N sc N' ix) (hi : PI X tg iter wi)
    (hg : ∀ cl C s2 H2 fp, PG (blk X sc N' cl C s2 H2 fp) tg g) (hf : ∀ cl C s2 H2 fp, PFs (blk X sc N' cl C s2 H2 fp) ifs tf) (he : ∀ cl C s2 H2 fp, PE (blk X sc N' cl C s2 H2 fp) elt te)
    (hs : ∀ x, foldedSetIterable iter X.env x = pure x := by intro _; rfl) : PE X (.ListComp elt [⟨tg, iter, ifs, 0⟩] sc pos) (tLc ix wi g tf te) := by
  intro pins s σ H Q I h
  have hcells : ∀ y ∈ sc.names, y.2 = .free → ∃ c, X.env.cells.lookup y.1 = some c := fun y hy hk => I.ok.has y.1 (S.fr y hy hk)
  obtain ⟨cl, hclos, hcl1, hcl2⟩ := closureFor_ok hcells
  refine wpAny_comprehension_free (use := none) rfl hs hclos S.kind S.loc (thn (hi pins s σ H _ I h) fun v s1 h1 => thn h1 fun itv s2 h2 => ?_)
  obtain ⟨it, fp, tn, J, H2, rfl, I2, T, st2, f2, hW⟩ := h2
  refine lc_core (RR := fun acc C => compPost (model X.prog X.w) X.A X.xe none (EP X pins σ Q) acc C) hc S hg hf he hcl1 hcl2 I2 T st2 f2 hW fun D C m s' H' I' q hn F => ?_
  refine ⟨m, hn, fun h' hs' => ⟨.ref D, H', ?_, rfl, q⟩⟩
  exact I'.turned (it := C) (t' := s'.toks) (fun b o hb e => (hs'.2 b hb).trans e) F.hn F.hL (.inr F.ab) F.cl F.pn
end
end L2
set_option Elab.async false
set_option linter.all false
set_option maxRecDepth 100000
namespace L2
open PySem PySem.Spec PyProof.Rows
section
variable {X : Cx} {a b e : Expr} {ta tb : TE} {pos : Pos}
theorem call_isinst : CallR X (.builtin "isinstance") (fun xs H Q => ∃ x c t b, xs = [x, .ty c] ∧ TyOf X.K H x t ∧ PySem.W.kitOne X.K t (.type c) = some b ∧ Q (.bl b) H) := by
  intro pins s σ H xs us Q I r h
  obtain ⟨x, c, t, b, rfl, ty, hk, q⟩ := h
  obtain ⟨u, w', rfl, ru, rw'⟩ := vals2 r
  cases (show w' = Value.type c from rw')
  exact isinst_ok I ru ty hk fun tk => ⟨.bl b, H, I.tok _, rfl, q⟩
theorem op_is_bl : OpR X (compareOp .Is) (fun x y H Q => ∃ i j, x = .bl i ∧ y = .bl j ∧ Q (.bl (i == j)) H) := by
  intro pins s σ H x y v u Q I rx ry h
  obtain ⟨i, j, rfl, rfl, q⟩ := h
  cases rx
  cases ry
  exact wpAny_pure ⟨.bl (i == j), H, I, by cases i <;> cases j <;> rfl, q⟩
theorem op_isnot_bl : OpR X (compareOp .IsNot) (fun x y H Q => ∃ i j, x = .bl i ∧ y = .bl j ∧ Q (.bl (!(i == j))) H) := by
  intro pins s σ H x y v u Q I rx ry h
  obtain ⟨i, j, rfl, rfl, q⟩ := h
  cases rx
  cases ry
  exact wpAny_pure ⟨.bl (!(i == j)), H, I, by cases i <;> cases j <;> rfl, q⟩
theorem op_ne_nil (hu : X.A.units < cLine) : OpR X (compareOp .NotEq) (fun x y H Q => ∃ p q xs, x = .ref p ∧ y = .ref q ∧ SqL X.K H p xs ∧ SqL X.K H q [] ∧ Q (.bl (!xs.isEmpty)) H) := by
  intro pins s σ H x y v u Q I rx ry h
  obtain ⟨p, q, xs, rfl, rfl, hp, hq, k⟩ := h
  cases rx
  cases ry
  obtain ⟨its, r, pl, hz⟩ := I.list hp
  obtain ⟨its2, r2, pl2, hz2⟩ := I.list hq
  cases r2
  cases xs with
  | nil =>
    cases r
    refine EqBoolInt.of_rcne (SeqAt.RcNeAt.lists (e := fun _ => true) pl.isList pl2.isList rfl hu fun j h1 => absurd h1 (by simp)) ?_
    exact ⟨.bl false, H, I, rfl, k⟩
  | cons y ys =>
    have hl := r.length
    refine EqBoolInt.of_rcne (SeqAt.RcNeAt.lists_lengths pl.isList pl2.isList (by simp at hl ⊢; intro z; subst z; simp at hl) hu) ?_
    exact ⟨.bl true, H, I, rfl, k⟩
theorem bools_of {bs : List Bool} : ∀ {us : List Value}, Vals (bs.map V.bl) us → us = bs.map Value.bool := by
  induction bs with
  | nil => intro us r; rw [List.map_nil] at r; cases r; rfl
  | cons n ns ih =>
    intro us r
    cases r with
    | cons r1 r2 =>
      cases r1
      rw [ih r2]
      rfl
theorem call_all_l (hc : X.calm = true) : CallR X (.builtin "all") (fun xs H Q => ∃ (p : Addr) (bs : List Bool), xs = [.ref p] ∧ SqL X.K H p (bs.map V.bl) ∧ Q (.bl (bs.all id)) H) := by
  intro pins s σ H xs us Q I r h
  obtain ⟨p, bs, rfl, hp, q⟩ := h
  obtain ⟨u, rfl, ru⟩ := vals1 r
  cases ru
  obtain ⟨its, rv, pl, hz⟩ := I.list hp
  have eb := bools_of rv
  subst eb
  have hl := pl.isList
  have hlt : p < s.heap.objs.size := by obtain ⟨_, e, _⟩ := hl; exact Heap.lt_size e
  refine call_all_walk (wpAny_pyIter_list hl ?_)
  refine ⟨s.heap.objs.size, [s.heap.objs.size, p], [s.heap.objs.size], (bs.map Value.bool).toArray.size, _, _, fun i => (bs[i]?).getD true, rfl, Walks.list (A := X.A.in1) (I.ok.hd hc) _ p (Nat.ne_of_lt hlt) (bs.map Value.bool).toArray,
    ⟨⟨_, Heap.get?_push_size _ rfl, rfl, rfl⟩, hl.push _⟩, fun i v s' Q' E' hP hQ => ?_, fun h' tk hk => ?_⟩
  · have hP' : (bs.map Value.bool)[i]? = some v := by simpa using hP
    rw [List.getElem?_map] at hP'
    cases e : bs[i]? with
    | none => rw [e] at hP'; cases hP'
    | some b =>
      rw [e] at hP'
      cases hP'
      simp only [e, Option.getD_some] at hQ
      exact wpAny_truthy_bool hQ
  · have e : ((List.range (bs.map Value.bool).toArray.size).all fun i => (bs[i]?).getD true) = bs.all id := by
      rw [List.size_toArray, List.length_map]; exact LSm.range_all bs
    rw [e]
    exact ⟨.bl (bs.all id), H, I.kept (LSm.kept_iter hk), rfl, q⟩
theorem list_extend_tup (l : Addr) (items : Array Value) (n : Nat) (b : Addr) (items2 : Array Value) (n2 : Nat) (dd : Option Addr) (sl : Array (Option Value)) (hs0 : ¬(!items.isEmpty && Builtin.List.listTooLong (items.size + items2.size)) = true) (hs1 : items.size ≤ sizeLine) (hs2 : items.size + items2.size ≤ sizeLine + 1) :
    Meets (Builtin.«list.extend» ⟨[.ref l, .ref b], []⟩) (fun _ R s => s.heap.get? l = some { cls := .type "list", dict := none, data := .seq items n, slots := #[] } ∧ s.heap.get? b = some { cls := .type "tuple", dict := dd, data := .seq items2 n2, slots := sl } ∧ R (.ok (.ret Value.none)) { s with heap := s.heap.update l (Obj.mapSeq fun x => x ++ items2), toks := s.toks }) :=
  .of_wp fun prog w A R s h => by
    obtain ⟨hp, g, d, tk, os⟩ := s; obtain ⟨hl, hb, h⟩ := h; have f1 := PySem.AutoSeq1.idx_int; have f2 := PySem.AutoSeq1.sub_tuple_tuple; have f3 := PySem.AutoSeq1.sub_list_list; have f4 := PySem.AutoSeq1.sub_tuple_list; have f5 := PySem.AutoSeq1.sub_list_tuple;
    have hz' : (items ++ items2).size ≤ sizeLine + 1 := by rw [Array.size_append]; exact hs2
    wp_walk using (wpAny_updateSeq hl rfl (hz := hs1) (_hz' := hz')), PySem.AutoSeq1.wpAny_loadPart' hl, PySem.AutoSeq1.wpAny_loadPart' hb; exact ⟨_, rfl, h⟩
def rExtendT (K : PySem.W.Frag) : V → List V → Hp → VK → Prop := fun x vs H Q => ∃ l b xs zs, x = .ref l ∧ vs = [.ref b] ∧ H l = some (.lst xs) ∧ SqT K H b zs ∧ xs.length + zs.length ≤ sizeLine ∧ Q .non (upd H l (.lst (xs ++ zs)))
theorem mt_extendT : MtM X "list.extend" (rExtendT X.K) := by
  intro pins s σ H x vs v us Q I rx rv h
  obtain ⟨l, b, xs, zs, rfl, rfl, hH, hB, hz, q⟩ := h
  cases rx
  obtain ⟨u, rfl, ru⟩ := rv.one
  cases ru
  obtain ⟨z, its, n, r, hl, e⟩ := I.lstM hH
  obtain ⟨its2, r2, ⟨⟨cls, dd, data, sl⟩, e2, hc, n2, hd⟩, z2⟩ := I.tuple hB
  simp only at hc hd
  subst hc hd
  have hl2 := r2.length
  have hsz : its.toArray.size + its2.toArray.size ≤ sizeLine := by rw [List.size_toArray, List.size_toArray]; omega
  have hlong : ¬ (!its.toArray.isEmpty && Builtin.List.listTooLong (its.toArray.size + its2.toArray.size)) = true := by
    rw [notLongL hsz, Bool.and_false]
    exact Bool.false_ne_true
  refine call_meets F.slot_list_extend ⟨_, e, rfl⟩ F.entry_list_extend (F.args_list_extend_2 _ _)
    (list_extend_tup l its.toArray n b its2.toArray n2 dd sl hlong (by rw [List.size_toArray]; omega) (by omega)) ⟨e, e2, ?_⟩
  refine ⟨.non, _, I.lset (its' := its ++ its2) hH e (by simp) (r.append r2) ?_, rfl, q⟩
  rw [List.length_append]
  omega
def Its (x : Str) : It := ⟨fun i _ => i < x.cps.size, fun i H v H' => H' = H ∧ ∃ c, x.cps[i]? = some c ∧ v = .str ⟨#[c]⟩, fun i _ => x.cps.size ≤ i⟩
theorem turn_str_a {P : Program} {w : World} {K : PySem.W.Frag} {tg : Expr} (it : Addr) (x : Str) (t : Tok) (ty : String) (hty : ty = "str_ascii_iterator" ∨ ty = "str_iterator") : Turn P w K tg (Its x) [it] it (fun i h => h.IsStrIter it ty x t i ∧ i ≤ x.cps.size) where
  mem := by simp
  obj := fun i h st b hb => by
    have e : b = it := by simpa using hb
    subst e
    obtain ⟨⟨o, e, c, d⟩, _⟩ := st
    exact ⟨o, e, fun v z => by rw [d] at z; cases z⟩
  keep := fun i h h' st k => ⟨let ⟨o, ho, r⟩ := st.1; ⟨o, k it (by simp) o ho, r⟩, st.2⟩
  item := by
    intro X hP hw hK hc i pins s σ H E I hf st hg
    subst hP hw hK
    obtain ⟨f0, f1, f2, f3, f4, f5⟩ := hf it (by simp)
    have hg' : i < x.cps.size := hg
    obtain ⟨st, _⟩ := st
    rcases hty with rfl | rfl
    · refine wpAny_pyNext_ascii_item st (c := x.cps[i]) (by simp [hg']) fun h' st' sb => ?_
      have I1 : Inv X pins σ H { s with heap := h', toks := s.toks + 1 } := I.turned (fun b o hb e => (sb.2 b hb).trans e) f0 f1 f3 f4 f5
      obtain ⟨o, e, c, d⟩ := id st'
      exact ⟨_, rfl, go_of (s := { s with heap := h', toks := s.toks + 1 }) e c d (by decide) ⟨.str ⟨#[x.cps[i]]⟩, H, I1, ⟨_, rfl⟩, ⟨rfl, _, by simp [hg'], rfl⟩, ⟨st', hg'⟩, fun b hb => (hf b hb).1⟩⟩
    · refine wpAny_pyNext_wide_item st (c := x.cps[i]) (by simp [hg']) fun h' st' sb => ?_
      have I1 : Inv X pins σ H { s with heap := h', toks := s.toks + 1 } := I.turned (fun b o hb e => (sb.2 b hb).trans e) f0 f1 f3 f4 f5
      obtain ⟨o, e, c, d⟩ := id st'
      exact ⟨_, rfl, go_of (s := { s with heap := h', toks := s.toks + 1 }) e c d (by decide) ⟨.str ⟨#[x.cps[i]]⟩, H, I1, ⟨_, rfl⟩, ⟨rfl, _, by simp [hg'], rfl⟩, ⟨st', hg'⟩, fun b hb => (hf b hb).1⟩⟩
  done := by
    intro X hP hw hK hc i pins s σ H E I hf st hg
    obtain ⟨f0, f1, f2, f3, f4, f5⟩ := hf it (by simp)
    obtain ⟨st, _⟩ := st
    have hn : x.cps[i]? = none := by
      have hg' : x.cps.size ≤ i := hg
      simp [hg']
    rcases hty with rfl | rfl
    · exact wpAny_pyNext_ascii_end (I.ok.hd hc) st hn fun h' eb => ⟨rfl, I.turned (t' := s.toks) (fun b o hb e => eb b o hb e) f0 f1 f3 f4 f5⟩
    · exact wpAny_pyNext_wide_end (I.ok.hd hc) st hn fun h' eb => ⟨rfl, I.turned (t' := s.toks) (fun b o hb e => eb b o hb e) f0 f1 f3 f4 f5⟩
  self := fun _ _ _ _ _ st h => by
    obtain ⟨st, _⟩ := st
    rcases hty with rfl | rfl
    · exact wpAny_pyIter_striter_ascii st h
    · exact wpAny_pyIter_striter_wide st h
def iStr (tl : TE) : TI := fun σ H R => tl σ H fun x H1 => ∃ z, x = .str z ∧ R (Its z) H1
theorem pi_str {tg l : Expr} {tl : TE} (hl : PE X l tl) : PI X tg l (iStr tl) := by
  intro pins s σ H R I h
  refine thn (hl pins s σ H _ I h) fun v s1 ⟨x, H1, I1, r1, q1⟩ => ?_
  obtain ⟨z, e, q⟩ := q1
  subst e
  obtain ⟨t, rfl⟩ := r1
  have fin : ∀ (ty : String) (hty : ty = "str_ascii_iterator" ∨ ty = "str_iterator") (o : Obj), (s1.heap.push o).IsStrIter s1.heap.objs.size ty z t 0 → PIE X pins σ tg R (.ref s1.heap.objs.size) { s1 with heap := s1.heap.push o } := fun ty hty o st => by
    refine ⟨s1.heap.objs.size, [s1.heap.objs.size], _, _, H1, rfl, I1.kept (t' := s1.toks) fun b o e => Heap.get?_push_of_some _ e, turn_str_a _ z t ty hty, ⟨st, Nat.zero_le _⟩, fun b hb => ?_, q⟩
    have e : b = s1.heap.objs.size := by simpa using hb
    subst e
    exact I1.fpOk (Nat.le_refl _) (I1.hok.fresh (Nat.le_refl _))
  cases ha : z.cps.all (· < 128)
  · exact wpAny_pyIter_wide ha (fin _ (.inr rfl) _ ⟨_, Heap.get?_push_size _ rfl, rfl, rfl⟩)
  · exact wpAny_pyIter_ascii ha (fin _ (.inl rfl) _ ⟨_, Heap.get?_push_size _ rfl, rfl, rfl⟩)
end
section
variable {X : Cx} {o : Expr} {lo hi : Expr} {to tl th : TE} {pos p2 : Pos}
def gSlice (to tl th : TE) : TG := fun v σ H Q => to σ H fun x H1 => tl σ H1 fun i H2 => th σ H2 fun j H3 => ∃ l b xs ys a c, x = .ref l ∧ v = .ref b ∧ i = .int a ∧ j = .int c ∧ H3 l = some (.lst xs) ∧ H3 b = some (.lst ys) ∧ l ≠ b ∧ 0 ≤ a ∧ a ≤ c ∧ c ≤ xs.length ∧ xs.length + ys.length ≤ sizeLine ∧
  Q σ (upd H3 l (.lst (xs.take a.toNat ++ ys ++ xs.drop c.toNat)))
theorem pg_slice (ho : PE X o to) (hl : PE X lo tl) (hh : PE X hi th)
    (ha : ∀ v, assign (.Subscript o (.Slice (some lo) (some hi) none p2) pos) X.env v = (do
      let ov ← holding [v] (eval o X.env)
      let iv ← holding [v, ov] (eval (.Slice (some lo) (some hi) none p2) X.env)
      standAt pos
      holding [v, ov, iv] (setItem ov iv v)
      release [iv, v, ov] []) := by intro _; rfl) : PG X (.Subscript o (.Slice (some lo) (some hi) none p2) pos) (gSlice to tl th) := by
  intro pins s σ H v u Q I r h
  refine wpAny_bind (wpAny_holding (thn (ho pins s σ H _ I h) fun ov s1 ⟨x, H1, I1, r1, q1⟩ => ?_))
  refine wpAny_bind (wpAny_holding (wpAny_Slice ?_))
  rw [evalPart_some, evalPart_some, evalPart_none]
  refine thn (hl pins s1 σ H1 _ I1 q1) fun vl s2 ⟨i, H2, I2, r2, q2⟩ => thn (hh pins s2 σ H2 _ I2 q2) fun vu s3 ⟨j, H3, I3, r3, q3⟩ => wpAny_pure ?_
  obtain ⟨l, b, xs, ys, a, c, rfl, rfl, rfl, rfl, hH, hB, hne, h0, hac, hc, hz, q⟩ := q3
  cases r
  cases r1
  have I4 : Inv X pins σ H3 { s3 with heap := s3.heap.push { cls := .type "slice", data := .fields #[vl, vu, .none] } } := I3.kept (t' := s3.toks) fun b ob q => Heap.get?_push_of_some _ q
  refine wpAny_bind (wpAny_standAt (wpAny_bind (wpAny_holding (set_slice I4 hH hB hne (Heap.IsSliceOf.new ..) r2 r3 h0 hac hc hz fun s' I' => ?_))))
  exact wpAny_release ⟨σ, _, I', q⟩
end
end L2
set_option Elab.async false
set_option linter.all false
set_option maxRecDepth 100000
namespace L2
open PySem PySem.Spec PyProof.Rows
def SameX (l : Addr) (H H' : Hp) : Prop := ∀ b u, b ≠ l → H b = some u → H' b = some u
theorem same_new {H : Hp} {p : Addr} (h : H p = none) (o : HO) : Same H (upd H p o) := fun b u q => by rw [upd_ne (ne_of_none q h)]; exact q
theorem samex_upd {H : Hp} {p : Addr} (o : HO) : SameX p H (upd H p o) := fun b u n q => by rw [upd_ne n]; exact q
def newO (H : Hp) (o : HO) (Q : VK) : Prop := ∀ p H', Same H H' → H' p = some o → H p = none → Q (.ref p) H'
theorem newO.at {H : Hp} {o : HO} {Q : VK} (h : newO H o Q) (p : Addr) (hp : H p = none) : Q (.ref p) (upd H p o) := h p _ (same_new hp o) upd_same hp
def updO (H : Hp) (l : Addr) (o : HO) (Q : Hp → Prop) : Prop := ∀ H', SameX l H H' → H' l = some o → Q H'
theorem updO.at {H : Hp} {l : Addr} {o : HO} {Q : Hp → Prop} (h : updO H l o Q) : Q (upd H l o) := h _ (samex_upd o) upd_same
theorem OpR.mono {X : Cx} {f : Value → Value → Sem Value} {r r' : R2} (h : OpR X f r) (hr : ∀ x y H Q, r' x y H Q → r x y H Q) : OpR X f r' := fun pins s σ H x y v u Q I rx ry q => h pins s σ H x y v u Q I rx ry (hr _ _ _ _ q)
theorem CallR.mono {X : Cx} {f : Value} {r r' : List V → Hp → VK → Prop} (h : CallR X f r) (hr : ∀ xs H Q, r' xs H Q → r xs H Q) : CallR X f r' := fun pins s σ H xs us Q I rx q => h pins s σ H xs us Q I rx (hr _ _ _ q)
theorem MtM.mono {X : Cx} {id : String} {r r' : V → List V → Hp → VK → Prop} (h : MtM X id r) (hr : ∀ x xs H Q, r' x xs H Q → r x xs H Q) : MtM X id r' := fun pins s σ H x xs v us Q I rx rv q => h pins s σ H x xs v us Q I rx rv (hr _ _ _ _ q)
theorem PSet.mono {X : Cx} {r r' : TSet} (h : PSet X r) (hr : ∀ o i v H Q, r' o i v H Q → r o i v H Q) : PSet X r' := fun pins s σ H o i v ov iv u Q I ro ri rv q => h pins s σ H o i v ov iv u Q I ro ri rv (hr _ _ _ _ _ q)
theorem SlR.mono {X : Cx} {r r' : V → Option Int → Option Int → Hp → VK → Prop} (h : SlR X r) (hr : ∀ x lo hi H Q, r' x lo hi H Q → r x lo hi H Q) : SlR X r' := fun pins s σ H x v vl vu lo hi sl Q I rx hs pl pu q => h pins s σ H x v vl vu lo hi sl Q I rx hs pl pu (hr _ _ _ _ _ q)
section
variable {X : Cx} {e o : Expr} {es : List Expr} {te : TE} {t : TA} {pos : Pos}
def tTupN (t : TA) : TE := fun σ H Q => t σ H fun xs H1 => xs.length ≤ sizeLine ∧ newO H1 (.tup xs) Q
def tLstN (t : TA) : TE := fun σ H Q => t σ H fun xs H1 => xs.length ≤ sizeLine ∧ newO H1 (.lst xs) Q
theorem pe_tupN {x1} (h : PA X es t) : PE X (.Tuple es x1 pos) (tTupN t) := by
  intro pins s σ H Q I hq
  refine wpAny_Tuple_spliced (thn (h pos pins s σ H _ I hq) fun us s1 ⟨xs, H1, I1, r, z, q⟩ => ⟨by rw [← r.length]; exact z, ?_⟩)
  have hf := I1.hok.fresh (Nat.le_refl _)
  refine ⟨.ref s1.heap.objs.size, upd H1 s1.heap.objs.size (.tup xs), I1.laid (t' := s1.toks) (fun b u e => Heap.get?_push_of_some _ e) (Nat.le_refl _) ?_, rfl, q.at _ hf⟩
  exact ⟨z, us, r, ⟨_, Heap.get?_push_size _ rfl, rfl, _, rfl⟩⟩
theorem pe_lstN (h : PA X es t) : PE X (.List es pos) (tLstN t) := by
  intro pins s σ H Q I hq
  refine wpAny_List_spliced (thn (h pos pins s σ H _ I hq) fun us s1 ⟨xs, H1, I1, r, z, q⟩ => ⟨by rw [← r.length]; exact z, ?_⟩)
  have hf := I1.hok.fresh (Nat.le_refl _)
  refine ⟨.ref s1.heap.objs.size, upd H1 s1.heap.objs.size (.lst xs), I1.laid (t' := s1.toks) (fun b u e => Heap.get?_push_of_some _ e) (Nat.le_refl _) ?_, rfl, q.at _ hf⟩
  exact ⟨z, us, 0, r, Heap.get?_push_size _ rfl⟩
def tDictN : TE := fun _ H Q => newO H (.dK []) Q
theorem pe_dictN : PE X (.Dict [] [] pos) tDictN := fun pins s σ H Q I h => pe_dnewK pins s σ H Q I fun p hp => h.at p hp
def rPlus (K : PySem.W.Frag) : R2 := fun x y H Q => match x with
  | .int i => ∃ j, y = .int j ∧ Q (.int (i + j)) H
  | .str i => ∃ j, y = .str j ∧ i.length + j.length ≤ sizeLine ∧ Q (.str (i ++ j)) H
  | .ref a => (∃ b xs zs, y = .ref b ∧ H a = some (.lst xs) ∧ H b = some (.lst zs) ∧ xs.length + zs.length ≤ sizeLine ∧ newO H (.lst (xs ++ zs)) Q) ∨ rCatT K x y H Q
  | _ => False
theorem op_addA : OpR X (binaryOp .Add) (rPlus X.K) := by
  refine ((op_add.or op_add_str).or (op_cat.or op_catT)).mono fun x y H Q h => ?_
  cases x with
  | int i => obtain ⟨j, rfl, q⟩ := h; exact .inl (.inl ⟨i, j, rfl, rfl, q⟩)
  | str i => obtain ⟨j, rfl, hl, q⟩ := h; exact .inl (.inr ⟨i, j, rfl, rfl, hl, q⟩)
  | ref a =>
    rcases h with ⟨b, xs, zs, rfl, h1, h2, hz, q⟩ | h
    · exact .inr (.inl ⟨a, b, xs, zs, rfl, rfl, h1, h2, hz, fun p hp => q.at p hp⟩)
    · exact .inr (.inr h)
  | _ => exact h.elim
theorem op_mulA : OpR X (binaryOp .Mult) (rI IntMulOk fun i j => .int (i * j)) := opI fun _ _ _ _ _ _ _ hc q => mul_int q hc
def rSlLN (K : PySem.W.Frag) : V → Option Int → Option Int → Hp → VK → Prop := fun x lo hi H Q => ∃ a xs, x = .ref a ∧ SqL K H a xs ∧ newO H (.lst (cutV xs lo hi)) Q
theorem sl_listN : SlR X (rSlLN X.K) := sl_list.mono fun x lo hi H Q ⟨a, xs, e, h, q⟩ => ⟨a, xs, e, h, fun p hp => q.at p hp⟩
theorem call_listN : CallR X (.type "list") (fun xs H Q => ∃ p ys, xs = [.ref p] ∧ (SqL X.K H p ys ∨ SqT X.K H p ys) ∧ newO H (.lst ys) Q) := call_list_of.mono fun xs H Q ⟨p, ys, e, h, q⟩ => ⟨p, ys, e, h, fun l hl => q.at l hl⟩
def rAppendN : V → List V → Hp → VK → Prop := fun x vs H Q => ∃ l xs y, x = .ref l ∧ vs = [y] ∧ H l = some (.lst xs) ∧ xs.length < sizeLine ∧ updO H l (.lst (xs ++ [y])) (Q .non)
theorem mt_appendN : MtM X "list.append" rAppendN := mt_append.mono fun x xs H Q ⟨l, ys, y, e1, e2, h, hz, q⟩ => ⟨l, ys, y, e1, e2, h, hz, q.at⟩
def rExtendTN (K : PySem.W.Frag) : V → List V → Hp → VK → Prop := fun x vs H Q => ∃ l b xs zs, x = .ref l ∧ vs = [.ref b] ∧ H l = some (.lst xs) ∧ SqT K H b zs ∧ xs.length + zs.length ≤ sizeLine ∧ updO H l (.lst (xs ++ zs)) (Q .non)
theorem mt_extendTN : MtM X "list.extend" (rExtendTN X.K) := mt_extendT.mono fun x xs H Q ⟨l, b, ys, zs, e1, e2, h1, h2, hz, q⟩ => ⟨l, b, ys, zs, e1, e2, h1, h2, hz, q.at⟩
def rPopN : V → List V → Hp → VK → Prop := fun x vs H Q => ∃ l xs y, x = .ref l ∧ vs = [] ∧ H l = some (.lst (xs ++ [y])) ∧ updO H l (.lst xs) (Q y)
theorem mt_popN : MtM X "list.pop" rPopN := mt_pop.mono fun x xs H Q ⟨l, ys, y, e1, e2, h, q⟩ => ⟨l, ys ++ [y], y, e1, e2, h, by simp, by rw [List.dropLast_concat]; exact q.at⟩
def rSetLN : TSet := fun o i v H Q => ∃ p xs k j, o = .ref p ∧ i = .int k ∧ H p = some (.lst xs) ∧ ixN xs.length k = some j ∧ updO H p (.lst (xs.set j v)) Q
theorem set_listN : PSet X rSetLN := set_list.mono fun o i v H Q ⟨p, xs, k, j, e1, e2, h, hj, q⟩ => ⟨p, xs, k, j, e1, e2, h, hj, q.at⟩
end
section
variable {X : Cx} (K : PySem.W.Frag) (hK : X.K = K) {a e o : Expr} {es : List Expr} {ta to : TE} {t : TA} {pos : Pos} {name : Str} {apos cpos : Pos} {T idn : String} {r : V → List V → Hp → VK → Prop} {tg l : Expr} {tl : TE}
include hK
theorem ix_seqk : IxR X (rIx K) := hK ▸ ix_seq
theorem op_addk : OpR X (binaryOp .Add) (rPlus K) := hK ▸ op_addA
theorem sl_listk : SlR X (rSlLN K) := hK ▸ sl_listN
def rLen (K : PySem.W.Frag) : List V → Hp → VK → Prop := fun xs H Q => ∃ x n, xs = [x] ∧ LenV K x H n ∧ Q (.int n) H
theorem call_lenk : CallR X (.builtin "len") (rLen K) := hK ▸ call_len
def rListC (K : PySem.W.Frag) : List V → Hp → VK → Prop := fun xs H Q => ∃ p ys, xs = [.ref p] ∧ (SqL K H p ys ∨ SqT K H p ys) ∧ newO H (.lst ys) Q
theorem call_listk : CallR X (.type "list") (rListC K) := hK ▸ call_listN
def rAllB (K : PySem.W.Frag) : List V → Hp → VK → Prop := fun xs H Q => ∃ (p : Addr) (bs : List Bool), xs = [.ref p] ∧ SqL K H p (bs.map V.bl) ∧ Q (.bl (bs.all id)) H
theorem call_allk (hc : X.calm = true) : CallR X (.builtin "all") (rAllB K) := hK ▸ call_all_l hc
def rNeNil (K : PySem.W.Frag) : R2 := fun x y H Q => ∃ p q xs, x = .ref p ∧ y = .ref q ∧ SqL K H p xs ∧ SqL K H q [] ∧ Q (.bl (!xs.isEmpty)) H
theorem op_ne_nilk (hu : X.A.units < cLine) : OpR X (compareOp .NotEq) (rNeNil K) := hK ▸ op_ne_nil hu
def tTru (K : PySem.W.Frag) (ta : TE) : TT := fun σ H Q => ta σ H fun x H' => ∃ k, TruV K x H' k ∧ Q k H'
theorem pt_truthk (ha : PE X a ta) (he : ∀ whole, isTrue a X.env whole = (do let v ← whole; standAt a.pos; holding [v] (truthy v))) : PT X a (tTru K ta) := hK ▸ pt_truth ha he
theorem pe_bm0k (pa : PlainAttrs T) (slot : Slot T name idn) (hty : typeOf (.builtin idn) = pure (.type "method_descriptor")) (hm : MtR X idn r) (ho : PE X o to)
    (hbase : attributeBase o name X.env (eval o X.env) = eval o X.env := by rfl) (hline : (apos.endLine == cpos.line) = true := by rfl) : PE X (.Call (.Attribute o name apos) [] [] cpos) (tBM0 K T r to) := hK ▸ pe_bm0 pa slot hty hm ho hbase hline
theorem pe_bmk (pa : PlainAttrs T) (slot : Slot T name idn) (hty : typeOf (.builtin idn) = pure (.type "method_descriptor")) (hm : MtR X idn r) (ho : PE X o to) (ha : PA X (e :: es) t)
    (hbase : attributeBase o name X.env (eval o X.env) = eval o X.env := by rfl)
    (hfew : ((backTo cpos (starEach (e :: es) X.env)).all (fun x => !x.1) && (backToKw cpos (keywordEach [] X.env)).all (fun x => x.1.isSome)
      && decide ((e :: es).length + ([] : List Keyword).length + (if ([] : List Keyword).isEmpty then 0 else 1) < 30)) = true := by rfl)
    (hline : (apos.endLine == cpos.line) = true := by rfl) (hs : starEach (e :: es) X.env = (false, eval e X.env) :: starEach es X.env := by rfl) (hplain : (backTo cpos (starEach es X.env)).any (·.1) = false := by rfl) :
    PE X (.Call (.Attribute o name apos) (e :: es) [] cpos) (tBM K T r to t) := hK ▸ pe_bm pa slot hty hm ho ha hbase hfew hline hs hplain
omit hK
end
structure Cal (P : Program) (w : World) (K : PySem.W.Frag) (mg : Str → Option Value) (base : Heap) (x : Str) (k : Nat) (ps : List Str) (sp : Sp) where
  f : Addr
  fd : FuncData
  ok : FnOk P w K mg base CX0 k f fd ps sp
  bi : Binds K fd ps []
  kp : PySem.W.keepIn K (.ref f) = true
  at' : mg x = some (.ref f)
section
variable {X : Cx} {k k' : Nat} {ps : List Str} {sp : Sp} {x : Str} {p pos : Pos} {e : Expr} {es : List Expr} {t : TA} {ta : TE}
def tCalC (sp : Sp) (t : TA) : TE := fun σ H Q => t σ H fun vs H1 => sp vs H1 Q E0
theorem pe_cal (G : Cal X.prog X.w X.K X.mg X.base x k ps sp) (hr : Room k' X.A) (hk : k ≤ k') (hg : Gl X x) (ha : PA X (e :: es) t) (hdb : (x == ("__debug__" : Str)) = false := by decide)
    (he : starEach (e :: es) X.env = (false, eval e X.env) :: starEach es X.env := by rfl) (hpl : (backTo pos (starEach es X.env)).any (·.1) = false := by rfl) :
    PE X (.Call (.Name x p) (e :: es) [] pos) (tCalC sp t) := by
  intro pins s σ H Q I h
  refine wpAny_Call_Name_kw (ld_glob I hg G.at' ?_ hdb)
  refine PySem.W.callWith_K (h₀ := X.base) I.ok.mod.kin G.kp (thn (ha pos pins s σ H _ I h) fun us s1 ⟨vs, H1, I1, r, q⟩ => ⟨I1.kIn, ?_⟩) he hpl
  refine run_fn (dvs := []) (ds := []) G.ok (hr.mono hk) G.bi .nil pass0 I1 r ?_
  rw [List.append_nil]
  exact q
end
section
variable {σ : St} {H : Hp} {Q : VK} {v : V} {D : Ends} {ts : TA} {te ta : TE} {QS : St → Hp → Prop} {R : It → Hp → Prop}
theorem atI_lt {α : Type} {xs : List α} {i : Int} (h0 : 0 ≤ i) (h1 : i < xs.length) : ∃ v, atI xs i = some v ∧ xs[i.toNat]? = some v := by
  have hk : i.toNat < xs.length := by omega
  have q := atI_nat (by rw [List.getElem?_eq_getElem hk])
  have e : ((i.toNat : Nat) : Int) = i := by omega
  rw [e] at q
  exact ⟨_, q, by rw [List.getElem?_eq_getElem hk]⟩
theorem mul_l {i j : Int} (h1 : -18446744073709551616 < i) (h2 : i < 18446744073709551616) : IntMulOk i j := CMul.ok (.inl ⟨h1, h2⟩)
theorem mul_r {i j : Int} (h1 : -18446744073709551616 < j) (h2 : j < 18446744073709551616) : IntMulOk i j := CMul.ok (.inr ⟨h1, h2⟩)
end
theorem small' {n : Nat} (h : n ≤ 1000) : n ≤ sizeLine := Nat.le_of_lt (small1000 h)
end L2
set_option Elab.async false
set_option linter.all false
set_option maxRecDepth 100000
namespace L2
open PySem PySem.Spec PyProof.Rows
section
variable {X : Cx} (K : PySem.W.Frag) (hK : X.K = K)
include hK
def rSlS : V → Option Int → Option Int → Hp → VK → Prop := fun x lo hi H Q => ∃ z, x = .str z ∧ z.length ≤ sizeLine ∧ Q (.str (Txt.slice z lo hi)) H
omit hK in
theorem sl_str : SlR X rSlS := by
  intro pins s σ H x v vl vu lo hi sl Q I rx hs pl pu h
  obtain ⟨z, rfl, hz, q⟩ := h
  obtain ⟨t, rfl⟩ := rx
  refine ⟨"str", _, F.slot_str_getitem.lookup, typeIs_str _ _ _, ?_⟩
  obtain ⟨os, hos, hcs, hds⟩ := hs
  have fin : ∀ t' k, EP X pins σ Q (.str (Txt.slice z lo hi) t') { s with toks := k } := fun t' k => ⟨.str (Txt.slice z lo hi), H, I.tok _, ⟨_, rfl⟩, q⟩
  cases pl with
  | none =>
    cases pu with
    | none => exact wpAny_getItem_str_slice (l := none) (u := none) (st := none) ⟨os, hos, hcs, hds⟩ rfl (post_val_or_str ⟨Nat.le_trans (Txt.slice_le z _ _) hz, fin⟩)
    | int j uj => exact wpAny_getItem_str_slice (l := none) (u := some (j, uj)) (st := none) ⟨os, hos, hcs, hds⟩ rfl (post_val_or_str ⟨Nat.le_trans (Txt.slice_le z _ _) hz, fin⟩)
  | int i ui =>
    cases pu with
    | none => exact wpAny_getItem_str_slice (l := some (i, ui)) (u := none) (st := none) ⟨os, hos, hcs, hds⟩ rfl (post_val_or_str ⟨Nat.le_trans (Txt.slice_le z _ _) hz, fin⟩)
    | int j uj => exact wpAny_getItem_str_slice (l := some (i, ui)) (u := some (j, uj)) (st := none) ⟨os, hos, hcs, hds⟩ rfl (post_val_or_str ⟨Nat.le_trans (Txt.slice_le z _ _) hz, fin⟩)
end
end L2
set_option Elab.async false
set_option linter.all false
set_option maxRecDepth 100000
namespace L2
open PySem PySem.Spec PyProof.Rows
section
variable {X : Cx} (K : PySem.W.Frag) (hK : X.K = K) {pos : Pos}
include hK
def rEqNil (K : PySem.W.Frag) : R2 := fun x y H Q => ∃ p q xs, x = .ref p ∧ y = .ref q ∧ SqL K H p xs ∧ SqL K H q [] ∧ Q (.bl xs.isEmpty) H
theorem op_eq_nilk (hu : X.A.units < cLine) : OpR X (compareOp .Eq) (rEqNil K) := by
  subst hK
  intro pins s σ H x y v u Q I rx ry h
  obtain ⟨p, q, xs, rfl, rfl, hp, hq, k⟩ := h
  cases rx
  cases ry
  obtain ⟨its, r, pl, hz⟩ := I.list hp
  obtain ⟨its2, r2, pl2, hz2⟩ := I.list hq
  cases r2
  cases xs with
  | nil =>
    cases r
    refine EqBoolInt.of_rc (SeqAt.RcAt.lists (e := fun _ => true) pl.isList pl2.isList rfl hu fun j h1 => absurd h1 (by simp)) ?_
    exact ⟨.bl true, H, I, rfl, k⟩
  | cons y ys =>
    have hl := r.length
    refine EqBoolInt.of_rc (SeqAt.RcAt.lists_lengths pl.isList pl2.isList (by simp at hl ⊢; intro z; subst z; simp at hl) hu) ?_
    exact ⟨.bl false, H, I, rfl, k⟩
omit hK
end
end L2
set_option Elab.async false
set_option linter.all false
set_option maxRecDepth 100000
namespace L2
open PySem PySem.Spec PyProof.Rows
theorem Vals.reverse' : ∀ {xs : List V} {us : List Value}, Vals xs us → Vals xs.reverse us.reverse
  | _, _, .nil => .nil
  | _, _, .cons h t => by rw [List.reverse_cons, List.reverse_cons]; exact (Vals.reverse' t).append (.cons h .nil)
theorem lk_len : typeLookup (.type "list_reverseiterator") (Str.ofString "__len__") = pure none := by kernel_rfl
theorem lk_hint : typeLookup (.type "list_reverseiterator") (Str.ofString "__length_hint__") = pure (some (.builtin "list_reverseiterator.__length_hint__")) := by kernel_rfl
theorem sp_hint : splitId "list_reverseiterator.__length_hint__" = some ("list_reverseiterator", "__length_hint__") := by kernel_rfl
theorem sub_rev : isSubtype (.type "list_reverseiterator") (.type "list_reverseiterator") = pure true := by kernel_rfl
theorem hint_rev {prog : Program} {w : World} {A : Around} {E : Value → Shared → Prop} {s : Shared} {r l : Addr} {i : Int} {Q : Bool → Shared → Prop} (h : s.heap.IsRevIter r l i) (q : Q false s) : wpAny (model prog w) A (Builtin.List.listLengthHint (Value.ref r)) Q E s := by
  refine wpAny_bind (wpAny_specialOf h.typeIs lk_len ?_)
  refine wpAny_bind (wpAny_specialOf h.typeIs lk_hint ?_)
  dsimp only
  rw [sp_hint]
  dsimp only
  refine wpAny_bind (wpAny_isInstance h.typeIs sub_rev ?_)
  rw [if_neg (by decide)]
  exact wpAny_pure q
theorem list_init_rev {prog : Program} {w : World} {A : Around} {s : Shared} {R : Result → Shared → Prop} {r l S : Addr} {items : Array Value} (hA : A.handled = none) (h : s.heap.IsRevIter r l (items.size - 1)) (hl : s.heap.IsList l items) (hne : l ≠ r) (hSr : S ≠ r) (hSl : S ≠ l) (hz : items.size ≤ sizeLine)
    (hS : s.heap.get? S = some { cls := Value.type "list", data := Data.seq #[] })
    (q : ∀ (h' : Heap) (tk : Nat) (acc : Array Value) (c : Nat), (∀ b o, b ≠ S → b ≠ r → s.heap.get? b = some o → h'.get? b = some o) → h'.get? S = some { cls := Value.type "list", data := Data.seq acc c } → ItemsOf (fun i v => items[items.size - 1 - i]? = some v) acc items.size → R (.ok (.ret .none)) { s with heap := h', toks := tk }) :
    wpAny (model prog w) A.in1 (Builtin.«list.__init__» { pos := [Value.ref S, Value.ref r] })
      (fun fin s' => match fin with | Fin.done f => R (Except.ok f) s' | Fin.again c' => c'.quiet = true ∧ codeAny (model prog w) A c' R s') (fun e s' => R (Except.error e) s') s := by
  unfold Builtin.«list.__init__»
  refine wpAny_bind (wpAny_listItems hS rfl ?_)
  refine wpAny_bind ?_
  refine wpAny_updateSeq hS rfl ?_ (by simp) (by simp)
  refine wpAny_bind (wpAny_letGo ?_)
  have k1 : ∀ b o, b ≠ S → s.heap.get? b = some o → (s.heap.update S (Obj.mapSeq fun _ => #[])).get? b = some o := fun b o hb e => by rw [Heap.get?_update_other _ _ (Ne.symm hb)]; exact e
  have hS1 := Heap.get?_update_self (Obj.mapSeq fun _ => #[]) hS rfl
  generalize s.heap.update S (Obj.mapSeq fun _ => #[]) = h1 at k1 hS1 ⊢
  have hr1 : h1.IsRevIter r l (items.size - 1) := let ⟨o, e, p⟩ := h; ⟨o, k1 _ _ (Ne.symm hSr) e, p⟩
  have hl1 : h1.IsList l items := let ⟨o, e, p⟩ := hl; ⟨o, k1 _ _ (Ne.symm hSl) e, p⟩
  unfold Builtin.List.listExtendWith
  refine wpAny_bind (wpAny_typeOf (T := "list_reverseiterator") hr1.typeIs ?_)
  rw [if_neg (by
    have e1 : Builtin.List.listSameRef (Value.ref S) (Value.ref r) = false := by
      unfold Builtin.List.listSameRef
      simpa using hSr
    rw [e1]
    decide)]
  refine wpAny_bind (wpAny_pyIter_revIter hr1 ?_)
  refine wpAny_bind (wpAny_holding (hint_rev hr1 ?_))
  rw [if_neg (by decide)]
  refine wpAny_pure ⟨plainId_quiet F.plain_extend_loop _, ?_⟩
  refine codeAny_extend_loopS (Walks.toS (Walks.listRev (A := A.in1) hA r l hne items)) hz S (by simp [hSr, hSl]) .none items.size 0 _ #[] _ (Nat.sub_zero _) (Nat.zero_le _) ⟨Nat.zero_le _, by simpa using hr1, hl1⟩ hS1 (ItemsOf.nil _) ?_
  intro s' acc c mv e io
  rw [mv.eq_with]
  exact q s'.heap s'.toks acc c (fun b o n1 n2 e' => mv.heap b o (by simp [n1, n2]) (k1 b o n1 e')) e io
theorem call_list_rev {prog : Program} {w : World} {A : Around} {E : Value → Shared → Prop} {s : Shared} {r l : Addr} {items : Array Value} {Q : Value → Shared → Prop} (hA : A.handled = none) (h : s.heap.IsRevIter r l (items.size - 1)) (hl : s.heap.IsList l items) (hne : l ≠ r) (hz : items.size ≤ sizeLine)
    (q : ∀ (h' : Heap) (tk : Nat) (acc : Array Value) (c : Nat), (∀ b o, b ≠ r → s.heap.get? b = some o → h'.get? b = some o) → h'.get? s.heap.objs.size = some { cls := Value.type "list", data := Data.seq acc c } → ItemsOf (fun i v => items[items.size - 1 - i]? = some v) acc items.size → Q (.ref s.heap.objs.size) { s with heap := h', toks := tk }) :
    wpAny (model prog w) A (call (Value.type "list") [Value.ref r]) Q E s := by
  have lr := let ⟨_, e, _⟩ := h; Heap.lt_size e
  have ll := let ⟨_, e, _⟩ := hl; Heap.lt_size e
  refine callType_codes F.called_list (F.typeCall_list_1 _) F.entry_list_init (code_list_new (Q₁ := fun v s₁ => v = .ref s.heap.objs.size ∧ s₁ = { s with heap := s.heap.push { cls := Value.type "list", data := Data.seq #[] } }) _ ⟨rfl, rfl⟩) ?_
  rintro obj s₁ ⟨rfl, rfl⟩
  refine ⟨⟨_, Heap.get?_push_size _ rfl, rfl⟩, F.args_list_init_2 _ _, ?_⟩
  have kp : ∀ b o, s.heap.get? b = some o → (s.heap.push { cls := Value.type "list", data := Data.seq #[] }).get? b = some o := fun b o e => Heap.get?_push_of_some _ e
  refine list_init_rev (A := A.in1) (items := items) (l := l) hA (let ⟨o, e, p⟩ := h; ⟨o, kp _ _ e, p⟩) (let ⟨o, e, p⟩ := hl; ⟨o, kp _ _ e, p⟩) hne (fun z => by rw [z] at lr; exact Nat.lt_irrefl _ lr) (fun z => by rw [z] at ll; exact Nat.lt_irrefl _ ll) hz (Heap.get?_push_size _ rfl) ?_
  intro h' tk acc c k e io
  exact ⟨rfl, q h' tk acc c (fun b o n e' => k b o (fun z => by rw [z] at e'; exact Nat.lt_irrefl _ (Heap.lt_size e')) n (kp b o e')) e io⟩
def tLR (K : PySem.W.Frag) (te : TE) : TE := fun σ H Q => te σ H fun x H1 => ∃ p ys, x = .ref p ∧ SqL K H1 p ys ∧ newO H1 (.lst ys.reverse) Q
section
variable {X : Cx} (K : PySem.W.Frag) (hK : X.K = K) {e : Expr} {te : TE} {p1 p2 q1 q2 : Pos}
include hK
theorem pe_listrev (hc : X.calm = true) (hg1 : Gl X "list") (hm1 : X.mg "list" = none) (hg2 : Gl X "reversed") (hm2 : X.mg "reversed" = none) (he : PE X e te)
    (hs1 : starEach [.Call (.Name "reversed" q1) [e] [] q2] X.env = (false, eval (.Call (.Name "reversed" q1) [e] [] q2) X.env) :: starEach [] X.env := by rfl) (hs2 : starEach [e] X.env = (false, eval e X.env) :: starEach [] X.env := by rfl) :
    PE X (.Call (.Name "list" p1) [.Call (.Name "reversed" q1) [e] [] q2] [] p2) (tLR K te) := by
  intro pins s σ H Q I h
  subst hK
  refine wpAny_Call_Name_kw (ld_blt I hg1 hm1 boot_list ?_ (by decide) (by decide))
  refine PyProof.Rows.callWith_type1 ?_ hs1 rfl
  refine Calls.spliced_cons ?_
  refine wpAny_Call_Name_kw (ld_blt I hg2 hm2 boot_reversed ?_ (by decide) (by decide))
  refine PyProof.Rows.callWith_type1 ?_ hs2 rfl
  rw [hs2]
  refine Calls.spliced_cons (thn (he pins s σ H _ I h) fun u s1 ⟨x, H1, I1, r1, pa, ys, ex, hS, q⟩ => Calls.spliced_nil ?_)
  subst ex
  cases r1
  obtain ⟨its, rv, pl, hz⟩ := I1.list hS
  have hlen := rv.length
  have lp := let ⟨_, e, _⟩ := pl.isList; Heap.lt_size e
  refine call_reversed_list pl.isList ?_
  refine Calls.spliced_nil ?_
  have kp : ∀ b o, s1.heap.get? b = some o → (s1.heap.push (revObj pa (its.toArray.size - 1))).get? b = some o := fun b o e => Heap.get?_push_of_some _ e
  refine call_list_rev (items := its.toArray) (l := pa) (r := s1.heap.objs.size) (I1.ok.hd hc) ⟨_, Heap.get?_push_size _ rfl, rfl, rfl⟩ (let ⟨o, e, p⟩ := pl.isList; ⟨o, kp _ _ e, p⟩) (fun z => by rw [z] at lp; exact Nat.lt_irrefl _ lp) (by rw [List.size_toArray]; omega) ?_
  intro h' tk acc c k e io
  have kk : ∀ b o, s1.heap.get? b = some o → h'.get? b = some o := fun b o eb => k b o (fun z => by rw [z] at eb; exact Nat.lt_irrefl _ (Heap.lt_size eb)) (kp b o eb)
  have ea : acc = its.reverse.toArray := by
    obtain ⟨z1, z2⟩ := io
    apply Array.ext
    · rw [z1, List.size_toArray, List.size_toArray, List.length_reverse]
    · intro j h1 h2
      have := z2 j acc[j] (Array.getElem?_eq_getElem h1)
      rw [List.size_toArray] at this
      have hj : j < its.length := by rw [z1, List.size_toArray] at h1; exact h1
      rw [List.getElem?_toArray] at this
      have e3 : its.reverse[j]? = some acc[j] := by rw [List.getElem?_reverse hj]; exact this
      rw [List.getElem_toArray]
      exact (Option.some.inj (((List.getElem?_eq_getElem (by rw [List.length_reverse]; exact hj)).symm.trans e3))).symm
  subst ea
  have hs2 : s1.heap.objs.size ≤ (s1.heap.push (revObj pa (its.toArray.size - 1))).objs.size := by simp [Heap.push]
  refine ⟨.ref _, upd H1 _ (.lst ys.reverse), I1.laid (t' := tk) kk hs2 ?_, rfl, q.at _ (I1.hok.fresh hs2)⟩
  exact ⟨by rw [List.length_reverse]; exact hz, its.reverse, c, rv.reverse', e⟩
end
end L2
set_option Elab.async false
set_option linter.all false
set_option maxRecDepth 100000
namespace My
open PySem PySem.Spec PyProof.Rows L2
def Wd (x : Str) : Prop := 1 ≤ x.length ∧ x.length ≤ 8 ∧ ∀ c ∈ x.cps.toList, 97 ≤ c ∧ c < 123
def Part (x : Str) (n : Nat) : Prop := x.length ≤ n ∧ ∀ c ∈ x.cps.toList, 97 ≤ c ∧ c < 123
theorem Part.append {x y : Str} {m n : Nat} (a : Part x m) (b : Part y n) : Part (x ++ y) (m + n) := by
  refine ⟨?_, fun c hc => ?_⟩
  · rw [Str.length_append]; have := a.1; have := b.1; omega
  · rw [Str.cps_append, Array.toList_append] at hc
    rcases List.mem_append.mp hc with h | h
    · exact a.2 c h
    · exact b.2 c h
theorem letters_nodup {d st : Int} (h : st = 1 ∨ st = 3 ∨ st = 5 ∨ st = 7 ∨ st = 9 ∨ st = 11) {n : Nat} (hn : n ≤ 26) : ((List.range n).map fun k : Nat => some (97 + ((d + st * (0 + (k : Int))) % 26).toNat)).Nodup := by
  unfold List.Nodup
  rw [List.pairwise_map]
  refine List.Pairwise.imp_of_mem ?_ List.pairwise_lt_range
  intro a b ha hb hab hz
  have hb' := List.mem_range.mp hb
  have hz' := Option.some.inj hz
  rcases h with rfl | rfl | rfl | rfl | rfl | rfl <;> omega
theorem nodup_of_map {α β : Type} {g : α → β} {l : List α} (h : (l.map g).Nodup) : l.Nodup := (List.pairwise_map.mp h).imp fun h e => h (congrArg g e)
theorem word_sign (x y : Str) (c : Nat) : (x ++ ⟨#[c]⟩ ++ y).cps[x.length]? = some c := by
  show ((x.cps ++ #[c]) ++ y.cps)[x.cps.size]? = some c
  rw [Array.getElem?_append_left (by simp), Array.getElem?_append_right (Nat.le_refl _)]
  simp
theorem letter_all : ∀ k : _root_.Fin 26, atI ("abcdefghijklmnopqrstuvwxyz" : Str).cps.toList (k.val : Int) = some (97 + k.val) := by decide +kernel
theorem letter_at {n : Int} (h0 : 0 ≤ n) (h1 : n < 26) : atI ("abcdefghijklmnopqrstuvwxyz" : Str).cps.toList n = some (97 + n.toNat) := by
  have e := letter_all ⟨n.toNat, by omega⟩
  have e2 : ((n.toNat : Nat) : Int) = n := by omega
  rw [e2] at e
  exact e
theorem one_part {c : Nat} (h0 : 97 ≤ c) (h1 : c < 123) : Part ⟨#[c]⟩ 1 := by
  refine ⟨Nat.le_refl _, fun d hd => ?_⟩
  have : d = c := by simpa using hd
  subst this
  exact ⟨h0, h1⟩
theorem word_of {x y : Str} {c : Nat} (a : Part x 2) (b : Part y 5) (h0 : 97 ≤ c) (h1 : c < 123) : Wd (x ++ ⟨#[c]⟩ ++ y) := by
  have q := (a.append (one_part h0 h1)).append b
  refine ⟨?_, q.1, q.2⟩
  rw [Str.length_append, Str.length_append]
  show 1 ≤ x.length + 1 + y.length
  omega
inductive Tr where
  | leaf (x : Str)
  | node (l r : Tr)
def Tr.leaves : Tr → List Str
  | .leaf x => [x]
  | .node l r => l.leaves ++ r.leaves
def Tr.size : Tr → Nat
  | .leaf _ => 1
  | .node l r => l.size + r.size + 1
def Tr.depth : Tr → Nat
  | .leaf _ => 0
  | .node l r => max l.depth r.depth + 1
def Tr.Ws (t : Tr) : Prop := ∀ x ∈ t.leaves, Wd x
theorem Tr.leaves_pos : ∀ t : Tr, 1 ≤ t.leaves.length
  | .leaf _ => Nat.le_refl _
  | .node l r => by have := l.leaves_pos; show 1 ≤ (l.leaves ++ r.leaves).length; rw [List.length_append]; omega
theorem Tr.depth_lt : ∀ t : Tr, t.depth < t.leaves.length
  | .leaf _ => Nat.lt_succ_self 0
  | .node l r => by
    have h1 := l.depth_lt; have h2 := r.depth_lt; have h3 := l.leaves_pos; have h4 := r.leaves_pos
    show max l.depth r.depth + 1 < (l.leaves ++ r.leaves).length
    rw [List.length_append]; omega
theorem Tr.size_eq : ∀ t : Tr, t.size + 1 = 2 * t.leaves.length
  | .leaf _ => rfl
  | .node l r => by
    have h1 := l.size_eq; have h2 := r.size_eq
    show l.size + r.size + 1 + 1 = 2 * (l.leaves ++ r.leaves).length
    rw [List.length_append]; omega
theorem in_letters_all : ∀ k : _root_.Fin 26, (!(Builtin.Str.occurrences ("abcdefghijklmnopqrstuvwxyz" : Str) ⟨#[97 + k.val]⟩ 0 ("abcdefghijklmnopqrstuvwxyz" : Str).length 1).isEmpty) = true := by decide +kernel
theorem in_letters {c : Nat} (h0 : 97 ≤ c) (h1 : c < 123) : (!(Builtin.Str.occurrences ("abcdefghijklmnopqrstuvwxyz" : Str) ⟨#[c]⟩ 0 ("abcdefghijklmnopqrstuvwxyz" : Str).length 1).isEmpty) = true := by
  have e := in_letters_all ⟨c - 97, by omega⟩
  have e2 : 97 + (c - 97) = c := by omega
  simp only [e2] at e
  exact e
def sizes (ts : List Tr) : Nat := (ts.map Tr.size).sum
theorem sizes_append (a b : List Tr) : sizes (a ++ b) = sizes a + sizes b := by unfold sizes; rw [List.map_append, List.sum_append]
theorem sizes_one (t : Tr) : sizes [t] = t.size := by simp [sizes]
theorem Tr.size_pos : ∀ t : Tr, 1 ≤ t.size
  | .leaf _ => Nat.le_refl _
  | .node l r => by show 1 ≤ l.size + r.size + 1; omega
theorem len_sizes : ∀ ts : List Tr, ts.length ≤ sizes ts
  | [] => Nat.le_refl _
  | t :: r => by have := len_sizes r; have := t.size_pos; show r.length + 1 ≤ t.size + sizes r; omega
end My
set_option Elab.async false
set_option linter.all false
set_option maxRecDepth 100000
set_option Elab.async false
set_option linter.all false
set_option maxRecDepth 100000
set_option Elab.async false
set_option linter.all false
set_option maxRecDepth 100000
set_option Elab.async false
set_option linter.all false
set_option maxRecDepth 100000
namespace My
open PySem PySem.Spec PyProof.Rows L2
def Tr.post : Tr → List Tr
  | .leaf x => [.leaf x]
  | .node l r => l.post ++ r.post ++ [.node l r]
theorem Tr.post_len : ∀ t : Tr, t.post.length = t.size
  | .leaf _ => rfl
  | .node l r => by show (l.post ++ r.post ++ [_]).length = l.size + r.size + 1; rw [List.length_append, List.length_append, l.post_len, r.post_len]; rfl
def posts (ts : List Tr) : List Tr := (ts.map Tr.post).flatten
theorem posts_append (a b : List Tr) : posts (a ++ b) = posts a ++ posts b := by unfold posts; rw [List.map_append, List.flatten_append]
theorem posts_one (t : Tr) : posts [t] = t.post := by simp [posts]
theorem posts_two (t u : Tr) : posts [t, u] = t.post ++ u.post := by simp [posts]
end My
set_option Elab.async false
set_option linter.all false
set_option maxRecDepth 100000
set_option Elab.async false
set_option linter.all false
set_option maxRecDepth 100000
set_option Elab.async false
set_option linter.all false
set_option maxRecDepth 100000
set_option Elab.async false
set_option linter.all false
set_option maxRecDepth 100000
set_option Elab.async false
set_option linter.all false
set_option maxRecDepth 100000
set_option Elab.async false
set_option linter.all false
set_option maxRecDepth 100000
set_option Elab.async false
set_option linter.all false
set_option maxRecDepth 100000
set_option Elab.async false
set_option linter.all false
set_option maxRecDepth 100000
set_option Elab.async false
set_option linter.all false
set_option maxRecDepth 100000
namespace PL
open PySem PySem.Spec PyProof.Rows L2
variable {K : PySem.W.Frag}
def FzL (K : PySem.W.Frag) (H : Hp) (a : Addr) (xs : List V) : Prop := (∃ o, H a = some (.frz o (.lst xs))) ∨
    ∃ (o : Obj) (its : Array Value) (n : Nat), K.lookup a = some o ∧ o.cls = .type "list" ∧ o.dict = none ∧ o.data = .seq its n ∧ its.size ≤ sizeLine ∧ Vals xs its.toList
theorem FzL.sq {H : Hp} {a : Addr} {xs : List V} (h : FzL K H a xs) : SqL K H a xs := h.elim (fun h => .inl (.inr h)) .inr
structure TupsK (K : PySem.W.Frag) (H H' : Hp) : Prop where
  t : ∀ p vs, H p = some (.tup vs) → H' p = some (.tup vs)
  z : ∀ p o u, H p = some (.frz o u) → H' p = some (.frz o u)
theorem TupsK.f {H H' : Hp} (t : TupsK K H H') (p : Addr) (vs : List V) (h : FzL K H p vs) : FzL K H' p vs := h.elim (fun ⟨o, h⟩ => .inl ⟨o, t.z _ _ _ h⟩) .inr
theorem TupsK.refl (H : Hp) : TupsK K H H := ⟨fun _ _ h => h, fun _ _ _ h => h⟩
theorem TupsK.trans {H H1 H2 : Hp} (a : TupsK K H H1) (b : TupsK K H1 H2) : TupsK K H H2 := ⟨fun p vs h => b.t p vs (a.t p vs h), fun p o w h => b.z p o w (a.z p o w h)⟩
theorem _root_.L2.Same.tupsK {H H' : Hp} (s : Same H H') : TupsK K H H' := ⟨fun p vs h => s _ _ h, fun p o u h => s _ _ h⟩
inductive PV where
  | non | bl (b : Bool) | int (i : Int) | str (x : Str) | tup (l : List PV) | ref (n : Nat) | ty (n : String) | cl (l : List PV) | dv (ks vs : List PV)
def kP : Key → PV
  | .inl i => .int i
  | .inr x => .str x
inductive PO where
  | lst (xs : List PV) | dk (kvs : List (Key × PV)) | dt (kvs : List (List Key × PV)) | opq (φ : List V → Prop)
abbrev PH := List PO
abbrev PSt := List (Option PV)
mutual
inductive VR (K : PySem.W.Frag) (ι : List Addr) (H : Hp) : V → PV → Prop
  | non : VR K ι H .non .non
  | bl (b : Bool) : VR K ι H (.bl b) (.bl b)
  | int (i : Int) : VR K ι H (.int i) (.int i)
  | str (x : Str) : VR K ι H (.str x) (.str x)
  | ty (n : String) : VR K ι H (.ty n) (.ty n)
  | tup {p : Addr} {vs : List V} {l : List PV} (h : H p = some (.tup vs)) (r : VRs K ι H vs l) : VR K ι H (.ref p) (.tup l)
  | ref {n : Nat} {a : Addr} (h : ι[n]? = some a) : VR K ι H (.ref a) (.ref n)
  | cl {a : Addr} {vs : List V} {l : List PV} (h : FzL K H a vs) (r : VRs K ι H vs l) : VR K ι H (.ref a) (.cl l)
  | dk {a : Addr} {o : Obj} {kvs : List (Key × V)} {ks l : List PV} (h : H a = some (.frz o (.dK kvs))) (e : ks = kvs.map fun kv => kP kv.1) (r : VRs K ι H (kvs.map (·.2)) l) : VR K ι H (.ref a) (.dv ks l)
  | dt {a : Addr} {o : Obj} {kvs : List (List Key × V)} {ks l : List PV} (h : H a = some (.frz o (.dT kvs))) (e : ks = kvs.map fun kv => .tup (kv.1.map kP)) (r : VRs K ι H (kvs.map (·.2)) l) : VR K ι H (.ref a) (.dv ks l)
inductive VRs (K : PySem.W.Frag) (ι : List Addr) (H : Hp) : List V → List PV → Prop
  | nil : VRs K ι H [] []
  | cons {v : V} {p : PV} {vs : List V} {ps : List PV} (r : VR K ι H v p) (t : VRs K ι H vs ps) : VRs K ι H (v :: vs) (p :: ps)
end
section
variable {ι ι' : List Addr} {H H' : Hp}
mutual
theorem VR.mono (ht : TupsK K H H') (hi : ∀ (n : Nat) (a : Addr), ι[n]? = some a → ι'[n]? = some a) : ∀ {v : V} {p : PV}, VR K ι H v p → VR K ι' H' v p
  | _, _, .non => .non
  | _, _, .bl b => .bl b
  | _, _, .int i => .int i
  | _, _, .str x => .str x
  | _, _, .ty n => .ty n
  | _, _, .tup h r => .tup (ht.t _ _ h) (VRs.mono ht hi r)
  | _, _, .cl h r => .cl (ht.f _ _ h) (VRs.mono ht hi r)
  | _, _, .dk h e r => .dk (ht.z _ _ _ h) e (VRs.mono ht hi r)
  | _, _, .dt h e r => .dt (ht.z _ _ _ h) e (VRs.mono ht hi r)
  | _, _, .ref h => .ref (hi _ _ h)
theorem VRs.mono (ht : TupsK K H H') (hi : ∀ (n : Nat) (a : Addr), ι[n]? = some a → ι'[n]? = some a) : ∀ {vs : List V} {ps : List PV}, VRs K ι H vs ps → VRs K ι' H' vs ps
  | _, _, .nil => .nil
  | _, _, .cons r t => .cons (VR.mono ht hi r) (VRs.mono ht hi t)
end
theorem VRs.length : ∀ {vs : List V} {ps : List PV}, VRs K ι H vs ps → vs.length = ps.length
  | _, _, .nil => rfl
  | _, _, .cons _ t => by rw [List.length_cons, List.length_cons, VRs.length t]
theorem VRs.get : ∀ {vs : List V} {ps : List PV} {i : Nat} {p : PV}, VRs K ι H vs ps → ps[i]? = some p → ∃ v, vs[i]? = some v ∧ VR K ι H v p
  | _, _, _, _, .nil, e => by simp at e
  | _, _, 0, _, .cons r _, e => by simp at e; subst e; exact ⟨_, rfl, r⟩
  | _, _, i + 1, p, .cons _ t, e => by
    obtain ⟨v, h1, h2⟩ := VRs.get (i := i) (p := p) t (by simpa using e)
    exact ⟨v, by simpa using h1, h2⟩
theorem VRs.set {v : V} {p : PV} (r : VR K ι H v p) : ∀ {vs : List V} {ps : List PV} (i : Nat), VRs K ι H vs ps → VRs K ι H (vs.set i v) (ps.set i p)
  | _, _, _, .nil => .nil
  | _, _, 0, .cons _ t => .cons r t
  | _, _, i + 1, .cons q t => .cons q (VRs.set r i t)
theorem VRs.append : ∀ {xs ys : List V} {us ws : List PV}, VRs K ι H xs us → VRs K ι H ys ws → VRs K ι H (xs ++ ys) (us ++ ws)
  | _, _, _, _, .nil, s => s
  | _, _, _, _, .cons r t, s => .cons r (VRs.append t s)
theorem VRs.take : ∀ {xs : List V} {us : List PV} (n : Nat), VRs K ι H xs us → VRs K ι H (xs.take n) (us.take n)
  | _, _, 0, _ => .nil
  | _, _, _ + 1, .nil => .nil
  | _, _, n + 1, .cons r t => .cons r (VRs.take n t)
theorem VRs.drop : ∀ {xs : List V} {us : List PV} (n : Nat), VRs K ι H xs us → VRs K ι H (xs.drop n) (us.drop n)
  | _, _, 0, r => r
  | _, _, _ + 1, .nil => .nil
  | _, _, n + 1, .cons _ t => VRs.drop n t
theorem VRs.reverse : ∀ {xs : List V} {us : List PV}, VRs K ι H xs us → VRs K ι H xs.reverse us.reverse
  | _, _, .nil => .nil
  | _, _, .cons r t => by rw [List.reverse_cons, List.reverse_cons]; exact (VRs.reverse t).append (.cons r .nil)
theorem VRs.one {v : V} {p : PV} (r : VR K ι H v p) : VRs K ι H [v] [p] := .cons r .nil
end
structure Go (ι ι' : List Addr) (H H' : Hp) : Prop where
  ext : ∃ m, ι' = ι ++ m
  new : ∀ a, a ∈ ι' → a ∉ ι → H a = none
  keep : ∀ a o, a ∉ ι → H a = some o → H' a = some o
theorem Go.refl (ι : List Addr) (H : Hp) : Go ι ι H H := ⟨⟨[], by simp⟩, fun a h n => absurd h n, fun _ _ _ h => h⟩
def OR (K : PySem.W.Frag) (ι : List Addr) (H : Hp) (a : Addr) : PO → Prop
  | .lst xs => ∃ vs, H a = some (.lst vs) ∧ VRs K ι H vs xs
  | .dk kvs => ∃ vs : List (Key × V), H a = some (.dK vs) ∧ vs.map (·.1) = kvs.map (·.1) ∧ VRs K ι H (vs.map (·.2)) (kvs.map (·.2))
  | .dt kvs => ∃ vs : List (List Key × V), H a = some (.dT vs) ∧ vs.map (·.1) = kvs.map (·.1) ∧ VRs K ι H (vs.map (·.2)) (kvs.map (·.2))
  | .opq φ => ∃ vs, H a = some (.lst vs) ∧ φ vs
structure HR (K : PySem.W.Frag) (ι : List Addr) (H : Hp) (h : PH) : Prop where
  nd : ι.Nodup
  len : ι.length = h.length
  obj : ∀ (n : Nat) (a : Addr) (o : PO), ι[n]? = some a → h[n]? = some o → OR K ι H a o
end PL
set_option Elab.async false
set_option linter.all false
set_option maxRecDepth 100000
namespace PL
open PySem PySem.Spec PyProof.Rows L2
variable {K : PySem.W.Frag}
abbrev QV := PV → PH → Prop
structure ME where
  run : PSt → PH → QV → Prop
  mono : ∀ {ps h} {Q Q' : QV}, (∀ v h', Q v h' → Q' v h') → run ps h Q → run ps h Q'
structure MT where
  run : PSt → PH → (Bool → PH → Prop) → Prop
  mono : ∀ {ps h} {Q Q' : Bool → PH → Prop}, (∀ v h', Q v h' → Q' v h') → run ps h Q → run ps h Q'
structure MA where
  run : PSt → PH → (List PV → PH → Prop) → Prop
  mono : ∀ {ps h} {Q Q' : List PV → PH → Prop}, (∀ v h', Q v h' → Q' v h') → run ps h Q → run ps h Q'
structure ML where
  run : PSt → PH → (List PV → PH → Prop) → Prop
  mono : ∀ {ps h} {Q Q' : List PV → PH → Prop}, (∀ v h', Q v h' → Q' v h') → run ps h Q → run ps h Q'
structure Src where
  items : List PV
  ok : PH → Prop
  fz : Bool
structure MI where
  run : PSt → PH → (Src → PH → Prop) → Prop
  mono : ∀ {ps h} {Q Q' : Src → PH → Prop}, (∀ v h', Q v h' → Q' v h') → run ps h Q → run ps h Q'
structure PD where
  nx : PSt → PH → Prop
  rt : QV
  bk : PSt → PH → Prop
  ct : PSt → PH → Prop
structure PD.Le (D D' : PD) : Prop where
  nx : ∀ ps h, D.nx ps h → D'.nx ps h
  rt : ∀ v h, D.rt v h → D'.rt v h
  bk : ∀ ps h, D.bk ps h → D'.bk ps h
  ct : ∀ ps h, D.ct ps h → D'.ct ps h
structure MS where
  run : PD → PSt → PH → Prop
  mono : ∀ {D D' ps h}, PD.Le D D' → run D ps h → run D' ps h
structure MG where
  run : PV → PSt → PH → (PSt → PH → Prop) → Prop
  mono : ∀ {v ps h} {Q Q' : PSt → PH → Prop}, (∀ ps h, Q ps h → Q' ps h) → run v ps h Q → run v ps h Q'
def pQ (K : PySem.W.Frag) (ι : List Addr) (H : Hp) (Q : VK) : QV := fun p h' => ∀ ι' v H', Go ι ι' H H' → HR K ι' H' h' → VR K ι' H' v p → Q v H'
theorem PE.imp {X : Cx} {e : Expr} {t t' : TE} (h : PE X e t) (f : ∀ σ H Q, t' σ H Q → t σ H Q) : PE X e t' := fun pins s σ H Q I q => h pins s σ H Q I (f _ _ _ q)
theorem PT.imp {X : Cx} {e : Expr} {t t' : TT} (h : PT X e t) (f : ∀ σ H Q, t' σ H Q → t σ H Q) : PT X e t' := fun pins s σ H Q I q => h pins s σ H Q I (f _ _ _ q)
theorem PW.imp {X : Cx} {e : Expr} {t t' : TT} (h : PW X e t) (f : ∀ σ H Q, t' σ H Q → t σ H Q) : PW X e t' := fun w pins s σ H Q I q => h w pins s σ H Q I (f _ _ _ q)
theorem PA.imp {X : Cx} {e : List Expr} {t t' : TA} (h : PA X e t) (f : ∀ σ H Q, t' σ H Q → t σ H Q) : PA X e t' := fun pos pins s σ H Q I q => h pos pins s σ H Q I (f _ _ _ q)
theorem PSs.imp {X : Cx} {e : List Stmt} {t t' : TS} (h : PSs X e t) (f : ∀ D σ H, t' D σ H → t D σ H) : PSs X e t' := fun pins s σ H D I q => h pins s σ H D I (f _ _ _ q)
theorem PG.imp {X : Cx} {e : Expr} {t t' : TG} (h : PG X e t) (f : ∀ v σ H Q, t' v σ H Q → t v σ H Q) : PG X e t' := fun pins s σ H v u Q I r q => h pins s σ H v u Q I r (f _ _ _ _ q)
theorem PI.imp {X : Cx} {tg e : Expr} {t t' : TI} (h : PI X tg e t) (f : ∀ σ H Q, t' σ H Q → t σ H Q) : PI X tg e t' := fun pins s σ H R I q => h pins s σ H R I (f _ _ _ q)
section
variable {X : Cx} {a b c e : Expr} {pos : Pos}
abbrev P2 := PV → PV → PH → QV → Prop
structure M2 where
  f : P2
  mono : ∀ {x y h} {Q Q' : QV}, (∀ v h', Q v h' → Q' v h') → f x y h Q → f x y h Q'
def M2.Ok (K : PySem.W.Frag) (r : R2) (m : M2) : Prop := ∀ {ι H h u v x y Q}, HR K ι H h → VR K ι H u x → VR K ι H v y → m.f x y h (pQ K ι H Q) → r u v H Q
end
end PL
set_option Elab.async false
set_option linter.all false
set_option maxRecDepth 100000
namespace PL
open PySem PySem.Spec PyProof.Rows L2
variable {K : PySem.W.Frag}
section
variable {X : Cx} {a b c e : Expr} {es : List Expr} {pos : Pos}
theorem isEmpty_vrs {ι : List Addr} {H : Hp} : ∀ {vs : List V} {l : List PV}, VRs K ι H vs l → (!l.isEmpty) = !vs.isEmpty
  | _, _, .nil => rfl
  | _, _, .cons _ _ => rfl
structure MQ where
  run : PSt → PH → (Src → PH → Prop) → Prop
  mono : ∀ {ps h} {Q Q' : Src → PH → Prop}, (∀ v h', Q v h' → Q' v h') → run ps h Q → run ps h Q'
end
end PL
set_option Elab.async false
set_option linter.all false
set_option maxRecDepth 100000
namespace PL
open PySem PySem.Spec PyProof.Rows L2
variable {K : PySem.W.Frag}
section
variable {X : Cx} {a b c e : Expr} {es : List Expr} {pos : Pos} {st : Stmt} {rest : List Stmt}
structure MGs where
  run : List PV → PSt → PH → (PSt → PH → Prop) → Prop
  mono : ∀ {v ps h} {Q Q' : PSt → PH → Prop}, (∀ ps h, Q ps h → Q' ps h) → run v ps h Q → run v ps h Q'
end
end PL
set_option Elab.async false
set_option linter.all false
set_option maxRecDepth 100000
namespace PL
open PySem PySem.Spec PyProof.Rows L2
variable {K : PySem.W.Frag}
section
variable {X : Cx} {a b c e : Expr} {es : List Expr} {pos : Pos}
structure MB1 where
  f : List PV → PH → QV → Prop
  mono : ∀ {l h} {Q Q' : QV}, (∀ v h', Q v h' → Q' v h') → f l h Q → f l h Q'
def MB1.Ok (K : PySem.W.Frag) (r : List V → Hp → VK → Prop) (m : MB1) : Prop := ∀ {ι H h vs l Q}, HR K ι H h → VRs K ι H vs l → m.f l h (pQ K ι H Q) → r vs H Q
end
end PL
set_option Elab.async false
set_option linter.all false
set_option maxRecDepth 100000
namespace PL
open PySem PySem.Spec PyProof.Rows L2
variable {K : PySem.W.Frag}
def aI (g : Int → Int → PV) : M2 := ⟨fun x y h Q => match x, y with | .int i, .int j => Q (g i j) h | _, _ => False, fun f q => by
  revert q
  split
  · exact f _ _
  · exact fun z => z⟩
def aIc (C : Int → Int → Prop) (g : Int → Int → PV) : M2 := ⟨fun x y h Q => match x, y with | .int i, .int j => C i j ∧ Q (g i j) h | _, _ => False, fun f q => by
  revert q
  split
  · exact fun q => ⟨q.1, f _ _ q.2⟩
  · exact fun z => z⟩
theorem aI_ok {g : Int → Int → PV} {g' : Int → Int → V} (hg : ∀ ι H i j, VR K ι H (g' i j) (g i j)) : M2.Ok K (rI0 g') (aI g) := by
  intro ι H h u v x y Q hr hu hv q
  unfold aI at q
  dsimp only at q
  revert q
  split
  · intro q; cases hu; cases hv; exact ⟨_, _, rfl, rfl, q ι _ H (Go.refl _ _) hr (hg _ _ _ _)⟩
  · exact False.elim
theorem aIc_ok {C : Int → Int → Prop} {g : Int → Int → PV} {g' : Int → Int → V} (hg : ∀ ι H i j, VR K ι H (g' i j) (g i j)) : M2.Ok K (rI C g') (aIc C g) := by
  intro ι H h u v x y Q hr hu hv q
  unfold aIc at q
  dsimp only at q
  revert q
  split
  · intro q; cases hu; cases hv; exact ⟨_, _, rfl, rfl, q.1, q.2 ι _ H (Go.refl _ _) hr (hg _ _ _ _)⟩
  · exact False.elim
def oSub := aI fun i j => .int (i - j)
def oMul := aIc IntMulOk fun i j => .int (i * j)
def oDiv := aIc CDiv fun i j => .int (i / j)
def oMod := aIc (fun _ j => 0 < j) fun i j => .int (i % j)
def oPow := aIc CPow fun i j => .int (i ^ j.toNat)
def oLt := aI fun i j => .bl (decide (i < j))
def oLe := aI fun i j => .bl (decide (i ≤ j))
def oGt := aI fun i j => .bl (decide (j < i))
def oGe := aI fun i j => .bl (decide (j ≤ i))
section
variable {ι : List Addr} {H : Hp}
theorem VRs.nil_iff : ∀ {vs : List V} {l : List PV}, VRs K ι H vs l → (vs = [] ↔ l = [])
  | _, _, .nil => by simp
  | _, _, .cons _ _ => by simp
end
end PL
set_option Elab.async false
set_option linter.all false
set_option maxRecDepth 100000
namespace PL
open PySem PySem.Spec PyProof.Rows L2
variable {K : PySem.W.Frag}
section
variable {X : Cx} {a b c e : Expr} {es : List Expr} {pos : Pos}
def oIsB : M2 := ⟨fun x y h Q => match x, y with | .bl i, .bl j => Q (.bl (i == j)) h | _, _ => False, fun f q => by
  revert q
  split
  · exact f _ _
  · exact fun z => z⟩
def oIsNotB : M2 := ⟨fun x y h Q => match x, y with | .bl i, .bl j => Q (.bl (!(i == j))) h | _, _ => False, fun f q => by
  revert q
  split
  · exact f _ _
  · exact fun z => z⟩
theorem oIsB_ok : M2.Ok K (fun x y H Q => ∃ i j, x = .bl i ∧ y = .bl j ∧ Q (.bl (i == j)) H) oIsB := by
  intro ι H h u v x y Q hr hu hv q
  cases hu <;> first
    | exact q.elim
    | (cases hv <;> first | exact q.elim | exact ⟨_, _, rfl, rfl, q ι _ H (Go.refl _ _) hr (.bl _)⟩)
theorem oIsNotB_ok : M2.Ok K (fun x y H Q => ∃ i j, x = .bl i ∧ y = .bl j ∧ Q (.bl (!(i == j))) H) oIsNotB := by
  intro ι H h u v x y Q hr hu hv q
  cases hu <;> first
    | exact q.elim
    | (cases hv <;> first | exact q.elim | exact ⟨_, _, rfl, rfl, q ι _ H (Go.refl _ _) hr (.bl _)⟩)
end
end PL
set_option Elab.async false
set_option linter.all false
set_option maxRecDepth 100000
namespace PL
open PySem PySem.Spec PyProof.Rows L2
variable {K : PySem.W.Frag}
section
variable {X : Cx} {pins : List (Addr × Obj)} {σ : L2.St} {H : Hp} {s : Shared} {ι : List Addr}
theorem relV_inj {v v' : V} {w : Value} (h : RelV v w) (h' : RelV v' w) : v = v' := Option.some.inj (h.abs.symm.trans h'.abs)
end
section
variable {X : Cx} {a b c e : Expr} {es : List Expr} {pos : Pos}
def mIx (a : MQ) (b : ME) : ME := ⟨fun ps h Q => a.run ps h fun S h1 => b.run ps h1 fun y h2 => match y with
  | .int k => S.ok h2 ∧ match atI S.items k with | some v => Q v h2 | none => False
  | _ => False, fun f q => a.mono (fun _ _ q => b.mono (fun _ _ q => by
    revert q
    split
    · rintro ⟨q0, q⟩
      refine ⟨q0, ?_⟩
      revert q
      split
      · exact f _ _
      · exact fun z => z
    · exact fun z => z) q) q⟩
theorem VRs.atI {ι : List Addr} {H : Hp} {vs : List V} {l : List PV} (r : VRs K ι H vs l) {k : Int} {p : PV} (e : L2.atI l k = some p) : ∃ v, L2.atI vs k = some v ∧ VR K ι H v p := by
  unfold L2.atI at e ⊢
  rw [r.length]
  cases z : ixN l.length k with
  | none => rw [z] at e; cases e
  | some j =>
    rw [z] at e
    exact r.get e
def oIxS : M2 := ⟨fun x y h Q => match x, y with
  | .str z, .int k => z.length ≤ sizeLine ∧ match L2.atI z.cps.toList k with | some c => Q (.str ⟨#[c]⟩) h | none => False
  | _, _ => False, fun f q => by
    revert q
    split
    · rintro ⟨q0, q⟩
      refine ⟨q0, ?_⟩
      revert q
      split
      · exact f _ _
      · exact fun z => z
    · exact fun z => z⟩
theorem oIxS_ok : M2.Ok K rIxS oIxS := by
  intro ι H h u v x y Q hr hu hv q
  unfold oIxS at q
  dsimp only at q
  revert q
  split
  · rename_i z k
    rintro ⟨q0, q⟩
    cases hu
    cases hv
    cases e : L2.atI z.cps.toList k with
    | none => rw [e] at q; exact q.elim
    | some c => rw [e] at q; exact ⟨z, k, c, rfl, rfl, q0, e, q ι _ H (Go.refl _ _) hr (.str _)⟩
  · exact False.elim
def bLen : MB1 := ⟨fun l h Q => match l with
  | [.str y] => y.length ≤ sizeLine ∧ Q (.int y.length) h
  | [.tup l] => Q (.int l.length) h
  | [.cl l] => Q (.int l.length) h
  | [.ref n] => match h[n]? with
    | some (.lst xs) => Q (.int xs.length) h
    | _ => False
  | _ => False, fun f q => by
    revert q
    split
    · exact fun q => ⟨q.1, f _ _ q.2⟩
    · exact f _ _
    · exact f _ _
    · split
      · exact f _ _
      · exact fun z => z
    · exact fun z => z⟩
theorem bLen_ok (K : PySem.W.Frag) : MB1.Ok K (rLen K) bLen := by
  intro ι H h vs l Q hr hv q
  unfold bLen at q
  dsimp only at q
  revert q
  split
  · intro q
    cases hv with
    | cons x t => cases t; cases x; exact ⟨_, _, rfl, ⟨q.1, rfl⟩, q.2 ι _ H (Go.refl _ _) hr (.int _)⟩
  · intro q
    cases hv with
    | cons x t =>
      cases t
      cases x with
      | tup e r => exact ⟨_, _, rfl, .inr ⟨_, SqT.of e, r.length.symm⟩, q ι _ H (Go.refl _ _) hr (.int _)⟩
  · intro q
    cases hv with
    | cons x t =>
      cases t
      cases x with
      | cl e r => exact ⟨_, _, rfl, .inl ⟨_, e.sq, r.length.symm⟩, q ι _ H (Go.refl _ _) hr (.int _)⟩
  · rename_i n
    cases hv with
    | cons x t =>
      cases t
      cases x with
      | @ref _ a e =>
      split
      · rename_i xs hn
        intro q
        obtain ⟨ws, e1, e2⟩ := hr.obj n a _ e hn
        exact ⟨_, _, rfl, .inl ⟨ws, SqL.of e1, e2.length.symm⟩, q ι _ H (Go.refl _ _) hr (.int _)⟩
      · exact False.elim
  · exact False.elim
inductive Kd where
  | str | tup | int | bool
def Kd.name : Kd → String
  | .str => "str" | .tup => "tuple" | .int => "int" | .bool => "bool"
def Kd.is : Kd → PV → Bool
  | .str, .str _ => true
  | .tup, .tup _ => true
  | .int, .int _ => true
  | .int, .bl _ => true
  | .bool, .bl _ => true
  | _, _ => false
def rIsiT (K : PySem.W.Frag) : List V → Hp → VK → Prop := fun xs H Q => ∃ x c t b, xs = [x, .ty c] ∧ (TyOf K H x t ∨ (t = .type "tuple" ∧ ∃ a vs, x = .ref a ∧ SqT K H a vs)) ∧ PySem.W.kitOne K t (.type c) = some b ∧ Q (.bl b) H
theorem call_isiT (K : PySem.W.Frag) (hK : X.K = K) : CallR X (.builtin "isinstance") (rIsiT K) := by
  subst hK
  intro pins s σ H xs us Q I r h
  obtain ⟨x, c, t, b, rfl, ty | ⟨rfl, a, vs, rfl, hT⟩, e, q⟩ := h
  · exact call_isinst pins s σ H _ us Q I r ⟨x, c, t, b, rfl, ty, e, q⟩
  · obtain ⟨u, w, rfl, r1, r2⟩ := vals2 r
    cases r1
    cases r2
    obtain ⟨its, _, ⟨o, h1, h2, _⟩, _⟩ := I.tuple hT
    exact PySem.W.kia_one PySem.W.kitx_tuple I.kIn ⟨o, h1, h2⟩ e (fun z => nomatch z) fun tk => ⟨.bl b, H, I.tok _, rfl, q⟩
theorem kit_all (K : PySem.W.Frag) : (∀ k : Kd, PySem.W.kitOne K (.type "NoneType") (.type k.name) = some false) ∧ (∀ k : Kd, PySem.W.kitOne K (.type "list") (.type k.name) = some false) ∧ (∀ k : Kd, PySem.W.kitOne K (.type "dict") (.type k.name) = some false) :=
  ⟨fun k => by cases k <;> kernel_rfl, fun k => by cases k <;> kernel_rfl, fun k => by cases k <;> kernel_rfl⟩
theorem kit_bl (K : PySem.W.Frag) (b : Bool) (k : Kd) : PySem.W.kitOne K (.type "bool") (.type k.name) = some (k.is (.bl b)) := by cases k <;> kernel_rfl
theorem kit_int (K : PySem.W.Frag) (b : Int) (k : Kd) : PySem.W.kitOne K (.type "int") (.type k.name) = some (k.is (.int b)) := by cases k <;> kernel_rfl
theorem kit_str (K : PySem.W.Frag) (b : Str) (k : Kd) : PySem.W.kitOne K (.type "str") (.type k.name) = some (k.is (.str b)) := by cases k <;> kernel_rfl
theorem kit_tup (K : PySem.W.Frag) (b : List PV) (k : Kd) : PySem.W.kitOne K (.type "tuple") (.type k.name) = some (k.is (.tup b)) := by cases k <;> kernel_rfl
def bAbs : MB1 := ⟨fun l h Q => match l with | [.int i] => Q (.int (if i < 0 then -i else i)) h | _ => False, fun f q => by
  revert q
  split
  · exact f _ _
  · exact fun z => z⟩
theorem bAbs_ok : MB1.Ok K (fun xs H Q => ∃ i, xs = [.int i] ∧ Q (.int (if i < 0 then -i else i)) H) bAbs := by
  intro ι H h vs l Q hr hv q
  unfold bAbs at q
  dsimp only at q
  revert q
  split
  · intro q
    cases hv with
    | cons x t => cases t; cases x; exact ⟨_, rfl, q ι _ H (Go.refl _ _) hr (.int _)⟩
  · exact False.elim
def bInt : MB1 := ⟨fun l h Q => match l with | [.int i] => Q (.int i) h | [.bl k] => Q (.int (if k then 1 else 0)) h | _ => False, fun f q => by
  revert q
  split
  · exact f _ _
  · exact f _ _
  · exact fun z => z⟩
theorem bInt_ok : MB1.Ok K (fun xs H Q => (∃ i, xs = [.int i] ∧ Q (.int i) H) ∨ ∃ k, xs = [.bl k] ∧ Q (.int (if k then 1 else 0)) H) bInt := by
  intro ι H h vs l Q hr hv q
  unfold bInt at q
  dsimp only at q
  revert q
  split
  · intro q
    cases hv with
    | cons x t => cases t; cases x; exact .inl ⟨_, rfl, q ι _ H (Go.refl _ _) hr (.int _)⟩
  · intro q
    cases hv with
    | cons x t => cases t; cases x; exact .inr ⟨_, rfl, q ι _ H (Go.refl _ _) hr (.int _)⟩
  · exact False.elim
end
end PL
set_option Elab.async false
set_option linter.all false
set_option maxRecDepth 100000
namespace PL
open PySem PySem.Spec PyProof.Rows L2
variable {K : PySem.W.Frag}
section
variable {X : Cx} {a b c e o : Expr} {es : List Expr} {pos : Pos}
def rTupT (K : PySem.W.Frag) : List V → Hp → VK → Prop := fun xs H Q => ∃ p ys, xs = [.ref p] ∧ ((SqL K H p ys ∧ newO H (.tup ys) Q) ∨ (SqT K H p ys ∧ Q (.ref p) H))
theorem call_tupT (K : PySem.W.Frag) (hK : X.K = K) : CallR X (.type "tuple") (rTupT K) := by
  subst hK
  exact call_tuple_of.mono fun xs H Q ⟨p, ys, e, h⟩ => ⟨p, ys, e, h.imp (fun ⟨h1, h2⟩ => ⟨h1, fun l hl => h2.at l hl⟩) fun z => z⟩
theorem bools_vrs {ι : List Addr} {H : Hp} : ∀ {bs : List Bool} {vs : List V}, VRs K ι H vs (bs.map PV.bl) → vs = bs.map V.bl
  | [], _, h => by cases h; rfl
  | b :: bs, _, h => by
    cases h with
    | cons x t => cases x; rw [bools_vrs t]; rfl
structure MQL where
  run : PSt → PH → (Src → PH → Prop) → Prop
  mono : ∀ {ps h} {Q Q' : Src → PH → Prop}, (∀ v h', Q v h' → Q' v h') → run ps h Q → run ps h Q'
structure MO where
  run : PSt → PH → (Option Int → PH → Prop) → Prop
  mono : ∀ {ps h} {Q Q' : Option Int → PH → Prop}, (∀ v h', Q v h' → Q' v h') → run ps h Q → run ps h Q'
theorem PO.imp {e : Option Expr} {t t' : TO} (h : L2.PO X e t) (f : ∀ σ H Q, t' σ H Q → t σ H Q) : L2.PO X e t' := fun pins s σ H Q I q => h pins s σ H Q I (f _ _ _ q)
def cutP (xs : List PV) (lo hi : Option Int) : List PV := (xs.drop (HT.sIx xs.length 0 lo)).take (HT.sIx xs.length xs.length hi - HT.sIx xs.length 0 lo)
theorem VRs.cut {ι : List Addr} {H : Hp} {vs : List V} {l : List PV} (r : VRs K ι H vs l) (lo hi : Option Int) : VRs K ι H (cutV vs lo hi) (cutP l lo hi) := by
  unfold cutV cutP
  rw [r.length]
  exact (r.drop _).take _
end
end PL
set_option Elab.async false
set_option linter.all false
set_option maxRecDepth 100000
namespace PL
open PySem PySem.Spec PyProof.Rows L2
variable {K : PySem.W.Frag}
section
variable {X : Cx} {a b c e o tg : Expr} {es : List Expr} {pos p : Pos}
def intsV (lo : Int) (n : Nat) : List PV := (List.range n).map fun (i : Nat) => .int (lo + (i : Int))
theorem intsV_len (lo : Int) (n : Nat) : (intsV lo n).length = n := by unfold intsV; simp
theorem intsV_get {lo : Int} {n i : Nat} {p : PV} (h : (intsV lo n)[i]? = some p) : i < n ∧ p = .int (lo + i) := by
  unfold intsV at h
  rw [List.getElem?_map] at h
  cases z : (List.range n)[i]? with
  | none => rw [z] at h; cases h
  | some k =>
    rw [z] at h
    obtain ⟨h1, h2⟩ := List.getElem?_eq_some_iff.mp z
    simp at h1 h2
    subst h2
    exact ⟨h1, (Option.some.inj h).symm⟩
end
end PL
set_option Elab.async false
set_option linter.all false
set_option maxRecDepth 100000
set_option Elab.async false
set_option linter.all false
set_option maxRecDepth 100000
namespace PL
open PySem PySem.Spec PyProof.Rows L2
section
variable {X : Cx} {K : PySem.W.Frag} {a b c e o tg iter : Expr} {es rest : List Expr} {pos p p1 p2 p3 p4 : Pos}
section
variable {ma mb mc : ME}
structure JC (X : Cx) (K : PySem.W.Frag) (op : CmpOp) (b : Expr) (m : M2) : Prop where
  p : ∃ r, OpR X (compareOp op) r ∧ M2.Ok K r m
  k : behindInMarks op b = false
theorem jc_lt : JC X K .Lt b oLt := ⟨⟨_, op_lt, aI_ok fun _ _ _ _ => .bl _⟩, nomark _⟩
theorem jc_le : JC X K .LtE b oLe := ⟨⟨_, op_le, aI_ok fun _ _ _ _ => .bl _⟩, nomark _⟩
theorem jc_gt : JC X K .Gt b oGt := ⟨⟨_, op_gt, aI_ok fun _ _ _ _ => .bl _⟩, nomark _⟩
theorem jc_ge : JC X K .GtE b oGe := ⟨⟨_, op_ge, aI_ok fun _ _ _ _ => .bl _⟩, nomark _⟩
theorem jc_isB : JC X K .Is b oIsB := ⟨⟨_, op_is_bl, oIsB_ok⟩, nomark _⟩
theorem jc_isNotB : JC X K .IsNot b oIsNotB := ⟨⟨_, op_isnot_bl, oIsNotB_ok⟩, nomark _⟩
def oLtS : M2 := ⟨fun x y h Q => match x, y with | .str i, .str j => Q (.bl (decide (i.cps.toList < j.cps.toList))) h | _, _ => False, fun f q => by
  revert q
  split
  · exact f _ _
  · exact fun z => z⟩
def oInS : M2 := ⟨fun x y h Q => match x, y with | .str i, .str j => Q (.bl (!(Builtin.Str.occurrences j i 0 j.length 1).isEmpty)) h | _, _ => False, fun f q => by
  revert q
  split
  · exact f _ _
  · exact fun z => z⟩
theorem jc_inS (hk : behindInMarks .In b = false) : JC X K .In b oInS := ⟨⟨_, op_in_str, by
  intro ι H h u v x y Q hr hu hv q
  unfold oInS at q
  dsimp only at q
  revert q
  split
  · intro q; cases hu; cases hv; exact ⟨_, _, rfl, rfl, q ι _ H (Go.refl _ _) hr (.bl _)⟩
  · exact False.elim⟩, hk⟩
variable {op op' : CmpOp} {m m' : M2}
variable {mq : MQ}
end
end
end PL
set_option Elab.async false
set_option linter.all false
set_option maxRecDepth 100000
set_option Elab.async false
set_option linter.all false
set_option maxRecDepth 100000
set_option Elab.async false
set_option linter.all false
set_option maxRecDepth 100000
set_option Elab.async false
set_option linter.all false
set_option maxRecDepth 100000
namespace PL
open PySem PySem.Spec PyProof.Rows L2
variable {K : PySem.W.Frag}
section
variable {X : Cx} {a b c e o : Expr} {es : List Expr} {pos : Pos}
theorem empty_of {ι : List Addr} {H : Hp} {vs : List V} {l : List PV} (h : VRs K ι H vs l) : vs.isEmpty = l.isEmpty := by cases h <;> rfl
theorem VRs.rep {ι : List Addr} {H : Hp} {vs : List V} {l : List PV} (h : VRs K ι H vs l) : ∀ k : Nat, VRs K ι H (List.replicate k vs).flatten (List.replicate k l).flatten
  | 0 => .nil
  | k + 1 => by
    rw [List.replicate_succ, List.replicate_succ, List.flatten_cons, List.flatten_cons]
    exact h.append (h.rep k)
theorem ints_vs {ι : List Addr} {H : Hp} : ∀ {ns : List Int} {vs : List V}, VRs K ι H vs (ns.map PV.int) → vs = ns.map V.int
  | [], _, h => by cases h; rfl
  | b :: bs, _, h => by
    cases h with
    | cons x t => cases x; rw [ints_vs t]; rfl
theorem ints_vr (ι : List Addr) (H : Hp) : ∀ ns : List Int, VRs K ι H (ns.map V.int) (ns.map PV.int)
  | [] => .nil
  | n :: ns => .cons (.int n) (ints_vr ι H ns)
end
end PL
set_option Elab.async false
set_option linter.all false
set_option maxRecDepth 100000
set_option Elab.async false
set_option linter.all false
set_option maxRecDepth 100000
set_option Elab.async false
set_option linter.all false
set_option maxRecDepth 100000
set_option Elab.async false
set_option linter.all false
set_option maxRecDepth 100000
set_option Elab.async false
set_option linter.all false
set_option maxRecDepth 100000
namespace L2
open PySem PySem.Spec PyProof.Rows
section
variable {prog : Program} {w : World} {A : Around} {E : Value → Shared → Prop} {s : Shared}
end
end L2
set_option Elab.async false
set_option linter.all false
set_option maxRecDepth 100000
namespace L2
open PySem PySem.Spec PyProof.Rows
section
variable {X : Cx} {pins : List (Addr × Obj)} {σ : St} {H : Hp} {s : Shared} {a : Addr} {kvs : List (List Key × V)}
theorem Inv.freeze (I : Inv X pins σ H s) (e : H a = some (.dT kvs)) : ∃ o, Inv X pins σ (upd H a (.frz o (.dT kvs))) s := by
  obtain ⟨z, hs, xs, r, o, es, ep, h1, h2, h3, h4, h5⟩ := (show ObjOk X.prog X.w H s.heap a (.dT kvs) from I.hok a _ e)
  refine ⟨o, ?_⟩
  have q := I.write (x := a) (e := a) (o := .frz o (.dT kvs)) (h' := s.heap) (t' := s.toks) (by rw [e]; exact True.intro) (.inl rfl) (fun b u _ z => z) ⟨o, h1⟩
    ⟨h1, z, hs, xs, KT.keeps r fun b ys eb => by rw [upd_ne (ne_of eb e (fun z => nomatch z))]; exact eb, o, es, ep, h1, h2, h3, h4, h5⟩
  exact q
theorem Inv.thaw {o : Obj} {u : HO} (I : Inv X pins σ H s) (e : H a = some (.frz o u)) (h0 : ∀ o u, X.H₀ a ≠ some (.frz o u)) (hu : ObjOk X.prog X.w (upd H a u) s.heap a u) (hok : HOk X.prog X.w (upd H a u) s.heap) : Inv X pins σ (upd H a u) s := by
  have ne : ∀ b v, H b = v → v ≠ some (.frz o u) → b ≠ a := fun b v q n z => by subst z; exact n (q.symm.trans e)
  refine ⟨I.ok, I.os, I.bare, ⟨I.base.keep, I.base.slot, fun b ob q n hx => ?_, I.base.there, fun b xs q => ?_, fun b ob xs q => ?_, fun b ps q => ?_⟩, I.loc, I.cell, ?_, fun x c q => ?_, fun p hp => ?_, hok, I.len⟩
  · have := I.base.free b ob q n hx
    rw [upd_ne (ne b _ this (by simp))]; exact this
  · have := I.base.tups b xs q
    rw [upd_ne (ne b _ this (by simp))]; exact this
  · have := I.base.frzs b ob xs q
    have hb : b ≠ a := fun z => by subst z; exact h0 _ _ q
    rw [upd_ne hb]; exact this
  · obtain ⟨m, this⟩ := I.base.tbls b ps q
    exact ⟨m, by rw [upd_ne (ne b _ this (by simp))]; exact this⟩
  · rw [upd_ne (ne _ _ I.free (by simp))]; exact I.free
  · rw [upd_ne (ne _ _ (I.freeC x c q) (by simp))]; exact I.freeC x c q
  · obtain ⟨p1, p2, p3⟩ := I.pin p hp
    exact ⟨p1, by rw [upd_ne (ne _ _ p2 (by simp))]; exact p2, p3⟩
theorem hok_thaw {P : Program} {w : World} {h : Heap} {o : Obj} {u : HO} (ok : HOk P w H h) (e : H a = some (.frz o u)) : HOk P w (upd H a u) h := fun b u' q => by
  have ne : ∀ c v, H c = some v → v ≠ .frz o u → upd H a u c = some v := fun c v z n => by
    rw [upd_ne (fun y => by subst y; rw [e] at z; cases z; exact n rfl)]; exact z
  by_cases hb : b = a
  · subst hb
    rw [upd_same] at q
    cases q
    exact ObjOk.stay (ok b _ e).2 (fun _ _ _ z => z) (fun c z => ne c _ z (by simp)) fun c xs z => ne c _ z (by simp)
  · rw [upd_ne hb] at q
    exact ObjOk.stay (ok b _ q) (fun _ _ _ z => z) (fun c z => ne c _ z (by simp)) fun c xs z => ne c _ z (by simp)
end
end L2
set_option Elab.async false
set_option linter.all false
set_option maxRecDepth 100000
namespace FL
open PySem PySem.Spec PyProof.Rows L2 PL
variable {K : PySem.W.Frag}
structure W (α : Type) where
  run : (α → Prop) → Prop
  mono : ∀ {Q Q' : α → Prop}, (∀ a, Q a → Q' a) → run Q → run Q'
namespace W
variable {α β γ : Type}
theorem ext' {a b : W α} (h : ∀ Q, a.run Q ↔ b.run Q) : a = b := by
  cases a; cases b; congr; funext Q; exact propext (h Q)
def ret (a : α) : W α := ⟨fun Q => Q a, fun h q => h _ q⟩
def bind (w : W α) (k : α → W β) : W β := ⟨fun Q => w.run fun a => (k a).run Q, fun h q => w.mono (fun a q => (k a).mono h q) q⟩
def fail : W α := ⟨fun _ => False, fun _ q => q⟩
def chk (p : Prop) (w : W α) : W α := ⟨fun Q => p ∧ w.run Q, fun h q => ⟨q.1, w.mono h q.2⟩⟩
def any (p : α → Prop) : W α := ⟨fun Q => ∀ a, p a → Q a, fun h q a pa => h a (q a pa)⟩
def ofO : Option α → W α
  | some a => ret a
  | none => fail
@[simp] theorem ret_bind (a : α) (k : α → W β) : bind (ret a) k = k a := (rfl)
@[simp] theorem bind_assoc (w : W α) (f : α → W β) (g : β → W γ) : bind (bind w f) g = bind w fun a => bind (f a) g := (rfl)
@[simp] theorem bind_ret (w : W α) : bind w ret = w := (rfl)
@[simp] theorem fail_bind (k : α → W β) : bind fail k = fail := (rfl)
@[simp] theorem run_ret (a : α) (Q : α → Prop) : (ret a).run Q = Q a := (rfl)
@[simp] theorem run_bind (w : W α) (k : α → W β) (Q : β → Prop) : (bind w k).run Q = w.run fun a => (k a).run Q := (rfl)
@[simp] theorem run_fail (Q : α → Prop) : (fail : W α).run Q = False := (rfl)
@[simp] theorem run_any (p Q : α → Prop) : (any p).run Q = ∀ a, p a → Q a := (rfl)
@[simp] theorem run_chk (p : Prop) (w : W α) (Q : α → Prop) : (chk p w).run Q = (p ∧ w.run Q) := (rfl)
@[simp] theorem chk_bind (p : Prop) (w : W α) (k : α → W β) : bind (chk p w) k = chk p (bind w k) := (rfl)
theorem chk_pos {p : Prop} {w : W α} (h : p) : chk p w = w := ext' fun Q => ⟨fun q => q.2, fun q => ⟨h, q⟩⟩
@[simp] theorem chk_true {w : W α} : chk True w = w := chk_pos trivial
@[simp] theorem ofO_some (a : α) : ofO (some a) = ret a := (rfl)
@[simp] theorem ofO_none : ofO (none : Option α) = fail := (rfl)
end W
inductive SL where
  | val (v : PV) | adr (b : Addr) (us : List V) (ps : List PV) (fz : List (Addr × Obj)) | ol (q : Option Addr) (l : List PV) | oll (bs : List Addr) (ls : List (List PV)) | od (kvs : List (Key × PV)) | ot (kvs : List (List Key × PV)) | pot (φ : List V → Prop)
abbrev FSt := List (Option SL)
def FzO (H : Hp) (fz : List (Addr × Obj)) : Prop := ∀ p ∈ fz, ∃ u, H p.1 = some (.frz p.2 u)
theorem FzO.tk {H H' : Hp} {fz : List (Addr × Obj)} (h : FzO H fz) (t : TupsK K H H') : FzO H' fz := fun p hp => let ⟨u, e⟩ := h p hp; ⟨u, t.z _ _ _ e⟩
theorem FzO.nil {H : Hp} : FzO H [] := fun _ h => nomatch h
def _root_.L2.HO.nt : HO → Bool
  | .tbl _ => false
  | _ => true
def _root_.L2.HO.ow : HO → Bool
  | .lst _ => true
  | .dK _ => true
  | .dT _ => true
  | .ins _ _ _ => true
  | _ => false
theorem ow_nt {o : HO} (h : o.ow = true) : o.nt = true := by cases o <;> first | rfl | cases h
theorem ow_nf {P : Program} {w : World} {H : Hp} {h : Heap} {a : Addr} {o : HO} {ob : Obj} (k : ObjOk P w H h a o) (e : h.get? a = some ob) (ho : o.ow = true) (vs : Array Value) : ob.data ≠ .fields vs := by
  cases o with
  | lst xs => obtain ⟨_, _, _, _, q⟩ := k; rw [e] at q; cases q; nofun
  | dK xs => obtain ⟨_, _, _, _, o, _, _, q, _, q2, _⟩ := k; rw [e] at q; cases q; rw [q2]; nofun
  | dT xs => obtain ⟨_, _, _, _, o, _, _, q, _, q2, _⟩ := k; rw [e] at q; cases q; rw [q2]; nofun
  | ins C dx fs => obtain ⟨_, _, _, q, _⟩ := k; rw [e] at q; cases q; nofun
  | _ => cases ho
class TabC where
  ts : List (Addr × Str)
def FzC (H : Hp) (c : Value) (q : Str) : Prop := ∃ a o u vs t, c = .ref a ∧ H a = some (.frz o u) ∧ o.data = .fields vs ∧ vs[1]? = some (.str q t)
variable [TabC]
def TB (H : Hp) : Prop := ∀ p ∈ TabC.ts, ∃ ps, H p.1 = some (.tbl ps) ∧ TriplesOk ps.toList ∧ ∀ pos c, codeAmong pos ps.toList = some c → FzC H c p.2
theorem TB.mono {H H' : Hp} (h : TB H) (h1 : ∀ a ps, H a = some (.tbl ps) → H' a = some (.tbl ps)) (h2 : ∀ a o u vs, H a = some (.frz o u) → o.data = .fields vs → ∃ u, H' a = some (.frz o u)) : TB H' := fun p hp => by
  obtain ⟨ps, e, q, k⟩ := h p hp
  refine ⟨ps, h1 _ _ e, q, fun pos c z => ?_⟩
  obtain ⟨a, o, u, vs, t, e1, e2, e3, e4⟩ := k pos c z
  obtain ⟨u', e5⟩ := h2 a o u vs e2 e3
  exact ⟨a, o, u', vs, t, e1, e5, e3, e4⟩
theorem TB.same {H H' : Hp} (h : TB H) (s : Same H H') : TB H' := h.mono (fun a _ z => s a _ z) fun a _ _ _ z _ => ⟨_, s a _ z⟩
theorem TB.thaw {P : Program} {w : World} {H : Hp} {h : Heap} {a : Addr} {o : HO} {ob : Obj} (t : TB H) (k : HOk P w H h) (e : H a = some (.frz ob o)) (ho : o.ow = true) : TB (upd H a o) :=
  t.mono (fun b _ z => by rw [upd_ne (fun y => by subst y; rw [e] at z; cases z)]; exact z) fun b o' u vs z d => ⟨u, by
    rw [upd_ne (fun y => by subst y; rw [e] at z; cases z; exact ow_nf (k b _ e).2 (k b _ e).1 ho vs d)]; exact z⟩
theorem TB.sameX {H H' : Hp} {a : Addr} {ob : HO} (h : TB H) (s : SameX a H H') (e : H a = some ob) (n1 : ob.nt = true) (n2 : ∀ o u, ob ≠ .frz o u) : TB H' :=
  h.mono (fun b _ z => s b _ (fun y => by subst y; rw [e] at z; cases z; cases n1) z) fun b _ _ _ z _ => ⟨_, s b _ (fun y => by subst y; rw [e] at z; cases z; exact n2 _ _ rfl) z⟩
def SL.own : SL → Bool
  | .val _ => false
  | .adr _ _ _ _ => false
  | _ => true
def SL.inn : SL → List Addr
  | .oll bs _ => bs
  | _ => []
def SL.has (s : SL) (x a : Addr) : Prop := a = x ∨ a ∈ s.inn
def OwnAt (K : PySem.W.Frag) (H : Hp) (a : Addr) : SL → Prop
  | .val _ => False
  | .adr b us ps fz => a = b ∧ VRs K [] H us ps ∧ FzO H fz
  | .oll bs ls => H a = some (.lst (bs.map V.ref)) ∧ a ∉ bs ∧ bs.Nodup ∧ bs.length = ls.length ∧ ∀ (j : Nat) (b : Addr) (l : List PV), bs[j]? = some b → ls[j]? = some l → ∃ ws, H b = some (.lst ws) ∧ VRs K [] H ws l
  | .ol q l => (∀ b, q = some b → a = b) ∧ ∃ vs, H a = some (.lst vs) ∧ VRs K [] H vs l
  | .od kvs => ∃ vs : List (Key × V), H a = some (.dK vs) ∧ vs.map (·.1) = kvs.map (·.1) ∧ VRs K [] H (vs.map (·.2)) (kvs.map (·.2))
  | .ot kvs => ∃ vs : List (List Key × V), H a = some (.dT vs) ∧ vs.map (·.1) = kvs.map (·.1) ∧ VRs K [] H (vs.map (·.2)) (kvs.map (·.2))
  | .pot φ => ∃ vs, H a = some (.lst vs) ∧ φ vs
def SlotR (K : PySem.W.Frag) (H : Hp) (u : V) (s : SL) : Prop := (∃ v, s = .val v ∧ VR K [] H u v) ∨ ∃ a, u = .ref a ∧ OwnAt K H a s
def Owns (σ : L2.St) (fs : FSt) (a : Addr) : Prop := ∃ (i : Nat) (s : SL) (x : Addr), fs[i]? = some (some s) ∧ s.own = true ∧ σ[i]? = some (some (.ref x)) ∧ s.has x a
def PotOf (σ : L2.St) (fs : FSt) (φ : List V → Prop) (a : Addr) : Prop := ∃ i : Nat, fs[i]? = some (some (.pot φ)) ∧ σ[i]? = some (some (.ref a))
structure SRf (K : PySem.W.Frag) (H : Hp) (σ : L2.St) (fs : FSt) : Prop where
  len : σ.length = fs.length
  at' : ∀ (i : Nat) (s : SL), fs[i]? = some (some s) → ∃ u, σ[i]? = some (some u) ∧ SlotR K H u s
  nd : ∀ (i j : Nat) (s t : SL) (x y a : Addr), fs[i]? = some (some s) → fs[j]? = some (some t) → s.own = true → t.own = true → σ[i]? = some (some (.ref x)) → σ[j]? = some (some (.ref y)) → s.has x a → t.has y a → i = j
  tb : TB H
structure GoF (σ : L2.St) (fs : FSt) (H : Hp) (σ' : L2.St) (fs' : FSt) (H' : Hp) : Prop where
  keep : ∀ a o, H a = some o → ¬ Owns σ fs a → (o.nt = true → H' a = some o) ∧ ¬ Owns σ' fs' a
  there : ∀ a, H' a = none → H a = none
  pk : ∀ a φ, PotOf σ fs φ a → PotOf σ' fs' φ a ∨ (¬ Owns σ' fs' a ∧ ∃ vs, H' a = some (.lst vs) ∧ φ vs)
structure GoE (σ : L2.St) (fs : FSt) (H H' : Hp) : Prop where
  keep : ∀ a o, H a = some o → (∀ φ, ¬ PotOf σ fs φ a) → (nt : o.nt = true := by rfl) → H' a = some o
  there : ∀ a, H' a = none → H a = none
section
variable {σ σ' σ1 σ2 : L2.St} {fs fs' fs1 fs2 : FSt} {H H' H1 H2 : Hp}
theorem PotOf.owns {φ : List V → Prop} {a : Addr} (p : PotOf σ fs φ a) : Owns σ fs a := let ⟨i, e1, e2⟩ := p; ⟨i, _, _, e1, rfl, e2, .inl rfl⟩
theorem GoE.refl : GoE σ fs H H := ⟨fun _ _ h _ _ => h, fun _ h => h⟩
theorem GoE.trans (a : GoE σ fs H H1) (b : GoE σ fs H1 H2) : GoE σ fs H H2 := ⟨fun x o h n t => b.keep x o (a.keep x o h n t) n t, fun x h => a.there x (b.there x h)⟩
theorem GoE.f (g : GoE σ fs H H') : GoF σ fs H σ fs H' := ⟨fun a o h n => ⟨fun t => g.keep a o h (fun φ p => n p.owns) t, n⟩, g.there, fun a φ p => .inl p⟩
theorem GoE.keepN (g : GoE σ fs H H') {a : Addr} {o : HO} (h : H a = some o) (n : ¬ Owns σ fs a) (t : o.nt = true := by rfl) : H' a = some o := g.keep a o h (fun φ p => n p.owns) t
theorem GoE.same (h : Same H H') : GoE σ fs H H' := ⟨fun a o e _ _ => h a o e, fun a e => (by
  cases z : H a with
  | none => rfl
  | some o => rw [h a o z] at e; cases e)⟩
theorem OwnAt.ex {a c : Addr} {s : SL} (h : OwnAt K H a s) (ho : s.own = true) (hc : s.has a c) : ∃ o, H c = some o ∧ (∀ vs, o ≠ .tup vs) ∧ (∀ ob u, o ≠ .frz ob u) ∧ o.ow = true := by
  cases s with
  | val _ => exact h.elim
  | adr _ _ _ _ => cases ho
  | ol q l => obtain ⟨_, vs, e, _⟩ := h; rcases hc with rfl | hc; exact ⟨_, e, by simp, by simp, rfl⟩; cases hc
  | oll bs ls =>
    obtain ⟨e, _, _, hl, hb⟩ := h
    rcases hc with rfl | hc
    · exact ⟨_, e, by simp, by simp, rfl⟩
    · obtain ⟨j, hj⟩ := List.getElem?_of_mem (show c ∈ bs from hc)
      have h1 := (List.getElem?_eq_some_iff.mp hj).1
      obtain ⟨ws, e, _⟩ := hb j c _ hj (List.getElem?_eq_getElem (by rw [← hl]; exact h1))
      exact ⟨_, e, by simp, by simp, rfl⟩
  | od l => obtain ⟨vs, e, _⟩ := h; rcases hc with rfl | hc; exact ⟨_, e, by simp, by simp, rfl⟩; cases hc
  | ot l => obtain ⟨vs, e, _⟩ := h; rcases hc with rfl | hc; exact ⟨_, e, by simp, by simp, rfl⟩; cases hc
  | pot l => obtain ⟨vs, e, _⟩ := h; rcases hc with rfl | hc; exact ⟨_, e, by simp, by simp, rfl⟩; cases hc
theorem SRf.ownAt (s : SRf K H σ fs) {i : Nat} {t : SL} {a : Addr} (h1 : fs[i]? = some (some t)) (h2 : t.own = true) (h3 : σ[i]? = some (some (.ref a))) : OwnAt K H a t := by
  obtain ⟨u, e, r⟩ := s.at' i t h1
  rw [h3] at e
  cases e
  rcases r with ⟨v, rfl, _⟩ | ⟨b, e, r⟩
  · cases h2
  · cases e; exact r
theorem SRf.owns (s : SRf K H σ fs) {a : Addr} (h : Owns σ fs a) : ∃ o, H a = some o ∧ (∀ vs, o ≠ .tup vs) ∧ (∀ ob u, o ≠ .frz ob u) ∧ o.ow = true := by
  obtain ⟨i, t, x, h1, h2, h3, h4⟩ := h
  exact (s.ownAt h1 h2 h3).ex h2 h4
theorem SRf.noOwn (s : SRf K H σ fs) {a : Addr} (h : H a = none) : ¬ Owns σ fs a := fun z => by
  obtain ⟨o, e, _⟩ := s.owns z
  rw [h] at e; cases e
theorem SRf.noOwnT (s : SRf K H σ fs) {a : Addr} {vs : List V} (h : H a = some (.tup vs)) : ¬ Owns σ fs a := fun z => by
  obtain ⟨o, e, n, _⟩ := s.owns z
  rw [h] at e; cases e; exact n vs rfl
theorem SRf.noOwnF (s : SRf K H σ fs) {a : Addr} {ob : Obj} {u : HO} (h : H a = some (.frz ob u)) : ¬ Owns σ fs a := fun z => by
  obtain ⟨o, e, _, n, _⟩ := s.owns z
  rw [h] at e; cases e; exact n ob u rfl
theorem GoF.refl : GoF σ fs H σ fs H := ⟨fun _ _ h n => ⟨fun _ => h, n⟩, fun _ h => h, fun _ _ h => .inl h⟩
theorem GoF.nown (a : GoF σ fs H σ1 fs1 H1) (b : GoF σ1 fs1 H1 σ2 fs2 H2) {x : Addr} {o : HO} (h : H x = some o) (n : ¬ Owns σ fs x) : ¬ Owns σ2 fs2 x := by
  have n1 := (a.keep x o h n).2
  cases z : H1 x with
  | none => rw [a.there x z] at h; cases h
  | some o1 => exact (b.keep x o1 z n1).2
theorem GoF.trans (a : GoF σ fs H σ1 fs1 H1) (b : GoF σ1 fs1 H1 σ2 fs2 H2) : GoF σ fs H σ2 fs2 H2 :=
  ⟨fun x o h n => ⟨fun t => let ⟨h1, n1⟩ := a.keep x o h n; (b.keep x o (h1 t) n1).1 t, a.nown b h n⟩, fun x h => a.there x (b.there x h), fun x φ h => (a.pk x φ h).elim (b.pk x φ) fun ⟨n, vs, e, p⟩ => .inr (let ⟨h1, n1⟩ := b.keep x _ e n; ⟨n1, vs, h1 rfl, p⟩)⟩
theorem GoF.tups (g : GoF σ fs H σ' fs' H') (s : SRf K H σ fs) : TupsK K H H' :=
  ⟨fun a vs h => (g.keep a _ h (s.noOwnT h)).1 rfl, fun a o u h => (g.keep a _ h (s.noOwnF h)).1 rfl⟩
theorem VR.tk {u : V} {v : PV} (t : TupsK K H H') (r : VR K [] H u v) : VR K [] H' u v := r.mono t fun _ _ e => e
theorem VRs.tk {u : List V} {v : List PV} (t : TupsK K H H') (r : VRs K [] H u v) : VRs K [] H' u v := r.mono t fun _ _ e => e
theorem GoF.vr (g : GoF σ fs H σ' fs' H') (s : SRf K H σ fs) {u : V} {v : PV} (r : VR K [] H u v) : VR K [] H' u v := VR.tk (g.tups s) r
theorem GoE.tups (g : GoE σ fs H H') (s : SRf K H σ fs) : TupsK K H H' := g.f.tups s
theorem GoE.vr (g : GoE σ fs H H') (s : SRf K H σ fs) {u : V} {v : PV} (r : VR K [] H u v) : VR K [] H' u v := VR.tk (g.tups s) r
theorem GoE.vrs (g : GoE σ fs H H') (s : SRf K H σ fs) {u : List V} {v : List PV} (r : VRs K [] H u v) : VRs K [] H' u v := VRs.tk (g.tups s) r
theorem OwnAt.mono {a : Addr} {s : SL} (t : TupsK K H H') (e : ∀ c o, s.own = true → s.has a c → H c = some o → o.nt = true → H' c = some o) (h : OwnAt K H a s) : OwnAt K H' a s := by
  cases s with
  | val _ => exact h
  | adr _ _ _ _ => exact ⟨h.1, VRs.tk t h.2.1, h.2.2.tk t⟩
  | ol _ l => obtain ⟨z, vs, q, r⟩ := h; exact ⟨z, vs, e _ _ rfl (.inl rfl) q rfl, VRs.tk t r⟩
  | oll bs ls =>
    obtain ⟨z, h1, h2, h3, h4⟩ := h
    refine ⟨e _ _ rfl (.inl rfl) z rfl, h1, h2, h3, fun j b l hb hl => ?_⟩
    obtain ⟨ws, q, r⟩ := h4 j b l hb hl
    exact ⟨ws, e _ _ rfl (.inr (List.mem_of_getElem? hb)) q rfl, VRs.tk t r⟩
  | od l => obtain ⟨vs, q, k, r⟩ := h; exact ⟨vs, e _ _ rfl (.inl rfl) q rfl, k, VRs.tk t r⟩
  | ot l => obtain ⟨vs, q, k, r⟩ := h; exact ⟨vs, e _ _ rfl (.inl rfl) q rfl, k, VRs.tk t r⟩
  | pot φ => obtain ⟨vs, q, k⟩ := h; exact ⟨vs, e _ _ rfl (.inl rfl) q rfl, k⟩
theorem SlotR.mono {u : V} {s : SL} (t : TupsK K H H') (e : ∀ x a o, u = .ref x → s.own = true → s.has x a → H a = some o → o.nt = true → H' a = some o) (h : SlotR K H u s) : SlotR K H' u s := by
  rcases h with ⟨v, q, r⟩ | ⟨a, q, r⟩
  · exact .inl ⟨v, q, VR.tk t r⟩
  · exact .inr ⟨a, q, r.mono t (fun c o z y w nt => e a c o q z y w nt)⟩
theorem SRf.same (s : SRf K H σ fs) (h : Same H H') : SRf K H' σ fs := ⟨s.len, fun i t e => let ⟨u, h1, h2⟩ := s.at' i t e; ⟨u, h1, h2.mono h.tupsK (fun _ a o _ _ _ z _ => h a o z)⟩, s.nd, s.tb.same h⟩
theorem GoF.same (h : Same H H') (s : SRf K H σ fs) : GoF σ fs H σ fs H' := ⟨fun a o e n => ⟨fun _ => h a o e, n⟩, fun a e => (by
  cases z : H a with
  | none => rfl
  | some o => rw [h a o z] at e; cases e), fun a φ p => .inl p⟩
inductive LeF : FSt → FSt → Prop
  | nil : LeF [] []
  | drop {s : Option SL} {a b : FSt} (h : LeF a b) : LeF (s :: a) (none :: b)
  | keep {s : Option SL} {a b : FSt} (h : LeF a b) : LeF (s :: a) (s :: b)
theorem LeF.at {a b : FSt} (h : LeF a b) : ∀ (i : Nat) (s : SL), b[i]? = some (some s) → a[i]? = some (some s) := by
  induction h with
  | nil => intro i s e; simp at e
  | drop h ih => intro i s e; cases i with | zero => simp at e | succ i => simp at e ⊢; exact ih i s e
  | keep h ih => intro i s e; cases i with | zero => simpa using e | succ i => simp at e ⊢; exact ih i s e
theorem LeF.length {a b : FSt} (h : LeF a b) : a.length = b.length := by induction h <;> simp_all
theorem LeF.refl : ∀ a : FSt, LeF a a
  | [] => .nil
  | _ :: a => .keep (LeF.refl a)
theorem SRf.le (s : SRf K H σ fs) (h : LeF fs fs') : SRf K H σ fs' := ⟨s.len.trans h.length, fun i t e => s.at' i t (h.at i t e), fun i j t u x y a e1 e2 => s.nd i j t u x y a (h.at i t e1) (h.at j u e2), s.tb⟩
theorem Owns.le (h : LeF fs fs') {a : Addr} (o : Owns σ fs' a) : Owns σ fs a := let ⟨i, t, x, e1, e2, e3⟩ := o; ⟨i, t, x, h.at i t e1, e2, e3⟩
theorem GoF.le (s : SRf K H σ fs) (h : LeF fs fs') : GoF σ fs H σ fs' H := ⟨fun a o e n => ⟨fun _ => e, fun z => n (z.le h)⟩, fun _ e => e, fun a φ p => by
  obtain ⟨i, e1, e2⟩ := p
  by_cases c : Owns σ fs' a
  · obtain ⟨j, t, x, c1, c2, c3, c4⟩ := c
    have ij := s.nd i j _ t a x a e1 (h.at j t c1) rfl c2 e2 c3 (.inl rfl) c4
    subst ij
    have := h.at i t c1
    rw [e1] at this
    cases this
    exact .inl ⟨i, c1, e2⟩
  · obtain ⟨vs, q, r⟩ := s.ownAt e1 rfl e2
    exact .inr ⟨c, vs, q, r⟩⟩
theorem set_get {α : Type} {l : List (Option α)} {i j : Nat} {x y : α} (h : (l.set i (some x))[j]? = some (some y)) : (j = i ∧ y = x) ∨ (j ≠ i ∧ l[j]? = some (some y)) := by
  by_cases c : j = i
  · subst c
    rw [List.getElem?_set] at h
    simp at h
    exact .inl ⟨rfl, h.2.symm⟩
  · rw [List.getElem?_set_ne (fun z => c z.symm)] at h
    exact .inr ⟨c, h⟩
theorem get_set_self {α : Type} {l : List α} {i : Nat} {x : α} (h : i < l.length) : (l.set i x)[i]? = some x := by rw [List.getElem?_set]; simp [h]
theorem get_set_other {α : Type} {l : List α} {i j : Nat} {x : α} (h : j ≠ i) : (l.set i x)[j]? = l[j]? := List.getElem?_set_ne (fun z => h z.symm)
theorem SRf.put (s : SRf K H σ fs) {i : Nat} {u : V} {t : SL} (hr : SlotR K H u t) (hf : ∀ x a, u = .ref x → t.own = true → t.has x a → ∀ (j : Nat) (w : SL) (y : Addr), j ≠ i → fs[j]? = some (some w) → w.own = true → σ[j]? = some (some (.ref y)) → ¬ w.has y a) : SRf K H (σ.set i (some u)) (fs.set i (some t)) := by
  refine ⟨by simp [s.len], fun j w e => ?_, fun j k w x b1 b2 a e1 e2 o1 o2 q1 q2 z1 z2 => ?_, s.tb⟩
  · rcases set_get e with ⟨rfl, rfl⟩ | ⟨n, e⟩
    · have hl : j < σ.length := by
        have := (List.getElem?_eq_some_iff.mp e).1
        rw [List.length_set] at this
        rw [s.len]; exact this
      exact ⟨u, get_set_self hl, hr⟩
    · obtain ⟨v, h1, h2⟩ := s.at' j w e
      exact ⟨v, by rw [get_set_other n]; exact h1, h2⟩
  · rcases set_get e1 with ⟨y1, y2⟩ | ⟨n1, f1⟩ <;> rcases set_get e2 with ⟨y3, y4⟩ | ⟨n2, f2⟩
    · exact y1.trans y3.symm
    · subst y1
      subst y2
      rw [get_set_other n2] at q2
      have hl : j < σ.length := by have := (List.getElem?_eq_some_iff.mp q1).1; simpa using this
      rw [get_set_self hl] at q1
      cases q1
      exact absurd z2 (hf _ a rfl o1 z1 k x b2 n2 f2 o2 q2)
    · subst y3
      subst y4
      rw [get_set_other n1] at q1
      have hl : k < σ.length := by have := (List.getElem?_eq_some_iff.mp q2).1; simpa using this
      rw [get_set_self hl] at q2
      cases q2
      exact absurd z1 (hf _ a rfl o2 z2 j w b1 n1 f1 o1 q1)
    · rw [get_set_other n1] at q1
      rw [get_set_other n2] at q2
      exact s.nd j k w x b1 b2 a f1 f2 o1 o2 q1 q2 z1 z2
theorem SRf.putV (s : SRf K H σ fs) {u : V} {v : PV} (hr : VR K [] H u v) (i : Nat) : SRf K H (σ.set i (some u)) (fs.set i (some (.val v))) := s.put (.inl ⟨v, rfl, hr⟩) fun _ _ _ z => by cases z
theorem owns_set {i : Nat} {u : V} {t : SL} {a : Addr} (o : Owns (σ.set i (some u)) (fs.set i (some t)) a) (hl : σ.length = fs.length) : Owns σ fs a ∨ ∃ x, u = .ref x ∧ t.own = true ∧ t.has x a := by
  obtain ⟨j, w, x, e1, e2, e3, e4⟩ := o
  rcases set_get e1 with ⟨rfl, rfl⟩ | ⟨n, e1⟩
  · have h2 : j < σ.length := by have := (List.getElem?_eq_some_iff.mp e3).1; simpa using this
    rw [get_set_self h2] at e3
    cases e3
    exact .inr ⟨x, rfl, e2, e4⟩
  · rw [get_set_other n] at e3
    exact .inl ⟨j, w, x, e1, e2, e3, e4⟩
theorem pot_set (s : SRf K H σ fs) {i : Nat} {u : V} {t : SL} {φ : List V → Prop} {a : Addr} (p : PotOf σ fs φ a) (hu : ∀ x, u = .ref x → t.own = true → t.has x a → t = .pot φ) : PotOf (σ.set i (some u)) (fs.set i (some t)) φ a ∨ ¬ Owns (σ.set i (some u)) (fs.set i (some t)) a := by
  obtain ⟨j, e1, e2⟩ := p
  by_cases c : j = i
  · subst c
    by_cases c2 : ∃ x, u = .ref x ∧ t.own = true ∧ t.has x a
    · obtain ⟨x, c3, c4, c5⟩ := c2
      have hl := (List.getElem?_eq_some_iff.mp e2).1
      have hl2 := (List.getElem?_eq_some_iff.mp e1).1
      have et := hu x c3 c4 c5
      subst et
      rcases c5 with rfl | c5
      · exact .inl ⟨j, by rw [get_set_self hl2], by rw [get_set_self hl, c3]⟩
      · cases c5
    · refine .inr fun o => ?_
      obtain ⟨k, w, y, q1, q2, q3, q4⟩ := o
      rcases set_get q1 with ⟨rfl, rfl⟩ | ⟨n, q1⟩
      · have hl := (List.getElem?_eq_some_iff.mp e2).1
        rw [get_set_self hl] at q3
        cases q3
        exact c2 ⟨y, rfl, q2, q4⟩
      · rw [get_set_other n] at q3
        exact n (s.nd k j w _ y a a q1 e1 q2 rfl q3 e2 q4 (.inl rfl))
  · exact .inl ⟨j, by rw [get_set_other c]; exact e1, by rw [get_set_other c]; exact e2⟩
theorem GoF.putV (s : SRf K H σ fs) (u : V) (v : PV) (i : Nat) : GoF σ fs H (σ.set i (some u)) (fs.set i (some (.val v))) H :=
  ⟨fun a o e n => ⟨fun _ => e, fun z => (owns_set z s.len).elim n fun ⟨_, _, z, _⟩ => by cases z⟩, fun _ e => e, fun a φ p => (pot_set s p (fun _ _ z => by cases z)).imp id fun n => ⟨n, by
    obtain ⟨j, e1, e2⟩ := p
    obtain ⟨vs, q, r⟩ := s.ownAt e1 rfl e2
    exact ⟨vs, q, r⟩⟩⟩
theorem SRf.putOs (s : SRf K H σ fs) {a : Addr} {t : SL} (hr : OwnAt K H a t) (hn : ∀ c, t.has a c → ¬ Owns σ fs c) (i : Nat) : SRf K H (σ.set i (some (.ref a))) (fs.set i (some t)) := s.put (.inr ⟨a, rfl, hr⟩) fun x c e _ hc j w y n e1 e2 e3 z => by
  cases e
  exact hn c hc ⟨j, w, y, e1, e2, e3, z⟩
theorem has_one {t : SL} (hi : t.inn = []) {a c : Addr} (h : t.has a c) : c = a := by
  rcases h with h | h
  · exact h
  · rw [hi] at h; cases h
theorem SRf.putO (s : SRf K H σ fs) {a : Addr} {t : SL} (hr : OwnAt K H a t) (hn : ¬ Owns σ fs a) (i : Nat) (hi : t.inn = [] := by rfl) : SRf K H (σ.set i (some (.ref a))) (fs.set i (some t)) := s.putOs hr (fun c hc => by rw [has_one hi hc]; exact hn) i
theorem GoF.putOs (s : SRf K H1 σ fs) (g : GoF σ fs H σ fs H1) {a : Addr} {t : SL} (hn : ∀ c, t.has a c → ¬ Owns σ fs c) (h0 : ∀ c, t.has a c → H c = none) (i : Nat) : GoF σ fs H (σ.set i (some (.ref a))) (fs.set i (some t)) H1 := by
  refine ⟨fun b o e n => ⟨(g.keep b o e n).1, fun z => (owns_set z s.len).elim n fun ⟨x, z, _, y⟩ => ?_⟩, g.there, fun b φ p => ?_⟩
  · cases z
    rw [h0 b y] at e; cases e
  · obtain ⟨j, e1, e2⟩ := p
    obtain ⟨vs, q, r⟩ := s.ownAt e1 rfl e2
    refine (pot_set (t := t) s ⟨j, e1, e2⟩ (fun x z o y => ?_)).imp id fun n => ⟨n, vs, q, r⟩
    cases z
    exact absurd ⟨j, _, _, e1, rfl, e2, .inl rfl⟩ (hn b y)
theorem GoF.putO (s : SRf K H1 σ fs) (g : GoF σ fs H σ fs H1) {a : Addr} {t : SL} (hn : ¬ Owns σ fs a) (h0 : H a = none) (i : Nat) (hi : t.inn = [] := by rfl) : GoF σ fs H (σ.set i (some (.ref a))) (fs.set i (some t)) H1 := GoF.putOs s g (fun c hc => by rw [has_one hi hc]; exact hn) (fun c hc => by rw [has_one hi hc]; exact h0) i
theorem own_changeC (s : SRf K H σ fs) {i : Nat} {t t' : SL} {a c : Addr} (e1 : fs[i]? = some (some t)) (o : t.own = true) (np : ∀ φ, t ≠ .pot φ) (e2 : σ[i]? = some (some (.ref a))) (hc : t.has a c) (hc' : t'.has a c) (hin : ∀ b, t'.has a b → t.has a b) (o' : t'.own = true) (sx : SameX c H H') (ht : TupsK K H H' → OwnAt K H' a t') : SRf K H' σ (fs.set i (some t')) ∧ GoF σ fs H σ (fs.set i (some t')) H' := by
  have oa := s.ownAt e1 o e2
  obtain ⟨ob, q, n1, n2, n3⟩ := oa.ex o hc
  have tk : TupsK K H H' := ⟨fun b vs z => sx b _ (fun y => by subst y; rw [q] at z; cases z; exact n1 _ rfl) z, fun b o u z => sx b _ (fun y => by subst y; rw [q] at z; cases z; exact n2 _ _ rfl) z⟩
  have oa' := ht tk
  have hi : i < fs.length := (List.getElem?_eq_some_iff.mp e1).1
  have own_iff : ∀ b, Owns σ (fs.set i (some t')) b → Owns σ fs b := fun b z => by
    obtain ⟨j, w, x, z1, z2, z3, z4⟩ := z
    rcases set_get z1 with ⟨rfl, rfl⟩ | ⟨n, z1⟩
    · rw [e2] at z3; cases z3; exact ⟨j, t, a, e1, o, e2, hin b z4⟩
    · exact ⟨j, w, x, z1, z2, z3, z4⟩
  refine ⟨⟨by simp [s.len], fun j w e => ?_, fun j k w x b1 b2 b z1 z2 o1 o2 q1 q2 y1 y2 => ?_, s.tb.sameX sx q (ow_nt n3) n2⟩, ⟨fun b ob e n => ⟨fun _ => sx b ob (fun z => by subst z; exact n ⟨i, t, a, e1, o, e2, hc⟩) e, fun z => n (own_iff b z)⟩, fun b e => ?_, fun b φ p => ?_⟩⟩
  · rcases set_get e with ⟨rfl, rfl⟩ | ⟨n, e⟩
    · exact ⟨_, e2, .inr ⟨a, rfl, oa'⟩⟩
    · obtain ⟨u, h1, h2⟩ := s.at' j w e
      refine ⟨u, h1, h2.mono tk (fun x b ob eb ow hb z _ => sx b ob (fun y => ?_) z)⟩
      subst y
      subst eb
      exact n (s.nd j i w t x a b e e1 ow o h1 e2 hb hc)
  · have f : ∀ {j : Nat} {w : SL} {y : Addr}, (fs.set i (some t'))[j]? = some (some w) → w.own = true → σ[j]? = some (some (.ref y)) → w.has y b → ∃ w', fs[j]? = some (some w') ∧ w'.own = true ∧ w'.has y b := fun {j w y} z ow qy hy => by
      rcases set_get z with ⟨rfl, rfl⟩ | ⟨n, z⟩
      · rw [e2] at qy; cases qy; exact ⟨t, e1, o, hin b hy⟩
      · exact ⟨w, z, ow, hy⟩
    obtain ⟨w', a1, a2, a3⟩ := f z1 o1 q1 y1
    obtain ⟨x', c1, c2, c3⟩ := f z2 o2 q2 y2
    exact s.nd j k w' x' b1 b2 b a1 c1 a2 c2 q1 q2 a3 c3
  · cases z : H b with
    | none => rfl
    | some ob =>
      by_cases cc : b = c
      · subst cc
        obtain ⟨o2, y, _⟩ := oa'.ex o' hc'
        rw [e] at y; cases y
      · rw [sx b ob cc z] at e; cases e
  · obtain ⟨j, p1, p2⟩ := p
    have ji : j ≠ i := fun z => by subst z; rw [e1] at p1; cases p1; exact np φ rfl
    exact .inl ⟨j, by rw [get_set_other ji]; exact p1, p2⟩
theorem own_change (s : SRf K H σ fs) {i : Nat} {t t' : SL} {a : Addr} (e1 : fs[i]? = some (some t)) (o : t.own = true) (np : ∀ φ, t ≠ .pot φ) (e2 : σ[i]? = some (some (.ref a))) (sx : SameX a H H') (ht : TupsK K H H' → OwnAt K H' a t') (hi : t'.inn = t.inn := by rfl) (o' : t'.own = true := by rfl) : SRf K H' σ (fs.set i (some t')) ∧ GoF σ fs H σ (fs.set i (some t')) H' :=
  own_changeC s e1 o np e2 (.inl rfl) (.inl rfl) (fun b h => by unfold SL.has at h ⊢; rw [hi] at h; exact h) o' sx ht
end
end FL
set_option Elab.async false
set_option linter.all false
set_option maxRecDepth 100000
namespace FL
open PySem PySem.Spec PyProof.Rows L2 PL
variable [TabC]
variable {K : PySem.W.Frag}
def fE (K : PySem.W.Frag) (fs : FSt) (w : W PV) : TE := fun σ H Q => SRf K H σ fs ∧ w.run fun v => ∀ u H', GoE σ fs H H' → SRf K H' σ fs → VR K [] H' u v → Q u H'
def fT (K : PySem.W.Frag) (fs : FSt) (w : W Bool) : TT := fun σ H Q => SRf K H σ fs ∧ w.run fun b => ∀ H', GoE σ fs H H' → SRf K H' σ fs → Q b H'
def fO (K : PySem.W.Frag) (fs : FSt) (w : W (Option Int)) : TO := fun σ H Q => SRf K H σ fs ∧ w.run fun b => ∀ H', GoE σ fs H H' → SRf K H' σ fs → Q b H'
def fL (K : PySem.W.Frag) (fs : FSt) (w : W (List PV)) : TE := fun σ H Q => SRf K H σ fs ∧ w.run fun l => ∀ a vs H', GoE σ fs H H' → SRf K H' σ fs → H a = none → H' a = some (.lst vs) → VRs K [] H' vs l → Q (.ref a) H'
def SqI (K : PySem.W.Frag) (H : Hp) (u : V) (l : List PV) : Prop := ∃ a vs, u = .ref a ∧ (FzL K H a vs ∨ H a = some (.tup vs)) ∧ VRs K [] H vs l
def SqF (K : PySem.W.Frag) (σ : L2.St) (fs : FSt) (H : Hp) (u : V) (l : List PV) : Prop := SqI K H u l ∨ ∃ a, u = .ref a ∧ ((¬ Owns σ fs a ∧ ∃ vs, H a = some (.lst vs) ∧ VRs K [] H vs l) ∨ ∃ (i : Nat) (q : Option Addr), fs[i]? = some (some (.ol q l)) ∧ σ[i]? = some (some (.ref a)))
def fQ (K : PySem.W.Frag) (fs : FSt) (w : W (List PV)) : TE := fun σ H Q => SRf K H σ fs ∧ w.run fun l => ∀ u H', GoE σ fs H H' → SRf K H' σ fs → SqF K σ fs H' u l → Q u H'
def fI (K : PySem.W.Frag) (fs : FSt) (w : W (List PV)) : TE := fun σ H Q => SRf K H σ fs ∧ w.run fun l => ∀ u H', GoE σ fs H H' → SRf K H' σ fs → SqI K H' u l → Q u H'
inductive AK where
  | v | p (φ : List V → Prop) | f (a : Addr) (us : List V) (ps : List PV) (fz : List (Addr × Obj))
inductive ArgsR (K : PySem.W.Frag) (σ : L2.St) (fs : FSt) (H : Hp) : List V → List AK → List PV → Prop
  | nil : ArgsR K σ fs H [] [] []
  | v {u : V} {x : PV} {vs : List V} {ks : List AK} {l : List PV} (r : VR K [] H u x) (t : ArgsR K σ fs H vs ks l) : ArgsR K σ fs H (u :: vs) (.v :: ks) (x :: l)
  | p {a : Addr} {φ : List V → Prop} {vs : List V} {ks : List AK} {l : List PV} (r : PotOf σ fs φ a) (t : ArgsR K σ fs H vs ks l) : ArgsR K σ fs H (.ref a :: vs) (.p φ :: ks) l
  | f {a : Addr} {us vs : List V} {ps : List PV} {fz : List (Addr × Obj)} {ks : List AK} {l : List PV} (r : VRs K [] H us ps) (z : FzO H fz) (t : ArgsR K σ fs H vs ks l) : ArgsR K σ fs H (.ref a :: vs) (.f a us ps fz :: ks) l
def fA (K : PySem.W.Frag) (fs : FSt) (ks : List AK) (w : W (List PV)) : TA := fun σ H Q => SRf K H σ fs ∧ w.run fun l => ∀ vs H', GoE σ fs H H' → SRf K H' σ fs → ArgsR K σ fs H' vs ks l → Q vs H'
structure EF (X : Cx) (K : PySem.W.Frag) (fs : FSt) (e : Expr) (w : W PV) : Prop where p : PE X e (fE K fs w)
structure LF (X : Cx) (K : PySem.W.Frag) (fs : FSt) (e : Expr) (w : W (List PV)) : Prop where p : PE X e (fL K fs w)
structure QF (X : Cx) (K : PySem.W.Frag) (fs : FSt) (e : Expr) (w : W (List PV)) : Prop where p : PE X e (fQ K fs w)
structure IF (X : Cx) (K : PySem.W.Frag) (fs : FSt) (e : Expr) (w : W (List PV)) : Prop where p : PE X e (fI K fs w)
structure TF (X : Cx) (K : PySem.W.Frag) (fs : FSt) (e : Expr) (w : W Bool) : Prop where p : PT X e (fT K fs w)
structure TWF (X : Cx) (K : PySem.W.Frag) (fs : FSt) (e : Expr) (w : W Bool) : Prop where p : PW X e (fT K fs w)
structure OF (X : Cx) (K : PySem.W.Frag) (fs : FSt) (e : Option Expr) (w : W (Option Int)) : Prop where p : L2.PO X e (fO K fs w)
structure AF (X : Cx) (K : PySem.W.Frag) (fs : FSt) (es : List Expr) (ks : List AK) {R : Type} (B : (List PV → W R) → W R) : Prop where
  p : ∃ w : W (List PV), PA X es (fA K fs ks w) ∧ ∀ k, B k = W.bind w k
section
variable {σ σ' σ1 σ2 : L2.St} {fs fs' fs1 fs2 : FSt} {H H' H1 H2 : Hp}
theorem SqI.tk {u : V} {l : List PV} (t : TupsK K H H') (h : SqI K H u l) : SqI K H' u l := by
  obtain ⟨a, vs, e, q, r⟩ := h
  exact ⟨a, vs, e, q.imp (t.f _ _) (t.t _ _), VRs.tk t r⟩
theorem SqF.go {u : V} {l : List PV} (h : SqF K σ fs H u l) (s : SRf K H σ fs) (g : GoE σ fs H H') : SqF K σ fs H' u l := by
  rcases h with h | ⟨a, e, ⟨n, vs, q, r⟩ | q⟩
  · exact .inl (h.tk (g.tups s))
  · exact .inr ⟨a, e, .inl ⟨n, vs, (g.keepN q n), g.vrs s r⟩⟩
  · exact .inr ⟨a, e, .inr q⟩
theorem SqF.sq {u : V} {l : List PV} (h : SqF K σ fs H u l) (s : SRf K H σ fs) : ∃ a vs, u = .ref a ∧ (SqL K H a vs ∨ SqT K H a vs) ∧ VRs K [] H vs l := by
  rcases h with ⟨a, vs, e, q, r⟩ | ⟨a, e, ⟨n, vs, q, r⟩ | ⟨i, _, q1, q2⟩⟩
  · exact ⟨a, vs, e, q.elim (fun q => .inl q.sq) fun q => .inr (SqT.of q), r⟩
  · exact ⟨a, vs, e, .inl (SqL.of q), r⟩
  · obtain ⟨_, vs, q, r⟩ := s.ownAt q1 rfl q2
    exact ⟨a, vs, e, .inl (SqL.of q), r⟩
end
section
variable {X : Cx} {a b c e o : Expr} {es rest : List Expr} {pos p2 : Pos} {fs : FSt} {w wa wb wc : W PV}
theorem e_var (i : Nat) {x : Str} {v : PV} (hs : fs[i]? = some (some (.val v)) := by rfl) (hN : X.N[i]? = some x := by rfl) (hv : Vis X.env.scope x := by first | exact Or.inl rfl | exact Or.inr (Or.inl rfl) | exact Or.inr (Or.inr rfl)) (hd : (x == ("__debug__" : Str)) = false := by decide) (hcd : (x == ("__classdict__" : Str)) = false := by decide) : EF X K fs (.Name x pos) (.ret v) :=
  ⟨PE.imp (pe_var hN hv hd hcd) fun σ H Q ⟨sr, q⟩ => by
    obtain ⟨u, e1, r⟩ := sr.at' i _ hs
    rcases r with ⟨w, e, r⟩ | ⟨a, _, r⟩
    · cases e
      exact ⟨u, e1, q u H .refl sr r⟩
    · exact r.elim⟩
theorem f_c {v : V} {p : PV} (hv : ∀ H, VR K [] H v p) (h : PE X e (tC v)) : EF X K fs e (.ret p) := ⟨PE.imp h fun σ H Q ⟨sr, q⟩ => q v H .refl sr (hv _)⟩
theorem e_int {i j} : EF X K fs (.Constant (.int i) j pos) (.ret (.int i)) := f_c (fun _ => .int i) pe_int
theorem e_bl {b j} : EF X K fs (.Constant (.bool b) j pos) (.ret (.bl b)) := f_c (fun _ => .bl b) pe_bl
theorem e_non {j} : EF X K fs (.Constant .none j pos) (.ret .non) := f_c (fun _ => .non) pe_non
theorem e_str {x j} : EF X K fs (.Constant (.str x) j pos) (.ret (.str x)) := f_c (fun _ => .str x) pe_str
theorem e_gint {x : Str} {i : Int} {t : Tok} (hm : X.mg x = some (.int i t)) (hg : Gl X x) (hd : (x == ("__debug__" : Str)) = false := by decide) : EF X K fs (.Name x pos) (.ret (.int i)) := f_c (fun _ => .int i) (pe_glob hg hm ⟨_, rfl⟩ hd)
theorem e_gstr {x : Str} {i : Str} {t : Tok} (hm : X.mg x = some (.str i t)) (hg : Gl X x) (hd : (x == ("__debug__" : Str)) = false := by decide) : EF X K fs (.Name x pos) (.ret (.str i)) := f_c (fun _ => .str i) (pe_glob hg hm ⟨_, rfl⟩ hd)
def of2 (m : M2) (x y : PV) : W PV := ⟨fun Q => m.f x y [] fun z h => h = [] ∧ Q z, fun f q => m.mono (fun _ _ q => ⟨q.1, f _ q.2⟩) q⟩
theorem hr0 (H : Hp) : HR K [] H [] := ⟨List.nodup_nil, rfl, fun n a o e _ => by simp at e⟩
theorem pq0 {σ : L2.St} {H : Hp} {Q : VK} {z : PV} {h : PH} (sr : SRf K H σ fs) (q : h = [] ∧ ∀ u H', GoE σ fs H H' → SRf K H' σ fs → VR K [] H' u z → Q u H') : pQ K [] H Q z h := fun ι' v H' g r x => by
  obtain ⟨e, q⟩ := q
  subst e
  have : ι' = [] := List.eq_nil_of_length_eq_zero r.len
  subst this
  have sm : Same H H' := fun a o z => g.keep a o (by simp) z
  exact q v H' (GoE.same sm) (sr.same sm) x
theorem of2_ok {r : R2} {m : M2} (hm : M2.Ok K r m) {σ : L2.St} {H : Hp} {Q : VK} {u v : V} {x y : PV} (sr : SRf K H σ fs) (hu : VR K [] H u x) (hv : VR K [] H v y) (q : (of2 m x y).run fun z => ∀ u H', GoE σ fs H H' → SRf K H' σ fs → VR K [] H' u z → Q u H') : r u v H Q :=
  hm (hr0 H) hu hv (m.mono (fun z h q => pq0 sr q) q)
theorem fE_op {r : R2} {m : M2} (hm : M2.Ok K r m) : ∀ σ H Q, fE K fs (.bind wa fun x => .bind wb fun y => of2 m x y) σ H Q → tOp r (fE K fs wa) (fE K fs wb) σ H Q := fun σ H Q ⟨sr, q⟩ =>
  ⟨sr, wa.mono (fun x q1 u1 H1 g1 s1 v1 => ⟨s1, wb.mono (fun y q2 u2 H2 g2 s2 v2 => of2_ok hm s2 (g2.vr s1 v1) v2 ((of2 m x y).mono (fun z q u3 H3 g3 s3 v3 => q u3 H3 ((g1.trans g2).trans g3) s3 v3) q2)) q1⟩) q⟩
theorem e_op {op : Operator} {r : R2} {m : M2} (ho : OpR X (binaryOp op) r) (hm : M2.Ok K r m) (ha : EF X K fs a wa) (hb : EF X K fs b wb) : EF X K fs (.BinOp a op b pos) (.bind wa fun x => .bind wb fun y => of2 m x y) := ⟨PE.imp (pe_op ho ha.p hb.p) (fE_op hm)⟩
theorem e_sub (ha : EF X K fs a wa) (hb : EF X K fs b wb) : EF X K fs (.BinOp a .Sub b pos) (.bind wa fun x => .bind wb fun y => of2 oSub x y) := e_op op_sub (aI_ok fun _ _ _ _ => .int _) ha hb
theorem e_mul (ha : EF X K fs a wa) (hb : EF X K fs b wb) : EF X K fs (.BinOp a .Mult b pos) (.bind wa fun x => .bind wb fun y => of2 oMul x y) := e_op op_mulA (aIc_ok fun _ _ _ _ => .int _) ha hb
theorem e_div (ha : EF X K fs a wa) (hb : EF X K fs b wb) : EF X K fs (.BinOp a .FloorDiv b pos) (.bind wa fun x => .bind wb fun y => of2 oDiv x y) := e_op op_fdiv (aIc_ok fun _ _ _ _ => .int _) ha hb
theorem e_mod (ha : EF X K fs a wa) (hb : EF X K fs b wb) : EF X K fs (.BinOp a .Mod b pos) (.bind wa fun x => .bind wb fun y => of2 oMod x y) := e_op op_mod (aIc_ok fun _ _ _ _ => .int _) ha hb
theorem e_pow (ha : EF X K fs a wa) (hb : EF X K fs b wb) : EF X K fs (.BinOp a .Pow b pos) (.bind wa fun x => .bind wb fun y => of2 oPow x y) := e_op op_pow (aIc_ok fun _ _ _ _ => .int _) ha hb
def negW : PV → W PV
  | .int i => .ret (.int (-i))
  | _ => .fail
theorem e_neg (ha : EF X K fs a wa) : EF X K fs (.UnaryOp .USub a pos) (.bind wa negW) := ⟨PE.imp (pe_un un_neg ha.p) fun σ H Q ⟨sr, q⟩ => ⟨sr, wa.mono (fun x q1 u1 H1 g1 s1 v1 => by
  cases v1 with
  | int i => exact ⟨_, rfl, q1 _ H1 g1 s1 (.int _)⟩
  | _ => exact q1.elim) q⟩⟩
def asB : PV → W Bool
  | .bl b => .ret b
  | _ => .fail
theorem e_cmp {op : CmpOp} {m : M2} (hc : JC X K op b m) (ha : EF X K fs a wa) (hb : EF X K fs b wb) : EF X K fs (.Compare a [op] [b] pos) (.bind wa fun x => .bind wb fun y => of2 m x y) := let ⟨_, h1, h2⟩ := hc.p; ⟨PE.imp (pe_cmpR h1 ha.p hb.p hc.k) (fE_op h2)⟩
theorem fT_B {w : W PV} : ∀ σ H Q, fT K fs (.bind w asB) σ H Q → (fE K fs w) σ H fun x H' => ∃ k, x = .bl k ∧ Q k H' := fun σ H Q ⟨sr, q⟩ => ⟨sr, w.mono (fun x q1 u1 H1 g1 s1 v1 => by
  cases v1 with
  | bl b => exact ⟨b, rfl, q1 H1 g1 s1⟩
  | _ => exact q1.elim) q⟩
theorem t_cmp {op : CmpOp} {m : M2} (hc : JC X K op b m) (ha : EF X K fs a wa) (hb : EF X K fs b wb) : TF X K fs (.Compare a [op] [b] pos) (.bind wa fun x => .bind wb fun y => .bind (of2 m x y) asB) := let ⟨_, h1, h2⟩ := hc.p
  ⟨PT.imp (pt_cmpR h1 ha.p hb.p hc.k) fun σ H Q q => fE_op h2 σ H _ (fT_B (w := .bind wa fun x => .bind wb fun y => of2 m x y) σ H Q q)⟩
def chainW (z : PV) (w : W PV) : W PV := match z with
  | .bl true => w
  | .bl false => .ret (.bl false)
  | _ => .fail
theorem fE_chain {r r' : R2} {m m' : M2} (hm : M2.Ok K r m) (hm' : M2.Ok K r' m') : ∀ σ H Q, fE K fs (.bind wa fun x => .bind wb fun y => .bind (of2 m x y) fun z => chainW z (.bind wc fun w => of2 m' y w)) σ H Q → tChain r r' (fE K fs wa) (fE K fs wb) (fE K fs wc) σ H Q := fun σ H Q ⟨sr, q⟩ =>
  ⟨sr, wa.mono (fun x q1 u1 H1 g1 s1 v1 => ⟨s1, wb.mono (fun y q2 u2 H2 g2 s2 v2 => of2_ok hm s2 (g2.vr s1 v1) v2 ((of2 m x y).mono (fun z q3 u3 H3 g3 s3 v3 => by
    have gg := (g1.trans g2).trans g3
    cases v3 with
    | bl k =>
      cases k with
      | true => exact ⟨true, rfl, by rw [if_pos rfl]; exact ⟨s3, wc.mono (fun w q4 u4 H4 g4 s4 v4 => of2_ok hm' s4 ((g3.trans g4).vr s2 v2) v4 ((of2 m' y w).mono (fun z q u5 H5 g5 s5 v5 => q u5 H5 ((gg.trans g4).trans g5) s5 v5) q4)) q3⟩⟩
      | false => exact ⟨false, rfl, by rw [if_neg Bool.false_ne_true]; exact q3 _ H3 gg s3 (.bl _)⟩
    | _ => exact q3.elim) q2)) q1⟩) q⟩
theorem t_chain {op op' : CmpOp} {m m' : M2} (hc : JC X K op b m) (hc' : JC X K op' c m') (ha : EF X K fs a wa) (hb : EF X K fs b wb) (hd : EF X K fs c wc) (hk : lastMarks [op, op'] [b, c] = false := by with_unfolding_all rfl) : TF X K fs (.Compare a [op, op'] [b, c] pos) (.bind wa fun x => .bind wb fun y => .bind (of2 m x y) fun z => .bind (chainW z (.bind wc fun w => of2 m' y w)) asB) :=
  let ⟨_, h1, h2⟩ := hc.p; let ⟨_, h3, h4⟩ := hc'.p; ⟨PT.imp (pt_chain h1 h3 ha.p hb.p hd.p hk) fun σ H Q q => fE_chain h2 h4 σ H _ (fT_B (w := .bind wa fun x => .bind wb fun y => .bind (of2 m x y) fun z => chainW z (.bind wc fun w => of2 m' y w)) σ H Q q)⟩
def andW (x : PV) (w : W PV) : W PV := match x with
  | .bl true => w
  | .bl false => .ret (.bl false)
  | _ => .fail
theorem e_and (ha : EF X K fs a wa) (hb : EF X K fs (.BoolOp .And (b :: rest) pos) wb) : EF X K fs (.BoolOp .And (a :: b :: rest) pos) (.bind wa fun x => andW x wb) := ⟨PE.imp (pe_and ha.p hb.p) fun σ H Q ⟨sr, q⟩ => ⟨sr, wa.mono (fun x q1 u1 H1 g1 s1 v1 => by
  cases v1 with
  | bl k =>
    cases k with
    | true => exact ⟨true, rfl, by rw [if_pos rfl]; exact ⟨s1, wb.mono (fun _ q u H' g s v => q u H' (g1.trans g) s v) q1⟩⟩
    | false => exact ⟨false, rfl, by rw [if_neg Bool.false_ne_true]; exact q1 _ H1 g1 s1 (.bl _)⟩
  | _ => exact q1.elim) q⟩⟩
theorem e_one {op} (h : EF X K fs a wa) : EF X K fs (.BoolOp op [a] pos) wa := ⟨pe_one h.p⟩
variable {ta tb tc : W Bool}
theorem tw_and1 (h : TF X K fs a ta) : TWF X K fs (.BoolOp .And [a] pos) ta := ⟨pw_and1 h.p⟩
theorem tw_or1 (h : TF X K fs a ta) : TWF X K fs (.BoolOp .Or [a] pos) ta := ⟨pw_or1 h.p⟩
theorem tw_and (ha : TF X K fs a ta) (hb : TWF X K fs (.BoolOp .And (b :: rest) pos) tb) : TWF X K fs (.BoolOp .And (a :: b :: rest) pos) (.bind ta fun k => if k = true then tb else .ret false) := ⟨PW.imp (pw_and ha.p hb.p) fun σ H Q ⟨sr, q⟩ => ⟨sr, ta.mono (fun k q1 H1 g1 s1 => by
  cases k with
  | true => exact iteT ⟨s1, tb.mono (fun _ q H' g s => q H' (g1.trans g) s) q1⟩
  | false => exact iteF (q1 H1 g1 s1)) q⟩⟩
theorem tw_or (ha : TF X K fs a ta) (hb : TWF X K fs (.BoolOp .Or (b :: rest) pos) tb) : TWF X K fs (.BoolOp .Or (a :: b :: rest) pos) (.bind ta fun k => if k = true then .ret true else tb) := ⟨PW.imp (pw_or ha.p hb.p) fun σ H Q ⟨sr, q⟩ => ⟨sr, ta.mono (fun k q1 H1 g1 s1 => by
  cases k with
  | true => exact iteT (q1 H1 g1 s1)
  | false => exact iteF ⟨s1, tb.mono (fun _ q H' g s => q H' (g1.trans g) s) q1⟩) q⟩⟩
theorem TWF.t (h : TWF X K fs a ta) : TF X K fs a ta := ⟨PW.pt h.p⟩
theorem t_not (ha : TF X K fs a ta) : TF X K fs (.UnaryOp .Not a pos) (.bind ta fun k => .ret (!k)) := ⟨PT.imp (pt_not ha.p) fun σ H Q ⟨sr, q⟩ => ⟨sr, q⟩⟩
theorem e_if (hc : TF X K fs c tc) (ha : EF X K fs a wa) (hb : EF X K fs b wb) : EF X K fs (.IfExp c a b pos) (.bind tc fun k => if k = true then wa else wb) := ⟨PE.imp (pe_ifExp hc.p ha.p hb.p) fun σ H Q ⟨sr, q⟩ => ⟨sr, tc.mono (fun k q1 H1 g1 s1 => by
  cases k with
  | true => exact iteT ⟨s1, wa.mono (fun _ q u H' g s v => q u H' (g1.trans g) s v) q1⟩
  | false => exact iteF ⟨s1, wb.mono (fun _ q u H' g s v => q u H' (g1.trans g) s v) q1⟩) q⟩⟩
def truW : PV → W Bool
  | .non => .ret false
  | .bl b => .ret b
  | .int i => .ret (i != 0)
  | .str y => .chk (y.length ≤ sizeLine) (.ret ((y.length : Int) != 0))
  | .tup l => .ret (!l.isEmpty)
  | .cl l => .ret (!l.isEmpty)
  | _ => .fail
theorem t_tru (hK : X.K = K) (ha : EF X K fs a wa) (he : ∀ whole, isTrue a X.env whole = (do let v ← whole; standAt a.pos; holding [v] (truthy v))) : TF X K fs a (.bind wa truW) := ⟨PT.imp (pt_truthk K hK ha.p he) fun σ H Q ⟨sr, q⟩ => ⟨sr, wa.mono (fun x q1 u1 H1 g1 s1 v1 => by
  cases v1 with
  | non => exact ⟨false, rfl, q1 H1 g1 s1⟩
  | bl b => exact ⟨b, rfl, q1 H1 g1 s1⟩
  | int i => exact ⟨_, rfl, q1 H1 g1 s1⟩
  | str y => exact ⟨_, ⟨q1.1, rfl⟩, q1.2 H1 g1 s1⟩
  | ty _ => exact q1.elim
  | dk _ _ _ => exact q1.elim
  | dt _ _ _ => exact q1.elim
  | ref _ => exact q1.elim
  | @tup p vs l e rs =>
    refine ⟨!vs.isEmpty, .inr (.inl ⟨_, SqT.of e, rfl⟩), ?_⟩
    rw [← isEmpty_vrs rs]; exact q1 H1 g1 s1
  | @cl p vs l e rs =>
    refine ⟨!vs.isEmpty, .inl ⟨_, e.sq, rfl⟩, ?_⟩
    rw [← isEmpty_vrs rs]; exact q1 H1 g1 s1) q⟩⟩
theorem t_own (hK : X.K = K) {wl : W (List PV)} (ha : QF X K fs a wl) (he : ∀ whole, isTrue a X.env whole = (do let v ← whole; standAt a.pos; holding [v] (truthy v))) : TF X K fs a (.bind wl fun l => .ret (!l.isEmpty)) := ⟨PT.imp (pt_truthk K hK ha.p he) fun σ H Q ⟨sr, q⟩ => ⟨sr, wl.mono (fun l q1 u1 H1 g1 s1 v1 => by
  obtain ⟨b, vs, rfl, h, rs⟩ := v1.sq s1
  refine ⟨!vs.isEmpty, ?_, ?_⟩
  · exact h.elim (fun h => .inl ⟨_, h, rfl⟩) fun h => .inr (.inl ⟨_, h, rfl⟩)
  · rw [← isEmpty_vrs rs]; exact q1 H1 g1 s1) q⟩⟩
variable {R : Type} {ks : List AK} {B : (List PV → W R) → W R}
theorem a_nil : AF X K fs [] [] (R := R) (fun k => k []) := ⟨.ret [], PA.imp pa_nil fun σ H Q ⟨sr, q⟩ => q [] H .refl sr .nil, fun k => rfl⟩
theorem a_cons (ha : EF X K fs e w) (hr : AF X K fs es ks B) (hs : starEach (e :: es) X.env = (false, eval e X.env) :: starEach es X.env := by rfl) : AF X K fs (e :: es) (.v :: ks) (fun k => .bind w fun x => B fun l => k (x :: l)) := by
  obtain ⟨wr, hp, hB⟩ := hr.p
  refine ⟨.bind w fun x => .bind wr fun l => .ret (x :: l), PA.imp (pa_cons ha.p hp hs) fun σ H Q ⟨sr, q⟩ => ?_, fun k => ?_⟩
  · exact ⟨sr, w.mono (fun x q1 u1 H1 g1 s1 v1 => ⟨s1, wr.mono (fun l q2 vs H2 g2 s2 v2 => q2 _ H2 (g1.trans g2) s2 (.v (g2.vr s1 v1) v2)) q1⟩) q⟩
  · have : (fun x => B fun l => k (x :: l)) = fun x => W.bind wr fun l => k (x :: l) := funext fun x => hB _
    rw [this]
    rfl
theorem a_pot (i : Nat) {x : Str} {φ : List V → Prop} (hr : AF X K fs es ks B) (hs : fs[i]? = some (some (.pot φ)) := by rfl) (hN : X.N[i]? = some x := by rfl) (hv : Vis X.env.scope x := by first | exact Or.inl rfl | exact Or.inr (Or.inl rfl) | exact Or.inr (Or.inr rfl)) (hd : (x == ("__debug__" : Str)) = false := by decide) (hcd : (x == ("__classdict__" : Str)) = false := by decide)
    (hst : starEach (.Name x pos :: es) X.env = (false, eval (.Name x pos) X.env) :: starEach es X.env := by rfl) : AF X K fs (.Name x pos :: es) (.p φ :: ks) B := by
  obtain ⟨wr, hp, hB⟩ := hr.p
  refine ⟨wr, PA.imp (pa_cons (pe_var hN hv hd hcd) hp hst) fun σ H Q ⟨sr, q⟩ => ?_, hB⟩
  obtain ⟨u, e1, r⟩ := sr.at' i _ hs
  rcases r with ⟨v, e, _⟩ | ⟨a, e, r⟩
  · cases e
  · subst e
    exact ⟨_, e1, sr, wr.mono (fun l q2 vs H2 g2 s2 v2 => q2 _ H2 g2 s2 (.p ⟨i, hs, e1⟩ v2)) q⟩
theorem ArgsR.vrs {σ : L2.St} {H : Hp} : ∀ {vs : List V} {n : Nat} {l : List PV}, ArgsR K σ fs H vs (List.replicate n .v) l → VRs K [] H vs l ∧ l.length = n
  | _, 0, _, .nil => ⟨.nil, rfl⟩
  | _, n + 1, _, .v r t => ⟨.cons r (ArgsR.vrs t).1, by rw [List.length_cons, (ArgsR.vrs t).2]⟩
theorem e_tup {x1} {n : Nat} {B : (List PV → W PV) → W PV} (h : AF X K fs es (List.replicate n .v) B) (hn : n ≤ 1000 := by decide) : EF X K fs (.Tuple es x1 pos) (B fun l => .ret (.tup l)) := by
  obtain ⟨w, hp, hB⟩ := h.p
  rw [hB]
  refine ⟨PE.imp (pe_tupN hp) fun σ H Q ⟨sr, q⟩ => ⟨sr, w.mono (fun l q1 vs H1 g1 s1 v1 => ?_) q⟩⟩
  obtain ⟨v2, hl⟩ := v1.vrs
  refine ⟨by rw [v2.length, hl]; exact small' hn, fun p H2 s2 e2 n2 => ?_⟩
  exact q1 _ H2 (g1.trans (GoE.same s2)) (s1.same s2) (.tup e2 (VRs.tk s2.tupsK v2))
theorem l_lst {n : Nat} {B : (List PV → W (List PV)) → W (List PV)} (h : AF X K fs es (List.replicate n .v) B) (hn : n ≤ 1000 := by decide) : LF X K fs (.List es pos) (B fun l => .ret l) := by
  obtain ⟨w, hp, hB⟩ := h.p
  rw [hB]
  refine ⟨PE.imp (pe_lstN hp) fun σ H Q ⟨sr, q⟩ => ⟨sr, w.mono (fun l q1 vs H1 g1 s1 v1 => ?_) q⟩⟩
  obtain ⟨v2, hl⟩ := v1.vrs
  refine ⟨by rw [v2.length, hl]; exact small' hn, fun p H2 s2 e2 n2 => ?_⟩
  exact q1 _ _ H2 (g1.trans (GoE.same s2)) (s1.same s2) (g1.there p n2) e2 (VRs.tk s2.tupsK v2)
end
end FL
set_option Elab.async false
set_option linter.all false
set_option maxRecDepth 100000
namespace L2
open PySem PySem.Spec PyProof.Rows
theorem Inv.freezeL {X : Cx} {pins : List (Addr × Obj)} {σ : St} {H : Hp} {s : Shared} {a : Addr} {vs : List V} (I : Inv X pins σ H s) (e : H a = some (.lst vs)) : ∃ o, Inv X pins σ (upd H a (.frz o (.lst vs))) s := by
  obtain ⟨z, its, n, r, h1⟩ := (show ObjOk X.prog X.w H s.heap a (.lst vs) from I.hok a _ e)
  exact ⟨_, I.write (x := a) (e := a) (o := .frz _ (.lst vs)) (h' := s.heap) (t' := s.toks) (by rw [e]; exact True.intro) (.inl rfl) (fun b u _ z => z) ⟨_, h1⟩ ⟨h1, z, its, n, r, h1⟩⟩
theorem Inv.freezeK {X : Cx} {pins : List (Addr × Obj)} {σ : St} {H : Hp} {s : Shared} {a : Addr} {kvs : List (Key × V)} (I : Inv X pins σ H s) (e : H a = some (.dK kvs)) : ∃ o, Inv X pins σ (upd H a (.frz o (.dK kvs))) s := by
  obtain ⟨z, hs, vs, r, o, es, ep, h1, h2⟩ := (show ObjOk X.prog X.w H s.heap a (.dK kvs) from I.hok a _ e)
  exact ⟨o, I.write (x := a) (e := a) (o := .frz o (.dK kvs)) (h' := s.heap) (t' := s.toks) (by rw [e]; exact True.intro) (.inl rfl) (fun b u _ z => z) ⟨o, h1⟩ ⟨h1, z, hs, vs, r, o, es, ep, h1, h2⟩⟩
end L2
namespace FL
open PySem PySem.Spec PyProof.Rows L2 PL
variable [TabC]
variable {K : PySem.W.Frag}
section
variable {σ : L2.St} {fs : FSt} {H H1 H' : Hp} {a : Addr} {vs : List V}
theorem tk_side (o' : HO) (e : H a = some (.lst vs)) : TupsK K H (upd H a o') := ⟨fun b ws q => by rw [upd_ne (ne_of q e (by intro z; cases z))]; exact q, fun b o u q => by rw [upd_ne (ne_of q e (by intro z; cases z))]; exact q⟩
def dvK (kvs : List (Key × PV)) : PV := .dv (kvs.map fun kv => kP kv.1) (kvs.map (·.2))
def dvT (kvs : List (List Key × PV)) : PV := .dv (kvs.map fun kv => .tup (kv.1.map kP)) (kvs.map (·.2))
theorem tk_sideO {oh : HO} (o' : HO) (e : H a = some oh) (n1 : ∀ vs, oh ≠ .tup vs) (n2 : ∀ o u, oh ≠ .frz o u) : TupsK K H (upd H a o') := ⟨fun b ws q => by rw [upd_ne (fun z => by subst z; rw [e] at q; cases q; exact n1 _ rfl)]; exact q, fun b o u q => by rw [upd_ne (fun z => by subst z; rw [e] at q; cases q; exact n2 _ _ rfl)]; exact q⟩
theorem keysT {vs : List (List Key × V)} {kvs : List (List Key × PV)} (h : vs.map (·.1) = kvs.map (·.1)) : (kvs.map fun kv => PV.tup (kv.1.map kP)) = vs.map fun kv => PV.tup (kv.1.map kP) := by
  have := congrArg (List.map fun k : List Key => PV.tup (k.map kP)) h
  rw [List.map_map, List.map_map] at this
  exact this.symm
theorem keysK {vs : List (Key × V)} {kvs : List (Key × PV)} (h : vs.map (·.1) = kvs.map (·.1)) : (kvs.map fun kv => kP kv.1) = vs.map fun kv => kP kv.1 := by
  have := congrArg (List.map kP) h
  rw [List.map_map, List.map_map] at this
  exact this.symm
def SL.bw : SL → Bool
  | .ol _ _ => true
  | .od _ => true
  | .ot _ => true
  | _ => false
def SL.bv : SL → PV
  | .ol _ l => .cl l
  | .od kvs => dvK kvs
  | .ot kvs => dvT kvs
  | _ => .non
theorem SL.bw_own {t : SL} (h : t.bw = true) : t.own = true := by cases t <;> first | rfl | cases h
theorem frzO {X : Cx} {pins : List (Addr × Obj)} {s : Shared} {σ' : L2.St} {t : SL} (I : Inv X pins σ' H s) (oa : OwnAt K H a t) (hb : t.bw = true) : ∃ ob o, H a = some o ∧ (∀ vs, o ≠ .tup vs) ∧ (∀ ob u, o ≠ .frz ob u) ∧ Inv X pins σ' (upd H a (.frz ob o)) s ∧ VR K [] (upd H a (.frz ob o)) (.ref a) t.bv := by
  cases t with
  | ol q l =>
    obtain ⟨_, vs, e, r⟩ := oa
    obtain ⟨ob, I2⟩ := I.freezeL e
    exact ⟨ob, _, e, by simp, by simp, I2, .cl (.inl ⟨ob, upd_same⟩) (VRs.tk (tk_sideO _ e (by simp) (by simp)) r)⟩
  | od l =>
    obtain ⟨vs, e, k, r⟩ := oa
    obtain ⟨ob, I2⟩ := I.freezeK e
    exact ⟨ob, _, e, by simp, by simp, I2, .dk upd_same (keysK k) (VRs.tk (tk_sideO _ e (by simp) (by simp)) r)⟩
  | ot l =>
    obtain ⟨vs, e, k, r⟩ := oa
    obtain ⟨ob, I2⟩ := I.freeze e
    exact ⟨ob, _, e, by simp, by simp, I2, .dt upd_same (keysT k) (VRs.tk (tk_sideO _ e (by simp) (by simp)) r)⟩
  | _ => cases hb
theorem SRf.frzd {i : Nat} {t : SL} {o u : HO} {v : PV} (sr : SRf K H σ fs) (hs : fs[i]? = some (some t)) (ho : t.own = true) (e1 : σ[i]? = some (some (.ref a))) (h1 : H a = some o) (n1 : ∀ vs, o ≠ .tup vs) (n2 : ∀ ob u, o ≠ .frz ob u) (vr : VR K [] (upd H a u) (.ref a) v) : SRf K (upd H a u) σ (fs.set i (some (.val v))) := by
  have nt : o.nt = true := by
    obtain ⟨o', z1, _, _, z2⟩ := (sr.ownAt hs ho e1).ex ho (.inl rfl)
    rw [h1] at z1; cases z1; exact ow_nt z2
  refine ⟨by simp [sr.len], fun j t' z => ?_, fun j k t' u b1 b2 b z1 z2 o1 o2 => ?_, sr.tb.sameX (fun b o n z => by rw [upd_ne n]; exact z) h1 nt n2⟩
  · rcases set_get z with ⟨rfl, rfl⟩ | ⟨n, z⟩
    · exact ⟨_, e1, .inl ⟨_, rfl, vr⟩⟩
    · obtain ⟨u, k1, k2⟩ := sr.at' j t' z
      exact ⟨u, k1, k2.mono (tk_sideO _ h1 n1 n2) (fun x b o eb ow hb zz _ => by
        subst eb
        rw [upd_ne (fun y => by subst y; exact n (sr.nd j i t' _ x b b z hs ow ho k1 e1 hb (.inl rfl)))]; exact zz)⟩
  · rcases set_get z1 with ⟨rfl, rfl⟩ | ⟨n1, z1⟩
    · cases o1
    · rcases set_get z2 with ⟨rfl, rfl⟩ | ⟨n2, z2⟩
      · cases o2
      · exact sr.nd j k t' u b1 b2 b z1 z2 o1 o2
theorem SRf.side (s : SRf K H σ fs) (n : ¬ Owns σ fs a) (e : H a = some (.lst vs)) (o' : HO) : SRf K (upd H a o') σ fs := ⟨s.len, fun i t q => by
  obtain ⟨u, h1, h2⟩ := s.at' i t q
  exact ⟨u, h1, h2.mono (tk_side o' e) (fun x b o eb ow hb z _ => by subst eb; rw [upd_ne (fun y : b = a => n ⟨i, t, x, q, ow, h1, y ▸ hb⟩)]; exact z)⟩, s.nd, s.tb.sameX (fun b o n z => by rw [upd_ne n]; exact z) e rfl (by simp)⟩
theorem GoE.side (g : GoE σ fs H H1) (h0 : H a = none) (o' : HO) : GoE σ fs H (upd H1 a o') := ⟨fun b o e n t => by rw [upd_ne (ne_of_none e h0)]; exact g.keep b o e n t, fun b e => by
  by_cases c : b = a
  · subst c; exact h0
  · rw [upd_ne c] at e; exact g.there b e⟩
end
section
variable {X : Cx} {a b c e o : Expr} {es rest : List Expr} {pos p p2 : Pos} {fs : FSt} {w wa wb wc : W PV} {wl wm : W (List PV)}
theorem e_frz (h : LF X K fs e wl) : EF X K fs e (.bind wl fun l => .ret (.cl l)) := ⟨fun pins s σ H Q I ⟨sr, q⟩ => by
  refine thn (h.p pins s σ H (fun u H1 => ∃ a vs l, u = .ref a ∧ GoE σ fs H H1 ∧ SRf K H1 σ fs ∧ H a = none ∧ H1 a = some (.lst vs) ∧ VRs K [] H1 vs l ∧ ∀ u H', GoE σ fs H H' → SRf K H' σ fs → VR K [] H' u (.cl l) → Q u H') I ⟨sr, wl.mono (fun l q1 a vs H1 g1 s1 n e v => ⟨a, vs, l, rfl, g1, s1, n, e, v, q1⟩) q⟩) fun u s1 ⟨v, H1, I1, r1, a, vs, l, e, g1, s1', n, ea, vr, q1⟩ => ?_
  subst e
  obtain ⟨ob, I2⟩ := I1.freezeL ea
  exact ⟨.ref a, _, I2, r1, q1 _ _ (g1.side n _) (s1'.side (fun z => sr.noOwn n z) ea _) (.cl (.inl ⟨ob, upd_same⟩) (VRs.tk (tk_side _ ea) vr))⟩⟩
def seqW : PV → W (List PV)
  | .tup l => .ret l
  | .cl l => .ret l
  | _ => .fail
theorem i_val (h : EF X K fs e w) : IF X K fs e (.bind w seqW) := ⟨PE.imp h.p fun σ H Q ⟨sr, q⟩ => ⟨sr, w.mono (fun x q1 u1 H1 g1 s1 v1 => by
  cases v1 with
  | tup e r => exact q1 _ H1 g1 s1 ⟨_, _, rfl, .inr e, r⟩
  | cl e r => exact q1 _ H1 g1 s1 ⟨_, _, rfl, .inl e, r⟩
  | _ => exact q1.elim) q⟩⟩
theorem i_new (h : LF X K fs e wl) : IF X K fs e wl := i_val (e_frz h)
theorem IF.q (h : IF X K fs e wl) : QF X K fs e wl := ⟨PE.imp h.p fun σ H Q ⟨sr, q⟩ => ⟨sr, wl.mono (fun l q1 u1 H1 g1 s1 v1 => q1 u1 H1 g1 s1 (.inl v1)) q⟩⟩
theorem q_val (h : EF X K fs e w) : QF X K fs e (.bind w seqW) := (i_val h).q
theorem q_new (h : LF X K fs e wl) : QF X K fs e wl := ⟨PE.imp h.p fun σ H Q ⟨sr, q⟩ => ⟨sr, wl.mono (fun l q1 a vs H1 g1 s1 n e v => q1 _ H1 g1 s1 (.inr ⟨a, rfl, .inl ⟨sr.noOwn n, vs, e, v⟩⟩)) q⟩⟩
theorem q_own (i : Nat) {x : Str} {q0 : Option Addr} {l : List PV} (hs : fs[i]? = some (some (.ol q0 l)) := by rfl) (hN : X.N[i]? = some x := by rfl) (hv : Vis X.env.scope x := by first | exact Or.inl rfl | exact Or.inr (Or.inl rfl) | exact Or.inr (Or.inr rfl)) (hd : (x == ("__debug__" : Str)) = false := by decide) (hcd : (x == ("__classdict__" : Str)) = false := by decide) : QF X K fs (.Name x pos) (.ret l) :=
  ⟨PE.imp (pe_var hN hv hd hcd) fun σ H Q ⟨sr, q⟩ => by
    obtain ⟨u, e1, r⟩ := sr.at' i _ hs
    rcases r with ⟨w, e, r⟩ | ⟨a, e, r⟩
    · cases e
    · subst e
      exact ⟨_, e1, q _ H .refl sr (.inr ⟨a, rfl, .inr ⟨i, q0, hs, e1⟩⟩)⟩⟩
def ixW (l : List PV) : PV → W PV
  | .int i => .ofO (atI l i)
  | _ => .fail
theorem e_ix (hK : X.K = K) (ha : QF X K fs a wl) (hb : EF X K fs b wb) (hs : PlainIx b) : EF X K fs (.Subscript a b pos) (.bind wl fun l => .bind wb fun y => ixW l y) := ⟨PE.imp (pe_ix (ix_seqk K hK) ha.p hb.p hs) fun σ H Q ⟨sr, q⟩ => ⟨sr, wl.mono (fun l q1 u1 H1 g1 s1 v1 => ⟨s1, wb.mono (fun y q2 u2 H2 g2 s2 v2 => by
  cases v2 with
  | int i =>
    have q2 : (W.ofO (atI l i)).run _ := q2
    cases z : atI l i with
    | none => rw [z] at q2; exact q2.elim
    | some x =>
      rw [z] at q2
      obtain ⟨ad, vs, rfl, h, rs⟩ := (v1.go s1 g2).sq s2
      obtain ⟨v, e1, e2⟩ := VRs.atI rs z
      have q3 := q2 v H2 (g1.trans g2) s2 e2
      exact h.elim (fun h => .inl ⟨ad, vs, i, v, rfl, rfl, h, e1, q3⟩) fun h => .inr (.inl ⟨ad, vs, i, v, rfl, rfl, h, e1, q3⟩)
  | _ => exact q2.elim) q1⟩) q⟩⟩
theorem e_ixS (ha : EF X K fs a wa) (hb : EF X K fs b wb) (hs : PlainIx b) : EF X K fs (.Subscript a b pos) (.bind wa fun x => .bind wb fun y => of2 oIxS x y) := ⟨PE.imp (pe_ix ix_str ha.p hb.p hs) (fE_op oIxS_ok)⟩
def of1 (m : MB1) (l : List PV) : W PV := ⟨fun Q => m.f l [] fun z h => h = [] ∧ Q z, fun f q => m.mono (fun _ _ q => ⟨q.1, f _ q.2⟩) q⟩
section
variable {x : Str} {id : String} {r : List V → Hp → VK → Prop} {ks : List AK} {B : (List PV → W PV) → W PV} {n : Nat}
theorem of1_ok {m : MB1} (hm : MB1.Ok K r m) {σ : L2.St} {H : Hp} {Q : VK} {us : List V} {l : List PV} (sr : SRf K H σ fs) (hu : VRs K [] H us l) (q : (of1 m l).run fun z => ∀ u H', GoE σ fs H H' → SRf K H' σ fs → VR K [] H' u z → Q u H') : r us H Q := hm (hr0 H) hu (m.mono (fun z h q => pq0 sr q) q)
theorem e_callB {m : MB1} (hc : CallR X (.builtin id) r) (hB : MB1.Ok K r m) (hg : Gl X x) (hm : X.mg x = none) (hv : bootBuiltins x = some (.builtin id)) (ha : AF X K fs (e :: es) (List.replicate n .v) B) (hn : x ≠ "__name__" := by decide) (hdb : (x == ("__debug__" : Str)) = false := by decide)
    (he : starEach (e :: es) X.env = (false, eval e X.env) :: starEach es X.env := by rfl) (hpl : (backTo pos (starEach es X.env)).any (·.1) = false := by rfl) : EF X K fs (.Call (.Name x p) (e :: es) [] pos) (B (of1 m)) := by
  obtain ⟨w, hp, hB2⟩ := ha.p
  rw [hB2]
  exact ⟨PE.imp (pe_callB hc hg hm hv hp hn hdb he hpl) fun σ H Q ⟨sr, q⟩ => ⟨sr, w.mono (fun l q1 vs H1 g1 s1 v1 => of1_ok hB s1 v1.vrs.1 ((of1 m l).mono (fun z q u H' g s v => q u H' (g1.trans g) s v) q1)) q⟩⟩
theorem e_callTy {m : MB1} (hc : CallR X (.type id) r) (hB : MB1.Ok K r m) (hg : Gl X x) (hm : X.mg x = none) (hv : bootBuiltins x = some (.type id)) (ha : AF X K fs (e :: es) (List.replicate n .v) B) (hn : x ≠ "__name__" := by decide) (hdb : (x == ("__debug__" : Str)) = false := by decide)
    (he : starEach (e :: es) X.env = (false, eval e X.env) :: starEach es X.env := by rfl) (hpl : (backTo pos (starEach es X.env)).any (·.1) = false := by rfl) : EF X K fs (.Call (.Name x p) (e :: es) [] pos) (B (of1 m)) := by
  obtain ⟨w, hp, hB2⟩ := ha.p
  rw [hB2]
  exact ⟨PE.imp (pe_callTy hc hg hm hv hp hn hdb he hpl) fun σ H Q ⟨sr, q⟩ => ⟨sr, w.mono (fun l q1 vs H1 g1 s1 v1 => of1_ok hB s1 v1.vrs.1 ((of1 m l).mono (fun z q u H' g s v => q u H' (g1.trans g) s v) q1)) q⟩⟩
def CQ (K : PySem.W.Frag) (r : List V → Hp → VK → Prop) (m : List PV → W PV) : Prop := ∀ {fs : FSt} {σ : L2.St} {H : Hp} {Q : VK} {u : V} {l : List PV}, SRf K H σ fs → SqF K σ fs H u l → ((m l).run fun z => ∀ u H', GoE σ fs H H' → SRf K H' σ fs → VR K [] H' u z → Q u H') → r [u] H Q
def CL (K : PySem.W.Frag) (r : List V → Hp → VK → Prop) (m : List PV → W (List PV)) : Prop := ∀ {fs : FSt} {σ : L2.St} {H : Hp} {Q : VK} {u : V} {l : List PV}, SRf K H σ fs → SqF K σ fs H u l → ((m l).run fun z => ∀ a vs H', GoE σ fs H H' → SRf K H' σ fs → H a = none → H' a = some (.lst vs) → VRs K [] H' vs z → Q (.ref a) H') → r [u] H Q
theorem e_callBQ {m : List PV → W PV} (hc : CallR X (.builtin id) r) (hB : CQ K r m) (hg : Gl X x) (hm : X.mg x = none) (hv : bootBuiltins x = some (.builtin id)) (ha : QF X K fs e wl) (hn : x ≠ "__name__" := by decide) (hdb : (x == ("__debug__" : Str)) = false := by decide)
    (he : starEach [e] X.env = (false, eval e X.env) :: starEach [] X.env := by rfl) (hpl : (backTo pos (starEach [] X.env)).any (·.1) = false := by rfl) : EF X K fs (.Call (.Name x p) [e] [] pos) (.bind wl m) := ⟨PE.imp (pe_callB hc hg hm hv (pa_cons ha.p pa_nil he) hn hdb he hpl) fun σ H Q ⟨sr, q⟩ => ⟨sr, wl.mono (fun l q1 u H1 g1 s1 v1 => hB s1 v1 ((m l).mono (fun z q u H' g s v => q u H' (g1.trans g) s v) q1)) q⟩⟩
theorem e_callTyQ {m : List PV → W PV} (hc : CallR X (.type id) r) (hB : CQ K r m) (hg : Gl X x) (hm : X.mg x = none) (hv : bootBuiltins x = some (.type id)) (ha : QF X K fs e wl) (hn : x ≠ "__name__" := by decide) (hdb : (x == ("__debug__" : Str)) = false := by decide)
    (he : starEach [e] X.env = (false, eval e X.env) :: starEach [] X.env := by rfl) (hpl : (backTo pos (starEach [] X.env)).any (·.1) = false := by rfl) : EF X K fs (.Call (.Name x p) [e] [] pos) (.bind wl m) := ⟨PE.imp (pe_callTy hc hg hm hv (pa_cons ha.p pa_nil he) hn hdb he hpl) fun σ H Q ⟨sr, q⟩ => ⟨sr, wl.mono (fun l q1 u H1 g1 s1 v1 => hB s1 v1 ((m l).mono (fun z q u H' g s v => q u H' (g1.trans g) s v) q1)) q⟩⟩
theorem l_callB {m : List PV → W (List PV)} (hc : CallR X (.builtin id) r) (hB : CL K r m) (hg : Gl X x) (hm : X.mg x = none) (hv : bootBuiltins x = some (.builtin id)) (ha : QF X K fs e wl) (hn : x ≠ "__name__" := by decide) (hdb : (x == ("__debug__" : Str)) = false := by decide)
    (he : starEach [e] X.env = (false, eval e X.env) :: starEach [] X.env := by rfl) (hpl : (backTo pos (starEach [] X.env)).any (·.1) = false := by rfl) : LF X K fs (.Call (.Name x p) [e] [] pos) (.bind wl m) := ⟨PE.imp (pe_callB hc hg hm hv (pa_cons ha.p pa_nil he) hn hdb he hpl) fun σ H Q ⟨sr, q⟩ => ⟨sr, wl.mono (fun l q1 u H1 g1 s1 v1 => hB s1 v1 ((m l).mono (fun z q a vs H' g s n e v => q a vs H' (g1.trans g) s (g1.there a n) e v) q1)) q⟩⟩
theorem l_callTy {m : List PV → W (List PV)} (hc : CallR X (.type id) r) (hB : CL K r m) (hg : Gl X x) (hm : X.mg x = none) (hv : bootBuiltins x = some (.type id)) (ha : QF X K fs e wl) (hn : x ≠ "__name__" := by decide) (hdb : (x == ("__debug__" : Str)) = false := by decide)
    (he : starEach [e] X.env = (false, eval e X.env) :: starEach [] X.env := by rfl) (hpl : (backTo pos (starEach [] X.env)).any (·.1) = false := by rfl) : LF X K fs (.Call (.Name x p) [e] [] pos) (.bind wl m) := ⟨PE.imp (pe_callTy hc hg hm hv (pa_cons ha.p pa_nil he) hn hdb he hpl) fun σ H Q ⟨sr, q⟩ => ⟨sr, wl.mono (fun l q1 u H1 g1 s1 v1 => hB s1 v1 ((m l).mono (fun z q a vs H' g s n e v => q a vs H' (g1.trans g) s (g1.there a n) e v) q1)) q⟩⟩
end
def lenW (l : List PV) : W PV := .ret (.int l.length)
theorem lenQ_ok (K : PySem.W.Frag) : CQ K (rLen K) lenW := fun {fs σ H Q u l} s v q => by
  obtain ⟨a, vs, rfl, h, rs⟩ := v.sq s
  refine ⟨_, vs.length, rfl, ?_, ?_⟩
  · exact h.elim (fun h => .inl ⟨_, h, rfl⟩) fun h => .inr ⟨_, h, rfl⟩
  · rw [rs.length]; exact q _ H .refl s (.int _)
def tupW (l : List PV) : W PV := .ret (.tup l)
theorem tupQ_ok (K : PySem.W.Frag) : CQ K (rTupT K) tupW := fun {fs σ H Q u l} s v q => by
  have fresh : ∀ {a : Addr} {vs : List V}, SqL K H a vs → VRs K [] H vs l → rTupT K [.ref a] H Q := fun {a vs} h rs => ⟨a, vs, rfl, .inl ⟨h, fun p H2 s2 e2 n2 => q _ H2 (GoE.same s2) (s.same s2) (.tup e2 (VRs.tk s2.tupsK rs))⟩⟩
  rcases v with ⟨a, vs, rfl, h | h, rs⟩ | ⟨a, rfl, ⟨n, vs, h, rs⟩ | ⟨i, _, q1, q2⟩⟩
  · exact fresh h.sq rs
  · exact ⟨a, vs, rfl, .inr ⟨SqT.of h, q _ H .refl s (.tup h rs)⟩⟩
  · exact fresh (SqL.of h) rs
  · obtain ⟨_, vs, h, rs⟩ := s.ownAt q1 rfl q2
    exact fresh (SqL.of h) rs
end
end FL
set_option Elab.async false
set_option linter.all false
set_option maxRecDepth 100000
namespace FL
open PySem PySem.Spec PyProof.Rows L2 PL
variable [TabC]
variable {K : PySem.W.Frag}
def PotArg (vs : List V) (ks : List AK) (φ : List V → Prop) (a : Addr) : Prop := ∃ i : Nat, ks[i]? = some (.p φ) ∧ vs[i]? = some (.ref a)
structure GoC (vs : List V) (ks : List AK) (H H' : Hp) : Prop where
  keep : ∀ a o, H a = some o → (∀ φ, ¬ PotArg vs ks φ a) → (nt : o.nt = true := by rfl) → H' a = some o
  tb : TB H'
  there : ∀ a, H' a = none → H a = none
  pots : ∀ a φ, PotArg vs ks φ a → ∃ ws, H' a = some (.lst ws) ∧ φ ws
inductive ArgC (K : PySem.W.Frag) (H : Hp) : List V → List AK → List PV → Prop
  | nil : ArgC K H [] [] []
  | v {u : V} {x : PV} {vs : List V} {ks : List AK} {l : List PV} (r : VR K [] H u x) (t : ArgC K H vs ks l) : ArgC K H (u :: vs) (.v :: ks) (x :: l)
  | p {a : Addr} {φ : List V → Prop} {ws vs : List V} {ks : List AK} {l : List PV} (e : H a = some (.lst ws)) (r : φ ws) (t : ArgC K H vs ks l) : ArgC K H (.ref a :: vs) (.p φ :: ks) l
  | f {a : Addr} {us vs : List V} {ps : List PV} {fz : List (Addr × Obj)} {ks : List AK} {l : List PV} (r : VRs K [] H us ps) (z : FzO H fz) (t : ArgC K H vs ks l) : ArgC K H (.ref a :: vs) (.f a us ps fz :: ks) l
def spF (K : PySem.W.Frag) (ks : List AK) (m : List PV → W PV) : Sp := fun vs H Q _ => TB H ∧ ∃ l, ArgC K H vs ks l ∧ (m l).run fun v => ∀ u H', GoC vs ks H H' → VR K [] H' u v → Q u H'
def spFL (K : PySem.W.Frag) (ks : List AK) (m : List PV → W (List PV)) : Sp := fun vs H Q _ => TB H ∧ ∃ l, ArgC K H vs ks l ∧ (m l).run fun z => ∀ a ws H', GoC vs ks H H' → H a = none → H' a = some (.lst ws) → VRs K [] H' ws z → Q (.ref a) H'
def Cur (R : Type) : Nat → Type
  | 0 => W R
  | n + 1 => PV → Cur R n
def unc {R : Type} : (n : Nat) → Cur R n → List PV → W R
  | 0, m, [] => m
  | n + 1, m, x :: l => unc n (m x) l
  | 0, _, _ :: _ => .fail
  | _ + 1, _, [] => .fail
section
variable {σ : L2.St} {fs : FSt} {H H' : Hp} {vs : List V} {ks : List AK} {l : List PV}
theorem ArgsR.pot (h : ArgsR K σ fs H vs ks l) {φ : List V → Prop} {a : Addr} (p : PotArg vs ks φ a) : PotOf σ fs φ a := by
  obtain ⟨i, e1, e2⟩ := p
  induction h generalizing i with
  | nil => simp at e1
  | v r t ih => cases i with | zero => simp at e1 | succ i => exact ih i (by simpa using e1) (by simpa using e2)
  | p r t ih =>
    cases i with
    | zero => simp at e1 e2; subst e1; subst e2; exact r
    | succ i => exact ih i (by simpa using e1) (by simpa using e2)
  | f r z t ih => cases i with | zero => simp at e1 | succ i => exact ih i (by simpa using e1) (by simpa using e2)
theorem ArgsR.c (h : ArgsR K σ fs H vs ks l) (s : SRf K H σ fs) : ArgC K H vs ks l := by
  induction h with
  | nil => exact .nil
  | v r t ih => exact .v r ih
  | p r t ih =>
    obtain ⟨i, e1, e2⟩ := r
    obtain ⟨ws, q, x⟩ := s.ownAt e1 rfl e2
    exact .p q x ih
  | f r z t ih => exact .f r z ih
theorem GoC.caller (g : GoC vs ks H H') (h : ArgsR K σ fs H vs ks l) (s : SRf K H σ fs) : SRf K H' σ fs ∧ GoE σ fs H H' := by
  have gf : GoE σ fs H H' := ⟨fun a o e n t => g.keep a o e (fun φ p => n φ (h.pot p)) t, g.there⟩
  have tk := gf.tups s
  refine ⟨⟨s.len, fun i t e => ?_, s.nd, g.tb⟩, gf⟩
  obtain ⟨u, h1, h2⟩ := s.at' i t e
  refine ⟨u, h1, ?_⟩
  rcases h2 with ⟨v, q, r⟩ | ⟨a, q, r⟩
  · exact .inl ⟨v, q, VR.tk tk r⟩
  · subst q
    refine .inr ⟨a, rfl, ?_⟩
    by_cases c : (∃ φ, PotArg vs ks φ a) ∧ t.own = true
    · obtain ⟨⟨φ, p⟩, ow⟩ := c
      obtain ⟨j, e1, e2⟩ := h.pot p
      have ij := s.nd i j t _ a a a e e1 ow rfl h1 e2 (.inl rfl) (.inl rfl)
      subst ij
      rw [e] at e1
      cases e1
      exact g.pots a φ p
    · refine r.mono tk (fun b o ow hb z nt => g.keep b o z (fun φ p => ?_) nt)
      obtain ⟨j, e1, e2⟩ := h.pot p
      have ij := s.nd i j t _ a b b e e1 ow rfl h1 e2 hb (.inl rfl)
      subst ij
      rw [h1] at e2
      cases e2
      exact c ⟨⟨φ, p⟩, ow⟩
end
section
variable {X : Cx} {e : Expr} {es : List Expr} {pos p : Pos} {fs : FSt} {k k' : Nat} {ps : List Str} {x : Str} {ks : List AK}
theorem e_call {m : List PV → W PV} {B : (List PV → W PV) → W PV} (G : Cal X.prog X.w X.K X.mg X.base x k ps (spF K ks m)) (hr : Room k' X.A) (hk : k ≤ k') (hg : Gl X x) (ha : AF X K fs (e :: es) ks B) (hdb : (x == ("__debug__" : Str)) = false := by decide)
    (he : starEach (e :: es) X.env = (false, eval e X.env) :: starEach es X.env := by rfl) (hpl : (backTo pos (starEach es X.env)).any (·.1) = false := by rfl) : EF X K fs (.Call (.Name x p) (e :: es) [] pos) (B m) := by
  obtain ⟨w, hp, hB⟩ := ha.p
  rw [hB]
  exact ⟨PE.imp (pe_cal G hr hk hg hp hdb he hpl) fun σ H Q ⟨sr, q⟩ => ⟨sr, w.mono (fun l q1 vs H1 g1 s1 v1 => ⟨s1.tb, l, v1.c s1, (m l).mono (fun z q2 u H2 g2 r2 => let ⟨s2, g3⟩ := g2.caller v1 s1; q2 u H2 (g1.trans g3) s2 r2) q1⟩) q⟩⟩
theorem l_call {m : List PV → W (List PV)} {B : (List PV → W (List PV)) → W (List PV)} (G : Cal X.prog X.w X.K X.mg X.base x k ps (spFL K ks m)) (hr : Room k' X.A) (hk : k ≤ k') (hg : Gl X x) (ha : AF X K fs (e :: es) ks B) (hdb : (x == ("__debug__" : Str)) = false := by decide)
    (he : starEach (e :: es) X.env = (false, eval e X.env) :: starEach es X.env := by rfl) (hpl : (backTo pos (starEach es X.env)).any (·.1) = false := by rfl) : LF X K fs (.Call (.Name x p) (e :: es) [] pos) (B m) := by
  obtain ⟨w, hp, hB⟩ := ha.p
  rw [hB]
  exact ⟨PE.imp (pe_cal G hr hk hg hp hdb he hpl) fun σ H Q ⟨sr, q⟩ => ⟨sr, w.mono (fun l q1 vs H1 g1 s1 v1 => ⟨s1.tb, l, v1.c s1, (m l).mono (fun z q2 a ws H2 g2 n2 e2 r2 => let ⟨s2, g3⟩ := g2.caller v1 s1; q2 a ws H2 (g1.trans g3) s2 (g1.there a n2) e2 r2) q1⟩) q⟩⟩
end
end FL
set_option Elab.async false
set_option linter.all false
set_option maxRecDepth 100000
namespace FL
open PySem PySem.Spec PyProof.Rows L2 PL
variable [TabC]
variable {K : PySem.W.Frag}
inductive End where
  | nx (fs : FSt) | nc (fs : FSt) | ct (fs : FSt) | rt (v : PV) | rl (l : List PV) | bk (fs : FSt) | ro (v : PV) (a : Addr) (l : List PV)
def FreshO (σ : L2.St) (fs : FSt) (H : Hp) (a : Addr) : Prop := H a = none ∨ ∃ (i : Nat) (s : SL) (x : Addr), fs[i]? = some (some s) ∧ s.own = true ∧ (∀ φ, s ≠ .pot φ) ∧ σ[i]? = some (some (.ref x)) ∧ s.has x a
def EndR (K : PySem.W.Frag) (x : Bool) (σ : L2.St) (fs : FSt) (H : Hp) (D : Ends) : End → Prop
  | .nx fs' => x = false → ∀ σ' H', GoF σ fs H σ' fs' H' → SRf K H' σ' fs' → D.nx σ' H'
  | .nc fs' => ∀ σ' H', GoF σ fs H σ' fs' H' → SRf K H' σ' fs' → (x = false → D.nx σ' H') ∧ D.ct σ' H'
  | .ct fs' => ∀ σ' H', GoF σ fs H σ' fs' H' → SRf K H' σ' fs' → D.ct σ' H'
  | .bk fs' => ∀ σ' H', GoF σ fs H σ' fs' H' → SRf K H' σ' fs' → D.bk σ' H'
  | .rt v => ∀ u σ' fs' H', GoF σ fs H σ' fs' H' → SRf K H' σ' fs' → VR K [] H' u v → D.rt u H'
  | .ro v a l => ∀ u σ' fs' H', GoF σ fs H σ' fs' H' → SRf K H' σ' fs' → (∃ i : Nat, fs'[i]? = some (some (.ol (some a) l))) → VR K [] H' u v → D.rt u H'
  | .rl l => ∀ a ws σ' fs' H', GoF σ fs H σ' fs' H' → SRf K H' σ' fs' → FreshO σ fs H a → H' a = some (.lst ws) → VRs K [] H' ws l → D.rt (.ref a) H'
def fS (K : PySem.W.Frag) (x : Bool) (fs : FSt) {T : Type} (w : W T) (out : T → End) : TS := fun D σ H => SRf K H σ fs ∧ w.run fun t => EndR K x σ fs H D (out t)
structure SF (X : Cx) (K : PySem.W.Frag) (x : Bool) (fs : FSt) (sts : List Stmt) {T : Type} (w : W T) (out : T → End) : Prop where p : PSs X sts (fS K x fs w out)
section
variable {σ σ1 : L2.St} {fs fs1 : FSt} {H H1 : Hp} {D : Ends} {x : Bool}
theorem FreshO.go {a : Addr} (g : GoF σ fs H σ1 fs1 H1) (s : SRf K H σ fs) (s1 : SRf K H1 σ1 fs1) (h : FreshO σ1 fs1 H1 a) : FreshO σ fs H a := by
  rcases h with h | ⟨i, t, x, e1, e2, np, e3, e4⟩
  · exact .inl (g.there a h)
  · cases z : H a with
    | none => exact .inl z
    | some o =>
      by_cases c : Owns σ fs a
      · obtain ⟨j, t', y, c1, c2, c3, c4⟩ := c
        by_cases d : ∃ φ, t' = .pot φ
        · obtain ⟨φ, rfl⟩ := d
          rcases c4 with rfl | c4
          · rcases g.pk a φ ⟨j, c1, c3⟩ with ⟨k, k1, k2⟩ | ⟨n, _⟩
            · have := s1.nd i k t _ x a a e1 k1 e2 rfl e3 k2 e4 (.inl rfl)
              subst this
              rw [e1] at k1
              cases k1
              exact absurd rfl (np φ)
            · exact absurd ⟨i, t, x, e1, e2, e3, e4⟩ n
          · cases c4
        · exact .inr ⟨j, t', y, c1, c2, fun φ e => d ⟨φ, e⟩, c3, c4⟩
      · exact absurd ⟨i, t, x, e1, e2, e3, e4⟩ (g.keep a o z c).2
theorem EndR.go (g : GoF σ fs H σ1 fs1 H1) (s : SRf K H σ fs) (s1 : SRf K H1 σ1 fs1) {E : End} (h : EndR K x σ fs H D E) : EndR K x σ1 fs1 H1 D E := by
  cases E with
  | nx fs' => exact fun hx σ' H' g' s' => h hx σ' H' (g.trans g') s'
  | nc fs' => exact fun σ' H' g' s' => h σ' H' (g.trans g') s'
  | bk fs' => exact fun σ' H' g' s' => h σ' H' (g.trans g') s'
  | ct fs' => exact fun σ' H' g' s' => h σ' H' (g.trans g') s'
  | rt v => exact fun u σ' fs' H' g' s' r => h u σ' fs' H' (g.trans g') s' r
  | ro v a l => exact fun u σ' fs' H' g' s' o r => h u σ' fs' H' (g.trans g') s' o r
  | rl l => exact fun a ws σ' fs' H' g' s' f e r => h a ws σ' fs' H' (g.trans g') s' (f.go g s s1) e r
theorem EndR.exit {D' : Ends} (h1 : D'.rt = D.rt) (h2 : D'.ct = D.ct) (h3 : D'.bk = D.bk) {E : End} (h : EndR K x σ fs H D E) : EndR K true σ fs H D' E := by
  cases E with
  | nx fs' => exact fun hx => nomatch hx
  | nc fs' => exact fun σ' H' g' s' => ⟨fun hx => (nomatch hx), h2 ▸ (h σ' H' g' s').2⟩
  | bk fs' => exact fun σ' H' g' s' => h3 ▸ h σ' H' g' s'
  | ct fs' => exact fun σ' H' g' s' => h2 ▸ h σ' H' g' s'
  | rt v => exact fun u σ' fs' H' g' s' r => h1 ▸ h u σ' fs' H' g' s' r
  | ro v a l => exact fun u σ' fs' H' g' s' o r => h1 ▸ h u σ' fs' H' g' s' o r
  | rl l => exact fun a ws σ' fs' H' g' s' f e r => h1 ▸ h a ws σ' fs' H' g' s' f e r
end
section
variable {X : Cx} {a b c e o : Expr} {pos p p2 : Pos} {fs fs' : FSt} {st : Stmt} {sts rest sa sb : List Stmt} {T T1 : Type} {w wk : W T} {out : T → End} {we wa wb : W PV} {wl : W (List PV)} {x : Bool}
def End.isOut : End → Prop
  | .rt _ => True
  | .rl _ => True
  | .ro _ _ _ => True
  | _ => False
theorem EndR.outw {σ : L2.St} {H : Hp} {D D' : Ends} {y : Bool} {E : End} (ho : E.isOut) (e : D'.rt = D.rt) (h : EndR K x σ fs H D E) : EndR K y σ fs H D' E := by
  cases E with
  | rt v => exact fun u σ' fs' H' g s r => e ▸ h u σ' fs' H' g s r
  | rl v => exact fun a ws σ' fs' H' g s f ea r => e ▸ h a ws σ' fs' H' g s f ea r
  | ro v a l => exact fun u σ' fs' H' g s o r => e ▸ h u σ' fs' H' g s o r
  | _ => exact ho.elim
def uRest (X : Cx) (K : PySem.W.Frag) (x : Bool) (rest : List Stmt) {T : Type} (out : T → End) : TS := fun D σ H => ∃ fs' w', SF X K x fs' rest w' out ∧ fS K x fs' w' out D σ H
theorem rest_ok : PSs X rest (uRest X K x rest out) := fun pins s σ H D I ⟨fs', w', h, q⟩ => h.p pins s σ H D I q
theorem never_ok : PSs X rest tNever := fun _ _ _ _ _ _ h => h.elim
theorem SF.step {t : TS} (h : PS X st t) (hq : ∀ D σ H, fS K x fs w out D σ H → t { D with nx := uRest X K x rest out D } σ H) : SF X K x fs (st :: rest) w out := ⟨PSs.imp (pss_cons h rest_ok) fun D σ H q => hq D σ H q⟩
theorem SF.last {t : TS} (h : PS X st t) (hq : ∀ D σ H, fS K x fs w out D σ H → t { D with nx := fun _ _ => False } σ H) : SF X K x fs (st :: rest) w out := ⟨PSs.imp (pss_cons h never_ok) fun D σ H q => hq D σ H q⟩
theorem SF.nil {t : T} (h : out t = .nx fs') (hl : LeF fs fs') : SF X K false fs [] (.ret t) out := ⟨PSs.imp pss_nil fun D σ H ⟨sr, q⟩ => by
  have q : EndR K false σ fs H D (out t) := q
  rw [h] at q
  exact q rfl σ H (GoF.le sr hl) (sr.le hl)⟩
theorem SF.nilC {t : T} (h : out t = .nc fs') (hl : LeF fs fs') : SF X K false fs [] (.ret t) out := ⟨PSs.imp pss_nil fun D σ H ⟨sr, q⟩ => by
  have q : EndR K false σ fs H D (out t) := q
  rw [h] at q
  exact (q σ H (GoF.le sr hl) (sr.le hl)).1 rfl⟩
theorem SF.cont {t : T} (h : out t = .nc fs' ∨ out t = .ct fs') (hl : LeF fs fs') : SF X K x fs (.Continue pos :: rest) (.ret t) out := SF.last ps_continue fun D σ H ⟨sr, q⟩ => by
  have q : EndR K x σ fs H D (out t) := q
  rcases h with h | h
  · rw [h] at q
    exact (q σ H (GoF.le sr hl) (sr.le hl)).2
  · rw [h] at q
    exact q σ H (GoF.le sr hl) (sr.le hl)
theorem SF.ret {k : PV → T} (he : EF X K fs e we) (h : ∀ v, out (k v) = .rt v) : SF X K x fs (.Return (some e) pos :: rest) (.bind we fun v => .ret (k v)) out := SF.last (ps_ret he.p) fun D σ H ⟨sr, q⟩ => ⟨sr, we.mono (fun v q1 u H1 g1 s1 v1 => by
  have q1 : EndR K x σ fs H D (out (k v)) := q1
  rw [h] at q1
  exact q1 u σ fs H1 g1.f s1 v1) q⟩
theorem SF.retV {out : PV → End} (he : EF X K fs e we) (h : ∀ v, out v = .rt v) : SF X K x fs (.Return (some e) pos :: rest) we out := SF.ret (k := fun v => v) he h
theorem SF.retL {k : List PV → T} (he : LF X K fs e wl) (h : ∀ l, out (k l) = .rl l) : SF X K x fs (.Return (some e) pos :: rest) (.bind wl fun l => .ret (k l)) out := SF.last (ps_ret he.p) fun D σ H ⟨sr, q⟩ => ⟨sr, wl.mono (fun l q1 a ws H1 g1 s1 n e v1 => by
  have q1 : EndR K x σ fs H D (out (k l)) := q1
  rw [h] at q1
  exact q1 a ws σ fs H1 g1.f s1 (.inl n) e v1) q⟩
theorem SF.retLV {out : List PV → End} (he : LF X K fs e wl) (h : ∀ v, out v = .rl v) : SF X K x fs (.Return (some e) pos :: rest) wl out := SF.retL (k := fun v => v) he h
theorem SF.retO (i : Nat) {y : Str} {q0 : Option Addr} {l : List PV} {t : T} (hs : fs[i]? = some (some (.ol q0 l))) (h : out t = .rl l) (hN : X.N[i]? = some y := by rfl) (hv : Vis X.env.scope y := by first | exact Or.inl rfl | exact Or.inr (Or.inl rfl) | exact Or.inr (Or.inr rfl)) (hd : (y == ("__debug__" : Str)) = false := by decide) (hcd : (y == ("__classdict__" : Str)) = false := by decide) : SF X K x fs (.Return (some (.Name y p)) pos :: rest) (.ret t) out := SF.last (ps_ret (pe_var hN hv hd hcd)) fun D σ H ⟨sr, q⟩ => by
  have q : EndR K x σ fs H D (out t) := q
  rw [h] at q
  obtain ⟨u, e1, r⟩ := sr.at' i _ hs
  rcases r with ⟨v, e, _⟩ | ⟨a, e, r⟩
  · cases e
  · subst e
    obtain ⟨_, ws, q1, q2⟩ := r
    exact ⟨_, e1, q a ws σ fs H .refl sr (.inr ⟨i, _, _, hs, rfl, by simp, e1, .inl rfl⟩) q1 q2⟩
theorem SF.retI (i : Nat) {ad : Addr} {l : List PV} {k : PV → T} (hs : fs[i]? = some (some (.ol (some ad) l))) (he : EF X K fs e we) (h : ∀ v, out (k v) = .ro v ad l) : SF X K x fs (.Return (some e) pos :: rest) (.bind we fun v => .ret (k v)) out := SF.last (ps_ret he.p) fun D σ H ⟨sr, q⟩ => ⟨sr, we.mono (fun v q1 u H1 g1 s1 v1 => by
  have q1 : EndR K x σ fs H D (out (k v)) := q1
  rw [h] at q1
  exact q1 u σ fs H1 g1.f s1 ⟨i, hs⟩ v1) q⟩
theorem SF.expr {k : PV → W T} (he : EF X K fs e we) (hr : ∀ v, SF X K x fs rest (k v) out) (hs : swapsWith e none pos.line X.env = pure false := by rfl) : SF X K x fs (.Expr e pos :: rest) (.bind we k) out := SF.step (ps_expr he.p hs) fun D σ H ⟨sr, q⟩ =>
  ⟨sr, we.mono (fun v q1 u H1 g1 s1 v1 => ⟨fs, k v, hr v, s1, (k v).mono (fun t q2 => q2.go g1.f sr s1) q1⟩) q⟩
theorem SF.set {i : Nat} {y : Str} {p' : Pos} {k : PV → W T} (hN : X.N.Nodup) (hi : X.N[i]? = some y) (hx : Loc X.env.scope y) (he : EF X K fs e we) (hr : ∀ v, SF X K x (fs.set i (some (.val v))) rest (k v) out) (hs : swapsWith e (some (.Name y p')) pos.line X.env = pure false := by rfl)
    (hf : X.fn y = true ∨ X.env.scope.names.lookup y = some .local := by first | exact .inl rfl | exact .inr rfl | assumption) : SF X K x fs (.Assign [.Name y p'] e pos :: rest) (.bind we k) out := SF.step (ps_set hN hi hx he.p hs hf) fun D σ H ⟨sr, q⟩ =>
  ⟨sr, we.mono (fun v q1 u H1 g1 s1 v1 => ⟨_, k v, hr v, s1.putV v1 i, (k v).mono (fun t q2 => q2.go (g1.f.trans (GoF.putV s1 u v i)) sr (s1.putV v1 i)) q1⟩) q⟩
theorem SF.setL {i : Nat} {y : Str} {p' : Pos} {k : List PV → W T} (hN : X.N.Nodup) (hi : X.N[i]? = some y) (hx : Loc X.env.scope y) (he : LF X K fs e wl) (hr : ∀ l, SF X K x (fs.set i (some (.ol none l))) rest (k l) out) (hs : swapsWith e (some (.Name y p')) pos.line X.env = pure false := by rfl)
    (hf : X.fn y = true ∨ X.env.scope.names.lookup y = some .local := by first | exact .inl rfl | exact .inr rfl | assumption) : SF X K x fs (.Assign [.Name y p'] e pos :: rest) (.bind wl k) out := SF.step (ps_set hN hi hx he.p hs hf) fun D σ H ⟨sr, q⟩ => by
  refine ⟨sr, wl.mono (fun l q1 a ws H1 g1 s1 n e v1 => ?_) q⟩
  have no := sr.noOwn n
  have s2 := s1.putO (t := .ol none l) ⟨by simp, ws, e, v1⟩ no i
  exact ⟨_, k l, hr l, s2, (k l).mono (fun t q2 => q2.go (GoF.putO s1 g1.f no n i) sr s2) q1⟩
theorem SF.frz (i : Nat) {t : SL} (hs : fs[i]? = some (some t)) (hr : SF X K x (fs.set i (some (.val t.bv))) sts w out) (hb : t.bw = true := by rfl) : SF X K x fs sts w out := ⟨fun pins s σ H D I ⟨sr, q⟩ => by
  obtain ⟨u, e1, r⟩ := sr.at' i _ hs
  have ho := SL.bw_own hb
  rcases r with ⟨v, e, _⟩ | ⟨a, e, oa⟩
  · subst e; cases hb
  · subst e
    obtain ⟨ob, o, h1, n1, n2, I2, vr⟩ := frzO I oa hb
    have ow : ∀ b, Owns σ (fs.set i (some (.val t.bv))) b → Owns σ fs b := fun b z => by
      obtain ⟨j, t, x, z1, z2, z3, z4⟩ := z
      rcases set_get z1 with ⟨rfl, rfl⟩ | ⟨n, z1⟩
      · cases z2
      · exact ⟨j, t, x, z1, z2, z3, z4⟩
    have s2 := sr.frzd hs ho e1 h1 n1 n2 vr
    have g2 : GoF σ fs H σ (fs.set i (some (.val t.bv))) (upd H a (.frz ob o)) := by
      refine ⟨fun b o z n => ⟨?_, fun y => n (ow b y)⟩, fun b z => ?_, fun b φ z => ?_⟩
      · intro _; rw [upd_ne (fun y => by subst y; exact n ⟨i, _, _, hs, ho, e1, .inl rfl⟩)]; exact z
      · by_cases c : b = a
        · subst c; rw [upd_same] at z; cases z
        · rw [upd_ne c] at z; exact z
      · obtain ⟨j, z1, z2⟩ := z
        have : j ≠ i := fun y => by subst y; rw [hs] at z1; cases z1; cases hb
        exact .inl ⟨j, by rw [get_set_other this]; exact z1, z2⟩
    exact hr.p pins s σ _ D I2 ⟨s2, w.mono (fun t q3 => q3.go g2 sr s2) q⟩⟩
variable {tc : W Bool}
theorem SF.ifT (hc : TF X K fs c tc) (ha : SF X K x fs sa w out) (hb : SF X K x fs sb wk out) : SF X K x fs [.If c sa sb pos] (.bind tc fun b => if b = true then w else wk) out := ⟨PSs.imp (pss_one (ps_if hc.p ha.p hb.p)) fun D σ H ⟨sr, q⟩ => ⟨sr, tc.mono (fun k q1 H1 g1 s1 => by
  cases k with
  | true => exact iteT ⟨s1, w.mono (fun t q2 => q2.go g1.f sr s1) q1⟩
  | false => exact iteF ⟨s1, wk.mono (fun t q2 => q2.go g1.f sr s1) q1⟩) q⟩⟩
theorem SF.ifR (hc : TF X K fs c tc) (ha : SF X K true fs sa w out) (hb : SF X K x fs rest wk out) : SF X K x fs (.If c sa [] pos :: rest) (.bind tc fun b => if b = true then w else wk) out := SF.step (ps_if hc.p ha.p pss_nil) fun D σ H ⟨sr, q⟩ => ⟨sr, tc.mono (fun k q1 H1 g1 s1 => by
  cases k with
  | true => exact iteT ⟨s1, w.mono (fun t q2 => EndR.exit (D := D) (D' := { D with nx := uRest X K x rest out D }) rfl rfl rfl (q2.go g1.f sr s1)) q1⟩
  | false => exact iteF ⟨fs, wk, hb, s1, wk.mono (fun t q2 => q2.go g1.f sr s1) q1⟩) q⟩
variable {w1 w2 : W T1} {out1 : T1 → End} {k : T1 → W T}
end
end FL
set_option Elab.async false
set_option linter.all false
set_option maxRecDepth 100000
namespace FL
open PySem PySem.Spec PyProof.Rows L2 PL
variable [TabC]
variable {K : PySem.W.Frag}
def JF (K : PySem.W.Frag) (H : Hp) (J : It) (l : List PV) : Prop := l.length ≤ sizeLine ∧ ∀ H', TupsK K H H' → (∀ (i : Nat) (p : PV), l[i]? = some p → J.go i H' ∧ ∀ x H2, J.yld i H' x H2 → Same H' H2 ∧ VR K [] H2 x p) ∧ J.stop l.length H'
theorem JF.tk {H H' : Hp} {J : It} {l : List PV} (t : TupsK K H H') (h : JF K H J l) : JF K H' J l := ⟨h.1, fun H2 t2 => h.2 H2 (TupsK.trans t t2)⟩
def fIt (K : PySem.W.Frag) (fs : FSt) (w : W (List PV)) : TI := fun σ H R => SRf K H σ fs ∧ w.run fun l => ∀ J H', GoE σ fs H H' → SRf K H' σ fs → JF K H' J l → R J H'
structure ITF (X : Cx) (K : PySem.W.Frag) (fs : FSt) (tg e : Expr) (w : W (List PV)) : Prop where p : PI X tg e (fIt K fs w)
section
variable {X : Cx} {a b c e tg : Expr} {pos p p1 p2 : Pos} {fs : FSt} {w wa wb wc : W PV} {wl : W (List PV)}
theorem JF_list {H : Hp} {ad : Addr} {vs : List V} {l : List PV} (h : FzL K H ad vs) (r : VRs K [] H vs l) (hz : l.length ≤ sizeLine) : JF K H (Itl K ad) l := ⟨hz, fun H' t => by
  have e1 := (t.f _ _ h).sq
  have e2 := VRs.tk t r
  refine ⟨fun i p hp => ?_, vs, e1, by rw [e2.length]; exact Nat.le_refl _⟩
  obtain ⟨v, h3, h4⟩ := e2.get hp
  refine ⟨⟨vs, v, e1, h3⟩, fun x H3 y => ?_⟩
  obtain ⟨rfl, y⟩ := y
  have := y vs e1
  rw [h3] at this
  cases this
  exact ⟨Same.refl _, h4⟩⟩
theorem JF_tup {H : Hp} {ad : Addr} {vs : List V} {l : List PV} (h : H ad = some (.tup vs)) (r : VRs K [] H vs l) (hz : l.length ≤ sizeLine) : JF K H (Itt K ad) l := ⟨hz, fun H' t => by
  have e1 := SqT.of (K := K) (t.t _ _ h)
  have e2 := VRs.tk t r
  refine ⟨fun i p hp => ?_, vs, e1, by rw [e2.length]; exact Nat.le_refl _⟩
  obtain ⟨v, h3, h4⟩ := e2.get hp
  refine ⟨⟨vs, v, e1, h3⟩, fun x H3 y => ?_⟩
  obtain ⟨rfl, y⟩ := y
  have := y vs e1
  rw [h3] at this
  cases this
  exact ⟨Same.refl _, h4⟩⟩
theorem it_seq (hK : X.K = K) (h : IF X K fs e wl) : ITF X K fs tg e wl := ⟨by
  subst hK
  intro pins s σ H R I ⟨sr, q⟩
  refine thn (h.p pins s σ H (fun u H1 => ∃ l, SqI X.K H1 u l ∧ ∀ J, JF X.K H1 J l → R J H1) I ⟨sr, wl.mono (fun l q1 u H1 g1 s1 v1 => ⟨l, v1, fun J j => q1 J H1 g1 s1 j⟩) q⟩) fun v s1 ⟨x, H1, I1, r1, l, ⟨ad, vs, e, hh, rs⟩, q1⟩ => ?_
  subst e
  cases r1
  rcases hh with hh | hh
  · obtain ⟨its, rv, pl, hz⟩ := I1.list hh.sq
    refine wpAny_pyIter_list pl.isList ?_
    refine ⟨s1.heap.objs.size, [s1.heap.objs.size], _, _, H1, rfl, I1.kept (t' := s1.toks) fun b o e => Heap.get?_push_of_some _ e, turn_list ad _, ⟨_, Heap.get?_push_size _ rfl, rfl, rfl⟩, fun b hb => ?_, q1 _ (JF_list hh rs (by rw [← rs.length]; exact hz))⟩
    have e : b = s1.heap.objs.size := by simpa using hb
    subst e
    exact I1.fpOk (Nat.le_refl _) (I1.hok.fresh (Nat.le_refl _))
  · obtain ⟨its, rv, pl, hz⟩ := I1.tuple (SqT.of hh)
    refine wpAny_pyIter_tuple (show s1.heap.IsTuple ad its.toArray from pl) ?_
    refine ⟨s1.heap.objs.size, [s1.heap.objs.size], _, _, H1, rfl, I1.kept (t' := s1.toks) fun b o e => Heap.get?_push_of_some _ e, turn_tuple ad _, ⟨_, Heap.get?_push_size _ rfl, rfl, rfl⟩, fun b hb => ?_, q1 _ (JF_tup hh rs (by rw [← rs.length]; exact hz))⟩
    have e : b = s1.heap.objs.size := by simpa using hb
    subst e
    exact I1.fpOk (Nat.le_refl _) (I1.hok.fresh (Nat.le_refl _))⟩
def okN (i j : Int) : Prop := -(2 ^ 62) ≤ i ∧ i < 2 ^ 62 ∧ -(2 ^ 62) ≤ j ∧ j < 2 ^ 62 ∧ (j - i).toNat ≤ sizeLine
def rng1W : PV → W (List PV)
  | .int j => .chk (okN 0 j) (.ret (intsV 0 j.toNat))
  | _ => .fail
theorem JF_int {H : Hp} (lo : Int) (n : Nat) (hz : n ≤ sizeLine) : JF K H (Itr lo n) (intsV lo n) := ⟨by rw [intsV_len]; exact hz, fun H' t => ⟨fun i p hp => by
    obtain ⟨h1, rfl⟩ := intsV_get hp
    refine ⟨h1, fun x H2 y => ?_⟩
    obtain ⟨rfl, rfl⟩ := y
    exact ⟨Same.refl _, .int _⟩, by show n ≤ (intsV lo n).length; rw [intsV_len]; exact Nat.le_refl _⟩⟩
theorem it_rng1 (hg : Gl X "range") (hm : X.mg "range" = none) (ha : EF X K fs a wa) (hs : starEach [a] X.env = [(false, eval a X.env)] := by rfl) : ITF X K fs tg (.Call (.Name "range" p) [a] [] pos) (.bind wa rng1W) :=
  ⟨PI.imp (pi_range1 hg hm (pa_cons ha.p pa_nil hs) hs) fun σ H R ⟨sr, q⟩ => ⟨sr, wa.mono (fun x q1 u1 H1 g1 s1 v1 => by
    cases v1 with
    | int j => exact ⟨_, rfl, q1.1.2.2.1, q1.1.2.2.2.1, q1.2 _ H1 g1 s1 (JF_int _ _ (by have := q1.1.2.2.2.2; omega))⟩
    | _ => exact q1.elim) q⟩⟩
def signsW : PV → W (List PV)
  | .str z => .chk (z.cps.size ≤ sizeLine) (.ret (z.cps.toList.map fun c => .str ⟨#[c]⟩))
  | _ => .fail
theorem it_str (h : EF X K fs e w) : ITF X K fs tg e (.bind w signsW) := ⟨PI.imp (pi_str h.p) fun σ H R ⟨sr, q⟩ => ⟨sr, w.mono (fun x q1 u1 H1 g1 s1 v1 => by
  cases v1 with
  | str z =>
    refine ⟨z, rfl, q1.2 _ H1 g1 s1 ⟨by simpa using q1.1, fun H' t => ⟨fun i p hp => ?_, ?_⟩⟩⟩
    · rw [List.getElem?_map] at hp
      cases e : z.cps.toList[i]? with
      | none => rw [e] at hp; cases hp
      | some c =>
        rw [e] at hp
        have ep := (Option.some.inj hp).symm
        subst ep
        have hi := (List.getElem?_eq_some_iff.mp e).1
        have hi' : i < z.cps.size := by simpa using hi
        refine ⟨hi', fun x H2 y => ?_⟩
        obtain ⟨rfl, d, hd, rfl⟩ := y
        have : z.cps[i]? = some c := by simpa using e
        rw [this] at hd
        cases hd
        exact ⟨Same.refl _, .str _⟩
    · show z.cps.size ≤ _
      simp
  | _ => exact q1.elim) q⟩⟩
end
def setA : List Nat → List V → L2.St → L2.St
  | i :: is, u :: us, σ => setA is us (σ.set i (some u))
  | _, _, σ => σ
def fG (K : PySem.W.Frag) (fs : FSt) (is : List Nat) {T : Type} (wt : PV → W T) (fs2 : T → FSt) : TG := fun v σ H Q => ∃ p, SRf K H σ fs ∧ VR K [] H v p ∧ (wt p).run fun t => ∀ us, GoF σ fs H (setA is us σ) (fs2 t) H → SRf K H (setA is us σ) (fs2 t) → Q (setA is us σ) H
structure GF (X : Cx) (K : PySem.W.Frag) (fs : FSt) (tg : Expr) (is : List Nat) {T : Type} (wt : PV → W T) (fs2 : T → FSt) : Prop where p : PG X tg (fG K fs is wt fs2)
section
variable {X : Cx} {fs : FSt} {tg : Expr}
theorem g_1 {i : Nat} (h : PG X tg (gName i)) : GF X K fs tg [i] .ret (fun p => fs.set i (some (.val p))) := ⟨PG.imp h fun v σ H Q ⟨p, sr, r, q⟩ => q [v] (GoF.putV sr v p i) (sr.putV r i)⟩
end
section
variable {S T : Type}
def forW : List PV → S → (PV → S → W S) → W S
  | [], s, _ => .ret s
  | x :: r, s, f => .bind (f x s) fun s' => forW r s' f
inductive Lp (S T : Type) where
  | go (s : S) | out (t : T)
def forF : List PV → S → (PV → S → W (Lp S T)) → W (Lp S T)
  | [], s, _ => .ret (.go s)
  | x :: r, s, f => .bind (f x s) fun o => match o with
    | .go s' => forF r s' f
    | .out t => .ret (.out t)
def goW {R : Type} (k : S → W T) (inj : R → T) : Lp S R → W T
  | .go s => k s
  | .out r => .ret (inj r)
@[simp] theorem goW_go {R : Type} (k : S → W T) (inj : R → T) (s : S) : goW k inj (.go s) = k s := (rfl)
@[simp] theorem goW_out {R : Type} (k : S → W T) (inj : R → T) (r : R) : goW k inj (.out r) = .ret (inj r) := (rfl)
def lpE {R : Type} (hd : S → FSt) (out : R → End) : Lp S R → End
  | .go s => .nc (hd s)
  | .out r => out r
def whileN (c : S → W Bool) (b : S → W S) : Nat → S → W S
  | 0, _ => .fail
  | n + 1, s => .bind (c s) fun k => if k = true then .bind (b s) (whileN c b n) else .ret s
def whileW (c : S → W Bool) (b : S → W S) (s : S) : W S := ⟨fun Q => ∃ n, (whileN c b n s).run Q, fun h ⟨n, q⟩ => ⟨n, (whileN c b n s).mono h q⟩⟩
def whileFN (c : S → W Bool) (b : S → W (Lp S T)) : Nat → S → W (Lp S T)
  | 0, _ => .fail
  | n + 1, s => .bind (c s) fun k => if k = true then .bind (b s) (fun o => match o with
    | .go s' => whileFN c b n s'
    | .out t => .ret (.out t)) else .ret (.go s)
def whileF (c : S → W Bool) (b : S → W (Lp S T)) (s : S) : W (Lp S T) := ⟨fun Q => ∃ n, (whileFN c b n s).run Q, fun h ⟨n, q⟩ => ⟨n, (whileFN c b n s).mono h q⟩⟩
end
section
variable {X : Cx} {c iter tg : Expr} {body rest : List Stmt} {pos : Pos} {fs : FSt} {S T T2 : Type} {hd : S → FSt} {s0 : S} {wl : W (List PV)} {wt : PV → W T2} {is : List Nat} {fs2 : S → T2 → FSt} {k : S → W T} {out : T → End} {x : Bool} {R : Type} {inj : R → T}
theorem SF.for {f : PV → S → W S} {wb : T2 → S → W S} (hp : PassesOwn (model X.prog X.w) X.A X.env X.xe) (hc : X.calm = true) (hi : ITF X K fs tg iter wl) (hl : LeF fs (hd s0)) (hg : ∀ s, GF X K (hd s) tg is wt (fs2 s)) (hf : ∀ p s, f p s = .bind (wt p) fun t => wb t s)
    (hb : ∀ s t, SF X K false (fs2 s t) body (wb t s) fun s' => .nc (hd s')) (hr : ∀ s, SF X K x (hd s) rest (k s) out) (hs : ∀ x, foldedSetIterable iter X.env x = pure x := by intro _; rfl) :
    SF X K x fs (.For tg iter body [] pos :: rest) (.bind wl fun l => .bind (forW l s0 f) k) out := by
  refine SF.step (ps_for (g := fun v σ H Q => ∃ s, fG K (hd s) is wt (fs2 s) v σ H Q) (tb := fun D σ H => ∃ s t, fS K false (fs2 s t) (wb t s) (fun s' => .nc (hd s')) D σ H) hp hc hi.p (fun pins s σ H v u Q I r ⟨s1, q⟩ => (hg s1).p pins s σ H v u Q I r q) (fun pins s σ H D I ⟨s1, t1, q⟩ => (hb s1 t1).p pins s σ H D I q) hs) fun D σ H ⟨sr, q⟩ => ?_
  refine ⟨sr, wl.mono (fun l q1 J H1 g1 s1 jf => ?_) q⟩
  refine ⟨fun i m σ' H' => ∃ s, SRf K H' σ' (hd s) ∧ GoF σ fs H σ' (hd s) H' ∧ JF K H' J l ∧ m = l.length - i ∧ i ≤ l.length ∧ (forW (l.drop i) s f).run fun s' => (k s').run fun t => EndR K x σ fs H D (out t), ⟨l.length, s0, s1.le hl, g1.f.trans (GoF.le s1 hl), jf, by simp, Nat.zero_le _, by simpa using q1⟩, ?_⟩
  rintro i m σ2 H2 ⟨s, s2, g2, jf2, rfl, hi, q2⟩
  obtain ⟨j1, j2⟩ := jf2.2 H2 (TupsK.refl H2)
  by_cases hlt : i < l.length
  · obtain ⟨go, yl⟩ := j1 i _ (List.getElem?_eq_getElem hlt)
    have ed := List.drop_eq_getElem_cons hlt
    rw [ed] at q2
    refine .inr ⟨go, fun σ3 H3 => ∃ s', SRf K H3 σ3 (hd s') ∧ GoF σ fs H σ3 (hd s') H3 ∧ JF K H3 J l ∧ (forW (l.drop (i + 1)) s' f).run fun s' => (k s').run fun t => EndR K x σ fs H D (out t), fun σ3 H3 ⟨s', a1, a2, a3, a4⟩ => ⟨l.length - (i + 1), by omega, s', a1, a2, a3, rfl, hlt, a4⟩, fun v H3 y => ?_⟩
    obtain ⟨sm, vx⟩ := yl v H3 y
    have q2 : (f l[i] s).run fun s' => (forW (l.drop (i + 1)) s' f).run fun s' => (k s').run fun t => EndR K x σ fs H D (out t) := q2
    rw [hf] at q2
    have s3 := s2.same sm
    have g3 := g2.trans (GoF.same sm s2)
    refine ⟨s, _, s3, vx, (wt l[i]).mono (fun t q4 us g4 s4 => ?_) q2⟩
    refine ⟨s, t, s4, (wb t s).mono (fun s' q5 σ5 H5 g5 s5 => ?_) q4⟩
    have fin : ∃ s', SRf K H5 σ5 (hd s') ∧ GoF σ fs H σ5 (hd s') H5 ∧ JF K H5 J l ∧ (forW (l.drop (i + 1)) s' f).run fun s' => (k s').run fun t => EndR K x σ fs H D (out t) := ⟨s', s5, (g3.trans g4).trans g5, jf2.tk (TupsK.trans sm.tupsK (TupsK.trans (g4.tups s3) (g5.tups s4))), q5⟩
    exact ⟨fun _ => fin, fin⟩
  · have e : i = l.length := by omega
    subst e
    rw [List.drop_length] at q2
    exact .inl ⟨j2, hd s, k s, hr s, s2, (k s).mono (fun t q3 => q3.go g2 sr s2) q2⟩
theorem SF.forF {f : PV → S → W (Lp S R)} {wb : T2 → S → W (Lp S R)} (hp : PassesOwn (model X.prog X.w) X.A X.env X.xe) (hc : X.calm = true) (hi : ITF X K fs tg iter wl) (hl : LeF fs (hd s0)) (hg : ∀ s, GF X K (hd s) tg is wt (fs2 s)) (hf : ∀ p s, f p s = .bind (wt p) fun t => wb t s)
    (ho : ∀ t, (out (inj t)).isOut)
    (hb : ∀ s t, SF X K false (fs2 s t) body (wb t s) (lpE hd fun r => out (inj r))) (hr : ∀ s, SF X K x (hd s) rest (k s) out) (hs : ∀ x, foldedSetIterable iter X.env x = pure x := by intro _; rfl) :
    SF X K x fs (.For tg iter body [] pos :: rest) (.bind wl fun l => .bind (FL.forF l s0 f) (goW k inj)) out := by
  refine SF.step (ps_for (g := fun v σ H Q => ∃ s, fG K (hd s) is wt (fs2 s) v σ H Q) (tb := fun D σ H => ∃ s t, fS K false (fs2 s t) (wb t s) (lpE hd fun r => out (inj r)) D σ H) hp hc hi.p (fun pins s σ H v u Q I r ⟨s1, q⟩ => (hg s1).p pins s σ H v u Q I r q) (fun pins s σ H D I ⟨s1, t1, q⟩ => (hb s1 t1).p pins s σ H D I q) hs) fun D σ H ⟨sr, q⟩ => ?_
  refine ⟨sr, wl.mono (fun l q1 J H1 g1 s1 jf => ?_) q⟩
  have lo : ∀ (D' : Ends) (y : Bool) (t : R), D'.rt = D.rt → EndR K x σ fs H D (out (inj t)) → EndR K y σ fs H D' (out (inj t)) := fun D' y t e h => EndR.outw (ho t) e h
  refine ⟨fun i m σ' H' => ∃ s, SRf K H' σ' (hd s) ∧ GoF σ fs H σ' (hd s) H' ∧ JF K H' J l ∧ m = l.length - i ∧ i ≤ l.length ∧ (FL.forF (l.drop i) s f).run fun o => (goW k inj o).run fun t => EndR K x σ fs H D (out t), ⟨l.length, s0, s1.le hl, g1.f.trans (GoF.le s1 hl), jf, by simp, Nat.zero_le _, by simpa using q1⟩, ?_⟩
  rintro i m σ2 H2 ⟨s, s2, g2, jf2, rfl, hi, q2⟩
  obtain ⟨j1, j2⟩ := jf2.2 H2 (TupsK.refl H2)
  by_cases hlt : i < l.length
  · obtain ⟨go, yl⟩ := j1 i _ (List.getElem?_eq_getElem hlt)
    have ed := List.drop_eq_getElem_cons hlt
    rw [ed] at q2
    refine .inr ⟨go, fun σ3 H3 => ∃ s', SRf K H3 σ3 (hd s') ∧ GoF σ fs H σ3 (hd s') H3 ∧ JF K H3 J l ∧ (FL.forF (l.drop (i + 1)) s' f).run fun o => (goW k inj o).run fun t => EndR K x σ fs H D (out t), fun σ3 H3 ⟨s', a1, a2, a3, a4⟩ => ⟨l.length - (i + 1), by omega, s', a1, a2, a3, rfl, hlt, a4⟩, fun v H3 y => ?_⟩
    obtain ⟨sm, vx⟩ := yl v H3 y
    have q2 : (f l[i] s).run fun o => (match o with | .go s' => FL.forF (l.drop (i + 1)) s' f | .out t => W.ret (.out t)).run fun o => (goW k inj o).run fun t => EndR K x σ fs H D (out t) := q2
    rw [hf] at q2
    have s3 := s2.same sm
    have g3 := g2.trans (GoF.same sm s2)
    refine ⟨s, _, s3, vx, (wt l[i]).mono (fun t q4 us g4 s4 => ?_) q2⟩
    refine ⟨s, t, s4, (wb t s).mono (fun o q5 => ?_) q4⟩
    cases o with
    | out t5 =>
      refine EndR.go (g3.trans g4) sr s4 (lo _ false t5 ?_ q5)
      rfl
    | go s' =>
      intro σ5 H5 g5 s5
      have fin : ∃ s', SRf K H5 σ5 (hd s') ∧ GoF σ fs H σ5 (hd s') H5 ∧ JF K H5 J l ∧ (FL.forF (l.drop (i + 1)) s' f).run fun o => (goW k inj o).run fun t => EndR K x σ fs H D (out t) := ⟨s', s5, (g3.trans g4).trans g5, jf2.tk (TupsK.trans sm.tupsK (TupsK.trans (g4.tups s3) (g5.tups s4))), q5⟩
      exact ⟨fun _ => fin, fin⟩
  · have e : i = l.length := by omega
    subst e
    rw [List.drop_length] at q2
    exact .inl ⟨j2, hd s, k s, hr s, s2, (k s).mono (fun t q3 => q3.go g2 sr s2) q2⟩
theorem SF.while {cw : S → W Bool} {b : S → W S} (hp : PassesOwn (model X.prog X.w) X.A X.env X.xe) (hl : LeF fs (hd s0)) (hc : ∀ s, TF X K (hd s) c (cw s)) (hb : ∀ s, SF X K false (hd s) body (b s) fun s' => .nc (hd s')) (hr : ∀ s, SF X K x (hd s) rest (k s) out) :
    SF X K x fs (.While c body [] pos :: rest) (.bind (whileW cw b s0) k) out := by
  refine SF.step (ps_while (tc := fun σ H Q => ∃ s, fT K (hd s) (cw s) σ H Q) (tb := fun D σ H => ∃ s, fS K false (hd s) (b s) (fun s' => .nc (hd s')) D σ H) hp (fun pins s σ H Q I ⟨s1, q⟩ => (hc s1).p pins s σ H Q I q) (fun pins s σ H D I ⟨s1, q⟩ => (hb s1).p pins s σ H D I q)) fun D σ H ⟨sr, n, q⟩ => ?_
  refine ⟨fun m σ' H' => ∃ s, SRf K H' σ' (hd s) ∧ GoF σ fs H σ' (hd s) H' ∧ (whileN cw b m s).run fun s' => (k s').run fun t => EndR K x σ fs H D (out t), ⟨n, s0, sr.le hl, GoF.le sr hl, q⟩, ?_⟩
  rintro m σ1 H1 ⟨s, s1, g1, q1⟩
  cases m with
  | zero => exact q1.elim
  | succ m =>
    refine ⟨s, s1, (cw s).mono (fun kk q2 H2 g2 s2 => ?_) q1⟩
    cases kk with
    | false =>
      refine iteF ?_
      exact ⟨hd s, k s, hr s, s2, (k s).mono (fun t q3 => q3.go (g1.trans g2.f) sr s2) q2⟩
    | true =>
      refine iteT ?_
      refine ⟨fun σ3 H3 => ∃ s, SRf K H3 σ3 (hd s) ∧ GoF σ fs H σ3 (hd s) H3 ∧ (whileN cw b m s).run fun s' => (k s').run fun t => EndR K x σ fs H D (out t), fun σ3 H3 a => ⟨m, Nat.lt_succ_self m, a⟩, s, s2, (b s).mono (fun s' q5 σ5 H5 g5 s5 => ?_) q2⟩
      have fin : ∃ s, SRf K H5 σ5 (hd s) ∧ GoF σ fs H σ5 (hd s) H5 ∧ (whileN cw b m s).run fun s' => (k s').run fun t => EndR K x σ fs H D (out t) := ⟨s', s5, (g1.trans g2.f).trans g5, q5⟩
      exact ⟨fun _ => fin, fin⟩
theorem SF.whileF {cw : S → W Bool} {b : S → W (Lp S R)} (hp : PassesOwn (model X.prog X.w) X.A X.env X.xe) (hl : LeF fs (hd s0)) (hc : ∀ s, TF X K (hd s) c (cw s)) (ho : ∀ t, (out (inj t)).isOut)
    (hb : ∀ s, SF X K false (hd s) body (b s) (lpE hd fun r => out (inj r))) (hr : ∀ s, SF X K x (hd s) rest (k s) out) :
    SF X K x fs (.While c body [] pos :: rest) (.bind (FL.whileF cw b s0) (goW k inj)) out := by
  refine SF.step (ps_while (tc := fun σ H Q => ∃ s, fT K (hd s) (cw s) σ H Q) (tb := fun D σ H => ∃ s, fS K false (hd s) (b s) (lpE hd fun r => out (inj r)) D σ H) hp (fun pins s σ H Q I ⟨s1, q⟩ => (hc s1).p pins s σ H Q I q) (fun pins s σ H D I ⟨s1, q⟩ => (hb s1).p pins s σ H D I q)) fun D σ H ⟨sr, n, q⟩ => ?_
  have lo : ∀ (D' : Ends) (y : Bool) (t : R), D'.rt = D.rt → EndR K x σ fs H D (out (inj t)) → EndR K y σ fs H D' (out (inj t)) := fun D' y t e h => EndR.outw (ho t) e h
  refine ⟨fun m σ' H' => ∃ s, SRf K H' σ' (hd s) ∧ GoF σ fs H σ' (hd s) H' ∧ (whileFN cw b m s).run fun o => (goW k inj o).run fun t => EndR K x σ fs H D (out t), ⟨n, s0, sr.le hl, GoF.le sr hl, q⟩, ?_⟩
  rintro m σ1 H1 ⟨s, s1, g1, q1⟩
  cases m with
  | zero => exact q1.elim
  | succ m =>
    refine ⟨s, s1, (cw s).mono (fun kk q2 H2 g2 s2 => ?_) q1⟩
    cases kk with
    | false =>
      refine iteF ?_
      exact ⟨hd s, k s, hr s, s2, (k s).mono (fun t q3 => q3.go (g1.trans g2.f) sr s2) q2⟩
    | true =>
      refine iteT ?_
      refine ⟨fun σ3 H3 => ∃ s, SRf K H3 σ3 (hd s) ∧ GoF σ fs H σ3 (hd s) H3 ∧ (whileFN cw b m s).run fun o => (goW k inj o).run fun t => EndR K x σ fs H D (out t), fun σ3 H3 a => ⟨m, Nat.lt_succ_self m, a⟩, s, s2, (b s).mono (fun o q5 => ?_) q2⟩
      cases o with
      | out t5 =>
        refine EndR.go (g1.trans g2.f) sr s2 (lo _ false t5 ?_ q5)
        rfl
      | go s' =>
        intro σ5 H5 g5 s5
        have fin : ∃ s, SRf K H5 σ5 (hd s) ∧ GoF σ fs H σ5 (hd s) H5 ∧ (whileFN cw b m s).run fun o => (goW k inj o).run fun t => EndR K x σ fs H D (out t) := ⟨s', s5, (g1.trans g2.f).trans g5, q5⟩
        exact ⟨fun _ => fin, fin⟩
end
end FL
set_option Elab.async false
set_option linter.all false
set_option maxRecDepth 100000
namespace FL
open PySem PySem.Spec PyProof.Rows L2 PL
variable [TabC]
variable {K : PySem.W.Frag}
def lcW : List PV → (PV → W (Option PV)) → W (List PV)
  | [], _ => .ret []
  | x :: r, f => .bind (f x) fun o => .bind (lcW r f) fun l => .ret (o.toList ++ l)
def mapW : List PV → (PV → W PV) → W (List PV)
  | [], _ => .ret []
  | x :: r, f => .bind (f x) fun y => .bind (mapW r f) fun l => .ret (y :: l)
theorem mapW_lc (f : PV → W PV) : ∀ l, mapW l f = lcW l fun p => .bind (f p) fun v => .ret (some v)
  | [] => rfl
  | x :: r => by
    show W.bind (f x) (fun y => W.bind (mapW r f) fun l => W.ret (y :: l)) = W.bind (f x) fun y => W.bind (lcW r _) fun l => W.ret (y :: l)
    rw [mapW_lc f r]
def blkF (ix : List (Option Nat)) (fs : FSt) : FSt := ix.map fun o => match o with | some j => (fs[j]?).getD none | none => none
section
variable {σ : L2.St} {fs : FSt} {H : Hp} {ix : List (Option Nat)}
theorem blkF_get {i : Nat} {s : SL} (h : (blkF ix fs)[i]? = some (some s)) : ∃ j, ix[i]? = some (some j) ∧ fs[j]? = some (some s) := by
  unfold blkF at h
  rw [List.getElem?_map] at h
  cases q : ix[i]? with
  | none => rw [q] at h; cases h
  | some o =>
    rw [q] at h
    cases o with
    | none => cases h
    | some j =>
      refine ⟨j, rfl, ?_⟩
      have h : (fs[j]?).getD none = some s := Option.some.inj h
      cases z : fs[j]? with
      | none => rw [z] at h; cases h
      | some y => rw [z] at h; exact congrArg some h
theorem blkSt_get {i j : Nat} {u : V} (h : ix[i]? = some (some j)) (e : σ[j]? = some (some u)) : (blkSt ix σ)[i]? = some (some u) := by
  unfold blkSt
  rw [List.getElem?_map, h]
  show some ((σ[j]?).getD none) = _
  rw [e]; rfl
theorem SRf.blk (s : SRf K H σ fs) (inj : ∀ i i' j : Nat, ix[i]? = some (some j) → ix[i']? = some (some j) → i = i') : SRf K H (blkSt ix σ) (blkF ix fs) := by
  refine ⟨by unfold blkSt blkF; simp, fun i t e => ?_, fun i i' t u x y a e1 e2 o1 o2 q1 q2 z1 z2 => ?_, s.tb⟩
  · obtain ⟨j, h1, h2⟩ := blkF_get e
    obtain ⟨u, h3, h4⟩ := s.at' j t h2
    exact ⟨u, blkSt_get h1 h3, h4⟩
  · obtain ⟨j, h1, h2⟩ := blkF_get e1
    obtain ⟨j', h1', h2'⟩ := blkF_get e2
    obtain ⟨u1, h3, _⟩ := s.at' j t h2
    obtain ⟨u2, h3', _⟩ := s.at' j' u h2'
    rw [blkSt_get h1 h3] at q1
    rw [blkSt_get h1' h3'] at q2
    cases q1
    cases q2
    have := s.nd j j' t u x y a h2 h2' o1 o2 h3 h3' z1 z2
    subst this
    exact inj i i' j h1 h1'
structure Inn (ix : List (Option Nat)) (σ : L2.St) (fs : FSt) (σ' : L2.St) (fs' : FSt) : Prop where
  own : ∀ (i : Nat) (t : SL), fs'[i]? = some (some t) → t.own = true → ∃ j, ix[i]? = some (some j) ∧ fs[j]? = some (some t) ∧ σ'[i]? = σ[j]?
theorem Inn.owns {σ' : L2.St} {fs' : FSt} (h : Inn ix σ fs σ' fs') {a : Addr} (o : Owns σ' fs' a) : Owns σ fs a := by
  obtain ⟨i, t, x, e1, e2, e3, e4⟩ := o
  obtain ⟨j, h1, h2, h3⟩ := h.own i t e1 e2
  exact ⟨j, t, x, h2, e2, h3 ▸ e3, e4⟩
theorem Inn.pot {σ' : L2.St} {fs' : FSt} (h : Inn ix σ fs σ' fs') {φ : List V → Prop} {a : Addr} (o : PotOf σ' fs' φ a) : PotOf σ fs φ a := by
  obtain ⟨i, e1, e3⟩ := o
  obtain ⟨j, h1, h2, h3⟩ := h.own i _ e1 rfl
  exact ⟨j, h2, h3 ▸ e3⟩
theorem Inn.out {σ' : L2.St} {fs' : FSt} {H1 H2 : Hp} (h : Inn ix σ fs σ' fs') (s : SRf K H1 σ fs) (g : GoE σ' fs' H1 H2) (s2 : SRf K H2 σ' fs') : SRf K H2 σ fs ∧ GoE σ fs H1 H2 := by
  have gf : GoE σ fs H1 H2 := ⟨fun a o e n t => g.keep a o e (fun φ z => n φ (h.pot z)) t, g.there⟩
  refine ⟨⟨s.len, fun j t e => ?_, s.nd, s2.tb⟩, gf⟩
  obtain ⟨u, h1, h2⟩ := s.at' j t e
  refine ⟨u, h1, ?_⟩
  have tk := gf.tups s
  rcases h2 with ⟨v, q, r⟩ | ⟨a, q, r⟩
  · exact .inl ⟨v, q, VR.tk tk r⟩
  · subst q
    refine .inr ⟨a, rfl, ?_⟩
    by_cases c : ∃ b, t.own = true ∧ t.has a b ∧ Owns σ' fs' b
    · obtain ⟨b, ow, hb, i, t', x, c1, c2, c3, c4⟩ := c
      obtain ⟨j', k1, k2, k3⟩ := h.own i t' c1 c2
      have jj := s.nd j j' t t' a x b e k2 ow c2 h1 (k3 ▸ c3) hb c4
      subst jj
      rw [e] at k2
      cases k2
      exact s2.ownAt c1 c2 (k3.trans h1)
    · exact r.mono tk (fun b o ow hb z nt => g.keepN z (fun y => c ⟨b, ow, hb, y⟩) nt)
theorem setA_other : ∀ {is : List Nat} {us : List V} {σ : L2.St} {i : Nat}, i ∉ is → (setA is us σ)[i]? = σ[i]?
  | [], us, σ, i, _ => by cases us <;> rfl
  | j :: is, [], σ, i, _ => rfl
  | j :: is, u :: us, σ, i, h => by
    rw [setA, setA_other (fun z => h (List.mem_cons_of_mem _ z))]
    exact get_set_other (fun z => h (by rw [z]; exact List.mem_cons_self))
end
section
variable {X : Cx} {elt tg iter : Expr} {ifs : List Expr} {sc : Scope} {N' : List Str} {ix : List (Option Nat)} {pos : Pos} {fs : FSt} {wl : W (List PV)} {T2 : Type} {wt : PV → W T2} {is : List Nat} {fsb : FSt} {fs2 : T2 → FSt} {tf : T2 → W Bool} {te : T2 → W PV} {f : PV → W (Option PV)}
structure FF (X : Cx) (K : PySem.W.Frag) (fs : FSt) (ifs : List Expr) (w : W Bool) : Prop where p : PFs X ifs (fT K fs w)
theorem ff_nil : FF X K fs [] (.ret true) := ⟨fun pins s σ H Q I ⟨sr, q⟩ => pfs_nil pins s σ H Q I (q H .refl sr)⟩
theorem ff_one {c : Expr} {w : W Bool} (h : TF X K fs c w) : FF X K fs [c] w := ⟨pfs_one h.p⟩
def Lay2 (is : List Nat) (fsb : FSt) (fs2 : T2 → FSt) : Prop := ∀ t, (fs2 t).length = fsb.length ∧ ∀ (i : Nat) (s : SL), (fs2 t)[i]? = some (some s) → (i ∈ is ∧ s.own = false) ∨ (i ∉ is ∧ fsb[i]? = some (some s))
theorem fL_lc (S : LcScope X.env.scope X.N sc N' ix) (hb : fsb = blkF ix fs) (hf : ∀ p, f p = .bind (wt p) fun t => .bind (tf t) fun k => if k = true then .bind (te t) fun v => .ret (some v) else .ret none) (hl : Lay2 is fsb fs2) (hr : ∀ t, LeF (fs2 t) fsb) (hin : ∀ j ∈ is, ix[j]? = some none) :
    ∀ σ H Q, fL K fs (.bind wl fun l => lcW l f) σ H Q → tLc ix (fIt K fs wl) (fun v σ H Q => fG K fsb is wt fs2 v σ H Q) (fun σ H Q => ∃ t, fT K (fs2 t) (tf t) σ H Q) (fun σ H Q => ∃ t, fE K (fs2 t) (te t) σ H Q) σ H Q := by
  subst hb
  rintro σ H Q ⟨sr, q⟩
  refine ⟨sr, wl.mono (fun l q1 J H1 g1 s1 jf D hD => ?_) q⟩
  have inj : ∀ i i' j : Nat, ix[i]? = some (some j) → ix[i']? = some (some j) → i = i' := fun i i' j h1 h2 => by
    have hi : i < N'.length := by rw [← S.len]; exact (List.getElem?_eq_some_iff.mp h1).1
    have hi' : i' < N'.length := by rw [← S.len]; exact (List.getElem?_eq_some_iff.mp h2).1
    have e1 := (S.at h1 (List.getElem?_eq_getElem hi)).1
    have e2 := (S.at h2 (List.getElem?_eq_getElem hi')).1
    rw [e1] at e2
    exact (List.getElem_inj S.nd).mp (Option.some.inj e2)
  have nD := s1.noOwn hD
  refine ⟨fun i m σ' ys H' => ∃ acc, SRf K H' σ fs ∧ GoE σ fs H H' ∧ SRf K H' σ' (blkF ix fs) ∧ Inn ix σ fs σ' (blkF ix fs) ∧ JF K H' J l ∧ H' D = some (.lst ys) ∧ VRs K [] H' ys acc ∧ acc.length ≤ i ∧ m = l.length - i ∧ i ≤ l.length ∧
    (lcW (l.drop i) f).run fun r => ∀ a vs H', GoE σ fs H H' → SRf K H' σ fs → H a = none → H' a = some (.lst vs) → VRs K [] H' vs (acc ++ r) → Q (.ref a) H', ⟨l.length, [], ?_⟩, ?_⟩
  · have sm := same_new hD (.lst [])
    refine ⟨s1.same sm, g1.trans (GoE.same sm), (s1.same sm).blk inj, ⟨fun i t e o => ?_⟩, jf.tk sm.tupsK, upd_same, .nil, Nat.zero_le _, by simp, Nat.zero_le _, by simpa using q1⟩
    obtain ⟨j, h1, h2⟩ := blkF_get e
    obtain ⟨u, h3, _⟩ := s1.at' j t h2
    exact ⟨j, h1, h2, by rw [blkSt_get h1 h3, h3]⟩
  rintro i m σ2 ys H2 ⟨acc, sO, gO, s2, inn, jf2, hy, vy, hacc, rfl, hi, q2⟩
  refine ⟨hy, ?_⟩
  obtain ⟨j1, j2⟩ := jf2.2 H2 (TupsK.refl H2)
  by_cases hlt : i < l.length
  · obtain ⟨go, yl⟩ := j1 i _ (List.getElem?_eq_getElem hlt)
    have ed := List.drop_eq_getElem_cons hlt
    rw [ed] at q2
    refine .inr ⟨go, fun v H3 y => ?_⟩
    obtain ⟨sm, vx⟩ := yl v H3 y
    have q2 : (f l[i]).run fun o => (lcW (l.drop (i + 1)) f).run fun r => ∀ a vs H', GoE σ fs H H' → SRf K H' σ fs → H a = none → H' a = some (.lst vs) → VRs K [] H' vs (acc ++ (o.toList ++ r)) → Q (.ref a) H' := q2
    rw [hf] at q2
    have s3 := s2.same sm
    have sO3 := sO.same sm
    have gO3 := gO.trans (GoE.same sm)
    have hy3 := sm _ _ hy
    have vy3 := VRs.tk sm.tupsK vy
    have jf3 := jf2.tk sm.tupsK
    refine ⟨_, s3, vx, (wt l[i]).mono (fun t q4 us g4 s4 => ?_) q2⟩
    have inn4 : Inn ix σ fs (setA is us σ2) (fs2 t) := ⟨fun j u e o => by
      rcases (hl t).2 j u e with ⟨_, z⟩ | ⟨n, z⟩
      · rw [z] at o; cases o
      · obtain ⟨j', k1, k2, k3⟩ := inn.own j u z o
        exact ⟨j', k1, k2, by rw [setA_other n]; exact k3⟩⟩
    refine ⟨t, s4, (tf t).mono (fun kk q5 H5 g5 s5 => ?_) q4⟩
    obtain ⟨sO5, gO5'⟩ := inn4.out sO3 g5 s5
    have gO5 := gO3.trans gO5'
    have tk5 := g5.tups s4
    have nD4 : ¬ Owns (setA is us σ2) (fs2 t) D := fun z => nD (inn4.owns z)
    have hy5 := g5.keepN hy3 nD4
    have vy5 := VRs.tk tk5 vy3
    have jf5 := jf3.tk (g5.tups s4)
    have back : ∀ {H6 : Hp}, SRf K H6 (setA is us σ2) (fs2 t) → SRf K H6 (setA is us σ2) (blkF ix fs) ∧ Inn ix σ fs (setA is us σ2) (blkF ix fs) := fun {H6} z => ⟨z.le (hr t), ⟨fun j u e o => inn4.own j u ((hr t).at j u e) o⟩⟩
    cases kk with
    | false =>
      refine iteF ⟨l.length - (i + 1), by omega, acc, sO5, gO5, (back s5).1, (back s5).2, jf5, hy5, vy5, by omega, rfl, hlt, ?_⟩
      exact q5
    | true =>
      refine iteT ⟨t, s5, (te t).mono (fun v6 q6 u6 H6 g6 s6 v6' => ?_) q5⟩
      obtain ⟨sO6, gO6'⟩ := inn4.out sO5 g6 s6
      have gO6 := gO5.trans gO6'
      have tk6 := g6.tups s5
      have hy6 := g6.keepN hy5 nD4
      have vy6 := VRs.tk tk6 vy5
      have tkD := tk_side (K := K) (.lst (ys ++ [u6])) hy6
      have hD0 := g1.there D hD
      refine ⟨hy6, by rw [vy6.length]; have := jf2.1; omega, l.length - (i + 1), by omega, acc ++ [v6], sO6.side nD hy6 _, gO6.side hD0 _, ((back s6).1).side (fun z => nD ((back s6).2.owns z)) hy6 _, (back s6).2, (jf5.tk (g6.tups s5)).tk (tk_side _ hy6), upd_same, VRs.tk tkD (vy6.append (.cons v6' .nil)), by rw [List.length_append]; simp; omega, rfl, hlt, ?_⟩
      refine (lcW (l.drop (i + 1)) f).mono (fun r q7 a vs H7 g7 s7 n e v7 => q7 a vs H7 g7 s7 n e ?_) q6
      simpa using v7
  · have e : i = l.length := by omega
    subst e
    rw [List.drop_length] at q2
    exact .inl ⟨j2, q2 D ys H2 gO sO (g1.there D hD) hy (by simpa using vy)⟩
end
end FL
set_option Elab.async false
set_option linter.all false
set_option maxRecDepth 100000
namespace L2
open PySem PySem.Spec PyProof.Rows
variable {X : Cx}
theorem list_extend_lst (l : Addr) (items : Array Value) (n : Nat) (b : Addr) (items2 : Array Value) (n2 : Nat) (sl : Array (Option Value)) (hc0 : ¬(!items.isEmpty && Builtin.List.listTooLong (items.size + items2.size)) = true) (hc1 : items.size ≤ sizeLine) (hs2 : items.size + items2.size ≤ sizeLine + 1) :
    Meets (Builtin.«list.extend» ⟨[.ref l, .ref b], []⟩) (fun _ R s => s.heap.get? l = some { cls := .type "list", dict := none, data := .seq items n, slots := #[] } ∧ s.heap.get? b = some { cls := .type "list", dict := none, data := .seq items2 n2, slots := sl } ∧ R (.ok (.ret Value.none)) { s with heap := s.heap.update l (Obj.mapSeq fun x => x ++ items2), toks := s.toks }) :=
  .of_wp fun prog w A R s h => by
    obtain ⟨hp, g, d, tk, os⟩ := s; obtain ⟨hl, hb, h⟩ := h; have f1 := PySem.AutoSeq1.idx_int; have f2 := PySem.AutoSeq1.sub_tuple_tuple; have f3 := PySem.AutoSeq1.sub_list_list; have f4 := PySem.AutoSeq1.sub_tuple_list; have f5 := PySem.AutoSeq1.sub_list_tuple;
    have hz' : (items ++ items2).size ≤ sizeLine + 1 := by rw [Array.size_append]; exact hs2
    wp_walk using (wpAny_updateSeq hl rfl (hz := hc1) (_hz' := hz')), PySem.AutoSeq1.wpAny_loadPart' hl, PySem.AutoSeq1.wpAny_loadPart' hb; exact ⟨_, rfl, h⟩
def rExtF (K : PySem.W.Frag) : V → List V → Hp → VK → Prop := fun x vs H Q => ∃ l b xs zs, x = .ref l ∧ vs = [.ref b] ∧ H l = some (.lst xs) ∧ (SqL K H b zs ∨ SqT K H b zs) ∧ xs.length + zs.length ≤ sizeLine ∧ updO H l (.lst (xs ++ zs)) (Q .non)
theorem mt_extF (K : PySem.W.Frag) (hK : X.K = K) : MtM X "list.extend" (rExtF K) := by
  subst hK
  intro pins s σ H x vs v us Q I rx rv h
  obtain ⟨l, b, xs, zs, rfl, rfl, hH, hB | hB, hz, q⟩ := h
  · cases rx
    obtain ⟨u, rfl, ru⟩ := rv.one
    cases ru
    obtain ⟨z, its, n, r, hl, e⟩ := I.lstM hH
    obtain ⟨its2, r2, ⟨⟨cls, dd, data, sl⟩, n2, e2, hc, hd, hdat⟩, z2⟩ := I.list hB
    simp only at hc hd hdat
    subst hc hd hdat
    have hl2 := r2.length
    have hsz : its.toArray.size + its2.toArray.size ≤ sizeLine := by rw [List.size_toArray, List.size_toArray]; omega
    have hlong : ¬ (!its.toArray.isEmpty && Builtin.List.listTooLong (its.toArray.size + its2.toArray.size)) = true := by
      rw [notLongL hsz, Bool.and_false]
      exact Bool.false_ne_true
    refine call_meets F.slot_list_extend ⟨_, e, rfl⟩ F.entry_list_extend (F.args_list_extend_2 _ _)
      (list_extend_lst l its.toArray n b its2.toArray n2 sl hlong (by rw [List.size_toArray]; omega) (by omega)) ⟨e, e2, ?_⟩
    refine ⟨.non, _, I.lset (its' := its ++ its2) hH e (by simp) (r.append r2) ?_, rfl, q.at⟩
    rw [List.length_append]
    omega
  · exact mt_extendTN pins s σ H _ _ v us Q I rx rv ⟨l, b, xs, zs, rfl, rfl, hH, hB, hz, q⟩
end L2
namespace FL
open PySem PySem.Spec PyProof.Rows L2 PL
variable [TabC]
variable {K : PySem.W.Frag}
section
variable {X : Cx} {elt tg iter : Expr} {ifs : List Expr} {sc : Scope} {N' : List Str} {ix : List (Option Nat)} {pos : Pos} {fs : FSt} {wl : W (List PV)} {T2 : Type} {wt : PV → W T2} {is : List Nat} {fs2 : T2 → FSt} {tf : T2 → W Bool} {te : T2 → W PV}
theorem l_lc {f : PV → W (Option PV)} (hc : X.calm = true) (S : LcScope X.env.scope X.N sc N' ix) (hi : ITF X K fs tg iter wl) (hg : ∀ cl C s2 H2 fp, GF (blk X sc N' cl C s2 H2 fp) K (blkF ix fs) tg is wt fs2) (hfs : ∀ cl C s2 H2 fp t, FF (blk X sc N' cl C s2 H2 fp) K (fs2 t) ifs (tf t)) (he : ∀ cl C s2 H2 fp t, EF (blk X sc N' cl C s2 H2 fp) K (fs2 t) elt (te t))
    (hf : ∀ p, f p = .bind (wt p) fun t => .bind (tf t) fun k => if k = true then .bind (te t) fun v => .ret (some v) else .ret none) (hl : Lay2 is (blkF ix fs) fs2 ∧ ∀ t, LeF (fs2 t) (blkF ix fs)) (hin : ∀ j ∈ is, ix[j]? = some none) (hs : ∀ x, foldedSetIterable iter X.env x = pure x := by intro _; rfl) :
    LF X K fs (.ListComp elt [⟨tg, iter, ifs, 0⟩] sc pos) (.bind wl fun l => lcW l f) :=
  ⟨PE.imp (pe_lc hc S hi.p (fun cl C s2 H2 fp => (hg cl C s2 H2 fp).p) (fun cl C s2 H2 fp pins s σ H Q I ⟨t, q⟩ => (hfs cl C s2 H2 fp t).p pins s σ H Q I q) (fun cl C s2 H2 fp pins s σ H Q I ⟨t, q⟩ => (he cl C s2 H2 fp t).p pins s σ H Q I q) hs) (fL_lc S rfl hf hl.1 hl.2 hin)⟩
theorem l_map {f : PV → W PV} (hc : X.calm = true) (S : LcScope X.env.scope X.N sc N' ix) (hi : ITF X K fs tg iter wl) (hg : ∀ cl C s2 H2 fp, GF (blk X sc N' cl C s2 H2 fp) K (blkF ix fs) tg is wt fs2) (he : ∀ cl C s2 H2 fp t, EF (blk X sc N' cl C s2 H2 fp) K (fs2 t) elt (te t))
    (hf : ∀ p, f p = .bind (wt p) te) (hl : Lay2 is (blkF ix fs) fs2 ∧ ∀ t, LeF (fs2 t) (blkF ix fs)) (hin : ∀ j ∈ is, ix[j]? = some none) (hs : ∀ x, foldedSetIterable iter X.env x = pure x := by intro _; rfl) :
    LF X K fs (.ListComp elt [⟨tg, iter, [], 0⟩] sc pos) (.bind wl fun l => mapW l f) := by
  have : (fun l => mapW l f) = fun l => lcW l fun p => .bind (wt p) fun t => .bind (.ret true) fun k => if k = true then .bind (te t) fun v => .ret (some v) else .ret none := funext fun l => by
    rw [mapW_lc]
    congr 1
    funext p
    rw [hf]
    rfl
  rw [this]
  exact l_lc (tf := fun _ => .ret true) hc S hi hg (fun _ _ _ _ _ _ => ff_nil) he (fun p => rfl) hl hin hs
theorem le_set : ∀ {l : FSt} {i : Nat} (s : Option SL), l[i]? = some none → LeF (l.set i s) l
  | [], _, _, h => by simp at h
  | x :: l, 0, s, h => by
    simp at h; subst h
    exact .drop (LeF.refl l)
  | x :: l, i + 1, s, h => by
    rw [List.set_cons_succ]
    exact .keep (le_set s (by simpa using h))
theorem lay_step {fsb l : FSt} {is : List Nat} {i : Nat} {v : PV} (hl : l.length = fsb.length ∧ ∀ (j : Nat) (s : SL), l[j]? = some (some s) → (j ∈ is ∧ s.own = false) ∨ (j ∉ is ∧ fsb[j]? = some (some s))) (hi : fsb[i]? = some none) :
    (l.set i (some (.val v))).length = fsb.length ∧ ∀ (j : Nat) (s : SL), (l.set i (some (.val v)))[j]? = some (some s) → (j ∈ is ++ [i] ∧ s.own = false) ∨ (j ∉ is ++ [i] ∧ fsb[j]? = some (some s)) := by
  refine ⟨by rw [List.length_set]; exact hl.1, fun j s e => ?_⟩
  rcases set_get e with ⟨rfl, rfl⟩ | ⟨n, e⟩
  · exact .inl ⟨by simp, rfl⟩
  · rcases hl.2 j s e with ⟨h1, h2⟩ | ⟨h1, h2⟩
    · exact .inl ⟨by simp [h1], h2⟩
    · exact .inr ⟨by simp [h1, n], h2⟩
theorem lay_0 (fsb : FSt) : fsb.length = fsb.length ∧ ∀ (j : Nat) (s : SL), fsb[j]? = some (some s) → (j ∈ ([] : List Nat) ∧ s.own = false) ∨ (j ∉ ([] : List Nat) ∧ fsb[j]? = some (some s)) := ⟨rfl, fun j s e => .inr ⟨by simp, e⟩⟩
theorem lay1 {fsb : FSt} {i : Nat} (hi : fsb[i]? = some none) : Lay2 [i] fsb (fun p => fsb.set i (some (.val p))) ∧ ∀ t, LeF (fsb.set i (some (.val t))) fsb := ⟨fun t => lay_step (is := []) (lay_0 fsb) hi, fun t => le_set _ hi⟩
end
section
variable {X : Cx} {e : Expr} {rest : List Stmt} {pos p apos cpos tpos : Pos} {fs : FSt} {T : Type} {out : T → End} {x : Bool} {we wi : W PV} {wl : W (List PV)} {q0 : Option Addr} {l : List PV} {y : Str}
theorem own_at {σ : L2.St} {H : Hp} {i : Nat} (sr : SRf K H σ fs) (hs : fs[i]? = some (some (.ol q0 l))) : ∃ a ws, σ[i]? = some (some (.ref a)) ∧ H a = some (.lst ws) ∧ VRs K [] H ws l := by
  obtain ⟨u, e1, r⟩ := sr.at' i _ hs
  rcases r with ⟨v, e, _⟩ | ⟨a, e, z, ws, q1, q2⟩
  · cases e
  · subst e; exact ⟨a, ws, e1, q1, q2⟩
theorem own_put {σ : L2.St} {H H' : Hp} {i : Nat} {a : Addr} {ws' : List V} {l' : List PV} (sr : SRf K H σ fs) (hs : fs[i]? = some (some (.ol q0 l))) (e1 : σ[i]? = some (some (.ref a))) (sx : SameX a H H') (h' : H' a = some (.lst ws')) (r : VRs K [] H ws' l') : SRf K H' σ (fs.set i (some (.ol q0 l'))) ∧ GoF σ fs H σ (fs.set i (some (.ol q0 l'))) H' :=
  own_change (t' := .ol q0 l') sr hs rfl (by simp) e1 sx fun tk => ⟨(sr.ownAt hs rfl e1).1, ws', h', VRs.tk tk r⟩
def appW (l : List PV) (v : PV) : W (List PV) := .chk (l.length < sizeLine) (.ret (l ++ [v]))
theorem SF.append (i : Nat) {k : List PV → W T} (hs : fs[i]? = some (some (.ol q0 l))) (hK : X.K = K) (hN : X.N[i]? = some y) (hv : Vis X.env.scope y) (he : EF X K fs e we) (hr : ∀ l', SF X K x (fs.set i (some (.ol q0 l'))) rest (k l') out)
    (hd : (y == ("__debug__" : Str)) = false := by decide) (hcd : (y == ("__classdict__" : Str)) = false := by decide) (hbase : attributeBase (.Name y p) "append" X.env (eval (.Name y p) X.env) = eval (.Name y p) X.env := by rfl)
    (hfew : ((backTo cpos (starEach [e] X.env)).all (fun x => !x.1) && (backToKw cpos (keywordEach [] X.env)).all (fun x => x.1.isSome)
      && decide ([e].length + ([] : List Keyword).length + (if ([] : List Keyword).isEmpty then 0 else 1) < 30)) = true := by rfl)
    (hline : (apos.endLine == cpos.line) = true := by rfl) (hst : starEach [e] X.env = (false, eval e X.env) :: starEach [] X.env := by rfl) (hplain : (backTo cpos (starEach [] X.env)).any (·.1) = false := by rfl)
    (hsw : swapsWith (.Call (.Attribute (.Name y p) "append" apos) [e] [] cpos) none pos.line X.env = pure false := by rfl) :
    SF X K x fs (.Expr (.Call (.Attribute (.Name y p) "append" apos) [e] [] cpos) pos :: rest) (.bind we fun v => .bind (appW l v) k) out :=
  SF.step (ps_expr (pe_bmk K hK PySem.F.plainAttrs_list PySem.F.slot_list_append PySem.F.type_list_append mt_appendN (pe_var hN hv hd hcd) (pa_cons he.p pa_nil hst) hbase hfew hline hst hplain) hsw) fun D σ H ⟨sr, q⟩ => by
    obtain ⟨a, ws, e1, h1, r1⟩ := own_at sr hs
    refine ⟨_, e1, .inl ⟨rfl, _, SqL.of h1⟩, sr, we.mono (fun v q1 u H1 g1 s1 v1 => ?_) q⟩
    obtain ⟨a', ws', e1', h1', r1'⟩ := own_at s1 hs
    rw [e1] at e1'
    cases e1'
    refine ⟨a, ws', u, rfl, rfl, h1', by rw [r1'.length]; exact q1.1, fun H2 sx h2 => ?_⟩
    obtain ⟨s2, g2⟩ := own_put s1 hs e1 sx h2 (r1'.append (.one v1))
    exact ⟨_, k _, hr _, s2, (k _).mono (fun t q2 => q2.go (g1.f.trans g2) sr s2) q1.2⟩
def extW (l m : List PV) : W (List PV) := .chk (l.length + m.length ≤ sizeLine) (.ret (l ++ m))
theorem SF.extend (i : Nat) {k : List PV → W T} (hs : fs[i]? = some (some (.ol q0 l))) (hK : X.K = K) (hN : X.N[i]? = some y) (hv : Vis X.env.scope y) (he : QF X K fs e wl) (hr : ∀ l', SF X K x (fs.set i (some (.ol q0 l'))) rest (k l') out)
    (hd : (y == ("__debug__" : Str)) = false := by decide) (hcd : (y == ("__classdict__" : Str)) = false := by decide) (hbase : attributeBase (.Name y p) "extend" X.env (eval (.Name y p) X.env) = eval (.Name y p) X.env := by rfl)
    (hfew : ((backTo cpos (starEach [e] X.env)).all (fun x => !x.1) && (backToKw cpos (keywordEach [] X.env)).all (fun x => x.1.isSome)
      && decide ([e].length + ([] : List Keyword).length + (if ([] : List Keyword).isEmpty then 0 else 1) < 30)) = true := by rfl)
    (hline : (apos.endLine == cpos.line) = true := by rfl) (hst : starEach [e] X.env = (false, eval e X.env) :: starEach [] X.env := by rfl) (hplain : (backTo cpos (starEach [] X.env)).any (·.1) = false := by rfl)
    (hsw : swapsWith (.Call (.Attribute (.Name y p) "extend" apos) [e] [] cpos) none pos.line X.env = pure false := by rfl) :
    SF X K x fs (.Expr (.Call (.Attribute (.Name y p) "extend" apos) [e] [] cpos) pos :: rest) (.bind wl fun m => .bind (extW l m) k) out :=
  SF.step (ps_expr (pe_bmk K hK PySem.F.plainAttrs_list PySem.F.slot_list_extend PySem.F.type_list_extend (mt_extF K hK) (pe_var hN hv hd hcd) (pa_cons he.p pa_nil hst) hbase hfew hline hst hplain) hsw) fun D σ H ⟨sr, q⟩ => by
    obtain ⟨a, ws, e1, h1, r1⟩ := own_at sr hs
    refine ⟨_, e1, .inl ⟨rfl, _, SqL.of h1⟩, sr, wl.mono (fun m q1 u H1 g1 s1 v1 => ?_) q⟩
    obtain ⟨a', ws', e1', h1', r1'⟩ := own_at s1 hs
    rw [e1] at e1'
    cases e1'
    obtain ⟨b, zs, rfl, hb, rb⟩ := v1.sq s1
    refine ⟨a, b, ws', zs, rfl, rfl, h1', hb, by rw [r1'.length, rb.length]; exact q1.1, fun H2 sx h2 => ?_⟩
    obtain ⟨s2, g2⟩ := own_put s1 hs e1 sx h2 (r1'.append rb)
    exact ⟨_, k _, hr _, s2, (k _).mono (fun t q2 => q2.go (g1.f.trans g2) sr s2) q1.2⟩
def popW (l : List PV) : W (List PV × PV) := match l.getLast? with
  | some v => .ret (l.dropLast, v)
  | none => .fail
theorem snoc_get {l : List PV} {v : PV} (h : l.getLast? = some v) : l = l.dropLast ++ [v] := by
  rw [List.getLast?_eq_some_iff] at h
  obtain ⟨ys, rfl⟩ := h
  simp
theorem VRs.snoc {H : Hp} : ∀ {ws : List V} {l : List PV} {v : PV}, VRs K [] H ws (l ++ [v]) → ∃ ws0 u, ws = ws0 ++ [u] ∧ VRs K [] H ws0 l ∧ VR K [] H u v
  | _, [], _, .cons r .nil => ⟨[], _, rfl, .nil, r⟩
  | _, x :: l, v, .cons r t => by
    obtain ⟨ws0, u, rfl, h1, h2⟩ := VRs.snoc t
    exact ⟨_ :: ws0, u, rfl, .cons r h1, h2⟩
theorem SF.popSet (i j : Nat) {z : Str} {p' : Pos} {k : List PV × PV → W T} (hs : fs[i]? = some (some (.ol q0 l))) (hij : j ≠ i) (hK : X.K = K) (hN : X.N[i]? = some y) (hv : Vis X.env.scope y) (hNd : X.N.Nodup) (hj : X.N[j]? = some z) (hx : Loc X.env.scope z) (hr : ∀ t : List PV × PV, SF X K x ((fs.set i (some (.ol q0 t.1))).set j (some (.val t.2))) rest (k t) out)
    (hd : (y == ("__debug__" : Str)) = false := by decide) (hcd : (y == ("__classdict__" : Str)) = false := by decide) (hbase : attributeBase (.Name y p) "pop" X.env (eval (.Name y p) X.env) = eval (.Name y p) X.env := by rfl) (hline : (apos.endLine == cpos.line) = true := by rfl)
    (hsw : swapsWith (.Call (.Attribute (.Name y p) "pop" apos) [] [] cpos) (some (.Name z p')) pos.line X.env = pure false := by rfl) (hf : X.fn z = true ∨ X.env.scope.names.lookup z = some .local := by first | exact .inl rfl | exact .inr rfl | assumption) :
    SF X K x fs (.Assign [.Name z p'] (.Call (.Attribute (.Name y p) "pop" apos) [] [] cpos) pos :: rest) (.bind (popW l) k) out :=
  SF.step (ps_set hNd hj hx (pe_bm0k K hK PySem.F.plainAttrs_list PySem.F.slot_list_pop PySem.F.type_list_pop mt_popN (pe_var hN hv hd hcd) hbase hline) hsw hf) fun D σ H ⟨sr, q⟩ => by
    obtain ⟨a, ws, e1, h1, r1⟩ := own_at sr hs
    have q : (popW l).run fun t => (k t).run fun t => EndR K x σ fs H D (out t) := q
    unfold popW at q
    cases hl : l.getLast? with
    | none => rw [hl] at q; exact q.elim
    | some v =>
      rw [hl] at q
      have el := snoc_get hl
      rw [el] at r1
      obtain ⟨ws0, u, rfl, r0, ru⟩ := VRs.snoc r1
      refine ⟨_, e1, .inl ⟨rfl, _, SqL.of h1⟩, a, ws0, u, rfl, rfl, h1, fun H2 sx h2 => ?_⟩
      obtain ⟨s2, g2⟩ := own_put sr hs e1 sx h2 r0
      have ru2 : VR K [] H2 u v := g2.vr sr ru
      have s3 := s2.putV ru2 j
      exact ⟨_, k _, hr (l.dropLast, v), s3, (k _).mono (fun t q2 => q2.go (g2.trans (GoF.putV s2 _ _ j)) sr s3) q⟩
def setW (l : List PV) (i v : PV) : W (List PV) := match i with
  | .int k => match ixN l.length k with
    | some j => .ret (l.set j v)
    | none => .fail
  | _ => .fail
theorem SF.setI (i : Nat) {ei : Expr} {k : List PV → W T} (hs : fs[i]? = some (some (.ol q0 l))) (hN : X.N[i]? = some y) (hv : Vis X.env.scope y) (he : EF X K fs e we) (hi : EF X K fs ei wi) (hr : ∀ l', SF X K x (fs.set i (some (.ol q0 l'))) rest (k l') out)
    (ha : ∀ v, assign (.Subscript (.Name y p) ei tpos) X.env v = (do
      let ov ← holding [v] (eval (.Name y p) X.env)
      let iv ← holding [v, ov] (eval ei X.env)
      standAt tpos
      holding [v, ov, iv] (setItem ov iv v)
      release [v, ov, iv] []) := by intro _; rfl)
    (hd : (y == ("__debug__" : Str)) = false := by decide) (hcd : (y == ("__classdict__" : Str)) = false := by decide) (hss : swapsWithSole [.Subscript (.Name y p) ei tpos] e pos.line X.env = pure false := by rfl) (hw : swappedStores [.Subscript (.Name y p) ei tpos] e X.env = pure none := by rfl)
    (h1 : (assignEach [.Subscript (.Name y p) ei tpos] X.env).map (·.2) = [assign (.Subscript (.Name y p) ei tpos) X.env] := by rfl) :
    SF X K x fs (.Assign [.Subscript (.Name y p) ei tpos] e pos :: rest) (.bind we fun v => .bind wi fun n => .bind (setW l n v) k) out :=
  SF.step (ps_asg he.p (pg_sub (pe_var hN hv hd hcd) hi.p set_listN ha) hss hw h1) fun D σ H ⟨sr, q⟩ => by
    refine ⟨sr, we.mono (fun v q1 u H1 g1 s1 v1 => ?_) q⟩
    obtain ⟨a, ws, e1, h1, r1⟩ := own_at s1 hs
    refine ⟨_, e1, s1, wi.mono (fun n q2 u2 H2 g2 s2 v2 => ?_) q1⟩
    obtain ⟨a', ws', e1', h1', r1'⟩ := own_at s2 hs
    rw [e1] at e1'
    cases e1'
    cases v2 with
    | int kk =>
      have q2 : (match ixN l.length kk with | some j => W.ret (l.set j v) | none => W.fail).run _ := q2
      cases hj : ixN l.length kk with
      | none => rw [hj] at q2; exact q2.elim
      | some j =>
        rw [hj] at q2
        refine ⟨a, ws', kk, j, rfl, rfl, h1', by rw [r1'.length]; exact hj, fun H3 sx h3 => ?_⟩
        obtain ⟨s3, g3⟩ := own_put s2 hs e1 sx h3 (r1'.set (g2.vr s1 v1) j)
        exact ⟨_, k _, hr _, s3, (k _).mono (fun t q3 => q3.go ((g1.trans g2).f.trans g3) sr s3) q2⟩
    | _ => exact q2.elim
end
end FL
set_option Elab.async false
set_option linter.all false
set_option maxRecDepth 100000
namespace FL
open PySem PySem.Spec PyProof.Rows L2 PL
variable [TabC]
variable {K : PySem.W.Frag}
def argS : List AK → List PV → FSt
  | [], _ => []
  | .v :: ks, x :: l => some (.val x) :: argS ks l
  | .v :: _, [] => []
  | .p φ :: ks, l => some (.pot φ) :: argS ks l
  | .f a us ps fz :: ks, l => some (.adr a us ps fz) :: argS ks l
def begF (ks : List AK) (l : List PV) (n : Nat) : FSt := argS ks l ++ List.replicate (n - ks.length) none
def OneP (ks : List AK) : Prop := ∀ i j : Nat, (∃ φ, ks[i]? = some (.p φ)) → (∃ φ, ks[j]? = some (.p φ)) → i = j
theorem unc_len {R : Type} : ∀ {n : Nat} {m : Cur R n} {l : List PV} {Q : R → Prop}, (unc n m l).run Q → l.length = n
  | 0, _, [], _, _ => rfl
  | 0, _, _ :: _, _, h => h.elim
  | n + 1, _, [], _, h => h.elim
  | n + 1, m, x :: l, Q, h => by rw [List.length_cons, unc_len (n := n) (m := m x) h]
section
variable {H H' : Hp} {vs : List V} {ks : List AK} {l : List PV}
theorem ArgC.len (h : ArgC K H vs ks l) : vs.length = ks.length := by induction h <;> simp_all
theorem ArgC.slot (h : ArgC K H vs ks l) : (argS ks l).length = vs.length ∧ ∀ (i : Nat) (s : SL), (argS ks l)[i]? = some (some s) → ∃ u, vs[i]? = some u ∧ SlotR K H u s ∧ (s.own = true → ∃ φ, s = .pot φ ∧ ks[i]? = some (.p φ)) := by
  induction h with
  | nil => exact ⟨rfl, fun i s e => by simp [argS] at e⟩
  | @v u x vs ks l r t ih =>
    refine ⟨by simp [argS, ih.1], fun i s e => ?_⟩
    cases i with
    | zero => simp [argS] at e; subst e; exact ⟨u, rfl, .inl ⟨x, rfl, r⟩, fun z => by cases z⟩
    | succ i => simp [argS] at e; obtain ⟨w, h1, h2, h3⟩ := ih.2 i s e; exact ⟨w, by simpa using h1, h2, by simpa using h3⟩
  | @p a φ ws vs ks l e0 r t ih =>
    refine ⟨by simp [argS, ih.1], fun i s e => ?_⟩
    cases i with
    | zero => simp [argS] at e; subst e; exact ⟨_, rfl, .inr ⟨a, rfl, ws, e0, r⟩, fun _ => ⟨φ, rfl, rfl⟩⟩
    | succ i => simp [argS] at e; obtain ⟨w, h1, h2, h3⟩ := ih.2 i s e; exact ⟨w, by simpa using h1, h2, by simpa using h3⟩
  | @f a us vs ps fz ks l r z t ih =>
    refine ⟨by simp [argS, ih.1], fun i s e => ?_⟩
    cases i with
    | zero => simp [argS] at e; subst e; exact ⟨_, rfl, .inr ⟨a, rfl, rfl, r, z⟩, fun z => by cases z⟩
    | succ i => simp [argS] at e; obtain ⟨w, h1, h2, h3⟩ := ih.2 i s e; exact ⟨w, by simpa using h1, h2, by simpa using h3⟩
theorem ArgC.pots (h : ArgC K H vs ks l) {i : Nat} {φ : List V → Prop} (e : ks[i]? = some (.p φ)) : (argS ks l)[i]? = some (some (.pot φ)) := by
  induction h generalizing i with
  | nil => simp at e
  | v r t ih => cases i with | zero => simp at e | succ i => simp [argS]; exact ih (by simpa using e)
  | p e0 r t ih => cases i with | zero => simp at e; subst e; rfl | succ i => simp [argS]; exact ih (by simpa using e)
  | f r z t ih => cases i with | zero => simp at e | succ i => simp [argS]; exact ih (by simpa using e)
theorem beg_get {n i : Nat} {s : SL} (h : (begF ks l n)[i]? = some (some s)) : (argS ks l)[i]? = some (some s) := by
  unfold begF at h
  by_cases c : i < (argS ks l).length
  · rw [List.getElem?_append_left c] at h; exact h
  · rw [List.getElem?_append_right (by omega), List.getElem?_replicate] at h
    split at h <;> cases h
theorem start_get {N : List Str} {i : Nat} {u : V} (h : vs[i]? = some u) : (L2.start N vs)[i]? = some (some u) := by
  unfold L2.start
  rw [List.getElem?_append_left (by rw [List.length_map]; exact (List.getElem?_eq_some_iff.mp h).1), List.getElem?_map, h]; rfl
theorem start_inv {N : List Str} {i : Nat} {u : V} (h : (L2.start N vs)[i]? = some (some u)) : vs[i]? = some u := by
  unfold L2.start at h
  by_cases c : i < vs.length
  · rw [List.getElem?_append_left (by simpa using c), List.getElem?_map] at h
    cases z : vs[i]? with
    | none => rw [z] at h; cases h
    | some q => rw [z] at h; cases h; rfl
  · rw [List.getElem?_append_right (by simpa using c), List.getElem?_replicate] at h
    split at h <;> cases h
theorem ArgC.beg (h : ArgC K H vs ks l) (tb : TB H) (one : OneP ks) (N : List Str) : SRf K H (L2.start N vs) (begF ks l N.length) := by
  obtain ⟨hl, hs⟩ := h.slot
  refine ⟨?_, fun i s e => ?_, fun i j s t x y a e1 e2 o1 o2 q1 q2 z1 z2 => ?_, tb⟩
  · unfold L2.start begF
    rw [List.length_append, List.length_append, List.length_map, hl, List.length_replicate, List.length_replicate, h.len]
  · obtain ⟨u, h1, h2, _⟩ := hs i s (beg_get e)
    exact ⟨u, start_get h1, h2⟩
  · obtain ⟨_, _, _, h3⟩ := hs i s (beg_get e1)
    obtain ⟨_, _, _, h4⟩ := hs j t (beg_get e2)
    obtain ⟨φ, _, k1⟩ := h3 o1
    obtain ⟨ψ, _, k2⟩ := h4 o2
    exact one i j ⟨φ, k1⟩ ⟨ψ, k2⟩
theorem ArgC.go (h : ArgC K H vs ks l) {N : List Str} {σ' : L2.St} {fs' : FSt} (g : GoF (L2.start N vs) (begF ks l N.length) H σ' fs' H') (s' : SRf K H' σ' fs') : GoC vs ks H H' := by
  obtain ⟨hl, hs⟩ := h.slot
  refine ⟨fun a o e n => (g.keep a o e fun z => ?_).1, s'.tb, g.there, fun a φ p => ?_⟩
  · obtain ⟨i, s, x, e1, e2, e3, e4⟩ := z
    obtain ⟨u, h1, h2, h3⟩ := hs i s (beg_get e1)
    obtain ⟨φ, rfl, k⟩ := h3 e2
    rcases e4 with rfl | e4
    · exact n φ ⟨i, k, start_inv e3⟩
    · cases e4
  · obtain ⟨i, e1, e2⟩ := p
    have e3 := h.pots e1
    have hi := (List.getElem?_eq_some_iff.mp e3).1
    have e4 : (begF ks l N.length)[i]? = some (some (.pot φ)) := by unfold begF; rw [List.getElem?_append_left hi]; exact e3
    rcases g.pk a φ ⟨i, e4, start_get e2⟩ with ⟨j, k1, k2⟩ | ⟨_, k⟩
    · exact s'.ownAt k1 rfl k2
    · exact k
end
section
variable {P : Program} {w : World} {mg : Str → Option Value} {base : Heap} {x qual : Str} {st : Stmt} {f : Addr} {fd : FuncData} {N ps : List Str} {k n : Nat} {ks : List AK}
theorem fnV {m : Cur PV n} (Fn : Fun K x qual st f fd) (S : FnScope N ps (defScope st)) (hks : ks.length = ps.length) (one : OneP ks)
    (cert : ∀ l : List PV, l.length = n → ∀ (cdv : Value) (A : Around) (outer : List Env) (s : Shared) (H : Hp) (E : XK), Room k (A.deeper (envOfC qual (defScope st) s.heap.objs.size f cdv)) → SF (cxOf CX0 P w K mg base N qual (defScope st) f cdv A outer s H E).nox K false (begF ks l N.length) (defBody st) (unc n m l) .rt) :
    FnOk P w K mg base CX0 (k + 1) f fd ps (spF K ks (unc n m)) := by
  refine Fn.ok S (fun vs H Q E h => ?_) (fun cdv A outer s H vs Q E hr h => ?_)
  · obtain ⟨_, l, h, _⟩ := h
    rw [h.len]; exact hks
  obtain ⟨tb, l, h, q⟩ := h
  refine ⟨_, (cert l (unc_len q) cdv A outer s H E hr).p, h.beg tb one N, (unc n m l).mono (fun v q1 u σ' fs' H' g s' r => q1 u H' (h.go g s') r) q⟩
theorem fnL {m : Cur (List PV) n} (Fn : Fun K x qual st f fd) (S : FnScope N ps (defScope st)) (hks : ks.length = ps.length) (one : OneP ks)
    (cert : ∀ l : List PV, l.length = n → ∀ (cdv : Value) (A : Around) (outer : List Env) (s : Shared) (H : Hp) (E : XK), Room k (A.deeper (envOfC qual (defScope st) s.heap.objs.size f cdv)) → SF (cxOf CX0 P w K mg base N qual (defScope st) f cdv A outer s H E).nox K false (begF ks l N.length) (defBody st) (unc n m l) .rl) :
    FnOk P w K mg base CX0 (k + 1) f fd ps (spFL K ks (unc n m)) := by
  refine Fn.ok S (fun vs H Q E h => ?_) (fun cdv A outer s H vs Q E hr h => ?_)
  · obtain ⟨_, l, h, _⟩ := h
    rw [h.len]; exact hks
  obtain ⟨tb, l, h, q⟩ := h
  have sr := h.beg tb one N
  refine ⟨_, (cert l (unc_len q) cdv A outer s H E hr).p, sr, (unc n m l).mono (fun z q1 a ws σ' fs' H' g s' fr e r => q1 a ws H' (h.go g s') ?_ e r) q⟩
  rcases fr with fr | ⟨i, t, x, e1, e2, np, e3, e4⟩
  · exact fr
  · obtain ⟨_, _, _, h3⟩ := h.slot.2 i t (beg_get e1)
    obtain ⟨φ, e, _⟩ := h3 e2
    exact absurd e (np φ)
end
theorem one_nil : OneP [] := fun i j ⟨_, h⟩ => by simp at h
theorem one_v {ks : List AK} (h : OneP ks) : OneP (.v :: ks) := fun i j ⟨φ, a⟩ ⟨ψ, b⟩ => by
  cases i with
  | zero => simp at a
  | succ i =>
    cases j with
    | zero => simp at b
    | succ j => rw [h i j ⟨φ, by simpa using a⟩ ⟨ψ, by simpa using b⟩]
end FL
set_option Elab.async false
set_option linter.all false
set_option maxRecDepth 100000
namespace L2
open PySem PySem.Spec PyProof.Rows
variable {X : Cx}
def rCatF (K : PySem.W.Frag) : R2 := fun x y H Q => ∃ a b xs zs, x = .ref a ∧ y = .ref b ∧ SqL K H a xs ∧ SqL K H b zs ∧ xs.length + zs.length ≤ sizeLine ∧ newO H (.lst (xs ++ zs)) Q
theorem op_catF (K : PySem.W.Frag) (hK : X.K = K) : OpR X (binaryOp .Add) (rCatF K) := by
  subst hK
  intro pins s σ H x y v u Q I rx ry h
  obtain ⟨l, b, xs, zs, rfl, rfl, hH, hB, hz, q⟩ := h
  cases rx
  cases ry
  obtain ⟨its, r, ⟨⟨cls, dd, data, sl⟩, n, ho, hc, hd, hdat⟩, _⟩ := I.list hH
  obtain ⟨its2, r2, ⟨⟨cls2, dd2, data2, sl2⟩, n2, ho2, hc2, hd2, hdat2⟩, _⟩ := I.list hB
  simp only at hc hd hdat hc2 hd2 hdat2
  subst hc hd hdat hc2 hd2 hdat2
  have e : its.toArray ++ its2.toArray = (its ++ its2).toArray := by simp
  have hl := r.length
  have hl2 := r2.length
  refine concat_meets ⟨_, ho, rfl⟩ ⟨_, ho2, rfl⟩ noFill_list_add seq_list_add PySem.F.slot_list_add PySem.F.entry_list_add (PySem.F.args_list_add_2 _ _) (list_addW l b its.toArray its2.toArray n n2 none none sl sl2 (by simp; omega)) ⟨ho, ho2, ?_⟩
  rw [e]
  exact ⟨.ref _, _, I.lnew (t' := s.toks) (r.append r2) (by rw [List.length_append]; omega), rfl, q.at _ I.fresh⟩
end L2
namespace FL
open PySem PySem.Spec PyProof.Rows L2 PL
variable [TabC]
variable {K : PySem.W.Frag}
section
variable {X : Cx} {a b c e o : Expr} {es : List Expr} {pos p p1 p2 p3 p4 : Pos} {fs : FSt} {w wa wb wc : W PV} {wl wm : W (List PV)}
def catW (l m : List PV) : W (List PV) := .chk (l.length + m.length ≤ sizeLine) (.ret (l ++ m))
def fQL (K : PySem.W.Frag) (fs : FSt) (w : W (List PV)) : TE := fun σ H Q => SRf K H σ fs ∧ w.run fun l => ∀ u H', GoE σ fs H H' → SRf K H' σ fs → SqF K σ fs H' u l → (∀ H'', GoE σ fs H' H'' → SRf K H'' σ fs → ∃ a vs, u = .ref a ∧ SqL K H'' a vs ∧ VRs K [] H'' vs l) → Q u H'
structure QLF (X : Cx) (K : PySem.W.Frag) (fs : FSt) (e : Expr) (w : W (List PV)) : Prop where p : PE X e (fQL K fs w)
theorem ql_new (h : LF X K fs e wl) : QLF X K fs e wl := ⟨PE.imp h.p fun σ H Q ⟨sr, q⟩ => ⟨sr, wl.mono (fun l q1 a vs H1 g1 s1 n e v => q1 _ H1 g1 s1 (.inr ⟨a, rfl, .inl ⟨sr.noOwn n, vs, e, v⟩⟩) fun H2 g2 s2 => ⟨a, vs, rfl, SqL.of (g2.keepN e (sr.noOwn n)), g2.vrs s1 v⟩) q⟩⟩
theorem ql_own (i : Nat) {x : Str} {q0 : Option Addr} {l : List PV} (hs : fs[i]? = some (some (.ol q0 l)) := by rfl) (hN : X.N[i]? = some x := by rfl) (hv : Vis X.env.scope x := by first | exact Or.inl rfl | exact Or.inr (Or.inl rfl) | exact Or.inr (Or.inr rfl)) (hd : (x == ("__debug__" : Str)) = false := by decide) (hcd : (x == ("__classdict__" : Str)) = false := by decide) : QLF X K fs (.Name x pos) (.ret l) :=
  ⟨PE.imp (pe_var hN hv hd hcd) fun σ H Q ⟨sr, q⟩ => by
    obtain ⟨a, ws, e1, h1, r1⟩ := own_at sr hs
    refine ⟨_, e1, q _ H .refl sr (.inr ⟨a, rfl, .inr ⟨i, q0, hs, e1⟩⟩) fun H2 g2 s2 => ?_⟩
    obtain ⟨a', ws', e1', h1', r1'⟩ := own_at s2 hs
    rw [e1] at e1'
    cases e1'
    exact ⟨a, ws', rfl, SqL.of h1', r1'⟩⟩
def lstW : PV → W (List PV)
  | .cl l => .ret l
  | _ => .fail
theorem ql_val (h : EF X K fs e w) : QLF X K fs e (.bind w lstW) := ⟨PE.imp h.p fun σ H Q ⟨sr, q⟩ => ⟨sr, w.mono (fun x q1 u1 H1 g1 s1 v1 => by
  cases v1 with
  | cl e r => exact q1 _ H1 g1 s1 (.inl ⟨_, _, rfl, .inl e, r⟩) fun H2 g2 s2 => ⟨_, _, rfl, ((g2.tups s1).f _ _ e).sq, g2.vrs s1 r⟩
  | _ => exact q1.elim) q⟩⟩
theorem l_cat (hK : X.K = K) (ha : QLF X K fs a wl) (hb : QLF X K fs b wm) : LF X K fs (.BinOp a .Add b pos) (.bind wl fun l => .bind wm fun m => catW l m) := ⟨PE.imp (pe_op (op_catF K hK) ha.p hb.p) fun σ H Q ⟨sr, q⟩ => ⟨sr, wl.mono (fun l q1 u1 H1 g1 s1 _ v1 => ⟨s1, wm.mono (fun m q2 u2 H2 g2 s2 _ v2 => by
  obtain ⟨a, vs, rfl, h1, r1⟩ := v1 H2 g2 s2
  obtain ⟨b, ws, rfl, h2, r2⟩ := v2 H2 .refl s2
  refine ⟨a, b, vs, ws, rfl, rfl, h1, h2, by rw [r1.length, r2.length]; exact q2.1, fun p H3 s3 h3 n3 => ?_⟩
  have gg := g1.trans g2
  exact q2.2 p _ H3 (gg.trans (GoE.same s3)) (s2.same s3) (gg.there p n3) h3 (VRs.tk s3.tupsK (r1.append r2))) q1⟩) q⟩⟩
theorem new_l {σ : L2.St} {H H1 : Hp} {Q : VK} {vs : List V} {l : List PV} (g1 : GoE σ fs H H1) (s1 : SRf K H1 σ fs) (r : VRs K [] H1 vs l) (q : ∀ a vs H', GoE σ fs H H' → SRf K H' σ fs → H a = none → H' a = some (.lst vs) → VRs K [] H' vs l → Q (.ref a) H') : newO H1 (.lst vs) Q := fun p H2 s2 h2 n2 => q p vs H2 (g1.trans (GoE.same s2)) (s1.same s2) (g1.there p n2) h2 (VRs.tk s2.tupsK r)
theorem listQ_ok (K : PySem.W.Frag) : CL K (rListC K) .ret := fun {fs σ H Q u l} s v q => by
  obtain ⟨a, vs, rfl, h, rs⟩ := v.sq s
  exact ⟨a, vs, rfl, h, new_l .refl s rs q⟩
theorem l_list (hK : X.K = K) (hg : Gl X "list") (hm : X.mg "list" = none) (ha : QF X K fs e wl) (he : starEach [e] X.env = (false, eval e X.env) :: starEach [] X.env := by rfl) (hpl : (backTo pos (starEach [] X.env)).any (·.1) = false := by rfl) : LF X K fs (.Call (.Name "list" p) [e] [] pos) wl := l_callTy (m := .ret) (call_listk K hK) (listQ_ok K) hg hm boot_list ha (by decide) (by decide) he hpl
theorem e_tuple (hK : X.K = K) (hg : Gl X "tuple") (hm : X.mg "tuple" = none) (ha : QF X K fs e wl) (he : starEach [e] X.env = (false, eval e X.env) :: starEach [] X.env := by rfl) (hpl : (backTo pos (starEach [] X.env)).any (·.1) = false := by rfl) : EF X K fs (.Call (.Name "tuple" p) [e] [] pos) (.bind wl tupW) := e_callTyQ (call_tupT K hK) (tupQ_ok K) hg hm boot_tuple ha (by decide) (by decide) he hpl
theorem e_lenQ (hK : X.K = K) (hg : Gl X "len") (hm : X.mg "len" = none) (ha : QF X K fs e wl) (he : starEach [e] X.env = (false, eval e X.env) :: starEach [] X.env := by rfl) (hpl : (backTo pos (starEach [] X.env)).any (·.1) = false := by rfl) : EF X K fs (.Call (.Name "len" p) [e] [] pos) (.bind wl lenW) := e_callBQ (call_lenk K hK) (lenQ_ok K) hg hm boot_len ha (by decide) (by decide) he hpl
theorem a_one {R : Type} (ha : EF X K fs e w) (he : starEach [e] X.env = (false, eval e X.env) :: starEach [] X.env) : AF X K fs [e] (List.replicate 1 .v) (R := R) (fun k => .bind w fun x => k [x]) := a_cons ha a_nil he
theorem e_len (hK : X.K = K) (hg : Gl X "len") (hm : X.mg "len" = none) (ha : EF X K fs e w) (he : starEach [e] X.env = (false, eval e X.env) :: starEach [] X.env := by rfl) (hpl : (backTo pos (starEach [] X.env)).any (·.1) = false := by rfl) : EF X K fs (.Call (.Name "len" p) [e] [] pos) (.bind w fun x => of1 bLen [x]) := e_callB (n := 1) (call_lenk K hK) (bLen_ok K) hg hm boot_len (a_one ha he) (by decide) (by decide) he hpl
theorem e_abs (hg : Gl X "abs") (hm : X.mg "abs" = none) (ha : EF X K fs e w) (he : starEach [e] X.env = (false, eval e X.env) :: starEach [] X.env := by rfl) (hpl : (backTo pos (starEach [] X.env)).any (·.1) = false := by rfl) : EF X K fs (.Call (.Name "abs" p) [e] [] pos) (.bind w fun x => of1 bAbs [x]) := e_callB (n := 1) call_abs bAbs_ok hg hm boot_abs (a_one ha he) (by decide) (by decide) he hpl
theorem e_toInt (hg : Gl X "int") (hm : X.mg "int" = none) (ha : EF X K fs e w) (he : starEach [e] X.env = (false, eval e X.env) :: starEach [] X.env := by rfl) (hpl : (backTo pos (starEach [] X.env)).any (·.1) = false := by rfl) : EF X K fs (.Call (.Name "int" p) [e] [] pos) (.bind w fun x => of1 bInt [x]) := e_callTy (n := 1) call_int1 bInt_ok hg hm boot_int (a_one ha he) (by decide) (by decide) he hpl
theorem l_rev (hK : X.K = K) (hc : X.calm = true) (hg1 : Gl X "list") (hm1 : X.mg "list" = none) (hg2 : Gl X "reversed") (hm2 : X.mg "reversed" = none) (he : QLF X K fs e wl)
    (hs1 : starEach [.Call (.Name "reversed" p3) [e] [] p4] X.env = (false, eval (.Call (.Name "reversed" p3) [e] [] p4) X.env) :: starEach [] X.env := by rfl) (hs2 : starEach [e] X.env = (false, eval e X.env) :: starEach [] X.env := by rfl) :
    LF X K fs (.Call (.Name "list" p1) [.Call (.Name "reversed" p3) [e] [] p4] [] p2) (.bind wl fun l => .ret l.reverse) := ⟨PE.imp (pe_listrev K hK hc hg1 hm1 hg2 hm2 he.p hs1 hs2) fun σ H Q ⟨sr, q⟩ => ⟨sr, wl.mono (fun l q1 u1 H1 g1 s1 _ v1 => by
  obtain ⟨a, vs, rfl, h1, r1⟩ := v1 H1 .refl s1
  exact ⟨a, vs, rfl, h1, new_l g1 s1 r1.reverse q1⟩) q⟩⟩
def bsW : List PV → W (List Bool)
  | [] => .ret []
  | .bl b :: r => .bind (bsW r) fun l => .ret (b :: l)
  | _ => .fail
theorem bsW_run : ∀ {l : List PV} {Q : List Bool → Prop}, (bsW l).run Q → ∃ bs : List Bool, l = bs.map PV.bl ∧ Q bs
  | [], Q, h => ⟨[], rfl, h⟩
  | .bl b :: r, Q, h => by
    obtain ⟨bs, e, q⟩ := bsW_run (l := r) h
    exact ⟨b :: bs, by rw [e]; rfl, q⟩
  | .non :: r, Q, h => h.elim
  | .int _ :: r, Q, h => h.elim
  | .str _ :: r, Q, h => h.elim
  | .tup _ :: r, Q, h => h.elim
  | .ref _ :: r, Q, h => h.elim
  | .ty _ :: r, Q, h => h.elim
  | .cl _ :: r, Q, h => h.elim
@[simp] theorem bsW_map : ∀ bs : List Bool, bsW (bs.map PV.bl) = .ret bs
  | [] => rfl
  | b :: bs => by
    show W.bind (bsW (bs.map PV.bl)) _ = _
    rw [bsW_map bs]; rfl
def allW (l : List PV) : W PV := .bind (bsW l) fun bs => .ret (.bl (bs.all id))
theorem e_all (hK : X.K = K) (hc : X.calm = true) (hg : Gl X "all") (hm : X.mg "all" = none) (ha : QLF X K fs e wl) (he : starEach [e] X.env = (false, eval e X.env) :: starEach [] X.env := by rfl) (hpl : (backTo pos (starEach [] X.env)).any (·.1) = false := by rfl) : EF X K fs (.Call (.Name "all" p) [e] [] pos) (.bind wl allW) := ⟨PE.imp (pe_callB (call_allk K hK hc) hg hm boot_all (pa_cons ha.p pa_nil he) (by decide) (by decide) he hpl) fun σ H Q ⟨sr, q⟩ => ⟨sr, wl.mono (fun l q1 u1 H1 g1 s1 _ v1 => by
  obtain ⟨bs, e, q2⟩ := bsW_run (l := l) q1
  obtain ⟨a, vs, rfl, h1, r1⟩ := v1 H1 .refl s1
  rw [e] at r1
  have := bools_vrs r1
  subst this
  exact ⟨a, bs, rfl, h1, q2 _ H1 g1 s1 (.bl _)⟩) q⟩⟩
def isiW (k : Kd) (x : PV) : W PV := match x with
  | .ref _ => .fail
  | .ty _ => .fail
  | x => .ret (.bl (k.is x))
def rIsiF (K : PySem.W.Frag) : List V → Hp → VK → Prop := fun xs H Q => ∃ x c t b, xs = [x, .ty c] ∧ (TyOf K H x t ∨ (t = .type "tuple" ∧ ∃ a vs, x = .ref a ∧ SqT K H a vs) ∨ (t = .type "list" ∧ ∃ a vs, x = .ref a ∧ SqL K H a vs) ∨ (t = .type "dict" ∧ ∃ a, x = .ref a ∧ IsD H a)) ∧ PySem.W.kitOne K t (.type c) = some b ∧ Q (.bl b) H
theorem call_isiF (hK : X.K = K) : CallR X (.builtin "isinstance") (rIsiF K) := by
  subst hK
  intro pins s σ H xs us Q I r h
  obtain ⟨x, c, t, b, rfl, ty | ty | ⟨rfl, a, vs, rfl, hL⟩ | ⟨rfl, a, rfl, hD⟩, e, q⟩ := h
  · exact call_isinst pins s σ H _ us Q I r ⟨x, c, t, b, rfl, ty, e, q⟩
  · exact call_isiT X.K rfl pins s σ H _ us Q I r ⟨x, c, t, b, rfl, .inr ty, e, q⟩
  · obtain ⟨u, w, rfl, r1, r2⟩ := vals2 r
    cases r1
    cases r2
    obtain ⟨its, _, ⟨o, n, h1, h2, _⟩, _⟩ := I.list hL
    exact PySem.W.kia_one PySem.W.kitx_list I.kIn ⟨o, h1, h2⟩ e (fun z => nomatch z) fun tk => ⟨.bl b, H, I.tok _, rfl, q⟩
  · obtain ⟨u, w, rfl, r1, r2⟩ := vals2 r
    cases r1
    cases r2
    have : ∃ o, s.heap.get? a = some o ∧ o.cls = .type "dict" := by
      rcases hD with ⟨kvs, e⟩ | ⟨kvs, e⟩
      · obtain ⟨_, _, vs, _, o, _, _, h1, h2, _⟩ := dk_rd I.hok e
        exact ⟨o, h1, h2.1⟩
      · obtain ⟨_, _, xs, _, o, _, _, h1, h2, _⟩ := dt_rd I.hok e
        exact ⟨o, h1, h2.1⟩
    obtain ⟨o, h1, h2⟩ := this
    exact PySem.W.kia_one PySem.W.kitx_dict I.kIn ⟨o, h1, h2⟩ e (fun z => nomatch z) fun tk => ⟨.bl b, H, I.tok _, rfl, q⟩
theorem e_isi (hK : X.K = K) (k : Kd) {x : Str} (hg : Gl X "isinstance") (hm : X.mg "isinstance" = none) (ha : EF X K fs a wa) (hgx : Gl X x) (hmx : X.mg x = none) (hv : bootBuiltins x = some (.type k.name)) (hn : x ≠ "__name__" := by decide) (hd : (x == ("__debug__" : Str)) = false := by decide)
    (he : starEach [a, .Name x p2] X.env = (false, eval a X.env) :: starEach [.Name x p2] X.env := by rfl) (he2 : starEach [Expr.Name x p2] X.env = (false, eval (.Name x p2) X.env) :: starEach [] X.env := by rfl)
    (hpl : (backTo pos (starEach [Expr.Name x p2] X.env)).any (·.1) = false := by rfl) : EF X K fs (.Call (.Name "isinstance" p) [a, .Name x p2] [] pos) (.bind wa (isiW k)) :=
  ⟨PE.imp (pe_callB (call_isiF hK) hg hm boot_isinstance (pa_cons ha.p (pa_cons (pe_bltn (v := .ty k.name) hgx hmx hv rfl hn hd) pa_nil he2) he) (by decide) (by decide) he hpl) fun σ H Q ⟨sr, q⟩ => ⟨sr, wa.mono (fun x q1 u1 H1 g1 s1 v1 => by
    have fin : ∀ {t : Value} {y : PV}, TyOf K H1 u1 t → PySem.W.kitOne K t (.type k.name) = some (k.is y) → Q (.bl (k.is y)) H1 → rIsiF K [u1, .ty k.name] H1 Q := fun ty e q => ⟨_, _, _, _, rfl, .inl ty, e, q⟩
    cases v1 with
    | non => exact fin (y := .non) .non (by rw [(kit_all K).1 k]; cases k <;> rfl) (q1 _ H1 g1 s1 (.bl _))
    | bl b => exact fin (.bl b) (kit_bl K b k) (q1 _ H1 g1 s1 (.bl _))
    | int b => exact fin (.int b) (kit_int K b k) (q1 _ H1 g1 s1 (.bl _))
    | str b => exact fin (.str b) (kit_str K b k) (q1 _ H1 g1 s1 (.bl _))
    | ty n => exact q1.elim
    | ref n => exact q1.elim
    | @dk a o kvs ks l e k1 r => exact ⟨_, _, _, _, rfl, .inr (.inr (.inr ⟨rfl, _, rfl, .inl ⟨_, .inr ⟨_, e⟩⟩⟩)), (show _ = some (k.is (.dv ks l)) by rw [(kit_all K).2.2 k]; cases k <;> rfl), q1 _ H1 g1 s1 (.bl _)⟩
    | @dt a o kvs ks l e k1 r => exact ⟨_, _, _, _, rfl, .inr (.inr (.inr ⟨rfl, _, rfl, .inr ⟨_, .inr ⟨_, e⟩⟩⟩)), (show _ = some (k.is (.dv ks l)) by rw [(kit_all K).2.2 k]; cases k <;> rfl), q1 _ H1 g1 s1 (.bl _)⟩
    | @cl p vs l e r => exact ⟨_, _, _, _, rfl, .inr (.inr (.inl ⟨rfl, _, _, rfl, e.sq⟩)), (show _ = some (k.is (.cl l)) by rw [(kit_all K).2.1 k]; cases k <;> rfl), q1 _ H1 g1 s1 (.bl _)⟩
    | @tup p vs l e r => exact ⟨_, _, _, _, rfl, .inr (.inl ⟨rfl, _, _, rfl, SqT.of e⟩), kit_tup K _ k, q1 _ H1 g1 s1 (.bl _)⟩) q⟩⟩
def repW (l : List PV) : PV → W (List PV)
  | .int k => .chk (-(2 ^ 63) ≤ k ∧ k < 2 ^ 63 ∧ l.length * k.toNat ≤ sizeLine) (.ret (List.replicate k.toNat l).flatten)
  | _ => .fail
theorem l_rep (ha : LF X K fs a wl) (hb : EF X K fs b wb) : LF X K fs (.BinOp a .Mult b pos) (.bind wl fun l => .bind wb fun y => repW l y) := ⟨PE.imp (pe_op op_rep ha.p hb.p) fun σ H Q ⟨sr, q⟩ => ⟨sr, wl.mono (fun l q1 a vs H1 g1 s1 n e v => ⟨s1, wb.mono (fun y q2 u2 H2 g2 s2 v2 => by
  cases v2 with
  | int k =>
    have no := sr.noOwn n
    have e2 := (g2.keepN e no)
    have r2 := g2.vrs s1 v
    refine ⟨a, k, vs, rfl, rfl, e2, q2.1.1, q2.1.2.1, by rw [r2.length]; exact q2.1.2.2, fun p hp => ?_⟩
    have sm := same_new hp (.lst (List.replicate k.toNat vs).flatten)
    have gg := g1.trans g2
    exact q2.2 p _ _ (gg.trans (GoE.same sm)) (s2.same sm) (gg.there p hp) upd_same (VRs.tk sm.tupsK (r2.rep k.toNat))
  | _ => exact q2.elim) q1⟩) q⟩⟩
def part : PV → W (Option Int)
  | .int i => .ret (some i)
  | _ => .fail
theorem o_none : OF X K fs none (.ret none) := ⟨PO.imp po_none fun σ H Q ⟨sr, q⟩ => q H .refl sr⟩
theorem o_some (h : EF X K fs e w) : OF X K fs (some e) (.bind w part) := ⟨PO.imp (po_some h.p) fun σ H Q ⟨sr, q⟩ => ⟨sr, w.mono (fun x q1 u1 H1 g1 s1 v1 => by
  cases v1 with
  | int i => exact ⟨_, rfl, q1 H1 g1 s1⟩
  | _ => exact q1.elim) q⟩⟩
variable {el eh : Option Expr} {lo hi wst : W (Option Int)}
theorem l_sl (hK : X.K = K) (he : QLF X K fs e wl) (hl : OF X K fs el lo) (hh : OF X K fs eh hi) : LF X K fs (.Subscript e (.Slice el eh none p2) pos) (.bind wl fun l => .bind lo fun i => .bind hi fun j => .ret (cutP l i j)) := ⟨PE.imp (pe_slice (sl_listk K hK) he.p hl.p hh.p) fun σ H Q ⟨sr, q⟩ => ⟨sr, wl.mono (fun l q1 u1 H1 g1 s1 _ v1 => ⟨s1, lo.mono (fun i q2 H2 g2 s2 => ⟨s2, hi.mono (fun j q3 H3 g3 s3 => by
  obtain ⟨a, vs, rfl, h1, r1⟩ := v1 H3 (g2.trans g3) s3
  exact ⟨a, vs, rfl, h1, new_l ((g1.trans g2).trans g3) s3 (r1.cut i j) q3⟩) q2⟩) q1⟩) q⟩⟩
def slSW (x : PV) (i j : Option Int) : W PV := match x with
  | .str z => .chk (z.length ≤ sizeLine) (.ret (.str (Txt.slice z i j)))
  | _ => .fail
theorem e_slS (he : EF X K fs e w) (hl : OF X K fs el lo) (hh : OF X K fs eh hi) : EF X K fs (.Subscript e (.Slice el eh none p2) pos) (.bind w fun x => .bind lo fun i => .bind hi fun j => slSW x i j) := ⟨PE.imp (pe_slice sl_str he.p hl.p hh.p) fun σ H Q ⟨sr, q⟩ => ⟨sr, w.mono (fun x q1 u1 H1 g1 s1 v1 => ⟨s1, lo.mono (fun i q2 H2 g2 s2 => ⟨s2, hi.mono (fun j q3 H3 g3 s3 => by
  cases v1 with
  | str z => exact ⟨_, rfl, q3.1, q3.2 _ H3 ((g1.trans g2).trans g3) s3 (.str _)⟩
  | _ => exact q3.elim) q2⟩) q1⟩) q⟩⟩
theorem eq_nil_core (h : QLF X K fs e wl) {neg : Bool} : ∀ σ H Q, fE K fs (.bind wl fun l => .ret (.bl (if neg then !l.isEmpty else l.isEmpty))) σ H Q → tOp (fun x y H Q => ∃ p q xs, x = .ref p ∧ y = .ref q ∧ SqL K H p xs ∧ SqL K H q [] ∧ Q (.bl (if neg then !xs.isEmpty else xs.isEmpty)) H) (fQL K fs wl) (fL K fs (.ret [])) σ H Q := fun σ H Q ⟨sr, q⟩ =>
  ⟨sr, wl.mono (fun l q1 u1 H1 g1 s1 _ v1 => ⟨s1, fun a2 vs2 H2 g2 s2 n2 e2 r2 => by
    cases r2
    obtain ⟨a, vs, rfl, h1, r1⟩ := v1 H2 g2 s2
    refine ⟨a, a2, vs, rfl, rfl, h1, SqL.of e2, ?_⟩
    rw [empty_of r1]
    exact q1 _ H2 (g1.trans g2) s2 (.bl _)⟩) q⟩
theorem l_nil : LF X K fs (.List [] pos) (.ret []) := l_lst (n := 0) a_nil
theorem e_eqN (hK : X.K = K) (hu : X.A.units + 200 < cLine) (h : QLF X K fs e wl) (hk : behindInMarks .Eq (.List [] p2) = false := by rfl) : EF X K fs (.Compare e [.Eq] [.List [] p2] pos) (.bind wl fun l => .ret (.bl l.isEmpty)) := ⟨PE.imp (pe_cmpR (op_eq_nilk K hK (by omega)) h.p l_nil.p hk) (eq_nil_core (neg := false) h)⟩
theorem t_neN (hK : X.K = K) (hu : X.A.units + 200 < cLine) (h : QLF X K fs e wl) (hk : behindInMarks .NotEq (.List [] p2) = false := by rfl) : TF X K fs (.Compare e [.NotEq] [.List [] p2] pos) (.bind wl fun l => .ret (!l.isEmpty)) := ⟨PT.imp (pt_cmpR (op_ne_nilk K hK (by omega)) h.p l_nil.p hk) fun σ H Q q => eq_nil_core (neg := true) h σ H _ (fT_B (w := .bind wl fun l => .ret (.bl (!l.isEmpty))) σ H Q q)⟩
end
end FL
set_option Elab.async false
set_option linter.all false
set_option maxRecDepth 100000
namespace FL
open PySem PySem.Spec PyProof.Rows L2 PL
variable [TabC]
variable {K : PySem.W.Frag}
abbrev b2 (m : M2) (wa wb : W PV) : W PV := .bind wa fun x => .bind wb fun y => of2 m x y
abbrev t2 (m : M2) (wa wb : W PV) : W Bool := .bind wa fun x => .bind wb fun y => .bind (of2 m x y) asB
abbrev c1 (m : MB1) (w : W PV) : W PV := .bind w fun x => of1 m [x]
abbrev ixB (wl : W (List PV)) (wb : W PV) : W PV := .bind wl fun l => .bind wb fun y => ixW l y
abbrev tand (a b : W Bool) : W Bool := .bind a fun k => if k = true then b else .ret false
abbrev tor (a b : W Bool) : W Bool := .bind a fun k => if k = true then .ret true else b
abbrev tnot (a : W Bool) : W Bool := .bind a fun k => .ret (!k)
abbrev iteB {α : Type} (t : W Bool) (a b : W α) : W α := .bind t fun k => if k = true then a else b
section
variable {X : Cx} {a b c e o iter tg : Expr} {body rest : List Stmt} {pos p p2 : Pos} {fs : FSt} {S T T2 : Type} {hd : S → FSt} {s0 : S} {w we : W PV} {wl : W (List PV)} {wt : PV → W T2} {is : List Nat} {fs2 : S → T2 → FSt} {k : S → W T} {out : T → End} {x : Bool}
theorem SF.for1 {i : Nat} {f : PV → S → W S} (hp : PassesOwn (model X.prog X.w) X.A X.env X.xe) (hc : X.calm = true) (hi : ITF X K fs tg iter wl) (hl : LeF fs (hd s0)) (hg : PG X tg (gName i)) (hb : ∀ s p, SF X K false ((hd s).set i (some (.val p))) body (f p s) fun s' => .nc (hd s')) (hr : ∀ s, SF X K x (hd s) rest (k s) out) (hs : ∀ x, foldedSetIterable iter X.env x = pure x := by intro _; rfl) :
    SF X K x fs (.For tg iter body [] pos :: rest) (.bind wl fun l => .bind (forW l s0 f) k) out := SF.for (wt := .ret) (wb := fun p s => f p s) hp hc hi hl (fun s => g_1 hg) (fun _ _ => rfl) hb hr hs
theorem SF.forF1 {i : Nat} {R : Type} {inj : R → T} {f : PV → S → W (Lp S R)} (hp : PassesOwn (model X.prog X.w) X.A X.env X.xe) (hc : X.calm = true) (hi : ITF X K fs tg iter wl) (hl : LeF fs (hd s0)) (hg : PG X tg (gName i)) (ho : ∀ t, (out (inj t)).isOut) (hb : ∀ s p, SF X K false ((hd s).set i (some (.val p))) body (f p s) (lpE hd fun r => out (inj r))) (hr : ∀ s, SF X K x (hd s) rest (k s) out) (hs : ∀ x, foldedSetIterable iter X.env x = pure x := by intro _; rfl) :
    SF X K x fs (.For tg iter body [] pos :: rest) (.bind wl fun l => .bind (FL.forF l s0 f) (goW k inj)) out := SF.forF (wt := .ret) (wb := fun p s => f p s) hp hc hi hl (fun s => g_1 hg) (fun _ _ => rfl) ho hb hr hs
theorem SF.par {i j : Nat} {y z : Str} {wa wb : W PV} {px py pt pt2 : Pos} {kt k2 : Nat} {k : PV → PV → W T} (hc : X.calm = true) (hN : X.N.Nodup) (hi : X.N[i]? = some y) (hj : X.N[j]? = some z) (hij : i ≠ j) (hx : X.env.scope.names.lookup y = some .local) (hy : X.env.scope.names.lookup z = some .local)
    (ha : EF X K fs a wa) (hb : EF X K fs b wb) (hr : ∀ u v, SF X K x ((fs.set i (some (.val u))).set j (some (.val v))) rest (k u v) out)
    (hw : swappedStores [.Tuple [.Name y px, .Name z py] kt pt] (.Tuple [a, b] k2 pt2) X.env = pure (some [y, z]) := by rfl) (hs : swapsWithSole [.Tuple [.Name y px, .Name z py] kt pt] (.Tuple [a, b] k2 pt2) pos.line X.env = pure false := by rfl)
    (he : starEach [a, b] X.env = (false, eval a X.env) :: starEach [b] X.env := by rfl) (he2 : starEach [b] X.env = (false, eval b X.env) :: starEach [] X.env := by rfl) :
    SF X K x fs (.Assign [.Tuple [.Name y px, .Name z py] kt pt] (.Tuple [a, b] k2 pt2) pos :: rest) (.bind wa fun u => .bind wb fun v => k u v) out :=
  SF.step (ps_par hc hN hi hj hij hx hy (pa_cons ha.p (pa_cons hb.p pa_nil he2) he) hw hs) fun D σ H ⟨sr, q⟩ => ⟨sr, wa.mono (fun u q1 u1 H1 g1 s1 v1 => ⟨s1, wb.mono (fun v q2 u2 H2 g2 s2 v2 => by
    have s3 := s2.putV (g2.vr s1 v1) i
    have s4 := s3.putV v2 j
    exact ⟨_, _, rfl, _, k u v, hr u v, s4, (k u v).mono (fun t q3 => q3.go (((g1.trans g2).f.trans (GoF.putV s2 _ _ i)).trans (GoF.putV s3 _ _ j)) sr s4) q2⟩) q1⟩) q⟩
theorem bor {pins : List (Addr × Obj)} {s : Shared} {σ : L2.St} {H : Hp} {i : Nat} {t : SL} (I : Inv X pins σ H s) (sr : SRf K H σ fs) (hs : fs[i]? = some (some t)) (hb : t.bw = true) : ∃ a o ob, Inv X pins σ (upd H a (.frz ob o)) s ∧ SRf K (upd H a (.frz ob o)) σ (fs.set i (some (.val t.bv))) ∧
    ∀ σ' s' H1, Inv X pins σ' H1 s' → GoE σ (fs.set i (some (.val t.bv))) (upd H a (.frz ob o)) H1 → SRf K H1 σ (fs.set i (some (.val t.bv))) → Inv X pins σ' (upd H1 a o) s' ∧ GoE σ fs H (upd H1 a o) ∧ SRf K (upd H1 a o) σ fs ∧ (∀ p vs, H1 p = some (.tup vs) → upd H1 a o p = some (.tup vs)) ∧ ∀ p vs, p ≠ a → H1 p = some (.lst vs) → upd H1 a o p = some (.lst vs) := by
  have ho := SL.bw_own hb
  obtain ⟨u, e1, ⟨v, e, _⟩ | ⟨a, e, oa⟩⟩ := sr.at' i _ hs
  · subst e; cases hb
  subst e
  obtain ⟨ob, o, h1, n1, n2, I2, vr⟩ := frzO I oa hb
  have h0 : ∀ o u, X.H₀ a ≠ some (.frz o u) := fun o u z => by
    have := I.base.frzs a o u z
    rw [h1] at this; exact n2 _ _ (Option.some.inj this)
  refine ⟨a, o, ob, I2, sr.frzd hs ho e1 h1 n1 n2 vr, fun σ' s' H1 J g s1 => ?_⟩
  have pf : ∀ φ b, PotOf σ (fs.set i (some (.val t.bv))) φ b → PotOf σ fs φ b := fun φ b ⟨j, z1, z3⟩ => by
    rcases set_get z1 with ⟨_, z⟩ | ⟨n, z1⟩
    · cases z
    · exact ⟨j, z1, z3⟩
  have npa : ∀ φ, ¬ PotOf σ fs φ a := fun φ ⟨j, z1, z3⟩ => by
    have := sr.nd j i _ _ a a a z1 hs rfl ho z3 e1 (.inl rfl) (.inl rfl)
    subst this
    rw [hs] at z1; cases z1; cases hb
  have e2 := g.keep a _ upd_same fun φ p => npa φ (pf φ a p)
  have hk := hok_thaw J.hok e2
  have ow : o.ow = true := by
    obtain ⟨o', z1, _, _, z2⟩ := oa.ex ho (.inl rfl)
    rw [h1] at z1; cases z1; exact z2
  have ge : GoE σ fs H (upd H1 a o) := by
    refine ⟨fun b o z n nt => ?_, fun b z => ?_⟩
    · by_cases c : b = a
      · subst c; rw [h1] at z; cases z; exact upd_same
      · rw [upd_ne c]
        exact g.keep b o (by rw [upd_ne c]; exact z) (fun φ p => n φ (pf φ b p)) nt
    · by_cases c : b = a
      · subst c; rw [upd_same] at z; cases z
      · rw [upd_ne c] at z
        have := g.there b z
        rw [upd_ne c] at this; exact this
  refine ⟨J.thaw e2 h0 (hk a _ upd_same) hk, ge, ⟨sr.len, fun j t z => ?_, sr.nd, s1.tb.thaw J.hok e2 ow⟩, fun p vs z => ?_, fun p vs n z => by rw [upd_ne n]; exact z⟩
  · obtain ⟨u, k1, k2⟩ := sr.at' j t z
    refine ⟨u, k1, ?_⟩
    by_cases c : ∃ φ, t = .pot φ
    · obtain ⟨φ, rfl⟩ := c
      have ji : j ≠ i := fun y => by subst y; rw [hs] at z; cases z; cases hb
      rcases k2 with ⟨v, y, _⟩ | ⟨b, rfl, _⟩
      · cases y
      · obtain ⟨vs, y1, y2⟩ := s1.ownAt (t := .pot φ) (i := j) (by rw [get_set_other ji]; exact z) rfl k1
        refine .inr ⟨b, rfl, vs, ?_, y2⟩
        rw [upd_ne (fun y => by subst y; exact npa φ ⟨j, z, k1⟩)]; exact y1
    · refine k2.mono (ge.tups sr) (fun x b o eb ow hb zz nt => ge.keep b o zz (fun φ ⟨j', p1, p3⟩ => ?_) nt)
      subst eb
      have := sr.nd j j' t _ x b b z p1 ow rfl k1 p3 hb (.inl rfl)
      subst this
      rw [z] at p1
      cases p1
      exact c ⟨φ, rfl⟩
  · rw [upd_ne (fun y => by subst y; rw [e2] at z; cases z)]; exact z
theorem t_bor (i : Nat) {t0 : SL} {t : W Bool} (hs : fs[i]? = some (some t0)) (h : TF X K (fs.set i (some (.val t0.bv))) e t) (hb : t0.bw = true := by rfl) : TF X K fs e t := ⟨fun pins s σ H Q I ⟨sr, q⟩ => by
  obtain ⟨a, o, ob, I2, s2, back⟩ := bor I sr hs hb
  refine thn (h.p pins s σ _ (fun b H1 => GoE σ (fs.set i (some (.val t0.bv))) (upd H a (.frz ob o)) H1 ∧ SRf K H1 σ (fs.set i (some (.val t0.bv))) ∧ ∀ H', GoE σ fs H H' → SRf K H' σ fs → Q b H') I2 ⟨s2, t.mono (fun b q1 H1 g1 s1 => ⟨g1, s1, q1⟩) q⟩) fun b s1 ⟨H1, I1, g1, s1', q1⟩ => ?_
  obtain ⟨I3, g3, s3, _, _⟩ := back σ s1 H1 I1 g1 s1'
  exact ⟨_, I3, q1 _ g3 s3⟩⟩
end
end FL
set_option Elab.async false
set_option linter.all false
set_option maxRecDepth 100000
namespace FL
open PySem PySem.Spec PyProof.Rows L2 PL
variable [TabC]
variable {K : PySem.W.Frag}
def spFO (K : PySem.W.Frag) (m : List PV → List PV → W (PV × List PV)) : Sp := fun vs H Q _ => TB H ∧ ∃ a vs' ws lo l, vs = .ref a :: vs' ∧ H a = some (.lst ws) ∧ VRs K [] H ws lo ∧ VRs K [] H vs' l ∧ (m lo l).run fun t => ∀ u ws' H', (∀ c o, c ≠ a → H c = some o → o.nt = true → H' c = some o) → TB H' → (∀ b, H' b = none → H b = none) → H' a = some (.lst ws') → VRs K [] H' ws' t.2 → VR K [] H' u t.1 → Q u H'
section
variable {P : Program} {w : World} {mg : Str → Option Value} {base : Heap} {x qual : Str} {st : Stmt} {f : Addr} {fd : FuncData} {N ps : List Str} {k n : Nat} {ks : List AK}
def begO (a : Addr) (lo l : List PV) (n : Nat) : FSt := some (.ol (some a) lo) :: (l.map fun v => some (SL.val v)) ++ List.replicate (n - 1 - l.length) none
theorem VRs.slot {H : Hp} {vs : List V} {l : List PV} (r : VRs K [] H vs l) {i : Nat} {s : SL} (h : (l.map fun v => some (SL.val v))[i]? = some (some s)) : ∃ u v, vs[i]? = some u ∧ s = .val v ∧ VR K [] H u v := by
  rw [List.getElem?_map] at h
  cases e : l[i]? with
  | none => rw [e] at h; cases h
  | some v =>
    rw [e] at h
    obtain ⟨u, h1, h2⟩ := r.get e
    cases h
    exact ⟨u, v, h1, rfl, h2⟩
theorem fnO {m : List PV → Cur (PV × List PV) n} (Fn : Fun K x qual st f fd) (S : FnScope N ps (defScope st)) (hn : n + 1 = ps.length)
    (cert : ∀ (a : Addr) (lo l : List PV), l.length = n → ∀ (cdv : Value) (A : Around) (outer : List Env) (s : Shared) (H : Hp) (E : XK), Room k (A.deeper (envOfC qual (defScope st) s.heap.objs.size f cdv)) → SF (cxOf CX0 P w K mg base N qual (defScope st) f cdv A outer s H E).nox K false (begO a lo l N.length) (defBody st) (unc n (m lo) l) fun t => .ro t.1 a t.2) :
    FnOk P w K mg base CX0 (k + 1) f fd ps (spFO K fun lo l => unc n (m lo) l) := by
  refine Fn.ok S (fun vs H Q E h => ?_) (fun cdv A outer s H vs Q E hr h => ?_)
  · obtain ⟨_, a, vs', ws, lo, l, rfl, _, _, r, q⟩ := h
    rw [List.length_cons, r.length, unc_len q]; exact hn
  obtain ⟨tb, a, vs', ws, lo, l, rfl, ha, rw', r, q⟩ := h
  have hl := unc_len q
  have hr2 := r.length
  have getS : ∀ {i : Nat} {s : SL}, (begO a lo l N.length)[i]? = some (some s) → (i = 0 ∧ s = .ol (some a) lo) ∨ ∃ j u v, i = j + 1 ∧ vs'[j]? = some u ∧ s = .val v ∧ VR K [] H u v := fun {i s} e => by
    unfold begO at e
    cases i with
    | zero => simp at e; exact .inl ⟨rfl, e.symm⟩
    | succ j =>
      rw [List.cons_append, List.getElem?_cons_succ] at e
      by_cases c : j < l.length
      · rw [List.getElem?_append_left (by simpa using c)] at e
        obtain ⟨u, v, h1, h2, h3⟩ := VRs.slot r e
        exact .inr ⟨j, u, v, rfl, h1, h2, h3⟩
      · rw [List.getElem?_append_right (by simpa using c), List.getElem?_replicate] at e
        split at e <;> cases e
  have sr : SRf K H (L2.start N (.ref a :: vs')) (begO a lo l N.length) := by
    refine ⟨?_, fun i s e => ?_, fun i j s t x y b e1 e2 o1 o2 q1 q2 _ _ => ?_, tb⟩
    · unfold L2.start begO
      rw [List.length_append, List.length_map, List.length_replicate, List.length_append, List.length_cons, List.length_cons, List.length_map, List.length_replicate]
      omega
    · rcases getS e with ⟨rfl, rfl⟩ | ⟨j, u, v, rfl, h1, rfl, h3⟩
      · exact ⟨.ref a, start_get rfl, .inr ⟨a, rfl, fun b z => Option.some.inj z, ws, ha, rw'⟩⟩
      · exact ⟨u, start_get (by simpa using h1), .inl ⟨v, rfl, h3⟩⟩
    · rcases getS e1 with ⟨rfl, rfl⟩ | ⟨j1, u, v, rfl, h1, rfl, h3⟩
      · rcases getS e2 with ⟨rfl, rfl⟩ | ⟨j1, u, v, rfl, h1, rfl, h3⟩
        · rfl
        · cases o2
      · cases o1
  refine ⟨_, (cert a lo l hl cdv A outer s H E hr).p, sr, (unc n (m lo) l).mono (fun t q1 u σ' fs' H' g s' ho rv => ?_) q⟩
  obtain ⟨i, e⟩ := ho
  obtain ⟨u', e', r'⟩ := s'.at' i _ e
  rcases r' with ⟨v, z, _⟩ | ⟨b, rfl, hb, ws', h1, h2⟩
  · cases z
  have hba := hb a rfl
  subst hba
  refine q1 u ws' H' (fun c o nc e => (g.keep c o e fun z => ?_).1) s'.tb g.there h1 h2 rv
  obtain ⟨j, t', x, z1, z2, z3, z4⟩ := z
  rcases getS z1 with ⟨rfl, rfl⟩ | ⟨j1, u, v, rfl, _, rfl, _⟩
  · have := start_inv z3
    simp at this
    rcases z4 with rfl | z4
    · exact nc this.symm
    · cases z4
  · cases z2
def PotP (G : List Int → Prop) : List V → Prop := fun ws => ∃ ns : List Int, ws = ns.map V.int ∧ G ns
theorem pot_fn {G : List Int → Prop} {m : List PV → List PV → W (PV × List PV)} {mp : List PV → W PV} (F : FnOk P w K mg base CX0 k f fd ps (spFO K m)) (hm : ∀ ns l Q, G ns → (mp l).run Q → (m (ns.map PV.int) l).run fun t => Q t.1 ∧ ∃ ns' : List Int, t.2 = ns'.map PV.int ∧ G ns') :
    FnOk P w K mg base CX0 k f fd ps (spF K (.p (PotP G) :: List.replicate n .v) mp) := F.imp fun vs H Q E h => by
  obtain ⟨tb, l, ha, q⟩ := h
  cases ha with
  | @p a φ ws vs ks l e r t =>
    obtain ⟨ns, rfl, hG⟩ := r
    have tv : ∀ {n : Nat} {vs : List V} {l : List PV}, ArgC K H vs (List.replicate n .v) l → VRs K [] H vs l := by
      intro n
      induction n with
      | zero => intro vs l h; cases h; exact .nil
      | succ n ih => intro vs l h; cases h with | v r t => exact .cons r (ih t)
    refine ⟨tb, a, vs, ns.map V.int, ns.map PV.int, l, rfl, e, ints_vr _ _ ns, tv t, (m _ _).mono (fun t q1 u ws' H' sx tb' hth e' r' rv => ?_) (hm ns l _ hG q)⟩
    obtain ⟨q1, ns', et, hG'⟩ := q1
    rw [et] at r'
    have := ints_vs r'
    subst this
    refine q1 u H' ⟨fun b o eb nb nt => sx b o (fun z => ?_) eb nt, tb', hth, fun b φ p => ?_⟩ rv
    · subst z
      exact nb _ ⟨0, rfl, rfl⟩
    · obtain ⟨i, e1, e2⟩ := p
      cases i with
      | zero => simp at e1 e2; subst e1; subst e2; exact ⟨_, e', ns', rfl, hG'⟩
      | succ i =>
        simp at e1
        rw [List.getElem?_replicate] at e1
        split at e1 <;> simp at e1
end
section
variable {X : Cx} {sts : List Stmt} {fs : FSt} {T : Type} {w : W T} {out : T → End} {x : Bool}
def potW (G : List Int → Prop) (l : List PV) (w : W T) : W T := .chk (∃ ns : List Int, l = ns.map PV.int ∧ G ns) w
theorem SF.pot (i : Nat) {l : List PV} {G : List Int → Prop} (hs : fs[i]? = some (some (.ol none l))) (hr : SF X K x (fs.set i (some (.pot (PotP G)))) sts w out) : SF X K x fs sts (potW G l w) out := ⟨fun pins s σ H D I ⟨sr, q⟩ => by
  obtain ⟨⟨ns, el, hG⟩, q⟩ := q
  obtain ⟨a, ws, e1, h1, r1⟩ := own_at sr hs
  subst el
  have := ints_vs r1
  subst this
  obtain ⟨s2, g2⟩ := own_change (t' := .pot (PotP G)) sr hs rfl (by simp) e1 (fun _ _ _ z => z : SameX a H H) fun tk => ⟨_, h1, ns, rfl, hG⟩
  exact hr.p pins s σ H D I ⟨s2, w.mono (fun t q2 => q2.go g2 sr s2) q⟩⟩
end
end FL
set_option Elab.async false
set_option linter.all false
set_option maxRecDepth 100000
namespace FL
open PySem PySem.Spec PyProof.Rows L2 PL
variable [TabC]
variable {K : PySem.W.Frag}
abbrev chT (m m' : M2) (wa wb wc : W PV) : W Bool := .bind wa fun x => .bind wb fun y => .bind (of2 m x y) fun z => .bind (chainW z (.bind wc fun w => of2 m' y w)) asB
abbrev andB (wa wb : W PV) : W PV := .bind wa fun x => andW x wb
abbrev frzB (wl : W (List PV)) : W PV := .bind wl fun l => .ret (.cl l)
abbrev lcB (t : W Bool) (w : W PV) : W (Option PV) := .bind t fun k => if k = true then .bind w fun v => .ret (some v) else .ret none
section
variable {X : Cx} {a b c e o elt tg iter : Expr} {es : List Expr} {pos p p2 : Pos} {fs : FSt} {k k' n : Nat} {ps : List Str} {x : Str} {ks : List AK} {R : Type} {W' : W PV} {WL : W (List PV)}
theorem e_callx {m : List PV → W PV} {B : (List PV → W PV) → W PV} (G : Cal X.prog X.w X.K X.mg X.base x k ps (spF K ks m)) (hr : Room k' X.A) (hk : k ≤ k') (hg : Gl X x) (ha : AF X K fs (e :: es) ks B) (hW : W' = B m) (hdb : (x == ("__debug__" : Str)) = false := by decide)
    (he : starEach (e :: es) X.env = (false, eval e X.env) :: starEach es X.env := by rfl) (hpl : (backTo pos (starEach es X.env)).any (·.1) = false := by rfl) : EF X K fs (.Call (.Name x p) (e :: es) [] pos) W' := hW ▸ e_call G hr hk hg ha hdb he hpl
theorem l_callx {m : List PV → W (List PV)} {B : (List PV → W (List PV)) → W (List PV)} (G : Cal X.prog X.w X.K X.mg X.base x k ps (spFL K ks m)) (hr : Room k' X.A) (hk : k ≤ k') (hg : Gl X x) (ha : AF X K fs (e :: es) ks B) (hW : WL = B m) (hdb : (x == ("__debug__" : Str)) = false := by decide)
    (he : starEach (e :: es) X.env = (false, eval e X.env) :: starEach es X.env := by rfl) (hpl : (backTo pos (starEach es X.env)).any (·.1) = false := by rfl) : LF X K fs (.Call (.Name x p) (e :: es) [] pos) WL := hW ▸ l_call G hr hk hg ha hdb he hpl
theorem e_tupx {x1} {B : (List PV → W PV) → W PV} (h : AF X K fs es (List.replicate n .v) B) (hW : W' = B fun l => .ret (.tup l)) (hn : n ≤ 1000 := by decide) : EF X K fs (.Tuple es x1 pos) W' := hW ▸ e_tup h hn
theorem l_lstx {B : (List PV → W (List PV)) → W (List PV)} (h : AF X K fs es (List.replicate n .v) B) (hW : WL = B fun l => .ret l) (hn : n ≤ 1000 := by decide) : LF X K fs (.List es pos) WL := hW ▸ l_lst h hn
variable {ifs : List Expr} {sc : Scope} {N' : List Str} {ix : List (Option Nat)} {wl : W (List PV)} {T2 : Type} {wt : PV → W T2} {is : List Nat} {fs2 : T2 → FSt} {tf : T2 → W Bool} {te : T2 → W PV}
theorem l_map1 {i : Nat} {f : PV → W PV} (hc : X.calm = true) (S : LcScope X.env.scope X.N sc N' ix) (hi : ITF X K fs tg iter wl) (hg : ∀ cl C s2 H2 fp, PG (blk X sc N' cl C s2 H2 fp) tg (gName i)) (he : ∀ cl C s2 H2 fp t, EF (blk X sc N' cl C s2 H2 fp) K ((blkF ix fs).set i (some (.val t))) elt (f t)) (h0 : ix[i]? = some none) (hs : ∀ x, foldedSetIterable iter X.env x = pure x := by intro _; rfl) :
    LF X K fs (.ListComp elt [⟨tg, iter, [], 0⟩] sc pos) (.bind wl fun l => mapW l f) :=
  have h1 : (blkF ix fs)[i]? = some none := by unfold blkF; rw [List.getElem?_map, h0]; rfl
  l_map hc S hi (fun cl C s2 H2 fp => g_1 (hg cl C s2 H2 fp)) he (fun _ => rfl) (lay1 h1) (fun j hj => by rw [List.mem_singleton] at hj; subst hj; exact h0) hs
theorem l_lc1 {i : Nat} {tf : PV → W Bool} {te : PV → W PV} (hc : X.calm = true) (S : LcScope X.env.scope X.N sc N' ix) (hi : ITF X K fs tg iter wl) (hg : ∀ cl C s2 H2 fp, PG (blk X sc N' cl C s2 H2 fp) tg (gName i)) (hf : ∀ cl C s2 H2 fp t, TF (blk X sc N' cl C s2 H2 fp) K ((blkF ix fs).set i (some (.val t))) c (tf t)) (he : ∀ cl C s2 H2 fp t, EF (blk X sc N' cl C s2 H2 fp) K ((blkF ix fs).set i (some (.val t))) elt (te t)) (h0 : ix[i]? = some none) (hs : ∀ x, foldedSetIterable iter X.env x = pure x := by intro _; rfl) :
    LF X K fs (.ListComp elt [⟨tg, iter, [c], 0⟩] sc pos) (.bind wl fun l => lcW l fun p => lcB (tf p) (te p)) :=
  have h1 : (blkF ix fs)[i]? = some none := by unfold blkF; rw [List.getElem?_map, h0]; rfl
  l_lc (wt := .ret) (tf := tf) (te := te) hc S hi (fun cl C s2 H2 fp => g_1 (hg cl C s2 H2 fp)) (fun cl C s2 H2 fp t => ff_one (hf cl C s2 H2 fp t)) he (fun _ => rfl) (lay1 h1) (fun j hj => by rw [List.mem_singleton] at hj; subst hj; exact h0) hs
variable {rest : List Stmt} {T : Type} {out : T → End} {x0 : Bool} {kk : List PV → W T} {i : Nat} {y : Str} {px spos : Pos}
end
theorem fn_no {P : Program} {w : World} {mg : Str → Option Value} {base : Heap} {f : Addr} {fd : FuncData} {ps : List Str} {k : Nat} {sp : Sp} (h : ∀ vs H Q E, ¬ sp vs H Q E) : FnOk P w K mg base CX0 k f fd ps sp := ⟨fun vs H Q E q => (h _ _ _ _ q).elim, fun A outer s H args us vs Q E _ _ _ _ q => (h _ _ _ _ q).elim⟩
theorem spFL_no {ks : List AK} {n : Nat} {m : Cur (List PV) n} (h : ∀ l Q, l.length = n → ¬ (unc n m l).run Q) : ∀ vs H Q E, ¬ spFL K ks (unc n m) vs H Q E := fun vs H Q E ⟨_, l, _, q⟩ => h l _ (unc_len q) q
theorem room_u {k : Nat} {A : Around} (hr : Room k A) : A.units + 200 < cLine := by have := hr.un; omega
end FL
set_option Elab.async false
set_option linter.all false
set_option maxRecDepth 100000
set_option maxHeartbeats 4000000
namespace FL
open PySem PySem.Spec PyProof.Rows L2 PL
variable [TabC]
variable {K : PySem.W.Frag}
mutual
def PV.fok : PV → Bool
  | .tup l => fokL l
  | .cl l => fokL l
  | .ref _ => false
  | .ty _ => false
  | .dv _ _ => false
  | _ => true
def fokL : List PV → Bool
  | [] => true
  | x :: l => PV.fok x && fokL l
end
mutual
def PV.fdep : PV → Nat
  | .tup l => fdepL l + 1
  | .cl l => fdepL l + 1
  | _ => 0
def fdepL : List PV → Nat
  | [] => 0
  | x :: l => max (PV.fdep x) (fdepL l)
end
mutual
def feq : PV → PV → Bool
  | .non, .non => true
  | .bl a, .bl b => a == b
  | .bl a, .int b => (if a then 1 else 0) == b
  | .int a, .bl b => a == (if b then 1 else 0)
  | .int a, .int b => a == b
  | .str a, .str b => a == b
  | .tup l, .tup m => feqs l m
  | .cl l, .cl m => feqs l m
  | _, _ => false
def feqs : List PV → List PV → Bool
  | [], [] => true
  | x :: l, y :: m => feq x y && feqs l m
  | _, _ => false
end
theorem fokL_get : ∀ {l : List PV} {j : Nat} {x : PV}, fokL l = true → l[j]? = some x → PV.fok x = true
  | [], _, _, _, e => by simp at e
  | y :: l, 0, x, h, e => by
    simp at e; subst e
    rw [fokL, Bool.and_eq_true] at h; exact h.1
  | y :: l, j + 1, x, h, e => by
    rw [fokL, Bool.and_eq_true] at h
    exact fokL_get h.2 (by simpa using e)
theorem fdepL_get : ∀ {l : List PV} {j : Nat} {x : PV}, l[j]? = some x → PV.fdep x ≤ fdepL l
  | [], _, _, e => by simp at e
  | y :: l, 0, x, e => by
    simp at e; subst e
    rw [fdepL]; omega
  | y :: l, j + 1, x, e => by
    have := fdepL_get (l := l) (j := j) (x := x) (by simpa using e)
    rw [fdepL]; omega
mutual
theorem feq_refl : ∀ (x : PV), PV.fok x = true → feq x x = true
  | .non, _ => by rw [feq]
  | .bl b, _ => by rw [feq]; simp
  | .int i, _ => by rw [feq]; simp
  | .str i, _ => by rw [feq]; simp
  | .tup l, h => by rw [feq]; exact feqs_refl l (by rw [PV.fok] at h; exact h)
  | .cl l, h => by rw [feq]; exact feqs_refl l (by rw [PV.fok] at h; exact h)
  | .ref _, h => by rw [PV.fok] at h; cases h
  | .ty _, h => by rw [PV.fok] at h; cases h
  | .dv _ _, h => by rw [PV.fok] at h; cases h
theorem feqs_refl : ∀ (l : List PV), fokL l = true → feqs l l = true
  | [], _ => by rw [feqs]
  | x :: l, h => by
    rw [fokL, Bool.and_eq_true] at h
    rw [feqs, feq_refl x h.1, feqs_refl l h.2]; rfl
end
def eqJF (l m : List PV) (j : Nat) : Bool := match l[j]?, m[j]? with | some x, some y => feq x y | _, _ => true
theorem feqs_all : ∀ (l m : List PV), ((List.range (min l.length m.length)).all (eqJF l m) && l.length == m.length) = feqs l m
  | [], [] => by rw [feqs]; rfl
  | [], _ :: _ => by
    rw [feqs]
    · simp
    · intros; simp_all
    · intros; simp_all
  | _ :: _, [] => by
    rw [feqs]
    · simp
    · intros; simp_all
    · intros; simp_all
  | x :: l, y :: m => by
    rw [feqs, ← feqs_all l m]
    have e : min (x :: l).length (y :: m).length = min l.length m.length + 1 := by simp only [List.length_cons]; omega
    rw [e, List.range_succ_eq_map, List.all_cons, List.all_map]
    have e2 : ((x :: l).length == (y :: m).length) = (l.length == m.length) := by simp
    rw [e2, Bool.and_assoc]
    rfl
theorem feqs_len {l m : List PV} (h : l.length ≠ m.length) : feqs l m = false := by
  rw [← feqs_all]
  have : (l.length == m.length) = false := by simpa using h
  rw [this, Bool.and_false]
section
variable {X : Cx} {pins : List (Addr × Obj)} {σ : L2.St} {H : Hp} {s : Shared}
mutual
theorem VR.fnI (I : Inv X pins σ H s) : ∀ {v : V} {x y : PV}, VR X.K [] H v x → VR X.K [] H v y → x = y
  | _, _, _, .non, h => by cases h; rfl
  | _, _, _, .bl b, h => by cases h; rfl
  | _, _, _, .int b, h => by cases h; rfl
  | _, _, _, .str b, h => by cases h; rfl
  | _, _, _, .ty b, h => by cases h; rfl
  | _, _, _, .ref e, h => by simp at e
  | _, _, _, .tup e r, h => by
    cases h with
    | tup e' r' =>
      have ee := I.tuple_inj (SqT.of e) (SqT.of e')
      subst ee
      rw [VRs.fnI I r r']
    | ref e => simp at e
    | cl e' r' =>
      obtain ⟨its, _, ⟨o, n, h1, h2, _⟩, _⟩ := I.list e'.sq
      obtain ⟨its', _, ⟨o', h1', h2', _⟩, _⟩ := I.tuple (SqT.of e)
      rw [h1] at h1'; cases h1'; rw [h2] at h2'; simp at h2'
    | dk e' _ _ => rw [e] at e'; cases e'
    | dt e' _ _ => rw [e] at e'; cases e'
  | _, _, _, .dk e k r, h => by
    cases h with
    | dk e' k' r' => rw [e] at e'; cases e'; rw [k, k', VRs.fnI I r r']
    | dt e' _ _ => rw [e] at e'; cases e'
    | ref e => simp at e
    | tup e' _ => rw [e] at e'; cases e'
    | cl e' r' =>
      obtain ⟨its, _, ⟨o, n, h1, h2, _⟩, _⟩ := I.list e'.sq
      obtain ⟨_, _, vs, _, o', _, _, h1', h2', _⟩ := dk_rd I.hok (.inr ⟨_, e⟩)
      rw [h1] at h1'; cases h1'; have h3 := h2'.1; rw [h2] at h3; simp at h3
  | _, _, _, .dt e k r, h => by
    cases h with
    | dt e' k' r' => rw [e] at e'; cases e'; rw [k, k', VRs.fnI I r r']
    | dk e' _ _ => rw [e] at e'; cases e'
    | ref e => simp at e
    | tup e' _ => rw [e] at e'; cases e'
    | cl e' r' =>
      obtain ⟨its, _, ⟨o, n, h1, h2, _⟩, _⟩ := I.list e'.sq
      obtain ⟨_, _, vs, _, o', _, _, h1', h2', _⟩ := dt_rd I.hok (.inr ⟨_, e⟩)
      rw [h1] at h1'; cases h1'; have h3 := h2'.1; rw [h2] at h3; simp at h3
  | _, _, _, .cl e r, h => by
    cases h with
    | dk e' _ _ =>
      obtain ⟨its, _, ⟨o, n, h1, h2, _⟩, _⟩ := I.list e.sq
      obtain ⟨_, _, vs, _, o', _, _, h1', h2', _⟩ := dk_rd I.hok (.inr ⟨_, e'⟩)
      rw [h1] at h1'; cases h1'; have h3 := h2'.1; rw [h2] at h3; simp at h3
    | dt e' _ _ =>
      obtain ⟨its, _, ⟨o, n, h1, h2, _⟩, _⟩ := I.list e.sq
      obtain ⟨_, _, vs, _, o', _, _, h1', h2', _⟩ := dt_rd I.hok (.inr ⟨_, e'⟩)
      rw [h1] at h1'; cases h1'; have h3 := h2'.1; rw [h2] at h3; simp at h3
    | cl e' r' =>
      obtain ⟨its, k, ⟨o, n, h1, h2, h3, h4⟩, _⟩ := I.list e.sq
      obtain ⟨its', k', ⟨o', n', h1', h2', h3', h4'⟩, _⟩ := I.list e'.sq
      rw [h1] at h1'; cases h1'
      rw [h4] at h4'
      have : its = its' := by injection h4' with a b; simpa using a
      subst this
      have ee := Vals.inj k k'
      subst ee
      rw [VRs.fnI I r r']
    | ref e => simp at e
    | tup e' r' =>
      obtain ⟨its, _, ⟨o, n, h1, h2, _⟩, _⟩ := I.list e.sq
      obtain ⟨its', _, ⟨o', h1', h2', _⟩, _⟩ := I.tuple (SqT.of e')
      rw [h1] at h1'; cases h1'; rw [h2] at h2'; simp at h2'
theorem VRs.fnI (I : Inv X pins σ H s) : ∀ {v : List V} {x y : List PV}, VRs X.K [] H v x → VRs X.K [] H v y → x = y
  | _, _, _, .nil, h => by cases h; rfl
  | _, _, _, .cons r t, h => by
    cases h with
    | cons r' t' => rw [VR.fnI I r r', VRs.fnI I t t']
end
structure Cmp (A : Around) (s : Shared) (w w' : Value) (b : Bool) : Prop where
  rc : SeqAt.RcAt A s w w' b
  ne : SeqAt.RcNeAt A s w w' (!b)
  eq : SeqAt.EqAt A s w w' b
theorem elemF (I : Inv X pins σ H s) {A : Around} {vs ws : List V} {l m : List PV} {its its' : List Value} (r : Vals vs its) (r' : Vals ws its') (r1 : VRs X.K [] H vs l) (r2 : VRs X.K [] H ws m)
    (ih : ∀ (j : Nat) (x y : PV) (v v' : V) (w w' : Value), l[j]? = some x → m[j]? = some y → VR X.K [] H v x → VR X.K [] H v' y → RelV v w → RelV v' w' → SeqAt.EqAt A s w w' (feq x y)) :
    ∀ j (g1 : j < its.toArray.size) (g2 : j < its'.toArray.size), SeqAt.EqAt A s its.toArray[j] its'.toArray[j] (eqJF l m j) := fun j g1 g2 => by
  have h1 : j < its.length := by simpa using g1
  have h2 : j < its'.length := by simpa using g2
  have hl : j < l.length := by rw [← r1.length, r.length]; exact h1
  have hm : j < m.length := by rw [← r2.length, r'.length]; exact h2
  obtain ⟨v, v1, v2⟩ := r1.get (List.getElem?_eq_getElem hl)
  obtain ⟨v', v1', v2'⟩ := r2.get (List.getElem?_eq_getElem hm)
  obtain ⟨u, u1, u2⟩ := r.get v1
  obtain ⟨u', u1', u2'⟩ := r'.get v1'
  rw [List.getElem?_eq_getElem h1] at u1
  rw [List.getElem?_eq_getElem h2] at u1'
  cases u1
  cases u1'
  unfold eqJF
  rw [List.getElem?_eq_getElem hl, List.getElem?_eq_getElem hm]
  have := ih j _ _ v v' _ _ (List.getElem?_eq_getElem hl) (List.getElem?_eq_getElem hm) v2 v2' u2 u2'
  simpa using this
inductive Sh (X : Cx) (H : Hp) (s : Shared) : PV → Value → Prop
  | non : Sh X H s .non .none
  | bl (b) : Sh X H s (.bl b) (.bool b)
  | int (i t) : Sh X H s (.int i) (.int i t)
  | str (x t) : Sh X H s (.str x) (.str x t)
  | tup {p vs its l} (e : VR X.K [] H (.ref p) (.tup l)) (k : Vals vs its) (r : VRs X.K [] H vs l) (h : s.heap.IsTuple p its.toArray) : Sh X H s (.tup l) (.ref p)
  | cl {p vs its l} (e : VR X.K [] H (.ref p) (.cl l)) (k : Vals vs its) (r : VRs X.K [] H vs l) (h : s.heap.IsList p its.toArray) : Sh X H s (.cl l) (.ref p)
theorem Sh.of (I : Inv X pins σ H s) {v : V} {x : PV} {w : Value} (h : VR X.K [] H v x) (r : RelV v w) (d : PV.fok x = true) : Sh X H s x w := by
  cases h with
  | ref e => simp at e
  | non => cases r; exact .non
  | bl a => cases r; exact .bl a
  | int a => obtain ⟨t, rfl⟩ := r; exact .int a t
  | str a => obtain ⟨t, rfl⟩ := r; exact .str a t
  | tup e q =>
    cases r
    obtain ⟨its, k, ht, _⟩ := I.tuple (SqT.of e)
    exact .tup (.tup e q) k q ht
  | cl e q =>
    cases r
    obtain ⟨its, k, pl, _⟩ := I.list e.sq
    exact .cl (.cl e q) k q pl.isList
  | _ => rw [PV.fok] at d; cases d
set_option maxHeartbeats 8000000 in
theorem cmpF (hK : X.K = K) (I : Inv X pins σ H s) : ∀ (n : Nat) (x y : PV) (A : Around) (v v' : V) (w w' : Value), PV.fdep x ≤ n → PV.fok x = true → PV.fok y = true → VR K [] H v x → VR K [] H v' y → RelV v w → RelV v' w' → A.units + n + 1 < cLine → Cmp A s w w' (feq x y) := by
  subst hK
  intro n
  induction n using Nat.strongRecOn with
  | ind n ih =>
  intro x y A v v' w w' hd dx dy hv hv' r1 r2 hu
  have a := Sh.of I hv r1 dx
  have b := Sh.of I hv' r2 dy
  clear hv hv' r1 r2
  have el : ∀ {l m : List PV} {vs ws : List V} {its its2 : List Value}, fokL l = true → fokL m = true → fdepL l < n → Vals vs its → Vals ws its2 → VRs X.K [] H vs l → VRs X.K [] H ws m → its.toArray.size = l.length ∧ its2.toArray.size = m.length ∧ ∀ j (g1 : j < its.toArray.size) (g2 : j < its2.toArray.size), SeqAt.EqAt A.in1 s its.toArray[j] its2.toArray[j] (eqJF l m j) := fun d1 d2 hd k1 k2 r r' => ⟨by rw [List.size_toArray, ← k1.length, r.length], by rw [List.size_toArray, ← k2.length, r'.length], elemF I (A := A.in1) k1 k2 r r' fun j x y v v' w w' hx hy vx vy rx ry => (ih _ hd x y A.in1 v v' w w' (fdepL_get hx) (fokL_get d1 hx) (fokL_get d2 hy) vx vy rx ry (by show A.units + 1 + _ + 1 < _; omega)).eq⟩
  have fin : ∀ {pa pb : Addr} {l m : List PV}, (pa = pb → l = m) → fokL l = true → SeqAt.RcAt A s (.ref pa) (.ref pb) (feqs l m) → SeqAt.EqAt A s (.ref pa) (.ref pb) (feqs l m) := fun {pa pb l m} h d q => by
    by_cases hab : pa = pb
    · rw [h hab, feqs_refl _ (h hab ▸ d), hab]; exact SeqAt.EqAt.same _
    · exact SeqAt.EqAt.of_refs hab q
  cases a <;> cases b
  case tup.tup pa vs its l e k r ht pb ws its2 m e2 k2 r2 ht2 =>
    rw [PV.fdep] at hd
    obtain ⟨z1, z2, ie⟩ := el dx dy (by omega) k k2 r r2
    have q1 := SeqAt.RcAt.tuples ht ht2 (A := A) (by omega) ie
    have q2 := SeqAt.RcNeAt.tuples ht ht2 (A := A) (by omega) ie
    rw [z1, z2, feqs_all] at q1 q2
    exact ⟨q1, q2, fin (fun z => by subst z; have := VR.fnI I e e2; injection this) dx q1⟩
  case cl.cl pa vs its l e k r ht pb ws its2 m e2 k2 r2 ht2 =>
    rw [PV.fdep] at hd
    obtain ⟨z1, z2, ie⟩ := el dx dy (by omega) k k2 r r2
    by_cases hz : l.length = m.length
    · have q1 := SeqAt.RcAt.lists ht ht2 (by rw [z1, z2]; exact hz) (A := A) (by omega) ie
      have q2 := SeqAt.RcNeAt.lists ht ht2 (by rw [z1, z2]; exact hz) (A := A) (by omega) ie
      have ef : (List.range l.length).all (eqJF l m) = feqs l m := by rw [← feqs_all, hz, Nat.min_self, beq_self_eq_true, Bool.and_true]
      rw [z1, ef] at q1 q2
      exact ⟨q1, q2, fin (fun z => by subst z; have := VR.fnI I e e2; injection this) dx q1⟩
    · have q1 := SeqAt.RcAt.lists_lengths (A := A) ht ht2 (by rw [z1, z2]; simpa using hz) (by omega)
      have q2 := SeqAt.RcNeAt.lists_lengths (A := A) ht ht2 (by rw [z1, z2]; simpa using hz) (by omega)
      have ef := feqs_len hz
      rw [← ef] at q1
      have q2 : SeqAt.RcNeAt A s (.ref pa) (.ref pb) (!feqs l m) := by rw [ef]; exact q2
      exact ⟨q1, q2, fin (fun z => by subst z; have := VR.fnI I e e2; injection this) dx q1⟩
  all_goals
    clear ih el fin
    rw [feq] <;> try (intros; simp_all; done)
    refine ⟨?_, ?_, ?_⟩ <;> (try simp only [Bool.not_true, Bool.not_false]) <;> first | with_reducible exact .none_none | with_reducible exact .none_bool _ | with_reducible exact .none_int _ _ | with_reducible exact .none_str _ _ | with_reducible exact .none_tuple ‹_› (by omega) | with_reducible exact .none_list ‹_› (by omega) | with_reducible exact .bool_none _ | with_reducible exact .bool_str _ _ _ | with_reducible exact .bool_tuple _ ‹_› (by omega) | with_reducible exact .bool_list _ ‹_› (by omega) | with_reducible exact .int_none _ _ | with_reducible exact .int_str _ _ _ _ | with_reducible exact .int_tuple _ _ ‹_› (by omega) | with_reducible exact .int_list _ _ ‹_› (by omega) | with_reducible exact .str_none _ _ | with_reducible exact .str_bool _ _ _ | with_reducible exact .str_int _ _ _ _ | with_reducible exact .str_tuple _ _ ‹_› (by omega) | with_reducible exact .str_list _ _ ‹_› (by omega) | with_reducible exact .tuple_none ‹_› (by omega) | with_reducible exact .tuple_bool _ ‹_› (by omega) | with_reducible exact .tuple_int _ _ ‹_› (by omega) | with_reducible exact .tuple_str _ _ ‹_› (by omega) | with_reducible exact .tuple_list ‹_› ‹_› (by omega) | with_reducible exact .list_none ‹_› (by omega) | with_reducible exact .list_bool _ ‹_› (by omega) | with_reducible exact .list_int _ _ ‹_› (by omega) | with_reducible exact .list_str _ _ ‹_› (by omega) | with_reducible exact .list_tuple ‹_› ‹_› (by omega) | exact .same _ | exact .bool_bool _ _ | exact .bool_int _ _ _ | exact .int_bool _ _ _ | exact .int_int _ _ _ _ | exact .str_str _ _ _ _
end
end FL
set_option Elab.async false
set_option linter.all false
set_option maxRecDepth 100000
namespace FL
open PySem PySem.Spec PyProof.Rows L2 PL
variable [TabC]
variable {K : PySem.W.Frag}
mutual
theorem VR.noref {ι : List Addr} {H : Hp} : ∀ {v : V} {q : PV}, VR K ι H v q → PV.fok q = true → VR K [] H v q
  | _, _, .non, _ => .non
  | _, _, .bl b, _ => .bl b
  | _, _, .int i, _ => .int i
  | _, _, .str x, _ => .str x
  | _, _, .ty n, h => by rw [PV.fok] at h; cases h
  | _, _, .dk _ _ _, h => by rw [PV.fok] at h; cases h
  | _, _, .dt _ _ _, h => by rw [PV.fok] at h; cases h
  | _, _, .tup e r, h => .tup e (VRs.noref r (by rw [PV.fok] at h; exact h))
  | _, _, .cl e r, h => .cl e (VRs.noref r (by rw [PV.fok] at h; exact h))
  | _, _, .ref e, h => by rw [PV.fok] at h; cases h
theorem VRs.noref {ι : List Addr} {H : Hp} : ∀ {v : List V} {q : List PV}, VRs K ι H v q → fokL q = true → VRs K [] H v q
  | _, _, .nil, _ => .nil
  | _, _, .cons r s, h => by
    rw [fokL, Bool.and_eq_true] at h
    exact .cons (VR.noref r h.1) (VRs.noref s h.2)
end
def eqOk (x y : PV) : Prop := PV.fok x = true ∧ PV.fok y = true ∧ PV.fdep x ≤ 150
def oEqF : M2 := ⟨fun x y h Q => eqOk x y ∧ Q (.bl (feq x y)) h, fun f q => ⟨q.1, f _ _ q.2⟩⟩
def rEqG (K : PySem.W.Frag) (neg : Bool) : R2 := fun u v H Q => ∃ x y, VR K [] H u x ∧ VR K [] H v y ∧ eqOk x y ∧ Q (.bl (if neg then !feq x y else feq x y)) H
section
variable {X : Cx} {b : Expr}
theorem op_eqG (hK : X.K = K) (hu : X.A.units + 200 < cLine) : OpR X (compareOp .Eq) (rEqG K false) := fun pins s σ H u v w w' Q I r1 r2 ⟨x, y, h1, h2, ⟨o1, o2, o3⟩, q⟩ => by
  exact EqBoolInt.of_rc (cmpF hK I 150 x y X.A u v w w' o3 o1 o2 h1 h2 r1 r2 (by omega)).rc ⟨.bl _, H, I, rfl, q⟩
theorem oEqF_ok : M2.Ok K (rEqG K false) oEqF := fun {ι H h u v x y Q} hr hu hv q => ⟨x, y, VR.noref hu q.1.1, VR.noref hv q.1.2.1, q.1, q.2 ι _ H (Go.refl _ _) hr (.bl _)⟩
theorem jf_eq (hK : X.K = K) (hu : X.A.units + 200 < cLine) : JC X K .Eq b oEqF := ⟨⟨_, op_eqG hK hu, oEqF_ok⟩, nomark _⟩
end
end FL
set_option Elab.async false
set_option linter.all false
set_option maxRecDepth 100000
set_option Elab.async false
set_option linter.all false
set_option maxRecDepth 100000
namespace L2
open PySem PySem.Spec PyProof.Rows
variable {X : Cx}
def rCatG (K : PySem.W.Frag) : R2 := fun x y H Q => ∃ a b xs ys, x = .ref a ∧ y = .ref b ∧ SqT K H a xs ∧ SqT K H b ys ∧ xs.length + ys.length ≤ sizeLine ∧
  (xs = [] → Q (.ref b) H) ∧ (xs ≠ [] → ys = [] → Q (.ref a) H) ∧ (xs ≠ [] → ys ≠ [] → newO H (.tup (xs ++ ys)) Q)
theorem op_catG (K : PySem.W.Frag) (hK : X.K = K) : OpR X (binaryOp .Add) (rCatG K) := by
  subst hK
  intro pins s σ H x y v u Q I rx ry h
  obtain ⟨a, b, xs, ys, rfl, rfl, ha, hb, hz, q0, q1, q2⟩ := h
  by_cases c : xs = []
  · cases rx
    cases ry
    obtain ⟨its, r1, p1, _⟩ := I.tuple ha
    obtain ⟨its2, r2, p2, _⟩ := I.tuple hb
    obtain ⟨⟨cls, dd, data, sl⟩, ho, hc, n, hd⟩ := id p1
    obtain ⟨⟨cls2, dd2, data2, sl2⟩, ho2, hc2, n2, hd2⟩ := id p2
    simp only at hc hd hc2 hd2
    subst hc hd hc2 hd2
    exact concat_meets ⟨_, ho, rfl⟩ ⟨_, ho2, rfl⟩ noFill_tuple_add seq_tuple_add PySem.F.slot_tuple_add PySem.F.entry_tuple_add (PySem.F.args_tuple_add_2 _ _)
      (tuple_addW0 a b its.toArray its2.toArray n n2 dd dd2 sl sl2 (by rw [r1.nil_iff.mpr c]; rfl)) ⟨ho, ho2, .ref b, H, I, rfl, q0 c⟩
  · exact op_catT pins s σ H _ _ v u Q I rx ry ⟨a, b, xs, ys, rfl, rfl, ha, hb, c, hz, q1 c, fun n p hp => (q2 c n).at p hp⟩
end L2
namespace FL
open PySem PySem.Spec PyProof.Rows L2 PL
variable [TabC]
variable {K : PySem.W.Frag}
section
variable {X : Cx} {a b c e o : Expr} {es : List Expr} {pos p p1 p2 p3 p4 : Pos} {fs : FSt} {w wa wb wc : W PV} {wl wm : W (List PV)}
def addW : PV → PV → W PV
  | .int i, .int j => .ret (.int (i + j))
  | .str a, .str b => .chk (a.length + b.length ≤ sizeLine) (.ret (.str (a ++ b)))
  | .tup a, .tup b => .chk (a.length + b.length ≤ sizeLine) (.ret (.tup (a ++ b)))
  | _, _ => .fail
theorem e_addF (hK : X.K = K) (ha : EF X K fs a wa) (hb : EF X K fs b wb) : EF X K fs (.BinOp a .Add b pos) (.bind wa fun x => .bind wb fun y => addW x y) :=
  ⟨PE.imp (pe_op ((op_addk K hK).or (op_catG K hK)) ha.p hb.p) fun σ H Q ⟨sr, q⟩ => ⟨sr, wa.mono (fun x q1 u1 H1 g1 s1 v1 => ⟨s1, wb.mono (fun y q2 u2 H2 g2 s2 v2 => by
    have v1' := g2.vr s1 v1
    cases v1' with
    | int i =>
      cases v2 with
      | int j => exact .inl ⟨_, rfl, q2 _ H2 (g1.trans g2) s2 (.int _)⟩
      | _ => exact q2.elim
    | str i =>
      cases v2 with
      | str j => exact .inl ⟨_, rfl, q2.1, q2.2 _ H2 (g1.trans g2) s2 (.str _)⟩
      | _ => exact q2.elim
    | @tup p vs l e r =>
      cases v2 with
      | @tup p' vs' l' e' r' =>
        refine .inr ⟨p, p', vs, vs', rfl, rfl, SqT.of e, SqT.of e', by rw [r.length, r'.length]; exact q2.1, fun z => ?_, fun _ z => ?_, fun _ _ q H3 s3 h3 n3 => ?_⟩
        · have z' := (PL.VRs.nil_iff r).mp z
          subst z'
          exact q2.2 _ H2 (g1.trans g2) s2 (.tup e' r')
        · have z' := (PL.VRs.nil_iff r').mp z
          subst z'
          have q2 := q2.2
          rw [List.append_nil] at q2
          exact q2 _ H2 (g1.trans g2) s2 (.tup e r)
        · exact q2.2 _ H3 ((g1.trans g2).trans (GoE.same s3)) (s2.same s3) (.tup h3 (VRs.tk s3.tupsK (r.append r')))
      | _ => exact q2.elim
    | _ => exact q2.elim) q1⟩) q⟩⟩
variable {el eh : Option Expr} {st : Expr} {lo hi ws : W (Option Int)}
end
end FL
set_option Elab.async false
set_option linter.all false
set_option maxRecDepth 100000
set_option Elab.async false
set_option linter.all false
set_option maxRecDepth 100000
namespace FL
open PySem PySem.Spec PyProof.Rows L2 PL
variable [TabC]
variable {K : PySem.W.Frag}
section
variable {X : Cx} {pins : List (Addr × Obj)} {σ : L2.St} {H : Hp} {s : Shared}
open Classical in
noncomputable def eqG (K : PySem.W.Frag) (H : Hp) (x : PV) (w : Value) : Bool := decide (∃ p v, RelV v w ∧ VR K [] H v p ∧ feq p x = true)
open Classical in
theorem eqG_of (hK : X.K = K) (I : Inv X pins σ H s) {x p : PV} {v : V} {w : Value} (r : RelV v w) (h : VR K [] H v p) : eqG K H x w = feq p x := by
  subst hK
  cases e : feq p x with
  | true => exact decide_eq_true ⟨p, v, r, h, e⟩
  | false =>
    refine decide_eq_false ?_
    rintro ⟨p', v', r', h', e'⟩
    have := relV_inj r r'
    subst this
    rw [VR.fnI I h h', e'] at e
    cases e
theorem eqG_map (hK : X.K = K) (I : Inv X pins σ H s) {x : PV} : ∀ {vs : List V} {its : List Value} {l : List PV}, Vals vs its → VRs K [] H vs l → its.map (eqG K H x) = l.map fun y => feq y x
  | _, _, _, .nil, .nil => rfl
  | _, _, _, .cons r t, .cons q z => by rw [List.map_cons, List.map_cons, eqG_of hK I r q, eqG_map hK I t z]
def inOk (x : PV) (l : List PV) : Prop := PV.fok x = true ∧ fokL l = true ∧ fdepL l ≤ 150
theorem eqG_at (hK : X.K = K) (I : Inv X pins σ H s) {A : Around} {x : PV} {v : V} {w : Value} (hx : VR K [] H v x) (rx : RelV v w) (dx : PV.fok x = true) (hu : A.units + 150 + 1 < cLine) :
    ∀ {vs : List V} {its : List Value} {l : List PV}, Vals vs its → VRs K [] H vs l → fokL l = true → fdepL l ≤ 150 → ∀ u ∈ its, SeqAt.EqAt A s u w (eqG K H x u)
  | _, _, _, .nil, .nil, _, _, u, hu => by cases hu
  | _, _, _, .cons r t, .cons q z, d, dd, u, hm => by
    rw [fokL, Bool.and_eq_true] at d
    rw [fdepL] at dd
    rcases List.mem_cons.mp hm with rfl | hm
    · rw [eqG_of hK I r q]
      exact (cmpF hK I 150 _ x A _ v _ w (by omega) d.1 dx q hx r rx hu).eq
    · exact eqG_at hK I hx rx dx hu t z d.2 (by omega) u hm
end
def hasF (x : PV) (l : List PV) : Bool := l.any fun y => feq y x
def rInF (K : PySem.W.Frag) (neg : Bool) : R2 := fun x y H Q => ∃ p vs l xp, y = .ref p ∧ (SqL K H p vs ∨ SqT K H p vs) ∧ VRs K [] H vs l ∧ VR K [] H x xp ∧ inOk xp l ∧ Q (.bl (if neg then !hasF xp l else hasF xp l)) H
section
variable {X : Cx}
theorem any_map' {α : Type} (f : α → Bool) : ∀ l : List α, l.any f = (l.map f).any id
  | [] => rfl
  | x :: l => by rw [List.any_cons, List.map_cons, List.any_cons, any_map' f l]; rfl
theorem op_inF (K : PySem.W.Frag) (hK : X.K = K) (hu : X.A.units + 200 < cLine) : OpR X (compareOp .In) (rInF K false) := by
  intro pins s σ H x y v u Q I rx ry h
  obtain ⟨p, vs, l, xp, rfl, hq, hl, hx, ok, q⟩ := h
  cases ry
  have hu' : X.A.in1.units + 150 + 1 < cLine := by show X.A.units + 1 + 150 + 1 < _; omega
  have fin : ∀ {its : List Value}, Vals vs its → its.toArray.any (eqG K H xp) = hasF xp l := fun {its} r => by
    rw [show its.toArray.any (eqG K H xp) = its.any (eqG K H xp) by simp, any_map', eqG_map hK I r hl, ← any_map']; rfl
  rcases hq with hq | hq
  · obtain ⟨its, r, pl, hz⟩ := I.list (show SqL X.K H p vs by rw [hK]; exact hq)
    refine SeqAt.in_listAt (eqG K H xp) pl.isList (fun w hw => eqG_at hK I hx rx ok.1 hu' r hl ok.2.1 ok.2.2 w (by simpa using hw)) ⟨.bl _, H, I, rfl, ?_⟩
    rw [fin r]; exact q
  · obtain ⟨its, r, pl, hz⟩ := I.tuple (show SqT X.K H p vs by rw [hK]; exact hq)
    refine SeqAt.in_tupleAt (eqG K H xp) pl (fun w hw => eqG_at hK I hx rx ok.1 hu' r hl ok.2.1 ok.2.2 w (by simpa using hw)) ⟨.bl _, H, I, rfl, ?_⟩
    rw [fin r]; exact q
theorem op_ninF (K : PySem.W.Frag) (hK : X.K = K) (hu : X.A.units + 200 < cLine) : OpR X (compareOp .NotIn) (rInF K true) := by
  intro pins s σ H x y v u Q I rx ry h
  obtain ⟨p, vs, l, xp, rfl, hq, hl, hx, ok, q⟩ := h
  cases ry
  have hu' : X.A.in1.units + 150 + 1 < cLine := by show X.A.units + 1 + 150 + 1 < _; omega
  have fin : ∀ {its : List Value}, Vals vs its → its.toArray.any (eqG K H xp) = hasF xp l := fun {its} r => by
    rw [show its.toArray.any (eqG K H xp) = its.any (eqG K H xp) by simp, any_map', eqG_map hK I r hl, ← any_map']; rfl
  rcases hq with hq | hq
  · obtain ⟨its, r, pl, hz⟩ := I.list (show SqL X.K H p vs by rw [hK]; exact hq)
    refine SeqAt.notIn_listAt (eqG K H xp) pl.isList (fun w hw => eqG_at hK I hx rx ok.1 hu' r hl ok.2.1 ok.2.2 w (by simpa using hw)) ⟨.bl _, H, I, rfl, ?_⟩
    rw [fin r]; exact q
  · obtain ⟨its, r, pl, hz⟩ := I.tuple (show SqT X.K H p vs by rw [hK]; exact hq)
    refine SeqAt.notIn_tupleAt (eqG K H xp) pl (fun w hw => eqG_at hK I hx rx ok.1 hu' r hl ok.2.1 ok.2.2 w (by simpa using hw)) ⟨.bl _, H, I, rfl, ?_⟩
    rw [fin r]; exact q
end
end FL
set_option Elab.async false
set_option linter.all false
set_option maxRecDepth 100000
namespace FL
open PySem PySem.Spec PyProof.Rows L2 PL
variable [TabC]
variable {K : PySem.W.Frag}
section
variable {X : Cx} {a b c e o : Expr} {es : List Expr} {pos p p1 p2 p3 p4 apos cpos : Pos} {fs : FSt} {w wa wb wc : W PV} {wl wm : W (List PV)}
def inW' (neg : Bool) (x : PV) (l : List PV) : W Bool := .chk (inOk x l) (.ret (if neg then !hasF x l else hasF x l))
def blW (b : Bool) : W PV := .ret (.bl b)
theorem fE_inF {neg : Bool} : ∀ σ H Q, fE K fs (.bind wa fun x => .bind wl fun l => .bind (inW' neg x l) blW) σ H Q → tOp (rInF K neg) (fE K fs wa) (fQ K fs wl) σ H Q := fun σ H Q ⟨sr, q⟩ =>
  ⟨sr, wa.mono (fun x q1 u1 H1 g1 s1 v1 => ⟨s1, wl.mono (fun l q2 u2 H2 g2 s2 v2 => by
    obtain ⟨ad, vs, rfl, h, rs⟩ := v2.sq s2
    exact ⟨ad, vs, l, x, rfl, h, rs, g2.vr s1 v1, q2.1, q2.2 _ H2 (g1.trans g2) s2 (.bl _)⟩) q1⟩) q⟩
theorem fT_inF {neg : Bool} : ∀ σ H Q, fT K fs (.bind wa fun x => .bind wl fun l => inW' neg x l) σ H Q → tOp (rInF K neg) (fE K fs wa) (fQ K fs wl) σ H fun x H' => ∃ k, x = .bl k ∧ Q k H' := fun σ H Q ⟨sr, q⟩ =>
  ⟨sr, wa.mono (fun x q1 u1 H1 g1 s1 v1 => ⟨s1, wl.mono (fun l q2 u2 H2 g2 s2 v2 => by
    obtain ⟨ad, vs, rfl, h, rs⟩ := v2.sq s2
    exact ⟨ad, vs, l, x, rfl, h, rs, g2.vr s1 v1, q2.1, _, rfl, q2.2 H2 (g1.trans g2) s2⟩) q1⟩) q⟩
theorem e_inF (hK : X.K = K) (hu : X.A.units + 200 < cLine) (ha : EF X K fs a wa) (hb : QF X K fs b wl) (hk : behindInMarks .In b = false := by rfl) : EF X K fs (.Compare a [.In] [b] pos) (.bind wa fun x => .bind wl fun l => .bind (inW' false x l) blW) := ⟨PE.imp (pe_cmpR (op_inF K hK hu) ha.p hb.p hk) (fE_inF (neg := false))⟩
theorem t_ninF (hK : X.K = K) (hu : X.A.units + 200 < cLine) (ha : EF X K fs a wa) (hb : QF X K fs b wl) (hk : behindInMarks .NotIn b = false := by rfl) : TF X K fs (.Compare a [.NotIn] [b] pos) (.bind wa fun x => .bind wl fun l => inW' true x l) := ⟨PT.imp (pt_cmpR (op_ninF K hK hu) ha.p hb.p hk) (fT_inF (neg := true))⟩
abbrev inFB (neg : Bool) (wa : W PV) (wl : W (List PV)) : W PV := .bind wa fun x => .bind wl fun l => .bind (inW' neg x l) blW
abbrev inFT (neg : Bool) (wa : W PV) (wl : W (List PV)) : W Bool := .bind wa fun x => .bind wl fun l => inW' neg x l
variable {el eh : Option Expr} {st : Expr} {lo hi ws : W (Option Int)}
end
end FL
set_option Elab.async false
set_option linter.all false
set_option maxRecDepth 100000
namespace FL
open PySem PySem.Spec PyProof.Rows L2 PL
variable [TabC]
variable {K : PySem.W.Frag}
section
variable {X : Cx} {e : Expr} {rest : List Stmt} {pos p apos cpos tpos : Pos} {fs : FSt} {T : Type} {out : T → End} {x : Bool} {we wi wa wb : W PV} {wl : W (List PV)} {q0 : Option Addr} {l : List PV} {y : Str}
def ixN0 (l : List PV) : PV → W PV
  | .int k => .chk (0 ≤ k ∧ k < 1000) (.ofO l[k.toNat]?)
  | _ => .fail
def slsW (l : List PV) (i j : PV) (m : List PV) : W (List PV) := match i, j with
  | .int a, .int c => .chk (0 ≤ a ∧ a ≤ c ∧ c ≤ l.length ∧ l.length + m.length ≤ sizeLine) (.ret (l.take a.toNat ++ m ++ l.drop c.toNat))
  | _, _ => .fail
theorem SF.slset (i : Nat) {lo hi : Expr} {p2 : Pos} {k : List PV → W T} (hs : fs[i]? = some (some (.ol q0 l))) (hN : X.N[i]? = some y) (hv : Vis X.env.scope y) (he : LF X K fs e wl) (hl : EF X K fs lo wa) (hh : EF X K fs hi wb) (hr : ∀ l', SF X K x (fs.set i (some (.ol q0 l'))) rest (k l') out)
    (ha : ∀ v, assign (.Subscript (.Name y p) (.Slice (some lo) (some hi) none p2) tpos) X.env v = (do
      let ov ← holding [v] (eval (.Name y p) X.env)
      let iv ← holding [v, ov] (eval (.Slice (some lo) (some hi) none p2) X.env)
      standAt tpos
      holding [v, ov, iv] (setItem ov iv v)
      release [iv, v, ov] []) := by intro _; rfl)
    (hd : (y == ("__debug__" : Str)) = false := by decide) (hcd : (y == ("__classdict__" : Str)) = false := by decide)
    (hss : swapsWithSole [.Subscript (.Name y p) (.Slice (some lo) (some hi) none p2) tpos] e pos.line X.env = pure false := by rfl) (hw : swappedStores [.Subscript (.Name y p) (.Slice (some lo) (some hi) none p2) tpos] e X.env = pure none := by rfl)
    (h1 : (assignEach [.Subscript (.Name y p) (.Slice (some lo) (some hi) none p2) tpos] X.env).map (·.2) = [assign (.Subscript (.Name y p) (.Slice (some lo) (some hi) none p2) tpos) X.env] := by rfl) :
    SF X K x fs (.Assign [.Subscript (.Name y p) (.Slice (some lo) (some hi) none p2) tpos] e pos :: rest) (.bind wl fun m => .bind wa fun a => .bind wb fun b => .bind (slsW l a b m) k) out :=
  SF.step (ps_asg he.p (pg_slice (pe_var hN hv hd hcd) hl.p hh.p ha) hss hw h1) fun D σ H ⟨sr, q⟩ => by
    refine ⟨sr, wl.mono (fun m q1 b vb H1 g1 s1 nb eb rb => ?_) q⟩
    obtain ⟨a, ws, e1, h1, r1⟩ := own_at s1 hs
    refine ⟨_, e1, s1, wa.mono (fun i1 q2 u2 H2 g2 s2 v2 => ⟨s2, wb.mono (fun j1 q3 u3 H3 g3 s3 v3 => ?_) q2⟩) q1⟩
    obtain ⟨a', ws3, e3', h3', r3'⟩ := own_at s3 hs
    rw [e1] at e3'
    cases e3'
    have v2' := g3.vr s2 v2
    have no : ¬ Owns σ fs b := sr.noOwn nb
    have eb3 := (g2.trans g3).keepN eb no
    have rb3 := (g2.trans g3).vrs s1 rb
    have ne : a ≠ b := fun z => no ⟨i, _, a, hs, rfl, e1, .inl z.symm⟩
    cases v2' with
    | int aa =>
      cases v3 with
      | int cc =>
        have q3 : (0 ≤ aa ∧ aa ≤ cc ∧ cc ≤ l.length ∧ l.length + m.length ≤ sizeLine) ∧ (k (l.take aa.toNat ++ m ++ l.drop cc.toNat)).run _ := q3
        obtain ⟨⟨c1, c2, c3, c4⟩, q3⟩ := q3
        refine ⟨a, b, ws3, vb, aa, cc, rfl, rfl, rfl, rfl, h3', eb3, ne, c1, c2, by rw [r3'.length]; exact c3, by rw [r3'.length, rb3.length]; exact c4, ?_⟩
        have sx : SameX a H3 (upd H3 a (.lst (ws3.take aa.toNat ++ vb ++ ws3.drop cc.toNat))) := fun z o n hz => by rw [upd_ne n]; exact hz
        obtain ⟨s4, g4⟩ := own_put s3 hs e1 sx upd_same (((r3'.take aa.toNat).append rb3).append (r3'.drop cc.toNat))
        exact ⟨_, k _, hr _, s4, (k _).mono (fun t q4 => q4.go (((g1.trans g2).trans g3).f.trans g4) sr s4) q3⟩
      | _ => exact q3.elim
    | _ => exact q3.elim
end
end FL
set_option Elab.async false
set_option linter.all false
set_option maxRecDepth 100000
namespace FL
open PySem PySem.Spec PyProof.Rows L2 PL
variable [TabC]
variable {K : PySem.W.Frag}
abbrev w2 (f : PV → PV → W PV) (wa wb : W PV) : W PV := .bind wa fun x => .bind wb fun y => f x y
def spC (K : PySem.W.Frag) (us : List V) (qs : List PV) (fz : List (Addr × Obj)) (sp : Sp) : Sp := fun vs H Q E => VRs K [] H us qs ∧ FzO H fz ∧ sp vs H Q E
structure CalA (P : Program) (w : World) (K : PySem.W.Frag) (mg : Str → Option Value) (base : Heap) (f : Addr) (us : List V) (qs : List PV) (fz : List (Addr × Obj)) (k : Nat) (ps : List Str) (sp : Sp) where
  fd : FuncData
  ok : FnOk P w K mg base CX0 k f fd ps (spC K us qs fz sp)
  bi : Binds K fd ps []
  kp : ∀ h : Heap, K.In h → (∀ b o, base.get? b = some o → h.get? b = some o) → (∀ p ∈ fz, h.get? p.1 = some p.2) → PySem.W.FnAt f h
section
variable {X : Cx} {e : Expr} {es : List Expr} {pos p : Pos} {fs : FSt} {k k' : Nat} {ps : List Str} {x : Str} {ks : List AK} {R : Type} {B : (List PV → W R) → W R} {fa : Addr} {W' : W PV} {us : List V} {qs : List PV} {fz : List (Addr × Obj)}
theorem a_fn (hg : Gl X x) (hm : X.mg x = some (.ref fa)) (hr : AF X K fs es ks B) (hd : (x == ("__debug__" : Str)) = false := by decide) (hst : starEach (.Name x pos :: es) X.env = (false, eval (.Name x pos) X.env) :: starEach es X.env := by rfl) : AF X K fs (.Name x pos :: es) (.f fa [] [] [] :: ks) B := by
  obtain ⟨wr, hp, hB⟩ := hr.p
  refine ⟨wr, PA.imp (pa_cons (pe_glob (v := .ref fa) hg hm rfl hd) hp hst) fun σ H Q ⟨sr, q⟩ => ?_, hB⟩
  exact ⟨sr, wr.mono (fun l q2 vs H2 g2 s2 v2 => q2 _ H2 g2 s2 (.f .nil .nil v2)) q⟩
theorem e_callv {m : List PV → W PV} {B : (List PV → W PV) → W PV} (i : Nat) (G : CalA X.prog X.w X.K X.mg X.base fa us qs fz k ps (spF K ks m)) (hK : X.K = K) (hr : Room k' X.A) (hk : k ≤ k') (hs : fs[i]? = some (some (.adr fa us qs fz))) (ha : AF X K fs (e :: es) ks B) (hW : W' = B m) (hN : X.N[i]? = some x := by rfl) (hv : Vis X.env.scope x := by first | exact Or.inl rfl | exact Or.inr (Or.inl rfl) | exact Or.inr (Or.inr rfl)) (hd : (x == ("__debug__" : Str)) = false := by decide) (hcd : (x == ("__classdict__" : Str)) = false := by decide)
    (he : starEach (e :: es) X.env = (false, eval e X.env) :: starEach es X.env := by rfl) (hpl : (backTo pos (starEach es X.env)).any (·.1) = false := by rfl) : EF X K fs (.Call (.Name x p) (e :: es) [] pos) W' := by
  subst hW hK
  obtain ⟨w, hp, hB⟩ := ha.p
  rw [hB]
  refine ⟨fun pins s σ H Q I ⟨sr, q⟩ => ?_⟩
  obtain ⟨u, e1, r⟩ := sr.at' i _ hs
  rcases r with ⟨v, e, _⟩ | ⟨a, e, r⟩
  · cases e
  obtain ⟨rfl, rv, rz⟩ : a = fa ∧ VRs X.K [] H us qs ∧ FzO H fz := r
  subst e
  refine wpAny_Call_Name_kw (thn (pe_var hN hv hd hcd pins s σ H (fun y H1 => y = .ref a ∧ H1 = H) I ⟨_, e1, rfl, rfl⟩) fun v s1 ⟨y, H1, I1, r1, ey, eH⟩ => ?_)
  subst ey
  subst eH
  cases r1
  have kz : ∀ {σ' : L2.St} {H' : Hp} {s' : Shared}, Inv X pins σ' H' s' → FzO H' fz → PySem.W.FnAt a s'.heap := fun J z => G.kp _ J.kIn J.bk fun p hp => let ⟨u, e⟩ := z p hp; (J.hok _ _ e).1
  refine PySem.W.callWith_F (kz I1 rz) (thn (hp pos pins s1 σ H1 (fun vs H2 => FzO H2 fz ∧ spC X.K us qs fz (spF X.K ks m) (vs ++ []) H2 Q E0) I1 ⟨sr, w.mono (fun l q1 vs H1' g1 s1' v1 => ?_) q⟩) fun us' s2 ⟨vs, H2, I2, r, z2, q2⟩ => ⟨kz I2 z2, run_fn (dvs := []) (ds := []) (E := E0) G.ok (hr.mono hk) G.bi .nil pass0 I2 r q2⟩) he hpl
  have z1 := rz.tk (g1.tups sr)
  show FzO H1' fz ∧ spC X.K us qs fz (spF X.K ks m) (vs ++ []) H1' Q E0
  rw [List.append_nil]
  exact ⟨z1, VRs.tk (g1.tups sr) rv, z1, s1'.tb, l, v1.c s1', (m l).mono (fun z q2 u H2 g2 r2 => let ⟨s2, g3⟩ := g2.caller v1 s1'; q2 u H2 (g1.trans g3) s2 r2) q1⟩
end
def keyW : PV → W Key
  | .int i => .ret (.inl i)
  | .str s => .ret (.inr s)
  | _ => .fail
def hasK (kvs : List (Key × PV)) (k : Key) : Bool := kvs.any fun kv => decide (kv.1 = k)
def putP (kvs : List (Key × PV)) (k : Key) (v : PV) : List (Key × PV) := if hasK kvs k = true then kvs.map (fun kv => if kv.1 = k then (kv.1, v) else kv) else kvs ++ [(k, v)]
def DRel (K : PySem.W.Frag) (H : Hp) (vs : List (Key × V)) (kvs : List (Key × PV)) : Prop := vs.map (·.1) = kvs.map (·.1) ∧ VRs K [] H (vs.map (·.2)) (kvs.map (·.2))
section
variable {H : Hp}
theorem DRel.cons_inv {p : Key × V} {vs : List (Key × V)} {q : Key × PV} {kvs : List (Key × PV)} (h : DRel K H (p :: vs) (q :: kvs)) : p.1 = q.1 ∧ VR K [] H p.2 q.2 ∧ DRel K H vs kvs := by
  obtain ⟨h1, h2⟩ := h
  injection h1 with a b
  cases h2 with
  | cons r t => exact ⟨a, r, b, t⟩
theorem DRel.mk {p : Key × V} {vs : List (Key × V)} {q : Key × PV} {kvs : List (Key × PV)} (e : p.1 = q.1) (r : VR K [] H p.2 q.2) (h : DRel K H vs kvs) : DRel K H (p :: vs) (q :: kvs) := ⟨by rw [List.map_cons, List.map_cons, e, h.1], .cons r h.2⟩
theorem DRel.ind {C : List (Key × V) → List (Key × PV) → Prop} (h0 : C [] []) (h1 : ∀ p q vs kvs, p.1 = q.1 → VR K [] H p.2 q.2 → DRel K H vs kvs → C vs kvs → C (p :: vs) (q :: kvs)) : ∀ {vs kvs}, DRel K H vs kvs → C vs kvs
  | [], [], _ => h0
  | [], _ :: _, h => by simp [DRel] at h
  | _ :: _, [], h => by simp [DRel] at h
  | p :: vs, q :: kvs, h => let ⟨a, b, c⟩ := h.cons_inv; h1 p q vs kvs a b c (DRel.ind h0 h1 c)
theorem DRel.has {vs : List (Key × V)} {kvs : List (Key × PV)} (h : DRel K H vs kvs) (k : Key) : (valV vs k).isSome = hasK kvs k := by
  rw [← valV_any]
  refine DRel.ind (C := fun vs kvs => (vs.any fun kv => decide (kv.1 = k)) = kvs.any fun kv => decide (kv.1 = k)) rfl (fun p q vs kvs e _ _ ih => ?_) h
  rw [List.any_cons, List.any_cons, ih, e]
theorem DRel.put {vs : List (Key × V)} {kvs : List (Key × PV)} (h : DRel K H vs kvs) (k : Key) {u : V} {v : PV} (r : VR K [] H u v) : DRel K H (putK vs k u) (putP kvs k v) := by
  have hh : (vs.any fun kv => decide (kv.1 = k)) = hasK kvs k := by rw [valV_any]; exact h.has k
  unfold putK putP
  rw [hh]
  split
  · refine DRel.ind (C := fun vs kvs => DRel K H (vs.map fun kv => if kv.1 = k then (kv.1, u) else kv) (kvs.map fun kv => if kv.1 = k then (kv.1, v) else kv)) ⟨rfl, .nil⟩ (fun p q vs kvs e rr _ ih => ?_) h
    rw [List.map_cons, List.map_cons]
    by_cases c : p.1 = k
    · rw [if_pos c, if_pos (e ▸ c)]
      exact DRel.mk e r ih
    · rw [if_neg c, if_neg (e ▸ c)]
      exact DRel.mk e rr ih
  · refine DRel.ind (C := fun vs kvs => DRel K H (vs ++ [(k, u)]) (kvs ++ [(k, v)])) ⟨rfl, .cons r .nil⟩ (fun p q vs kvs e rr _ ih => DRel.mk e rr ih) h
theorem DRel.length {vs : List (Key × V)} {kvs : List (Key × PV)} (h : DRel K H vs kvs) : vs.length = kvs.length := by
  have := congrArg List.length h.1
  simpa using this
end
section
variable {X : Cx} {a e ei : Expr} {rest : List Stmt} {pos p p' tpos : Pos} {fs : FSt} {T : Type} {out : T → End} {x : Bool} {we wi wa : W PV} {kvs : List (Key × PV)} {y : Str}
theorem ownd_at {σ : L2.St} {H : Hp} {i : Nat} (sr : SRf K H σ fs) (hs : fs[i]? = some (some (.od kvs))) : ∃ a vs, σ[i]? = some (some (.ref a)) ∧ H a = some (.dK vs) ∧ DRel K H vs kvs := by
  obtain ⟨u, e1, r⟩ := sr.at' i _ hs
  rcases r with ⟨v, e, _⟩ | ⟨a, e, vs, q1, q2, q3⟩
  · cases e
  · subst e; exact ⟨a, vs, e1, q1, q2, q3⟩
theorem SF.setD {i : Nat} {k : W T} {p2 : Pos} (hN : X.N.Nodup) (hi : X.N[i]? = some y) (hx : Loc X.env.scope y) (hr : SF X K x (fs.set i (some (.od []))) rest k out) (hs : swapsWith (.Dict [] [] p2) (some (.Name y p')) pos.line X.env = pure false := by rfl)
    (hf : X.fn y = true ∨ X.env.scope.names.lookup y = some .local := by first | exact .inl rfl | exact .inr rfl | assumption) : SF X K x fs (.Assign [.Name y p'] (.Dict [] [] p2) pos :: rest) k out := SF.step (ps_set hN hi hx pe_dictN hs hf) fun D σ H ⟨sr, q⟩ => fun a H1 s1 e1 n1 => by
  have no := sr.noOwn n1
  have s2 := (sr.same s1).putO (t := .od []) ⟨[], e1, rfl, .nil⟩ no i
  exact ⟨_, k, hr, s2, k.mono (fun t q2 => q2.go (GoF.putO (sr.same s1) (GoF.same s1 sr) no n1 i) sr s2) q⟩
theorem key_v {H : Hp} {u : V} {v : PV} {Q : Key → Prop} (r : VR K [] H u v) (q : (keyW v).run Q) : ∃ k, u = kV k ∧ Q k := by
  cases r with
  | int i => exact ⟨.inl i, rfl, q⟩
  | str s => exact ⟨.inr s, rfl, q⟩
  | _ => exact q.elim
theorem in_core (i : Nat) (hs : fs[i]? = some (some (.od kvs))) (hN : X.N[i]? = some y) {neg : Bool} : ∀ σ H Q, fT K fs (.bind wa fun x => .bind (keyW x) fun k => .ret (if neg then !hasK kvs k else hasK kvs k)) σ H Q → (fE K fs wa) σ H fun u H1 => (tVar i) σ H1 fun z H2 => ∃ a o, z = .ref a ∧ DGet H2 a u o ∧ (∃ b, (V.bl (if neg then !o.isSome else o.isSome)) = .bl b ∧ Q b H2) := fun σ H Q ⟨sr, q⟩ =>
  ⟨sr, wa.mono (fun v q1 u H1 g1 s1 v1 => by
    obtain ⟨k, rfl, q2⟩ := key_v v1 q1
    obtain ⟨a, vs, e1, h1, r1⟩ := ownd_at s1 hs
    refine ⟨_, e1, a, _, rfl, DGet.k h1, _, rfl, ?_⟩
    rw [r1.has k]
    exact q2 H1 g1 s1) q⟩
theorem t_inD (i : Nat) (hs : fs[i]? = some (some (.od kvs))) (hu : X.A.units + 200 < cLine) (ha : EF X K fs a wa) (hN : X.N[i]? = some y := by rfl) (hv : Vis X.env.scope y := by first | exact Or.inl rfl | exact Or.inr (Or.inl rfl) | exact Or.inr (Or.inr rfl)) (hd : (y == ("__debug__" : Str)) = false := by decide) (hcd : (y == ("__classdict__" : Str)) = false := by decide) (hk : behindInMarks .In (.Name y p) = false := by rfl) :
    TF X K fs (.Compare a [.In] [.Name y p] pos) (.bind wa fun x => .bind (keyW x) fun k => .ret (hasK kvs k)) := ⟨PT.imp (pt_cmp (pc_din (by omega) ha.p (pe_var hN hv hd hcd)) hk) (in_core (neg := false) i hs hN)⟩
def putW (kvs : List (Key × PV)) (n v : PV) : W (List (Key × PV)) := .bind (keyW n) fun kk => .chk (kvs.length < sizeLine) (.ret (putP kvs kk v))
theorem SF.putD (i : Nat) {k : List (Key × PV) → W T} (hs : fs[i]? = some (some (.od kvs))) (hu : X.A.units + 200 < cLine) (hN : X.N[i]? = some y) (hv : Vis X.env.scope y) (he : EF X K fs e we) (hi : EF X K fs ei wi) (hr : ∀ l', SF X K x (fs.set i (some (.od l'))) rest (k l') out)
    (hd : (y == ("__debug__" : Str)) = false := by decide) (hcd : (y == ("__classdict__" : Str)) = false := by decide) (hsw : swapsWith e (some (.Subscript (.Name y p) ei tpos)) pos.line X.env = pure false := by rfl) :
    SF X K x fs (.Assign [.Subscript (.Name y p) ei tpos] e pos :: rest) (.bind we fun v => .bind wi fun n => .bind (putW kvs n v) k) out :=
  SF.step (ps_dput (by omega) (pe_var hN hv hd hcd) hi.p he.p hsw) fun D σ H ⟨sr, q⟩ => by
    refine ⟨sr, we.mono (fun v q1 u H1 g1 s1 v1 => ?_) q⟩
    obtain ⟨a, vs, e1, h1, r1⟩ := ownd_at s1 hs
    refine ⟨_, e1, s1, wi.mono (fun n q2 u2 H2 g2 s2 v2 => ?_) q1⟩
    obtain ⟨kk, rfl, hz, q3⟩ := key_v v2 q2
    obtain ⟨a', vs', e1', h1', r1'⟩ := ownd_at s2 hs
    rw [e1] at e1'
    cases e1'
    refine ⟨a, _, rfl, DPut.k h1' (by rw [r1'.length]; exact hz), ?_⟩
    have sx : SameX a H2 (upd H2 a (.dK (putK vs' kk u))) := fun z o n hz => by rw [upd_ne n]; exact hz
    obtain ⟨s3, g3⟩ := own_change (t' := .od (putP kvs kk v)) s2 hs rfl (by simp) e1 sx fun tk => ⟨_, upd_same, (r1'.put kk (g2.vr s1 v1)).1, VRs.tk tk (r1'.put kk (g2.vr s1 v1)).2⟩
    exact ⟨_, k _, hr _, s3, (k _).mono (fun t q4 => q4.go ((g1.trans g2).f.trans g3) sr s3) q3⟩
end
end FL
set_option Elab.async false
set_option linter.all false
set_option maxRecDepth 100000
set_option Elab.async false
set_option linter.all false
set_option maxRecDepth 100000
namespace FL
open PySem PySem.Spec PyProof.Rows L2 PL
variable [TabC]
variable {K : PySem.W.Frag}
def DRelT (K : PySem.W.Frag) (H : Hp) (vs : List (List Key × V)) (kvs : List (List Key × PV)) : Prop := vs.map (·.1) = kvs.map (·.1) ∧ VRs K [] H (vs.map (·.2)) (kvs.map (·.2))
def DvAt (K : PySem.W.Frag) (H : Hp) (ob : HO) (v : PV) : Prop := (∃ vs kvs, ob = .dK vs ∧ v = dvK kvs ∧ DRel K H vs kvs) ∨ ∃ vs kvs, ob = .dT vs ∧ v = dvT kvs ∧ DRelT K H vs kvs
def fDv (K : PySem.W.Frag) (fs : FSt) (w : W PV) : TE := fun σ H Q => SRf K H σ fs ∧ w.run fun v => ∀ a ob H', GoE σ fs H H' → SRf K H' σ fs → H a = none → H' a = some ob → DvAt K H' ob v → Q (.ref a) H'
structure DVF (X : Cx) (K : PySem.W.Frag) (fs : FSt) (e : Expr) (w : W PV) : Prop where p : PE X e (fDv K fs w)
section
variable {σ : L2.St} {fs : FSt} {H H1 H' : Hp} {a : Addr} {ob : HO} {v : PV}
theorem SRf.sideO (s : SRf K H σ fs) (n : ¬ Owns σ fs a) (e : H a = some ob) (n1 : ∀ vs, ob ≠ .tup vs) (n2 : ∀ o u, ob ≠ .frz o u) (n3 : ob.nt = true) (o' : HO) : SRf K (upd H a o') σ fs := ⟨s.len, fun i t q => by
  obtain ⟨u, h1, h2⟩ := s.at' i t q
  exact ⟨u, h1, h2.mono (tk_sideO o' e n1 n2) (fun x b o eb ow hb z _ => by subst eb; rw [upd_ne (fun y : b = a => n ⟨i, t, x, q, ow, h1, y ▸ hb⟩)]; exact z)⟩, s.nd, s.tb.sameX (fun b o n z => by rw [upd_ne n]; exact z) e n3 n2⟩
theorem DvAt.frz {X : Cx} {pins : List (Addr × Obj)} {s : Shared} {σ' : L2.St} (I : Inv X pins σ' H s) (e : H a = some ob) (d : DvAt K H ob v) : ∃ u, Inv X pins σ' (upd H a u) s ∧ VR K [] (upd H a u) (.ref a) v ∧ (∀ vs, ob ≠ .tup vs) ∧ (∀ o u, ob ≠ .frz o u) ∧ ob.nt = true := by
  rcases d with ⟨vs, kvs, rfl, rfl, d1, d2⟩ | ⟨vs, kvs, rfl, rfl, d1, d2⟩
  · obtain ⟨o, I2⟩ := I.freezeK e
    exact ⟨_, I2, .dk upd_same (keysK d1) (VRs.tk (tk_sideO _ e (by simp) (by simp)) d2), by simp, by simp, rfl⟩
  · obtain ⟨o, I2⟩ := I.freeze e
    exact ⟨_, I2, .dt upd_same (keysT d1) (VRs.tk (tk_sideO _ e (by simp) (by simp)) d2), by simp, by simp, rfl⟩
end
section
variable {X : Cx} {a b c e o : Expr} {es rest : List Expr} {pos p p2 : Pos} {fs : FSt} {w wa wb wc : W PV} {wl wm : W (List PV)}
theorem e_dv (h : DVF X K fs e w) : EF X K fs e w := ⟨fun pins s σ H Q I ⟨sr, q⟩ => by
  refine thn (h.p pins s σ H (fun u H1 => ∃ a ob v, u = .ref a ∧ GoE σ fs H H1 ∧ SRf K H1 σ fs ∧ H a = none ∧ H1 a = some ob ∧ DvAt K H1 ob v ∧ ∀ u H', GoE σ fs H H' → SRf K H' σ fs → VR K [] H' u v → Q u H') I ⟨sr, w.mono (fun v q1 a ob H1 g1 s1 n e d => ⟨a, ob, v, rfl, g1, s1, n, e, d, q1⟩) q⟩) fun u s1 ⟨v, H1, I1, r1, a, ob, v', e, g1, s1', n, ea, d, q1⟩ => ?_
  subst e
  obtain ⟨o', I2, vr, n1, n2, n3⟩ := d.frz I1 ea
  exact ⟨.ref a, _, I2, r1, q1 _ _ (g1.side n _) (s1'.sideO (fun z => sr.noOwn n z) ea n1 n2 n3 _) vr⟩⟩
theorem d_nil : DVF X K fs (.Dict [] [] pos) (.ret (dvK [])) := ⟨PE.imp pe_dnewK fun σ H Q ⟨sr, q⟩ p hp => by
  have sm := same_new hp (.dK [])
  exact q p _ _ (GoE.same sm) (sr.same sm) hp upd_same (.inl ⟨[], [], rfl, rfl, rfl, .nil⟩)⟩
end
end FL
set_option Elab.async false
set_option linter.all false
set_option maxRecDepth 100000
set_option Elab.async false
set_option linter.all false
set_option maxRecDepth 100000
set_option Elab.async false
set_option linter.all false
set_option maxRecDepth 100000
set_option Elab.async false
set_option linter.all false
set_option maxRecDepth 100000
set_option Elab.async false
set_option linter.all false
set_option maxRecDepth 100000
set_option Elab.async false
set_option linter.all false
set_option maxRecDepth 100000
set_option Elab.async false
set_option linter.all false
set_option maxRecDepth 100000
namespace FL
open PySem PySem.Spec PyProof.Rows L2 PL
variable [TabC]
def drawn (m : Int) : W PV := .any fun v => ∃ d : Int, v = .int d ∧ 0 ≤ d ∧ d < m
def mt_take : PV → W PV
  | .int m => .chk (0 < m ∧ m ≤ 2000) (drawn m)
  | _ => .fail
end FL
set_option Elab.async false
set_option linter.all false
set_option maxRecDepth 100000
namespace FL
open PySem PySem.Spec PyProof.Rows L2 PL
variable [TabC]
theorem of2_aI {g : Int → Int → PV} {i j : Int} : of2 (aI g) (.int i) (.int j) = .ret (g i j) := W.ext' fun Q => ⟨And.right, fun q => ⟨rfl, q⟩⟩
theorem of2_aIc {C : Int → Int → Prop} {g : Int → Int → PV} {i j : Int} : of2 (aIc C g) (.int i) (.int j) = .chk (C i j) (.ret (g i j)) := W.ext' fun Q => ⟨fun q => ⟨q.1, q.2.2⟩, fun q => ⟨q.1, rfl, q.2⟩⟩
section
variable (i j : Int) (a b : Bool) (x y : PV) (l m : List PV) (s t : Str)
@[simp] theorem ev_sub : of2 oSub (.int i) (.int j) = .ret (.int (i - j)) := of2_aI
@[simp] theorem ev_mul : of2 oMul (.int i) (.int j) = .chk (IntMulOk i j) (.ret (.int (i * j))) := of2_aIc
@[simp] theorem ev_div : of2 oDiv (.int i) (.int j) = .chk (CDiv i j) (.ret (.int (i / j))) := of2_aIc
@[simp] theorem ev_mod : of2 oMod (.int i) (.int j) = .chk (0 < j) (.ret (.int (i % j))) := of2_aIc
@[simp] theorem ev_pow : of2 oPow (.int i) (.int j) = .chk (CPow i j) (.ret (.int (i ^ j.toNat))) := of2_aIc
@[simp] theorem ev_lt : of2 oLt (.int i) (.int j) = .ret (.bl (decide (i < j))) := of2_aI
@[simp] theorem ev_le : of2 oLe (.int i) (.int j) = .ret (.bl (decide (i ≤ j))) := of2_aI
@[simp] theorem ev_gt : of2 oGt (.int i) (.int j) = .ret (.bl (decide (j < i))) := of2_aI
@[simp] theorem ev_ge : of2 oGe (.int i) (.int j) = .ret (.bl (decide (j ≤ i))) := of2_aI
theorem ev_eq : of2 oEqF x y = .chk (eqOk x y) (.ret (.bl (feq x y))) := W.ext' fun Q => ⟨fun q => ⟨q.1, q.2.2⟩, fun q => ⟨q.1, rfl, q.2⟩⟩
@[simp] theorem ev_isB : of2 oIsB (.bl a) (.bl b) = .ret (.bl (a == b)) := W.ext' fun Q => ⟨And.right, fun q => ⟨rfl, q⟩⟩
@[simp] theorem ev_isNotB : of2 oIsNotB (.bl a) (.bl b) = .ret (.bl (!(a == b))) := W.ext' fun Q => ⟨And.right, fun q => ⟨rfl, q⟩⟩
@[simp] theorem ev_inS : of2 oInS (.str s) (.str t) = .ret (.bl (!(Builtin.Str.occurrences t s 0 t.length 1).isEmpty)) := W.ext' fun Q => ⟨And.right, fun q => ⟨rfl, q⟩⟩
theorem ev_ixS {c : Nat} (h : atI s.cps.toList i = some c) : of2 oIxS (.str s) (.int i) = .chk (s.length ≤ sizeLine) (.ret (.str ⟨#[c]⟩)) := W.ext' fun Q => by
  show (s.length ≤ sizeLine ∧ match atI s.cps.toList i with | some c => _ ∧ _ | none => False) ↔ _
  rw [h]
  exact ⟨fun q => ⟨q.1, q.2.2⟩, fun q => ⟨q.1, rfl, q.2⟩⟩
@[simp] theorem ev_addI : addW (.int i) (.int j) = .ret (.int (i + j)) := (rfl)
@[simp] theorem ev_addS : addW (.str s) (.str t) = .chk (s.length + t.length ≤ sizeLine) (.ret (.str (s ++ t))) := (rfl)
@[simp] theorem ev_addT : addW (.tup l) (.tup m) = .chk (l.length + m.length ≤ sizeLine) (.ret (.tup (l ++ m))) := (rfl)
@[simp] theorem ev_neg : negW (.int i) = .ret (.int (-i)) := (rfl)
@[simp] theorem ev_asB : asB (.bl a) = .ret a := (rfl)
@[simp] theorem ev_chainT (w : W PV) : chainW (.bl true) w = w := (rfl)
@[simp] theorem ev_chainF (w : W PV) : chainW (.bl false) w = .ret (.bl false) := (rfl)
@[simp] theorem ev_andT (w : W PV) : andW (.bl true) w = w := (rfl)
@[simp] theorem ev_andF (w : W PV) : andW (.bl false) w = .ret (.bl false) := (rfl)
@[simp] theorem ev_truB : truW (.bl a) = .ret a := (rfl)
@[simp] theorem ev_truI : truW (.int i) = .ret (i != 0) := (rfl)
@[simp] theorem ev_truN : truW .non = .ret false := (rfl)
@[simp] theorem ev_truT : truW (.tup l) = .ret (!l.isEmpty) := (rfl)
@[simp] theorem ev_truC : truW (.cl l) = .ret (!l.isEmpty) := (rfl)
@[simp] theorem ev_seqT : seqW (.tup l) = .ret l := (rfl)
@[simp] theorem ev_seqC : seqW (.cl l) = .ret l := (rfl)
@[simp] theorem ev_lstC : lstW (.cl l) = .ret l := (rfl)
@[simp] theorem ev_ix : ixW l (.int i) = .ofO (atI l i) := (rfl)
@[simp] theorem ev_len : lenW l = .ret (.int l.length) := (rfl)
@[simp] theorem ev_tup : tupW l = .ret (.tup l) := (rfl)
@[simp] theorem ev_bl : blW a = .ret (.bl a) := (rfl)
@[simp] theorem ev_part : part (.int i) = .ret (some i) := (rfl)
@[simp] theorem ev_isiI (k : Kd) : isiW k (.int i) = .ret (.bl (k.is (.int i))) := (rfl)
@[simp] theorem ev_isiS (k : Kd) : isiW k (.str s) = .ret (.bl (k.is (.str s))) := (rfl)
@[simp] theorem ev_isiT (k : Kd) : isiW k (.tup l) = .ret (.bl (k.is (.tup l))) := (rfl)
@[simp] theorem ev_isiC (k : Kd) : isiW k (.cl l) = .ret (.bl (k.is (.cl l))) := (rfl)
@[simp] theorem ev_isiB (k : Kd) : isiW k (.bl a) = .ret (.bl (k.is (.bl a))) := (rfl)
@[simp] theorem ev_isiN (k : Kd) : isiW k .non = .ret (.bl (k.is .non)) := (rfl)
@[simp] theorem ev_lenT : of1 bLen [.tup l] = .ret (.int l.length) := W.ext' fun Q => ⟨And.right, fun q => ⟨rfl, q⟩⟩
@[simp] theorem ev_lenC : of1 bLen [.cl l] = .ret (.int l.length) := W.ext' fun Q => ⟨And.right, fun q => ⟨rfl, q⟩⟩
@[simp] theorem ev_lenS : of1 bLen [.str s] = .chk (s.length ≤ sizeLine) (.ret (.int s.length)) := W.ext' fun Q => ⟨fun q => ⟨q.1, q.2.2⟩, fun q => ⟨q.1, rfl, q.2⟩⟩
@[simp] theorem ev_abs : of1 bAbs [.int i] = .ret (.int (if i < 0 then -i else i)) := W.ext' fun Q => ⟨And.right, fun q => ⟨rfl, q⟩⟩
@[simp] theorem ev_intI : of1 bInt [.int i] = .ret (.int i) := W.ext' fun Q => ⟨And.right, fun q => ⟨rfl, q⟩⟩
@[simp] theorem ev_intB : of1 bInt [.bl a] = .ret (.int (if a then 1 else 0)) := W.ext' fun Q => ⟨And.right, fun q => ⟨rfl, q⟩⟩
@[simp] theorem ev_keyI : keyW (.int i) = .ret (.inl i) := (rfl)
@[simp] theorem ev_keyS : keyW (.str s) = .ret (.inr s) := (rfl)
@[simp] theorem ev_rng1 : rng1W (.int j) = .chk (okN 0 j) (.ret (intsV 0 j.toNat)) := (rfl)
@[simp] theorem ev_signs : signsW (.str s) = .chk (s.cps.size ≤ sizeLine) (.ret (s.cps.toList.map fun c => .str ⟨#[c]⟩)) := (rfl)
@[simp] theorem ev_pop : popW (l ++ [x]) = .ret (l, x) := by unfold popW; simp
@[simp] theorem ev_rep : repW l (.int i) = .chk (-(2 ^ 63) ≤ i ∧ i < 2 ^ 63 ∧ l.length * i.toNat ≤ sizeLine) (.ret (List.replicate i.toNat l).flatten) := (rfl)
@[simp] theorem ev_kdII : Kd.is .int (.int i) = true := (rfl)
@[simp] theorem ev_kdIB : Kd.is .int (.bl a) = true := (rfl)
@[simp] theorem ev_kdBB : Kd.is .bool (.bl a) = true := (rfl)
@[simp] theorem ev_kdBI : Kd.is .bool (.int i) = false := (rfl)
@[simp] theorem ev_kdSS : Kd.is .str (.str s) = true := (rfl)
@[simp] theorem ev_kdST : Kd.is .str (.tup l) = false := (rfl)
@[simp] theorem ev_kdSI : Kd.is .str (.int i) = false := (rfl)
@[simp] theorem ev_kdTT : Kd.is .tup (.tup l) = true := (rfl)
@[simp] theorem ev_kdTS : Kd.is .tup (.str s) = false := (rfl)
@[simp] theorem ev_kdTI : Kd.is .tup (.int i) = false := (rfl)
@[simp] theorem ev_kdTB : Kd.is .tup (.bl a) = false := (rfl)
@[simp] theorem ev_take (h0 : 0 < i) (h1 : i ≤ 2000) : mt_take (.int i) = drawn i := W.chk_pos ⟨h0, h1⟩
theorem drawn_run {m : Int} {Q : PV → Prop} (h : ∀ d : Int, 0 ≤ d → d < m → Q (.int d)) : (drawn m).run Q := fun v ⟨d, e, h0, h1⟩ => e ▸ h d h0 h1
end
namespace W
variable {α β : Type}
def le (a b : W α) : Prop := ∀ Q, b.run Q → a.run Q
end W
section
variable {S R : Type}
@[simp] theorem forW_nil (s : S) (f : PV → S → W S) : forW [] s f = .ret s := (rfl)
@[simp] theorem forW_cons (x : PV) (r : List PV) (s : S) (f : PV → S → W S) : forW (x :: r) s f = .bind (f x s) fun s' => forW r s' f := (rfl)
theorem forW_run {f : PV → S → W S} {Q : S → Prop} (I : List PV → S → Prop) : ∀ {l : List PV} {s : S}, I l s → (∀ x r s, I (x :: r) s → (f x s).run (I r)) → (∀ s, I [] s → Q s) → (forW l s f).run Q
  | [], s, h0, _, he => he s h0
  | x :: r, s, h0, hs, he => (f x s).mono (fun s' h => forW_run I h hs he) (hs x r s h0)
theorem forF_run {f : PV → S → W (Lp S R)} {Q : Lp S R → Prop} (I : List PV → S → Prop) : ∀ {l : List PV} {s : S}, I l s → (∀ x r s, I (x :: r) s → (f x s).run fun o => match o with | .go s' => I r s' | .out t => Q (.out t)) → (∀ s, I [] s → Q (.go s)) → (FL.forF l s f).run Q
  | [], s, h0, _, he => he s h0
  | x :: r, s, h0, hs, he => (f x s).mono (fun o h => match o, h with
    | .go s', h => forF_run I h hs he
    | .out t, h => h) (hs x r s h0)
theorem forW_ix {f : PV → S → W S} {Q : S → Prop} {l : List PV} (I : Nat → S → Prop) {s : S} (h0 : I 0 s) (hs : ∀ (i : Nat) (x : PV) s, l[i]? = some x → I i s → (f x s).run (I (i + 1))) (he : ∀ s, I l.length s → Q s) : (forW l s f).run Q := by
  refine forW_run (fun r s => ∃ i, i ≤ l.length ∧ r = l.drop i ∧ I i s) ⟨0, Nat.zero_le _, rfl, h0⟩ (fun x r s ⟨i, hi, e, h⟩ => ?_) (fun s ⟨i, hi, e, h⟩ => ?_)
  · have hlt : i < l.length := by
      rcases Nat.lt_or_ge i l.length with h | h
      · exact h
      · rw [List.drop_eq_nil_of_le h] at e; cases e
    rw [List.drop_eq_getElem_cons hlt] at e
    injection e with e1 e2
    subst e1
    exact (f _ s).mono (fun s' h' => ⟨i + 1, hlt, e2, h'⟩) (hs i _ s (List.getElem?_eq_getElem hlt) h)
  · have : i = l.length := by
      have := congrArg List.length e
      rw [List.length_drop] at this
      simp at this
      omega
    subst this
    exact he s h
theorem forF_ix {f : PV → S → W (Lp S R)} {Q : Lp S R → Prop} {l : List PV} (I : Nat → S → Prop) {s : S} (h0 : I 0 s) (hs : ∀ (i : Nat) (x : PV) s, l[i]? = some x → I i s → (f x s).run fun o => match o with | .go s' => I (i + 1) s' | .out t => Q (.out t)) (he : ∀ s, I l.length s → Q (.go s)) : (FL.forF l s f).run Q := by
  refine forF_run (fun r s => ∃ i, i ≤ l.length ∧ r = l.drop i ∧ I i s) ⟨0, Nat.zero_le _, rfl, h0⟩ (fun x r s ⟨i, hi, e, h⟩ => ?_) (fun s ⟨i, hi, e, h⟩ => ?_)
  · have hlt : i < l.length := by
      rcases Nat.lt_or_ge i l.length with h | h
      · exact h
      · rw [List.drop_eq_nil_of_le h] at e; cases e
    rw [List.drop_eq_getElem_cons hlt] at e
    injection e with e1 e2
    subst e1
    exact (f _ s).mono (fun o h' => match o, h' with
      | .go s', h' => ⟨i + 1, hlt, e2, h'⟩
      | .out t, h' => h') (hs i _ s (List.getElem?_eq_getElem hlt) h)
  · have : i = l.length := by
      have := congrArg List.length e
      simp at this
      omega
    subst this
    exact he s h
theorem forW_rng {f : PV → S → W S} {Q : S → Prop} {n : Nat} (I : Nat → S → Prop) {s : S} (h0 : I 0 s) (hs : ∀ (i : Nat) s, i < n → I i s → (f (.int (i : Int)) s).run (I (i + 1))) (he : ∀ s, I n s → Q s) : (forW (intsV 0 n) s f).run Q :=
  forW_ix I h0 (fun i x s hx h => by obtain ⟨hi, rfl⟩ := intsV_get hx; rw [Int.zero_add]; exact hs i s hi h) (fun s h => he s (by rw [intsV_len] at h; exact h))
theorem forF_rng {f : PV → S → W (Lp S R)} {Q : Lp S R → Prop} {n : Nat} (I : Nat → S → Prop) {s : S} (h0 : I 0 s) (hs : ∀ (i : Nat) s, i < n → I i s → (f (.int (i : Int)) s).run fun o => match o with | .go s' => I (i + 1) s' | .out t => Q (.out t)) (he : ∀ s, I n s → Q (.go s)) : (FL.forF (intsV 0 n) s f).run Q :=
  forF_ix I h0 (fun i x s hx h => by obtain ⟨hi, rfl⟩ := intsV_get hx; rw [Int.zero_add]; exact hs i s hi h) (fun s h => he s (by rw [intsV_len] at h; exact h))
theorem whileW_run {c : S → W Bool} {b : S → W S} {Q : S → Prop} (I : Nat → S → Prop) {n : Nat} {s : S} (h0 : I n s) (hs : ∀ n s, I n s → (c s).run fun k => if k = true then (b s).run (fun s' => ∃ m, m < n ∧ I m s') else Q s) : (whileW c b s).run Q := by
  refine ⟨n + 1, ?_⟩
  have : ∀ k n s, n < k → I n s → (whileN c b k s).run Q := by
    intro k
    induction k with
    | zero => intro n s h; omega
    | succ k ih =>
      intro n s hn h
      refine (c s).mono (fun z q => ?_) (hs n s h)
      cases z with
      | true => exact (b s).mono (fun s' ⟨m, hm, h'⟩ => ih m s' (by omega) h') (show (b s).run _ from q)
      | false => exact q
  exact this (n + 1) n s (by omega) h0
theorem whileF_run {c : S → W Bool} {b : S → W (Lp S R)} {Q : Lp S R → Prop} (I : Nat → S → Prop) {n : Nat} {s : S} (h0 : I n s) (hs : ∀ n s, I n s → (c s).run fun k => if k = true then (b s).run (fun o => match o with | .go s' => ∃ m, m < n ∧ I m s' | .out t => Q (.out t)) else Q (.go s)) : (FL.whileF c b s).run Q := by
  refine ⟨n + 1, ?_⟩
  have : ∀ k n s, n < k → I n s → (whileFN c b k s).run Q := by
    intro k
    induction k with
    | zero => intro n s h; omega
    | succ k ih =>
      intro n s hn h
      refine (c s).mono (fun z q => ?_) (hs n s h)
      cases z with
      | true => exact (b s).mono (fun o q => match o, q with
        | .go s', ⟨m, hm, h'⟩ => ih m s' (by omega) h'
        | .out t, q => q) (show (b s).run _ from q)
      | false => exact q
  exact this (n + 1) n s (by omega) h0
theorem mapW_eq {f : PV → W PV} {g : PV → PV} : ∀ {l : List PV}, (∀ x ∈ l, f x = .ret (g x)) → mapW l f = .ret (l.map g)
  | [], _ => rfl
  | x :: r, h => by
    show W.bind (f x) (fun y => W.bind (mapW r f) fun l => W.ret (y :: l)) = _
    rw [h x (.head _), mapW_eq fun y hy => h y (.tail _ hy)]; rfl
theorem lcW_eq {f : PV → W (Option PV)} {g : PV → Option PV} : ∀ {l : List PV}, (∀ x ∈ l, f x = .ret (g x)) → lcW l f = .ret (l.filterMap g)
  | [], _ => rfl
  | x :: r, h => by
    show W.bind (f x) (fun o => W.bind (lcW r f) fun l => W.ret (o.toList ++ l)) = _
    rw [h x (.head _), lcW_eq fun y hy => h y (.tail _ hy), List.filterMap_cons]
    cases g x <;> rfl
@[simp] theorem allW_bl (bs : List Bool) : allW (bs.map PV.bl) = .ret (.bl (bs.all id)) := by unfold allW; rw [bsW_map]; rfl
theorem all_map (f : PV → Bool) (l : List PV) : allW (l.map fun x => .bl (f x)) = .ret (.bl (l.all f)) := by
  have : (l.map fun x => PV.bl (f x)) = (l.map f).map PV.bl := by rw [List.map_map]; rfl
  rw [this, allW_bl, List.all_map]; rfl
end
section
variable (i j : Int) (a b : Bool) (x y : PV) (l m : List PV) (s t : Str)
@[simp] theorem feqII : feq (.int i) (.int j) = (i == j) := by rw [feq]
@[simp] theorem feqSS : feq (.str s) (.str t) = (s == t) := by rw [feq]
@[simp] theorem feqBB : feq (.bl a) (.bl b) = (a == b) := by rw [feq]
@[simp] theorem feqTT : feq (.tup l) (.tup m) = feqs l m := by rw [feq]
@[simp] theorem feqCC : feq (.cl l) (.cl m) = feqs l m := by rw [feq]
@[simp] theorem feqs00 : feqs [] [] = true := by rw [feqs]
@[simp] theorem feqs11 : feqs (x :: l) (y :: m) = (feq x y && feqs l m) := by rw [feqs]
@[simp] theorem fok_int : PV.fok (.int i) = true := by rw [PV.fok] <;> simp
@[simp] theorem fok_bl : PV.fok (.bl a) = true := by rw [PV.fok] <;> simp
@[simp] theorem fok_str : PV.fok (.str s) = true := by rw [PV.fok] <;> simp
@[simp] theorem fok_non : PV.fok .non = true := by rw [PV.fok] <;> simp
@[simp] theorem fok_tup : PV.fok (.tup l) = fokL l := by rw [PV.fok]
@[simp] theorem fok_cl : PV.fok (.cl l) = fokL l := by rw [PV.fok]
@[simp] theorem fokL_nil : fokL [] = true := by rw [fokL]
@[simp] theorem fokL_cons : fokL (x :: l) = (PV.fok x && fokL l) := by rw [fokL]
@[simp] theorem fdep_int : PV.fdep (.int i) = 0 := by rw [PV.fdep] <;> simp
@[simp] theorem fdep_bl : PV.fdep (.bl a) = 0 := by rw [PV.fdep] <;> simp
@[simp] theorem fdep_str : PV.fdep (.str s) = 0 := by rw [PV.fdep] <;> simp
@[simp] theorem fdep_non : PV.fdep .non = 0 := by rw [PV.fdep] <;> simp
@[simp] theorem fdep_tup : PV.fdep (.tup l) = fdepL l + 1 := by rw [PV.fdep]
@[simp] theorem fdep_cl : PV.fdep (.cl l) = fdepL l + 1 := by rw [PV.fdep]
@[simp] theorem fdepL_nil : fdepL [] = 0 := by rw [fdepL]
@[simp] theorem fdepL_cons : fdepL (x :: l) = max (PV.fdep x) (fdepL l) := by rw [fdepL]
theorem eqOk_int : eqOk (.int i) (.int j) := ⟨by simp, by simp, by simp⟩
@[simp] theorem ev_eqI : of2 oEqF (.int i) (.int j) = .ret (.bl (i == j)) := by rw [ev_eq, W.chk_pos (eqOk_int i j), feqII]
@[simp] theorem ev_eqB : of2 oEqF (.bl a) (.bl b) = .ret (.bl (a == b)) := by rw [ev_eq, W.chk_pos ⟨by simp, by simp, by simp⟩, feqBB]
end
theorem fokL_iff : ∀ {l : List PV}, fokL l = true ↔ ∀ x ∈ l, PV.fok x = true
  | [] => by simp
  | x :: l => by rw [fokL, Bool.and_eq_true, fokL_iff (l := l)]; simp
theorem fdepL_le {n : Nat} : ∀ {l : List PV}, (∀ x ∈ l, PV.fdep x ≤ n) → fdepL l ≤ n
  | [], _ => by simp
  | x :: l, h => by
    have h1 := h x (.head _)
    have h2 := fdepL_le (l := l) fun y hy => h y (.tail _ hy)
    rw [fdepL]; omega
instance (priority := 10) tab0 : TabC := ⟨[]⟩
end FL
set_option Elab.async false
set_option linter.all false
set_option maxRecDepth 100000
namespace FL
open PySem PySem.Spec PyProof.Rows L2 PL
variable [TabC]
structure EV where
  P : Program
  w : World
  K : PySem.W.Frag
  mg : Str → Option Value
  base : Heap
structure DF where
  x : Str
  s : Stmt
  ps : List Str
  k : Nat
  sp : PySem.W.Frag → Sp
abbrev DF.C (d : DF) (v : EV) := Cal v.P v.w v.K v.mg v.base d.x d.k d.ps (d.sp v.K)
structure DI (v : EV) (d : DF) where
  f : Addr
  fd : FuncData
  fn : Fun v.K d.x d.x d.s f fd
  bi : Binds v.K fd d.ps []
  at' : v.mg d.x = some (.ref f)
abbrev DI.O {v : EV} {d : DF} (D : DI v d) : Prop := FnOk v.P v.w v.K v.mg v.base CX0 d.k D.f D.fd d.ps (d.sp v.K)
def DI.c {v : EV} {d : DF} (D : DI v d) (h : D.O) : d.C v := ⟨D.f, D.fd, h, D.bi, D.fn.kp, D.at'⟩
def DI.cN {v : EV} {d : DF} {k : Nat} {sp : Sp} (D : DI v d) (h : FnOk v.P v.w v.K v.mg v.base CX0 k D.f D.fd d.ps sp) : Cal v.P v.w v.K v.mg v.base d.x k d.ps sp := ⟨D.f, D.fd, h, D.bi, D.fn.kp, D.at'⟩
def DI.cA {v : EV} {d : DF} (D : DI v d) (h : D.O) : CalA v.P v.w v.K v.mg v.base D.f [] [] [] d.k d.ps (d.sp v.K) := ⟨D.fd, h.imp fun _ _ _ _ z => z.2.2, D.bi, fun _ hK _ _ => let ⟨_, _, _, _, _, _, _, _, _, _, l, _⟩ := D.fn.ex; ⟨_, _, _, _, hK _ _ l⟩⟩
structure DX (K : PySem.W.Frag) (x : Str) (st : Stmt) : Prop where
  ex : ∃ f fd, PySem.W.nsIn K mainGlobals x = some (some (.ref f)) ∧ Fun K x x st f fd
abbrev dnm (s : Stmt) : Str := match s with
  | .FunctionDef x _ _ _ _ _ _ _ _ _ => x
  | _ => ""
theorem dx {K : PySem.W.Frag} {x : Str} {st : Stmt} {f : Addr} {oc : Value} {od an : Option Addr} {osl : Array (Option Value)} {kV doc pm cdv ct : Value} (a : PySem.W.nsIn K mainGlobals x = some (some (.ref f))) (l : K.lookup f = some ⟨oc, od, .func (PySem.W.fnOf x x (defArgs st) (defBody st) (defScope st) .none kV doc pm an cdv ct), osl⟩)
    (c : PySem.W.codeIn K cdv x = true) (k : PySem.W.keepIn K (.ref f) = true) : DX K x st := ⟨f, _, a, fun_mk l c k⟩
theorem fsc {N P : List Str} {sc : Scope} (h1 : sc.kind = .function := by rfl) (h2 : sc.isCoroutine = false := by rfl) (h3 : sc.isGenerator = false := by rfl) (h4 : N.Nodup := by decide +kernel) (h5 : N.take P.length = P := by rfl) (h6 : ∀ x ∈ P, sc.names.lookup x = some .local ∨ sc.names.lookup x = some .cell := by decide +kernel) (h7 : ∀ y ∈ sc.names, y.2 ≠ .free := by decide +kernel) : FnScope N P sc := ⟨h1, h2, h3, h4, h5, h6, h7⟩
theorem lcs {Xs : Scope} {N : List Str} {sc : Scope} {N' : List Str} {ix : List (Option Nat)} (h1 : sc.kind = .function := by rfl) (h2 : ∀ y ∈ sc.names, y.2 ≠ .cell := by decide +kernel) (h3 : ∀ y ∈ sc.names, y.2 = .local → sc.names.lookup y.1 = some .local := by decide +kernel) (h4 : ∀ y ∈ sc.names, y.2 = .free → (Xs.names.lookup y.1 = some .cell ∨ Xs.names.lookup y.1 = some .free) := by decide +kernel) (h5 : N'.Nodup := by decide +kernel) (h6 : ix.length = N'.length := by rfl)
    (h7 : ((ix.zip N').all fun p => match p.1 with | none => true | some j => decide (N[j]? = some p.2) && decide (sc.names.lookup p.2 = some .free)) = true := by decide +kernel) : LcScope Xs N sc N' ix := ⟨h1, h2, h3, h4, h5, h6, h7⟩
abbrev lsc (l : List (Str × NameKind)) : Scope := { kind := .function, names := (Str.ofString ".0", .local) :: l, isGenerator := false, isCoroutine := false, more := [] }
abbrev lo : NameKind := .local
abbrev gi : NameKind := .globalImplicit
abbrev fr : NameKind := .free
def npot : List AK → Nat
  | [] => 0
  | .p _ :: ks => npot ks + 1
  | _ :: ks => npot ks
theorem npot_pos {φ : List V → Prop} : ∀ {ks : List AK} {i : Nat}, ks[i]? = some (.p φ) → npot ks ≠ 0
  | [], i, h => by simp at h
  | .p _ :: _, _, _ => Nat.succ_ne_zero _
  | .v :: ks, 0, h => by simp at h
  | .f _ _ _ _ :: ks, 0, h => by simp at h
  | .v :: ks, i + 1, h => npot_pos (ks := ks) (i := i) (by simpa using h)
  | .f _ _ _ _ :: ks, i + 1, h => npot_pos (ks := ks) (i := i) (by simpa using h)
theorem one_of : ∀ {ks : List AK}, Nat.ble (npot ks) 1 = true → OneP ks
  | [], _ => fun i j ⟨_, h⟩ => by simp at h
  | .v :: ks, h => fun i j ⟨φ, a⟩ ⟨ψ, b⟩ => by
    cases i with | zero => simp at a | succ i => cases j with | zero => simp at b | succ j => rw [one_of (ks := ks) h i j ⟨φ, by simpa using a⟩ ⟨ψ, by simpa using b⟩]
  | .f _ _ _ _ :: ks, h => fun i j ⟨φ, a⟩ ⟨ψ, b⟩ => by
    cases i with | zero => simp at a | succ i => cases j with | zero => simp at b | succ j => rw [one_of (ks := ks) h i j ⟨φ, by simpa using a⟩ ⟨ψ, by simpa using b⟩]
  | .p _ :: ks, h => fun i j ⟨φ, a⟩ ⟨ψ, b⟩ => by
    have z : npot ks + 1 ≤ 1 := Nat.le_of_ble_eq_true h
    cases i with | succ i => exact absurd (by omega) (npot_pos (ks := ks) (i := i) (by simpa using a)) | zero => cases j with | succ j => exact absurd (by omega) (npot_pos (ks := ks) (i := j) (by simpa using b)) | zero => rfl
abbrev nms (st : Stmt) : List Str := ((defScope st).names.filter fun y => y.2 == .local || y.2 == .cell).map (·.1)
abbrev pms (st : Stmt) : List Str := (defArgs st).args.map (·.arg)
abbrev nml (sc : Scope) : List Str := ((sc.names.tail.filter fun y => y.2 == .local) ++ sc.names.filter fun y => y.2 == .free).map (·.1)
abbrev ixl (N : List Str) (sc : Scope) : List (Option Nat) := ((sc.names.tail.filter fun y => y.2 == .local).map fun _ => none) ++ (sc.names.filter fun y => y.2 == .free).map fun y => some (N.idxOf y.1)
abbrev LS (st : Stmt) (sc : Scope) : Prop := LcScope (defScope st) (nms st) sc (nml sc) (ixl (nms st) sc)
def msk : Nat → FSt → FSt
  | _, [] => []
  | n, s :: l => (match n % 2 with | 0 => s | _ => none) :: msk (n / 2) l
theorem LeF.m : ∀ (n : Nat) {fs : FSt}, LeF fs (msk n fs)
  | _, [] => .refl _
  | n, s :: l => by
    unfold msk
    split
    · exact .keep (LeF.m _)
    · exact .drop (LeF.m _)
def AllC {R : Type} : (n : Nat) → (List PV → W R → Prop) → Cur R n → Prop
  | 0, B, m => B [] m
  | n + 1, B, m => ∀ x : PV, AllC n (fun l w => B (x :: l) w) (m x)
theorem AllC.all {R : Type} : ∀ {n : Nat} {B : List PV → W R → Prop} {m : Cur R n}, AllC n B m → ∀ l, l.length = n → B l (unc n m l)
  | 0, _, _, h, [], _ => h
  | n + 1, _, _, h, x :: l, e => AllC.all (n := n) (h x) l (Nat.succ.inj e)
section
variable {v : EV} {x : Str} {st : Stmt} {k n : Nat} {ks : List AK}
abbrev BB {T : Type} (v : EV) (x : Str) (st : Stmt) (k : Nat) (ks : List AK) (f : Addr) (n : Nat) (m : Cur T n) (o : T → End) : Prop := ∀ {cdv : Value} {A : Around} {outer : List Env} {s : Shared} {H : Hp} {E : XK}, Room k (A.deeper (envOfC x (defScope st) s.heap.objs.size f cdv)) → (nms st).Nodup → AllC n (fun l w => SF (cxOf CX0 v.P v.w v.K v.mg v.base (nms st) x (defScope st) f cdv A outer s H E).nox v.K false (begF ks l (nms st).length) (defBody st) w o) m
theorem mkV {m : Cur PV n} (D : DI v ⟨x, st, pms st, k + 1, fun K => spF K ks (unc n m)⟩) (cert : BB v x st k ks D.f n m .rt) (hks : ks.length = (pms st).length := by rfl) (one : Nat.ble (npot ks) 1 = true := by rfl) (S : FnScope (nms st) (pms st) (defScope st) := by exact fsc) : D.O := fnV D.fn S hks (one_of one) fun l e cdv A outer s H E hr => (cert hr S.nd).all l e
theorem mkL {m : Cur (List PV) n} (D : DI v ⟨x, st, pms st, k + 1, fun K => spFL K ks (unc n m)⟩) (cert : BB v x st k ks D.f n m .rl) (hks : ks.length = (pms st).length := by rfl) (one : Nat.ble (npot ks) 1 = true := by rfl) (S : FnScope (nms st) (pms st) (defScope st) := by exact fsc) : D.O := fnL D.fn S hks (one_of one) fun l e cdv A outer s H E hr => (cert hr S.nd).all l e
end
section
variable {X : Cx} {K : PySem.W.Frag} {fs : FSt} {x : Str} {k k' : Nat} {ps : List Str} {ks : List AK} {e : Expr} {es : List Expr} {W' : W PV} {WL : W (List PV)} {pos p : Pos}
theorem eC {m : List PV → W PV} {B : (List PV → W PV) → W PV} (G : Cal X.prog X.w X.K X.mg X.base x k ps (spF K ks m)) (hr : Room k' X.A) (ha : AF X K fs (e :: es) ks B) (hk : k ≤ k' := by first | exact Nat.le_of_ble_eq_true rfl | exact Nat.le_refl _ | omega) (hg : Gl X x := by rfl) (hW : W' = B m := by rfl) (hdb : (x == ("__debug__" : Str)) = false := by decide)
    (he : starEach (e :: es) X.env = (false, eval e X.env) :: starEach es X.env := by rfl) (hpl : (backTo pos (starEach es X.env)).any (·.1) = false := by rfl) : EF X K fs (.Call (.Name x p) (e :: es) [] pos) W' := e_callx G hr hk hg ha hW hdb he hpl
theorem lC {m : List PV → W (List PV)} {B : (List PV → W (List PV)) → W (List PV)} (G : Cal X.prog X.w X.K X.mg X.base x k ps (spFL K ks m)) (hr : Room k' X.A) (ha : AF X K fs (e :: es) ks B) (hk : k ≤ k' := by first | exact Nat.le_of_ble_eq_true rfl | exact Nat.le_refl _ | omega) (hg : Gl X x := by rfl) (hW : WL = B m := by rfl) (hdb : (x == ("__debug__" : Str)) = false := by decide)
    (he : starEach (e :: es) X.env = (false, eval e X.env) :: starEach es X.env := by rfl) (hpl : (backTo pos (starEach es X.env)).any (·.1) = false := by rfl) : LF X K fs (.Call (.Name x p) (e :: es) [] pos) WL := l_callx G hr hk hg ha hW hdb he hpl
theorem pgn (i : Nat) (hN : X.N.Nodup) (hi : X.N[i]? = some x := by rfl) (hx : Loc X.env.scope x := by first | exact .inl rfl | exact .inr rfl) (hf : X.fn x = true ∨ X.env.scope.names.lookup x = some .local := by first | exact .inl rfl | exact .inr rfl | assumption) : PG X (.Name x pos) (gName i) := pg_name hN hi hx hf
variable {T : Type} {out : T → End} {b : Bool} {rest : List Stmt} {y : Str} {p' : Pos}
theorem sv (i : Nat) {we : W PV} {k : PV → W T} (hN : X.N.Nodup) (he : EF X K fs e we) (hr : ∀ v, SF X K b (fs.set i (some (.val v))) rest (k v) out) (hi : X.N[i]? = some y := by rfl) (hx : Loc X.env.scope y := by first | exact .inl rfl | exact .inr rfl) (hs : swapsWith e (some (.Name y p')) pos.line X.env = pure false := by rfl)
    (hf : X.fn y = true ∨ X.env.scope.names.lookup y = some .local := by first | exact .inl rfl | exact .inr rfl | assumption) : SF X K b fs (.Assign [.Name y p'] e pos :: rest) (.bind we k) out := SF.set hN hi hx he hr hs hf
theorem sl (i : Nat) {wl : W (List PV)} {k : List PV → W T} (hN : X.N.Nodup) (he : LF X K fs e wl) (hr : ∀ l, SF X K b (fs.set i (some (.ol none l))) rest (k l) out) (hi : X.N[i]? = some y := by rfl) (hx : Loc X.env.scope y := by first | exact .inl rfl | exact .inr rfl) (hs : swapsWith e (some (.Name y p')) pos.line X.env = pure false := by rfl)
    (hf : X.fn y = true ∨ X.env.scope.names.lookup y = some .local := by first | exact .inl rfl | exact .inr rfl | assumption) : SF X K b fs (.Assign [.Name y p'] e pos :: rest) (.bind wl k) out := SF.setL hN hi hx he hr hs hf
end
end FL
namespace FL
open PySem PySem.Spec PyProof.Rows L2 PL
variable [TabC]
def AllV : (n : Nat) → (List Value → Prop) → Prop
  | 0, P => P []
  | n + 1, P => ∀ x, AllV n fun l => P (x :: l)
theorem usN : ∀ {n : Nat} {P : List Value → Prop}, AllV n P → ∀ us : List Value, us.length = n → P us
  | 0, _, h, [], _ => h
  | n + 1, _, h, x :: l, e => usN (n := n) (h x) l (Nat.succ.inj e)
theorem DX.mk2 {v : EV} {h : Heap} {d : DF} (D : DX v.K d.x d.s) (X : v.K.In h) (G : h.Ns mainGlobals v.mg)
    (hb : ∀ (kV doc pm : Value) (an : Option Addr) (cdv ct : Value) (us : List Value), us.length = d.ps.length → bindArgs (PySem.W.fnOf d.x d.x (defArgs d.s) (defBody d.s) (defScope d.s) .none kV doc pm an cdv ct) ⟨us, []⟩ = pure (d.ps.zip us) := by exact fun _ _ _ _ _ _ => usN (by (repeat intro _); rfl)) : Nonempty (DI v d) := by
  obtain ⟨f, fd, a, F⟩ := D.ex
  exact ⟨⟨f, fd, F, F.binds hb, PySem.W.mg_of X G a⟩⟩
def spLaw (K : PySem.W.Frag) : Sp := fun vs H Q _ => TB H ∧ ∃ (a : Addr) (ns : List Int), vs = [.ref a] ∧ FzL K H a (ns.map V.int) ∧ ns.length ≤ 63 ∧ ∀ H', Q (.bl true) H'
theorem law_imp {K : PySem.W.Frag} {m : PV → W PV} (ok : ∀ ns : List Int, ns.length ≤ 63 → (m (.cl (ns.map PV.int))).run (· = .bl true)) : ∀ vs H Q E, spLaw K vs H Q E → spF K [.v] (unc 1 m) vs H Q E := fun vs H Q E ⟨tb, a, ns, e, fz, hl, q⟩ => by
  subst e
  refine ⟨tb, [.cl (ns.map PV.int)], .v (.cl fz (ints_vr _ _ ns)) .nil, (m (.cl (ns.map PV.int))).mono (fun v e u H' _ r => ?_) (ok ns hl)⟩
  subst e
  cases r
  exact q H'
structure AllD (K : PySem.W.Frag) (mg : Str → Option Value) (d : DF) : Prop where
  f : ∀ v : EV, v.K = K → v.mg = mg → ∀ D : DI v d, D.O
theorem mkAll {l : PySem.W.OpenLaw} {w : World} {K : PySem.W.Frag} {h : Heap} {mg : Str → Option Value} {fa : Addr} {st : Stmt} {m : PV → W PV} {k : Nat} (ok : ∀ ns : List Int, ns.length ≤ 63 → (m (.cl (ns.map PV.int))).run (· = .bl true)) (X : K.In h) (G : h.Ns mainGlobals mg) (hfa : mg "law" = some (.ref fa)) (e_law : DX K "law" st)
    (hb : ∀ (kV doc pm : Value) (an : Option Addr) (cdv ct : Value) (us : List Value), us.length = 1 → bindArgs (PySem.W.fnOf "law" "law" (defArgs st) (defBody st) (defScope st) .none kV doc pm an cdv ct) ⟨us, []⟩ = pure (([("_law_script" : Str)] : List Str).zip us))
    (F : AllD K mg ⟨"law", st, ["_law_script"], k, fun K => spF K [.v] (unc 1 m)⟩) :
    ∃ fd : FuncData, (∀ (s : Shared) (v : Value), BindsTo s fd ⟨[v], []⟩ [("_law_script", v)]) ∧ ∀ base : Heap, K.In base → base.Ns mainGlobals mg → FnOk l.prog w K mg base CX0 k fa fd ["_law_script"] (spLaw K) := by
  obtain ⟨f, fd, a, F'⟩ := e_law.ex
  have e := hfa.symm.trans (PySem.W.mg_of X G a)
  cases e
  have fb := F'.binds (ps := ["_law_script"]) hb
  obtain ⟨oc, od, kV, doc, pm, an, cdv, ct, osl, rfl, _⟩ := id F'.ex
  exact ⟨PySem.W.fnOf "law" "law" (defArgs st) (defBody st) (defScope st) .none kV doc pm an cdv ct, fun s v => .of_eq (hb kV doc pm an cdv ct [v] rfl), fun base _ _ => (F.f ⟨l.prog, w, K, mg, base⟩ rfl rfl ⟨_, _, F', fb, hfa⟩).imp (law_imp ok)⟩
section
variable {X : Cx} {K : PySem.W.Frag} {fs : FSt} {es : List Expr} {ks : List AK} {R : Type} {B : (List PV → W R) → W R}
theorem av (i : Nat) {x : Str} {v : PV} {pos : Pos} (hr : AF X K fs es ks B) (hs : fs[i]? = some (some (.val v)) := by rfl) (hN : X.N[i]? = some x := by rfl) (hv : Vis X.env.scope x := by first | exact Or.inl rfl | exact Or.inr (Or.inl rfl) | exact Or.inr (Or.inr rfl)) (hd : (x == ("__debug__" : Str)) = false := by decide) (hcd : (x == ("__classdict__" : Str)) = false := by decide)
    (h : starEach (.Name x pos :: es) X.env = (false, eval (.Name x pos) X.env) :: starEach es X.env := by rfl) : AF X K fs (.Name x pos :: es) (.v :: ks) (fun k => .bind (.ret v) fun x => B fun l => k (x :: l)) := a_cons (e_var i hs hN hv hd hcd) hr h
end
end FL
set_option Elab.async false
set_option linter.all false
set_option maxRecDepth 100000
namespace FL
open PySem PySem.Spec PyProof.Rows L2 PL
variable [TabC] {K : PySem.W.Frag}
structure Lm where
  q : Str
  ar : Arguments
  bd : Expr
  sc : Scope
abbrev Lm.fn (L : Lm) (cl : List (Str × Addr)) (pm : Value) (cv ctv : Value) : FuncData := PySem.W.kla_fn "<lambda>" L.q L.ar L.bd L.sc cl pm cv ctv
abbrev Lm.ob (L : Lm) (cl : List (Str × Addr)) (pm : Value) (cv ctv : Value) : Obj := { cls := .type "function", data := .func (L.fn cl pm cv ctv) }
def CodeO (o : Obj) (q : Str) : Prop := ∃ vs t, o.data = .fields vs ∧ vs[1]? = some (.str q t)
def LamIn (L : Lm) (ys : List Str) (base : Heap) (a : Addr) (us : List V) (fz : List (Addr × Obj)) : Prop := ∃ cl pm c ctv co, fz = [(a, L.ob cl pm (.ref c) ctv), (c, co)] ∧ CodeO co L.q ∧
  (∀ x c, cl.lookup x = some c → ∃ v, base.IsCell c v) ∧ (∀ x y c, cl.lookup x = some c → cl.lookup y = some c → x = y) ∧ ∀ (i : Nat) (y : Str), ys[i]? = some y → ∃ c v u, cl.lookup y = some c ∧ us[i]? = some v ∧ RelV v u ∧ base.IsCell c (some u)
structure LamS (ps ys : List Str) (sc : Scope) : Prop where
  kind : sc.kind = .function
  co : sc.isCoroutine = false
  gen : sc.isGenerator = false
  nd : (ps ++ ys).Nodup
  par : ∀ x ∈ ps, sc.names.lookup x = some .local
  fre : ∀ y ∈ ys, sc.names.lookup y = some .free
  noc : ∀ y ∈ sc.names, y.2 ≠ .cell
  fin : ∀ y ∈ sc.names, y.2 = .free → y.1 ∈ ys
def cxL (P : Program) (w : World) (K : PySem.W.Frag) (mg : Str → Option Value) (base : Heap) (N : List Str) (L : Lm) (a : Addr) (cl : List (Str × Addr)) (cv : Value) (A : Around) (outer : List Env) (s : Shared) (H : Hp) : Cx where
  prog := P
  w := w
  K := K
  mg := mg
  base := base
  A := A.deeper (PySem.W.envX L.q L.sc s.heap.objs.size a cv cl)
  N := N
  s₀ := s
  H₀ := H
  env := PySem.W.envX L.q L.sc s.heap.objs.size a cv cl
  outer := outer
  stack := PySem.W.envX L.q L.sc s.heap.objs.size a cv cl :: outer
  ex := []
  calm := true
  fn := fun _ => false
  pn := []
  xe := fun _ _ => False
theorem lookup_nd {β : Type} : ∀ {l : List (Str × β)} {x : Str} {u : β}, (l.map (·.1)).Nodup → (x, u) ∈ l → l.lookup x = some u
  | (y, v) :: l, x, u, nd, h => by
    rw [List.map_cons, List.nodup_cons] at nd
    rw [List.lookup_cons]
    by_cases c : x = y
    · subst c
      rcases List.mem_cons.mp h with h | h
      · cases h; simp
      · exact absurd (List.mem_map.mpr ⟨_, h, rfl⟩) nd.1
    · rw [beq_eq_false_iff_ne.mpr c]
      rcases List.mem_cons.mp h with h | h
      · cases h; exact absurd rfl c
      · exact lookup_nd nd.2 h
theorem zip_sub : ∀ (ps : List Str) (us : List Value), List.Sublist ((ps.zip us).map (·.1)) ps
  | [], _ => .slnil
  | _ :: _, [] => List.nil_sublist _
  | p :: ps, _ :: us => (zip_sub ps us).cons₂ p
theorem zip_rev {ps : List Str} {us : List Value} (nd : ps.Nodup) {i : Nat} {x : Str} {u : Value} (h1 : ps[i]? = some x) (h2 : us[i]? = some u) : (ps.zip us).reverse.lookup x = some u := by
  refine lookup_nd ?_ (List.mem_reverse.mpr (List.mem_of_getElem? (i := i) (by rw [List.getElem?_zip_eq_some]; exact ⟨h1, h2⟩)))
  rw [List.map_reverse]
  refine (List.reverse_perm _).nodup_iff.mpr ?_
  exact nd.sublist (zip_sub ps us)
section
variable {P : Program} {w : World} {mg : Str → Option Value} {base : Heap} {L : Lm} {ps ys : List Str} {a : Addr} {us : List V} {qs : List PV} {fz : List (Addr × Obj)} {k n : Nat}
abbrev lamF (l : List PV) : FSt := l.map fun v => some (.val v)
theorem lam_get {l : List PV} {i : Nat} {t : SL} (h : (lamF l)[i]? = some (some t)) : ∃ v, l[i]? = some v ∧ t = .val v := by
  rw [List.getElem?_map] at h
  cases e : l[i]? with
  | none => rw [e] at h; cases h
  | some v => rw [e] at h; cases h; exact ⟨v, rfl, rfl⟩
theorem lam_sr {H : Hp} {vs : List V} {l : List PV} (r : VRs K [] H vs l) (tb : TB H) : SRf K H (vs.map some) (lamF l) := ⟨by rw [List.length_map, List.length_map, r.length], fun i t e => by
  obtain ⟨v, e1, rfl⟩ := lam_get e
  obtain ⟨u, h1, h2⟩ := r.get e1
  exact ⟨u, by rw [List.getElem?_map, h1]; rfl, .inl ⟨v, rfl, h2⟩⟩, fun i j s t x y b e1 e2 o1 => (by
  obtain ⟨v, _, rfl⟩ := lam_get e1
  cases o1), tb⟩
theorem vrs_app {H : Hp} {vs : List V} {l : List PV} : ∀ {n : Nat} {vs : List V} {l : List PV}, ArgC K H vs (List.replicate n .v) l → VRs K [] H vs l ∧ l.length = n
  | 0, _, _, h => by cases h; exact ⟨.nil, rfl⟩
  | n + 1, _, _, h => by
    cases h with
    | v r t =>
      obtain ⟨h1, h2⟩ := vrs_app (vs := vs) (l := l) t
      exact ⟨.cons r h1, by rw [List.length_cons, h2]⟩
theorem fn_lam {m : Cur PV n} (I0 : LamIn L ys base a us fz) (S : LamS ps ys L.sc) (hn : n = ps.length) (hq : us.length = qs.length) (hy : qs.length = ys.length)
    (hb : ∀ (cl : List (Str × Addr)) (pm cv ctv : Value) (us : List Value), us.length = ps.length → bindArgs (L.fn cl pm cv ctv) ⟨us, []⟩ = pure (ps.zip us))
    (cert : ∀ l : List PV, l.length = n → ∀ (cl : List (Str × Addr)) (cv : Value) (A : Around) (outer : List Env) (s : Shared) (H : Hp), Room k (A.deeper (PySem.W.envX L.q L.sc s.heap.objs.size a cv cl)) → EF (cxL P w K mg base (ps ++ ys) L a cl cv A outer s H) K (lamF (l ++ qs)) L.bd (unc n m l)) :
    Nonempty (CalA P w K mg base a us qs fz (k + 1) ps (spF K (List.replicate n .v) (unc n m))) := by
  obtain ⟨cl, pm, c, ctv, co, rfl, hco, hcell, hinj, hcap⟩ := I0
  refine ⟨⟨L.fn cl pm (.ref c) ctv, ⟨fun vs H Q E h => ?_, fun A outer s H args us' vs Q E hr e0 hbt r hsp => ?_⟩, .all (hb cl pm _ ctv), fun h _ _ hz => ⟨_, _, _, _, hz (a, _) (List.mem_cons_self ..)⟩⟩⟩
  · obtain ⟨_, _, _, l, h, _⟩ := h
    obtain ⟨h1, h2⟩ := vrs_app (vs := vs) (l := l) h
    rw [h1.length, h2, hn]
  obtain ⟨rv, z, tb, l, hC, q⟩ := hsp
  obtain ⟨rl, hl⟩ := vrs_app (vs := vs) (l := l) hC
  obtain ⟨_, z1⟩ := z (a, L.ob cl pm (.ref c) ctv) (List.mem_cons_self ..)
  obtain ⟨_, z2⟩ := z (c, co) (by simp)
  have hg := (e0.hok _ _ z1).1
  have hc := (e0.hok _ _ z2).1
  have hlv : vs.length = ps.length := by rw [rl.length, hl, hn]
  have KX : K.In s.heap := e0.mod.kin.keeps fun b o e => (e0.bs b o e).1
  have lim : s.heap.NoLimit := e0.mod.nolimit.keeps fun b o e => (e0.bs b o e).1
  obtain ⟨cvs, ct, d1, d2⟩ := hco
  refine PySem.W.kla_callFunE hr.depth hg rfl S.co S.gen rfl ⟨c, co, cvs, ct, rfl, hc, d1, d2⟩ (hbt _ _ _ _ ?_)
  refine wpAny_newFunctionEnv S.noc (fun y hy => S.par _ (List.of_mem_zip (a := y.1) (b := y.2) hy).1) (fun h' hns hsb => ?_) S.kind
  have hk : ∀ b o, s.heap.get? b = some o → h'.get? b = some o := fun b o e => by
    rw [hsb.2 b (Nat.ne_of_lt (Heap.lt_size e))]; exact Heap.get?_push_of_some _ e
  refine ⟨lim.keeps hk, PySem.W.kla_codeExpr ?_⟩
  have kc : ∀ {c : Addr} {v : Option Value}, base.IsCell c v → h'.IsCell c v := fun ⟨o, h1, h2⟩ => ⟨o, hk _ _ (e0.bs _ _ h1).1, h2⟩
  have I : Inv (cxL P w K mg base (ps ++ ys) L a cl (.ref c) A outer s H) [] ((vs ++ us).map some) H { heap := h', gens := s.gens, drawn := s.drawn, toks := s.toks + (ps.zip us').length, os := s.os } := by
    refine ⟨⟨e0.mod, S.kind, rfl, rfl, Nat.le_refl _, hinj, fun x hx => ?_, fun _ _ z => (by cases z), fun _ => hr.hd, Around.frames_deeper e0.frames, .inr ⟨rfl, rfl⟩, fun b z => (nomatch z), e0.bs, e0.bsz, fun b _ _ z => (nomatch z), fun b z => (nomatch z), e0.funs, e0.frf⟩,
      rfl, e0.bare, Un.kept hk, ⟨_, hns, fun i x v h1 h2 h3 => ?_⟩, fun x c' e => ?_, e0.hok.fresh (Nat.le_refl _), fun x c' e => ?_, fun p hp => (nomatch hp), e0.hok.kept hk, ?_⟩
    · have hx' : L.sc.names.lookup x = some .cell ∨ L.sc.names.lookup x = some .free := hx
      rcases hx' with hx | hx
      · exact absurd rfl (S.noc _ (PySem.mem_of_lookup hx))
      · obtain ⟨i, hi⟩ := List.getElem?_of_mem (S.fin _ (PySem.mem_of_lookup hx) rfl)
        obtain ⟨c', _, _, e, _⟩ := hcap i _ hi
        exact ⟨c', e⟩
    · have h1 : (ps ++ ys)[i]? = some x := h1
      rw [List.getElem?_map] at h2
      cases e : (vs ++ us)[i]? with
      | none => rw [e] at h2; cases h2
      | some v' =>
        rw [e] at h2
        cases h2
        by_cases ci : i < vs.length
        · rw [List.getElem?_append_left ci] at e
          rw [List.getElem?_append_left (by omega)] at h1
          obtain ⟨u, hu, ru⟩ := r.get e
          exact ⟨u, ru, .inl ⟨S.par x (List.mem_of_getElem? h1), zip_rev (List.nodup_append.mp S.nd).1 h1 hu⟩⟩
        · rw [List.getElem?_append_right (by omega)] at e h1
          obtain ⟨c', v', u, e1, e2, ru, hc'⟩ := hcap _ x h1
          rw [← hlv] at e2
          rw [e] at e2
          cases e2
          exact ⟨u, ru, .inr ⟨.inr (S.fre x (List.mem_of_getElem? h1)), c', e1, kc hc'⟩⟩
    · obtain ⟨v, hv⟩ := hcell x c' e
      exact ⟨v, kc hv⟩
    · obtain ⟨v, o, ho, _⟩ := hcell x c' e
      exact (e0.bs _ _ ho).2
    · show ((vs ++ us).map some).length = (ps ++ ys).length
      rw [List.length_map, List.length_append, List.length_append, hlv, hq, hy]
  have sr := lam_sr (rl.append rv) tb
  have np : ∀ φ b, ¬ PotOf ((vs ++ us).map some) (lamF (l ++ qs)) φ b := fun φ b ⟨i, p1, _⟩ => by
    obtain ⟨v, _, z⟩ := lam_get p1
    cases z
  have na : ∀ φ b, ¬ PotArg vs (List.replicate n .v) φ b := fun φ b ⟨i, p1, _⟩ => by
    rw [List.getElem?_replicate] at p1
    split at p1 <;> cases p1
  refine wpAny_mono ((cert l hl cl (.ref c) A outer s H (hr.deeper _)).p [] _ _ H Q I ⟨sr, (unc n m l).mono (fun v q1 u H' g s1 r1 => q1 u H' ⟨fun b o e _ nt => g.keep b o e (fun φ => np φ b) nt, s1.tb, g.there, fun b φ p => absurd p (na φ b)⟩ r1) q⟩) (fun u s' h => ?_) fun e s' h => h.elim
  obtain ⟨v, H', J, ru, q'⟩ := h
  exact ⟨v, H', J.os, J.bare, J.base, J.hok, ru, q'⟩
end
end FL
set_option Elab.async false
set_option linter.all false
set_option maxRecDepth 100000
namespace L2
open PySem PySem.Spec PyProof.Rows
section
variable {X : Cx} {pins : List (Addr × Obj)} {σ : St} {H : Hp} {s : Shared} {cs : List Addr}
def baseC (b0 h : Heap) (cs : List Addr) : Heap := PySem.W.hideAll h ((List.range h.objs.size).filter fun b => !(b0.get? b).isSome && !cs.contains b)
theorem baseC_get {b0 h : Heap} {b : Addr} {o : Obj} (e : h.get? b = some o) (c : (∃ o, b0.get? b = some o) ∨ b ∈ cs) : (baseC b0 h cs).get? b = some o := PySem.W.hideAll_get _ e fun hm => by
  have q := (List.mem_filter.mp hm).2
  rw [Bool.and_eq_true, Bool.not_eq_true', Bool.not_eq_true'] at q
  rcases c with ⟨o', c⟩ | c
  · rw [c] at q; simp at q
  · have := q.2
    rw [List.contains_iff_mem.mpr c] at this; cases this
theorem of_baseC {b0 h : Heap} {b : Addr} {o : Obj} (e : (baseC b0 h cs).get? b = some o) : h.get? b = some o ∧ ((∃ o, b0.get? b = some o) ∨ b ∈ cs) := by
  have e' := PySem.W.of_hideAll _ e
  refine ⟨e', Classical.byContradiction fun n => ?_⟩
  have z : (baseC b0 h cs).get? b = none := PySem.W.hideAll_none _ (List.mem_filter.mpr ⟨List.mem_range.mpr (Heap.lt_size e'), by
    rw [Bool.and_eq_true, Bool.not_eq_true', Bool.not_eq_true']
    refine ⟨?_, ?_⟩
    · cases q : b0.get? b with
      | none => rfl
      | some o => exact absurd (.inl ⟨o, q⟩) n
    · cases q : cs.contains b with
      | false => rfl
      | true => exact absurd (.inr (List.contains_iff_mem.mp q)) n⟩)
  rw [z] at e; cases e
theorem ff_base {h b0 b1 : Heap} : ∀ {l : List Env}, h.FunFrames b0 l → (∀ L ∈ frs l, b1.get? L = none) → h.FunFrames b1 l
  | [], _, _ => trivial
  | e :: l, ⟨h1, ⟨L, o, h2, h3, h4⟩, h5⟩, n => ⟨h1, ⟨L, o, h2, n L (by simp [frs, h2]), h4⟩, ff_base h5 fun L hL => n L (by
    unfold frs at hL ⊢
    rw [List.filterMap_cons, h2]; exact List.mem_cons_of_mem _ hL)⟩
theorem Inv.envC (I : Inv X pins σ H s) (hc : ∀ c ∈ cs, ∃ x, X.fn x = true ∧ X.env.cells.lookup x = some c) : Env0 X.prog X.w X.K X.mg (baseC X.base s.heap cs) X.A X.stack s H := by
  have kp : ∀ b o, X.base.get? b = some o → (baseC X.base s.heap cs).get? b = some o := fun b o e => baseC_get (I.bk b o e) (.inl ⟨o, e⟩)
  have e0 := I.env0
  refine ⟨e0.frames, ⟨e0.mod.kin.keeps kp, e0.mod.glob.keeps kp, let ⟨mb, h1, h2⟩ := e0.mod.blt; ⟨mb, h1.keeps kp, h2⟩, e0.mod.nolimit.keeps kp, let ⟨bm, ob, h1, h2, h3, h4⟩ := e0.mod.bm; ⟨bm, ob, h1, h2, kp _ _ h3, h4⟩⟩, fun b o e => ?_, Nat.le_of_eq (PySem.W.hideAll_size _ _), ff_base e0.funs fun L hL => ?_, e0.frf, e0.hok, e0.bare⟩
  · obtain ⟨h1, ⟨o', h2⟩ | h2⟩ := of_baseC e
    · exact ⟨h1, (I.bs b o' h2).2⟩
    · obtain ⟨x, _, hx⟩ := hc b h2
      exact ⟨h1, I.freeC x b hx⟩
  · cases z : (baseC X.base s.heap cs).get? L with
    | none => rfl
    | some o =>
      obtain ⟨h1, ⟨o', h2⟩ | h2⟩ := of_baseC z
      · rw [(e0.funs.mem hL).1] at h2; cases h2
      · obtain ⟨x, hf, hx⟩ := hc L h2
        rcases List.mem_cons.mp (I.stkSub L hL) with h | h
        · exact absurd h (I.cne x L hx)
        · obtain ⟨_, o2, h3, _⟩ := I.ok.funs.mem h
          exact absurd (Nat.lt_of_lt_of_le (Heap.lt_size h3) (I.ok.cab x L hf hx)) (Nat.lt_irrefl _)
theorem run_fnB {base' : Heap} {CX : CXT} {k : Nat} {f : Addr} {fd : FuncData} {ps : List Str} {sp : Sp} {E : XK} {Q : VK} {us : List Value} {vs : List V} (F : FnOk X.prog X.w X.K X.mg base' CX k f fd ps sp) (e0 : Env0 X.prog X.w X.K X.mg base' X.A X.stack s H) (hr : Room k X.A) (hb : Binds X.K fd ps []) (hx : Passes CX X E)
    (I : Inv X pins σ H s) (r : Vals vs us) (h : sp vs H Q E) : wpAny (model X.prog X.w) X.A (call (.ref f) us) (EP X pins σ Q) X.xe s := by
  have hl : (us ++ []).length = ps.length := by rw [List.append_nil, ← r.length]; exact F.len _ _ _ _ h
  have hb' := hb s us I.kIn hl
  rw [List.append_nil] at hb'
  refine wpAny_call (codeAny_mono (F.run X.A X.stack s H ⟨us, []⟩ us vs Q E hr e0 hb' r h) fun r s' hq => ?_)
  cases r with
  | error e => exact hx pins σ H s e s' I hq
  | ok fl =>
    cases fl with
    | ret u => exact I.after hq
    | next => exact False.elim hq
    | brk => exact False.elim hq
    | cont => exact False.elim hq
end
end L2
namespace FL
open PySem PySem.Spec PyProof.Rows L2 PL
variable [TabC] {K : PySem.W.Frag}
theorem triples_add {x y : Int} {c : Value} (n : Nat) : ∀ l : List Value, l.length ≤ n → TriplesOk l → TriplesOk (l ++ [rawInt x, rawInt y, c]) ∧ ∀ pos d, codeAmong pos (l ++ [rawInt x, rawInt y, c]) = some d → codeAmong pos l = some d ∨ d = c := by
  induction n with
  | zero =>
    intro l hl _
    have : l = [] := List.eq_nil_of_length_eq_zero (by omega)
    subst this
    refine ⟨by simp [rawInt, TriplesOk], fun pos d h => ?_⟩
    rw [List.nil_append] at h
    simp only [rawInt, codeAmong] at h
    split at h
    · cases h; exact .inr rfl
    · cases h
  | succ n ih =>
    intro l hl h
    by_cases c1 : l = []
    · subst c1; exact ih [] (Nat.zero_le _) h
    by_cases c2 : ∃ i t j u e r, l = .int i t :: .int j u :: e :: r
    · obtain ⟨i, t, j, u, e, r, rfl⟩ := c2
      rw [TriplesOk.eq_2] at h
      obtain ⟨h1, h2⟩ := ih r (by simp at hl; omega) h
      refine ⟨?_, fun pos d hd => ?_⟩
      · show TriplesOk (.int i t :: .int j u :: e :: (r ++ _))
        rw [TriplesOk.eq_2]; exact h1
      · have hd : codeAmong pos (.int i t :: .int j u :: e :: (r ++ [rawInt x, rawInt y, c])) = some d := hd
        rw [codeAmong.eq_1] at hd ⊢
        by_cases z : (i == ↑pos.line && j == ↑pos.col) = true
        · rw [if_pos z] at hd ⊢; exact .inl hd
        · rw [if_neg z] at hd ⊢; exact h2 pos d hd
    · rw [TriplesOk.eq_3 l c1 fun i t j u e r z => c2 ⟨i, t, j, u, e, r, z⟩] at h; exact h.elim
def TabIs (P : Addr) (q : Str) : Prop := (P, q) ∈ TabC.ts ∧ ∀ p ∈ TabC.ts, p.1 = P → p.2 = q
structure LamK (K : PySem.W.Frag) (mg : Str → Option Value) (cdv : Value) (P : Addr) : Prop where
  hd : ∃ c, cdv = .ref c ∧ ∀ h : Heap, K.In h → PySem.W.CodeHd h c P
def LamNow (X : Cx) (L : Lm) (a : Addr) (fz : List (Addr × Obj)) : Prop := ∃ cl pm c ctv co, fz = [(a, L.ob cl pm (.ref c) ctv), (c, co)] ∧ CodeO co L.q ∧ (∀ x c, cl.lookup x = some c → X.env.cells.lookup x = some c ∧ (x, .free) ∈ L.sc.names) ∧ ∀ x, (x, .free) ∈ L.sc.names → ∃ c, cl.lookup x = some c
section
variable {X : Cx} {pins : List (Addr × Obj)} {σ : L2.St} {H : Hp} {s : Shared} {P : Addr} {L : Lm} {pos : Pos}
theorem lam_laid {cl : List (Str × Addr)} {pm ctv : Value} {c tk : Nat} {co : Obj} {u0 : HO} {h' : Heap} {Q : Value → Shared → Prop} (I : Inv X pins σ H { s with heap := h', toks := tk }) (tb : TB H) (hc : H c = some (.frz co u0)) (hco : CodeO co L.q) (h1 : ∀ x c, cl.lookup x = some c → X.env.cells.lookup x = some c ∧ (x, .free) ∈ L.sc.names) (h2 : ∀ x, (x, .free) ∈ L.sc.names → ∃ c, cl.lookup x = some c)
    (h : ∀ a fz H' s', Inv X pins σ H' s' → LamNow X L a fz → FzO H' fz → TB H' → Same H H' → Q (.ref a) s') : Q (.ref h'.objs.size) { s with heap := h'.push (L.ob cl pm (.ref c) ctv), toks := tk } := by
  have hn : H h'.objs.size = none := I.hok.fresh (Nat.le_refl _)
  have I2 := I.laid (a := h'.objs.size) (o := .frz (L.ob cl pm (.ref c) ctv) (.own 0)) (t' := tk) (h' := h'.push (L.ob cl pm (.ref c) ctv)) (fun b u z => Heap.get?_push_of_some _ z) (Nat.le_refl _) ⟨Heap.get?_push_size _ rfl, _, Heap.get?_push_size _ rfl⟩
  have sm := same_new hn (.frz (L.ob cl pm (.ref c) ctv) (.own 0))
  refine h _ [(h'.objs.size, L.ob cl pm (.ref c) ctv), (c, co)] _ _ I2 ⟨cl, pm, c, ctv, co, rfl, hco, h1, h2⟩ (fun p hp => ?_) (tb.same sm) sm
  simp only [List.mem_cons, List.not_mem_nil, or_false] at hp
  rcases hp with rfl | rfl
  · exact ⟨_, upd_same⟩
  · exact ⟨u0, sm _ _ hc⟩
theorem lam_ok (I : Inv X pins σ H s) (tb : TB H) (hK : LamK X.K X.mg X.env.code P) (hq : L.q = X.env.qual ++ "<lambda>") (hP : TabIs P L.q) (hd : defaultsOf L.ar X.env = ([], [])) (hf : ∀ y ∈ L.sc.names, y.2 = .free → X.env.kindOf y.1 = some .cell ∨ X.env.kindOf y.1 = some .free) {Q : Value → Shared → Prop}
    (h : ∀ a fz H' s', Inv X pins σ H' s' → LamNow X L a fz → FzO H' fz → TB H' → (∀ b o, H b = some o → o.nt = true → H' b = some o) → (∀ b, H' b = none → H b = none) → Q (.ref a) s') : wpAny (model X.prog X.w) X.A (eval (.Lambda L.ar L.bd L.sc pos) X.env) Q X.xe s := by
  obtain ⟨ps, eP, tr, ck⟩ := tb _ hP.1
  obtain ⟨c, hcv, chd⟩ := hK.hd
  obtain ⟨cl, hclos, hcl1, hcl2⟩ := closureFor_ok (sc := L.sc) (env := X.env) fun y hy hk => I.ok.has y.1 (hf y hy hk)
  have hg : s.heap.Ns mainGlobals X.mg := I.mod.glob.keeps I.bk
  have hpg : s.heap.get? P = some (PySem.W.tabObj ps) := I.hok P _ eP
  have gne : mainGlobals ≠ P := fun z => by
    obtain ⟨o, es, ep, g1, g2, _⟩ := hg
    rw [z, hpg] at g1; cases g1; cases g2
  have bl : s.heap.BuiltinsAt X.mg P := by
    obtain ⟨bm, ob, b1, b2, b3, b4, b5, b6⟩ := I.mod.bm
    have b7 := I.bk _ _ b3
    refine ⟨bm, ob, b1, b2, fun z => ?_, fun z => ?_, b7, b4, b5, b6⟩
    · obtain ⟨o, es, ep, g1, g2, _⟩ := hg
      rw [z, g1] at b7; cases b7; rw [g2] at b6; cases b6
    · rw [z, hpg] at b7; cases b7; cases b4
  refine PySem.W.kla_eval hd ?_
  rw [← hq]
  cases e : codeAmong pos ps.toList with
  | some cv =>
    obtain ⟨ca, co, u, vs, t, rfl, e1, e2, e3⟩ := ck pos cv e
    refine PySem.W.kla_makeFunctionHit hclos I.ok.glob hg hcv (chd _ I.kIn) hpg tr e bl fun ctv h' tk kp hsz => ?_
    exact lam_laid (L := L) (s := s) (I.kept (t' := tk) (h' := h') kp) tb e1 ⟨vs, t, e2, e3⟩ hcl1 hcl2 fun a fz H' s' I' n z t' sm => h a fz H' s' I' n z t' (fun b o z _ => sm b o z) fun b z => sm.free z
  | none =>
    refine PySem.W.kla_makeFunction hclos I.ok.glob hg hcv (chd _ I.kIn) hpg tr e gne bl fun c' ctv h' tk ext h1 h2 cr hp' => ?_
    obtain ⟨_, co, vs, t, e0, e1, e2, e3⟩ := cr
    cases e0
    have hn : H c' = none := I.hok.fresh h1
    have cP : c' ≠ P := fun z => by subst z; rw [hn] at eP; cases eP
    obtain ⟨tr', ck'⟩ := triples_add (x := pos.line) (y := pos.col) (c := .ref c') _ _ (Nat.le_refl _) tr
    have hcP : upd (upd H P (.tbl (ps ++ #[rawInt pos.line, rawInt pos.col, .ref c']))) c' (.frz co (.own 0)) P = some (.tbl (ps ++ #[rawInt pos.line, rawInt pos.col, .ref c'])) := by rw [upd_ne (Ne.symm cP)]; exact upd_same
    have ot : ∀ b u, b ≠ P → H b = some u → upd (upd H P (.tbl (ps ++ #[rawInt pos.line, rawInt pos.col, .ref c']))) c' (.frz co (.own 0)) b = some u := fun b u n z => by
      rw [upd_ne (ne_of_none z hn), upd_ne n]; exact z
    have hc' : upd (upd H P (.tbl (ps ++ #[rawInt pos.line, rawInt pos.col, .ref c']))) c' (.frz co (.own 0)) c' = some (.frz co (.own 0)) := upd_same
    have on : ∀ b, b ≠ c' → H b = none → upd (upd H P (.tbl (ps ++ #[rawInt pos.line, rawInt pos.col, .ref c']))) c' (.frz co (.own 0)) b = none := fun b n z => by
      rw [upd_ne n, upd_ne (fun y => by subst y; rw [z] at eP; cases eP)]; exact z
    have inv : ∀ b u, upd (upd H P (.tbl (ps ++ #[rawInt pos.line, rawInt pos.col, .ref c']))) c' (.frz co (.own 0)) b = some u → (b = c' ∧ u = .frz co (.own 0)) ∨ (b = P ∧ u = .tbl (ps ++ #[rawInt pos.line, rawInt pos.col, .ref c'])) ∨ (b ≠ P ∧ H b = some u) := fun b u z => by
      by_cases y1 : b = c'
      · subst y1; rw [upd_same] at z; cases z; exact .inl ⟨rfl, rfl⟩
      · rw [upd_ne y1] at z
        by_cases y2 : b = P
        · subst y2; rw [upd_same] at z; cases z; exact .inr (.inl ⟨rfl, rfl⟩)
        · rw [upd_ne y2] at z; exact .inr (.inr ⟨y2, z⟩)
    generalize upd (upd H P (.tbl (ps ++ #[rawInt pos.line, rawInt pos.col, .ref c']))) c' (.frz co (.own 0)) = H1 at hcP ot hc' on inv
    have neP : ∀ b u, H b = some u → u.nt = true → b ≠ P := fun b u z nt y => by subst y; rw [eP] at z; cases z; cases nt
    have ext' : ∀ b o, H b = none → s.heap.get? b = some o → h'.get? b = some o := fun b o n z => ext b o (fun y => by subst y; rw [n] at eP; cases eP) z
    have lt' : ∀ b o, s.heap.get? b = some o → b ≠ c' := fun b o z => Nat.ne_of_lt (Nat.lt_of_lt_of_le (Heap.lt_size z) h1)
    have un : Un X.fs [] H H1 s.heap h' := by
      refine ⟨fun b o z n _ _ => ext' b o n z, fun b o z n _ _ => ⟨o.slots, ext' b o n z⟩, fun b o z n _ => on b (lt' b o z) n, fun b o z _ => ?_, fun b xs z => ot b _ (neP b _ z rfl) z, fun b o u z => ot b _ (neP b _ z rfl) z, fun b qs z => ?_⟩
      · by_cases y : b = P
        · subst y; exact ⟨_, hp'⟩
        · exact ⟨o, ext b o y z⟩
      · by_cases y : b = P
        · subst y; rw [eP] at z; cases z; exact ⟨_, hcP⟩
        · exact ⟨#[], by rw [ot b _ y z]; simp⟩
    have hok : HOk X.prog X.w H1 h' := fun b u z => by
      rcases inv b u z with ⟨rfl, rfl⟩ | ⟨rfl, rfl⟩ | ⟨y, z⟩
      · exact ⟨e1, _, e1⟩
      · exact hp'
      · refine (I.hok b u z).stay (fun d v hd q => ext d v (fun w => ?_) q) (fun d q => ot d _ (neP d _ q rfl) q) fun d xs q => ot d _ (neP d _ q rfl) q
        rcases hd with hd | hd
        · exact y (hd.symm.trans w)
        · subst w; rw [eP] at hd; cases hd
    have I1 : Inv X pins σ H1 { s with heap := h', toks := tk } := I.un (t' := tk) un hok
    have tb1 : TB H1 := fun p hp => by
      obtain ⟨qs, k1, k2, k3⟩ := tb p hp
      have tr1 : ∀ cv, FzC H cv p.2 → FzC H1 cv p.2 := fun cv ⟨a, o, u, vs, t, f1, f2, f3, f4⟩ => ⟨a, o, u, vs, t, f1, ot a _ (neP a _ f2 rfl) f2, f3, f4⟩
      by_cases y : p.1 = P
      · rw [y, eP] at k1
        cases k1
        refine ⟨_, by rw [y]; exact hcP, by simpa using tr', fun pos' d hd => ?_⟩
        rcases ck' pos' d (by simpa using hd) with z | rfl
        · exact tr1 _ (k3 pos' d z)
        · rw [hP.2 p hp y]; exact ⟨c', co, _, vs, t, rfl, hc', e2, e3⟩
      · exact ⟨qs, ot _ _ y k1, k2, fun pos' d z => tr1 _ (k3 pos' d z)⟩
    exact lam_laid (L := L) (s := s) I1 tb1 hc' ⟨vs, t, e2, e3⟩ hcl1 hcl2 fun a fz H' s' I' n z t' sm => h a fz H' s' I' n z t' (fun b o z nt => sm b o (ot b o (neP b o z nt) z)) fun b z => by
      have z' := sm.free z
      cases y : H b with
      | none => rfl
      | some u =>
        by_cases w : b = P
        · subst w; rw [hcP] at z'; cases z'
        · rw [ot b u w y] at z'; cases z'
end
def capV (is : List Nat) (σ : L2.St) : List V := is.map fun i => ((σ[i]?).join).getD .non
def fAL (X : Cx) (K : PySem.W.Frag) (fs : FSt) (L : Lm) (is : List Nat) (qs : List PV) (k1 k2 : List AK) (w : W (List PV)) : TA := fun σ H Q => SRf K H σ fs ∧ w.run fun l => ∀ vs H' a fz, GoE σ fs H H' → SRf K H' σ fs → LamNow X L a fz → FzO H' fz → ArgsR K σ fs H' vs (k1 ++ .f a (capV is σ) qs fz :: k2) l → Q vs H'
structure AFL (X : Cx) (K : PySem.W.Frag) (fs : FSt) (es : List Expr) (L : Lm) (is : List Nat) (qs : List PV) (k1 k2 : List AK) {R : Type} (B : (List PV → W R) → W R) : Prop where
  p : ∃ w : W (List PV), PA X es (fAL X K fs L is qs k1 k2 w) ∧ ∀ k, B k = W.bind w k
section
variable {X : Cx} {e : Expr} {es : List Expr} {pos p : Pos} {fs : FSt} {L : Lm} {is : List Nat} {qs : List PV} {k1 k2 : List AK} {R : Type} {B : (List PV → W R) → W R} {P : Addr}
theorem cap_vrs {σ : L2.St} {H : Hp} (sr : SRf K H σ fs) : ∀ {is : List Nat} {qs : List PV}, is.map (fun i => fs[i]?) = qs.map (fun q => some (some (SL.val q))) → VRs K [] H (capV is σ) qs
  | [], [], _ => .nil
  | [], _ :: _, h => by simp at h
  | _ :: _, [], h => by simp at h
  | i :: is, q :: qs, h => by
    injection h with h1 h2
    obtain ⟨u, e1, r⟩ := sr.at' i _ h1
    rcases r with ⟨v, e, r⟩ | ⟨a, _, r⟩
    · cases e
      refine .cons ?_ (cap_vrs sr h2)
      show VR K [] H (((σ[i]?).join).getD .non) q
      rw [e1]; exact r
    · exact r.elim
def CapN (N : List Str) (so sl : Scope) (is : List Nat) (ys : List Str) : Prop := is.map (fun i => N[i]?) = ys.map some ∧ (∀ y ∈ ys, so.names.lookup y = some .cell ∧ (y, NameKind.free) ∈ sl.names) ∧ ∀ y ∈ sl.names, y.2 = .free → y.1 ∈ ys
instance {N : List Str} {so sl : Scope} {is : List Nat} {ys : List Str} : Decidable (CapN N so sl is ys) := inferInstanceAs (Decidable (_ ∧ _ ∧ _))
theorem al_lam {ar : Arguments} {bd : Expr} {sc : Scope} (q : Str) (ys : List Str) (hK : LamK X.K X.mg X.env.code P) (hP : TabIs P q) (hN : CapN X.N X.env.scope sc is ys) (hr : AF X K fs es k2 B) (hc : is.map (fun i => fs[i]?) = qs.map fun q => some (some (SL.val q)) := by rfl) (hq : q = X.env.qual ++ "<lambda>" := by rfl) (hd : defaultsOf ar X.env = ([], []) := by rfl)
    (hst : starEach (.Lambda ar bd sc pos :: es) X.env = (false, eval (.Lambda ar bd sc pos) X.env) :: starEach es X.env := by rfl) : AFL X K fs (.Lambda ar bd sc pos :: es) ⟨q, ar, bd, sc⟩ is qs [] k2 B := by
  obtain ⟨w, hp, hB⟩ := hr.p
  refine ⟨w, fun pos' pins s σ H Q I ⟨sr, q⟩ => ?_, hB⟩
  rw [hst]
  refine Calls.spliced_cons (lam_ok (L := ⟨_, ar, bd, sc⟩) I sr.tb hK hq hP hd (fun y hy hk => .inl (hN.2.1 _ (hN.2.2 y hy hk)).1) fun a fz H1 s1 I1 now z1 tb1 kp th => ?_)
  have g1 : GoE σ fs H H1 := ⟨fun b o e _ nt => kp b o e nt, th⟩
  have tk := g1.tups sr
  have sr1 : SRf K H1 σ fs := ⟨sr.len, fun i t e => let ⟨u, h1, h2⟩ := sr.at' i t e; ⟨u, h1, h2.mono tk fun x b o _ _ _ z nt => kp b o z nt⟩, sr.nd, tb1⟩
  refine thn (hp pos' pins s1 σ H1 (fun vs H2 => Q (.ref a :: vs) H2) I1 ⟨sr1, w.mono (fun l q1 vs H2 g2 s2 r2 => ?_) q⟩) fun us s2 ⟨vs, H2, I2, r2, q2⟩ => ⟨.ref a :: vs, H2, I2, .cons rfl r2, q2⟩
  have z2 := z1.tk (g2.tups sr1)
  exact q1 _ H2 a fz (g1.trans g2) s2 now z2 (.f (cap_vrs s2 hc) z2 r2)
theorem al_cons {w : W PV} (ha : EF X K fs e w) (hr : AFL X K fs es L is qs k1 k2 B) (hst : starEach (e :: es) X.env = (false, eval e X.env) :: starEach es X.env := by rfl) : AFL X K fs (e :: es) L is qs (.v :: k1) k2 (fun k => .bind w fun x => B fun l => k (x :: l)) := by
  obtain ⟨wr, hp, hB⟩ := hr.p
  refine ⟨.bind w fun x => .bind wr fun l => .ret (x :: l), PA.imp (pa_cons ha.p hp hst) fun σ H Q ⟨sr, q⟩ => ?_, fun k => by simp [hB]⟩
  exact ⟨sr, w.mono (fun x q1 u1 H1 g1 s1 v1 => ⟨s1, wr.mono (fun l q2 vs H2 a fz g2 s2 n z v2 => q2 _ H2 a fz (g1.trans g2) s2 n z (.v (g2.vr s1 v1) v2)) q1⟩) q⟩
theorem e_callLam {ys : List Str} {x : Str} {f : Addr} {fd : FuncData} {k k' : Nat} {ps : List Str} {m : List PV → W PV} {B : (List PV → W PV) → W PV} {W' : W PV} (bi : Binds X.K fd ps []) (kp : PySem.W.keepIn X.K (.ref f) = true) (hm : X.mg x = some (.ref f))
    (G : ∀ base' a us fz, LamIn L ys base' a us fz → us.length = qs.length → FnOk X.prog X.w X.K X.mg base' CX0 k f fd ps (spF K (k1 ++ .f a us qs fz :: k2) m)) (hfn : ∀ y, X.fn y = true) (hN : CapN X.N X.env.scope L.sc is ys) (hc : is.map (fun i => fs[i]?) = qs.map fun q => some (some (SL.val q))) (hr : Room k' X.A) (ha : AFL X K fs (e :: es) L is qs k1 k2 B) (hk : k ≤ k' := by first | exact Nat.le_of_ble_eq_true rfl | exact Nat.le_refl _ | omega) (hW : W' = B m := by rfl) (hg : Gl X x := by rfl) (hdb : (x == ("__debug__" : Str)) = false := by decide)
    (he : starEach (e :: es) X.env = (false, eval e X.env) :: starEach es X.env := by rfl) (hpl : (backTo pos (starEach es X.env)).any (·.1) = false := by rfl) : EF X K fs (.Call (.Name x p) (e :: es) [] pos) W' := by
  subst hW
  obtain ⟨w, hp, hB⟩ := ha.p
  rw [hB]
  refine ⟨fun pins s σ H Q I ⟨sr, q⟩ => ?_⟩
  refine wpAny_Call_Name_kw (ld_glob I hg hm ?_ hdb)
  refine PySem.W.callWith_K (h₀ := X.base) I.ok.mod.kin kp (thn (hp pos pins s σ H (fun vs H1 => ∃ a fz l, SRf K H1 σ fs ∧ LamNow X L a fz ∧ ArgsR K σ fs H1 vs (k1 ++ .f a (capV is σ) qs fz :: k2) l ∧ (m l).run fun z => ∀ u H2, GoC vs (k1 ++ .f a (capV is σ) qs fz :: k2) H1 H2 → VR K [] H2 u z → Q u H2) I ⟨sr, w.mono (fun l q1 vs H1 a fz g1 s1 n z r => ⟨a, fz, l, s1, n, r, (m l).mono (fun z q2 u H2 g2 r2 => let ⟨s2, g3⟩ := g2.caller r s1; q2 u H2 (g1.trans g3) s2 r2) q1⟩) q⟩)
    fun us s1 ⟨vs, H1, I1, r, a, fz, l, sr1, ⟨cl, pm, c, ctv, co, efz, hco, h1, h2⟩, ar, q1⟩ => ⟨I1.kIn, ?_⟩) he hpl
  obtain ⟨hN1, hN2, hN3⟩ := hN
  have cy : ∀ x c, cl.lookup x = some c → x ∈ ys := fun x c z => hN3 _ (h1 x c z).2 rfl
  have cin : ∀ x c, cl.lookup x = some c → c ∈ ys.filterMap fun y => cl.lookup y := fun x c z => List.mem_filterMap.mpr ⟨x, cy x c z, z⟩
  have e1 := I1.envC (cs := ys.filterMap fun y => cl.lookup y) fun c hc => by
    obtain ⟨y, hy, z⟩ := List.mem_filterMap.mp hc
    exact ⟨y, hfn y, (h1 y c z).1⟩
  have bc : ∀ x c v, cl.lookup x = some c → s1.heap.IsCell c v → (baseC X.base s1.heap (ys.filterMap fun y => cl.lookup y)).IsCell c v := fun x c v z ⟨o, z1, z2⟩ => ⟨o, baseC_get z1 (.inr (cin x c z)), z2⟩
  have hlen : is.length = qs.length := by have := congrArg List.length hc; simpa using this
  have lin : LamIn L ys (baseC X.base s1.heap (ys.filterMap fun y => cl.lookup y)) a (capV is σ) fz := by
    refine ⟨cl, pm, c, ctv, co, efz, hco, fun x c z => ?_, fun x y c z1 z2 => I.ok.inj x y c (h1 x c z1).1 (h1 y c z2).1, fun i y hy => ?_⟩
    · obtain ⟨v, hv⟩ := I1.cell x c (h1 x c z).1
      exact ⟨v, bc x c v z hv⟩
    · obtain ⟨c', hc'⟩ := h2 y (hN2 y (List.mem_of_getElem? hy)).2
      have hi1 : (is.map fun i => X.N[i]?)[i]? = some (some y) := by rw [hN1, List.getElem?_map, hy]; rfl
      rw [List.getElem?_map] at hi1
      cases z : is[i]? with
      | none => rw [z] at hi1; cases hi1
      | some j =>
        rw [z] at hi1
        have hj : X.N[j]? = some y := Option.some.inj hi1
        have hi2 : (is.map fun i => fs[i]?)[i]? = some (fs[j]?) := by rw [List.getElem?_map, z]; rfl
        rw [hc, List.getElem?_map] at hi2
        cases zq : qs[i]? with
        | none => rw [zq] at hi2; cases hi2
        | some qv =>
          rw [zq] at hi2
          have hfj : fs[j]? = some (some (.val qv)) := (Option.some.inj hi2).symm
          obtain ⟨v, e2, _⟩ := sr1.at' j _ hfj
          obtain ⟨mm, _, hl⟩ := I1.loc
          obtain ⟨u, ru, lk⟩ := hl j y v hj e2 (.inr (.inl (hN2 y (List.mem_of_getElem? hy)).1))
          refine ⟨c', v, u, hc', ?_, ru, ?_⟩
          · unfold capV
            rw [List.getElem?_map, z]
            show some (((σ[j]?).join).getD .non) = some v
            rw [e2]; rfl
          · rcases lk with ⟨k0, _⟩ | ⟨_, c2, k1, k2⟩
            · have k0 : X.env.scope.names.lookup y = some .local := k0
              rw [(hN2 y (List.mem_of_getElem? hy)).1] at k0; cases k0
            · rw [(h1 y c' hc').1] at k1
              cases k1
              exact bc y c' _ hc' k2
  exact run_fnB (G _ a _ fz lin (by unfold capV; rw [List.length_map]; exact hlen)) e1 (hr.mono hk) bi pass0 I1 r ⟨sr1.tb, l, ar.c sr1, q1⟩
structure HF (P : Program) (w : World) (K : PySem.W.Frag) (mg : Str → Option Value) (n kf : Nat) (x : Str) (k : Nat) (ps : List Str) (sp : Addr → List V → List PV → List (Addr × Obj) → Cur PV n → Sp) where
  f : Addr
  fd : FuncData
  bi : Binds K fd ps []
  kp : PySem.W.keepIn K (.ref f) = true
  at' : mg x = some (.ref f)
  ok : ∀ {pl : List Str} {qs : List PV} {g : Cur PV n} (b : Heap) (a : Addr) (us : List V) (fz : List (Addr × Obj)), Nonempty (CalA P w K mg b a us qs fz kf pl (spF K (List.replicate n .v) (unc n g))) → FnOk P w K mg b CX0 k f fd ps (sp a us qs fz g)
theorem e_callL {n k0 k k' : Nat} {ys pl ps : List Str} {x : Str} {g : Cur PV n} {m : Cur PV n → List PV → W PV} {B : (List PV → W PV) → W PV} {W' : W PV} (ha : AFL X K fs (e :: es) L is qs k1 k2 B) (hN : CapN X.N X.env.scope L.sc is ys) (E : HF X.prog X.w X.K X.mg n (k0 + 1) x k ps fun a us qs fz g => spF K (k1 ++ .f a us qs fz :: k2) (m g)) (hr : Room k' X.A)
    (cert : ∀ (b : Heap) {a : Addr} {cl : List (Str × Addr)} {cv : Value} {A : Around} {outer : List Env} {s : Shared} {H : Hp}, Room k0 (A.deeper (PySem.W.envX L.q L.sc s.heap.objs.size a cv cl)) → AllC n (fun l w => EF (cxL X.prog X.w X.K X.mg b (pl ++ ys) L a cl cv A outer s H) X.K (lamF (l ++ qs)) L.bd w) g)
    (hX : X.K = K := by rfl) (hb : ∀ (cl : List (Str × Addr)) (pm cv ctv : Value) (us : List Value), us.length = pl.length → bindArgs (L.fn cl pm cv ctv) ⟨us, []⟩ = pure (pl.zip us) := by exact fun _ _ _ _ => usN (by (repeat intro _); rfl))
    (S : LamS pl ys L.sc := by exact ⟨rfl, rfl, rfl, by decide +kernel, by decide +kernel, by decide +kernel, by decide +kernel, by decide +kernel⟩) (hn : n = pl.length := by rfl) (hy : qs.length = ys.length := by rfl) (hfn : ∀ y, X.fn y = true := by exact fun _ => rfl) (hc : is.map (fun i => fs[i]?) = qs.map fun q => some (some (SL.val q)) := by rfl) (hk : k ≤ k' := by first | exact Nat.le_of_ble_eq_true rfl | exact Nat.le_refl _ | omega) (hW : W' = B (m g) := by rfl) (hg : Gl X x := by rfl) (hdb : (x == ("__debug__" : Str)) = false := by decide)
    (he : starEach (e :: es) X.env = (false, eval e X.env) :: starEach es X.env := by rfl) (hpl : (backTo pos (starEach es X.env)).any (·.1) = false := by rfl) : EF X K fs (.Call (.Name x p) (e :: es) [] pos) W' := by
  subst hX
  exact e_callLam E.bi E.kp E.at' (fun b a us fz LI hl => E.ok b a us fz (fn_lam LI S hn hl hy hb fun l e cl cv A outer s H hr => (cert b hr).all l e)) hfn hN hc hr ha hk hW hg hdb he hpl
end
end FL
set_option Elab.async false
set_option linter.all false
set_option maxRecDepth 100000
namespace L2
open PySem PySem.Spec PyProof.Rows
theorem Fun.okc {P : Program} {w : World} {K : PySem.W.Frag} {mg : Str → Option Value} {base : Heap} {x qual : Str} {st : Stmt} {f : Addr} {fd : FuncData} {N ps : List Str} {k : Nat} {sp : Sp} (F : Fun K x qual st f fd) (S : FnScope N ps (defScope st)) (len : ∀ vs H Q E, sp vs H Q E → vs.length = ps.length)
    (hbody : ∀ (cdv : Value) (A : Around) (outer : List Env) (s : Shared) (H : Hp) (vs : List V) (Q : VK) (E : XK), fd.code = cdv → Room k (A.deeper (envOfC qual (defScope st) s.heap.objs.size f cdv)) → sp vs H Q E →
      ∃ t, PSs (cxOf CX0 P w K mg base N qual (defScope st) f cdv A outer s H E).nox (defBody st) t ∧ t { nx := fun _ H' => Q .non H', rt := Q } (start N vs) H) : FnOk P w K mg base CX0 (k + 1) f fd ps sp := by
  obtain ⟨oc, od, kV, doc, pm, an, cdv, ct, osl, rfl, lk, hcd⟩ := F.ex
  refine fn_of lk hcd S len fun A outer s H vs Q E hr hsp => ?_
  obtain ⟨t, h, q⟩ := hbody cdv A outer s H vs Q E rfl hr hsp
  exact ⟨t, h.nox, q⟩
def tabH (ts : List Addr) (a : Addr) (o : Option HO) : Hp := fun b => if b ∈ ts then some (.tbl #[]) else if b = a then o else none
theorem tabH_t {ts : List Addr} {a b : Addr} {o : Option HO} (h : b ∈ ts) : tabH ts a o b = some (.tbl #[]) := if_pos h
theorem tabH_a {ts : List Addr} {a : Addr} {o : Option HO} (h : a ∉ ts) : tabH ts a o a = o := by unfold tabH; rw [if_neg h, if_pos rfl]
theorem tabH_inv {ts : List Addr} {a b : Addr} {o : Option HO} {u : HO} (h : tabH ts a o b = some u) : (b ∈ ts ∧ u = .tbl #[]) ∨ (b = a ∧ o = some u) := by
  unfold tabH at h
  by_cases c : b ∈ ts
  · rw [if_pos c] at h; cases h; exact .inl ⟨c, rfl⟩
  · rw [if_neg c] at h
    by_cases d : b = a
    · rw [if_pos d] at h; exact .inr ⟨d, h⟩
    · rw [if_neg d] at h; cases h
theorem law_callT {P : Program} {w : World} {K : PySem.W.Frag} {mg mb : Str → Option Value} {k : Nat} {fa a : Addr} {fd : FuncData} {x : Str} {sp : Sp} {s₁ : Shared} {vs : List Value} {ns : List Int} {ts : List Addr}
    (KX : K.In s₁.heap) (hns : s₁.heap.Ns mainGlobals mg) (hb : s₁.heap.Ns builtinsNs mb) (hbb : ∀ x : Str, x ≠ "__name__" → mb x = bootBuiltins x) (hlim : s₁.heap.NoLimit) (hbm : ∃ bm ob, mg "__builtins__" = some (.ref bm) ∧ bm ≠ builtinsNs ∧ s₁.heap.get? bm = some ob ∧ ob.cls = .type "module" ∧ ob.dict = some builtinsNs ∧ ob.data = .plain) (hg : s₁.gens = #[])
    (ha : s₁.heap.get? a = some { cls := .type "list", data := .seq vs.toArray }) (hi : IntsAre vs ns) (hl : ns.length ≤ sizeLine) (hr : Room k callerA) (ht : ∀ P ∈ ts, s₁.heap.get? P = some (PySem.W.tabObj #[])) (htK : ∀ P ∈ ts, K.lookup P = none) (htC : ∀ P ∈ ts, isCodeTable s₁.heap P)
    (F : ∀ base : Heap, K.In base → base.Ns mainGlobals mg → FnOk P w K mg base CX0 k fa fd [x] sp) (hbind : ∀ (s : Shared) (u : Value), BindsTo s fd ⟨[u], []⟩ [(x, u)])
    (hsp : ∀ H : Hp, (∀ P ∈ ts, H P = some (.tbl #[])) → PL.FzL K H a (ns.map V.int) → sp [.ref a] H (fun v _ => v = .bl true) fun _ _ _ => False) :
    codeAny (model P w) callerA (.call (.ref fa) ⟨[.ref a], []⟩) (fun r s' => r = .ok (.ret (.bool true)) ∧ OldK s₁.heap s'.heap ∧ s'.os = s₁.os ∧ AllBare s'.gens) s₁ := by
  have rv := vals_ints hi
  have lenV := hi.length
  have core : ∀ H : Hp, (∀ P ∈ ts, H P = some (.tbl #[])) → PL.FzL K H a (ns.map V.int) → HOk P w H s₁.heap → (∀ b o, H b = some o → (b ∈ ts ∧ o = .tbl #[]) ∨ (b = a ∧ K.lookup a = none ∧ ∃ o' u, o = .frz o' u)) →
      codeAny (model P w) callerA (.call (.ref fa) ⟨[.ref a], []⟩) (fun r s' => r = .ok (.ret (.bool true)) ∧ OldK s₁.heap s'.heap ∧ s'.os = s₁.os ∧ AllBare s'.gens) s₁ := by
    intro H hT hS hok hA
    have base_of : ∀ {b : Addr} {o : Obj}, s₁.heap.get? b = some o → H b = none → (hidT s₁.heap H).get? b = some o := fun e n => hidT_get e n
    have noA : ∀ {b : Addr} {o : Obj} {es : Array DictEntry} {ep : Nat}, s₁.heap.get? b = some o → o.data = .dict es ep → H b = none := fun {b o es ep} e d => by
      cases q : H b with
      | none => rfl
      | some u =>
        rcases hA b u q with ⟨z, _⟩ | ⟨z, _⟩
        · rw [ht b z] at e; cases e; cases d
        · subst z; rw [ha] at e; cases e; cases d
    have nsK : ∀ {b : Addr} {m : Str → Option Value}, s₁.heap.Ns b m → (hidT s₁.heap H).Ns b m := fun {b m} ⟨o, es, ep, e, d, r⟩ => ⟨o, es, ep, base_of e (noA e d), d, r⟩
    have hKb : K.In (hidT s₁.heap H) := fun b o e => base_of (KX b o e) (by
      cases q : H b with
      | none => rfl
      | some u =>
        rcases hA b u q with ⟨z, _⟩ | ⟨z, z2, _⟩
        · rw [htK b z] at e; cases e
        · subst z; rw [z2] at e; cases e)
    have hM : Mod K mg (hidT s₁.heap H) := ⟨hKb, nsK hns, ⟨mb, nsK hb, hbb⟩, let ⟨mc, h1, h2⟩ := hlim; ⟨mc, nsK h1, h2⟩, let ⟨bm, ob, h1, h2, h3, h4, h5, h6⟩ := hbm; ⟨bm, ob, h1, h2, base_of h3 (by
      cases q : H bm with
      | none => rfl
      | some u =>
        rcases hA bm u q with ⟨z, _⟩ | ⟨z, _⟩
        · rw [ht bm z] at h3; cases h3; cases h6
        · subst z; rw [ha] at h3; cases h3; cases h6), h4, h5, h6⟩⟩
    have e0 : Env0 P w K mg (hidT s₁.heap H) callerA [] s₁ H := ⟨rfl, hM, fun b o e => of_hidT e, Nat.le_of_eq (hidT_size _ _), trivial, fun b hb => absurd (show b ∈ ([] : List Addr) from hb) (by simp), hok, .of_eq hg⟩
    refine codeAny_mono ((F _ hKb (nsK hns)).run callerA [] s₁ H ⟨[.ref a], []⟩ [.ref a] [.ref a] _ _ hr e0 (hbind s₁ (.ref a)) (.cons rfl .nil) (hsp H hT hS)) fun r s' h => ?_
    cases r with
    | error e => exact h.elim
    | ok fl =>
      cases fl with
      | next => exact False.elim h
      | brk => exact False.elim h
      | cont => exact False.elim h
      | ret u =>
        obtain ⟨v, H', os, bare, un, hok', r', q⟩ := h
        have q' : v = .bl true := q
        subst q'
        obtain rfl : u = Value.bool true := r'
        refine ⟨rfl, ⟨fun b o e => ?_, fun b o e => un.there b o e (by simp)⟩, os, bare⟩
        cases q : H b with
        | none => exact .inl (un.keep b o e q (by intro z; exact absurd (show b ∈ ([] : List Addr) from z) (by simp)) (by simp))
        | some u =>
          rcases hA b u q with ⟨z, rfl⟩ | ⟨z, _, o', u', rfl⟩
          · obtain ⟨more, h2⟩ := un.tbls b _ q
            have h3 : s'.heap.get? b = some (PySem.W.tabObj (#[] ++ more)) := hok' b _ h2
            rw [ht b z] at e
            cases e
            exact .inr (.inl ⟨htC b z, rfl, #[], more, rfl, h3⟩)
          · have z2 := un.frzs b _ _ q
            obtain ⟨e1, _⟩ := hok b _ q
            obtain ⟨e2, _⟩ := hok' b _ z2
            rw [e] at e1; cases e1
            exact .inl e2
  have naT : a ∉ ts := fun z => by rw [ht a z] at ha; cases ha
  cases hk : K.lookup a with
  | some o =>
    have e := KX a o hk
    rw [ha] at e
    cases e
    refine core (tabH ts a none) (fun b hb => tabH_t hb) (.inr ⟨_, vs.toArray, _, hk, rfl, rfl, rfl, by rw [List.size_toArray, lenV]; exact hl, by simpa using rv⟩) (fun b u z => ?_) fun b u z => ?_
    · rcases tabH_inv z with ⟨y, rfl⟩ | ⟨_, y⟩
      · exact ht b y
      · cases y
    · rcases tabH_inv z with ⟨y, rfl⟩ | ⟨_, y⟩
      · exact .inl ⟨y, rfl⟩
      · cases y
  | none =>
    refine core (tabH ts a (some (.frz { cls := .type "list", data := .seq vs.toArray } (.lst (ns.map V.int))))) (fun b hb => tabH_t hb) (.inl ⟨{ cls := .type "list", data := .seq vs.toArray }, tabH_a naT⟩) (fun b u z => ?_) fun b u z => ?_
    · rcases tabH_inv z with ⟨y, rfl⟩ | ⟨rfl, y⟩
      · exact ht b y
      · cases y; exact ⟨ha, by rw [List.length_map]; exact hl, vs, _, rv, ha⟩
    · rcases tabH_inv z with ⟨y, rfl⟩ | ⟨rfl, y⟩
      · exact .inl ⟨y, rfl⟩
      · cases y; exact .inr ⟨rfl, hk, _, _, rfl⟩
end L2
namespace FL
open PySem PySem.Spec PyProof.Rows L2 PL
variable [TabC]
abbrev EV.at (v : EV) (b : Heap) : EV := ⟨v.P, v.w, v.K, v.mg, b⟩
def DI.at {v : EV} {d : DF} (D : DI v d) (b : Heap) : DI (v.at b) d := ⟨D.f, D.fd, D.fn, D.bi, D.at'⟩
theorem mkVc {v : EV} {x : Str} {st : Stmt} {k n : Nat} {ks : List AK} {P : Addr} {m : Cur PV n} (D : DI v ⟨x, st, pms st, k + 1, fun K => spF K ks (unc n m)⟩) (hc : LamK v.K v.mg D.fd.code P)
    (cert : ∀ {cdv : Value} {A : Around} {outer : List Env} {s : Shared} {H : Hp} {E : XK}, LamK v.K v.mg cdv P → Room k (A.deeper (envOfC x (defScope st) s.heap.objs.size D.f cdv)) → (nms st).Nodup → AllC n (fun l w => SF (cxOf CX0 v.P v.w v.K v.mg v.base (nms st) x (defScope st) D.f cdv A outer s H E).nox v.K false (begF ks l (nms st).length) (defBody st) w .rt) m)
    (hks : ks.length = (pms st).length := by rfl) (one : Nat.ble (npot ks) 1 = true := by rfl) (S : FnScope (nms st) (pms st) (defScope st) := by exact fsc) : D.O := by
  refine D.fn.okc S (fun vs H Q E h => ?_) (fun cdv A outer s H vs Q E ec hr h => ?_)
  · obtain ⟨_, l, h, _⟩ := h
    rw [h.len]; exact hks
  obtain ⟨tb, l, h, q⟩ := h
  subst ec
  exact ⟨_, ((cert hc hr S.nd).all l (unc_len q)).p, h.beg tb (one_of one) (nms st), (unc n m l).mono (fun v q1 u σ' fs' H' g s' r => q1 u H' (h.go g s') r) q⟩
def CodeV (vs : Array Value) (c P : Addr) : Prop := ∃ file tf flags tg inF text tt, vs[11]? = some (.ref P) ∧ vs.getD 11 .none = .ref P ∧ vs.getD 18 .none = .str file tf ∧ vs.getD 7 .none = .int flags tg ∧ vs.getD 9 .none = .bool inF ∧ vs.getD 10 .none = .int text tt ∧ c ≠ P
structure DXc (K : PySem.W.Frag) (x : Str) (st : Stmt) (P : Addr) : Prop where
  ex : ∃ f fd, PySem.W.nsIn K mainGlobals x = some (some (.ref f)) ∧ Fun K x x st f fd ∧ ∃ c, fd.code = .ref c ∧ (∀ h : Heap, K.In h → PySem.W.CodeHd h c P) ∧ ∀ h : Heap, K.In h → isCodeTable h P
theorem dxc {K : PySem.W.Frag} {x : Str} {st : Stmt} {f c P : Addr} {oc : Value} {od an cd : Option Addr} {osl sl : Array (Option Value)} {kV doc pm ct : Value} {vs : Array Value} (a : PySem.W.nsIn K mainGlobals x = some (some (.ref f))) (l : K.lookup f = some ⟨oc, od, .func (PySem.W.fnOf x x (defArgs st) (defBody st) (defScope st) .none kV doc pm an (.ref c) ct), osl⟩)
    (h : PySem.W.codeIn K (.ref c) x = true) (k : PySem.W.keepIn K (.ref f) = true) (e : K.lookup c = some ⟨.type "code", cd, .fields vs, sl⟩) (z : CodeV vs c P) : DXc K x st P :=
  ⟨f, _, a, fun_mk l h k, c, rfl, fun hp hK => let ⟨file, tf, flags, tg, inF, text, tt, z⟩ := z; ⟨_, vs, file, tf, flags, tg, inF, text, tt, hK _ _ e, rfl, rfl, z⟩, fun hp hK => let ⟨_, _, _, _, _, _, _, z, _⟩ := z; ⟨c, _, vs, hK _ _ e, rfl, rfl, z⟩⟩
theorem DXc.mk3 {v : EV} {h : Heap} {d : DF} {P : Addr} (D : DXc v.K d.x d.s P) (X : v.K.In h) (G : h.Ns mainGlobals v.mg)
    (hb : ∀ (kV doc pm : Value) (an : Option Addr) (cdv ct : Value) (us : List Value), us.length = d.ps.length → bindArgs (PySem.W.fnOf d.x d.x (defArgs d.s) (defBody d.s) (defScope d.s) .none kV doc pm an cdv ct) ⟨us, []⟩ = pure (d.ps.zip us) := by exact fun _ _ _ _ _ _ => usN (by (repeat intro _); rfl)) : ∃ D : DI v d, LamK v.K v.mg D.fd.code P := by
  obtain ⟨f, fd, a, F, c, hc, hd, _⟩ := D.ex
  exact ⟨⟨f, fd, F, F.binds hb, PySem.W.mg_of X G a⟩, ⟨⟨c, hc, hd⟩⟩⟩
theorem DXc.tab {K : PySem.W.Frag} {x : Str} {st : Stmt} {P : Addr} (D : DXc K x st P) {h : Heap} (hK : K.In h) : isCodeTable h P := let ⟨_, _, _, _, _, _, _, z⟩ := D.ex; z h hK
def CalA.mono {P : Program} {w : World} {K : PySem.W.Frag} {mg : Str → Option Value} {base : Heap} {f : Addr} {us : List V} {qs : List PV} {fz : List (Addr × Obj)} {k k' : Nat} {ps : List Str} {sp : Sp} (A : CalA P w K mg base f us qs fz k ps sp) (h : k ≤ k') : CalA P w K mg base f us qs fz k' ps sp := ⟨A.fd, A.ok.mono h, A.bi, A.kp⟩
theorem walkT {l : PySem.W.OpenLaw} {k : Nat} {q : Program} {loose : List Str} {XP : (Str → Option Value) → Heap → Prop} {YP : World → Heap → Prop} {d : DefRec} {K : Params → PySem.W.Frag} (hn : l.most = some 63) (hdf : d.params.defaults = []) (hr : Room k callerA)
    (hY : ∀ (w : World) (h : Heap), YP w h → (K w.params).In h ∧ ∀ P ∈ TabC.ts.map (·.1), h.get? P = some (PySem.W.tabObj #[])) (hK : ∀ w : World, ∀ P ∈ TabC.ts.map (·.1), (K w.params).lookup P = none) (hC : ∀ (w : World) (h : Heap), (K w.params).In h → ∀ P ∈ TabC.ts.map (·.1), isCodeTable h P)
    (F : ∀ (w : World) (mg : Str → Option Value) (fa : Addr) (h : Heap), (K w.params).In h → h.Ns mainGlobals mg → mg d.name = some (.ref fa) →
      ∃ fd : FuncData, (∀ (s : Shared) (u : Value), BindsTo s fd ⟨[u], []⟩ [("_law_script", u)]) ∧ ∀ base : Heap, (K w.params).In base → base.Ns mainGlobals mg → FnOk l.prog w (K w.params) mg base CX0 k fa fd ["_law_script"] (spLaw (K w.params))) :
    PySem.W.WalkO q loose XP YP l.row.toRowW d [] (fun f vs => PySem.call f vs) := by
  refine Att.attach_call hn hdf fun w s₀ s₁ mg mb fa o pm cd doc a vs ns G Y ho hd hcd hmg hobj hints hlen hg => ?_
  obtain ⟨KX, hT⟩ := hY w _ Y
  obtain ⟨fd, hb, hF⟩ := F w mg fa _ KX G.T.g hmg
  exact law_callT KX G.T.g G.T.b G.T.builtins G.T.nolimit G.T.bmain hg hobj hints (Nat.le_trans hlen (by decide)) hr hT (hK w) (hC w _ KX) hF hb fun H hT' hS => ⟨fun p hp => ⟨#[], hT' _ (List.mem_map.mpr ⟨p, hp, rfl⟩), trivial, fun pos c z => by simp [codeAmong] at z⟩, a, ns, rfl, hS, hlen, fun _ => rfl⟩
theorem forK {K : PySem.W.Frag} {h : Heap} (P : PySem.W.Frag → Prop) (_ : K.In h) (p : P K) : P K := p
end FL
set_option Elab.async false
set_option linter.all false
set_option maxRecDepth 100000
set_option Elab.async false
set_option linter.all false
set_option maxRecDepth 100000
namespace FL
open PySem PySem.Spec PyProof.Rows L2 PL
variable [TabC] {K : PySem.W.Frag}
section
variable {X : Cx} {a b : Expr} {rest : List Stmt} {pos : Pos} {fs : FSt} {T : Type} {out : T → End} {x : Bool}
theorem SF.parL {i j : Nat} {y z : Str} {wl : W (List PV)} {wb : W PV} {px py pt pt2 : Pos} {kt k2 : Nat} {k : List PV → PV → W T} (hc : X.calm = true) (hN : X.N.Nodup) (hi : X.N[i]? = some y) (hj : X.N[j]? = some z) (hij : i ≠ j) (hx : X.env.scope.names.lookup y = some .local) (hy : X.env.scope.names.lookup z = some .local)
    (ha : LF X K fs a wl) (hb : EF X K fs b wb) (hr : ∀ u v, SF X K x ((fs.set i (some (.ol none u))).set j (some (.val v))) rest (k u v) out)
    (hw : swappedStores [.Tuple [.Name y px, .Name z py] kt pt] (.Tuple [a, b] k2 pt2) X.env = pure (some [y, z]) := by rfl) (hs : swapsWithSole [.Tuple [.Name y px, .Name z py] kt pt] (.Tuple [a, b] k2 pt2) pos.line X.env = pure false := by rfl)
    (he : starEach [a, b] X.env = (false, eval a X.env) :: starEach [b] X.env := by rfl) (he2 : starEach [b] X.env = (false, eval b X.env) :: starEach [] X.env := by rfl) :
    SF X K x fs (.Assign [.Tuple [.Name y px, .Name z py] kt pt] (.Tuple [a, b] k2 pt2) pos :: rest) (.bind wl fun u => .bind wb fun v => k u v) out :=
  SF.step (ps_par hc hN hi hj hij hx hy (pa_cons ha.p (pa_cons hb.p pa_nil he2) he) hw hs) fun D σ H ⟨sr, q⟩ => ⟨sr, wl.mono (fun u q1 ad vs H1 g1 s1 n1 e1 v1 => ⟨s1, wb.mono (fun v q2 u2 H2 g2 s2 v2 => by
    have no := sr.noOwn n1
    have oa : OwnAt K H2 ad (.ol none u) := ⟨fun _ z => (nomatch z), vs, g2.keepN e1 no, g2.vrs s1 v1⟩
    have s3 := s2.putO oa no i
    have s4 := s3.putV v2 j
    exact ⟨_, _, rfl, _, k u v, hr u v, s4, (k u v).mono (fun t q3 => q3.go ((GoF.putO s2 (g1.trans g2).f no n1 i).trans (GoF.putV s3 _ _ j)) sr s4) q2⟩) q1⟩) q⟩
end
end FL
namespace My
def potG05 (ns : List Int) : Prop := ∃ g s : Int, ns = [g, s] ∧ 0 ≤ g ∧ 0 ≤ s ∧ s < 2305843009213693951
end My
set_option Elab.async false
set_option linter.all false
set_option maxRecDepth 100000
set_option maxHeartbeats 1000000
namespace My
open PySem PySem.Spec PyProof.Rows L2 PL FL
def m_parts_of (tree_ : PV) : W (List PV) :=
  W.bind (W.ret []) fun backward_1 =>
  W.bind (W.bind (W.ret tree_) fun x3 => W.ret [x3]) fun waiting_2 =>
  W.bind (whileW (fun s4 => (W.bind (W.ret s4.2) fun l5 => W.ret (!l5.isEmpty))) (fun s4 => (
  W.bind (popW s4.2) fun t7 =>
  W.bind (W.ret t7.2) fun x9 => W.bind (appW s4.1 x9) fun backward_8 =>
  iteB (tnot (W.bind (W.bind (W.ret t7.2) (isiW .str)) truW)) (
  W.bind (W.bind (W.ret t7.2) seqW) fun l11 => W.bind (extW t7.1 l11) fun waiting_10 =>
  W.ret (backward_8, waiting_10)) (
  W.ret (backward_8, t7.1)))) (backward_1, waiting_2)) fun s4 =>
  (W.bind (W.ret s4.1) fun l12 => W.ret l12.reverse)
end My
set_option Elab.async false
set_option linter.all false
set_option maxRecDepth 100000
set_option maxHeartbeats 1000000
namespace My
open PySem PySem.Spec PyProof.Rows L2 PL FL
def m_is_row (thing_ : PV) (many_ : PV) : W PV :=
  (andB (W.bind (W.ret thing_) (isiW .tup)) (b2 oEqF (c1 bLen (W.ret thing_)) (W.ret many_)))
def m_is_word (thing_ : PV) : W PV :=
  iteB (tor (tnot (W.bind (W.bind (W.ret thing_) (isiW .str)) truW)) (tnot (chT oLe oLe (W.ret (.int 1)) (c1 bLen (W.ret thing_)) (W.ret (.int 8))))) (
  (W.ret (.bl false))) (
  (W.bind (W.bind (W.bind (W.ret thing_) signsW) fun l1 => mapW l1 fun p2 => (b2 oInS (W.ret p2) (W.ret (.str "abcdefghijklmnopqrstuvwxyz")))) allW))
end My
set_option Elab.async false
set_option linter.all false
set_option maxRecDepth 100000
set_option maxHeartbeats 1000000
namespace My
open PySem PySem.Spec PyProof.Rows L2 PL FL
def m_is_grown_2 (is_leaf_ : PV → W PV) (thing_ : PV) (often_ : PV) : W PV :=
  W.bind (W.bind (W.ret thing_) fun x3 => W.ret [x3]) fun waiting_2 =>
  W.bind (whileF (fun s4 => (W.bind (W.ret s4.2) fun l5 => W.ret (!l5.isEmpty))) (fun s4 => (
  W.bind (popW s4.2) fun t7 =>
  iteB (W.bind (W.bind (W.ret t7.2) fun x8 => W.bind (W.ret (.int 2)) fun x9 => m_is_row x8 x9) truW) (
  W.bind (W.bind (W.ret t7.2) seqW) fun l11 => W.bind (extW t7.1 l11) fun waiting_10 =>
  W.ret (.go (s4.1, waiting_10))) (
  iteB (tor (tnot (W.bind (W.bind (W.ret t7.2) fun x14 => is_leaf_ x14) truW)) (tand (W.bind (W.ret t7.2) fun x12 => W.bind (keyW x12) fun k13 => W.ret (hasK s4.1 k13)) (tnot (W.bind (W.ret often_) truW)))) (
  W.bind (W.ret (.bl false)) fun x15 => W.ret (Lp.out x15)) (
  W.bind (W.ret (.bl true)) fun x17 => W.bind (W.ret t7.2) fun x18 => W.bind (putW s4.1 x18 x17) fun seen_16 =>
  W.ret (.go (seen_16, t7.1)))))) ([], waiting_2)) (goW (fun s4 =>
  (W.ret (.bl true))) id)
def m_is_great_2 (thing_ : PV) : W PV :=
  (W.bind (W.ret thing_) fun x1 => W.bind (W.ret (.bl false)) fun x2 => m_is_grown_2 m_is_word x1 x2)
def m_leaves (tree_ : PV) : W PV :=
  (W.bind (W.bind (W.bind (W.ret tree_) fun x1 => m_parts_of x1) fun l2 => lcW l2 fun p3 => lcB (W.bind (W.bind (W.ret p3) (isiW .str)) truW) (W.ret p3)) tupW)
def m_is_small (great_ : PV) (thing_ : PV) : W PV :=
  iteB (tnot (W.bind (W.bind (W.ret great_) fun x1 => m_is_great_2 x1) truW)) (
  (W.ret (.bl false))) (
  W.bind (W.bind (W.ret great_) fun x3 => m_leaves x3) fun words_2 =>
  (W.bind (W.ret thing_) fun x4 => W.bind (W.ret (.bl true)) fun x7 => m_is_grown_2 (fun part_5 => (andB (W.bind (W.ret part_5) fun x6 => m_is_word x6) (inFB false (W.ret part_5) (W.bind (W.ret words_2) seqW)))) x4 x7))
def m__law_hand_2 (script_ : PV) (k_ : PV) : W (List PV) :=
  W.bind (iteB (W.bind (W.bind (W.ret script_) lstW) fun l2 => W.ret (!l2.isEmpty)) (ixB (W.bind (W.ret script_) seqW) (b2 oMod (W.ret k_) (c1 bLen (W.ret script_)))) (W.ret (.int 0))) fun cell_1 =>
  W.bind (b2 oMul (b2 oMod (c1 bAbs (W.ret cell_1)) (b2 oMul (b2 oMul (b2 oPow (W.ret (.int 10)) (W.ret (.int 60))) (b2 oPow (W.ret (.int 10)) (W.ret (.int 60)))) (b2 oPow (W.ret (.int 10)) (W.ret (.int 60))))) (c1 bInt (b2 oGe (c1 bAbs (W.ret cell_1)) (b2 oPow (W.ret (.int 10)) (W.ret (.int 18)))))) fun great_here_3 =>
  (W.bind (W.ret great_here_3) fun x4 => W.bind (b2 oMod (b2 oMul (w2 addW (w2 addW (b2 oMod (W.ret cell_1) (W.ret (.int 2305843009213693921))) (b2 oMul (b2 oMul (W.ret (.int 104729)) (W.ret k_)) (W.ret k_))) (W.ret (.int 7))) (W.ret (.int 48271))) (W.ret (.int 2305843009213693951))) fun x5 => W.ret [x4, x5])
def m__law_take_4 (hand_here_ : List PV) (many_ : PV) : W (PV × List PV) :=
  iteB (t2 oGt (ixB (W.ret hand_here_) (W.ret (.int 0))) (W.ret (.int 0))) (
  W.bind (b2 oMod (ixB (W.ret hand_here_) (W.ret (.int 0))) (W.ret many_)) fun digit_1 =>
  W.bind (b2 oDiv (ixB (W.ret hand_here_) (W.ret (.int 0))) (W.ret many_)) fun x3 => W.bind (W.ret (.int 0)) fun x4 => W.bind (setW hand_here_ x4 x3) fun hand_here_2 =>
  W.bind (W.ret digit_1) fun x5 => W.ret (x5, hand_here_2)) (
  W.bind (b2 oMod (w2 addW (b2 oMul (ixB (W.ret hand_here_) (W.ret (.int 1))) (W.ret (.int 6364136223846793005))) (W.ret (.int 1442695040888963407))) (W.ret (.int 2305843009213693951))) fun x7 => W.bind (W.ret (.int 1)) fun x8 => W.bind (setW hand_here_ x8 x7) fun hand_here_6 =>
  W.bind (b2 oDiv (ixB (W.ret hand_here_6) (W.ret (.int 1))) (W.ret (.int 524287))) fun mixed_9 =>
  W.bind (b2 oMod (b2 oDiv (b2 oMod (b2 oMul (W.ret mixed_9) (W.ret mixed_9)) (W.ret (.int 1000000007))) (W.ret (.int 11))) (W.ret many_)) fun x10 => W.ret (x10, hand_here_6))
def m__law_words_4 (many_ : PV) : W (List PV) :=
  W.bind (W.ret (.str "abcdefghijklmnopqrstuvwxyz")) fun letters_1 =>
  W.bind (W.bind (W.ret (.int 26)) fun x2 => mt_take x2) fun first_10 => W.bind (ixB (W.bind (W.ret (.int 1)) fun x3 => W.bind (W.ret (.int 3)) fun x4 => W.bind (W.ret (.int 5)) fun x5 => W.bind (W.ret (.int 7)) fun x6 => W.bind (W.ret (.int 9)) fun x7 => W.bind (W.ret (.int 11)) fun x8 => W.ret [x3, x4, x5, x6, x7, x8]) (W.bind (W.ret (.int 6)) fun x9 => mt_take x9)) fun step_11 =>
  W.bind (ixB (W.bind (W.ret (.str "")) fun x13 => W.bind (W.ret (.str "")) fun x14 => W.bind (W.ret (.str "ab")) fun x15 => W.ret [x13, x14, x15]) (W.bind (W.ret (.int 3)) fun x16 => mt_take x16)) fun begin_12 =>
  W.bind (W.ret []) fun found_17 =>
  W.bind (W.bind (W.ret many_) rng1W) fun l30 => W.bind (forW l30 found_17 fun k_20 s19 => (
  W.bind (ixB (W.bind (W.ret (.str "")) fun x22 => W.bind (W.ret (.str "a")) fun x23 => W.bind (W.ret (.str "zz")) fun x24 => W.bind (W.ret (.str "abcde")) fun x25 => W.ret [x22, x23, x24, x25]) (W.bind (W.ret (.int 4)) fun x26 => mt_take x26)) fun end_21 =>
  W.bind (w2 addW (w2 addW (W.ret begin_12) (b2 oIxS (W.ret letters_1) (b2 oMod (w2 addW (W.ret first_10) (b2 oMul (W.ret step_11) (W.ret k_20))) (W.ret (.int 26))))) (W.ret end_21)) fun x28 => W.bind (appW s19 x28) fun found_27 =>
  W.ret found_27)) fun s19 =>
  W.ret s19
def m__law_joined_2 (some_ : PV) : W PV :=
  W.bind (W.bind (W.ret some_) seqW) fun row_2 => W.bind (W.bind (W.ret (.int 5)) fun x1 => mt_take x1) fun style_3 =>
  W.bind (W.bind (b2 oSub (c1 bLen (W.ret some_)) (W.ret (.int 1))) rng1W) fun l24 => W.bind (forW l24 row_2 fun k_6 s5 => (
  W.bind (b2 oSub (W.bind (W.ret s5) lenW) (W.ret (.int 2))) fun far_7 =>
  W.bind (ixB (W.bind (W.ret (.int 0)) fun x9 => W.bind (W.ret far_7) fun x10 => W.bind (b2 oMod (W.ret k_6) (w2 addW (W.ret far_7) (W.ret (.int 1)))) fun x11 => W.bind (W.bind (w2 addW (W.ret far_7) (W.ret (.int 1))) fun x12 => mt_take x12) fun x13 => W.bind (W.bind (w2 addW (W.ret far_7) (W.ret (.int 1))) fun x14 => mt_take x14) fun x15 => W.ret [x9, x10, x11, x13, x15]) (W.ret style_3)) fun at_8 =>
  W.bind (W.bind (W.bind (ixB (W.ret s5) (W.ret at_8)) fun x17 => W.bind (ixB (W.ret s5) (w2 addW (W.ret at_8) (W.ret (.int 1)))) fun x18 => W.ret (.tup [x17, x18])) fun x19 => W.ret [x19]) fun l20 => W.bind (W.ret at_8) fun x21 => W.bind (w2 addW (W.ret at_8) (W.ret (.int 2))) fun x22 => W.bind (slsW s5 x21 x22 l20) fun row_16 =>
  W.ret row_16)) fun s5 =>
  (ixB (W.ret s5) (W.ret (.int 0)))
def m__law_great_5 (most_ : PV) : W PV :=
  W.bind (w2 addW (W.ret (.int 1)) (W.bind (ixB (W.bind (W.ret (.int 5)) fun x2 => W.bind (W.ret most_) fun x3 => W.ret [x2, x3]) (c1 bInt (b2 oEqF (W.bind (W.ret (.int 8)) fun x4 => mt_take x4) (W.ret (.int 0))))) fun x5 => mt_take x5)) fun many_1 =>
  (W.bind (frzB (W.bind (W.ret many_1) fun x6 => m__law_words_4 x6)) fun x7 => m__law_joined_2 x7)
def m__law_leaves : Nat → PV → W (List PV)
  | 0, _ => W.fail
  | n + 1, tree_ =>
  iteB (W.bind (W.bind (W.ret tree_) (isiW .str)) truW) (
  (W.bind (W.ret tree_) fun x1 => W.ret [x1])) (
  (W.bind (W.bind (ixB (W.bind (W.ret tree_) seqW) (W.ret (.int 0))) fun x2 => m__law_leaves n x2) fun l4 => W.bind (W.bind (ixB (W.bind (W.ret tree_) seqW) (W.ret (.int 1))) fun x3 => m__law_leaves n x3) fun l5 => catW l4 l5))
def m__law_small_3 (words_here_ : PV) (most_ : PV) : W PV :=
  W.bind (w2 addW (W.ret (.int 1)) (W.bind (ixB (W.bind (W.ret (.int 6)) fun x2 => W.bind (W.ret most_) fun x3 => W.ret [x2, x3]) (c1 bInt (b2 oEqF (W.bind (W.ret (.int 8)) fun x4 => mt_take x4) (W.ret (.int 0))))) fun x5 => mt_take x5)) fun many_1 =>
  W.bind (W.bind (W.bind (W.ret words_here_) lstW) fun l8 => W.bind (W.ret none) fun i9 => W.bind (W.bind (w2 addW (W.ret (.int 1)) (W.bind (c1 bLen (W.ret words_here_)) fun x7 => mt_take x7)) part) fun j10 => W.ret (cutP l8 i9 j10)) fun few_6 =>
  (W.bind (frzB (W.bind (W.bind (W.ret many_1) rng1W) fun l12 => mapW l12 fun p13 => (ixB (W.bind (W.ret (.cl few_6)) seqW) (W.bind (c1 bLen (W.ret (.cl few_6))) fun x14 => mt_take x14)))) fun x15 => m__law_joined_2 x15)
def m__law_right_2 (great_here_ : PV) (tree_ : PV) (words_here_ : PV) : W PV :=
  W.bind (W.bind (W.bind (W.bind (W.ret tree_) fun x2 => m__law_leaves 12 x2) fun l3 => lcW l3 fun p4 => lcB (inFT true (W.ret p4) (W.bind (W.ret words_here_) seqW)) (W.ret p4)) fun l5 => W.ret (.bl (l5.isEmpty))) fun due_1 =>
  W.bind (W.bind (W.ret great_here_) fun x7 => W.bind (W.ret tree_) fun x8 => m_is_small x7 x8) fun told_6 =>
  (andB (W.bind (W.ret told_6) (isiW .bool)) (andB (b2 oEqF (W.ret told_6) (W.ret due_1)) (b2 oEqF (W.bind (W.ret great_here_) fun x9 => W.bind (W.ret tree_) fun x10 => m_is_small x9 x10) (W.ret due_1))))
def m_law_19 (script_ : PV) : W PV :=
  W.bind (W.bind (w2 addW (W.ret (.int 1)) (W.bind (W.bind (W.bind (W.ret script_) lstW) fun l1 => W.bind (W.ret none) fun i2 => W.bind (W.bind (W.ret (.int 20)) part) fun j3 => W.ret (cutP l1 i2 j3)) lenW)) rng1W) fun l97 => W.bind (forF l97 () fun k_6 s5 => (
  W.bind (W.bind (W.ret script_) fun x8 => W.bind (W.ret k_6) fun x9 => m__law_hand_2 x8 x9) fun hand_here_7 => potW potG05 hand_here_7 (
  W.bind (W.bind (W.ret (.int 8)) fun x11 => m__law_great_5 x11) fun great_here_10 =>
  W.bind (W.bind (W.ret great_here_10) fun x13 => m__law_leaves 12 x13) fun words_here_12 =>
  W.bind (W.bind (W.bind (W.bind (W.ret great_here_10) fun x15 => W.bind (ixB (W.bind (W.ret (.cl words_here_12)) seqW) (W.ret (.int 0))) fun x16 => W.bind (W.bind (W.ret great_here_10) fun x17 => W.bind (W.ret great_here_10) fun x18 => W.ret (.tup [x17, x18])) fun x19 => W.ret [x15, x16, x19]) fun l20 => W.bind (c1 bInt (b2 oLt (c1 bLen (W.ret (.cl words_here_12))) (W.ret (.int 6)))) fun x21 => repW l20 x21) fun l24 => W.bind (W.bind (ixB (W.bind (W.ret (.cl words_here_12)) seqW) (W.bind (W.ret (.int 1)) negW)) fun x22 => W.bind (W.ret (.str "q")) fun x23 => W.ret [x22, x23]) fun l25 => catW l24 l25) fun some_14 =>
  W.bind (W.bind (W.ret (.int 4)) rng1W) fun l85 => W.bind (forW l85 some_14 fun turn_28 s27 => (
  W.bind (W.bind (W.ret (.cl words_here_12)) fun x30 => W.bind (W.ret (.int 10)) fun x31 => m__law_small_3 x30 x31) fun small_here_29 =>
  W.bind (W.bind (W.ret s27) fun l47 => W.bind (W.bind (W.ret small_here_29) fun x33 => W.bind (W.bind (frzB (W.bind (W.bind (W.ret (.cl words_here_12)) lstW) fun l42 => W.bind (W.bind (w2 addW (W.bind (ixB (W.bind (W.ret (.cl words_here_12)) seqW) (W.ret (.int 0))) fun x36 => W.bind (W.ret none) fun i34 => W.bind (W.bind (W.ret (.int 7)) part) fun j35 => slSW x36 i34 j35) (W.ret (.str "q"))) fun x37 => W.bind (W.bind (ixB (W.bind (W.ret (.cl words_here_12)) seqW) (W.bind (W.ret (.int 1)) negW)) fun x40 => W.bind (W.ret none) fun i38 => W.bind (W.bind (W.ret (.int 1)) part) fun j39 => slSW x40 i38 j39) fun x41 => W.ret [x37, x41]) fun l43 => catW l42 l43)) fun x44 => W.bind (W.ret (.int 9)) fun x45 => m__law_small_3 x44 x45) fun x46 => W.ret [x33, x46]) fun l48 => catW l47 l48) fun some_32 =>
  W.bind (iteB (t2 oLt (W.bind (W.bind (W.bind (ixB (W.ret some_32) (W.bind (W.ret (.int 1)) negW)) fun x50 => W.bind (W.ret small_here_29) fun x51 => W.ret (.tup [x50, x51])) fun x52 => m__law_leaves 12 x52) lenW) (W.ret (.int 11))) (W.bind (ixB (W.ret some_32) (W.bind (W.ret (.int 1)) negW)) fun x53 => W.bind (W.ret small_here_29) fun x54 => W.ret (.tup [x53, x54])) (W.ret small_here_29)) fun x55 => W.bind (appW some_32 x55) fun some_49 =>
  W.ret some_49)) fun s27 =>
  iteB (tnot (W.bind (W.bind (W.bind (W.bind (W.ret (.cl s27)) seqW) fun l56 => mapW l56 fun p57 => (W.bind (W.ret great_here_10) fun x58 => W.bind (W.ret p57) fun x59 => W.bind (W.ret (.cl words_here_12)) fun x60 => m__law_right_2 x58 x59 x60)) allW) truW)) (
  W.bind (W.ret (.bl false)) fun x61 => W.ret (Lp.out x61)) (
  W.bind (W.bind (W.bind (W.ret .non) fun x62 => W.bind (W.ret (.bl true)) fun x63 => W.bind (W.ret (.int 0)) fun x64 => W.bind (W.ret (.tup [])) fun x65 => W.bind (frzB (W.ret [])) fun x66 => W.bind (W.ret (dvK [])) fun x67 => W.bind (W.ret (.str "")) fun x68 => W.bind (W.ret (.str "A")) fun x69 => W.bind (frzB (W.bind (W.ret (.cl words_here_12)) seqW)) fun x70 => W.bind (W.bind (ixB (W.bind (W.ret (.cl words_here_12)) seqW) (W.ret (.int 0))) fun x71 => W.ret (.tup [x71])) fun x72 => W.bind (frzB (W.bind (ixB (W.bind (W.ret (.cl words_here_12)) seqW) (W.ret (.int 0))) fun x73 => W.bind (ixB (W.bind (W.ret (.cl words_here_12)) seqW) (W.ret (.int 0))) fun x74 => W.ret [x73, x74])) fun x75 => W.bind (W.ret (.int 1)) fun x76 => W.ret (.tup [x62, x63, x64, x65, x66, x67, x68, x69, x70, x72, x75, x76])) seqW) fun l83 => W.bind (forF l83 () fun thing_78 s77 => (
  iteB (t2 oIsNotB (W.bind (W.ret great_here_10) fun x79 => W.bind (W.ret thing_78) fun x80 => m_is_small x79 x80) (W.ret (.bl false))) (
  W.bind (W.ret (.bl false)) fun x81 => W.ret (Lp.out x81)) (
  W.ret (.go ())))) (goW (fun s77 =>
  W.ret (.go ())) Lp.out))))) (goW (fun s5 =>
  (andB (b2 oIsB (W.bind (W.ret (.str "a")) fun x90 => W.bind (W.bind (W.ret (.str "a")) fun x91 => W.bind (W.bind (W.ret (.str "a")) fun x92 => W.bind (W.ret (.str "a")) fun x93 => W.ret (.tup [x92, x93])) fun x94 => W.ret (.tup [x91, x94])) fun x95 => m_is_small x90 x95) (W.ret (.bl true))) (b2 oIsB (W.bind (W.bind (W.ret (.str "a")) fun x86 => W.bind (W.ret (.str "b")) fun x87 => W.ret (.tup [x86, x87])) fun x88 => W.bind (W.ret (.str "c")) fun x89 => m_is_small x88 x89) (W.ret (.bl false))))) id)
end My
set_option Elab.async false
set_option linter.all false
set_option maxRecDepth 100000
namespace My
open PySem PySem.Spec PyProof.Rows L2 PL FL
def Tr.pv : Tr → PV
  | .leaf x => .str x
  | .node l r => .tup [l.pv, r.pv]
theorem snoc_of {α : Type} {l : List α} (h : l ≠ []) : ∃ a x, l = a ++ [x] := ⟨l.dropLast, l.getLast h, (List.dropLast_concat_getLast h).symm⟩
theorem sizes_le {a b : List Tr} {t : Tr} (h : posts a ++ b = t.post) : sizes a + b.length = t.size := by
  have h1 := congrArg List.length h
  rw [List.length_append, t.post_len] at h1
  have h2 : ∀ l : List Tr, (posts l).length = sizes l := by
    intro l
    induction l with
    | nil => rfl
    | cons x l ih =>
      have e1 : posts (x :: l) = x.post ++ posts l := rfl
      have e2 : sizes (x :: l) = x.size + sizes l := rfl
      rw [e1, e2, List.length_append, ih, x.post_len]
  rw [h2] at h1
  exact h1
theorem app_le {l : List PV} {x : PV} (h : l.length < 1000) : appW l x = .ret (l ++ [x]) := W.chk_pos (by have := small' (n := 1000) (Nat.le_refl _); omega)
theorem parts_le (t : Tr) (hz : t.size ≤ 900) : (m_parts_of t.pv).le (.ret (t.post.map Tr.pv)) := fun Q q => by
  refine whileW_run (fun n s => ∃ ts bs : List Tr, n = sizes ts ∧ s = (bs.map Tr.pv, ts.map Tr.pv) ∧ posts ts ++ bs.reverse = t.post) ⟨[t], [], rfl, rfl, by rw [posts_one]; simp⟩ ?_
  rintro n s ⟨ts, bs, rfl, rfl, hp⟩
  have hs := sizes_le hp
  rw [List.length_reverse] at hs
  by_cases he : ts = []
  · subst he
    have hp' : bs.reverse = t.post := hp
    simp
    rw [← List.map_reverse, hp']
    exact q
  · obtain ⟨us, u, rfl⟩ := snoc_of he
    have hl2 := len_sizes us
    rw [sizes_append, sizes_one] at hs
    simp
    rw [app_le (by rw [List.length_map]; omega)]
    cases u with
    | leaf x =>
      simp [Tr.pv]
      refine ⟨_, ?_, us, rfl, bs ++ [.leaf x], ⟨by simp [Tr.pv], rfl⟩, ?_⟩
      · rw [sizes_append, sizes_one]; show sizes us < sizes us + 1; omega
      · rw [posts_append, posts_one] at hp
        rw [List.reverse_append, ← hp]
        simp [Tr.post]
    | node c d =>
      have e1 : extW (us.map Tr.pv) [c.pv, d.pv] = .ret (us.map Tr.pv ++ [c.pv, d.pv]) := W.chk_pos (small' (by
        have : (Tr.node c d).size = c.size + d.size + 1 := rfl
        simp; omega))
      simp [Tr.pv, e1]
      refine ⟨_, ?_, us ++ [c, d], rfl, bs ++ [.node c d], ⟨by simp [Tr.pv], by simp⟩, ?_⟩
      · have e2 : sizes [Tr.node c d] = c.size + d.size + 1 := by rw [sizes_one]; rfl
        have e3 : sizes [c, d] = c.size + d.size := by simp [sizes]
        rw [sizes_append, sizes_append, e2, e3]; omega
      · rw [posts_append, posts_one] at hp
        rw [List.reverse_append, ← hp, posts_append, posts_two]
        simp [Tr.post]
theorem lcW_r {l : List PV} {f : PV → W (Option PV)} {Q : List PV → Prop} (g : PV → Option PV) (h : ∀ x ∈ l, f x = .ret (g x)) (q : Q (l.filterMap g)) : (lcW l f).run Q := by rw [lcW_eq h]; exact q
end My
set_option Elab.async false
set_option linter.all false
set_option maxRecDepth 100000
namespace My
open PySem PySem.Spec PyProof.Rows L2 PL FL
theorem mulL {a b : Int} (h : -1000000000 ≤ a ∧ a ≤ 1000000000) : IntMulOk a b := mul_l (by omega) (by omega)
theorem mulR {a b : Int} (h : -1000000000 ≤ b ∧ b ≤ 1000000000) : IntMulOk a b := mul_r (by omega) (by omega)
theorem menuP_step {d : Int} (h0 : 0 ≤ d) (h1 : d < 6) : ∃ st : Int, atI [PV.int 1, PV.int 3, PV.int 5, PV.int 7, PV.int 9, PV.int 11] d = some (.int st) ∧ (st = 1 ∨ st = 3 ∨ st = 5 ∨ st = 7 ∨ st = 9 ∨ st = 11) := by
  have : d = 0 ∨ d = 1 ∨ d = 2 ∨ d = 3 ∨ d = 4 ∨ d = 5 := by omega
  rcases this with rfl | rfl | rfl | rfl | rfl | rfl
  · exact ⟨1, rfl, by decide⟩
  · exact ⟨3, rfl, by decide⟩
  · exact ⟨5, rfl, by decide⟩
  · exact ⟨7, rfl, by decide⟩
  · exact ⟨9, rfl, by decide⟩
  · exact ⟨11, rfl, by decide⟩
theorem okN_small {i j : Int} (h : -1000 ≤ i ∧ i ≤ 1000 ∧ -1000 ≤ j ∧ j ≤ 1000) (h2 : j - i ≤ 1000) : okN i j := ⟨by omega, by omega, by omega, by omega, small' (by omega)⟩
end My
set_option Elab.async false
set_option linter.all false
set_option maxRecDepth 100000
namespace My
open PySem PySem.Spec PyProof.Rows L2 PL FL
theorem at_mid {α : Type} {l : List α} {k : Nat} (h : k + 1 < l.length) : ∃ a x y b, l = a ++ x :: y :: b ∧ a.length = k := by
  refine ⟨l.take k, l[k], l[k + 1], l.drop (k + 2), ?_, by rw [List.length_take]; omega⟩
  have e1 : l.drop k = l[k] :: l.drop (k + 1) := List.drop_eq_getElem_cons (by omega)
  have e2 := List.drop_eq_getElem_cons (by omega)
  rw [← e2, ← e1, List.take_append_drop]
end My
set_option Elab.async false
set_option linter.all false
set_option maxRecDepth 100000
set_option Elab.async false
set_option linter.all false
set_option maxRecDepth 100000
namespace My
open PySem PySem.Spec PyProof.Rows L2 PL FL
theorem word_ok {x : Str} (h : Wd x) : m_is_word (.str x) = .ret (.bl true) := by
  unfold m_is_word
  obtain ⟨h1, h2, h3⟩ := h
  have c1 : x.length ≤ sizeLine := small' (by omega)
  have c2 : x.cps.size ≤ sizeLine := c1
  have c3 : (1 : Int) ≤ (x.length : Int) := by omega
  have c4 : (x.length : Int) ≤ 8 := by omega
  simp only [W.ret_bind, ev_isiS, ev_kdSS, ev_truB, Bool.not_true, Bool.false_eq_true, if_false, ev_lenS, W.chk_pos c1, ev_le, c3, c4, decide_true, ev_chainT, ev_asB, ev_signs, W.chk_pos c2]
  rw [mapW_eq (g := fun _ => PV.bl true) fun y hy => ?_]
  · simp only [W.ret_bind]
    rw [all_map (fun _ => true)]
    congr 2
    exact List.all_eq_true.mpr fun _ _ => rfl
  · obtain ⟨c, hc, rfl⟩ := List.mem_map.mp hy
    obtain ⟨k1, k2⟩ := h3 c hc
    simp only [ev_inS, in_letters k1 k2]
theorem row_ok (l : List PV) (n : Int) : m_is_row (.tup l) (.int n) = .ret (.bl ((l.length : Int) == n)) := by
  unfold m_is_row
  simp only [W.ret_bind, ev_isiT, ev_kdTT, ev_andT, ev_lenT, ev_eqI]
theorem row_no (x : Str) (n : PV) : m_is_row (.str x) n = .ret (.bl false) := by
  unfold m_is_row
  simp only [W.ret_bind, ev_isiS, ev_kdTS, ev_andF]
end My
set_option Elab.async false
set_option linter.all false
set_option maxRecDepth 100000
namespace My
open PySem PySem.Spec PyProof.Rows L2 PL FL
theorem take_ok05 : ∀ ns l Q, potG05 ns → ((unc 1 mt_take) l).run Q → ((fun lo l => unc 1 (m__law_take_4 lo) l) (ns.map PV.int) l).run fun t => Q t.1 ∧ ∃ ns' : List Int, t.2 = ns'.map PV.int ∧ potG05 ns' := by
  rintro ns l Q ⟨g, s, rfl, g0, s0, s1⟩ q
  match l, q with
  | [], q => exact q.elim
  | _ :: _ :: _, q => exact q.elim
  | [x], q =>
    show (m__law_take_4 _ x).run _
    have q := q
    cases x with
    | int m =>
      obtain ⟨⟨m0, m1⟩, q⟩ := q
      have q : ∀ d : Int, 0 ≤ d → d < m → Q (.int d) := fun d h0 h1 => q _ ⟨d, rfl, h0, h1⟩
      unfold m__law_take_4
      generalize hA : (2305843009213693951 : Int) = A
      generalize hB : (6364136223846793005 : Int) = B
      generalize hC : (1442695040888963407 : Int) = C
      have A0 : 0 < A := by omega
      by_cases hg : 0 < g
      · simp [atI, ixN, hg, m0, setW, CDiv]
        refine ⟨by omega, q _ (Int.emod_nonneg _ (by omega)) (Int.emod_lt_of_pos _ m0), [g / m, s], rfl, _, _, rfl, Int.ediv_nonneg g0 (by omega), s0, s1⟩
      · have e1 : IntMulOk s B := mul_l (by omega) (by omega)
        simp [atI, ixN, hg, m0, setW, ixN0, e1, A0, CDiv]
        generalize hM : (s * B + C) % A = M
        have M0 : 0 ≤ M := by rw [← hM]; exact Int.emod_nonneg _ (by omega)
        have M1 : M < A := by rw [← hM]; exact Int.emod_lt_of_pos _ A0
        refine ⟨mul_l (by omega) (by omega), q _ (Int.emod_nonneg _ (by omega)) (Int.emod_lt_of_pos _ m0), [g, M], rfl, _, _, rfl, g0, M0, by omega⟩
    | _ => exact q.elim
theorem hand_run05 {ns : List Int} {k : Int} (k0 : 0 ≤ k) (k1 : k ≤ 1000) {Q : List PV → Prop} (q : ∀ l, (∃ ms : List Int, l = ms.map PV.int ∧ potG05 ms) → Q l) : (m__law_hand_2 (.cl (ns.map PV.int)) (.int k)).run Q := by
  unfold m__law_hand_2
  generalize hA : (2305843009213693951 : Int) = A
  generalize hB : (2305843009213693921 : Int) = B
  have A0 : 0 < A := by omega
  have B0 : 0 < B := by omega
  have fin : ∀ x : Int, (W.bind (b2 oMul (b2 oMod (c1 bAbs (W.ret (.int x))) (b2 oMul (b2 oMul (b2 oPow (W.ret (.int 10)) (W.ret (.int 60))) (b2 oPow (W.ret (.int 10)) (W.ret (.int 60)))) (b2 oPow (W.ret (.int 10)) (W.ret (.int 60))))) (c1 bInt (b2 oGe (c1 bAbs (W.ret (.int x))) (b2 oPow (W.ret (.int 10)) (W.ret (.int 18)))))) fun great_here_3 =>
  (W.bind (W.ret great_here_3) fun x4 => W.bind (b2 oMod (b2 oMul (w2 addW (w2 addW (b2 oMod (W.ret (.int x)) (W.ret (.int B))) (b2 oMul (b2 oMul (W.ret (.int 104729)) (W.ret (.int k))) (W.ret (.int k)))) (W.ret (.int 7))) (W.ret (.int 48271))) (W.ret (.int A))) fun x5 => W.ret [x4, x5])).run Q := by
    intro x
    have p1 : CPow 10 60 := ⟨by decide, by decide, by decide⟩
    have p2 : CPow 10 18 := ⟨by decide, by decide, by decide⟩
    have c1 : IntMulOk 104729 k := mulL (by omega)
    have c2 : IntMulOk (104729 * k) k := mulR (by omega)
    have c3 : ∀ y, IntMulOk y 48271 := fun y => mulR (by omega)
    simp only [W.ret_bind, ev_pow, W.chk_pos p1, W.chk_pos p2, ev_mul, ev_mod, ev_ge, ev_intB, ev_addI, ev_abs, W.chk_bind, W.run_chk, W.run_ret, W.chk_pos c1, W.chk_pos c2, W.chk_pos (c3 _), W.chk_pos A0, W.chk_pos B0]
    refine ⟨IntMulOk.of_bits (by decide +kernel) (by decide +kernel), IntMulOk.of_bits (by decide +kernel) (by decide +kernel), by decide +kernel, ?_, ?_⟩
    · split
      · exact mulR (by omega)
      · exact mulR (by omega)
    · refine q _ ⟨[_, _], rfl, _, _, rfl, Int.mul_nonneg (Int.emod_nonneg _ (by decide +kernel)) ?_, Int.emod_nonneg _ (by omega), by rw [hA]; exact Int.emod_lt_of_pos _ A0⟩
      split <;> first | decide | (split <;> decide)
  cases ns with
  | nil =>
    simp only [List.map_nil, W.ret_bind, ev_lstC, List.isEmpty_nil, Bool.not_true, Bool.false_eq_true, if_false]
    exact fin 0
  | cons n ns =>
    have l0 : (0 : Int) < ((n :: ns).map PV.int).length := by simp
    obtain ⟨v, e, e2⟩ := atI_lt (xs := (n :: ns).map PV.int) (Int.emod_nonneg k (by omega)) (Int.emod_lt_of_pos k l0)
    rw [List.getElem?_map] at e2
    obtain ⟨c, rfl⟩ : ∃ c, v = .int c := by
      cases z : (n :: ns)[(k % ((n :: ns).map PV.int).length).toNat]? with
      | none => rw [z] at e2; cases e2
      | some c => rw [z] at e2; exact ⟨c, (Option.some.inj e2).symm⟩
    have e3 : (!((n :: ns).map PV.int).isEmpty) = true := rfl
    simpa only [W.ret_bind, ev_lstC, e3, if_true, ev_seqC, ev_lenC, ev_mod, W.chk_pos l0, ev_ix, e, W.ofO_some] using fin c
theorem menuP_begin {d : Int} (h0 : 0 ≤ d) (h1 : d < 3) : ∃ bg : Str, atI [PV.str "", PV.str "", PV.str "ab"] d = some (.str bg) ∧ Part bg 2 := by
  have : d = 0 ∨ d = 1 ∨ d = 2 := by omega
  rcases this with rfl | rfl | rfl
  · exact ⟨"", rfl, by decide +kernel, by decide +kernel⟩
  · exact ⟨"", rfl, by decide +kernel, by decide +kernel⟩
  · exact ⟨"ab", rfl, by decide +kernel, by decide +kernel⟩
theorem menuP_end {d : Int} (h0 : 0 ≤ d) (h1 : d < 4) : ∃ bg : Str, atI [PV.str "", PV.str "a", PV.str "zz", PV.str "abcde"] d = some (.str bg) ∧ Part bg 5 := by
  have : d = 0 ∨ d = 1 ∨ d = 2 ∨ d = 3 := by omega
  rcases this with rfl | rfl | rfl | rfl
  · exact ⟨"", rfl, by decide +kernel, by decide +kernel⟩
  · exact ⟨"a", rfl, by decide +kernel, by decide +kernel⟩
  · exact ⟨"zz", rfl, by decide +kernel, by decide +kernel⟩
  · exact ⟨"abcde", rfl, by decide +kernel, by decide +kernel⟩
theorem words_run05 {m : Int} (m0 : 0 ≤ m) (m1 : m ≤ 26) {Q : List PV → Prop} (q : ∀ ws : List Str, ws.length = m.toNat → (∀ x ∈ ws, Wd x) → ws.Nodup → Q (ws.map PV.str)) : (m__law_words_4 (.int m)).run Q := by
  unfold m__law_words_4
  simp only [W.ret_bind, W.run_bind, ev_take 26 (by decide) (by decide), ev_take 6 (by decide) (by decide), ev_take 3 (by decide) (by decide)]
  refine drawn_run fun d1 a1 b1 => drawn_run fun d3 a3 b3 => ?_
  obtain ⟨st, hst, kst⟩ := menuP_step a3 b3
  simp only [ev_ix, hst, W.ofO_some, W.run_ret]
  refine drawn_run fun d5 a5 b5 => ?_
  obtain ⟨bg, hbg, kbg⟩ := menuP_begin a5 b5
  simp only [ev_ix, hbg, W.ofO_some, W.run_ret, ev_rng1, W.chk_pos (okN_small (i := 0) (j := m) (by omega) (by omega))]
  have lb := kbg.1
  refine forW_rng (fun i s => ∃ ws : List Str, s = ws.map PV.str ∧ ws.length = i ∧ (∀ x ∈ ws, Wd x) ∧ (ws.map fun x => x.cps[bg.length]?) = (List.range i).map fun k : Nat => some (97 + ((d1 + st * (0 + (k : Int))) % 26).toNat)) ⟨[], rfl, rfl, by simp, rfl⟩ ?_ ?_
  · rintro i s hi ⟨ws, rfl, hl, hw, hs⟩
    have e0 : 0 ≤ (d1 + st * (0 + (i : Int))) % 26 := Int.emod_nonneg _ (by decide)
    have e1 : (d1 + st * (0 + (i : Int))) % 26 < 26 := Int.emod_lt_of_pos _ (by decide)
    have e2 : (d1 + st * (i : Int)) = d1 + st * (0 + (i : Int)) := by rw [Int.zero_add]
    have c1 : IntMulOk st (i : Int) := mulL (by omega)
    have c2 : ("abcdefghijklmnopqrstuvwxyz" : Str).length ≤ sizeLine := by decide +kernel
    have c3 : bg.length + (⟨#[97 + ((d1 + st * (0 + (i : Int))) % 26).toNat]⟩ : Str).length ≤ sizeLine := small' (by show bg.length + 1 ≤ 1000; omega)
    simp only [W.ret_bind, W.run_bind, ev_take 4 (by decide) (by decide)]
    refine drawn_run fun d7 a7 b7 => ?_
    obtain ⟨en, hen, ken⟩ := menuP_end a7 b7
    have le := ken.1
    have c4 : (bg ++ (⟨#[97 + ((d1 + st * (0 + (i : Int))) % 26).toNat]⟩ : Str)).length + en.length ≤ sizeLine := small' (by rw [Str.length_append]; show bg.length + 1 + en.length ≤ 1000; omega)
    simp only [ev_ix, hen, W.ofO_some, W.run_ret, W.ret_bind, ev_mul, W.chk_pos c1, ev_addI, ev_mod, W.chk_pos (show (0 : Int) < 26 by decide), e2, ev_ixS _ _ (letter_at e0 e1), W.chk_pos c2, ev_addS, W.chk_pos c3, W.chk_pos c4]
    rw [app_le (by rw [List.length_map, hl]; omega)]
    refine ⟨ws ++ [bg ++ ⟨#[97 + ((d1 + st * (0 + (i : Int))) % 26).toNat]⟩ ++ en], by rw [List.map_append]; rfl, by rw [List.length_append, hl]; rfl, ?_, by rw [List.map_append, hs, List.range_succ, List.map_append, List.map_singleton, List.map_singleton, word_sign]⟩
    intro x hx
    rcases List.mem_append.mp hx with z | z
    · exact hw x z
    · rw [List.mem_singleton.mp z]
      exact word_of kbg ken (by omega) (by omega)
  · rintro s ⟨ws, rfl, hl, hw, hs⟩
    have nd : (ws.map fun x => x.cps[bg.length]?).Nodup := by rw [hs]; exact letters_nodup kst (by omega)
    exact q ws hl hw (nodup_of_map (g := fun x : Str => x.cps[bg.length]?) nd)
end My
set_option Elab.async false
set_option linter.all false
set_option maxRecDepth 100000
namespace My
open PySem PySem.Spec PyProof.Rows L2 PL FL
theorem joined_run05 {ws : List Str} (hw : ws ≠ []) (h8 : ws.length ≤ 100) {Q : PV → Prop} (q : ∀ t : Tr, t.leaves = ws → Q t.pv) : (m__law_joined_2 (.cl (ws.map PV.str))).run Q := by
  have wl : 0 < ws.length := List.length_pos_iff.mpr hw
  unfold m__law_joined_2
  simp only [W.ret_bind, W.run_bind, ev_seqC, W.run_ret, ev_take 5 (by decide) (by decide), ev_lenC, ev_sub, List.length_map, ev_rng1]
  refine drawn_run fun w w0 w1 => ?_
  simp only [W.chk_pos (okN_small (i := 0) (j := (ws.length : Int) - 1) (by omega) (by omega)), W.run_ret]
  refine forW_rng (fun i s => ∃ ts : List Tr, s = ts.map Tr.pv ∧ ts.length + i = ws.length ∧ ts.flatMap Tr.leaves = ws) ⟨ws.map Tr.leaf, by simp [Tr.pv], by simp, by simp [List.flatMap_map, Tr.leaves, List.flatMap_singleton']⟩ ?_ ?_
  · rintro i s hi ⟨ts, rfl, hl, hp⟩
    have h2 : 2 ≤ ts.length := by omega
    have f0 : (0 : Int) < (ts.length : Int) - 2 + 1 := by omega
    simp only [W.ret_bind, W.run_bind, ev_len, List.length_map, ev_sub, W.run_ret, ev_addI, ev_mod, W.chk_pos f0, ev_take ((ts.length : Int) - 2 + 1) f0 (by omega)]
    refine drawn_run fun d d0 d1 => drawn_run fun e e0 e1 => ?_
    have m0 := Int.emod_nonneg ((i : Int)) (show (ts.length : Int) - 2 + 1 ≠ 0 by omega)
    have m1 := Int.emod_lt_of_pos ((i : Int)) f0
    obtain ⟨a, ha, a1⟩ : ∃ a : Nat, atI [PV.int 0, PV.int ((ts.length : Int) - 2), PV.int (((i : Int)) % ((ts.length : Int) - 2 + 1)), PV.int d, PV.int e] w = some (.int (a : Int)) ∧ a + 1 < ts.length := by
      have : w = 0 ∨ w = 1 ∨ w = 2 ∨ w = 3 ∨ w = 4 := by omega
      rcases this with rfl | rfl | rfl | rfl | rfl
      · exact ⟨0, rfl, by omega⟩
      · exact ⟨ts.length - 2, by show some (PV.int ((ts.length : Int) - 2)) = _; congr 2; omega, by omega⟩
      · exact ⟨(((i : Int)) % ((ts.length : Int) - 2 + 1)).toNat, by show some (PV.int _) = _; rw [Int.toNat_of_nonneg m0], by omega⟩
      · exact ⟨d.toNat, by show some (PV.int d) = _; rw [Int.toNat_of_nonneg d0], by omega⟩
      · exact ⟨e.toNat, by show some (PV.int e) = _; rw [Int.toNat_of_nonneg e0], by omega⟩
    obtain ⟨as, x, y, bs, rfl, hk⟩ := at_mid a1
    have i0 : atI ((as ++ x :: y :: bs).map Tr.pv) (a : Int) = some x.pv := atI_nat (by rw [List.getElem?_map, List.getElem?_append_right (by omega)]; simp [hk])
    have i1 : atI ((as ++ x :: y :: bs).map Tr.pv) ((a : Int) + 1) = some y.pv := by
      have : ((a : Int) + 1) = ((a + 1 : Nat) : Int) := by push_cast; rfl
      rw [this]
      exact atI_nat (by rw [List.getElem?_map, List.getElem?_append_right (by omega)]; simp [hk])
    simp only [ev_ix, ha, W.ofO_some, W.run_ret, i0, i1, ev_addI, W.ret_bind]
    rw [List.length_append, List.length_cons, List.length_cons] at hl
    refine ⟨⟨by omega, by omega, ?_, small' ?_⟩, ?_⟩
    · rw [List.length_map, List.length_append, List.length_cons, List.length_cons]; push_cast; omega
    · rw [List.length_map, List.length_append, List.length_cons, List.length_cons]; simp; omega
    · have e : ((as ++ x :: y :: bs).map Tr.pv).take (a : Int).toNat ++ [.tup [x.pv, y.pv]] ++ ((as ++ x :: y :: bs).map Tr.pv).drop ((a : Int) + 2).toNat = (as ++ .node x y :: bs).map Tr.pv := by
        have t1 : (a : Int).toNat = as.length := by omega
        have t2 : ((a : Int) + 2).toNat = as.length + 2 := by omega
        rw [t1, t2, ← List.map_take, ← List.map_drop, List.take_left' rfl]
        have : (as ++ x :: y :: bs).drop (as.length + 2) = bs := by
          rw [show as ++ x :: y :: bs = (as ++ [x, y]) ++ bs by simp, List.drop_left' (by simp)]
        rw [this]; simp [Tr.pv]
      refine ⟨as ++ .node x y :: bs, e, by simp; omega, ?_⟩
      rw [← hp]
      simp [List.flatMap_append, List.flatMap_cons, Tr.leaves]
  · rintro s ⟨ts, rfl, hl, hp⟩
    have h1 : ts.length = 1 := by omega
    match ts, h1 with
    | [t], _ =>
      have : t.leaves = ws := by simpa using hp
      exact q t this
structure Gr5 (t : Tr) : Prop where
  ws : t.Ws
  nd : t.leaves.Nodup
  few : t.leaves.length ≤ 8
theorem leaves_ne (t : Tr) : t.leaves ≠ [] := by have := t.leaves_pos; intro z; rw [z] at this; simp at this
theorem great_run05 {Q : PV → Prop} (q : ∀ t : Tr, Gr5 t → Q t.pv) : (m__law_great_5 (.int 8)).run Q := by
  unfold m__law_great_5
  simp only [W.ret_bind, W.run_bind, ev_take 8 (by decide) (by decide)]
  refine drawn_run fun d d0 d1 => ?_
  obtain ⟨n, hn, n0, n1⟩ : ∃ n : Int, atI [PV.int 5, PV.int 8] (if (d == 0) = true then 1 else 0) = some (.int n) ∧ 0 < n ∧ n ≤ 8 := by
    by_cases h : d = 0
    · subst h; exact ⟨8, rfl, by decide, by decide⟩
    · have e : (d == 0) = false := by simpa using h
      rw [e]; exact ⟨5, rfl, by decide, by decide⟩
  simp only [ev_eqI, W.run_ret, ev_intB, ev_ix, hn, W.ofO_some, ev_take n n0 (by omega)]
  refine drawn_run fun k k0 k1 => ?_
  simp only [ev_addI, W.run_ret]
  refine words_run05 (by omega) (by omega) fun ws hl hw hd => ?_
  refine joined_run05 (fun z => by rw [z] at hl; simp at hl; omega) (by omega) fun t ht => q t ⟨fun x hx => hw x (ht ▸ hx), by rw [ht]; exact hd, by rw [ht, hl]; omega⟩
theorem lvs_le : ∀ (n : Nat) (t : Tr), t.depth < n → t.leaves.length ≤ 900 → (m__law_leaves n t.pv).le (.ret (t.leaves.map PV.str))
  | 0, _, h, _ => absurd h (Nat.not_lt_zero _)
  | n + 1, .leaf x, _, _ => fun Q q => by
    unfold m__law_leaves
    simp only [Tr.pv, W.ret_bind, ev_isiS, ev_kdSS, ev_truB, if_true, W.run_ret]
    exact q
  | n + 1, .node a b, h, hl => fun Q q => by
    have hd : (Tr.node a b).depth = max a.depth b.depth + 1 := rfl
    have e : (Tr.node a b).leaves = a.leaves ++ b.leaves := rfl
    rw [e, List.length_append] at hl
    unfold m__law_leaves
    simp only [Tr.pv, W.ret_bind, ev_isiT, ev_kdST, ev_truB, Bool.false_eq_true, if_false, ev_seqT, ev_ix, show atI [a.pv, b.pv] 0 = some a.pv from rfl, show atI [a.pv, b.pv] 1 = some b.pv from rfl, W.ofO_some, W.run_bind]
    refine lvs_le n a (by omega) (by omega) _ ?_
    show (W.run _ _)
    refine lvs_le n b (by omega) (by omega) _ ?_
    refine ⟨small' (by simp; omega), ?_⟩
    rw [e, List.map_append] at q
    exact q
end My
set_option Elab.async false
set_option linter.all false
set_option maxRecDepth 100000
namespace My
open PySem PySem.Spec PyProof.Rows L2 PL FL
theorem in_str (x : Str) (l : List Str) (b : Bool) : inW' b (.str x) (l.map PV.str) = .ret (if b then !decide (x ∈ l) else decide (x ∈ l)) := by
  have h1 : inOk (.str x) (l.map PV.str) := ⟨by simp, fokL_iff.mpr fun y hy => by
    obtain ⟨n, _, rfl⟩ := List.mem_map.mp hy
    simp, fdepL_le fun y hy => by
    obtain ⟨n, _, rfl⟩ := List.mem_map.mp hy
    simp⟩
  have h2 : hasF (.str x) (l.map PV.str) = decide (x ∈ l) := by
    unfold hasF
    rw [List.any_map]
    clear h1
    induction l with
    | nil => simp
    | cons a l ih =>
      rw [List.any_cons, ih]
      by_cases c : a = x
      · subst c; simp [feqSS]
      · have c' : ¬ x = a := fun z => c z.symm
        simp [feqSS, c, c']
  unfold inW'
  rw [W.chk_pos h1, h2]
theorem grown2_le (f : PV → W PV) (g : Str → Bool) (t : Tr) (hf : ∀ x ∈ t.leaves, f (.str x) = .ret (.bl (g x))) (b : Bool) (hd : b = true ∨ t.leaves.Nodup) (hz : t.size ≤ 900) : (m_is_grown_2 f t.pv (.bl b)).le (.ret (.bl (t.leaves.all g))) := fun Q q => by
  unfold m_is_grown_2
  simp only [W.ret_bind, W.run_bind]
  refine whileF_run (fun n s => ∃ (ts : List Tr) (kvs : List (Key × PV)), n = sizes ts ∧ s = (kvs, ts.map Tr.pv) ∧ (∀ x ∈ ts.flatMap Tr.leaves, f (.str x) = .ret (.bl (g x))) ∧ (ts.flatMap Tr.leaves).all g = t.leaves.all g ∧ (b = true ∨ (ts.flatMap Tr.leaves).Nodup ∧ ∀ x ∈ ts.flatMap Tr.leaves, hasK kvs (.inr x) = false) ∧ sizes ts + kvs.length ≤ 900) (n := sizes [t]) ⟨[t], [], rfl, rfl, by simpa using hf, by simp, hd.imp id fun h => ⟨by simpa using h, fun _ _ => rfl⟩, by rw [sizes_one]; simpa using hz⟩ ?_
  rintro n s ⟨ts, kvs, rfl, rfl, h1, hall, h2, h3⟩
  by_cases he : ts = []
  · subst he
    simp at hall
    have hq : t.leaves.all g = true := by simpa using hall
    rw [hq] at q
    exact q
  · obtain ⟨us, u, rfl⟩ := snoc_of he
    have hsu := u.size_pos
    have hl2 := len_sizes us
    rw [sizes_append, sizes_one] at h3
    have ee : (!((us ++ [u]).map Tr.pv).isEmpty) = true := by simp
    have em : (us ++ [u]).map Tr.pv = us.map Tr.pv ++ [u.pv] := by simp
    simp only [W.ret_bind, W.run_ret, ee, if_true, W.run_bind]
    rw [em]
    simp only [ev_pop, W.run_ret]
    cases u with
    | leaf x =>
      have wx := h1 x (by simp [Tr.leaves])
      have c1 : kvs.length < sizeLine := small1000 (by omega)
      have cb := h2.imp id fun h => h.2 x (by simp [Tr.leaves])
      have ct : (if (hasK kvs (.inr x)) = true then (W.ret (!b)) else W.ret false) = W.ret false := by
        rcases cb with h | h
        · rw [h]; split <;> rfl
        · rw [h]; rfl
      cases hg : g x with
      | false =>
        rw [hg] at wx
        have hq : t.leaves.all g = false := by rw [← hall, List.flatMap_append, List.all_append]; simp [Tr.leaves, hg]
        rw [hq] at q
        simp only [Tr.pv, row_no, ev_truB, W.run_ret, Bool.false_eq_true, if_false, wx, Bool.not_false, W.ret_bind, if_true, W.run_bind]
        exact q
      | true =>
        rw [hg] at wx
        simp only [Tr.pv, row_no, ev_truB, W.run_ret, Bool.false_eq_true, if_false, wx, Bool.not_true, W.ret_bind, ev_keyS, ct, putW, W.chk_pos c1, W.run_bind]
        refine ⟨sizes us, by rw [sizes_append, sizes_one]; show sizes us < sizes us + 1; omega, us, _, rfl, rfl, fun y hy => h1 y (by simp [hy]), by rw [← hall, List.flatMap_append, List.all_append]; simp [Tr.leaves, hg], ?_, ?_⟩
        · rcases h2 with h | ⟨h, k⟩
          · exact .inl h
          · right
            rw [List.flatMap_append] at h
            have nx : x ∉ us.flatMap Tr.leaves := fun z => by
              have := (List.nodup_append.mp h).2.2 x z x (by simp [Tr.leaves])
              exact this rfl
            refine ⟨(List.nodup_append.mp h).1, fun y hy => ?_⟩
            have ky := k y (by simp [hy])
            have kx := k x (by simp [Tr.leaves])
            have nyx : x ≠ y := fun z => nx (z ▸ hy)
            unfold putP
            rw [kx]
            show hasK (kvs ++ [_]) _ = false
            unfold hasK at ky ⊢
            rw [List.any_append, ky]
            simp [nyx]
        · have : (putP kvs (.inr x) (.bl true)).length ≤ kvs.length + 1 := by
            unfold putP
            split <;> simp
          omega
    | node c d =>
      have hsz : (Tr.node c d).size = c.size + d.size + 1 := rfl
      have e1 : extW (us.map Tr.pv) [c.pv, d.pv] = .ret (us.map Tr.pv ++ [c.pv, d.pv]) := W.chk_pos (small' (by simp; omega))
      have e2 : (([c.pv, d.pv].length : Int) == 2) = true := rfl
      simp only [Tr.pv, row_ok, e2, ev_truB, W.run_ret, if_true, ev_seqT, e1, W.run_bind]
      have e3 : sizes [c, d] = c.size + d.size := by simp [sizes]
      refine ⟨sizes (us ++ [c, d]), by rw [sizes_append, sizes_append, sizes_one, e3]; omega, us ++ [c, d], kvs, rfl, by simp, fun y hy => h1 y (by simpa [Tr.leaves, List.flatMap_append] using hy), by rw [← hall]; simp [Tr.leaves, List.flatMap_append], ?_, by rw [sizes_append, e3]; omega⟩
      refine h2.imp id fun ⟨h, k⟩ => ⟨by simpa [Tr.leaves, List.flatMap_append] using h, fun y hy => k y (by simpa [Tr.leaves, List.flatMap_append] using hy)⟩
theorem great2_le {t : Tr} (g : Gr5 t) : (m_is_great_2 t.pv).le (.ret (.bl true)) := by
  unfold m_is_great_2
  simp only [W.ret_bind]
  have h := grown2_le m_is_word (fun _ => true) t (fun x hx => word_ok (g.ws x hx)) false (.inr g.nd) (by have := t.size_eq; have := g.few; omega)
  have e : t.leaves.all (fun _ => true) = true := by simp
  rw [e] at h
  exact h
theorem post_leaves : ∀ t : Tr, (t.post.map Tr.pv).filterMap (fun v => if Kd.is .str v = true then some v else none) = t.leaves.map PV.str
  | .leaf x => rfl
  | .node a b => by
    have e : (Tr.node a b).post = a.post ++ b.post ++ [.node a b] := rfl
    rw [e]
    simp only [List.map_append, List.filterMap_append, post_leaves a, post_leaves b, List.map_cons, List.map_nil]
    show _ = (a.leaves ++ b.leaves).map PV.str
    rw [List.map_append]
    have : List.filterMap (fun v => if Kd.is .str v = true then some v else none) [(Tr.node a b).pv] = [] := rfl
    rw [this, List.append_nil]
theorem leaves_le (t : Tr) (hz : t.size ≤ 900) : (m_leaves t.pv).le (.ret (.tup (t.leaves.map PV.str))) := fun Q q => by
  unfold m_leaves
  simp only [W.ret_bind, W.run_bind]
  refine parts_le t hz _ ?_
  refine lcW_r (fun v => if Kd.is .str v = true then some v else none) (fun v hv => ?_) ?_
  · obtain ⟨u, _, rfl⟩ := List.mem_map.mp hv
    cases u <;> rfl
  · rw [post_leaves]
    exact q
theorem small_le {g : Tr} (hg : Gr5 g) (t : Tr) (hw : t.Ws) (hz : t.size ≤ 900) : (m_is_small g.pv t.pv).le (.ret (.bl (t.leaves.all fun x => decide (x ∈ g.leaves)))) := fun Q q => by
  unfold m_is_small
  simp only [W.ret_bind, W.run_bind]
  refine great2_le hg _ ?_
  simp only [ev_truB, W.run_ret, Bool.not_true, Bool.false_eq_true, if_false, W.ret_bind]
  refine leaves_le g (by have := g.size_eq; have := hg.few; omega) _ ?_
  refine grown2_le _ (fun x => decide (x ∈ g.leaves)) t (fun x hx => ?_) true (.inl rfl) hz _ q
  simp only [word_ok (hw x hx), W.ret_bind, ev_andT, ev_seqT, in_str, ev_bl, Bool.false_eq_true, if_false]
theorem small_no {g : Tr} (hg : Gr5 g) (v : PV) (h1 : m_is_row v (.int 2) = .ret (.bl false)) (h2 : m_is_word v = .ret (.bl false)) : (m_is_small g.pv v).le (.ret (.bl false)) := fun Q q => by
  unfold m_is_small
  simp only [W.ret_bind, W.run_bind]
  refine great2_le hg _ ?_
  simp only [ev_truB, W.run_ret, Bool.not_true, Bool.false_eq_true, if_false, W.ret_bind]
  refine leaves_le g (by have := g.size_eq; have := hg.few; omega) _ ?_
  unfold m_is_grown_2
  simp only [W.ret_bind, W.run_bind]
  refine whileF_run (fun n s => s = (([] : List (Key × PV)), [v])) (n := 0) rfl ?_
  rintro n s rfl
  have ee : (!([v] : List PV).isEmpty) = true := rfl
  simp only [W.ret_bind, W.run_ret, ee, if_true, W.run_bind]
  rw [show ([v] : List PV) = [] ++ [v] from rfl]
  simp only [ev_pop, W.run_ret, h1, ev_truB, Bool.false_eq_true, if_false, h2, W.ret_bind, ev_andF, Bool.not_false, if_true, W.run_bind]
  exact q
theorem mapW_all5 {f : PV → W PV} {S : PV → Prop} : ∀ {l : List PV}, (∀ x ∈ l, ∀ R : PV → Prop, (∀ v, S v → R v) → (f x).run R) → ∀ {Q : List PV → Prop}, (∀ m, m.length = l.length → (∀ v ∈ m, S v) → Q m) → (mapW l f).run Q
  | [], _, Q, q => q [] rfl (fun _ h => nomatch h)
  | x :: l, h, Q, q => by
    show (W.bind (f x) fun y => W.bind (mapW l f) fun m => W.ret (y :: m)).run Q
    simp only [W.run_bind]
    refine h x (.head _) _ fun v hv => ?_
    refine mapW_all5 (fun y hy => h y (.tail _ hy)) fun m hm hs => ?_
    exact q (v :: m) (by simp [hm]) fun u hu => by
      rcases List.mem_cons.mp hu with rfl | hu
      · exact hv
      · exact hs u hu
theorem strs_of5 : ∀ {m : List PV} {ls : List Str}, (∀ v ∈ m, ∃ w ∈ ls, v = PV.str w) → ∃ ws : List Str, m = ws.map PV.str ∧ ∀ w ∈ ws, w ∈ ls
  | [], _, _ => ⟨[], rfl, fun _ h => nomatch h⟩
  | v :: m, ls, h => by
    obtain ⟨w, hw, rfl⟩ := h v (.head _)
    obtain ⟨ws, rfl, h2⟩ := strs_of5 (m := m) (ls := ls) fun u hu => h u (.tail _ hu)
    exact ⟨w :: ws, rfl, fun x hx => by
      rcases List.mem_cons.mp hx with rfl | hx
      · exact hw
      · exact h2 x hx⟩
end My
set_option Elab.async false
set_option linter.all false
set_option maxRecDepth 100000
namespace My
open PySem PySem.Spec PyProof.Rows L2 PL FL
theorem sl5_ix : ∀ k : Nat, k < 8 → ∀ n, n < 9 → Builtin.Str.strSliceIndices none (some (k : Int)) 1 n = List.range (min k n) := by decide +kernel
theorem fm5_take (a : Array Nat) : ∀ k, (List.range k).filterMap (fun i => a[i]?) = a.toList.take k
  | 0 => rfl
  | k + 1 => by
    rw [List.range_succ, List.filterMap_append, fm5_take a k, List.take_succ, Array.getElem?_toList, List.filterMap_cons]
    cases a[k]? <;> rfl
theorem slice5 {w : Str} (h : w.length ≤ 8) {k : Nat} (hk : k < 8) : (Txt.slice w none (some (k : Int))).cps.toList = w.cps.toList.take k := by
  have hl : w.cps.toList.length = w.length := by simp [Str.length]
  unfold Txt.slice
  rw [sl5_ix k hk w.length (by omega)]
  split
  · next c =>
    have : min k w.length = w.length := by simpa using c
    rw [List.take_of_length_le (by omega)]
  · show (List.filterMap _ _).toArray.toList = _
    rw [List.toList_toArray, fm5_take]
    rcases Nat.lt_or_ge w.length k with c | c
    · rw [List.take_of_length_le (by omega), List.take_of_length_le (by omega)]
    · rw [Nat.min_eq_left c]
theorem len5 {w : Str} (h : w.length ≤ 8) {k : Nat} (hk : k < 8) : (Txt.slice w none (some (k : Int))).length = min k w.length := by
  have e := congrArg List.length (slice5 h hk)
  rw [List.length_take] at e
  simpa [Str.length] using e
theorem wd_q {w : Str} (h : Wd w) : Wd (Txt.slice w none (some 7) ++ "q") := by
  obtain ⟨h1, h2, h3⟩ := h
  have e := slice5 h2 (k := 7) (by decide)
  have l := len5 h2 (k := 7) (by decide)
  have ec : (Txt.slice w none (some 7) ++ "q" : Str).cps.toList = (Txt.slice w none (some ((7 : Nat) : Int))).cps.toList ++ [113] := by
    show ((Txt.slice w none (some 7)).cps ++ ("q" : Str).cps).toList = _
    rw [Array.toList_append]; rfl
  have el : (Txt.slice w none (some 7) ++ "q" : Str).length = (Txt.slice w none (some ((7 : Nat) : Int))).length + 1 := by rw [Str.length_append]; rfl
  refine ⟨by rw [el]; omega, by rw [el]; omega, fun c hc => ?_⟩
  rw [ec, e] at hc
  rcases List.mem_append.mp hc with z | z
  · exact h3 c (List.mem_of_mem_take z)
  · rw [List.mem_singleton.mp z]; decide
theorem wd_1 {w : Str} (h : Wd w) : Wd (Txt.slice w none (some 1)) := by
  obtain ⟨h1, h2, h3⟩ := h
  have e := slice5 h2 (k := 1) (by decide)
  have l := len5 h2 (k := 1) (by decide)
  refine ⟨?_, ?_, fun c hc => ?_⟩
  · show 1 ≤ (Txt.slice w none (some ((1 : Nat) : Int))).length
    omega
  · show (Txt.slice w none (some ((1 : Nat) : Int))).length ≤ 8
    omega
  · have hc : c ∈ (Txt.slice w none (some ((1 : Nat) : Int))).cps.toList := hc
    rw [e] at hc
    exact h3 c (List.mem_of_mem_take hc)
theorem cut_lst5 (l : List PV) {a : Nat} (h : a ≤ l.length) : cutP l none (some (a : Int)) = l.take a := by
  unfold cutP
  rw [HT.sIx_none, HT.sIx_nat, List.drop_zero, Nat.sub_zero, Nat.min_eq_left h]
theorem small_run05 {ws : List Str} (hw : ws ≠ []) (h1 : ws.length ≤ 900) {n : Nat} (hn : n = 9 ∨ n = 10) {Q : PV → Prop} (q : ∀ t : Tr, (∀ x ∈ t.leaves, x ∈ ws) → t.leaves.length ≤ n → Q t.pv) : (m__law_small_3 (.cl (ws.map PV.str)) (.int (n : Int))).run Q := by
  have wl : 0 < ws.length := List.length_pos_iff.mpr hw
  unfold m__law_small_3
  simp only [W.ret_bind, W.run_bind, ev_take 8 (by decide) (by decide)]
  refine drawn_run fun d d0 d1 => ?_
  obtain ⟨m, hm, m0, m1⟩ : ∃ m : Int, atI [PV.int 6, PV.int (n : Int)] (if (d == 0) = true then 1 else 0) = some (.int m) ∧ 0 < m ∧ m ≤ n := by
    by_cases h : d = 0
    · subst h; exact ⟨n, rfl, by omega, by omega⟩
    · have e : (d == 0) = false := by simpa using h
      rw [e]; exact ⟨6, rfl, by decide, by omega⟩
  simp only [ev_eqI, W.run_ret, ev_intB, ev_ix, hm, W.ofO_some, ev_take m m0 (by omega)]
  refine drawn_run fun k k0 k1 => ?_
  simp only [ev_addI, W.run_ret, ev_lstC, ev_lenC, List.length_map, ev_take (ws.length : Int) (by omega) (by omega)]
  refine drawn_run fun j j0 j1 => ?_
  obtain ⟨a, ha⟩ : ∃ a : Nat, 1 + j = (a : Int) := ⟨(1 + j).toNat, by omega⟩
  obtain ⟨c, hc⟩ : ∃ c : Nat, 1 + k = (c : Int) := ⟨(1 + k).toNat, by omega⟩
  simp only [ev_addI, ev_part, W.run_ret, ha, hc, cut_lst5 (ws.map PV.str) (show a ≤ _ by rw [List.length_map]; omega), ev_rng1, W.chk_pos (okN_small (i := 0) (j := (c : Int)) (by omega) (by omega)), Int.toNat_natCast]
  rw [← List.map_take]
  have tl : (ws.take a).length = a := by rw [List.length_take]; omega
  refine mapW_all5 (S := fun v => ∃ w ∈ ws, v = PV.str w) (fun x _ R r => ?_) fun ms hl hs => ?_
  · simp only [W.ret_bind, ev_seqC, ev_lenC, List.length_map, tl, W.run_bind, ev_take (a : Int) (by omega) (by omega)]
    refine drawn_run fun e e0 e1 => ?_
    obtain ⟨v, hv, hv2⟩ := atI_lt (xs := (ws.take a).map PV.str) e0 (by rw [List.length_map, tl]; exact e1)
    simp only [ev_ix, hv, W.ofO_some, W.run_ret]
    rw [List.getElem?_map] at hv2
    cases z : (ws.take a)[e.toNat]? with
    | none => rw [z] at hv2; cases hv2
    | some w =>
      rw [z] at hv2
      exact r v ⟨w, List.mem_of_mem_take (List.mem_of_getElem? z), (Option.some.inj hv2).symm⟩
  · obtain ⟨us, rfl, hu⟩ := strs_of5 hs
    rw [intsV_len, List.length_map] at hl
    refine joined_run05 (fun z => by rw [z] at hl; simp at hl; omega) (by omega) fun t ht => q t (fun x h => hu x (ht ▸ h)) (by rw [ht]; omega)
theorem right_run {g : Tr} (hg : Gr5 g) (t : Tr) (hw : t.Ws) (hl : t.leaves.length ≤ 100) (hd : t.depth < 12) {Q : PV → Prop} (q : Q (.bl true)) : (m__law_right_2 g.pv t.pv (.cl (g.leaves.map PV.str))).run Q := by
  have hz : t.size ≤ 900 := by have := t.size_eq; omega
  unfold m__law_right_2
  simp only [W.ret_bind, W.run_bind]
  refine lvs_le 12 t hd (by omega) _ ?_
  refine lcW_r (fun v => match v with | .str x => if decide (x ∈ g.leaves) = true then none else some (.str x) | _ => none) (fun v hv => ?_) ?_
  · obtain ⟨x, _, rfl⟩ := List.mem_map.mp hv
    simp only [W.ret_bind, ev_seqC, in_str, if_true]
    by_cases c : x ∈ g.leaves
    · simp [c]
    · simp [c]
  have e : ((t.leaves.map PV.str).filterMap (fun v => match v with | .str x => if decide (x ∈ g.leaves) = true then none else some (PV.str x) | _ => none)).isEmpty = t.leaves.all fun x => decide (x ∈ g.leaves) := by
    clear hw hl hd hz q
    generalize t.leaves = l
    induction l with
    | nil => rfl
    | cons a l ih =>
      rw [List.map_cons, List.filterMap_cons, List.all_cons, ← ih]
      by_cases c : a ∈ g.leaves <;> simp [c]
  simp only [W.run_ret, e]
  refine small_le hg t hw hz _ ?_
  simp only [W.run_ret, ev_isiB, ev_kdBB, W.ret_bind, ev_andT, ev_eqB, beq_self_eq_true, W.run_bind]
  refine small_le hg t hw hz _ ?_
  simp only [W.run_ret, ev_eqB, beq_self_eq_true]
  exact q
def Gd (v : PV) : Prop := ∃ t : Tr, v = t.pv ∧ t.Ws ∧ t.leaves.length ≤ 20 ∧ t.depth < 12
theorem wda : Wd "a" := ⟨by decide +kernel, by decide +kernel, by decide +kernel⟩
theorem wdb : Wd "b" := ⟨by decide +kernel, by decide +kernel, by decide +kernel⟩
theorem wdc : Wd "c" := ⟨by decide +kernel, by decide +kernel, by decide +kernel⟩
theorem wdq : Wd "q" := ⟨by decide +kernel, by decide +kernel, by decide +kernel⟩
theorem gd_leaf {x : Str} (h : Wd x) : Gd (.str x) := ⟨.leaf x, rfl, fun y hy => by rw [List.mem_singleton.mp (show y ∈ [x] from hy)]; exact h, by show 1 ≤ 20; omega, by show 0 < 12; omega⟩
theorem no_things {w : Str} {ws : List PV} : ∀ v ∈ [PV.non, .bl true, .int 0, .tup [], .cl [], dvK [], .str "", .str "A", .cl ws, .tup [.str w], .cl [.str w, .str w], .int 1], m_is_row v (.int 2) = .ret (.bl false) ∧ m_is_word v = .ret (.bl false) := by
  have hA : m_is_word (.str "A") = .ret (.bl false) := by
    unfold m_is_word
    have c1 : ("A" : Str).length ≤ sizeLine := by decide +kernel
    have c2 : ("A" : Str).cps.size ≤ sizeLine := by decide +kernel
    have c3 : (1 : Int) ≤ (("A" : Str).length : Int) := by decide +kernel
    have c4 : (("A" : Str).length : Int) ≤ 8 := by decide +kernel
    simp only [W.ret_bind, ev_isiS, ev_kdSS, ev_truB, Bool.not_true, Bool.false_eq_true, if_false, ev_lenS, W.chk_pos c1, ev_le, c3, c4, decide_true, ev_chainT, ev_asB, ev_signs, W.chk_pos c2]
    rw [mapW_eq (g := fun _ => PV.bl false) fun y hy => ?_]
    · simp only [W.ret_bind]
      rw [all_map (fun _ => false)]
      rfl
    · obtain ⟨c, hc, rfl⟩ := List.mem_map.mp hy
      have : c = 65 := by
        have h : ("A" : Str).cps.toList = [65] := by decide +kernel
        rw [h] at hc
        exact List.mem_singleton.mp hc
      subst this
      simp only [ev_inS]
      congr 2
      decide +kernel
  have hE : m_is_word (.str "") = .ret (.bl false) := by
    unfold m_is_word
    have c1 : ("" : Str).length ≤ sizeLine := by decide +kernel
    have c3 : ¬ (1 : Int) ≤ (("" : Str).length : Int) := by decide +kernel
    simp only [W.ret_bind, ev_isiS, ev_kdSS, ev_truB, Bool.not_true, Bool.false_eq_true, if_false, ev_lenS, W.chk_pos c1, ev_le, c3, decide_false, ev_chainF, ev_asB, Bool.not_false, if_true]
  have nw : ∀ v : PV, isiW .str v = .ret (.bl false) → m_is_word v = .ret (.bl false) := fun v h => by
    unfold m_is_word
    simp only [W.ret_bind, h, ev_truB, Bool.not_false, if_true]
  have nr : ∀ v : PV, isiW .tup v = .ret (.bl false) → m_is_row v (.int 2) = .ret (.bl false) := fun v h => by
    unfold m_is_row
    simp only [W.ret_bind, h, ev_andF]
  intro v hv
  simp only [List.mem_cons, List.not_mem_nil, or_false] at hv
  rcases hv with rfl | rfl | rfl | rfl | rfl | rfl | rfl | rfl | rfl | rfl | rfl | rfl
  · exact ⟨nr _ rfl, nw _ rfl⟩
  · exact ⟨nr _ rfl, nw _ rfl⟩
  · exact ⟨nr _ rfl, nw _ rfl⟩
  · exact ⟨by rw [row_ok]; rfl, nw _ rfl⟩
  · exact ⟨nr _ rfl, nw _ rfl⟩
  · exact ⟨nr _ rfl, nw _ rfl⟩
  · exact ⟨nr _ rfl, hE⟩
  · exact ⟨nr _ rfl, hA⟩
  · exact ⟨nr _ rfl, nw _ rfl⟩
  · exact ⟨by rw [row_ok]; rfl, nw _ rfl⟩
  · exact ⟨nr _ rfl, nw _ rfl⟩
  · exact ⟨nr _ rfl, nw _ rfl⟩
theorem law05_ok : ∀ ns : List Int, ns.length ≤ 63 → (m_law_19 (.cl (ns.map PV.int))).run (· = .bl true) := by
  intro ns hn
  unfold m_law_19
  obtain ⟨m, hm, m1⟩ : ∃ m : Nat, (W.bind (w2 addW (W.ret (.int 1)) (W.bind (W.bind (W.bind (W.ret (.cl (ns.map PV.int))) lstW) fun l1 => W.bind (W.ret none) fun i2 => W.bind (W.bind (W.ret (.int 20)) part) fun j3 => W.ret (cutP l1 i2 j3)) lenW)) rng1W) = .ret (intsV 0 m) ∧ m ≤ 21 := by
    have hl : (cutP (ns.map PV.int) none (some 20)).length ≤ 20 := by
      unfold cutP
      rw [HT.sIx_none, show (some (20 : Int)) = some ((20 : Nat) : Int) from rfl, HT.sIx_nat]
      simp only [List.length_take, List.length_drop]
      omega
    simp only [W.ret_bind, ev_lstC, ev_part, ev_len, ev_addI]
    refine ⟨(1 + ((cutP (ns.map PV.int) none (some 20)).length : Int)).toNat, ?_, by omega⟩
    rw [ev_rng1, W.chk_pos (okN_small (by omega) (by omega))]
  rw [hm]
  simp only [W.ret_bind, W.run_bind]
  refine forF_rng (fun _ s => s = ()) rfl (fun k s hk hs => ?_) (fun s hs => ?_)
  · refine hand_run05 (by omega) (by omega) fun l hl => ?_
    refine ⟨hl, ?_⟩
    simp only [W.ret_bind, W.run_bind, W.run_ret]
    refine great_run05 fun g hg => ?_
    have gp := g.leaves_pos
    have gd := g.depth_lt
    have gf := hg.few
    refine lvs_le 12 g (by omega) (by omega) _ ?_
    obtain ⟨w0, wr, ew⟩ : ∃ w0 wr, g.leaves = w0 :: wr := by
      cases z : g.leaves with
      | nil => rw [z] at gp; simp at gp
      | cons a b => exact ⟨a, b, rfl⟩
    obtain ⟨wi, wz, ez⟩ := snoc_of (leaves_ne g)
    have h0 : Wd w0 := hg.ws w0 (by rw [ew]; simp)
    have hz : Wd wz := hg.ws wz (by rw [ez]; simp)
    have a0 : atI (g.leaves.map PV.str) 0 = some (.str w0) := by rw [ew]; exact atI_nat (j := 0) rfl
    have az : atI (g.leaves.map PV.str) (-1) = some (.str wz) := by rw [ez, List.map_append]; exact atI_last _ _
    have gg : Gd g.pv := ⟨g, rfl, hg.ws, by omega, by omega⟩
    have s7 : slSW (.str w0) none (some 7) = .ret (.str (Txt.slice w0 none (some 7))) := W.chk_pos (small' (by have := h0.2.1; omega))
    have s1 : slSW (.str wz) none (some 1) = .ret (.str (Txt.slice wz none (some 1))) := W.chk_pos (small' (by have := hz.2.1; omega))
    have l7 : (Txt.slice w0 none (some 7)).length ≤ 8 := by have := len5 h0.2.1 (k := 7) (by decide); have e : Txt.slice w0 none (some 7) = Txt.slice w0 none (some ((7 : Nat) : Int)) := rfl; rw [e]; omega
    have aq : addW (.str (Txt.slice w0 none (some 7))) (.str "q") = .ret (.str (Txt.slice w0 none (some 7) ++ "q")) := W.chk_pos (small' (by show _ + 1 ≤ 1000; omega))
    have c2 : catW (g.leaves.map PV.str) [.str (Txt.slice w0 none (some 7) ++ "q"), .str (Txt.slice wz none (some 1))] = .ret ((g.leaves ++ [Txt.slice w0 none (some 7) ++ "q", Txt.slice wz none (some 1)]).map PV.str) := by
      rw [List.map_append]
      exact W.chk_pos (small' (by simp; omega))
    have init : ∀ {R : List PV → Prop}, (∀ l, l.length ≤ 5 → (∀ v ∈ l, Gd v) → R l) → (W.bind (repW [g.pv, .str w0, .tup [g.pv, g.pv]] (.int (if decide ((g.leaves.length : Int) < 6) = true then 1 else 0))) fun l24 => catW l24 [.str wz, .str "q"]).run R := fun {R} r => by
      by_cases c : (g.leaves.length : Int) < 6
      · have e : repW [g.pv, .str w0, .tup [g.pv, g.pv]] (.int 1) = .ret [g.pv, .str w0, .tup [g.pv, g.pv]] := by rw [ev_rep, W.chk_pos ⟨by decide, by decide, small' (by simp)⟩]; rfl
        rw [decide_eq_true c, if_pos rfl, e]
        refine ⟨small' (by simp), r _ (by simp) fun v hv => ?_⟩
        simp only [List.cons_append, List.nil_append, List.mem_cons, List.not_mem_nil, or_false] at hv
        rcases hv with rfl | rfl | rfl | rfl | rfl
        · exact gg
        · exact gd_leaf h0
        · refine ⟨.node g g, rfl, fun x hx => hg.ws x ?_, ?_, ?_⟩
          · rcases List.mem_append.mp (show x ∈ g.leaves ++ g.leaves from hx) with z | z <;> exact z
          · show (g.leaves ++ g.leaves).length ≤ 20
            rw [List.length_append]; omega
          · show max g.depth g.depth + 1 < 12
            omega
        · exact gd_leaf hz
        · exact gd_leaf wdq
      · have e : repW [g.pv, .str w0, .tup [g.pv, g.pv]] (.int 0) = .ret [] := by rw [ev_rep, W.chk_pos ⟨by decide, by decide, small' (by simp)⟩]; rfl
        rw [decide_eq_false c, if_neg Bool.false_ne_true, e]
        refine ⟨small' (by simp), r _ (by simp) fun v hv => ?_⟩
        simp only [List.nil_append, List.mem_cons, List.not_mem_nil, or_false] at hv
        rcases hv with rfl | rfl
        · exact gd_leaf hz
        · exact gd_leaf wdq
    simp only [W.ret_bind, W.run_ret, ev_seqC, ev_lstC, ev_ix, a0, az, W.ofO_some, ev_lenC, List.length_map, ev_lt, ev_intB, ev_neg, ev_part, s7, s1, aq, c2]
    refine init fun l0 k0 g0 => ?_
    rw [ev_rng1, W.chk_pos (okN_small (i := 0) (j := 4) (by omega) (by omega))]
    rw [W.run_ret]
    refine forW_rng (n := Int.toNat 4) (fun i s => s.length ≤ 5 + 3 * i ∧ ∀ v ∈ s, Gd v) ⟨by omega, g0⟩ (fun i s hi hh => ?_) fun s hh => ?_
    all_goals obtain ⟨h1, h2⟩ := hh
    · have hi : i < 4 := hi
      simp only [W.run_bind]
      refine small_run05 (n := 10) (leaves_ne g) (by omega) (.inr rfl) fun t1 u1 v1 => ?_
      refine small_run05 (n := 9) (ws := g.leaves ++ [Txt.slice w0 none (some 7) ++ "q", Txt.slice wz none (some 1)]) (by simp) (by simp; omega) (.inl rfl) fun t2 u2 v2 => ?_
      have w1 : t1.Ws := fun x hx => hg.ws x (u1 x hx)
      have w2' : t2.Ws := fun x hx => by
        rcases List.mem_append.mp (u2 x hx) with z | z
        · exact hg.ws x z
        · simp only [List.mem_cons, List.not_mem_nil, or_false] at z
          rcases z with rfl | rfl
          · exact wd_q h0
          · exact wd_1 hz
      have d1 := t1.depth_lt
      have d2 := t2.depth_lt
      have G1 : Gd t1.pv := ⟨t1, rfl, w1, by omega, by omega⟩
      have G2 : Gd t2.pv := ⟨t2, rfl, w2', by omega, by omega⟩
      have hd : (Tr.node t2 t1).depth < 12 := by show max t2.depth t1.depth + 1 < 12; omega
      have hl' : (Tr.node t2 t1).leaves.length ≤ 20 := by show (t2.leaves ++ t1.leaves).length ≤ 20; rw [List.length_append]; omega
      have G3 : Gd (.tup [t2.pv, t1.pv]) := ⟨.node t2 t1, rfl, fun x hx => by
        rcases List.mem_append.mp (show x ∈ t2.leaves ++ t1.leaves from hx) with z | z
        · exact w2' x z
        · exact w1 x z, hl', hd⟩
      have al : atI (s ++ [t1.pv, t2.pv]) (-1) = some t2.pv := by
        rw [show s ++ [t1.pv, t2.pv] = (s ++ [t1.pv]) ++ [t2.pv] by simp]
        exact atI_last _ _
      have fin : ∀ v, Gd v → (appW (s ++ [t1.pv, t2.pv]) v).run fun a => a.length ≤ 5 + 3 * (i + 1) ∧ ∀ v, v ∈ a → Gd v := fun v hv => by
        rw [app_le (by simp; omega)]
        refine ⟨by simp; omega, fun x hx => ?_⟩
        simp only [List.mem_append, List.mem_cons, List.not_mem_nil, or_false] at hx
        rcases hx with (z | rfl | rfl) | rfl
        · exact h2 x z
        · exact G1
        · exact G2
        · exact hv
      refine ⟨small' (by simp; omega), ?_⟩
      simp only [W.run_ret, al, W.ofO_some, W.ret_bind, W.run_bind]
      refine lvs_le 12 (.node t2 t1) hd (by omega) _ ?_
      simp only [W.run_ret, ev_len, ev_lt, ev_asB]
      split
      · exact fin _ G3
      · exact fin _ G1
    · refine mapW_all5 (S := fun v => v = PV.bl true) (fun x hx R r => ?_) fun ms _ hms => ?_
      · obtain ⟨t, rfl, w1, l1, d1⟩ := h2 x hx
        exact right_run hg t w1 (by omega) d1 (r _ rfl)
      · have em : ms = ms.map fun _ => PV.bl true := ((List.map_congr_left (g := id) fun v hv => (hms v hv).symm).trans (List.map_id _)).symm
        have ea : allW ms = .ret (.bl true) := by
          rw [em, all_map (fun _ => true)]
          congr 2
          simp
        rw [ea]
        simp only [W.run_ret, ev_truB, Bool.not_true, Bool.false_eq_true, if_false, ev_seqT, W.ret_bind, W.run_bind]
        refine forF_ix (fun _ _ => True) trivial (fun i x u hx _ => ?_) fun _ _ => trivial
        obtain ⟨n1, n2⟩ := no_things (w := w0) (ws := g.leaves.map PV.str) x (List.mem_of_getElem? hx)
        simp only [W.run_bind]
        refine small_no hg x n1 n2 _ ?_
        simp only [W.run_ret, W.ret_bind, ev_isNotB, ev_asB, beq_self_eq_true, Bool.not_true, Bool.false_eq_true, if_false]
  · have ga : Gr5 (.leaf "a") := ⟨fun x hx => by rw [List.mem_singleton.mp (show x ∈ [("a" : Str)] from hx)]; exact wda, by show [("a" : Str)].Nodup; decide +kernel, by show 1 ≤ 8; omega⟩
    have gab : Gr5 (.node (.leaf "a") (.leaf "b")) := ⟨fun x hx => by
      have hx : x ∈ [("a" : Str), "b"] := hx
      simp only [List.mem_cons, List.not_mem_nil, or_false] at hx
      rcases hx with rfl | rfl
      · exact wda
      · exact wdb, by show [("a" : Str), "b"].Nodup; decide +kernel, by show 2 ≤ 8; omega⟩
    have t1 := small_le ga (.node (.leaf "a") (.node (.leaf "a") (.leaf "a"))) (fun x hx => by
      have hx : x ∈ [("a" : Str), "a", "a"] := hx
      simp only [List.mem_cons, List.not_mem_nil, or_false, or_self] at hx
      rw [hx]; exact wda) (by show 5 ≤ 900; omega)
    have t2 := small_le gab (.leaf "c") (fun x hx => by rw [List.mem_singleton.mp (show x ∈ [("c" : Str)] from hx)]; exact wdc) (by show 1 ≤ 900; omega)
    have e1 : ((Tr.node (.leaf "a") (.node (.leaf "a") (.leaf "a"))).leaves.all fun x => decide (x ∈ (Tr.leaf "a").leaves)) = true := by decide +kernel
    have e2 : ((Tr.leaf "c").leaves.all fun x => decide (x ∈ (Tr.node (.leaf "a") (.leaf "b")).leaves)) = false := by decide +kernel
    rw [e1] at t1
    rw [e2] at t2
    show (andB (b2 oIsB (m_is_small _ _) (W.ret (PV.bl true))) (b2 oIsB (m_is_small _ _) (W.ret (PV.bl false)))).run _
    simp only [W.run_bind]
    refine t1 _ ?_
    simp only [W.run_ret, W.ret_bind, ev_isB, beq_self_eq_true, ev_andT, W.run_bind]
    refine t2 _ ?_
    simp only [W.run_ret, W.ret_bind, ev_isB, beq_self_eq_true]
end My
set_option Elab.async false
set_option linter.all false
set_option maxRecDepth 100000
set_option maxHeartbeats 1000000
namespace My
open PySem PySem.Spec PyProof.Rows L2 PL FL
instance tabc : TabC := ⟨[(42, "is_small.<locals>.<lambda>")]⟩
def top (i : Nat) : Stmt := PySem.Challenge.pw_treewithin_k05_what_is_a_small_tree.main.body.getD i (.Pass ⟨0, 0, 0, 0⟩)
abbrev dV (i k : Nat) (ks : List AK) (n : Nat) (m : Cur PV n) : DF := ⟨dnm (top i), top i, pms (top i), k, fun K => spF K ks (unc n m)⟩
abbrev dL (i k : Nat) (ks : List AK) (n : Nat) (m : Cur (List PV) n) : DF := ⟨dnm (top i), top i, pms (top i), k, fun K => spFL K ks (unc n m)⟩
abbrev dv (i k n : Nat) (m : Cur PV n) : DF := dV i k (List.replicate n .v) n m
abbrev lsc_is_word_0 : Scope := lsc [("sign", lo), ("LETTERS", gi)]
theorem lc_is_word_0 : LS (top 5) lsc_is_word_0 := lcs
abbrev lsc_leaves_0 : Scope := lsc [("part", lo), ("isinstance", gi), ("str", gi)]
theorem lc_leaves_0 : LS (top 10) lsc_leaves_0 := lcs
theorem sc__law_take : FnScope (nms (top 13)) (pms (top 13)) (defScope (top 13)) := fsc
theorem sc__law_leaves : FnScope (nms (top 17)) (pms (top 17)) (defScope (top 17)) := fsc
abbrev lsc__law_small_0 : Scope := lsc [("_law_k", lo), ("_law_take", gi), ("len", gi), ("_law_few", fr), ("_law_hand_here", fr)]
theorem lc__law_small_0 : LS (top 18) lsc__law_small_0 := lcs
abbrev lsc__law_right_0 : Scope := lsc [("_law_word", lo), ("_law_words_here", fr)]
theorem lc__law_right_0 : LS (top 19) lsc__law_right_0 := lcs
abbrev lsc_law_0 : Scope := lsc [("_law_tree", lo), ("_law_right", gi), ("_law_great_here", fr), ("_law_words_here", fr)]
theorem lc_law_0 : LS (top 20) lsc_law_0 := lcs
structure NB (v : EV) : Prop where
  len : v.mg "len" = none
  isinstance : v.mg "isinstance" = none
  tuple : v.mg "tuple" = none
  str : v.mg "str" = none
  all : v.mg "all" = none
  list : v.mg "list" = none
  reversed : v.mg "reversed" = none
  abs : v.mg "abs" = none
  int : v.mg "int" = none
  range : v.mg "range" = none
  bool : v.mg "bool" = none
variable {v : EV}
abbrev d_is_row : DF := dv 1 1 2 m_is_row
theorem k_is_row (D : DI v d_is_row) (q : NB v) : D.O :=
  mkV D fun hr nd thing_ many_ =>
  (SF.retV (e_and (e_isi rfl .tup rfl q.isinstance (e_var 0) rfl q.tuple boot_tuple) (e_one (e_cmp (jf_eq rfl (room_u hr)) (e_len rfl rfl q.len (e_var 0)) (e_var 1)))) fun _ => rfl)
abbrev d_is_word : DF := dv 5 1 1 m_is_word
theorem k_is_word (D : DI v d_is_word) (q : NB v) {t_LONGEST_WORD : Tok} (c_LONGEST_WORD : v.mg "LONGEST_WORD" = some (.int 8 t_LONGEST_WORD)) {t_LETTERS : Tok} (c_LETTERS : v.mg "LETTERS" = some (.str "abcdefghijklmnopqrstuvwxyz" t_LETTERS)) : D.O :=
  mkV D fun hr nd thing_ =>
  (SF.ifR (TWF.t (tw_or (t_not (t_tru rfl (e_isi rfl .str rfl q.isinstance (e_var 0) rfl q.str boot_str) (fun _ => rfl))) (tw_or1 (t_not (t_chain jc_le jc_le e_int (e_len rfl rfl q.len (e_var 0)) (e_gint c_LONGEST_WORD rfl))))))
  (SF.retV e_bl fun _ => rfl)
  (SF.retV (e_all rfl rfl rfl q.all (ql_new (l_map1 rfl lc_is_word_0 (it_str (e_var 0)) (fun _ _ _ _ _ => (pgn 0 lc_is_word_0.nd)) (fun _ _ _ _ _ p2 => (e_cmp (jc_inS rfl) (e_var 0) (e_gstr c_LETTERS rfl))) rfl))) fun _ => rfl))
abbrev d_is_grown (fa : Addr) (us : List V) (qs : List PV) (fz : List (Addr × Obj)) (is_leaf_ : PV → W PV) : DF := ⟨"is_grown", top 6, ["thing", "is_leaf", "often"], 4, fun K => spF K [.v, .f fa us qs fz, .v] (unc 2 (m_is_grown_2 is_leaf_))⟩
theorem k_is_grown {fa : Addr} {us : List V} {qs : List PV} {fz : List (Addr × Obj)} {pl : List Str} {is_leaf_ : PV → W PV} (D : DI v (d_is_grown fa us qs fz is_leaf_)) (gf_is_leaf : CalA v.P v.w v.K v.mg v.base fa us qs fz 3 pl (spF v.K (List.replicate 1 .v) (unc 1 is_leaf_))) (g_is_row : d_is_row.C v) : D.O :=
  mkV D fun hr nd thing_ often_ =>
  (SF.setD (i := 3) nd rfl (Or.inl rfl)
  (sl 4 nd (l_lstx (n := 1) (av 0 a_nil) rfl) fun waiting_2 =>
  (SF.whileF (hd := (fun (s4 : List (Key × PV) × List PV) => ([some (.val thing_), some (.adr fa us qs fz), some (.val often_), some (.od s4.1), some (.ol none s4.2), none] : FSt))) (s0 := ([], waiting_2)) (inj := id) PassesOwn.never (.refl _) (fun s4 => (t_own rfl (q_own 4) (fun _ => rfl))) (fun _ => trivial) (fun s4 =>
  (SF.popSet 4 5 rfl (by decide) rfl rfl (.inl rfl) nd rfl (Or.inl rfl) fun t7 =>
  (SF.ifT (t_tru rfl (eC g_is_row hr (av 5 (a_cons e_int a_nil))) (fun _ => rfl))
  (SF.extend 4 rfl rfl rfl (.inl rfl) (q_val (e_var 5)) fun waiting_10 =>
  (SF.nilC rfl (.m 32)))
  (SF.ifT (TWF.t (tw_or (t_not (t_tru rfl (e_callv 1 gf_is_leaf rfl hr (by first | exact Nat.le_of_ble_eq_true rfl | omega) rfl (av 5 a_nil) rfl) (fun _ => rfl))) (tw_or1 (TWF.t (tw_and (t_inD 3 rfl (room_u hr) (e_var 5)) (tw_and1 (t_not (t_tru rfl (e_var 2) (fun _ => rfl)))))))))
  (SF.ret (k := fun x15 => (Lp.out x15)) e_bl fun _ => rfl)
  (SF.putD 3 rfl (room_u hr) rfl (.inl rfl) e_bl (e_var 5) fun seen_16 =>
  (SF.nilC rfl (.m 32))))))) fun s4 =>
  (SF.retV e_bl fun _ => rfl))))
abbrev d_is_great : DF := dv 7 5 1 m_is_great_2
theorem k_is_great (D : DI v d_is_great) {fa_is_word : Addr} (a_is_word : v.mg "is_word" = some (.ref fa_is_word)) (g_is_grown__is_word : (d_is_grown fa_is_word [] [] [] m_is_word).C v) : D.O :=
  mkV D fun hr nd thing_ =>
  (SF.retV (eC g_is_grown__is_word hr (av 0 (a_fn rfl a_is_word (a_cons e_bl a_nil)))) fun _ => rfl)
abbrev d_parts_of : DF := dL 9 1 [.v] 1 m_parts_of
theorem k_parts_of (D : DI v d_parts_of) (q : NB v) : D.O :=
  mkL D fun hr nd tree_ =>
  (sl 1 nd (l_lstx (n := 0) a_nil rfl) fun backward_1 =>
  (sl 2 nd (l_lstx (n := 1) (av 0 a_nil) rfl) fun waiting_2 =>
  (SF.while (hd := (fun (s4 : List PV × List PV) => ([some (.val tree_), some (.ol none s4.1), some (.ol none s4.2), none] : FSt))) (s0 := (backward_1, waiting_2)) PassesOwn.never (.refl _) (fun s4 => (t_own rfl (q_own 2) (fun _ => rfl))) (fun s4 =>
  (SF.popSet 2 3 rfl (by decide) rfl rfl (.inl rfl) nd rfl (Or.inl rfl) fun t7 =>
  (SF.append 1 rfl rfl rfl (.inl rfl) (e_var 3) fun backward_8 =>
  (SF.ifT (t_not (t_tru rfl (e_isi rfl .str rfl q.isinstance (e_var 3) rfl q.str boot_str) (fun _ => rfl)))
  (SF.extend 2 rfl rfl rfl (.inl rfl) (q_val (e_var 3)) fun waiting_10 =>
  (SF.nilC rfl (.m 8)))
  (SF.nilC rfl (.m 8)))))) fun s4 =>
  (SF.retLV (l_rev rfl rfl rfl q.list rfl q.reversed (ql_own 1)) fun _ => rfl))))
abbrev d_leaves : DF := dv 10 2 1 m_leaves
theorem k_leaves (D : DI v d_leaves) (q : NB v) (g_parts_of : d_parts_of.C v) : D.O :=
  mkV D fun hr nd tree_ =>
  (SF.retV (e_tuple rfl rfl q.tuple (q_new (l_lc1 rfl lc_leaves_0 (it_seq rfl (i_new (lC g_parts_of hr (av 0 a_nil)))) (fun _ _ _ _ _ => (pgn 0 lc_leaves_0.nd)) (fun _ _ _ _ _ p3 => (t_tru rfl (e_isi rfl .str rfl q.isinstance (e_var 0) rfl q.str boot_str) (fun _ => rfl))) (fun _ _ _ _ _ p3 => (e_var 0)) rfl))) fun _ => rfl)
abbrev lsm_is_small_1 : Scope := { kind := .function, names := [("part", lo), ("words", fr), ("is_word", gi)], isGenerator := false, isCoroutine := false }
theorem lcp_is_small_1 : CapN (nms (top 8)) (defScope (top 8)) lsm_is_small_1 [2] ["words"] := by decide +kernel
abbrev d_is_small : DF := dv 8 6 2 m_is_small
theorem k_is_small (D : DI v d_is_small) {P : Addr} (hc : LamK v.K v.mg D.fd.code P) (hP : TabIs P "is_small.<locals>.<lambda>") (h_is_grown : HF v.P v.w v.K v.mg 1 3 "is_grown" 4 ["thing", "is_leaf", "often"] fun fa us qs fz g => spF v.K [.v, .f fa us qs fz, .v] (unc 2 (m_is_grown_2 g))) (gb_is_word : ∀ b, d_is_word.C (v.at b)) (g_is_great : d_is_great.C v) (g_leaves : d_leaves.C v) : D.O :=
  mkVc D hc fun hL hr nd great_ thing_ =>
  (SF.ifR (t_not (t_tru rfl (eC g_is_great hr (av 0 a_nil)) (fun _ => rfl)))
  (SF.retV e_bl fun _ => rfl)
  (sv 2 nd (eC g_leaves hr (av 0 a_nil)) fun words_2 =>
  (SF.retV (e_callL (pl := ["part"]) (al_cons (e_var 1) (al_lam (is := [2]) (qs := [words_2]) "is_small.<locals>.<lambda>" ["words"] hL hP lcp_is_small_1 (a_cons e_bl a_nil))) lcp_is_small_1 h_is_grown hr fun b => fun hr part_5 => (e_and (eC (gb_is_word b) hr (av 0 a_nil)) (e_one (e_inF rfl (room_u hr) (e_var 0) (q_val (e_var 1)))))) fun _ => rfl)))
abbrev d__law_hand : DF := dL 12 1 [.v, .v] 2 m__law_hand_2
theorem k__law_hand (D : DI v d__law_hand) (q : NB v) : D.O :=
  mkL D fun hr nd script_ k_ =>
  (sv 2 nd (e_if (t_neN rfl (room_u hr) (ql_val (e_var 0))) (e_ix rfl (q_val (e_var 0)) (e_mod (e_var 1) (e_len rfl rfl q.len (e_var 0))) (fun _ _ => rfl)) e_int) fun cell_1 =>
  (sv 3 nd (e_mul (e_mod (e_abs rfl q.abs (e_var 2)) (e_mul (e_mul (e_pow e_int e_int) (e_pow e_int e_int)) (e_pow e_int e_int))) (e_toInt rfl q.int (e_cmp jc_ge (e_abs rfl q.abs (e_var 2)) (e_pow e_int e_int)))) fun great_here_3 =>
  (SF.retLV (l_lstx (n := 2) (av 3 (a_cons (e_mod (e_mul (e_addF rfl (e_addF rfl (e_mod (e_var 2) e_int) (e_mul (e_mul e_int (e_var 1)) (e_var 1))) e_int) e_int) e_int) a_nil)) rfl) fun _ => rfl)))
abbrev d__law_take : DF := dV 13 1 [.p (PotP potG05), .v] 1 mt_take
theorem k__law_take (D : DI v d__law_take) : D.O :=
  pot_fn (n := 1) (fnO (n := 1) (m := m__law_take_4) D.fn sc__law_take rfl fun ad hand_here_ l hl => match l, hl with | [many_], _ => fun _ _ _ _ _ _ hr => show SF _ _ _ [some (.ol (some ad) hand_here_), some (.val many_), none, none] _ (m__law_take_4 hand_here_ many_) _ from
  (SF.ifR (t_cmp jc_gt (e_ix rfl (q_own 0) e_int (fun _ _ => rfl)) e_int)
  (sv 2 sc__law_take.nd (e_mod (e_ix rfl (q_own 0) e_int (fun _ _ => rfl)) (e_var 1)) fun digit_1 =>
  (SF.setI 0 rfl rfl (.inl rfl) (e_div (e_ix rfl (q_own 0) e_int (fun _ _ => rfl)) (e_var 1)) e_int fun hand_here_2 =>
  (SF.retI 0 (k := fun x5 => (x5, hand_here_2)) rfl (e_var 2) fun _ => rfl)))
  (SF.setI 0 rfl rfl (.inl rfl) (e_mod (e_addF rfl (e_mul (e_ix rfl (q_own 0) e_int (fun _ _ => rfl)) e_int) e_int) e_int) e_int fun hand_here_6 =>
  (sv 3 sc__law_take.nd (e_div (e_ix rfl (q_own 0) e_int (fun _ _ => rfl)) e_int) fun mixed_9 =>
  (SF.retI 0 (k := fun x10 => (x10, hand_here_6)) rfl (e_mod (e_div (e_mod (e_mul (e_var 3) (e_var 3)) e_int) e_int) (e_var 1)) fun _ => rfl))))) take_ok05
abbrev d__law_words : DF := dL 14 2 [.p (PotP potG05), .v] 1 m__law_words_4
theorem k__law_words (D : DI v d__law_words) (q : NB v) (g__law_take : d__law_take.C v) : D.O :=
  mkL D fun hr nd many_ =>
  (sv 2 nd e_str fun letters_1 =>
  (SF.par (i := 3) (j := 4) rfl nd rfl rfl (by decide) rfl rfl (eC g__law_take hr (a_pot 0 (a_cons e_int a_nil))) (e_ix rfl (q_new (l_lstx (n := 6) (a_cons e_int (a_cons e_int (a_cons e_int (a_cons e_int (a_cons e_int (a_cons e_int a_nil)))))) rfl)) (eC g__law_take hr (a_pot 0 (a_cons e_int a_nil))) (fun _ _ => rfl)) fun first_10 step_11 =>
  (sv 5 nd (e_ix rfl (q_new (l_lstx (n := 3) (a_cons e_str (a_cons e_str (a_cons e_str a_nil))) rfl)) (eC g__law_take hr (a_pot 0 (a_cons e_int a_nil))) (fun _ _ => rfl)) fun begin_12 =>
  (sl 6 nd (l_lstx (n := 0) a_nil rfl) fun found_17 =>
  (SF.for1 (hd := (fun (s19 : List PV) => ([some (.pot (PotP potG05)), some (.val many_), some (.val letters_1), some (.val first_10), some (.val step_11), some (.val begin_12), some (.ol none s19), none, none] : FSt))) (s0 := found_17) PassesOwn.never rfl (it_rng1 rfl q.range (e_var 1)) (.refl _) (pgn 7 nd) (fun s19 k_20 =>
  (sv 8 nd (e_ix rfl (q_new (l_lstx (n := 4) (a_cons e_str (a_cons e_str (a_cons e_str (a_cons e_str a_nil)))) rfl)) (eC g__law_take hr (a_pot 0 (a_cons e_int a_nil))) (fun _ _ => rfl)) fun end_21 =>
  (SF.append 6 rfl rfl rfl (.inl rfl) (e_addF rfl (e_addF rfl (e_var 5) (e_ixS (e_var 2) (e_mod (e_addF rfl (e_var 3) (e_mul (e_var 4) (e_var 7))) e_int) (fun _ _ => rfl))) (e_var 8)) fun found_27 =>
  (SF.nilC rfl (.m 384))))) fun s19 =>
  (SF.retO 6 rfl rfl))))))
abbrev d__law_joined : DF := dV 15 2 [.p (PotP potG05), .v] 1 m__law_joined_2
theorem k__law_joined (D : DI v d__law_joined) (q : NB v) (g__law_take : d__law_take.C v) : D.O :=
  mkV D fun hr nd some_ =>
  (SF.parL (i := 2) (j := 3) rfl nd rfl rfl (by decide) rfl rfl (l_list rfl rfl q.list (q_val (e_var 1))) (eC g__law_take hr (a_pot 0 (a_cons e_int a_nil))) fun row_2 style_3 =>
  (SF.for1 (hd := (fun (s5 : List PV) => ([some (.pot (PotP potG05)), some (.val some_), some (.ol none s5), some (.val style_3), none, none, none] : FSt))) (s0 := row_2) PassesOwn.never rfl (it_rng1 rfl q.range (e_sub (e_len rfl rfl q.len (e_var 1)) e_int)) (.refl _) (pgn 4 nd) (fun s5 k_6 =>
  (sv 5 nd (e_sub (e_lenQ rfl rfl q.len (q_own 2)) e_int) fun far_7 =>
  (sv 6 nd (e_ix rfl (q_new (l_lstx (n := 5) (a_cons e_int (av 5 (a_cons (e_mod (e_var 4) (e_addF rfl (e_var 5) e_int)) (a_cons (eC g__law_take hr (a_pot 0 (a_cons (e_addF rfl (e_var 5) e_int) a_nil))) (a_cons (eC g__law_take hr (a_pot 0 (a_cons (e_addF rfl (e_var 5) e_int) a_nil))) a_nil))))) rfl)) (e_var 3) (fun _ _ => rfl)) fun at_8 =>
  (SF.slset 2 rfl rfl (.inl rfl) (l_lstx (n := 1) (a_cons (e_tupx (n := 2) (a_cons (e_ix rfl (q_own 2) (e_var 6) (fun _ _ => rfl)) (a_cons (e_ix rfl (q_own 2) (e_addF rfl (e_var 6) e_int) (fun _ _ => rfl)) a_nil)) rfl) a_nil) rfl) (e_var 6) (e_addF rfl (e_var 6) e_int) fun row_16 =>
  (SF.nilC rfl (.m 112)))))) fun s5 =>
  (SF.retV (e_ix rfl (q_own 2) e_int (fun _ _ => rfl)) fun _ => rfl)))
abbrev d__law_great : DF := dV 16 3 [.p (PotP potG05), .v] 1 m__law_great_5
theorem k__law_great (D : DI v d__law_great) (q : NB v) (g__law_take : d__law_take.C v) (g__law_joined : d__law_joined.C v) (g__law_words : d__law_words.C v) : D.O :=
  mkV D fun hr nd most_ =>
  (sv 2 nd (e_addF rfl e_int (eC g__law_take hr (a_pot 0 (a_cons (e_ix rfl (q_new (l_lstx (n := 2) (a_cons e_int (av 1 a_nil)) rfl)) (e_toInt rfl q.int (e_cmp (jf_eq rfl (room_u hr)) (eC g__law_take hr (a_pot 0 (a_cons e_int a_nil))) e_int)) (fun _ _ => rfl)) a_nil)))) fun many_1 =>
  (SF.retV (eC g__law_joined hr (a_pot 0 (a_cons (e_frz (lC g__law_words hr (a_pot 0 (av 2 a_nil)))) a_nil))) fun _ => rfl))
abbrev d__law_leaves : DF := dL 17 12 [.v] 1 (m__law_leaves 12)
theorem k__law_leaves (D : DI v d__law_leaves) (q : NB v) : ∀ n, FnOk v.P v.w v.K v.mg v.base CX0 (n + 0) D.f D.fd (pms (top 17)) (spFL v.K [.v] (unc 1 (m__law_leaves n)))
  | 0 => fn_no (spFL_no fun l Q hl => match l, hl with | [tree_], _ => fun h => h.elim)
  | n + 1 => have g__law_leaves := D.cN (k__law_leaves D q n)
    fnL (k := n + 0) (n := 1) (m := m__law_leaves (n + 1)) D.fn sc__law_leaves rfl (one_v one_nil) fun l hl => match l, hl with | [tree_], _ => fun _ _ _ _ _ _ hr => show SF _ _ _ [some (.val tree_)] _ (m__law_leaves (n + 1) tree_) _ from
  (SF.ifR (t_tru rfl (e_isi rfl .str rfl q.isinstance (e_var 0) rfl q.str boot_str) (fun _ => rfl))
  (SF.retLV (l_lstx (n := 1) (av 0 a_nil) rfl) fun _ => rfl)
  (SF.retLV (l_cat rfl (ql_new (lC g__law_leaves hr (a_cons (e_ix rfl (q_val (e_var 0)) e_int (fun _ _ => rfl)) a_nil))) (ql_new (lC g__law_leaves hr (a_cons (e_ix rfl (q_val (e_var 0)) e_int (fun _ _ => rfl)) a_nil)))) fun _ => rfl))
abbrev d__law_small : DF := dV 18 3 [.p (PotP potG05), .v, .v] 2 m__law_small_3
theorem k__law_small (D : DI v d__law_small) (q : NB v) (g__law_take : d__law_take.C v) (g__law_joined : d__law_joined.C v) : D.O :=
  mkV D fun hr nd words_here_ most_ =>
  (sv 3 nd (e_addF rfl e_int (eC g__law_take hr (a_pot 0 (a_cons (e_ix rfl (q_new (l_lstx (n := 2) (a_cons e_int (av 2 a_nil)) rfl)) (e_toInt rfl q.int (e_cmp (jf_eq rfl (room_u hr)) (eC g__law_take hr (a_pot 0 (a_cons e_int a_nil))) e_int)) (fun _ _ => rfl)) a_nil)))) fun many_1 =>
  (sl 4 nd (l_sl rfl (ql_val (e_var 1)) o_none (o_some (e_addF rfl e_int (eC g__law_take hr (a_pot 0 (a_cons (e_len rfl rfl q.len (e_var 1)) a_nil)))))) fun few_6 =>
  SF.frz 4 rfl (SF.retV (eC g__law_joined hr (a_pot 0 (a_cons (e_frz (l_map1 rfl lc__law_small_0 (it_rng1 rfl q.range (e_var 3)) (fun _ _ _ _ _ => (pgn 0 lc__law_small_0.nd)) (fun _ _ _ _ _ p13 => (e_ix rfl (q_val (e_var 1)) (eC g__law_take hr (a_pot 2 (a_cons (e_len rfl rfl q.len (e_var 1)) a_nil))) (fun _ _ => rfl))) rfl)) a_nil))) fun _ => rfl)))
abbrev d__law_right : DF := dv 19 13 3 m__law_right_2
theorem k__law_right (D : DI v d__law_right) (q : NB v) (g__law_leaves : d__law_leaves.C v) (g_is_small : d_is_small.C v) : D.O :=
  mkV D fun hr nd great_here_ tree_ words_here_ =>
  (sv 3 nd (e_eqN rfl (room_u hr) (ql_new (l_lc1 rfl lc__law_right_0 (it_seq rfl (i_new (lC g__law_leaves hr (av 1 a_nil)))) (fun _ _ _ _ _ => (pgn 0 lc__law_right_0.nd)) (fun _ _ _ _ _ p4 => (t_ninF rfl (room_u hr) (e_var 0) (q_val (e_var 1)))) (fun _ _ _ _ _ p4 => (e_var 0)) rfl))) fun due_1 =>
  (sv 4 nd (eC g_is_small hr (av 0 (av 1 a_nil))) fun told_6 =>
  (SF.retV (e_and (e_isi rfl .bool rfl q.isinstance (e_var 4) rfl q.bool boot_bool) (e_and (e_cmp (jf_eq rfl (room_u hr)) (e_var 4) (e_var 3)) (e_one (e_cmp (jf_eq rfl (room_u hr)) (eC g_is_small hr (av 0 (av 1 a_nil))) (e_var 3))))) fun _ => rfl)))
abbrev d_law : DF := dv 20 14 1 m_law_19
theorem k_law (D : DI v d_law) (q : NB v) (g__law_hand : d__law_hand.C v) (g__law_great : d__law_great.C v) (g__law_leaves : d__law_leaves.C v) (g__law_small : d__law_small.C v) (g__law_right : d__law_right.C v) (g_is_small : d_is_small.C v) : D.O :=
  mkV D fun hr nd script_ =>
  (SF.forF1 (hd := (fun (s5 : Unit) => ([some (.val script_), none, none, none, none, none, none, none, none] : FSt))) (s0 := ()) (inj := id) PassesOwn.never rfl (it_rng1 rfl q.range (e_addF rfl e_int (e_lenQ rfl rfl q.len (q_new (l_sl rfl (ql_val (e_var 0)) o_none (o_some e_int)))))) (.refl _) (pgn 1 nd) (fun _ => trivial) (fun s5 k_6 =>
  (sl 2 nd (lC g__law_hand hr (av 0 (av 1 a_nil))) fun hand_here_7 => SF.pot 2 rfl
  (sv 3 nd (eC g__law_great hr (a_pot 2 (a_cons e_int a_nil))) fun great_here_10 =>
  (sl 4 nd (lC g__law_leaves hr (av 3 a_nil)) fun words_here_12 =>
  SF.frz 4 rfl (sl 5 nd (l_cat rfl (ql_new (l_rep (l_lstx (n := 3) (av 3 (a_cons (e_ix rfl (q_val (e_var 4)) e_int (fun _ _ => rfl)) (a_cons (e_tupx (n := 2) (av 3 (av 3 a_nil)) rfl) a_nil))) rfl) (e_toInt rfl q.int (e_cmp jc_lt (e_len rfl rfl q.len (e_var 4)) e_int)))) (ql_new (l_lstx (n := 2) (a_cons (e_ix rfl (q_val (e_var 4)) (e_neg e_int) (fun _ _ => rfl)) (a_cons e_str a_nil)) rfl))) fun some_14 =>
  (SF.for1 (hd := (fun (s27 : List PV) => ([some (.val script_), some (.val k_6), some (.pot (PotP potG05)), some (.val great_here_10), some (.val (.cl words_here_12)), some (.ol none s27), none, none, none] : FSt))) (s0 := some_14) PassesOwn.never rfl (it_rng1 rfl q.range e_int) (.refl _) (pgn 6 nd) (fun s27 turn_28 =>
  (sv 7 nd (eC g__law_small hr (a_pot 2 (av 4 (a_cons e_int a_nil)))) fun small_here_29 =>
  (sl 5 nd (l_cat rfl (ql_own 5) (ql_new (l_lstx (n := 2) (av 7 (a_cons (eC g__law_small hr (a_pot 2 (a_cons (e_frz (l_cat rfl (ql_val (e_var 4)) (ql_new (l_lstx (n := 2) (a_cons (e_addF rfl (e_slS (e_ix rfl (q_val (e_var 4)) e_int (fun _ _ => rfl)) o_none (o_some e_int)) e_str) (a_cons (e_slS (e_ix rfl (q_val (e_var 4)) (e_neg e_int) (fun _ _ => rfl)) o_none (o_some e_int)) a_nil)) rfl)))) (a_cons e_int a_nil)))) a_nil)) rfl))) fun some_32 =>
  (SF.append 5 rfl rfl rfl (.inl rfl) (e_if (t_cmp jc_lt (e_lenQ rfl rfl q.len (q_new (lC g__law_leaves hr (a_cons (e_tupx (n := 2) (a_cons (e_ix rfl (q_own 5) (e_neg e_int) (fun _ _ => rfl)) (av 7 a_nil)) rfl) a_nil)))) e_int) (e_tupx (n := 2) (a_cons (e_ix rfl (q_own 5) (e_neg e_int) (fun _ _ => rfl)) (av 7 a_nil)) rfl) (e_var 7)) fun some_49 =>
  (SF.nilC rfl (.m 192)))))) fun s27 =>
  (SF.ifR (t_bor 5 rfl (t_not (t_tru rfl (e_all rfl rfl rfl q.all (ql_new (l_map1 rfl lc_law_0 (it_seq rfl (i_val (e_var 5))) (fun _ _ _ _ _ => (pgn 0 lc_law_0.nd)) (fun _ _ _ _ _ p57 => (eC g__law_right hr (av 1 (av 0 (av 2 a_nil))))) rfl))) (fun _ => rfl))))
  (SF.ret (k := fun x61 => (Lp.out x61)) e_bl fun _ => rfl)
  (SF.forF1 (hd := (fun (s77 : Unit) => ([some (.val script_), some (.val k_6), some (.pot (PotP potG05)), some (.val great_here_10), some (.val (.cl words_here_12)), some (.ol none s27), none, none, none] : FSt))) (s0 := ()) (inj := Lp.out) PassesOwn.never rfl (it_seq rfl (i_val (e_tupx (n := 12) (a_cons e_non (a_cons e_bl (a_cons e_int (a_cons (e_tupx (n := 0) a_nil rfl) (a_cons (e_frz (l_lstx (n := 0) a_nil rfl)) (a_cons (e_dv d_nil) (a_cons e_str (a_cons e_str (a_cons (e_frz (l_list rfl rfl q.list (q_val (e_var 4)))) (a_cons (e_tupx (n := 1) (a_cons (e_ix rfl (q_val (e_var 4)) e_int (fun _ _ => rfl)) a_nil) rfl) (a_cons (e_frz (l_lstx (n := 2) (a_cons (e_ix rfl (q_val (e_var 4)) e_int (fun _ _ => rfl)) (a_cons (e_ix rfl (q_val (e_var 4)) e_int (fun _ _ => rfl)) a_nil)) rfl)) (a_cons e_int a_nil)))))))))))) rfl))) (.refl _) (pgn 8 nd) (fun _ => trivial) (fun s77 thing_78 =>
  (SF.ifT (t_cmp jc_isNotB (eC g_is_small hr (av 3 (av 8 a_nil))) e_bl)
  (SF.ret (k := fun x81 => (Lp.out x81)) e_bl fun _ => rfl)
  (SF.nilC rfl (.m 256)))) fun s77 =>
  (SF.nilC rfl (.m 62)))))))))) fun s5 =>
  (SF.retV (e_and (e_cmp jc_isB (eC g_is_small hr (a_cons e_str (a_cons (e_tupx (n := 2) (a_cons e_str (a_cons (e_tupx (n := 2) (a_cons e_str (a_cons e_str a_nil)) rfl) a_nil)) rfl) a_nil))) e_bl) (e_one (e_cmp jc_isB (eC g_is_small hr (a_cons (e_tupx (n := 2) (a_cons e_str (a_cons e_str a_nil)) rfl) (a_cons e_str a_nil))) e_bl))) fun _ => rfl))
end My
set_option Elab.async false
set_option linter.all false
set_option maxRecDepth 100000
set_option maxHeartbeats 1000000
namespace My
open PySem PySem.Spec PyProof.Rows L2 PL FL
theorem all_d {K : PySem.W.Frag} {mg : Str → Option Value} {h : Heap} (X : K.In h) (G : h.Ns mainGlobals mg) (e_is_row : DX K "is_row" (top 1)) (e_is_word : DX K "is_word" (top 5)) (e_is_grown : DX K "is_grown" (top 6)) (e_is_great : DX K "is_great" (top 7)) (e_parts_of : DX K "parts_of" (top 9)) (e_leaves : DX K "leaves" (top 10)) (e_is_small : DXc K "is_small" (top 8) 42) (e__law_hand : DX K "_law_hand" (top 12)) (e__law_take : DX K "_law_take" (top 13)) (e__law_words : DX K "_law_words" (top 14)) (e__law_joined : DX K "_law_joined" (top 15)) (e__law_great : DX K "_law_great" (top 16)) (e__law_leaves : DX K "_law_leaves" (top 17)) (e__law_small : DX K "_law_small" (top 18)) (e__law_right : DX K "_law_right" (top 19)) {t_LONGEST_WORD : Tok} (c_LONGEST_WORD : PySem.W.nsIn K mainGlobals "LONGEST_WORD" = some (some (.int 8 t_LONGEST_WORD))) {t_LETTERS : Tok} (c_LETTERS : PySem.W.nsIn K mainGlobals "LETTERS" = some (some (.str "abcdefghijklmnopqrstuvwxyz" t_LETTERS))) (z_len : PySem.W.nsIn K mainGlobals "len" = some none) (z_isinstance : PySem.W.nsIn K mainGlobals "isinstance" = some none) (z_tuple : PySem.W.nsIn K mainGlobals "tuple" = some none) (z_str : PySem.W.nsIn K mainGlobals "str" = some none) (z_all : PySem.W.nsIn K mainGlobals "all" = some none) (z_list : PySem.W.nsIn K mainGlobals "list" = some none) (z_reversed : PySem.W.nsIn K mainGlobals "reversed" = some none) (z_abs : PySem.W.nsIn K mainGlobals "abs" = some none) (z_int : PySem.W.nsIn K mainGlobals "int" = some none) (z_range : PySem.W.nsIn K mainGlobals "range" = some none) (z_bool : PySem.W.nsIn K mainGlobals "bool" = some none) : AllD K mg d_law := by
  constructor
  rintro v rfl rfl D
  have q : ∀ b, NB (v.at b) := fun b => ⟨PySem.W.mg_none_of X G z_len, PySem.W.mg_none_of X G z_isinstance, PySem.W.mg_none_of X G z_tuple, PySem.W.mg_none_of X G z_str, PySem.W.mg_none_of X G z_all, PySem.W.mg_none_of X G z_list, PySem.W.mg_none_of X G z_reversed, PySem.W.mg_none_of X G z_abs, PySem.W.mg_none_of X G z_int, PySem.W.mg_none_of X G z_range, PySem.W.mg_none_of X G z_bool⟩
  replace c_LONGEST_WORD := PySem.W.mg_of X G c_LONGEST_WORD
  replace c_LETTERS := PySem.W.mg_of X G c_LETTERS
  obtain ⟨D_is_row⟩ := e_is_row.mk2 (d := d_is_row) X G
  have T_is_row : ∀ b, d_is_row.C (v.at b) := fun b => (D_is_row.at b).c (k_is_row (D_is_row.at b) (q b))
  obtain ⟨D_is_word⟩ := e_is_word.mk2 (d := d_is_word) X G
  have T_is_word : ∀ b, d_is_word.C (v.at b) := fun b => (D_is_word.at b).c (k_is_word (D_is_word.at b) (q b) c_LONGEST_WORD c_LETTERS)
  obtain ⟨D_is_grown⟩ := e_is_grown.mk2 (d := (d_is_grown 0 [] [] [] fun _ => .fail)) X G
  have T_is_grown__is_word : ∀ b, (d_is_grown D_is_word.f [] [] [] m_is_word).C (v.at b) := fun b => DI.c (v := v.at b) ⟨D_is_grown.f, D_is_grown.fd, D_is_grown.fn, D_is_grown.bi, D_is_grown.at'⟩ (have A := ((D_is_word.at b).cA (k_is_word (D_is_word.at b) (q b) c_LONGEST_WORD c_LETTERS)).mono (k' := 3) (by decide); k_is_grown (v := v.at b) (fa := D_is_word.f) (us := []) (qs := []) (fz := []) (is_leaf_ := m_is_word) ⟨D_is_grown.f, D_is_grown.fd, D_is_grown.fn, D_is_grown.bi, D_is_grown.at'⟩ A (T_is_row b))
  have H_is_grown : HF v.P v.w v.K v.mg 1 3 "is_grown" 4 ["thing", "is_leaf", "often"] fun fa us qs fz g => spF v.K [.v, .f fa us qs fz, .v] (unc 2 (m_is_grown_2 g)) := ⟨D_is_grown.f, D_is_grown.fd, D_is_grown.bi, D_is_grown.fn.kp, D_is_grown.at', fun {pl qs g} b fa us fz ⟨A⟩ => k_is_grown (v := v.at b) (fa := fa) (us := us) (qs := qs) (fz := fz) (is_leaf_ := g) ⟨D_is_grown.f, D_is_grown.fd, D_is_grown.fn, D_is_grown.bi, D_is_grown.at'⟩ A (T_is_row b)⟩
  obtain ⟨D_is_great⟩ := e_is_great.mk2 (d := d_is_great) X G
  have T_is_great : ∀ b, d_is_great.C (v.at b) := fun b => (D_is_great.at b).c (k_is_great (D_is_great.at b) D_is_word.at' (T_is_grown__is_word b))
  obtain ⟨D_parts_of⟩ := e_parts_of.mk2 (d := d_parts_of) X G
  have T_parts_of : ∀ b, d_parts_of.C (v.at b) := fun b => (D_parts_of.at b).c (k_parts_of (D_parts_of.at b) (q b))
  obtain ⟨D_leaves⟩ := e_leaves.mk2 (d := d_leaves) X G
  have T_leaves : ∀ b, d_leaves.C (v.at b) := fun b => (D_leaves.at b).c (k_leaves (D_leaves.at b) (q b) (T_parts_of b))
  obtain ⟨D_is_small, L_is_small⟩ := e_is_small.mk3 (d := d_is_small) X G
  have P_is_small : TabIs 42 "is_small.<locals>.<lambda>" := ⟨by decide +kernel, by decide +kernel⟩
  have T_is_small : ∀ b, d_is_small.C (v.at b) := fun b => (D_is_small.at b).c (k_is_small (D_is_small.at b) L_is_small P_is_small H_is_grown T_is_word (T_is_great b) (T_leaves b))
  obtain ⟨D__law_hand⟩ := e__law_hand.mk2 (d := d__law_hand) X G
  have T__law_hand : ∀ b, d__law_hand.C (v.at b) := fun b => (D__law_hand.at b).c (k__law_hand (D__law_hand.at b) (q b))
  obtain ⟨D__law_take⟩ := e__law_take.mk2 (d := d__law_take) X G
  have T__law_take : ∀ b, d__law_take.C (v.at b) := fun b => (D__law_take.at b).c (k__law_take (D__law_take.at b))
  obtain ⟨D__law_words⟩ := e__law_words.mk2 (d := d__law_words) X G
  have T__law_words : ∀ b, d__law_words.C (v.at b) := fun b => (D__law_words.at b).c (k__law_words (D__law_words.at b) (q b) (T__law_take b))
  obtain ⟨D__law_joined⟩ := e__law_joined.mk2 (d := d__law_joined) X G
  have T__law_joined : ∀ b, d__law_joined.C (v.at b) := fun b => (D__law_joined.at b).c (k__law_joined (D__law_joined.at b) (q b) (T__law_take b))
  obtain ⟨D__law_great⟩ := e__law_great.mk2 (d := d__law_great) X G
  have T__law_great : ∀ b, d__law_great.C (v.at b) := fun b => (D__law_great.at b).c (k__law_great (D__law_great.at b) (q b) (T__law_take b) (T__law_joined b) (T__law_words b))
  obtain ⟨D__law_leaves⟩ := e__law_leaves.mk2 (d := d__law_leaves) X G
  have T__law_leaves : ∀ b, d__law_leaves.C (v.at b) := fun b => (D__law_leaves.at b).c (k__law_leaves (D__law_leaves.at b) (q b) 12)
  obtain ⟨D__law_small⟩ := e__law_small.mk2 (d := d__law_small) X G
  have T__law_small : ∀ b, d__law_small.C (v.at b) := fun b => (D__law_small.at b).c (k__law_small (D__law_small.at b) (q b) (T__law_take b) (T__law_joined b))
  obtain ⟨D__law_right⟩ := e__law_right.mk2 (d := d__law_right) X G
  have T__law_right : ∀ b, d__law_right.C (v.at b) := fun b => (D__law_right.at b).c (k__law_right (D__law_right.at b) (q b) (T__law_leaves b) (T_is_small b))
  exact k_law D (q v.base) (T__law_hand v.base) (T__law_great v.base) (T__law_leaves v.base) (T__law_small v.base) (T__law_right v.base) (T_is_small v.base)
end My
open PySem PySem.W PyProof.Rows
structure PySem.W.Fast:Prop where(tw4909151650963324675 tw13131759129441631358 tw3089955375784924422 tw8535469818329120794 tw3107278600954473689 tw9802123579333809144 tw13823868264950923457 tw5012244058632566043 tw16113473484798925543 tw7635444549469982140 tw3852814527730037702 tw17829368012670542527 tw5520784887809616444 tw4503297189447394015 tw6845700928459323792 tw7411106951316966059 tw4867430340189087515 tw14311927940422945998 tw11012287650635580475 tw11045837064888159703 tw2159444262666098461 tw4863603278701428023 tw14525232695309527841 tw5753615456989182671 tw8730569911625918894 tw13859878106072585264 tw10015219649408298810 tw6655645902067104947 tw17268593707370879061 tw2126450233719416988 tw15056869868542816928 tw2220780787083249330 tw1392488794382036622 tw1322394831590006095 tw12370193949459824103 tw4435318163732238470 tw14483719313232210721 tw2029321802806562283 tw5299942905663321797 tw17557825671088873304 tw2727057950650644682 tw14356534310704603254 tw534923476346427494 tw10650410482053054002 tw14363645963748964384 tw16746164133128703567 tw5963039944123688678 tw13099934942114001299 tw17243873742995945612 tw17943343334725889553 tw11183913810124984685 tw7234357550585563309 tw5892628175981990176 tw5790931797692514528 tw16323230904328075086 tw15065700558707977839 tw10877786257779689411 tw14184847764476513660 tw3852960107973763152 tw15869531193856988679 tw13524295000877854228 tw12819418128868162966 tw904231452209072508 tw3010472756492778710 tw16419025186509943841 tw11933293449295855003 tw11875818575540189664 tw3237408273100500527 tw14001189991871382325 tw8969554274940372227 tw5258673659374341369 tw13191684904717195283 tw2238244518237197335 tw15967729451410053644 tw7711720790130179725 tw2393413953272701331 tw10568725951499872023 tw863587524470829835 tw13906275769728740382 tw4501212874517460307 tw6703790028423265581 tw2335842050290821030 tw9272637292031331653 tw3062578445097270959 tw8531201217027555971 tw17862909627180237653 tw7402967939281280782 tw4544971944832821576 tw2965472437204423751 tw13365891278995671319 tw7140020962781717058 tw18106652437313696054 tw4848962273066079200 tw15652275218326747841 tw12876423611892831758 tw3067069121099313225 tw11227033972851100749 tw16201988661713945952 tw9319601271134632243 tw6286000480012422023 tw17938800274090170475 tw7591536807810216360:True)
def PySem.W.Fast.tw13699540664898421009:=PySem.Challenge.pw_treewithin_k05_what_is_a_small_tree
theorem PySem.W.Fast.te13699540664898421009:PySem.Challenge.pw_treewithin_k05_what_is_a_small_tree=PySem.W.Fast.tw13699540664898421009:=rfl
set_option maxRecDepth 100000 in
set_option maxHeartbeats 0 in
theorem PySem.Challenge.cw_treewithin_k05_what_is_a_small_tree_holds : PySem.Challenge.rw_treewithin_k05_what_is_a_small_tree.Holds := by
  w_on; o_law; k_head; (case hw => w_witness2)
  k_fill
  refine FL.walkT (l := PySem.Challenge.rw_treewithin_k05_what_is_a_small_tree) (k := 14) rfl rfl ⟨rfl, by decide, by decide, rfl⟩ (fun w h Y => ⟨PySem.W.km_in_of Y, PySem.W.km_tabs_of Y⟩) ?K ?C ?F
  case K =>
    intro w P hP
    have hP : P ∈ [42] := hP
    simp only [List.mem_cons, List.not_mem_nil, or_false] at hP
    rcases hP with rfl
    all_goals first | rfl | k_is
  case C =>
    intro w h hK P hP
    have hP : P ∈ [42] := hP
    simp only [List.mem_cons, List.not_mem_nil, or_false] at hP
    rcases hP with rfl
    · (refine' FL.DXc.tab (x := "is_small") (st := My.top 8) (FL.dxc ?a ?l ?h ?k ?e ?z) hK; (case a => k_is); (case l => k_is); (case h => k_is); (case k => k_is); (case e => k_is); (case z => exact ⟨_, _, _, _, _, _, _, rfl, rfl, rfl, rfl, rfl, rfl, by decide⟩))
  case F =>
    intro w mg fa h KX G hmg
    have e8_is_small := FL.forK (fun K => FL.DXc K "is_small" (My.top 8) 42) KX (by
      show FL.DXc _ _ _ _
      refine' FL.dxc ?a ?l ?h ?k ?e ?z
      case a => k_is
      case l => k_is
      case h => k_is
      case k => k_is
      case e => k_is
      case z => exact ⟨_, _, _, _, _, _, _, rfl, rfl, rfl, rfl, rfl, rfl, by decide⟩)
    refine' FL.mkAll (st := My.top 20) (k := 14) My.law05_ok KX G hmg ?e (fun _ _ _ _ _ _ => FL.usN fun _ => rfl) (My.all_d KX G (e_is_small := e8_is_small) ..)
    all_goals try first | (refine' FL.dx ?a ?l ?c ?k; (case a => k_is); (case l => k_is); (case c => k_is); (case k => k_is)) | k_is
#print axioms PySem.Challenge.cw_treewithin_k05_what_is_a_small_tree_holds
