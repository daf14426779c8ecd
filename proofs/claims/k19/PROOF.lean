import PyProof.Rows.All
import Wide.All
import OpenK.AllK
import Wide.FinOn
import Lean
import PyProof.EqAt
import PyProof.EqKinds
import PyProof.TupleCall
import PyProof.NeKinds
import PyProof.FactsAll.tuple_2
import PyProof.FactsAll.str_0
import PyProof.FactsAll.str_1
import PyProof.FactsAll.str_2
import PyProof.FactsAll.str_3
import PyProof.Rows.MinMaxN
import PyProof.Rows.SumAny
import PyProof.Rows.SetFrom
import PyProof.ReprRoads
import PyProof.Rows.StrKeys3
import PyProof.CallFns
import KE.KSortTup
import KE.KDictSum
import PySem.Challenge.RW_treewithin_k19_ways_counted_and_priced
open PySem.W renaming Frag -> Aa, mg_none_of -> AA, nsIn -> AN, kia_one -> A4, kitOne -> Bo, fnOf -> B7, keepIn -> DC, codeIn -> DE, methodObj -> DT, kitx_list -> DU, kitx_dict -> DV, mg_of -> D4, cellsFrom_some -> Eo, instObj -> EB, OpenLaw -> EC, lookIn -> ES, kitx_tuple -> Fc, plainGet -> Fo
open PySem renaming wpAny_bind -> Ab, wpAny_pure -> Ah, wpAny_callSpecial?_slot -> AM, wpAny_field -> AV, wpAny_setField_rec -> AZ, wpAny_call_entry -> Bf, wpAny_newObj_type -> Bh, wpAny_holding -> Bi, wpAny_seqItems -> Bu, wpAny_truthy_bool -> BB, mem_of_lookup -> BF, wpAny_Call_Name_kw -> BN, wpAny_typeNameOfWhole_keyiter -> BQ, wpAny_mono -> BU, wpAny_passesOwn -> B5, wpAny_typeOf -> B9, wpAny_typeNameOf_keyiter -> Cc, wpAny_of_eq -> Ci, wpAny_pyIter_tuple -> Cj, wpAny_pyIter_list -> Cr, wpAny_attempt -> CB, wpAny_rule -> CF, wpAny_pyIter_enum -> CP, wpAny_newTuple -> CS, wpAny_isInstance -> C5, wpAny_updateSeq_pair -> Dh, wpAny_letGo -> Di, wpAny_updateSeq -> Dq, wpAny_specialOf -> Dr, wpAny_execs_nil -> Ds, wpAny_setField -> DK, wpAny_letOwnedTupleGo_enum -> DL, wpAny_sequenceKey -> DY, wpAny_dictEntries -> DZ, wpAny_standAt -> D8, wpAny_onRaise -> D9, wpAny_comprehension_free -> Ea, wpAny_dictEpoch -> EG, wpAny_listPart -> EX, call -> Fw
open List renaming length_append -> Ad, getElem?_eq_getElem -> Ae, length_map -> Af, size_toArray -> Ag, getElem?_map -> Ai, getElem?_eq_some_iff -> Aj, replicate -> Al, length_cons -> Aq, getD_eq_getElem?_getD -> Ar, map_cons -> Au, mem_cons -> Av, getElem?_append_right -> Ay, getElem?_append_left -> Az, mem_map -> AB, mem_filter -> AG, range -> AH, mem_range -> AL, length_filter_le -> AO, getElem?_eq_none -> AQ, mem_cons_of_mem -> AW, mem_append_right -> AY, map_append -> A1, mem_append -> A2, length_replicate -> A3, mem_of_getElem? -> A5, map_map -> A6, append_assoc -> A7, mem_singleton -> Ba, lookup_cons -> Bg, drop_eq_getElem_cons -> Bj, replicate_succ -> Bl, getElem?_replicate -> Bn, mem_cons_self -> Bp, getElem?_set_ne -> Bq, not_mem_nil -> Bs, filterMap_cons -> Bt, find?_cons -> Bx, idxOf_lt_length_of_mem -> BA, take_of_length_le -> BC, getElem?_set_self -> BD, ext_getElem? -> BE, length_nil -> BG, length -> BH, forIn_cons -> BI, pairwise_iff_getElem -> BJ, any_eq_true -> BO, length_range -> BR, flatten_cons -> BS, length_set -> BV, getElem?_range -> BX, length_take -> B1, any_cons -> Ce, length_reverse -> Cf, mem_append_left -> Cs, getElem?_of_mem -> Ct, map_nil -> Cu, length_drop -> Cv, mergeSort_perm -> Cy, nil_append -> CC, mem_filterMap -> CG, countP_append -> CH, take_succ -> CV, reverse_cons -> CW, pairwise_lt_range -> CY, nodup_append -> CZ, replicate_append_replicate -> C1, take_length -> C7, filter_cons -> C8, countP_cons -> C9, getElem_toArray -> Dj, eq_nil_of_length_eq_zero -> Dk, nodup_cons -> Du, append_nil -> Dv, reverse_append -> Dy, pairwise_cons -> DN, forIn_nil -> DP, filter_append -> DQ, pairwise_map -> D2, length_erase_of_mem -> Eb, pairwise_mergeSort -> Ee, mem_flatMap -> Ef, length_eq_zero_iff -> Eg, isEmpty_map -> Eh, getElem_mem -> Ei, getElem_inj -> Ej, drop_length -> Ek, all_eq_true -> El, map_set -> Eu, length_pos_of_mem -> Ew, filter_eq_nil_iff -> Ex, drop_eq_nil_of_le -> Ey, of_mem_zip -> EI, set_append_right -> EM, length_singleton -> EN, getElem?_toArray -> EO, nodup_nil -> EZ, map -> E1, map_eq_nil_iff -> E4, map_congr_left -> E5, length_pos_iff -> E6, getElem_of_mem -> E7, flatMap_append -> E8
open PySem.Heap renaming get?_push_of_some -> Ak, get?_push_size -> An, lt_size -> Ao, SameBut -> BZ, size_push -> Cg, get?_update_self -> Co, get?_update_other -> CN, ExtBut -> Ft
open Nat renaming le_refl -> Am, lt_of_lt_of_le -> Ax, ne_of_lt -> AJ, zero_add -> AU, lt_irrefl -> AX, add_assoc -> A9, zero_le -> Bd, le_trans -> Bm, le_add_right -> Br, sub_self -> Ca, add_sub_cancel_left -> CJ, lt_or_ge -> CU, lt_succ_self -> C6, le_of_lt -> DB, eq_or_lt_of_le -> DM, lt_succ_of_lt -> D1, sub_zero -> Et, strongRecOn -> EH, le_of_ble_eq_true -> EL, sub_sub -> EY, succ_mul -> Fj, succ -> Fm
open Bool renaming false_eq_true -> Ap, and_eq_true -> AE, false_ne_true -> AI, not_true -> Cn, eq_iff_iff -> Dw, not_false -> DR, and_false -> DS, or_eq_true -> EJ, false_and -> E2, true_and -> Fb
open PySem.Value renaming ref -> Aw, none -> Be, type -> BL, bool -> B2, int -> C2, str -> Fp
open PySem.PassesOwn renaming never -> AD
open Int renaming toNat_natCast -> AR, emod_lt_of_pos -> BP, emod_nonneg -> BW, le_refl -> Dl, eq_ofNat_of_zero_le -> Em, zero_add -> Ez
open PySem.NameKind renaming free -> A8, cell -> E9
open PyProof.Rows renaming callWith_type1 -> Bb, slot_tuple_getitem -> Bc
open False renaming elim -> Bk
open PySem.F renaming slot_dict_keyiterator_next -> Bv, plainAttrs_list -> Bz, slot_tuple_iterator_next -> B3, slot_enumerate_next -> Cp, args_tuple_add_2 -> Cz, slot_list_getattribute -> CA, entry_tuple_add -> CI, slot_tuple_add -> CO, args_dict_keyiterator_next_1 -> C3, entry_dict_keyiterator_next -> Dc, args_list_extend_2 -> De, slot_zip_next -> Dm, args_tuple_iterator_next_1 -> Dn, entry_list_extend -> Dx, entry_tuple_iterator_next -> DA, slot_list_extend -> DH, type_list_append -> D6, slot_list_append -> D7, args_enumerate_next_1 -> Ec, entry_enumerate_next -> Ep
open Ne renaming symm -> Bw
open True renaming intro -> BK
open PySem.AutoSeq1 renaming wpAny_loadPart' -> BM, sub_tuple_tuple -> C4, sub_tuple_list -> Df, sub_list_tuple -> Dg, sub_list_list -> Dp, idx_int -> Es
open PySem.Calls renaming spliced_cons -> B4, spliced_nil -> Cq, Name_function_global -> DJ, callWith_builtin -> Er
open ForInStep renaming yield -> B6
open PySem.Str renaming ofString -> B8, length_append -> CM, cps_append -> ET
open PySem.Obj renaming mapSeq -> Cb, data_mapFields -> CD, isFreed_of_fields -> EK
open Or renaming inr -> Cd, inl -> Ck
open Option renaming map_some -> Cm, map_eq_some_iff -> CT, getD_none -> Ed, isSome_map -> Fi
open Array renaming getElem?_eq_getElem -> Cw, length_toList -> Dz, size_append -> D3, getElem?_eq_none -> EA, getElem?_toList -> ER
open And renaming right -> CK
open PySem.SeqAt.RcNeAt renaming lists_lengths -> DG, lists -> Fd
open PySem.EqBoolInt renaming of_rcne -> DW, of_rc -> EE
open PySem.SeqAt.RcAt renaming lists_lengths -> D5, lists -> Fq
open Sum renaming inr -> En, inl -> E3
open PySem.SeqAt.EqAt renaming same -> ED, str_int -> Fe, of_refs -> Ff, int_str -> Fg
open PySem.Data renaming seq -> EU
open PySem.Around renaming under_plainId -> EW
open PySem.SeqAt renaming EqAt -> Fh
open PySem.IsL renaming isList -> Fs
open PySem.Flow renaming ret -> Fu
open PySem.Fin renaming done -> Fv
set_option Elab.async false
set_option linter.all false
set_option maxRecDepth 100000
set_option maxHeartbeats 1000000
namespace L2
open PySem PySem.Spec PyProof.Rows
abbrev Key:=Sum Int Str
def w9:Key->Value->Bool
 | .inl k,v=>Value.isInt k v
 | .inr x,v=>Value.isStrOf x v
def adj (w:World):Key->Int
 | .inl k=>hashInt k
 | .inr x=>hashStr w x
def ck:∀{k:Key}{v:Value},w9 k v=true->(∃i t,k=E3 i/\v=C2 i t)\/(∃x t,k=En x/\v=Fp x t)
 | .inl i,v,h=>by
  obtain⟨t,e⟩:=Value.isInt_shape (k:=i) (v:=v) h;exact .inl ⟨i,t,rfl,e⟩
 | .inr x,v,h=>by
  obtain⟨t,e⟩:=Value.isStrOf_shape (x:=x) (v:=v) h;exact .inr ⟨x,t,rfl,e⟩
def LN (i:Int) (t:Tok):w9 (.inl i) (.int i t)=true:=by simp [w9,Value.isInt]
def LM (x:Str) (t:Tok):w9 (.inr x) (.str x t)=true:=by simp [w9,Value.isStrOf]
def Wj (a b:Int):decide ((E3 a:Key)=E3 b)=(a==b):=by
 by_cases e:a=b
 ·subst e;simp
 ·have h:¬(E3 a:Key)=E3 b:=fun q=>e (E3.inj q);rw [decide_eq_false h];exact (beq_eq_false_iff_ne.mpr e).symm
def Wf (a b:Str):decide ((En a:Key)=En b)=decide (a=b):=by
 by_cases e:a=b
 ·subst e;simp
 ·have h:¬(En a:Key)=En b:=fun q=>e (En.inj q);rw [decide_eq_false h,decide_eq_false e]
def Wh (a:Int) (b:Str):decide ((E3 a:Key)=En b)=false:=decide_eq_false (fun q=>nomatch q)
def Wg (a:Str) (b:Int):decide ((En a:Key)=E3 b)=false:=decide_eq_false (fun q=>nomatch q)
def bI (prog:Program) (w:World):PySem.KeyKind prog w Key where
 is:=w9
 hash:=adj w
 inj:=fun v a b ha hb=>by
  rcases ck ha with⟨i,t,rfl,rfl⟩ | ⟨x,t,rfl,rfl⟩
  ·rcases ck hb with⟨j,u,rfl,e⟩ | ⟨y,u,rfl,e⟩
   ·injection e with e1 _;rw [e1]
   ·exact nomatch e
  ·rcases ck hb with⟨j,u,rfl,e⟩ | ⟨y,u,rfl,e⟩
   ·exact nomatch e
   ·injection e with e1 _;rw [e1]
 byValue:=fun k v h=>by
  rcases ck h with⟨i,t,rfl,rfl⟩ | ⟨x,t,rfl,rfl⟩ <;> rfl
 pyHash:=fun hv h=>by
  rcases ck hv with⟨i,t,rfl,rfl⟩ | ⟨x,t,rfl,rfl⟩
  ·exact wpAny_pyHash_int h
  ·exact wpAny_pyHash_str h
 eqBool:=fun hu hv h=>by
  rcases ck hu with⟨i,t,rfl,rfl⟩ | ⟨x,t,rfl,rfl⟩
  ·rcases ck hv with⟨j,u,rfl,rfl⟩ | ⟨y,u,rfl,rfl⟩
   ·rw [Wj] at h;exact wpAny_eqBool_int h
   ·rw [Wh] at h;exact Fg i t y u _ _ _ _ h
  ·rcases ck hv with⟨j,u,rfl,rfl⟩ | ⟨y,u,rfl,rfl⟩
   ·rw [Wg] at h;exact Fe x t j u _ _ _ _ h
   ·rw [Wf] at h;exact wpAny_eqBool_str h
 «strs»:=fun k x t v h=>by
  rcases ck h with⟨i,u,rfl,e⟩ | ⟨y,u,rfl,e⟩
  ·exact nomatch e
  ·injection e with e1 _;subst e1;cases v <;> rfl
def Gn (prog:Program) (w:World) (i:Int) (t:Tok):(bI prog w).is (.inl i) (.int i t)=true:=LN i t
def Gm (prog:Program) (w:World) (x:Str) (t:Tok):(bI prog w).is (.inr x) (.str x t)=true:=LM x t
inductive V where
 | aU | bl (b:Bool) | int (i:Int) | str (x:Str) | Xj (b:Array UInt8) | XY (b:UInt64) | ref (a:Addr) | ty (n:String)
 deriving DecidableEq
def RelV:V->Value->Prop
 | .aU,u=>u=Be
 | .bl b,u=>u=B2 b
 | .int i,u=>∃t,u=C2 i t
 | .str x,u=>∃t,u=Fp x t
 | .Xj b,u=>∃t,u=Value.bytes b t
 | .XY b,u=>∃t,u=Value.float b t
 | .ref a,u=>u=Aw a
 | .ty n,u=>u=BL n
abbrev Vals:List V->List Value->Prop:=Paired RelV
def Vals.length {xs:List V}{us:List Value} (r:Vals xs us):xs.length=us.length:=Paired.length r
theorem Vals.get:∀{xs:List V}{us:List Value}{i:Nat}{x:V},Vals xs us->xs[i]?=some x->∃u,us[i]?=some u/\RelV x u
 | _,_,_,_,.nil,e=>by simp at e
 | _,_,0,_,.cons r _,e=>by simp at e;subst e;exact⟨_,rfl,r⟩
 | _,_,i+1,x,.cons _ t,e=>by
  obtain⟨u,h1,h2⟩:=Vals.get (i:=i) (x:=x) t (by simpa using e);exact⟨u,by simpa using h1,h2⟩
theorem Vals.set {x:V}{u:Value} (r:RelV x u):∀{xs:List V}{us:List Value} (i:Nat),Vals xs us->Vals (xs.set i x) (us.set i u)
 | _,_,_,.nil=>.nil
 | _,_,0,.cons _ t=>.cons r t
 | _,_,i+1,.cons q t=>.cons q (Vals.set r i t)
theorem Vals.append:∀{xs ys:List V}{us ws:List Value},Vals xs us->Vals ys ws->Vals (xs++ys) (us++ws)
 | _,_,_,_,.nil,s=>s
 | _,_,_,_,.cons r t,s=>.cons r (Vals.append t s)
theorem Vals.take:∀{xs:List V}{us:List Value} (n:Nat),Vals xs us->Vals (xs.take n) (us.take n)
 | _,_,0,_=>.nil
 | _,_,_+1,.nil=>.nil
 | _,_,n+1,.cons r t=>.cons r (Vals.take n t)
theorem Vals.drop:∀{xs:List V}{us:List Value} (n:Nat),Vals xs us->Vals (xs.drop n) (us.drop n)
 | _,_,0,r=>r
 | _,_,_+1,.nil=>.nil
 | _,_,n+1,.cons _ t=>Vals.drop n t
def vf:Option V->Option Value->Prop
 | some v,some u=>RelV v u
 | none,none=>True
 | _,_=>False
def KV {κ:Type}:List (κ×V)->List (κ×Value)->Prop:=Paired fun (p:κ×V) (q:κ×Value)=>p.1=q.1/\RelV p.2 q.2
def kV:Key->V
 | .inl i=>.int i
 | .inr x=>.str x
inductive HO where
 | lst (xs:List V)
 | tup (xs:List V)
 | dK (kvs:List (Key×V)) | dT (kvs:List (List Key×V))
 | set (S:Int->Bool) (n:Nat)
 | ins (C dx:Addr) (fs:List (Str×V))
 | own (x:Addr)
 | xd (fs:List (Str×V))
 | met (f x:Addr)
 | rng (lo hi:Int)
 | c7 (o:Obj) (u:HO)
 | UY (ps:Array Value)
 | ext (φ:Heap->Prop)
abbrev Hp:=Addr->Option HO
def upd (H:Hp) (a:Addr) (o:HO):Hp:=fun b=>if b=a then some o else H b
def aM {H:Hp}{a:Addr}{o:HO}:upd H a o a=some o:=by unfold upd;rw [if_pos rfl]
def av {H:Hp}{a b:Addr}{o:HO} (h:b≠a):upd H a o b=H b:=by unfold upd;rw [if_neg h]
def J4 {H:Hp}{a b:Addr}{o u:HO} (h:H a=some o) (h':H b=some u) (d:o≠u):a≠b:=by
 intro e;subst e;rw [h] at h';exact d (Option.some.inj h')
def bK {H:Hp}{a b:Addr}{o:HO} (h:H a=some o) (h':H b=none):a≠b:=by
 intro e;subst e;rw [h] at h';cases h'
section
variable (P:Program) (w:World)
def bh (H:Hp) (h:Heap) (a:Addr):HO->Prop
 | .lst xs=>xs.length<=sizeLine/\∃(ar:List Value) (n:Nat),Vals xs ar/\h.get? a=some {cls:=.type "list",data:=.seq ar.toArray n}
 | .tup xs=>xs.length<=sizeLine/\∃ar:List Value,Vals xs ar/\IsTup h a ar.toArray
 | .dK kvs=>kvs.length<=sizeLine/\(a==sysModules)=false/\∃vs,KV kvs vs/\h.DictOf (bI P w) a vs
 | .dT kvs=>kvs.length<=sizeLine/\(a==sysModules)=false/\∃xs:List (List Key×Addr×Value),
   Paired (fun (p:List Key×V) (q:List Key×Addr×Value)=>p.1=q.1/\H q.2.1=some (.tup (p.1.map kV))/\RelV p.2 q.2.2) kvs xs/\
   ∃o es ep,h.get? a=some o/\o.ExactDict/\o.data=.dict es ep/\es.toList=xs.map (entryOfKey (tupleKind (bI P w)))/\(xs.map (·.1)).Nodup
 | .set S n=>h.SetOf (intKind P w) a S n
 | .ins C dx fs=>H dx=some (.own a)/\fs.length<=1000/\dx≠a/\h.get? a=some (EB C dx)/\
   ∃mA,h.Ns1 dx mA/\(∀f,vf (fs.lookup f) (mA f))/\PySem.Within mA (fs.map (·.1))
 | .own _=>∃o,h.get? a=some o
 | .xd fs=>∃mA,h.Ns1 a mA/\∀f,vf (fs.lookup f) (mA f)
 | .rng lo hi=>∃t u v,h.get? a=some {cls:=.type "range",data:=.fields #[.int lo t,.int hi u,.int 1 v]}
 | .c7 o u=>h.get? a=some o/\bh H h a u
 | .UY ps=>h.get? a=some {cls:=.none,data:=.fields ps}
 | .met f x=>h.get? a=some (DT (.ref f) (.ref x))
 | .ext φ=>φ h/\(∃o,h.get? a=some o)/\∀h1 h2:Heap,φ h1->(∀o,h1.get? a=some o->h2.get? a=some o)->φ h2
def mH (H:Hp) (h:Heap):Prop:=∀a o,H a=some o->bh P w H h a o
end
section
variable {P:Program}{w:World}{H H':Hp}{h h':Heap}{a:Addr}{o:HO}
def bh.lt (x:bh P w H h a o):a < h.objs.size:=by
 cases o with
 | lst xs=>obtain⟨_,_,_,_,e⟩:=x;exact Ao e
 | tup xs=>obtain⟨_,_,_,p⟩:=x;exact p.lt
 | dK kvs=>obtain⟨_,_,_,_,o,_,_,e,_⟩:=x;exact Ao e
 | dT kvs=>obtain⟨_,_,_,_,o,_,_,e,_⟩:=x;exact Ao e
 | set S n=>obtain⟨o,_,_,_,e,_⟩:=x;exact Ao e
 | ins C dx fs=>obtain⟨_,_,_,e,_⟩:=x;exact Ao e
 | own y=>obtain⟨_,e⟩:=x;exact Ao e
 | xd fs=>obtain⟨_,⟨_,_,_,e,_⟩,_⟩:=x;exact Ao e
 | rng lo hi=>obtain⟨_,_,_,e⟩:=x;exact Ao e
 | c7 ob u=>obtain⟨e,_⟩:=x;exact Ao e
 | UY ps=>exact Ao (show h.get? a=some _ from x)
 | met f y=>exact Ao (show h.get? a=some _ from x)
 | ext φ=>obtain⟨_,⟨_,e⟩,_⟩:=x;exact Ao e
theorem Paired.V0 {α β:Type}{F G:α->β->Prop}:∀{l₁:List α}{l₂:List β},Paired F l₁ l₂->(∀a b,F a b->G a b)->Paired G l₁ l₂
 | _,_,.nil,_=>.nil
 | _,_,.cons r t,f=>.cons (f _ _ r) (Paired.V0 t f)
def bh.xX (x:bh P w H h a o) (k:∀b u,(b=a\/H b=some (.own a))->h.get? b=some u->h'.get? b=some u)
  (ho:∀b,H b=some (.own a)->H' b=some (.own a)) (ht:∀b xs,H b=some (.tup xs)->H' b=some (.tup xs)):bh P w H' h' a o:=by
 induction o with
 | lst xs=>obtain⟨z,ar,n,r,e⟩:=x;exact⟨z,ar,n,r,k _ _ (.inl rfl) e⟩
 | tup xs=>obtain⟨z,ar,r,ob,e,c⟩:=x;exact⟨z,ar,r,ob,k _ _ (.inl rfl) e,c⟩
 | dK kvs=>obtain⟨z,y,vs,r,ob,es,ep,e,c⟩:=x;exact⟨z,y,vs,r,ob,es,ep,k _ _ (.inl rfl) e,c⟩
 | dT kvs=>
  obtain⟨z,y,xs,r,ob,es,ep,e,c⟩:=x;exact⟨z,y,xs,Paired.V0 r fun p q z=>⟨z.1,ht _ _ z.2.1,z.2.2⟩,ob,es,ep,k _ _ (.inl rfl) e,c⟩
 | set S n=>obtain⟨ob,es,ep,t,e,c⟩:=x;exact⟨ob,es,ep,t,k _ _ (.inl rfl) e,c⟩
 | ins C dx fs=>
  obtain⟨d,z,ne,e,mA,⟨od,es,ep,e2,c⟩,r⟩:=x;exact⟨ho _ d,z,ne,k _ _ (.inl rfl) e,mA,⟨od,es,ep,k _ _ (.inr d) e2,c⟩,r⟩
 | own y=>obtain⟨ob,e⟩:=x;exact⟨ob,k _ _ (.inl rfl) e⟩
 | xd fs=>obtain⟨mA,⟨od,es,ep,e,c⟩,r⟩:=x;exact⟨mA,⟨od,es,ep,k _ _ (.inl rfl) e,c⟩,r⟩
 | rng lo hi=>obtain⟨t,u,v,e⟩:=x;exact⟨t,u,v,k _ _ (.inl rfl) e⟩
 | c7 ob u ih=>obtain⟨e,q⟩:=x;exact⟨k _ _ (.inl rfl) e,ih q⟩
 | UY ps=>
  have e:h.get? a=some {cls:=.none,data:=.fields ps}:=x;show h'.get? a=some {cls:=.none,data:=.fields ps};exact k a _ (.inl rfl) e
 | met f y=>
  have e:h.get? a=some (DT (.ref f) (.ref y)):=x;show h'.get? a=some (DT (.ref f) (.ref y));exact k a _ (.inl rfl) e
 | ext φ=>obtain⟨p,⟨o,e⟩,st⟩:=x;exact⟨st _ _ p fun o q=>k _ _ (.inl rfl) q,⟨o,k _ _ (.inl rfl) e⟩,st⟩
def mH.lt (x:mH P w H h) (e:H a=some o):a < h.objs.size:=(x a o e).lt
def mH.fresh (x:mH P w H h) (e:h.objs.size<=a):H a=none:=by
 cases q:H a with
 | none=>rfl
 | some u=>exact absurd (Ax (x.lt q) e) (AX _)
def mH.kept (x:mH P w H h) (k:∀b u,h.get? b=some u->h'.get? b=some u):mH P w H h':=fun a o e=>
 (x a o e).xX (fun b u _ q=>k b u q) (fun _ q=>q) fun _ _ q=>q
def mH.laid (x:mH P w H h) (k:∀b u,h.get? b=some u->h'.get? b=some u) (hp:h.objs.size<=a) (new:bh P w (upd H a o) h' a o):mH P w (upd H a o) h':=fun b u e=>by
 have hn:=x.fresh hp;by_cases hb:b=a
 ·subst hb;rw [aM] at e;cases e;exact new
 ·rw [av hb] at e;exact (x b u e).xX (fun c v _ q=>k c v q) (fun c q=>by rw [av (bK q hn)];exact q) fun c xs q=>by rw [av (bK q hn)];exact q
end
def Rd (H:Hp) (a:Addr) (u:HO):Prop:=H a=some u\/∃o,H a=some (.c7 o u)
def Rd.ok {P:Program}{w:World}{H:Hp}{h:Heap}{a:Addr}{u:HO} (r:Rd H a u) (x:mH P w H h):bh P w H h a u:=by
 rcases r with r | ⟨o,r⟩
 ·exact x a u r
 ·obtain⟨_,q⟩:=x a _ r;exact q
def Mut:Option HO->Prop
 | some (.lst _)=>True
 | some (.dK _)=>True
 | some (.dT _)=>True
 | some (.set _ _)=>True
 | some (.ins _ _ _)=>True
 | some (.ext _)=>True
 | _=>False
section
variable {P:Program}{w:World}{H:Hp}{h h':Heap}{x e:Addr}{o':HO}
def mH.write (ok:mH P w H h) (mu:Mut (H x)) (he:e=x\/H e=some (.own x)) (k:∀b u,b≠e->h.get? b=some u->h'.get? b=some u) (XO:∃u,h'.get? e=some u)
  (new:bh P w (upd H x o') h' x o'):mH P w (upd H x o') h':=fun b u q=>by
 have N5:∀c y,H c=some (.own y)->c≠x:=fun c y r z=>by subst z;rw [r] at mu;exact mu
 have acZ:∀c xs,H c=some (.tup xs)->c≠x:=fun c xs r z=>by subst z;rw [r] at mu;exact mu
 by_cases hb:b=x
 ·subst hb;rw [aM] at q;cases q;exact new
 ·rw [av hb] at q;by_cases WD:b=e
  ·have q':H b=some (.own x):=by
    rcases he with z | z
    ·exact absurd (WD.trans z) hb
    ·rw [WD];exact z
   rw [q] at q';cases q';obtain⟨v,hv⟩:=XO;exact⟨v,by rw [WD];exact hv⟩
  ·refine (ok b u q).xX (fun c v hc r=>k c v ?_ r) (fun c r=>by rw [av (N5 c b r)];exact r) fun c xs r=>by rw [av (acZ c xs r)];exact r
   rcases hc with rfl | hc
   ·exact WD
   ·rintro rfl;rcases he with z | z
    ·exact N5 c b hc z
    ·rw [hc] at z;cases z;exact hb rfl
end
structure Un (fs ex:List Addr) (H H':Hp) (h h':Heap):Prop where
 keep:∀b o,h.get? b=some o->H b=none->b∉fs->b∉ex->h'.get? b=some o
 slot:∀b o,h.get? b=some o->H b=none->b∈fs->b∉ex->∃sl,h'.get? b=some {o with slots:=sl}
 free:∀b o,h.get? b=some o->H b=none->b∉ex->H' b=none
 there:∀b o,h.get? b=some o->b∉ex->∃o',h'.get? b=some o'
 eT:∀b xs,H b=some (.tup xs)->H' b=some (.tup xs)
 rT:∀b o u,H b=some (.c7 o u)->H' b=some (.c7 o u)
 xQ:∀b ps,H b=some (.UY ps)->∃more,H' b=some (.UY (ps++more))
section
variable {fs ex:List Addr}{H H1:Hp}{h h1 h':Heap}{a x e:Addr}{o:HO}
def Un.any (u:Un fs ex H H1 h h1) {b:Addr}{ob:Obj} (q:h.get? b=some ob) (n:H b=none) (hx:b∉ex):∃sl,h1.get? b=some {ob with slots:=sl}:=by
 by_cases hb:b∈fs
 ·exact u.slot b ob q n hb hx
 ·exact⟨ob.slots,u.keep b ob q n hb hx⟩
def Un.kept (k:∀b u,h.get? b=some u->h'.get? b=some u):Un fs ex H H h h':=
 ⟨fun b ob q _ _ _=>k b ob q,fun b ob q _ _ _=>⟨ob.slots,k b ob q⟩,fun _ _ _ n _=>n,fun b ob q _=>⟨ob,k b ob q⟩,fun _ _ q=>q,fun _ _ _ q=>q,fun _ ps q=>⟨#[],by rw [q];simp⟩⟩
def Un.refl:Un fs ex H H h h:=Un.kept fun _ _ q=>q
def Un.laid (k:∀b u,h.get? b=some u->h'.get? b=some u) (hp:h.objs.size<=a) (hn:H a=none):Un fs ex H (upd H a o) h h' where
 keep:=fun b u q _ _ _=>k b u q
 slot:=fun b u q _ _ _=>⟨u.slots,k b u q⟩
 free:=fun b u q n _=>by rw [av (AJ (Ax (Ao q) hp))];exact n
 there:=fun b u q _=>⟨u,k b u q⟩
 eT:=fun b xs q=>by rw [av (bK q hn)];exact q
 rT:=fun b u xs q=>by rw [av (bK q hn)];exact q
 xQ:=fun b ps q=>⟨#[],by rw [av (bK q hn),q];simp⟩
def Un.write (mu:Mut (H x)) (he:e=x\/H e=some (.own x)) (k:∀b u,b≠e->h.get? b=some u->h'.get? b=some u) (XO:∃u,h'.get? e=some u):Un fs ex H (upd H x o) h h':=by
 have hx:∀b,H b=none->b≠x:=fun b n z=>by subst z;rw [n] at mu;exact mu
 have hb:∀b,H b=none->b≠e:=fun b n z=>by
  subst z;rcases he with r | r
  ·exact hx b n r
  ·rw [n] at r;cases r
 have hm:∀b u,H b=some u->¬Mut (some u)->b≠x:=fun b u q nm z=>by subst z;rw [q] at mu;exact nm mu
 refine⟨fun b u q n _ _=>k b u (hb b n) q,fun b u q n _ _=>⟨u.slots,k b u (hb b n) q⟩,fun b u q n _=>by rw [av (hx b n)];exact n,fun b u q _=>?_,
  fun b xs q=>by rw [av (hm b _ q fun z=>z)];exact q,fun b u xs q=>by rw [av (hm b _ q fun z=>z)];exact q,fun b ps q=>⟨#[],by rw [av (hm b _ q fun z=>z),q];simp⟩⟩
 by_cases WD:b=e
 ·subst WD;exact XO
 ·exact⟨u,k b u WD q⟩
end
def trk (h:Heap) (H:Hp):List Addr:=(AH h.objs.size).filter fun a=>(H a).isSome
def yW (h:Heap) (H:Hp):Heap:=PySem.W.hideAll h (trk h H)
def L1 (h:Heap) (H:Hp):(yW h H).objs.size=h.objs.size:=PySem.W.hideAll_size _ _
def O0 {h:Heap}{H:Hp}{b:Addr}{o:Obj} (e:h.get? b=some o) (n:H b=none):(yW h H).get? b=some o:=
 PySem.W.hideAll_get _ e fun hm=>by
  have q:(H b).isSome=true:=(AG.mp hm).2;rw [n] at q;simp at q
def RS {h:Heap}{H:Hp}{b:Addr}{o:Obj} (e:(yW h H).get? b=some o):h.get? b=some o/\H b=none:=by
 have e':h.get? b=some o:=PySem.W.of_hideAll (trk h H) e;refine⟨e',?_⟩;cases q:H b with
 | none=>rfl
 | some x=>
  have hm:b∈trk h H:=AG.mpr ⟨AL.mpr (Ao e'),by simp [q]⟩;have z:(yW h H).get? b=none:=PySem.W.hideAll_none (trk h H) hm;rw [z] at e;cases e
def Ts (g h:Heap) (L:Addr):List (Addr×Obj):=(AH h.objs.size).filterMap fun a=>if a=L\/(g.get? a).isSome=true then none else (h.get? a).map fun o=>(a,o)
def rest (g h:Heap) (L d:Addr):List (Addr×Obj):=(Ts g h L).filter fun p=>decide (p.1≠d)
structure Mod (K:Aa) (mg:Str->Option Value) (base:Heap):Prop where
 kin:K.In base
 glob:base.Ns mainGlobals mg
 blt:∃mb,base.Ns builtinsNs mb/\∀x:Str,x≠"__name__"->mb x=bootBuiltins x
 nolimit:base.NoLimit
structure Cx where
 prog:Program
 w:World
 K:Aa
 mg:Str->Option Value
 base:Heap
 A:Around
 N:List Str
 s₀:Shared
 H₀:Hp
 env:Env
 outer:List Env
 stack:List Env
 ex:List Addr
 fn:Str->Bool
 calm:Bool
 pn:List (Addr×Obj)
 xe:Value->Shared->Prop
def MP (l:List Env):List Addr:=l.filterMap (·.frame)
abbrev Cx.fs (X:Cx):List Addr:=MP X.outer
def xw (sc:Scope) (x:Str):Prop:=sc.names.lookup x=some .local\/sc.names.lookup x=some .cell\/sc.names.lookup x=some .free
def Loc (sc:Scope) (x:Str):Prop:=sc.names.lookup x=some .local\/sc.names.lookup x=some .cell
def Look (env:Env) (h:Heap) (m:Str->Option Value) (x:Str) (u:Value):Prop:=
 (env.kindOf x=some .local/\m x=some u)\/((env.kindOf x=some .cell\/env.kindOf x=some .free)/\∃c,env.cells.lookup x=some c/\h.IsCell c (some u))
structure Cx.Ok (X:Cx):Prop where
 mod:Mod X.K X.mg X.base
 kind:X.env.scope.kind=.function
 glob:X.env.globals=mainGlobals
 blt:X.env.builtins=builtinsNs
 above:X.s₀.heap.objs.size<=X.env.locals
 inj:∀x y c,X.env.cells.lookup x=some c->X.env.cells.lookup y=some c->x=y
 has:∀x,(X.env.kindOf x=some .cell\/X.env.kindOf x=some .free)->∃c,X.env.cells.lookup x=some c
 cab:∀x c,X.fn x=true->X.env.cells.lookup x=some c->X.s₀.heap.objs.size<=c
 hd:X.calm=true->X.A.handled=none
 frames:X.A.frames=some X.stack
 stk:X.stack=X.outer\/(X.stack=X.env::X.outer/\X.env.frame=some X.env.locals)
 exf:∀b∈X.ex,b≠X.env.locals/\∀x c,X.env.cells.lookup x=some c->c≠b
 bs:∀b o,X.base.get? b=some o->X.s₀.heap.get? b=some o/\X.H₀ b=none
 UJ:X.base.objs.size<=X.s₀.heap.objs.size
 N6:∀b o,X.base.get? b=some o->b∉X.ex
 Pk:∀b∈X.ex,b∉X.fs
 uE:X.s₀.heap.FunFrames X.base X.outer
 XU:∀b∈X.fs,X.H₀ b=none
structure Inv (X:Cx) (pins:List (Addr×Obj)) (σ:List (Option V)) (H:Hp) (s:Shared):Prop where
 ok:X.Ok
 os:s.os=X.s₀.os
 bare:AllBare s.gens
 base:Un X.fs X.ex X.H₀ H X.s₀.heap s.heap
 loc:∃m,s.heap.Ns X.env.locals m/\∀(i:Nat) (x:Str) (v:V),X.N[i]?=some x->σ[i]?=some (some v)->xw X.env.scope x->∃u,RelV v u/\Look X.env s.heap m x u
 cell:∀x c,X.env.cells.lookup x=some c->∃v,s.heap.IsCell c v
 free:H X.env.locals=none
 kQ:∀x c,X.env.cells.lookup x=some c->H c=none
 pin:∀p∈X.pn++pins,s.heap.get? p.1=some p.2/\H p.1=none/\p.1≠X.env.locals/\p.1∉X.fs/\∀v,p.2.data≠.cell v
 bD:mH X.prog X.w H s.heap
 len:σ.length=X.N.length
section
variable {X:Cx}{pins:List (Addr×Obj)}{σ:List (Option V)}{H H':Hp}{s:Shared}{h':Heap}
def Cx.Ok.ac4 (ok:X.Ok) {b:Addr}{o:Obj} (e:X.base.get? b=some o):b∉X.fs:=fun hb=>by
 have:=(ok.uE.mem hb).1;rw [e] at this;cases this
def Inv.bs (I:Inv X pins σ H s):∀b o,X.base.get? b=some o->s.heap.get? b=some o/\H b=none:=fun b o e=>
 ⟨I.base.keep b o (I.ok.bs b o e).1 (I.ok.bs b o e).2 (I.ok.ac4 e) (I.ok.N6 b o e),I.base.free b o (I.ok.bs b o e).1 (I.ok.bs b o e).2 (I.ok.N6 b o e)⟩
def Inv.bk (I:Inv X pins σ H s):∀b o,X.base.get? b=some o->s.heap.get? b=some o:=fun b o e=>(I.bs b o e).1
def Inv.mod (I:Inv X pins σ H s):Mod X.K X.mg X.base:=I.ok.mod
def Inv.xa (I:Inv X pins σ H s):X.K.In s.heap:=I.ok.mod.kin.keeps I.bk
def Inv.lt (I:Inv X pins σ H s):X.env.locals < s.heap.objs.size:=let ⟨_,hn,_⟩:=I.loc;hn.lt
def Inv.sz (I:Inv X pins σ H s):X.s₀.heap.objs.size<=s.heap.objs.size:=Bm I.ok.above (DB I.lt)
def Inv.ac3 (I:Inv X pins σ H s) {a:Addr} (h:s.heap.objs.size<=a):a∉X.fs:=fun hb=>by
 obtain⟨_,o,ho,_⟩:=I.ok.uE.mem hb;exact absurd (Ax (Ao ho) (Bm I.sz h)) (AX _)
def Inv.Xh (I:Inv X pins σ H s):∀x c,X.env.cells.lookup x=some c->c≠X.env.locals:=fun x c e z=>by
 obtain⟨v,o,ho,hd⟩:=I.cell x c e;obtain⟨m,⟨o',es,ep,Wz,hd',_⟩,_⟩:=I.loc;rw [z,Wz] at ho;cases ho;rw [hd'] at hd;cases hd
def Inv.uE (I:Inv X pins σ H s):s.heap.FunFrames X.base X.outer:=by
 have all:∀(l:List Env),(∀b∈MP l,b∈X.fs)->X.s₀.heap.FunFrames X.base l->s.heap.FunFrames X.base l:=by
  intro l
  induction l with
  | nil=>intro _ _;trivial
  | cons env r ih=>
   intro hs hl;obtain⟨hk,⟨L,o,hf,hn,ho,hd⟩,hr⟩:=hl;have hL:L∈X.fs:=hs L (by unfold MP;rw [Bt,hf];exact Bp);obtain⟨sl,e⟩:=I.base.slot L o ho (I.ok.XU L hL) hL fun z=>I.ok.Pk L z hL;exact⟨hk,⟨L,_,hf,hn,e,hd⟩,ih (fun b hb=>hs b (by unfold MP;rw [Bt,hf];exact AW _ hb)) hr⟩
 exact all X.outer (fun _ hb=>hb) I.ok.uE
def Inv.stack (I:Inv X pins σ H s):s.heap.FunFrames X.base X.stack:=by
 rcases I.ok.stk with e | ⟨e,hf⟩
 ·rw [e];exact I.uE
 ·rw [e];obtain⟨m,hn,_⟩:=I.loc;refine .cons (by rw [I.ok.kind];decide) hf hn ?_ I.uE;exact Heap.get?_none_of_le (Bm I.ok.UJ I.ok.above)
def Inv.HH (I:Inv X pins σ H s):∀b∈MP X.stack,b∈X.env.locals::X.fs:=fun b hb=>by
 rcases I.ok.stk with e | ⟨e,hf⟩
 ·rw [e] at hb;exact AW _ hb
 ·rw [e] at hb;unfold MP at hb;rw [Bt,hf] at hb;exact hb
def Inv.JB (I:Inv X pins σ H s):∀b∈MP X.stack,H b=none:=fun b hb=>by
 rcases Av.mp (I.HH b hb) with e | hb
 ·rw [e];exact I.free
 ·obtain⟨_,o,ho,_⟩:=I.ok.uE.mem hb;exact I.base.free b o ho (I.ok.XU b hb) fun z=>I.ok.Pk b z hb
def Inv.step {g':Array GenState}{t':Nat}{d':Drawn}{ch:List Addr} (I:Inv X pins σ H s)
  (QM:∀b∈ch,(b∈X.ex\/X.s₀.heap.objs.size<=b)/\b≠X.env.locals/\(∀x c,X.env.cells.lookup x=some c->c≠b)/\∀p∈X.pn++pins,p.1≠b)
  (keep:∀b o,b≠X.env.locals->b∉X.fs->b∉ch->s.heap.get? b=some o->H b=none->h'.get? b=some o)
  (slot:∀b o,b≠X.env.locals->b∈X.fs->b∉ch->s.heap.get? b=some o->H b=none->∃sl,h'.get? b=some {o with slots:=sl}) (free:∀b o,b∉ch->s.heap.get? b=some o->H b=none->H' b=none)
  (there:∀b o,b∉ch->s.heap.get? b=some o->∃o',h'.get? b=some o')
  (eT:∀b xs,H b=some (.tup xs)->H' b=some (.tup xs)) (rT:∀b o u,H b=some (.c7 o u)->H' b=some (.c7 o u)) (xQ:∀b ps,H b=some (.UY ps)->∃more,H' b=some (.UY (ps++more)))
  (ns:∀m,s.heap.Ns X.env.locals m->h'.Ns X.env.locals m) (bD:mH X.prog X.w H' h') (hg:AllBare g') :
  Inv X pins σ H' {s with heap:=h',gens:=g',drawn:=d',toks:=t'}:=by
 have neL:∀b o,X.s₀.heap.get? b=some o->b≠X.env.locals:=fun b o e=>AJ (Ax (Ao e) I.ok.above);have neC:∀b o,X.s₀.heap.get? b=some o->b∉X.ex->b∉ch:=fun b o e hx hb=>by
  rcases (QM b hb).1 with z | z
  ·exact hx z
  ·exact absurd (Ax (Ao e) z) (AX _)
 have cellK:∀x c,X.env.cells.lookup x=some c->∀v,s.heap.IsCell c v->h'.IsCell c v:=fun x c e v ⟨o,ho,hd⟩=>by
  have ZG:c∉ch:=fun z=>(QM c z).2.2.1 x c e rfl;by_cases hc:c∈X.fs
  ·obtain⟨sl,q⟩:=slot c o (I.Xh x c e) hc ZG ho (I.kQ x c e);exact⟨_,q,hd⟩
  ·exact⟨o,keep c o (I.Xh x c e) hc ZG ho (I.kQ x c e),hd⟩
 refine⟨I.ok,I.os,hg,⟨fun b o e n hb hx=>?_,fun b o e n hb hx=>?_,fun b o e n hx=>?_,fun b o e hx=>?_,fun b xs e=>eT b xs (I.base.eT b xs e),fun b o xs e=>rT b o xs (I.base.rT b o xs e),fun b ps e=>?_⟩,?_,fun x c e=>?_,?_,fun x c e=>?_,fun p hp=>?_,bD,I.len⟩
 ·exact keep b o (neL b o e) hb (neC b o e hx) (I.base.keep b o e n hb hx) (I.base.free b o e n hx)
 ·obtain⟨sl,e1⟩:=I.base.slot b o e n hb hx;obtain⟨sl',e2⟩:=slot b _ (neL b o e) hb (neC b o e hx) e1 (I.base.free b o e n hx);exact⟨sl',e2⟩
 ·obtain⟨o',e1⟩:=I.base.there b o e hx;exact free b o' (neC b o e hx) e1 (I.base.free b o e n hx)
 ·obtain⟨o',e1⟩:=I.base.there b o e hx;exact there b o' (neC b o e hx) e1
 ·obtain⟨m1,e1⟩:=I.base.xQ b ps e;obtain⟨m2,e2⟩:=xQ b _ e1;exact⟨m1++m2,by rw [e2,Array.append_assoc]⟩
 ·obtain⟨m,hn,hl⟩:=I.loc;refine⟨m,ns m hn,fun i x v e1 e2 e3=>?_⟩;obtain⟨u,r,l⟩:=hl i x v e1 e2 e3;refine⟨u,r,?_⟩;rcases l with l | ⟨k,c,e,z⟩
  ·exact .inl l
  ·exact .inr ⟨k,c,e,cellK x c e _ z⟩
 ·obtain⟨v,z⟩:=I.cell x c e;exact⟨v,cellK x c e v z⟩
 ·obtain⟨m,⟨o,_,_,ho,_⟩,_⟩:=I.loc;exact free _ o (fun z=>(QM _ z).2.1 rfl) ho I.free
 ·obtain⟨v,o,ho,hd⟩:=I.cell x c e;exact free c o (fun z=>(QM c z).2.2.1 x c e rfl) ho (I.kQ x c e)
 ·obtain⟨e,n,ne,nf,d⟩:=I.pin p hp;have ZG:p.1∉ch:=fun z=>(QM p.1 z).2.2.2 p hp rfl;exact⟨keep p.1 p.2 ne nf ZG e n,free p.1 p.2 ZG e n,ne,nf,d⟩
def Inv.un {t':Nat} (I:Inv X pins σ H s) (u:Un X.fs [] H H' s.heap h') (bD:mH X.prog X.w H' h'):Inv X pins σ H' {s with heap:=h',toks:=t'}:=by
 obtain⟨m,⟨o,es,ep,ho,r⟩,_⟩:=id I.loc;obtain⟨sl,hL⟩:=u.any ho I.free (by simp);exact I.step (g':=s.gens) (d':=s.drawn) (ch:=[]) (fun _ z=>nomatch z) (fun b o _ hb _ e n=>u.keep b o e n hb (by simp)) (fun b o _ hb _ e n=>u.slot b o e n hb (by simp)) (fun b o _ e n=>u.free b o e n (by simp)) (fun b o _ e=>u.there b o e (by simp)) u.eT u.rT u.xQ (fun m' hm=>by
  obtain⟨o',es',ep',Wz,r'⟩:=hm;rw [ho] at Wz;cases Wz;exact⟨_,es',ep',hL,r'⟩) bD I.bare
def Inv.call {g':Array GenState}{t':Nat}{d':Drawn}{ch:List Addr} (I:Inv X pins σ H s) (u:Un (MP X.stack) ch H H' s.heap h') (bD:mH X.prog X.w H' h') (hg:AllBare g')
  (QM:∀b∈ch,(b∈X.ex\/X.s₀.heap.objs.size<=b)/\b≠X.env.locals/\(∀x c,X.env.cells.lookup x=some c->c≠b)/\∀p∈X.pn++pins,p.1≠b) :
  Inv X pins σ H' {s with heap:=h',gens:=g',drawn:=d',toks:=t'}:=by
 obtain⟨m,⟨o,es,ep,ho,r⟩,_⟩:=id I.loc;obtain⟨sl,hL⟩:=u.any ho I.free fun z=>(QM _ z).2.1 rfl;exact I.step (ch:=ch) QM (fun b o hL hb hc e n=>u.keep b o e n (fun z=>(Av.mp (I.HH b z)).elim hL hb) hc) (fun b o _ _ hc e n=>u.any e n hc) (fun b o hc e n=>u.free b o e n hc) (fun b o hc e=>u.there b o e hc) u.eT u.rT u.xQ (fun m' hm=>by
  obtain⟨o',es',ep',Wz,r'⟩:=hm;rw [ho] at Wz;cases Wz;exact⟨_,es',ep',hL,r'⟩) bD hg
def Inv.turned {t':Nat}{it:Addr} (I:Inv X pins σ H s) (k:∀b o,b≠it->s.heap.get? b=some o->h'.get? b=some o) (hn:H it=none) (hL:it≠X.env.locals)
  (h1:it∈X.ex\/X.s₀.heap.objs.size<=it) (h2:∀x c,X.env.cells.lookup x=some c->c≠it) (h3:∀p∈X.pn++pins,p.1≠it):Inv X pins σ H {s with heap:=h',toks:=t'}:=by
 have Ud:∀b u,H b=some u->b≠it:=fun b u e z=>by rw [z,hn] at e;cases e
 refine I.step (g':=s.gens) (d':=s.drawn) (ch:=[it]) (fun b hb=>?_) (fun b o _ _ hc e _=>k b o (fun z=>hc (by simp [z])) e) (fun b o _ _ hc e _=>⟨o.slots,k b o (fun z=>hc (by simp [z])) e⟩) (fun _ _ _ _ n=>n)
  (fun b o hc e=>⟨o,k b o (fun z=>hc (by simp [z])) e⟩) (fun _ _ e=>e) (fun _ _ _ e=>e) (fun b ps e=>⟨#[],by rw [e];simp⟩) (fun m hm=>?_) (fun b u e=>?_) I.bare
 ·have e:b=it:=by simpa using hb
  subst e;exact⟨h1,hL,h2,h3⟩
 ·obtain⟨o,es,ep,ho,r⟩:=hm;exact⟨o,es,ep,k _ o (Bw hL) ho,r⟩
 ·refine (I.bD b u e).xX (fun c v hc q=>k c v ?_ q) (fun _ q=>q) fun _ _ q=>q;rcases hc with z | z
  ·rw [z];exact Ud b u e
  ·exact Ud c _ z
def Inv.tok (I:Inv X pins σ H s) (t:Nat):Inv X pins σ H {s with toks:=t}:=I.un (h':=s.heap) (t':=t) Un.refl I.bD
def Inv.kept {t':Nat} (I:Inv X pins σ H s) (k:∀b u,s.heap.get? b=some u->h'.get? b=some u):Inv X pins σ H {s with heap:=h',toks:=t'}:=I.un (Un.kept k) (I.bD.kept k)
def Inv.laid {a:Addr}{o:HO}{t':Nat} (I:Inv X pins σ H s) (k:∀b u,s.heap.get? b=some u->h'.get? b=some u) (hp:s.heap.objs.size<=a) (new:bh X.prog X.w (upd H a o) h' a o) :
  Inv X pins σ (upd H a o) {s with heap:=h',toks:=t'}:=I.un (Un.laid k hp (I.bD.fresh hp)) (I.bD.laid k hp new)
def Inv.write {x e:Addr}{o:HO}{t':Nat} (I:Inv X pins σ H s) (mu:Mut (H x)) (he:e=x\/H e=some (.own x)) (k:∀b u,b≠e->s.heap.get? b=some u->h'.get? b=some u) (XO:∃u,h'.get? e=some u)
  (new:bh X.prog X.w (upd H x o) h' x o):Inv X pins σ (upd H x o) {s with heap:=h',toks:=t'}:=I.un (Un.write mu he k XO) (I.bD.write mu he k XO new)
def Inv.JS {F8:List (Addr×Obj)} (I:Inv X pins σ H s) (h:∀p∈F8,s.heap.get? p.1=some p.2/\H p.1=none/\p.1≠X.env.locals/\p.1∉X.fs/\∀v,p.2.data≠.cell v):Inv X F8 σ H s:=
 ⟨I.ok,I.os,I.bare,I.base,I.loc,I.cell,I.free,I.kQ,fun p hp=>(A2.mp hp).elim (fun z=>I.pin p (Cs _ z)) (h p),I.bD,I.len⟩
def Gi {N:List Str} (hN:N.Nodup) {i j:Nat}{x:Str} (a:N[i]?=some x) (b:N[j]?=some x):i=j:=by
 obtain⟨h1,e1⟩:=Aj.mp a;obtain⟨h2,e2⟩:=Aj.mp b;exact (Ej hN).mp (e1.trans e2.symm)
def wL {M:Model}{A:Around}{E:Value->Shared->Prop}{i:Nat}{x:Str}{v:V}{u:Value}{Q:Unit->Shared->Prop} (I:Inv X pins σ H s) (hN:X.N.Nodup) (hi:X.N[i]?=some x) (hx:Loc X.env.scope x) (r:RelV v u)
  (h:∀s',Inv X pins (σ.set i (some v)) H s'->(∃a,BZ a s.heap s'.heap/\(a=X.env.locals\/X.env.cells.lookup x=some a))->Q () s') (hf:X.fn x=true\/X.env.scope.names.lookup x=some .local:=by first | exact .inl rfl | exact .inr rfl | assumption):wpAny M A (storeName X.env x u) Q E s:=by
 obtain⟨m,hn,hl⟩:=id I.loc;have adN:(X.env.scope.kind==.class||(X.env.scope.kind==.module&&X.env.locals != X.env.globals))=false:=by rw [I.ok.kind];rfl
 have aac:i < σ.length:=by rw [I.len];exact (Aj.mp hi).1
 have Xh:=I.Xh;have tracked:∀{a:Addr}{h':Heap},(∃o,s.heap.get? a=some o/\H a=none)->BZ a s.heap h'->mH X.prog X.w H h':=fun {a h'} ha hs b ob e=>by
  obtain⟨_,_,Ur⟩:=ha;refine (I.bD b ob e).xX (fun c w' hc q=>(hs.2 c ?_).trans q) (fun _ q=>q) fun _ _ q=>q;rintro rfl;rcases hc with rfl | hc
  ·rw [Ur] at e;cases e
  ·rw [Ur] at hc;cases hc
 rcases hx with hk | hk
 ·refine wpAny_storeName_local hk hn (fun h' hn' hs=>?_) adN;obtain⟨oL,_,_,hoL,_⟩:=id hn;refine h _ ⟨I.ok,I.os,I.bare,⟨fun b o e n hb hx=>?_,fun b o e n hb hx=>?_,I.base.free,fun b o e hx=>?_,I.base.eT,I.base.rT,I.base.xQ⟩,⟨_,hn',fun j y v' e1 e2 e3=>?_⟩,fun y c e=>?_,I.free,I.kQ,fun p hp=>?_,tracked ⟨oL,hoL,I.free⟩ hs,by simpa using I.len⟩ ⟨_,hs,.inl rfl⟩
  ·exact (hs.2 b (AJ (Ax (Ao e) I.ok.above))).trans (I.base.keep b o e n hb hx)
  ·obtain⟨sl,e1⟩:=I.base.slot b o e n hb hx;exact⟨sl,(hs.2 b (AJ (Ax (Ao e) I.ok.above))).trans e1⟩
  ·obtain⟨o',e1⟩:=I.base.there b o e hx;exact⟨o',(hs.2 b (AJ (Ax (Ao e) I.ok.above))).trans e1⟩
  ·by_cases hj:j=i
   ·subst hj;rw [hi] at e1;cases e1;rw [BD aac] at e2;cases e2;exact⟨u,r,.inl ⟨hk,by simp⟩⟩
   ·rw [Bq (Bw hj)] at e2;obtain⟨u',r',q⟩:=hl j y v' e1 e2 e3;refine⟨u',r',?_⟩;rcases q with⟨k,e⟩ | ⟨k,c,e,z⟩
    ·refine .inl ⟨k,?_⟩;have:y≠x:=fun e=>hj (Gi hN e1 (e▸hi));simp [this,e]
    ·exact .inr ⟨k,c,e,z.sameBut hs (Xh y c e)⟩
  ·obtain⟨w',z⟩:=I.cell y c e;exact⟨w',z.sameBut hs (Xh y c e)⟩
  ·obtain⟨e,n,ne,nf,d⟩:=I.pin p hp;exact⟨(hs.2 p.1 ne).trans e,n,ne,nf,d⟩
 ·have hfn:X.fn x=true:=by
   rcases hf with z | z
   ·exact z
   ·rw [z] at hk;cases hk
  obtain⟨c,hc⟩:=I.ok.has x (.inl hk);obtain⟨w',z⟩:=I.cell x c hc;refine wpAny_storeName_cell I.ok.kind hk hc z (fun h' XR hs=>?_);obtain⟨oc,hoc,adA⟩:=id z;refine h {s with heap:=h'} ⟨I.ok,I.os,I.bare,⟨fun b o e n hb hx=>?_,fun b o e n hb hx=>?_,I.base.free,fun b o e hx=>?_,I.base.eT,I.base.rT,I.base.xQ⟩,⟨m,hn.sameBut hs (Bw (Xh x c hc)),fun j y v' e1 e2 e3=>?_⟩,fun y c' e=>?_,I.free,I.kQ,fun p hp=>?_,tracked ⟨oc,hoc,I.kQ x c hc⟩ hs,by simpa using I.len⟩ ⟨c,hs,.inr hc⟩
  ·exact (hs.2 b (AJ (Ax (Ao e) (I.ok.cab x c hfn hc)))).trans (I.base.keep b o e n hb hx)
  ·obtain⟨sl,e1⟩:=I.base.slot b o e n hb hx;exact⟨sl,(hs.2 b (AJ (Ax (Ao e) (I.ok.cab x c hfn hc)))).trans e1⟩
  ·obtain⟨o',e1⟩:=I.base.there b o e hx;exact⟨o',(hs.2 b (AJ (Ax (Ao e) (I.ok.cab x c hfn hc)))).trans e1⟩
  ·by_cases hj:j=i
   ·subst hj;rw [hi] at e1;cases e1;rw [BD aac] at e2;cases e2;exact⟨u,r,.inr ⟨.inl hk,c,hc,XR⟩⟩
   ·rw [Bq (Bw hj)] at e2;obtain⟨u',r',q⟩:=hl j y v' e1 e2 e3;refine⟨u',r',?_⟩;rcases q with q | ⟨k,c',e,z'⟩
    ·exact .inl q
    ·refine .inr ⟨k,c',e,z'.sameBut hs ?_⟩;rintro rfl;exact hj (Gi hN e1 (I.ok.inj _ _ _ e hc▸hi))
  ·by_cases hcc:c'=c
   ·subst hcc;exact⟨_,XR⟩
   ·obtain⟨w2,z2⟩:=I.cell y c' e;exact⟨w2,z2.sameBut hs hcc⟩
  ·obtain⟨e,n,ne,nf,d⟩:=I.pin p hp;refine⟨(hs.2 p.1 ?_).trans e,n,ne,nf,d⟩;intro q;rw [q,hoc] at e;have q':oc=p.2:=Option.some.inj e;exact d w' (by rw [<- q'];exact adA)
def tD {M:Model}{A:Around}{E:Value->Shared->Prop}{i:Nat}{x:Str}{v:V}{u:Value}{Q:Unit->Shared->Prop} (I:Inv X pins σ H s) (hN:X.N.Nodup) (hi:X.N[i]?=some x) (hx:Loc X.env.scope x) (r:RelV v u)
  (h:∀s',Inv X pins (σ.set i (some v)) H s'->Q () s') (hf:X.fn x=true\/X.env.scope.names.lookup x=some .local:=by first | exact .inl rfl | exact .inr rfl | assumption):wpAny M A (storeName X.env x u) Q E s:=
 wL I hN hi hx r (fun s' I' _=>h s' I') hf
def Inv.aaW {s':Shared}{ch:List Addr} (I:Inv X pins σ H s) (ho:s'.os=s.os) (u:Un (MP X.stack) ch H H' s.heap s'.heap) (bD:mH X.prog X.w H' s'.heap) (hg:AllBare s'.gens)
  (QM:∀b∈ch,(b∈X.ex\/X.s₀.heap.objs.size<=b)/\b≠X.env.locals/\(∀x c,X.env.cells.lookup x=some c->c≠b)/\∀p∈X.pn++pins,p.1≠b):Inv X pins σ H' s':=by
 obtain⟨h',g',d',t',o'⟩:=s';have e:o'=s.os:=ho;subst e;exact I.call (g':=g') (t':=t') (d':=d') u bD hg QM
end
abbrev XK:=Value->Option Addr->Hp->Prop
abbrev St:=List (Option V)
abbrev VK:=V->Hp->Prop
abbrev TE:=St->Hp->VK->Prop
abbrev TT:=St->Hp->(Bool->Hp->Prop)->Prop
abbrev TA:=St->Hp->(List V->Hp->Prop)->Prop
structure Ends where
 nx:St->Hp->Prop
 rt:VK
 bk:St->Hp->Prop:=fun _ _=>False
 ct:St->Hp->Prop:=fun _ _=>False
abbrev TS:=Ends->St->Hp->Prop
def EP (X:Cx) (pins:List (Addr×Obj)) (σ:St) (Q:VK) (u:Value) (s':Shared):Prop:=∃v H',Inv X pins σ H' s'/\RelV v u/\Q v H'
def TP (X:Cx) (pins:List (Addr×Obj)) (σ:St) (Q:Bool->Hp->Prop) (b:Bool) (s':Shared):Prop:=∃H',Inv X pins σ H' s'/\Q b H'
def AP (X:Cx) (pins:List (Addr×Obj)) (σ:St) (Q:List V->Hp->Prop) (us:List Value) (s':Shared):Prop:=∃vs H',Inv X pins σ H' s'/\Vals vs us/\Q vs H'
def SP (X:Cx) (pins:List (Addr×Obj)) (D:Ends) (f:Flow) (s':Shared):Prop:=
 match f with
 | .next=>∃σ' H',Inv X pins σ' H' s'/\D.nx σ' H'
 | .brk=>∃σ' H',Inv X pins σ' H' s'/\D.bk σ' H'
 | .cont=>∃σ' H',Inv X pins σ' H' s'/\D.ct σ' H'
 | .ret u=>∃v σ' H',Inv X pins σ' H' s'/\RelV v u/\D.rt v H'
def PE (X:Cx) (e:Expr) (t:TE):Prop:=
 ∀(pins:List (Addr×Obj)) (s:Shared) (σ:St) (H:Hp) (Q:VK),Inv X pins σ H s->t σ H Q->wpAny (model X.prog X.w) X.A (eval e X.env) (EP X pins σ Q) X.xe s
def PT (X:Cx) (e:Expr) (t:TT):Prop:=
 ∀(pins:List (Addr×Obj)) (s:Shared) (σ:St) (H:Hp) (Q:Bool->Hp->Prop),Inv X pins σ H s->t σ H Q->wpAny (model X.prog X.w) X.A (isTrue e X.env (eval e X.env)) (TP X pins σ Q) X.xe s
def PW (X:Cx) (e:Expr) (t:TT):Prop:=
 ∀(whole:Sem Value) (pins:List (Addr×Obj)) (s:Shared) (σ:St) (H:Hp) (Q:Bool->Hp->Prop),Inv X pins σ H s->t σ H Q->wpAny (model X.prog X.w) X.A (isTrue e X.env whole) (TP X pins σ Q) X.xe s
def PW.pt {X:Cx}{e:Expr}{t:TT} (h:PW X e t):PT X e t:=h _
def PA (X:Cx) (es:List Expr) (t:TA):Prop:=
 ∀(pos:Pos) (pins:List (Addr×Obj)) (s:Shared) (σ:St) (H:Hp) (Q:List V->Hp->Prop),Inv X pins σ H s->t σ H Q->wpAny (model X.prog X.w) X.A (spliced (backTo pos (starEach es X.env))) (AP X pins σ Q) X.xe s
def PS (X:Cx) (st:Stmt) (t:TS):Prop:=
 ∀(pins:List (Addr×Obj)) (s:Shared) (σ:St) (H:Hp) (D:Ends),Inv X pins σ H s->t D σ H->wpAny (model X.prog X.w) X.A (exec st X.env) (SP X pins D) X.xe s
def sQ (X:Cx) (st:List Stmt) (t:TS):Prop:=
 ∀(pins:List (Addr×Obj)) (s:Shared) (σ:St) (H:Hp) (D:Ends),Inv X pins σ H s->t D σ H->wpAny (model X.prog X.w) X.A (execs st X.env) (SP X pins D) X.xe s
def bM {α:Type}{t:Sem α}{Q Q':α->Shared->Prop}{M:Model}{A:Around}{E:Value->Shared->Prop}{s:Shared} (h:wpAny M A t Q E s) (hQ:∀a s,Q a s->Q' a s):wpAny M A t Q' E s:=BU h hQ fun _ _ x=>x
section
variable {X:Cx}
def bin {a b:Expr}{ta tb:TE} (ha:PE X a ta) (hb:PE X b tb) {pins:List (Addr×Obj)}{s:Shared}{σ:St}{H:Hp}{R:V->V->Hp->Prop} (I:Inv X pins σ H s) (h:ta σ H fun x H1=>tb σ H1 fun y H2=>R x y H2)
  {α:Type}{Q:α->Shared->Prop}{f:Value->Value->Sem α}
  (hf:∀v u s2 x y H2,Inv X pins σ H2 s2->RelV x v->RelV y u->R x y H2->wpAny (model X.prog X.w) X.A (f v u) Q X.xe s2) :
  wpAny (model X.prog X.w) X.A (eval a X.env) (fun v s₁=>wpAny (model X.prog X.w) X.A (eval b X.env) (fun u s₂=>wpAny (model X.prog X.w) X.A (f v u) Q X.xe s₂) X.xe s₁) X.xe s:=by
 refine bM (ha pins s σ H _ I h) fun v s1 ⟨x,H1,I1,r1,q1⟩=>?_;refine bM (hb pins s1 σ H1 _ I1 q1) fun u s2 ⟨y,H2,I2,r2,q2⟩=>?_;exact hf v u s2 x y H2 I2 r1 r2 q2
def YB (i:Nat):TE:=fun σ H Q=>∃v,σ[i]?=some (some v)/\Q v H
def tC (v:V):TE:=fun _ H Q=>Q v H
def dg {i:Nat}{x:Str}{pos:Pos} (hN:X.N[i]?=some x) (hv:xw X.env.scope x) (hd:(x==("__debug__":Str))=false:=by decide) (iW:(x==("__classdict__":Str))=false:=by decide):PE X (.Name x pos) (YB i):=by
 intro pins s σ H Q I h;obtain⟨v,e,h⟩:=h;obtain⟨m,hn,hl⟩:=I.loc;obtain⟨u,r,l⟩:=hl i x v hN e hv;have fin:EP X pins σ Q u s:=⟨v,H,I,r,h⟩;rcases l with⟨hk,hm⟩ | ⟨hk,c,hc,Km⟩
 ·exact wpAny_Name (wpAny_loadName_local I.ok.kind hk hn hm fin) hd
 ·rcases hk with hk | hk
  ·exact wpAny_Name (wpAny_loadName_cell I.ok.kind hk hc Km fin) hd
  ·exact wpAny_Name (wpAny_loadName_free I.ok.kind hk hc Km fin iW) hd
def tR {i j pos}:PE X (.Constant (.int i) j pos) (tC (.int i)):=fun _ _ _ H _ I h=>wpAny_Constant_int ⟨.int i,H,I.tok _,⟨_,rfl⟩,h⟩
def Zo {b j pos}:PE X (.Constant (.bool b) j pos) (tC (.bl b)):=fun _ _ _ H _ I h=>Constant_bool ⟨.bl b,H,I,rfl,h⟩
def Vx {j pos}:PE X (.Constant .none j pos) (tC .aU):=fun _ _ _ H _ I h=>Constant_none ⟨.aU,H,I,rfl,h⟩
def tQ {x j pos}:PE X (.Constant (.str x) j pos) (tC (.str x)):=fun _ _ _ H _ I h=>Calls.Constant_str ⟨.str x,H,I.tok _,⟨_,rfl⟩,h⟩
def Gl (X:Cx) (x:Str):Prop:=X.env.kindOf x=some .globalImplicit
def Kb {E:Value->Shared->Prop}{pins:List (Addr×Obj)}{s:Shared}{σ:St}{H:Hp}{x:Str}{u:Value}{pos:Pos}{Q:Value->Shared->Prop} (I:Inv X pins σ H s) (hg:Gl X x) (hm:X.mg x=some u) (h:Q u s)
  (hd:(x==("__debug__":Str))=false:=by decide):wpAny (model X.prog X.w) X.A (eval (.Name x pos) X.env) Q E s:=
 DJ I.ok.kind hg (Calls.loadGlobal_global (by rw [I.ok.glob];exact I.mod.glob.keeps I.bk) hm h) hd
def jY {E:Value->Shared->Prop}{pins:List (Addr×Obj)}{s:Shared}{σ:St}{H:Hp}{x:Str}{u:Value}{pos:Pos}{Q:Value->Shared->Prop} (I:Inv X pins σ H s) (hg:Gl X x) (hm:X.mg x=none) (hv:bootBuiltins x=some u) (h:Q u s)
  (hn:x≠"__name__":=by decide) (hd:(x==("__debug__":Str))=false:=by decide):wpAny (model X.prog X.w) X.A (eval (.Name x pos) X.env) Q E s:=by
 obtain⟨mb,h1,h2⟩:=I.mod.blt;exact DJ I.ok.kind hg (Calls.loadGlobal_builtin (by rw [I.ok.glob];exact I.mod.glob.keeps I.bk) hm (by rw [I.ok.blt];exact h1.keeps I.bk) ((h2 x hn).trans hv) h) hd
def JV {x:Str}{v:V}{u:Value}{pos:Pos} (hg:Gl X x) (hm:X.mg x=some u) (r:RelV v u) (hd:(x==("__debug__":Str))=false:=by decide):PE X (.Name x pos) (tC v):=
 fun _ _ _ H _ I h=>Kb I hg hm ⟨v,H,I,r,h⟩ hd
def RH {x:Str}{v:V}{u:Value}{pos:Pos} (hg:Gl X x) (hm:X.mg x=none) (hv:bootBuiltins x=some u) (r:RelV v u) (hn:x≠"__name__":=by decide) (hd:(x==("__debug__":Str))=false:=by decide):PE X (.Name x pos) (tC v):=
 fun _ _ _ H _ I h=>jY I hg hm hv ⟨v,H,I,r,h⟩ hn hd
variable {a b:Expr}{ta tb:TE}{pos:Pos}
def PC (X:Cx) (op:CmpOp) (a b:Expr) (t:TE):Prop:=
 ∀(pins:List (Addr×Obj)) (s:Shared) (σ:St) (H:Hp) (Q:VK),Inv X pins σ H s->t σ H Q->
  wpAny (model X.prog X.w) X.A (eval a X.env) (fun v s₁=>wpAny (model X.prog X.w) X.A (eval b X.env) (fun u s₂=>wpAny (model X.prog X.w) X.A (compareOp op v u) (EP X pins σ Q) X.xe s₂) X.xe s₁) X.xe s
def tB (t:TE):TT:=fun σ H Q=>t σ H fun x H1=>∃c,x=.bl c/\Q c H1
def Vr {op:CmpOp}{t:TE} (h:PC X op a b t) (h1:behindInMarks op b=false:=by first | exact ZE _ (by decide) (by decide) | rfl):PT X (.Compare a [op] [b] pos) (tB t):=by
 intro pins s σ H Q I hw;refine wpAny_isTrue_Compare1 (bM (h pins s σ H _ I hw) fun v s1 h1=>bM h1 fun u s2 h2=>bM h2 fun c s3 ⟨x,H1,I1,r1,q1⟩=>?_) h1;obtain⟨d,rfl,q⟩:=q1;cases r1;exact BB ⟨H1,I1,q⟩
variable {tA tB':TT}{rest:List Expr}
def acH (t u:TT):TT:=fun σ H Q=>t σ H fun c H1=>if c=true then u σ H1 Q else Q false H1
def tOr (t u:TT):TT:=fun σ H Q=>t σ H fun c H1=>if c=true then Q true H1 else u σ H1 Q
def acA (t:TT):TT:=fun σ H Q=>t σ H fun c H1=>Q (!c) H1
def Rt (ha:PT X a tA):PW X (.BoolOp .And [a] pos) tA:=by
 intro wh pins s σ H Q I h;refine isTrue_and (bM (ha pins s σ H Q I h) fun c s1 e=>?_);cases c with
 | true=>exact isTrue_and_nil e
 | false=>exact e
def Vo (ha:PT X a tA):PW X (.BoolOp .Or [a] pos) tA:=by
 intro wh pins s σ H Q I h;refine isTrue_or (bM (ha pins s σ H Q I h) fun c s1 e=>?_);cases c with
 | false=>exact isTrue_or_nil e
 | true=>exact e
def Vp (ha:PT X a tA) (hb:PW X (.BoolOp .And (b::rest) pos) tB'):PW X (.BoolOp .And (a::b::rest) pos) (acH tA tB'):=by
 intro wh pins s σ H Q I h;refine isTrue_and (bM (ha pins s σ H _ I h) fun c s1 ⟨H1,I1,q1⟩=>?_);cases c with
 | true=>exact hb wh pins s1 σ H1 Q I1 q1
 | false=>exact⟨H1,I1,q1⟩
def Zi (ha:PT X a tA) (hb:PW X (.BoolOp .Or (b::rest) pos) tB'):PW X (.BoolOp .Or (a::b::rest) pos) (tOr tA tB'):=by
 intro wh pins s σ H Q I h;refine isTrue_or (bM (ha pins s σ H _ I h) fun c s1 ⟨H1,I1,q1⟩=>?_);cases c with
 | true=>exact⟨H1,I1,q1⟩
 | false=>exact hb wh pins s1 σ H1 Q I1 q1
def Vq (ha:PT X a tA):PT X (.UnaryOp .Not a pos) (acA tA):=by
 intro pins s σ H Q I h;exact isTrue_not (ha pins s σ H (fun c H1=>Q (!c) H1) I h)
def YR (ta tb:TE):TE:=fun σ H Q=>ta σ H fun x H1=>∃c,x=.bl c/\if c=true then tb σ H1 Q else Q (.bl false) H1
def acz (ta tb:TE):TE:=fun σ H Q=>ta σ H fun x H1=>∃c,x=.bl c/\if c=true then Q (.bl true) H1 else tb σ H1 Q
def YF (ta:TE):TE:=fun σ H Q=>ta σ H fun x H1=>∃c,x=.bl c/\Q (.bl (!c)) H1
def Vv {op}{t:TE} (h:PE X a t):PE X (.BoolOp op [a] pos) t:=fun pins s σ H Q I hw=>BoolOp_one (h pins s σ H Q I hw)
def Vz (ha:PE X a ta) (hb:PE X (.BoolOp .And (b::rest) pos) tb):PE X (.BoolOp .And (a::b::rest) pos) (YR ta tb):=by
 intro pins s σ H Q I h;refine BoolOp_and (bM (ha pins s σ H _ I h) fun v s1 ⟨x,H1,I1,r1,q1⟩=>?_);obtain⟨c,rfl,q1⟩:=q1;cases r1;refine BB ?_;cases c with
 | true=>exact hb pins s1 σ H1 Q I1 q1
 | false=>exact⟨.bl false,H1,I1,rfl,q1⟩
def Zl (ha:PE X a ta) (hb:PE X (.BoolOp .Or (b::rest) pos) tb):PE X (.BoolOp .Or (a::b::rest) pos) (acz ta tb):=by
 intro pins s σ H Q I h;refine BoolOp_or (bM (ha pins s σ H _ I h) fun v s1 ⟨x,H1,I1,r1,q1⟩=>?_);obtain⟨c,rfl,q1⟩:=q1;cases r1;refine BB ?_;cases c with
 | false=>exact hb pins s1 σ H1 Q I1 q1
 | true=>exact⟨.bl true,H1,I1,rfl,q1⟩
def Vw (ha:PE X a ta):PE X (.UnaryOp .Not a pos) (YF ta):=by
 intro pins s σ H Q I h;refine UnaryOp_ (bM (ha pins s σ H _ I h) fun v s1 ⟨x,H1,I1,r1,q1⟩=>?_);obtain⟨c,rfl,q1⟩:=q1;cases r1;exact not_of (BB ⟨.bl (!c),H1,I1,rfl,q1⟩)
def tIf (t:TT) (ta tb:TE):TE:=fun σ H Q=>t σ H fun c H1=>if c=true then ta σ H1 Q else tb σ H1 Q
def NU {c:Expr} (hc:PT X c tA) (ha:PE X a ta) (hb:PE X b tb):PE X (.IfExp c a b pos) (tIf tA ta tb):=by
 intro pins s σ H Q I h;refine wpAny_IfExp (bM (hc pins s σ H _ I h) fun d s1 ⟨H1,I1,q1⟩=>?_);cases d with
 | true=>exact ha pins s1 σ H1 Q I1 q1
 | false=>exact hb pins s1 σ H1 Q I1 q1
end
def cT (K:Aa) (H:Hp) (a:Addr) (xs:List V):Prop:=
 Rd H a (.lst xs)\/
  ∃(o:Obj) (ar:Array Value) (n:Nat),K.lookup a=some o/\o.cls=.type "list"/\o.dict=none/\o.data=.seq ar n/\ar.size<=sizeLine/\Vals xs ar.toList
def dc (K:Aa) (H:Hp) (a:Addr) (xs:List V):Prop:=
 Rd H a (.tup xs)\/
  ∃(o:Obj) (ar:Array Value) (n:Nat),K.lookup a=some o/\o.cls=.type "tuple"/\o.data=.seq ar n/\ar.size<=sizeLine/\Vals xs ar.toList
def aek:Value->Option V
 | .none=>some .aU
 | .bool b=>some (.bl b)
 | .int i _=>some (.int i)
 | .str x _=>some (.str x)
 | .bytes b _=>some (.Xj b)
 | .float b _=>some (.XY b)
 | .ref a=>some (.ref a)
 | .type n=>some (.ty n)
 | _=>none
def RelV.abs {x:V}{u:Value} (r:RelV x u):aek u=some x:=by
 cases x with
 | aU=>cases r;rfl
 | bl _=>cases r;rfl
 | int _=>obtain⟨t,rfl⟩:=r;rfl
 | str _=>obtain⟨t,rfl⟩:=r;rfl
 | Xj _=>obtain⟨t,rfl⟩:=r;rfl
 | XY _=>obtain⟨t,rfl⟩:=r;rfl
 | ref _=>cases r;rfl
 | ty _=>cases r;rfl
def RelV.inj {x y:V}{u:Value} (r:RelV x u) (q:RelV y u):x=y:=Option.some.inj (r.abs.symm.trans q.abs)
theorem Vals.inj:∀{xs ys:List V}{us:List Value},Vals xs us->Vals ys us->xs=ys
 | _,_,_,.nil,.nil=>rfl
 | _,_,_,.cons r t,.cons r' t'=>by rw [r.inj r',Vals.inj t t']
section
variable {X:Cx}{pins:List (Addr×Obj)}{σ:St}{H:Hp}{s:Shared}{a:Addr}{xs ys:List V}
def cT.of {K:Aa} (h:H a=some (.lst xs)):cT K H a xs:=.inl (.inl h)
def dc.of {K:Aa} (h:H a=some (.tup xs)):dc K H a xs:=.inl (.inl h)
def Inv.list (I:Inv X pins σ H s) (h:cT X.K H a xs):∃ar:List Value,Vals xs ar/\PlainL s.heap a ar.toArray/\xs.length<=sizeLine:=by
 rcases h with h | ⟨o,ar,n,hk,hc,hd,hs,hz,r⟩
 ·obtain⟨z,ar,n,r,e⟩:=h.ok I.bD;exact⟨ar,r,⟨_,n,e,rfl,rfl,rfl⟩,z⟩
 ·refine⟨ar.toList,r,⟨o,n,I.xa a o hk,hc,hd,by simpa using hs⟩,?_⟩;have e:=r.length;simp only [Dz] at e;omega
def Inv.tuple (I:Inv X pins σ H s) (h:dc X.K H a xs):∃ar:List Value,Vals xs ar/\IsTup s.heap a ar.toArray/\xs.length<=sizeLine:=by
 rcases h with h | ⟨o,ar,n,hk,hc,hs,hz,r⟩
 ·obtain⟨z,ar,r,p⟩:=h.ok I.bD;exact⟨ar,r,p,z⟩
 ·refine⟨ar.toList,r,⟨o,I.xa a o hk,hc,n,by simpa using hs⟩,?_⟩;have e:=r.length;simp only [Dz] at e;omega
def Inv.Gu (I:Inv X pins σ H s) (h:cT X.K H a xs) (h':cT X.K H a ys):xs=ys:=by
 obtain⟨ar,r,⟨o,n,e,_,_,d⟩,_⟩:=I.list h;obtain⟨its',r',⟨o',n',e',_,_,d'⟩,_⟩:=I.list h';rw [e] at e';cases e';rw [d] at d';injection d' with d1 _;have:ar=its':=by simpa using congrArg Array.toList d1
 subst this;exact r.inj r'
def Inv.mh (I:Inv X pins σ H s) (h:dc X.K H a xs) (h':dc X.K H a ys):xs=ys:=by
 obtain⟨ar,r,⟨o,e,_,n,d⟩,_⟩:=I.tuple h;obtain⟨its',r',⟨o',e',_,n',d'⟩,_⟩:=I.tuple h';rw [e] at e';cases e';rw [d] at d';injection d' with d1 _;have:ar=its':=by simpa using congrArg Array.toList d1
 subst this;exact r.inj r'
end
abbrev Cx.vF (X:Cx) (E:Value->Shared->Prop):Cx:={X with xe:=E}
abbrev Cx.RZ (X:Cx):Cx:=X.vF fun _ _=>False
def Cx.Ok.vF {X:Cx} (ok:X.Ok) (E:Value->Shared->Prop):(X.vF E).Ok:=
 ⟨ok.mod,ok.kind,ok.glob,ok.blt,ok.above,ok.inj,ok.has,ok.cab,ok.hd,ok.frames,ok.stk,ok.exf,ok.bs,ok.UJ,ok.N6,ok.Pk,ok.uE,ok.XU⟩
def Cx.Ok.k8 {X:Cx}{E:Value->Shared->Prop} (ok:(X.vF E).Ok):X.Ok:=
 ⟨ok.mod,ok.kind,ok.glob,ok.blt,ok.above,ok.inj,ok.has,ok.cab,ok.hd,ok.frames,ok.stk,ok.exf,ok.bs,ok.UJ,ok.N6,ok.Pk,ok.uE,ok.XU⟩
section
variable {X:Cx}{pins:List (Addr×Obj)}{σ:St}{H:Hp}{s:Shared}{E:Value->Shared->Prop}
def Inv.vF (I:Inv X pins σ H s) (E:Value->Shared->Prop):Inv (X.vF E) pins σ H s:=⟨I.ok.vF E,I.os,I.bare,I.base,I.loc,I.cell,I.free,I.kQ,I.pin,I.bD,I.len⟩
def Inv.k8 (I:Inv (X.vF E) pins σ H s):Inv X pins σ H s:=⟨I.ok.k8,I.os,I.bare,I.base,I.loc,I.cell,I.free,I.kQ,I.pin,I.bD,I.len⟩
def SP.k8 {D:Ends}{f:Flow}{s':Shared} (h:SP (X.vF E) pins D f s'):SP X pins D f s':=by
 cases f with
 | next=>obtain⟨σ',H',I,q⟩:=h;exact⟨σ',H',I.k8,q⟩
 | brk=>obtain⟨σ',H',I,q⟩:=h;exact⟨σ',H',I.k8,q⟩
 | cont=>obtain⟨σ',H',I,q⟩:=h;exact⟨σ',H',I.k8,q⟩
 | ret u=>obtain⟨v,σ',H',I,r,q⟩:=h;exact⟨v,σ',H',I.k8,r,q⟩
def sQ.RZ {st:List Stmt}{t:TS} (h:sQ X.RZ st t):sQ X st t:=fun pins s σ H D I hw=>
 BU (h pins s σ H D (I.vF _) hw) (fun _ _ q=>q.k8) fun _ _ z=>Bk z
end
section
variable {X:Cx}{st:Stmt}{rest:List Stmt}{t u:TS}{e:Expr}{te:TE}{pos:Pos}
def YH:TS:=fun D σ H=>D.nx σ H
def acx (t u:TS):TS:=fun D σ H=>t {D with nx:=u D} σ H
def yg:sQ X [] YH:=fun _ _ σ H _ I h=>Ds ⟨σ,H,I,h⟩
def F4 (h1:PS X st t) (h2:sQ X rest u):sQ X (st::rest) (acx t u):=by
 intro pins s σ H D I h;refine wpAny_execs_cons (bM (h1 pins s σ H {D with nx:=u D} I h) fun f s1 q=>?_);cases f with
 | next=>
  obtain⟨σ',H',I',q⟩:=q;exact h2 pins s1 σ' H' D I' q
 | ret v=>exact q
 | brk=>exact q
 | cont=>exact q
def Ru (h1:PS X st t):sQ X [st] t:=by
 intro pins s σ H D I h;refine wpAny_execs_cons (bM (h1 pins s σ H D I h) fun f s1 q=>?_);cases f with
 | next=>exact Ds q
 | ret v=>exact q
 | brk=>exact q
 | cont=>exact q
def YM:TS:=fun D σ H=>D.ct σ H
def F6:PS X (.Continue pos) YM:=fun _ _ σ H _ I h=>wpAny_Continue ⟨σ,H,I,h⟩
def Inv.quiet {pins:List (Addr×Obj)}{σ:St}{H:Hp}{s:Shared} (I:Inv X pins σ H s):interactive X.env=false:=by simp [interactive,I.ok.kind]
def YJ (te:TE):TS:=fun D σ H=>te σ H fun _ H1=>D.nx σ H1
def oo (he:PE X e te) (hs:swapsWith e none pos.line X.env=pure false:=by rfl):PS X (.Expr e pos) (YJ te):=by
 intro pins s σ H D I h;exact wpAny_Expr_any (bM (he pins s σ H _ I h) fun v s1 ⟨x,H1,I1,r1,q1⟩=>⟨σ,H1,I1,q1⟩) I.quiet hs
def acy (te:TE):TS:=fun D σ H=>te σ H D.rt
def yh (he:PE X e te):PS X (.Return (some e) pos) (acy te):=by
 intro pins s σ H D I h;exact wpAny_Return_some (bM (he pins s σ H _ I h) fun v s1 ⟨x,H1,I1,r1,q1⟩=>⟨x,σ,H1,I1,r1,q1⟩)
def acC (c:TT) (t u:TS):TS:=fun D σ H=>c σ H fun b H1=>if b=true then t D σ H1 else u D σ H1
def NK {c:Expr}{a b:List Stmt}{tc:TT} (hc:PT X c tc) (ha:sQ X a t) (hb:sQ X b u):PS X (.If c a b pos) (acC tc t u):=by
 intro pins s σ H D I h;refine wpAny_If (bM (hc pins s σ H _ I h) fun d s1 ⟨H1,I1,q1⟩=>?_);cases d with
 | true=>exact ha pins s1 σ H1 D I1 q1
 | false=>exact hb pins s1 σ H1 D I1 q1
def U1:TS:=fun _ _ _=>False
end
abbrev TG:=V->St->Hp->(St->Hp->Prop)->Prop
abbrev Xt:=List V->St->Hp->(St->Hp->Prop)->Prop
def PG (X:Cx) (target:Expr) (t:TG):Prop:=
 ∀(pins:List (Addr×Obj)) (s:Shared) (σ:St) (H:Hp) (v:V) (u:Value) (Q:St->Hp->Prop),Inv X pins σ H s->RelV v u->t v σ H Q->
  wpAny (model X.prog X.w) X.A (assign target X.env u) (fun _ s'=>∃σ' H',Inv X pins σ' H' s'/\Q σ' H') X.xe s
def PGs (X:Cx) (ts:List Expr) (t:Xt):Prop:=
 ∀(pins:List (Addr×Obj)) (s:Shared) (σ:St) (H:Hp) (vs:List V) (us:List Value) (Q:St->Hp->Prop),Inv X pins σ H s->Vals vs us->t vs σ H Q->
  wpAny (model X.prog X.w) X.A (assignInOrder ((assignEach ts X.env).map (·.2)) us) (fun _ s'=>∃σ' H',Inv X pins σ' H' s'/\Q σ' H') X.xe s
abbrev Hg:=V->V->V->Hp->(Hp->Prop)->Prop
def Hi (X:Cx) (t:Hg):Prop:=
 ∀(pins:List (Addr×Obj)) (s:Shared) (σ:St) (H:Hp) (o i v:V) (ov iv u:Value) (Q:Hp->Prop),Inv X pins σ H s->RelV o ov->RelV i iv->RelV v u->t o i v H Q->
  wpAny (model X.prog X.w) X.A (setItem ov iv u) (fun _ s'=>∃H',Inv X pins σ H' s'/\Q H') X.xe s
abbrev Tw:=V->V->Hp->VK->Prop
def X8 (X:Cx) (op:Operator) (t:Tw):Prop:=
 ∀(pins:List (Addr×Obj)) (s:Shared) (σ:St) (H:Hp) (x y:V) (v u:Value) (Q:VK),Inv X pins σ H s->RelV x v->RelV y u->t x y H Q->
  wpAny (model X.prog X.w) X.A (inplaceOp op v u) (EP X pins σ Q) X.xe s
section
variable {X:Cx}{pos:Pos}
def dN (i:Nat):TG:=fun v σ H Q=>Q (σ.set i (some v)) H
def RB {i:Nat}{x:Str} (hN:X.N.Nodup) (hi:X.N[i]?=some x) (hx:Loc X.env.scope x) (hf:X.fn x=true\/X.env.scope.names.lookup x=some .local:=by first | exact .inl rfl | exact .inr rfl | assumption):PG X (.Name x pos) (dN i):=by
 intro pins s σ H v u Q I r h;exact wpAny_assign_Name (tD I hN hi hx r (fun s' I'=>⟨_,H,I',h⟩) hf)
def SM:Xt:=fun vs σ H Q=>vs=[]/\Q σ H
def mS (t:TG) (u:Xt):Xt:=fun vs σ H Q=>∃v r,vs=v::r/\t v σ H fun σ' H'=>u r σ' H' Q
def e6:PGs X [] SM:=by
 intro pins s σ H vs us Q I r h;obtain⟨e,h⟩:=h;subst e;cases r;exact assignInOrder_nil ⟨σ,H,I,h⟩
def aN {e:Expr}{es:List Expr}{t:TG}{u:Xt} (h1:PG X e t) (h2:PGs X es u)
  (hs:(assignEach (e::es) X.env).map (·.2)=assign e X.env::(assignEach es X.env).map (·.2):=by rfl):PGs X (e::es) (mS t u):=by
 intro pins s σ H vs us Q I r h;obtain⟨v,vr,e1,h⟩:=h;subst e1;cases r with
 | cons r rr=>
  rw [hs];refine assignInOrder_cons (bM (h1 pins s σ H _ _ _ I r h) fun _ s1 ⟨σ1,H1,I1,q1⟩=>?_);exact h2 pins s1 σ1 H1 _ _ Q I1 rr q1
def SK (K:Aa) (n:Nat) (t:Xt):TG:=fun v σ H Q=>∃a xs,v=.ref a/\dc K H a xs/\xs.length=n/\t xs σ H Q
def hZ {es:List Expr}{k:Nat}{t:Xt}{n:Nat} (hc:X.calm=true) (h:PGs X es t)
  (hn:(assignEach es X.env).length=n:=by rfl) (xc:(assignEach es X.env).findIdx? (·.1)=none:=by rfl):PG X (.Tuple es k pos) (SK X.K n t):=by
 intro pins s σ H v u Q I r hw;obtain⟨a,xs,e1,hq,hl,hw⟩:=hw;subst e1;cases r;obtain⟨ar,rv,ht,hz⟩:=I.tuple hq;refine assign_Tuple_tuple (I.ok.hd hc) ht (by simp [hn,<- hl,rv.length]) xc fun h' hx=>?_;have I1:Inv X pins σ H {s with heap:=h'}:=I.kept (t':=s.toks) fun b o e=>hx b o (AJ (Ao e)) e;exact h pins _ σ H xs _ Q I1 (by simpa using rv) hw
def adY (to ti:TE) (t:Hg):TG:=fun v σ H Q=>to σ H fun o H1=>ti σ H1 fun i H2=>t o i v H2 fun H3=>Q σ H3
def NQ {o i:Expr}{to ti:TE}{t:Hg} (ho:PE X o to) (hi:PE X i ti) (hs:Hi X t)
  (ha:∀v,assign (.Subscript o i pos) X.env v=(do
   let ov <- holding [v] (eval o X.env)
   let iv <- holding [v,ov] (eval i X.env)
   standAt pos
   holding [v,ov,iv] (setItem ov iv v)
   release [v,ov,iv] []):=by intro _;rfl):PG X (.Subscript o i pos) (adY to ti t):=by
 intro pins s σ H v u Q I r h;rw [ha];refine Ab (Bi (bM (ho pins s σ H _ I h) fun ov s1 ⟨x,H1,I1,r1,q1⟩=>?_));refine Ab (Bi (bM (hi pins s1 σ H1 _ I1 q1) fun iv s2 ⟨y,H2,I2,r2,q2⟩=>?_));refine Ab (D8 (Ab (Bi (bM (hs pins s2 σ H2 x y v ov iv u _ I2 r1 r2 r q2) fun _ s3 ⟨H3,I3,q3⟩=>?_))));exact wpAny_release ⟨σ,H3,I3,q3⟩
def U2 (te:TE) (g:TG):TS:=fun D σ H=>te σ H fun x H1=>g x σ H1 D.nx
def yi {tg e:Expr}{te:TE}{g:TG} (he:PE X e te) (hg:PG X tg g) (hs:swapsWithSole [tg] e pos.line X.env=pure false:=by rfl) (hw:swappedStores [tg] e X.env=pure none:=by rfl)
  (h1:(assignEach [tg] X.env).map (·.2)=[assign tg X.env]:=by rfl):PS X (.Assign [tg] e pos) (U2 te g):=by
 intro pins s σ H D I h;refine wpAny_Assign_stores (bM (he pins s σ H _ I h) fun v s1 ⟨x,H1,I1,r1,q1⟩=>?_) hs hw;rw [h1];exact bM (hg pins s1 σ H1 x v _ I1 r1 q1) fun _ s2 q=>q
def tN {i:Nat}{x:Str}{e:Expr}{te:TE}{pos':Pos} (hN:X.N.Nodup) (hi:X.N[i]?=some x) (hx:Loc X.env.scope x) (he:PE X e te) (hs:swapsWith e (some (.Name x pos')) pos.line X.env=pure false:=by rfl) (hf:X.fn x=true\/X.env.scope.names.lookup x=some .local:=by first | exact .inl rfl | exact .inr rfl | assumption) :
  PS X (.Assign [.Name x pos'] e pos) (U2 te (dN i)):=by
 intro pins s σ H D I h;refine wpAny_Assign_Name (bM (he pins s σ H _ I h) fun v s1 ⟨y,H1,I1,r1,q1⟩=>?_) hs;exact tD I1 hN hi hx r1 (fun s2 I2=>⟨_,H1,I2,q1⟩) hf
def acG (i:Nat) (te:TE) (ti:Tw):TS:=fun D σ H=>∃x,σ[i]?=some (some x)/\te σ H fun y H1=>ti x y H1 fun z H2=>D.nx (σ.set i (some z)) H2
def Vs {i:Nat}{x:Str}{e:Expr}{te:TE}{op:Operator}{ti:Tw}{pos':Pos} (hN:X.N.Nodup) (hi:X.N[i]?=some x) (hx:Loc X.env.scope x) (he:PE X e te) (ho:X8 X op ti) (hf:X.fn x=true\/X.env.scope.names.lookup x=some .local:=by first | exact .inl rfl | exact .inr rfl | assumption) :
  PS X (.AugAssign (.Name x pos') op e pos) (acG i te ti):=by
 intro pins s σ H D I h;obtain⟨v,e1,h⟩:=h;obtain⟨m,hn,hl⟩:=I.loc;have vis:xw X.env.scope x:=by rcases hx with k | k;exact .inl k;exact .inr (.inl k)
 obtain⟨u,r,l⟩:=hl i x v hi e1 vis;refine wpAny_AugAssign_Name ?_;have go:wpAny (model X.prog X.w) X.A (eval e X.env) (fun w s₂=>wpAny (model X.prog X.w) X.A (inplaceOp op u w) (fun r s₃=>wpAny (model X.prog X.w) X.A (storeName X.env x r) (fun _=>SP X pins D .next) X.xe s₃) X.xe s₂) X.xe s:=by
  refine bM (he pins s σ H _ I h) fun w s1 ⟨y,H1,I1,r1,q1⟩=>?_;refine bM (ho pins s1 σ H1 v y u w _ I1 r r1 q1) fun z s2 ⟨zv,H2,I2,r2,q2⟩=>?_;exact tD I2 hN hi hx r2 (fun s3 I3=>⟨_,H2,I3,q2⟩) hf
 rcases l with⟨hk,hm⟩ | ⟨hk,c,hc,Km⟩
 ·exact wpAny_loadName_local I.ok.kind hk hn hm go
 ·rcases hk with hk | hk
  ·exact wpAny_loadName_cell I.ok.kind hk hc Km go
  ·rcases hx with k | k
   ·have:X.env.scope.names.lookup x=some .free:=hk;rw [k] at this;cases this
   ·have:X.env.scope.names.lookup x=some .free:=hk;rw [k] at this;cases this
def YQ (to ti te:TE) (Q4:V->V->Hp->VK->Prop) (tip:Tw) (Q2:Hg):TS:=fun D σ H=>to σ H fun o H1=>ti σ H1 fun i H2=>Q4 o i H2 fun x H3=>te σ H3 fun y H4=>tip x y H4 fun z H5=>Q2 o i z H5 fun H6=>D.nx σ H6
def Xv (X:Cx) (t:V->V->Hp->VK->Prop):Prop:=
 ∀(pins:List (Addr×Obj)) (s:Shared) (σ:St) (H:Hp) (o i:V) (ov iv:Value) (Q:VK),Inv X pins σ H s->RelV o ov->RelV i iv->t o i H Q->
  wpAny (model X.prog X.w) X.A (getItem ov iv) (EP X pins σ Q) X.xe s
def JQ {o i e:Expr}{to ti te:TE}{Q4:V->V->Hp->VK->Prop}{tip:Tw}{Q2:Hg}{op:Operator}{ft:Pos} (ho:PE X o to) (hi:PE X i ti) (hg:Xv X Q4) (he:PE X e te) (hp:X8 X op tip) (hs:Hi X Q2)
  (ha:∀ov iv new,augStore i ov iv new=(do holding [new,ov,iv] (setItem ov iv new);release [new,ov,iv] [];pure .next):=by intros;rfl):PS X (.AugAssign (.Subscript o i ft) op e pos) (YQ to ti te Q4 tip Q2):=by
 intro pins s σ H D I h;refine wpAny_AugAssign_SubscriptAny (bM (ho pins s σ H _ I h) fun ov s1 ⟨x1,H1,I1,r1,q1⟩=>?_) ha;refine bM (hi pins s1 σ H1 _ I1 q1) fun iv s2 ⟨x2,H2,I2,r2,q2⟩=>?_;refine bM (hg pins s2 σ H2 x1 x2 ov iv _ I2 r1 r2 q2) fun old s3 ⟨x3,H3,I3,r3,q3⟩=>?_;refine bM (he pins s3 σ H3 _ I3 q3) fun v s4 ⟨x4,H4,I4,r4,q4⟩=>?_;refine bM (hp pins s4 σ H4 x3 x4 old v _ I4 r3 r4 q4) fun new s5 ⟨x5,H5,I5,r5,q5⟩=>?_;exact bM (hs pins s5 σ H5 x1 x2 x5 ov iv new _ I5 r1 r2 r5 q5) fun _ s6 ⟨H6,I6,q6⟩=>⟨σ,H6,I6,q6⟩
def ipI (f:Int->Int->Int):Tw:=fun x y H Q=>∃i j,x=.int i/\y=.int j/\Q (.int (f i j)) H
def IB:X8 X .Add (ipI fun i j=>i+j):=by
 intro pins s σ H x y v u Q I r1 r2 h;obtain⟨i,j,e1,e2,q⟩:=h;subst e1;subst e2;obtain⟨t,rfl⟩:=r1;obtain⟨t',rfl⟩:=r2;exact iadd_int ⟨.int _,H,I.tok _,⟨_,rfl⟩,q⟩
end
section
variable {X:Cx}{pos:Pos}
def UZ (c:TT) (tb:TS):TS:=fun D σ H=>∃W:Nat->St->Hp->Prop,(∃m,W m σ H)/\∀m σ H,W m σ H->
 c σ H fun b H1=>if b=true then ∃N:St->Hp->Prop,(∀σ' H',N σ' H'->∃m',m' < m/\W m' σ' H')/\tb {D with nx:=N,ct:=N,bk:=D.nx} σ H1 else D.nx σ H1
def NJ {c:Expr}{body:List Stmt}{tc:TT}{tb:TS} (hp:PassesOwn (model X.prog X.w) X.A X.env X.xe) (hc:PT X c tc) (hb:sQ X body tb):PS X (.While c body [] pos) (UZ tc tb):=by
 intro pins s σ H D I h;obtain⟨W,⟨m0,w0⟩,turn⟩:=h;refine wpAny_While (codeAny_whileLoop (fun n s'=>∃σ' H',Inv X pins σ' H' s'/\W n σ' H') ?_ m0 ⟨σ,H,I,w0⟩);rintro n s1 ⟨σ1,H1,I1,w1⟩;refine B5 hp (bM (hc pins s1 σ1 H1 _ I1 (turn n σ1 H1 w1)) fun b s2 ⟨H2,I2,q2⟩=>?_);cases b with
 | true=>
  obtain⟨N,hN,q2⟩:=q2;rw [if_pos rfl];refine B5 hp (bM (hb pins s2 σ1 H2 _ I2 q2) fun f s3 q3=>?_);cases f with
  | next=>
   obtain⟨σ3,H3,I3,n3⟩:=q3;obtain⟨m',hm,w3⟩:=hN σ3 H3 n3;exact⟨m',hm,σ3,H3,I3,w3⟩
  | cont=>
   obtain⟨σ3,H3,I3,n3⟩:=q3;obtain⟨m',hm,w3⟩:=hN σ3 H3 n3;exact⟨m',hm,σ3,H3,I3,w3⟩
  | brk=>exact q3
  | ret v=>exact q3
 | false=>
  rw [if_neg AI];exact Ds ⟨σ1,H2,I2,q2⟩
end
structure It where
 go:Nat->Hp->Prop
 TV:Nat->Hp->V->Hp->Prop
 stop:Nat->Hp->Prop
def wH (X:Cx) (pins:List (Addr×Obj)) (H:Hp) (b:Addr):Prop:=
 H b=none/\b≠X.env.locals/\b∉X.fs/\(b∈X.ex\/X.s₀.heap.objs.size<=b)/\(∀x c,X.env.cells.lookup x=some c->c≠b)/\∀p∈X.pn++pins,p.1≠b
def Inv.zb {X:Cx}{pins:List (Addr×Obj)}{σ:St}{H H':Hp}{s:Shared}{b:Addr} (I:Inv X pins σ H s) (hb:s.heap.objs.size<=b) (hn:H' b=none):wH X pins H' b:=by
 refine⟨hn,Nat.ne_of_gt (Ax I.lt hb),I.ac3 hb,.inr (Bm I.sz hb),fun x c e z=>?_,fun p hp z=>?_⟩
 ·obtain⟨v,q⟩:=I.cell x c e;exact absurd (Ax q.lt (by rw [z];exact hb)) (AX _)
 ·exact absurd (Ax (Ao (I.pin p hp).1) (by rw [z];exact hb)) (AX _)
structure Turn (P:Program) (w:World) (K:Aa) (tg:Expr) (J:It) (fp:List Addr) (it:Addr) (tn:Nat->Heap->Prop):Prop where
 mem:it∈fp
 obj:∀i h,tn i h->∀b∈fp,∃o,h.get? b=some o/\∀v,o.data≠.cell v
 keep:∀i h h',tn i h->(∀b∈fp,∀o,h.get? b=some o->h'.get? b=some o)->tn i h'
 item:∀(X:Cx),X.prog=P->X.w=w->X.K=K->X.calm=true->∀(i:Nat) (pins:List (Addr×Obj)) (s:Shared) (σ:St) (H:Hp) (E:Value->Shared->Prop),Inv X pins σ H s->(∀b∈fp,wH X pins H b)->tn i s.heap->J.go i H->
  wpAny (model P w) X.A (pyNext (.ref it)) (fun r s1=>∃u,r=some u/\
   wpAny (model P w) X.A (letOwnedTupleGo tg (.ref it) u) (fun _ s2=>∃x H',Inv X pins σ H' s2/\RelV x u/\J.TV i H x H'/\tn (i+1) s2.heap/\∀b∈fp,H' b=none) E s1) E s
 done:∀(X:Cx),X.prog=P->X.w=w->X.K=K->X.calm=true->∀(i:Nat) (pins:List (Addr×Obj)) (s:Shared) (σ:St) (H:Hp) (E:Value->Shared->Prop),Inv X pins σ H s->(∀b∈fp,wH X pins H b)->tn i s.heap->J.stop i H->
  wpAny (model P w) X.A (pyNext (.ref it)) (fun r s1=>r=none/\Inv X pins σ H s1) E s
 self:∀(A:Around) (i:Nat) (s:Shared) (Q:Value->Shared->Prop) (E:Value->Shared->Prop),tn i s.heap->Q (.ref it) s->wpAny (model P w) A (pyIter (.ref it)) Q E s
abbrev TI:=St->Hp->(It->Hp->Prop)->Prop
def PIE (X:Cx) (pins:List (Addr×Obj)) (σ:St) (tg:Expr) (R:It->Hp->Prop) (itv:Value) (s2:Shared):Prop:=
 ∃(it:Addr) (fp:List Addr) (tn:Nat->Heap->Prop) (J:It) (H':Hp),itv=.ref it/\Inv X pins σ H' s2/\Turn X.prog X.w X.K tg J fp it tn/\tn 0 s2.heap/\(∀b∈fp,wH X pins H' b)/\R J H'
def PI (X:Cx) (tg iter:Expr) (wi:TI):Prop:=
 ∀(pins:List (Addr×Obj)) (s:Shared) (σ:St) (H:Hp) (R:It->Hp->Prop),Inv X pins σ H s->wi σ H R->
  wpAny (model X.prog X.w) X.A (eval iter X.env) (fun v s1=>wpAny (model X.prog X.w) X.A (pyIter v) (PIE X pins σ tg R) X.xe s1) X.xe s
def GN {M:Model}{A:Around}{E:Value->Shared->Prop}{s:Shared}{tg:Expr}{it:Addr}{u:Value}{o:Obj}{n:String}{vs:Array Value}{Q:Unit->Shared->Prop} (ho:s.heap.get? it=some o) (hc:o.cls=.type n) (hd:o.data=.fields vs)
  (hn:["enumerate","zip","dict_itemiterator","dict_reverseitemiterator","odict_iterator","itertools.zip_longest","itertools.pairwise"].contains n=false) (hQ:Q () s):wpAny M A (letOwnedTupleGo tg (.ref it) u) Q E s:=by
 unfold letOwnedTupleGo;cases tg <;> first
  | exact Ah hQ
  | (cases u <;> first
    | exact Ah hQ
    | (
      refine Ab (wpAny_load ho ?_);rw [hc,hd];show wpAny M A (if (["enumerate","zip","dict_itemiterator","dict_reverseitemiterator","odict_iterator","itertools.zip_longest","itertools.pairwise"].contains n&&vs[0]?==some (rawInt _))=true then _ else _) Q E s;rw [if_neg (by intro h;rw [hn,E2] at h;cases h)];exact Ah hQ))
def Itl (K:Aa) (a:Addr):It:=
 ⟨fun i H=>∃xs x,cT K H a xs/\xs[i]?=some x,fun i H x H'=>H'=H/\∀xs,cT K H a xs->xs[i]?=some x,fun i H=>∃xs,cT K H a xs/\xs.length<=i⟩
def Itt (K:Aa) (a:Addr):It:=
 ⟨fun i H=>∃xs x,dc K H a xs/\xs[i]?=some x,fun i H x H'=>H'=H/\∀xs,dc K H a xs->xs[i]?=some x,fun i H=>∃xs,dc K H a xs/\xs.length<=i⟩
def Itr (lo:Int) (n:Nat):It:=⟨fun i _=>i < n,fun i H x H'=>H'=H/\x=.int (lo+i),fun i _=>n<=i⟩
def K3 {P:Program}{w:World}{K:Aa}{tg:Expr} (a it:Addr):Turn P w K tg (Itl K a) [it] it (fun i h=>h.IsListIter it a i) where
 mem:=by simp
 obj:=fun i h st b hb=>by
  have e:b=it:=by simpa using hb
  subst e;obtain⟨o,e,c,d⟩:=st;exact⟨o,e,fun v z=>by rw [d] at z;cases z⟩
 keep:=fun i h h' st k=>st.at fun o e=>k it (by simp) o e
 item:=by
  intro X hP hw hK hc i pins s σ H E I hf st hg;subst hP hw hK;obtain⟨xs,x,hq,hx⟩:=hg;obtain⟨ar,rv,p,hz⟩:=I.list hq;obtain⟨u,hu,ru⟩:=rv.get hx;obtain⟨f0,f1,f2,f3,f4,f5⟩:=hf it (by simp);refine wpAny_pyNext_list_item st p.isList (x:=u) (by simpa using hu) fun h' JE sb=>?_;have I1:Inv X pins σ H {s with heap:=h'}:=I.turned (t':=s.toks) (fun b o hb e=>(sb.2 b hb).trans e) f0 f1 f3 f4 f5;obtain⟨o,e,c,d⟩:=id JE;exact⟨u,rfl,GN (s:={s with heap:=h'}) e c d (by decide) ⟨x,H,I1,ru,⟨rfl,fun ys hy=>by rw [I.Gu hy hq];exact hx⟩,JE,fun b hb=>(hf b hb).1⟩⟩
 done:=by
  intro X hP hw hK hc i pins s σ H E I hf st hg;subst hP hw hK;obtain⟨xs,hq,hx⟩:=hg;obtain⟨ar,rv,p,hz⟩:=I.list hq;obtain⟨f0,f1,f2,f3,f4,f5⟩:=hf it (by simp);have hl:=rv.length;exact wpAny_pyNext_list_end (I.ok.hd hc) st p.isList (by simp;omega) fun h' eb=>⟨rfl,I.turned (t':=s.toks) (fun b o hb e=>eb b o hb e) f0 f1 f3 f4 f5⟩
 self:=fun _ _ _ _ _ st h=>wpAny_pyIter_listiter st h
def tj {P:Program}{w:World}{K:Aa}{tg:Expr} (a it:Addr):Turn P w K tg (Itt K a) [it] it (fun i h=>h.IsTupleIter it a i) where
 mem:=by simp
 obj:=fun i h st b hb=>by
  have e:b=it:=by simpa using hb
  subst e;obtain⟨o,e,c,d⟩:=st;exact⟨o,e,fun v z=>by rw [d] at z;cases z⟩
 keep:=fun i h h' st k=>st.at fun o e=>k it (by simp) o e
 item:=by
  intro X hP hw hK hc i pins s σ H E I hf st hg;subst hP hw hK;obtain⟨xs,x,hq,hx⟩:=hg;obtain⟨ar,rv,p,hz⟩:=I.tuple hq;obtain⟨u,hu,ru⟩:=rv.get hx;obtain⟨f0,f1,f2,f3,f4,f5⟩:=hf it (by simp);refine wpAny_pyNext_tuple_item st (show s.heap.IsTuple a ar.toArray from p) (x:=u) (by simpa using hu) fun h' JE sb=>?_;have I1:Inv X pins σ H {s with heap:=h'}:=I.turned (t':=s.toks) (fun b o hb e=>(sb.2 b hb).trans e) f0 f1 f3 f4 f5;obtain⟨o,e,c,d⟩:=id JE;exact⟨u,rfl,GN (s:={s with heap:=h'}) e c d (by decide) ⟨x,H,I1,ru,⟨rfl,fun ys hy=>by rw [I.mh hy hq];exact hx⟩,JE,fun b hb=>(hf b hb).1⟩⟩
 done:=by
  intro X hP hw hK hc i pins s σ H E I hf st hg;subst hP hw hK;obtain⟨xs,hq,hx⟩:=hg;obtain⟨ar,rv,p,hz⟩:=I.tuple hq;obtain⟨f0,f1,f2,f3,f4,f5⟩:=hf it (by simp);have hl:=rv.length;exact wpAny_pyNext_tuple_end (I.ok.hd hc) st (show s.heap.IsTuple a ar.toArray from p) (by simp;omega) fun h' eb=>⟨rfl,I.turned (t':=s.toks) (fun b o hb e=>eb b o hb e) f0 f1 f3 f4 f5⟩
 self:=fun _ _ _ _ _ st h=>wpAny_pyIter_tupleiter st h
def HC {P:Program}{w:World}{K:Aa}{tg:Expr} (it:Addr) (lo:Int) (n:Nat):Turn P w K tg (Itr lo n) [it] it (fun i h=>IsRangeIter h it (lo+(i:Nat)*1) ((n:Int)-(i:Nat)) 1) where
 mem:=by simp
 obj:=fun i h st b hb=>by
  have e:b=it:=by simpa using hb
  subst e;exact⟨_,st,fun v z=>by
   have z':Data.fields _=Data.cell v:=z;cases z'⟩
 keep:=fun i h h' st k=>k it (by simp) _ st
 item:=by
  intro X hP hw hK hc i pins s σ H E I hf st hg;subst hP hw hK;obtain⟨f0,f1,f2,f3,f4,f5⟩:=hf it (by simp);have W:=Walks.range (prog:=X.prog) (w:=X.w) (I.ok.hd hc) it lo 1 n;refine W.item i s _ _ hg st fun v h' tk hv JE kk=>?_;obtain⟨t,rfl⟩:=hv;have I1:Inv X pins σ H {s with heap:=h',toks:=tk}:=I.turned (fun b o hb e=>kk b o (by simpa using hb) e) f0 f1 f3 f4 f5;refine⟨_,rfl,GN (s:={s with heap:=h',toks:=tk}) (n:="range_iterator") JE rfl rfl (by decide) ⟨.int (lo+i),H,I1,⟨t,?_⟩,⟨rfl,rfl⟩,JE,fun b hb=>(hf b hb).1⟩⟩;rw [Int.mul_one]
 done:=by
  intro X hP hw hK hc i pins s σ H E I hf st hg;subst hP hw hK;obtain⟨f0,f1,f2,f3,f4,f5⟩:=hf it (by simp);exact wpAny_pyNext_range_end (I.ok.hd hc) st (by have:n<=i:=hg;omega) fun h' eb=>⟨rfl,I.turned (t':=s.toks) (fun b o hb e=>eb b o hb e) f0 f1 f3 f4 f5⟩
 self:=fun _ _ _ _ _ st h=>wpAny_pyIter_rangeiter st h
section
variable {X:Cx}{tg:Expr}
def Nu {pins:List (Addr×Obj)}{σ:St}{H:Hp}{s:Shared}{R:It->Hp->Prop}{E:Value->Shared->Prop}{lo hi:Int}{t u v:Tok}{tk:Nat} (I:Inv X pins σ H s) (h1:-(2 ^ 62)<=lo) (h2:lo < 2 ^ 62) (h3:-(2 ^ 62)<=hi) (h4:hi < 2 ^ 62)
  (q:R (Itr lo (hi-lo).toNat) H):wpAny (model X.prog X.w) X.A (pyIter (.ref s.heap.objs.size)) (PIE X pins σ tg R) E {s with heap:=s.heap.push {cls:=.type "range",data:=.fields #[.int lo t,.int hi u,.int 1 v]},toks:=tk}:=by
 refine wpAny_pyIter_range (IsRange.new ..) (small_one h1 h2 h3 h4) ?_;have I1:Inv X pins σ H {s with heap:=s.heap.push {cls:=.type "range",data:=.fields #[.int lo t,.int hi u,.int 1 v]},toks:=tk}:=I.kept fun b o e=>Ak _ e;refine⟨(s.heap.push {cls:=.type "range",data:=.fields #[.int lo t,.int hi u,.int 1 v]}).objs.size,[(s.heap.push {cls:=.type "range",data:=.fields #[.int lo t,.int hi u,.int 1 v]}).objs.size],_,_,H,rfl,
  I1.kept (t':=tk) fun b o e=>Ak _ e,HC _ lo (hi-lo).toNat,?_,fun b hb=>?_,q⟩
 ·have e1:lo+((0:Nat):Int)*1=lo:=by simp
  have e2:(((hi-lo).toNat:Nat):Int)-((0:Nat):Int)=Builtin.Range.rangeSize lo hi 1:=by rw [rangeSize_one];split <;> omega
  show IsRangeIter _ _ (lo+((0:Nat):Int)*1) ((((hi-lo).toNat:Nat):Int)-((0:Nat):Int)) 1;rw [e1,e2];exact An _ rfl
 ·have e:b=(s.heap.push {cls:=.type "range",data:=.fields #[.int lo t,.int hi u,.int 1 v]}).objs.size:=by simpa using hb
  subst e;exact I1.zb (Am _) (I1.bD.fresh (Am _))
def ZW (ta:TA):TI:=fun σ H R=>ta σ H fun vs H1=>∃j:Int,vs=[.int j]/\-(2 ^ 62)<=j/\j < 2 ^ 62/\R (Itr 0 j.toNat) H1
def Lw {a:Expr}{ta:TA}{p pos:Pos} (hg:Gl X "range") (hm:X.mg "range"=none) (ha:PA X [a] ta) (hs:starEach [a] X.env=[(false,eval a X.env)]:=by rfl):PI X tg (.Call (.Name "range" p) [a] [] pos) (ZW ta):=by
 intro pins s σ H R I h;refine Call_ (jY I hg hm boot_range (Bb (bM (ha pos pins s σ H _ I h) fun us s1 ⟨vs,H1,I1,r1,q1⟩=>?_) hs rfl));obtain⟨j,e,q1,q2,q⟩:=q1;subst e;cases r1 with
 | cons r rr=>
  cases rr;obtain⟨t,rfl⟩:=r;exact call_range_1 (Nu I1 (by omega) (by omega) q1 q2 (by simpa using q))
def acD (wi:TI) (g:TG) (tb:TS):TS:=fun D σ H=>wi σ H fun J H1=>∃W:Nat->Nat->St->Hp->Prop,(∃m,W 0 m σ H1)/\∀i m σ H,W i m σ H->
 (J.stop i H/\D.nx σ H)\/(J.go i H/\∃N:St->Hp->Prop,(∀σ' H',N σ' H'->∃m',m' < m/\W (i+1) m' σ' H')/\∀x H',J.TV i H x H'->g x σ H' fun σ2 H2=>tb {D with nx:=N,ct:=N,bk:=D.nx} σ2 H2)
def pY (fp:List Addr) (h:Heap):List (Addr×Obj):=fp.filterMap fun b=>(h.get? b).map fun o=>(b,o)
def jV {fp:List Addr}{h:Heap}{b:Addr}{o:Obj} (hb:b∈fp) (e:h.get? b=some o):(b,o)∈pY fp h:=CG.mpr ⟨b,hb,by rw [e];rfl⟩
def Lz {fp:List Addr}{h:Heap}{p:Addr×Obj} (hp:p∈pY fp h):p.1∈fp/\h.get? p.1=some p.2:=by
 obtain⟨b,hb,e⟩:=CG.mp hp;cases q:h.get? b with
 | none=>rw [q] at e;cases e
 | some o=>
  rw [q] at e;have e':(b,o)=p:=Option.some.inj e;subst e';exact⟨hb,q⟩
def Inv.pinned {pins:List (Addr×Obj)}{σ:St}{H:Hp}{s:Shared}{fp:List Addr} (I:Inv X pins σ H s) (hf:∀b∈fp,wH X pins H b) (ho:∀b∈fp,∃o,s.heap.get? b=some o/\∀v,o.data≠.cell v):Inv X (pins++pY fp s.heap) σ H s:=
 I.JS fun p hp=>(A2.mp hp).elim (fun z=>I.pin p (AY _ z)) fun z=>by
  obtain⟨hb,e⟩:=Lz z;obtain⟨f0,f1,f2,_⟩:=hf p.1 hb;obtain⟨o,e',d⟩:=ho p.1 hb;rw [e] at e';cases e';exact⟨e,f0,f1,f2,d⟩
def Inv.lg {pins pl:List (Addr×Obj)}{σ:St}{H:Hp}{s:Shared} (I:Inv X (pins++pl) σ H s):Inv X pins σ H s:=I.JS fun p hp=>I.pin p (AY _ (Cs _ hp))
def NL {iter:Expr}{body:List Stmt}{wi:TI}{g:TG}{tb:TS}{pos:Pos} (hp:PassesOwn (model X.prog X.w) X.A X.env X.xe) (hc:X.calm=true) (hi:PI X tg iter wi) (hg:PG X tg g) (hb:sQ X body tb)
  (hs:∀x,foldedSetIterable iter X.env x=pure x:=by intro _;rfl):PS X (.For tg iter body [] pos) (acD wi g tb):=by
 intro pins s σ H D I h;refine wpAny_For (bM (hi pins s σ H _ I h) fun v s1 h1=>bM h1 fun itv s2 h2=>?_) hs;obtain⟨it,fp,tn,J,H2,e,I2,T,K7,f2,W,⟨m0,w0⟩,turn⟩:=h2;subst e;have U3:∀{H':Hp},(∀b∈fp,H' b=none)->∀b∈fp,wH X pins H' b:=fun hn b hb=>⟨hn b hb,(f2 b hb).2⟩;refine codeAny_forLoop_any (fun n s'=>∃i σ' H',Inv X pins σ' H' s'/\tn i s'.heap/\(∀b∈fp,H' b=none)/\W i n σ' H') ?_ m0 ⟨0,σ,H2,I2,K7,fun b hb=>(f2 b hb).1,w0⟩;rintro n s3 ⟨i,σ3,H3,I3,YT,fr3,w3⟩;rcases turn i n σ3 H3 w3 with⟨stop,qn⟩ | ⟨go,N,hN,step⟩
 ·refine B5 hp (bM (T.done X rfl rfl rfl hc i pins s3 σ3 H3 X.xe I3 (U3 fr3) YT stop) fun r s4 ⟨hr,I4⟩=>?_);subst hr;exact Ds ⟨σ3,H3,I4,qn⟩
 ·refine B5 hp (bM (T.item X rfl rfl rfl hc i pins s3 σ3 H3 X.xe I3 (U3 fr3) YT go) fun r s4 ⟨u,hr,h4⟩=>?_);subst hr;refine B5 hp (bM h4 fun _ s5 ⟨x,H5,I5,r5,y5,U4,fr5⟩=>?_);have I5':=I5.pinned (U3 fr5) (T.obj _ _ U4);refine B5 hp (bM (hg _ s5 σ3 H5 x u _ I5' r5 (step x H5 y5)) fun _ s6 ⟨σ6,H6,I6,q6⟩=>?_);refine B5 hp (bM (hb _ s6 σ6 H6 _ I6 q6) fun f s7 q7=>?_);have again:∀{σ7:St}{H7:Hp},Inv X (pins++pY fp s5.heap) σ7 H7 s7->N σ7 H7->∃m,m < n/\∃i σ' H',Inv X pins σ' H' s7/\tn i s7.heap/\(∀b∈fp,H' b=none)/\W i m σ' H':=fun {σ7 H7} I7 n7=>by
   obtain⟨m',hm,w7⟩:=hN σ7 H7 n7;refine⟨m',hm,i+1,σ7,H7,I7.lg,T.keep _ _ _ U4 fun b hb o e=>(I7.pin (b,o) (AY _ (AY _ (jV hb e)))).1,fun b hb=>?_,w7⟩;obtain⟨o,e,d⟩:=T.obj _ _ U4 b hb;exact (I7.pin (b,o) (AY _ (AY _ (jV hb e)))).2.1
  cases f with
  | next=>obtain⟨σ7,H7,I7,n7⟩:=q7;exact again I7 n7
  | cont=>obtain⟨σ7,H7,I7,n7⟩:=q7;exact again I7 n7
  | brk=>obtain⟨σ7,H7,I7,q7⟩:=q7;exact⟨σ7,H7,I7.lg,q7⟩
  | ret v=>obtain⟨x7,σ7,H7,I7,r7,q7⟩:=q7;exact⟨x7,σ7,H7,I7.lg,r7,q7⟩
end
abbrev R2:=V->V->Hp->VK->Prop
def jE (X:Cx) (f:Value->Value->Sem Value) (r:R2):Prop:=
 ∀(pins:List (Addr×Obj)) (s:Shared) (σ:St) (H:Hp) (x y:V) (v u:Value) (Q:VK),Inv X pins σ H s->RelV x v->RelV y u->r x y H Q->
  wpAny (model X.prog X.w) X.A (f v u) (EP X pins σ Q) X.xe s
def UnR (X:Cx) (f:Value->Sem Value) (r:V->Hp->VK->Prop):Prop:=
 ∀(pins:List (Addr×Obj)) (s:Shared) (σ:St) (H:Hp) (x:V) (v:Value) (Q:VK),Inv X pins σ H s->RelV x v->r x H Q->
  wpAny (model X.prog X.w) X.A (f v) (EP X pins σ Q) X.xe s
def bL (X:Cx) (f:Value) (r:List V->Hp->VK->Prop):Prop:=
 ∀(pins:List (Addr×Obj)) (s:Shared) (σ:St) (H:Hp) (xs:List V) (us:List Value) (Q:VK),Inv X pins σ H s->Vals xs us->r xs H Q->
  wpAny (model X.prog X.w) X.A (call f us) (EP X pins σ Q) X.xe s
def aem (X:Cx) (r:V->Hp->(Bool->Hp->Prop)->Prop):Prop:=
 ∀(pins:List (Addr×Obj)) (s:Shared) (σ:St) (H:Hp) (x:V) (v:Value) (Q:Bool->Hp->Prop),Inv X pins σ H s->RelV x v->r x H Q->
  wpAny (model X.prog X.w) X.A (truthy v) (TP X pins σ Q) X.xe s
def U0 (r:R2) (ta tb:TE):TE:=fun σ H Q=>ta σ H fun x H1=>tb σ H1 fun y H2=>r x y H2 Q
def tUn (r:V->Hp->VK->Prop) (ta:TE):TE:=fun σ H Q=>ta σ H fun x H1=>r x H1 Q
def rI (C:Int->Int->Prop) (g:Int->Int->V):R2:=fun x y H Q=>∃i j,x=.int i/\y=.int j/\C i j/\Q (g i j) H
def Ro (g:Int->Int->V):R2:=fun x y H Q=>∃i j,x=.int i/\y=.int j/\Q (g i j) H
def rU (g:Int->V):V->Hp->VK->Prop:=fun x H Q=>∃i,x=.int i/\Q (g i) H
section
variable {X:Cx}{a b:Expr}{ta tb:TE}{pos:Pos}
def Xk (ha:PE X a ta) (hb:PE X b tb) {pins:List (Addr×Obj)}{s:Shared}{σ:St}{H:Hp}{R:V->V->Hp->Prop} (I:Inv X pins σ H s)
  (h:ta σ H fun x H1=>tb σ H1 fun y H2=>R x y H2) {Q:Value->Shared->Prop}{f:Value->Value->Sem Value}
  (hf:∀v u s2 x y H2,Inv X pins σ H2 s2->RelV x v->RelV y u->R x y H2->wpAny (model X.prog X.w) X.A (f v u) Q X.xe s2) :
  wpAny (model X.prog X.w) X.A (eval a X.env) (fun v s₁=>wpAny (model X.prog X.w) X.A (eval b X.env) (fun u s₂=>wpAny (model X.prog X.w) X.A (f v u) Q X.xe s₂) X.xe s₁) X.xe s:=by
 refine bM (ha pins s σ H _ I h) fun v s1 ⟨x,H1,I1,r1,q1⟩=>?_;refine bM (hb pins s1 σ H1 _ I1 q1) fun u s2 ⟨y,H2,I2,r2,q2⟩=>?_;exact hf v u s2 x y H2 I2 r1 r2 q2
def JT {op:Operator}{r:R2} (ho:jE X (binaryOp op) r) (ha:PE X a ta) (hb:PE X b tb):PE X (.BinOp a op b pos) (U0 r ta tb):=by
 intro pins s σ H Q I h;exact wpAny_BinOp (Xk ha hb I h fun v u s2 x y H2 I2 rx ry q=>ho pins s2 σ H2 x y v u Q I2 rx ry q)
def Zk {op:UnaryOp}{r:V->Hp->VK->Prop} (ho:UnR X (unaryOp op) r) (ha:PE X a ta):PE X (.UnaryOp op a pos) (tUn r ta):=by
 intro pins s σ H Q I h;exact UnaryOp_ (bM (ha pins s σ H _ I h) fun v s1 ⟨x,H1,I1,r1,q1⟩=>ho pins s1 σ H1 x v Q I1 r1 q1)
def opI {f:Value->Value->Sem Value}{C:Int->Int->Prop}{g:Int->Int->Int}
  (rule:∀(i j:Int) (t u:Tok) (s:Shared) (Q:Value->Shared->Prop) (E:Value->Shared->Prop),C i j->Q (.int (g i j) s.toks) {s with toks:=s.toks+1}->wpAny (model X.prog X.w) X.A (f (.int i t) (.int j u)) Q E s) :
  jE X f (rI C fun i j=>.int (g i j)):=by
 intro pins s σ H x y v u Q I rx ry h;obtain⟨i,j,rfl,rfl,hc,q⟩:=h;obtain⟨t,rfl⟩:=rx;obtain⟨t',rfl⟩:=ry;exact rule i j t t' s _ _ hc ⟨.int (g i j),H,I.tok _,⟨_,rfl⟩,q⟩
def Zx {f:Value->Value->Sem Value}{g:Int->Int->Int}
  (rule:∀(i j:Int) (t u:Tok) (s:Shared) (Q:Value->Shared->Prop) (E:Value->Shared->Prop),Q (.int (g i j) s.toks) {s with toks:=s.toks+1}->wpAny (model X.prog X.w) X.A (f (.int i t) (.int j u)) Q E s) :
  jE X f (Ro fun i j=>.int (g i j)):=by
 intro pins s σ H x y v u Q I rx ry h;obtain⟨i,j,rfl,rfl,q⟩:=h;obtain⟨t,rfl⟩:=rx;obtain⟨t',rfl⟩:=ry;exact rule i j t t' s _ _ ⟨.int (g i j),H,I.tok _,⟨_,rfl⟩,q⟩
def RQ {f:Value->Value->Sem Value}{g:Int->Int->Bool}
  (rule:∀(i j:Int) (t u:Tok) (s:Shared) (Q:Value->Shared->Prop) (E:Value->Shared->Prop),Q (.bool (g i j)) s->wpAny (model X.prog X.w) X.A (f (.int i t) (.int j u)) Q E s) :
  jE X f (Ro fun i j=>.bl (g i j)):=by
 intro pins s σ H x y v u Q I rx ry h;obtain⟨i,j,rfl,rfl,q⟩:=h;obtain⟨t,rfl⟩:=rx;obtain⟨t',rfl⟩:=ry;exact rule i j t t' s _ _ ⟨.bl (g i j),H,I,rfl,q⟩
def QD (i j:Int):Prop:=0 < j/\j < 1073741824
def MC (i j:Int):Prop:=0<=j/\j<=1000000/\i.natAbs < 2 ^ 64
def TU (i j:Int):Prop:=(-(2 ^ 64) < i/\i < 2 ^ 64)\/(-(2 ^ 64) < j/\j < 2 ^ 64)
def TU.ok {i j:Int} (h:TU i j):IntMulOk i j:=by
 rcases h with⟨h1,h2⟩ | ⟨h1,h2⟩
 ·exact .of_left (intBits_le_64 h1 h2)
 ·exact .of_right (intBits_le_64 h1 h2)
def VJ:jE X (binaryOp .Add) (Ro fun i j=>.int (i+j)):=Zx fun _ _ _ _ _ _ _ q=>add_int q
def VB:jE X (binaryOp .Sub) (Ro fun i j=>.int (i-j)):=Zx fun _ _ _ _ _ _ _ q=>sub_int q
def RL:jE X (binaryOp .FloorDiv) (rI QD fun i j=>.int (i / j)):=opI fun i j _ _ _ _ _ hc q=>by
 have h1:(0:Int) < j:=hc.1;have h2:j < 1073741824:=hc.2;exact floordiv_int (by omega) (by rw [Int.fdiv_eq_ediv_of_nonneg i (by omega)];exact q) (.inl (PyProof.noPylong_small (by omega)))
def VF:jE X (binaryOp .Mod) (rI (fun _ j=>0 < j) fun i j=>.int (i % j)):=opI fun i j _ _ _ _ _ hc q=>by
 have h1:(0:Int) < j:=hc;exact mod_int' (by omega) (by rw [Int.fmod_eq_emod_of_nonneg i (by omega)];exact q)
def VD:jE X (binaryOp .Pow) (rI MC fun i j=>.int (i ^ j.toNat)):=opI fun _ _ _ _ _ _ _ hc q=>pow_int_small hc.1 hc.2.1 hc.2.2 q
def unI {f:Value->Sem Value}{g:Int->Int}
  (rule:∀(i:Int) (t:Tok) (s:Shared) (Q:Value->Shared->Prop) (E:Value->Shared->Prop),Q (.int (g i) s.toks) {s with toks:=s.toks+1}->wpAny (model X.prog X.w) X.A (f (.int i t)) Q E s) :
  UnR X f (rU fun i=>.int (g i)):=by
 intro pins s σ H x v Q I rx h;obtain⟨i,rfl,q⟩:=h;obtain⟨t,rfl⟩:=rx;exact rule i t s _ _ ⟨.int (g i),H,I.tok _,⟨_,rfl⟩,q⟩
def UT:UnR X (unaryOp .USub) (rU fun i=>.int (-i)):=unI fun _ _ _ _ _ q=>neg_int q
end
section
variable {X:Cx}{a b c:Expr}{ta tb:TE}{pos:Pos}
def WQ {pins:List (Addr×Obj)}{σ:St}{H:Hp}{s:Shared}{Q:VK}{k k':Bool} (I:Inv X pins σ H s) (q:Q (.bl k) H) (e:k=k'):EP X pins σ Q (.bool k') s:=by
 subst e;exact⟨.bl k,H,I,rfl,q⟩
def Zt:jE X (compareOp .Lt) (Ro fun i j=>.bl (decide (i < j))):=RQ fun _ _ _ _ _ _ _ q=>lt_int q
def Zu:jE X (compareOp .LtE) (Ro fun i j=>.bl (decide (i<=j))):=RQ fun _ _ _ _ _ _ _ q=>le_int q
def Zv:jE X (compareOp .Gt) (Ro fun i j=>.bl (decide (j < i))):=RQ fun _ _ _ _ _ _ _ q=>gt_int q
def Zw:jE X (compareOp .GtE) (Ro fun i j=>.bl (decide (j<=i))):=RQ fun _ _ _ _ _ _ _ q=>ge_int q
def VG:jE X (compareOp .Is) (fun x y H Q=>y=.aU/\Q (.bl (decide (x=.aU))) H):=by
 intro pins s σ H x y v u Q I rx ry h;obtain⟨rfl,q⟩:=h;cases ry;refine is_none_gen (WQ I q ?_);cases x <;> first
  | (cases rx;rfl)
  | (obtain⟨t,rfl⟩:=rx;rfl)
def jE.or {f:Value->Value->Sem Value}{r r':R2} (h:jE X f r) (h':jE X f r'):jE X f (fun x y H Q=>r x y H Q\/r' x y H Q):=by
 intro pins s σ H x y v u Q I rx ry q;rcases q with q | q
 ·exact h pins s σ H x y v u Q I rx ry q
 ·exact h' pins s σ H x y v u Q I rx ry q
def nt (b:Expr) {op:CmpOp} (h:op≠.In:=by decide) (h2:op≠.NotIn:=by decide):behindInMarks op b=false:=by
 have e1:(op==CmpOp.In)=false:=by cases op <;> first | rfl | exact absurd rfl h
 have e2:(op==CmpOp.NotIn)=false:=by cases op <;> first | rfl | exact absurd rfl h2
 cases b <;> simp [behindInMarks,e1,e2]
def ym {op:CmpOp}{r:R2} (ho:jE X (compareOp op) r) (ha:PE X a ta) (hb:PE X b tb) (hm:behindInMarks op b=false):PE X (.Compare a [op] [b] pos) (U0 r ta tb):=by
 intro pins s σ H Q I h;exact wpAny_Compare1 (Xk ha hb I h fun v u s2 x y H2 I2 rx ry q=>ho pins s2 σ H2 x y v u Q I2 rx ry q) hm
def YD (t:TE):TT:=fun σ H Q=>t σ H fun x H'=>∃k,x=.bl k/\Q k H'
def sg {op:CmpOp}{r:R2} (ho:jE X (compareOp op) r) (ha:PE X a ta) (hb:PE X b tb) (hm:behindInMarks op b=false):PT X (.Compare a [op] [b] pos) (YD (U0 r ta tb)):=by
 intro pins s σ H Q I h;refine wpAny_isTrue_Compare1 (bM (ha pins s σ H _ I h) fun v s1 ⟨x,H1,I1,r1,q1⟩=>bM (hb pins s1 σ H1 _ I1 q1) fun u s2 ⟨y,H2,I2,r2,q2⟩=>
  bM (ho pins s2 σ H2 x y v u _ I2 r1 r2 q2) fun c s3 ⟨z,H3,I3,r3,k,e,q3⟩=>?_) hm
 subst e;cases r3;exact BB ⟨H3,I3,q3⟩
def Xr (K:Aa) (x:V) (H:Hp) (k:Bool):Prop:=
 match x with
 | .aU=>k=false
 | .bl b=>k=b
 | .int i=>k=(i != 0)
 | .str y=>y.length<=sizeLine/\k=((y.length:Int) != 0)
 | .Xj y=>y.size<=sizeLine/\k=((y.size:Int) != 0)
 | .ref p=>(∃xs,cT K H p xs/\k=!xs.isEmpty)\/(∃xs,dc K H p xs/\k=!xs.isEmpty)\/∃kvs,H p=some (.dK kvs)/\k=!kvs.isEmpty
 | _=>False
def IA {κ:Type}{kvs:List (κ×V)}{vs:List (κ×Value)} (r:KV kvs vs):(!vs.isEmpty)=!kvs.isEmpty:=by
 cases r <;> rfl
def uw {xs:List V}{ar:List Value} (r:Vals xs ar):(!ar.toArray.isEmpty)=!xs.isEmpty:=by
 cases r <;> simp
def qi:(sizeLine:Nat) < 2 ^ 63:=by rw [sizeLine_eq];decide
def UW:aem X (fun x H Q=>∃k,Xr X.K x H k/\Q k H):=by
 intro pins s σ H x v Q I rx h;obtain⟨k,e,q⟩:=h;have hl:=qi;have hs:sizeLine=16777216:=sizeLine_eq;cases x with
 | aU=>
  cases rx;have e':k=false:=e;subst e';exact truthy_none ⟨H,I,q⟩
 | bl b=>
  cases rx;have e':k=b:=e;subst e';exact BB ⟨H,I,q⟩
 | int i=>
  obtain⟨t,rfl⟩:=rx;have e':k=(i != 0):=e;subst e';exact PySem.P.truthy_int ⟨H,I,q⟩
 | str y=>
  obtain⟨t,rfl⟩:=rx;obtain⟨hy,e'⟩:y.length<=sizeLine/\k=((y.length:Int) != 0):=e;subst e';exact PySem.P.truthy_str (by omega) ⟨H,I.tok _,q⟩
 | Xj y=>
  obtain⟨t,rfl⟩:=rx;obtain⟨hy,e'⟩:y.size<=sizeLine/\k=((y.size:Int) != 0):=e;subst e';exact PySem.W.truthy_bytes (by omega) ⟨H,I.tok _,q⟩
 | ref p=>
  cases rx;have e':(∃xs,cT X.K H p xs/\k=!xs.isEmpty)\/(∃xs,dc X.K H p xs/\k=!xs.isEmpty)\/∃kvs,H p=some (.dK kvs)/\k=!kvs.isEmpty:=e;rcases e' with⟨xs,hx,e'⟩ | ⟨xs,hx,e'⟩ | ⟨kvs,hx,e'⟩
  ·subst e';obtain⟨ar,r,pl,hz⟩:=I.list hx;have hlen:=r.length;exact wpAny_truthy_list pl.isList (by simp only [Ag];omega) ⟨H,I.tok _,by rw [uw r];exact q⟩
  ·subst e';obtain⟨ar,r,pl,hz⟩:=I.tuple hx;have hlen:=r.length;exact truthy_tuple pl (by simp only [Ag];omega) ⟨H,I.tok _,by rw [uw r];exact q⟩
  ·subst e';obtain⟨hz,hS,vs,r,m⟩:kvs.length<=sizeLine/\(p==sysModules)=false/\∃vs,KV kvs vs/\s.heap.DictOf (bI X.prog X.w) p vs:=I.bD p _ hx;have hlen:kvs.length=vs.length:=Paired.length r;exact wpAny_truthy_dict hS m (by omega) ⟨H,I.tok _,by rw [IA r];exact q⟩
 | _=>exact (show False from e).elim
def NI (ha:PE X a ta) (he:∀whole,isTrue a X.env whole=(do let v <- whole;standAt a.pos;holding [v] (truthy v))) :
  PT X a (fun σ H Q=>ta σ H fun x H'=>∃k,Xr X.K x H' k/\Q k H'):=by
 intro pins s σ H Q I h;exact isTrue_plain (bM (ha pins s σ H _ I h) fun v s1 ⟨x,H1,I1,r1,q1⟩=>UW pins s1 σ H1 x v Q I1 r1 q1) (he _)
def HS:jE X (binaryOp .Add) (fun x y H Q=>∃i j,x=.str i/\y=.str j/\i.length+j.length<=sizeLine/\Q (.str (i++j)) H):=by
 intro pins s σ H x y v u Q I rx ry h;obtain⟨i,j,rfl,rfl,hz,q⟩:=h;obtain⟨t,rfl⟩:=rx;obtain⟨t',rfl⟩:=ry;exact add_str (fun t' tk=>⟨.str (i++j),H,I.tok _,⟨_,rfl⟩,q⟩) hz
def vals1 {x:V}{us:List Value} (r:Vals [x] us):∃u,us=[u]/\RelV x u:=by
 cases r with
 | cons r1 r2=>cases r2;exact⟨_,rfl,r1⟩
def vals2 {x y:V}{us:List Value} (r:Vals [x,y] us):∃u w',us=[u,w']/\RelV x u/\RelV y w':=by
 cases r with
 | cons r1 r2=>
  cases r2 with
  | cons r3 r4=>cases r4;exact⟨_,_,rfl,r1,r3⟩
def Qi:bL X (.builtin "abs") (fun xs H Q=>∃i,xs=[.int i]/\Q (.int (if i < 0 then -i else i)) H):=by
 intro pins s σ H xs us Q I r h;obtain⟨i,rfl,q⟩:=h;obtain⟨u,rfl,t,rfl⟩:=vals1 r;exact call_abs_int fun u tk=>⟨.int (if i < 0 then -i else i),H,I.tok _,⟨_,rfl⟩,q⟩
def Mp (hc:X.calm=true):bL X (.builtin "max") (fun xs H Q=>∃i j,xs=[.int i,.int j]/\Q (.int (if j > i then j else i)) H):=by
 intro pins s σ H xs us Q I r h;obtain⟨i,j,rfl,q⟩:=h;obtain⟨u,w',rfl,⟨t,rfl⟩,⟨t',rfl⟩⟩:=vals2 r;refine max_two_ints (I.ok.hd hc) fun h' tk k=>⟨_,H,I.kept k,?_,q⟩;by_cases hj:j > i
 ·rw [if_pos hj,if_pos hj];exact⟨_,rfl⟩
 ·rw [if_neg hj,if_neg hj];exact⟨_,rfl⟩
def Mo (hc:X.calm=true):bL X (.builtin "min") (fun xs H Q=>∃i j,xs=[.int i,.int j]/\Q (.int (if j < i then j else i)) H):=by
 intro pins s σ H xs us Q I r h;obtain⟨i,j,rfl,q⟩:=h;obtain⟨u,w',rfl,⟨t,rfl⟩,⟨t',rfl⟩⟩:=vals2 r;refine min_two_ints (I.ok.hd hc) fun h' tk k=>⟨_,H,I.kept k,?_,q⟩;by_cases hj:j < i
 ·rw [if_pos hj,if_pos hj];exact⟨_,rfl⟩
 ·rw [if_neg hj,if_neg hj];exact⟨_,rfl⟩
def Mt:bL X (.type "int") (fun xs H Q=>(∃i,xs=[.int i]/\Q (.int i) H)\/∃k,xs=[.bl k]/\Q (.int (if k then 1 else 0)) H):=by
 intro pins s σ H xs us Q I r h;rcases h with⟨i,rfl,q⟩ | ⟨k,rfl,q⟩
 ·obtain⟨u,rfl,t,rfl⟩:=vals1 r;exact call_int_int ⟨.int i,H,I,⟨_,rfl⟩,q⟩
 ·obtain⟨u,rfl,r1⟩:=vals1 r;cases r1;exact call_int_bool ⟨.int (if k then 1 else 0),H,I.tok _,⟨_,rfl⟩,q⟩
def aa5 (K:Aa) (x:V) (H:Hp) (n:Nat):Prop:=
 match x with
 | .str y=>y.length<=sizeLine/\n=y.length
 | .Xj y=>y.size<=sizeLine/\n=y.size
 | .ref p=>(∃xs,cT K H p xs/\n=xs.length)\/∃xs,dc K H p xs/\n=xs.length
 | _=>False
def Qh:bL X (.builtin "len") (fun xs H Q=>∃x n,xs=[x]/\aa5 X.K x H n/\Q (.int n) H):=by
 intro pins s σ H xs us Q I r h;obtain⟨x,n,rfl,e,q⟩:=h;obtain⟨u,rfl,rx⟩:=vals1 r;have hl:=qi;have hs:sizeLine=16777216:=sizeLine_eq;cases x with
 | str y=>
  obtain⟨t,rfl⟩:=rx;obtain⟨hy,e'⟩:y.length<=sizeLine/\n=y.length:=e;subst e';exact len_str (by omega) ⟨.int _,H,I.tok _,⟨_,rfl⟩,q⟩
 | Xj y=>
  obtain⟨t,rfl⟩:=rx;obtain⟨hy,e'⟩:y.size<=sizeLine/\n=y.size:=e;subst e';exact PySem.W.len_bytes (by omega) ⟨.int _,H,I.tok _,⟨_,rfl⟩,q⟩
 | ref p=>
  cases rx;have e':(∃xs,cT X.K H p xs/\n=xs.length)\/∃xs,dc X.K H p xs/\n=xs.length:=e;rcases e' with⟨xs,hx,e'⟩ | ⟨xs,hx,e'⟩
  ·subst e';obtain⟨ar,r',pl,hz⟩:=I.list hx;have hlen:=r'.length;exact Calls.call_len_list pl.isList (by simp only [Ag];omega) ⟨.int xs.length,H,I.tok _,⟨_,by simp only [Ag];rw [hlen]⟩,q⟩
  ·subst e';obtain⟨ar,r',pl,hz⟩:=I.tuple hx;have hlen:=r'.length;exact len_tuple pl (by simp only [Ag];omega) ⟨.int xs.length,H,I.tok _,⟨_,by simp only [Ag];rw [hlen]⟩,q⟩
 | _=>exact (show False from e).elim
end
structure Xw (h:Heap) (x dx C:Addr) (mA:Str->Option Value):Prop where
 obj:h.get? x=some (EB C dx)
 ns:h.Ns1 dx mA
 ne:dx≠x
def LI {h:Heap}{dx:Addr}{mA:Str->Option Value} (n:h.Ns1 dx mA):∃od,h.get? dx=some od/\∀name,ES name od=some (mA name):=by
 obtain⟨o,es,ep,ho,hd,hk,_,hm⟩:=n;refine⟨o,ho,fun name=>?_⟩;have e:=hm name;unfold nsFind findBy at e;rw [<- Array.find?_toList] at e;unfold ES;rw [hd];dsimp only
 split
 ·rename_i y q;rw [q] at e;exact congrArg some e
 ·rename_i q;rw [q] at e;have a:es.toList.any (·.refKey)=false:=by
   rw [List.any_eq_false];intro y hy;obtain⟨z,t,adF⟩:=hk y (Array.mem_toList_iff.mp hy);simp [DictEntry.refKey,adF]
  have a':¬es.toList.any (·.refKey)=true:=by rw [a];exact AI
  rw [if_neg a'];exact congrArg some e
def Xw.look {h:Heap}{x dx C:Addr}{mA:Str->Option Value} (I:Xw h x dx C mA):∃od,PySem.W.InstAt h x (EB C dx) C (some od)/\∀name,ES name od=some (mA name):=
 let ⟨od,ho,hl⟩:=LI I.ns
 ⟨od,⟨I.obj,rfl,rfl,ho⟩,hl⟩
def vf.some_of {v:V}{o:Option Value} (r:vf (some v) o):∃u,o=some u/\RelV v u:=by
 cases o with
 | none=>exact (show False from r).elim
 | some u=>exact⟨u,rfl,r⟩
section
variable {P:Program}{w:World}{H:Hp}{h:Heap}{a C dx:Addr}{fs:List (Str×V)}
def Su (bD:mH P w H h) (e:H a=some (.ins C dx fs)):∃mA,Xw h a dx C mA/\(∀f,vf (fs.lookup f) (mA f))/\PySem.Within mA (fs.map (·.1))/\fs.length<=1000/\H dx=some (.own a):=by
 obtain⟨d,z,ne,ob,mA,n,r,q⟩:=(show bh P w H h a (.ins C dx fs) from bD a _ e);exact⟨mA,⟨ob,n,ne⟩,r,q,z,d⟩
end
structure Cls (K:Aa) (C:Addr):Prop where
 pg:Fo K C Str.empty=true
 hd:PySem.W.hasDictIn K C=true
 po:PySem.W.plainOver K C=true
 sa:PySem.W.findIn K (.ref C) "__setattr__"=some (some (.builtin "object.__setattr__"))
def Cls.get {K:Aa}{C:Addr} (c:Cls K C) (f:Str):Fo K C f=true:=c.pg
section
variable {X:Cx}{pins:List (Addr×Obj)}{σ:St}{H:Hp}{s:Shared}{A:Around}{E:Value->Shared->Prop}{Q:Value->Shared->Prop}{c:Value}{b:Bool}
inductive mM (K:Aa) (H:Hp):V->Value->Prop where
 | aU:mM K H .aU (.type "NoneType")
 | bl (x:Bool):mM K H (.bl x) (.type "bool")
 | int (i:Int):mM K H (.int i) (.type "int")
 | str (x:Str):mM K H (.str x) (.type "str")
 | XY (x:UInt64):mM K H (.XY x) (.type "float")
 | lst {a:Addr}{xs:List V} (e:H a=some (.lst xs)):mM K H (.ref a) (.type "list")
 | c7 {a:Addr}{o:Obj}{xs:List V} (e:H a=some (.c7 o (.lst xs))):mM K H (.ref a) (.type "list")
 | tup {a:Addr}{xs:List V} (e:H a=some (.tup xs)):mM K H (.ref a) (.type "tuple")
 | dK {a:Addr}{kvs:List (Key×V)} (e:H a=some (.dK kvs)):mM K H (.ref a) (.type "dict")
 | dT {a:Addr}{kvs:List (List Key×V)} (e:H a=some (.dT kvs)):mM K H (.ref a) (.type "dict")
 | ins {a C dx:Addr}{fs:List (Str×V)} (e:H a=some (.ins C dx fs)) (cl:Cls K C) (ha:PySem.W.findIn K (.ref C) "__class__"=some (some (.builtin "object.__class__")))
   (hn:PySem.W.specialIn K (.builtin "object.__class__") "__get__"=some (some (.builtin "getset_descriptor.__get__"))) (htk:PySem.W.takesIn K (.builtin "object.__class__")=some true)
   (hm:PySem.W.mroIn K C (.type "object")=some true):mM K H (.ref a) (.ref C)
def LU {x:V}{u t:Value} (I:Inv X pins σ H s) (rx:RelV x u) (ty:mM X.K H x t) (e:Bo X.K t c=some b) (h:∀tk,Q (.bool b) {s with toks:=tk}) :
  wpAny (model X.prog X.w) A (call (.builtin "isinstance") [u,c]) Q E s:=by
 cases ty with
 | aU=>cases (show u=Be from rx);exact A4 PySem.W.kitx_none I.xa BK e (fun z=>nomatch z) h
 | bl y=>cases (show u=B2 y from rx);exact A4 PySem.W.kitx_bool I.xa BK e (fun z=>nomatch z) h
 | int i=>obtain⟨t,q⟩:=(show ∃t,u=C2 i t from rx);cases q;exact A4 PySem.W.kitx_int I.xa BK e (fun z=>nomatch z) h
 | str y=>obtain⟨t,q⟩:=(show ∃t,u=Fp y t from rx);cases q;exact A4 PySem.W.kitx_str I.xa BK e (fun z=>nomatch z) h
 | XY y=>obtain⟨t,q⟩:=(show ∃t,u=Value.float y t from rx);cases q;exact A4 PySem.W.kitx_float I.xa BK e (fun z=>nomatch z) h
 | @lst a xs ea=>
  cases (show u=Aw a from rx);obtain⟨_,_,n,_,h1⟩:=(show bh X.prog X.w H s.heap a (.lst xs) from I.bD a _ ea);exact A4 DU I.xa ⟨_,h1,rfl⟩ e (fun z=>nomatch z) h
 | @c7 a ob xs ea=>
  cases (show u=Aw a from rx);obtain⟨_,_,_,n,_,h1⟩:=(show bh X.prog X.w H s.heap a (.c7 ob (.lst xs)) from I.bD a _ ea);exact A4 DU I.xa ⟨_,h1,rfl⟩ e (fun z=>nomatch z) h
 | @tup a xs ea=>
  cases (show u=Aw a from rx);obtain⟨_,_,_,p⟩:=(show bh X.prog X.w H s.heap a (.tup xs) from I.bD a _ ea);obtain⟨o,h1,h2,_⟩:=p;exact A4 Fc I.xa ⟨o,h1,h2⟩ e (fun z=>nomatch z) h
 | @dK a kvs ea=>
  cases (show u=Aw a from rx);obtain⟨_,_,vs,_,p⟩:=(show bh X.prog X.w H s.heap a (.dK kvs) from I.bD a _ ea);obtain⟨o,es,ep,h1,h2,_⟩:=p;exact A4 DV I.xa ⟨o,h1,h2.1⟩ e (fun z=>nomatch z) h
 | @dT a kvs ea=>
  cases (show u=Aw a from rx);obtain⟨_,_,xs,_,o,es,ep,h1,h2,_⟩:=(show bh X.prog X.w H s.heap a (.dT kvs) from I.bD a _ ea);exact A4 DV I.xa ⟨o,h1,h2.1⟩ e (fun z=>nomatch z) h
 | @ins a C dx fs ea cl ha hn htk hm=>
  cases (show u=Aw a from rx);obtain⟨mA,O,_⟩:=Su I.bD ea;obtain⟨od,J,_⟩:=O.look;exact A4 (PySem.W.kitx_own (cl.get _) cl.hd ha hn htk hm) I.xa J e (fun z=>nomatch z) h
end
structure fY (k:Nat) (A:Around):Prop where
 hd:A.handled=none
 dp:A.depth+3*k+5 < recursionLimit
 un:A.units+16*k+200 < cLine
 gd:A.guards=some []
def fY.mono {j k:Nat}{A:Around} (r:fY k A) (h:j<=k):fY j A:=⟨r.hd,by have:=r.dp;omega,by have:=r.un;omega,r.gd⟩
def fY.deeper {k:Nat}{A:Around} (r:fY (k+1) A) (env:Env):fY k (A.deeper env):=
 ⟨r.hd,by have:=r.dp;show A.depth+1+3*k+5 < _;omega,by have:=r.un;show A.units+3+16*k+200 < _;omega,r.gd⟩
def fY.depth {k:Nat}{A:Around} (r:fY k A):A.depth < recursionLimit:=by have:=r.dp;omega
def YG:TA:=fun _ H Q=>Q [] H
def T4 (ta:TE) (tr:TA):TA:=fun σ H Q=>ta σ H fun x H1=>tr σ H1 fun xs H2=>Q (x::xs) H2
section
variable {X:Cx}{e:Expr}{es:List Expr}{te:TE}{t:TA}{pos:Pos}
def cE:PA X [] YG:=fun _ _ _ _ H Q I h=>Cq ⟨[],H,I,.nil,h⟩
def bc (ha:PE X e te) (hr:PA X es t) (hs:starEach (e::es) X.env=(false,eval e X.env)::starEach es X.env:=by rfl):PA X (e::es) (T4 te t):=by
 intro pos pins s σ H Q I h;rw [hs];show wpAny _ _ (spliced ((false,eval e X.env)::backTo pos (starEach es X.env))) _ _ s;refine B4 (bM (ha pins s σ H _ I h) fun u s1 ⟨x,H1,I1,r1,q1⟩=>?_);exact bM (hr pos pins s1 σ H1 _ I1 q1) fun us s2 ⟨xs,H2,I2,r2,q2⟩=>⟨x::xs,H2,I2,.cons r1 r2,q2⟩
end
abbrev Sp:=List V->Hp->VK->XK->Prop
abbrev QC:=List Env->Hp->Shared->XK->Value->Shared->Prop
structure TL (P:Program) (w:World) (K:Aa) (mg:Str->Option Value) (base:Heap) (A:Around) (outer:List Env) (s:Shared) (H:Hp):Prop where
 frames:A.frames=some outer
 mod:Mod K mg base
 bs:∀b o,base.get? b=some o->s.heap.get? b=some o/\H b=none
 UJ:base.objs.size<=s.heap.objs.size
 uE:s.heap.FunFrames base outer
 XU:∀b∈MP outer,H b=none
 bD:mH P w H s.heap
 bare:AllBare s.gens
def CE (outer:List Env) (P:Program) (w:World) (H:Hp) (s:Shared) (Q:VK) (u:Value) (s':Shared):Prop:=
 ∃v H',s'.os=s.os/\AllBare s'.gens/\Un (MP outer) [] H H' s.heap s'.heap/\mH P w H' s'.heap/\RelV v u/\Q v H'
def CR (CX:QC) (outer:List Env) (P:Program) (w:World) (H:Hp) (s:Shared) (Q:VK) (E:XK) (r:Result) (s':Shared):Prop:=
 match r with
 | .ok (.ret u)=>CE outer P w H s Q u s'
 | .ok _=>False
 | .error e=>CX outer H s E e s'
structure iu (P:Program) (w:World) (K:Aa) (mg:Str->Option Value) (base:Heap) (CX:QC) (k:Nat) (f:Addr) (fd:FuncData) (ps:List Str) (sp:Sp):Prop where
 len:∀vs H Q E,sp vs H Q E->vs.length=ps.length
 run:∀(A:Around) (outer:List Env) (s:Shared) (H:Hp) (args:Args) (us:List Value) (vs:List V) (Q:VK) (E:XK),fY k A->TL P w K mg base A outer s H->BindsTo s fd args (ps.zip us)->Vals vs us->sp vs H Q E->
  codeAny (model P w) A (.call (.ref f) args) (CR CX outer P w H s Q E) s
def iu.imp {P:Program}{w:World}{K:Aa}{mg:Str->Option Value}{base:Heap}{CX:QC}{k:Nat}{f:Addr}{fd:FuncData}{ps:List Str}{sp sp':Sp} (F:iu P w K mg base CX k f fd ps sp)
  (h:∀vs H Q E,sp' vs H Q E->sp vs H Q E):iu P w K mg base CX k f fd ps sp':=
 ⟨fun vs H Q E q=>F.len vs H Q E (h _ _ _ _ q),fun A outer s H args us vs Q E hr he hb hv hs=>F.run A outer s H args us vs Q E hr he hb hv (h _ _ _ _ hs)⟩
section
variable {X:Cx}{pins:List (Addr×Obj)}{σ:St}{H:Hp}{s s':Shared}
def Inv.aec (I:Inv X pins σ H s):TL X.prog X.w X.K X.mg X.base X.A X.stack s H:=
 ⟨I.ok.frames,I.ok.mod,I.bs,Bm I.ok.UJ I.sz,I.stack,I.JB,I.bD,I.bare⟩
def Inv.after {Q:VK}{u:Value} (I:Inv X pins σ H s) (h:CE X.stack X.prog X.w H s Q u s'):EP X pins σ Q u s':=by
 obtain⟨v,H',os,bare,un,bD,r,q⟩:=h;obtain⟨hh,g,d,t,os'⟩:=s';obtain rfl:os'=s.os:=os;exact⟨v,H',I.call (h':=hh) (g':=g) (d':=d) (t':=t) (ch:=[]) un bD bare (fun b z=>absurd z (by simp)),r,q⟩
end
def Binds (K:Aa) (fd:FuncData) (ps:List Str) (ds:List Value):Prop:=
 ∀(s:Shared) (us:List Value),K.In s.heap->(us++ds).length=ps.length->BindsTo s fd ⟨us,[]⟩ (ps.zip (us++ds))
def Binds.all {K:Aa}{fd:FuncData}{ps:List Str} (h:∀us:List Value,us.length=ps.length->bindArgs fd ⟨us,[]⟩=pure (ps.zip us)):Binds K fd ps []:=fun s us _ hl=>by
 rw [Dv] at hl ⊢;exact .of_eq (h us hl)
def Passes (CX:QC) (X:Cx) (E:XK):Prop:=∀(pins:List (Addr×Obj)) (σ:St) (H:Hp) (s:Shared) (e:Value) (s':Shared),Inv X pins σ H s->CX X.stack H s E e s'->X.xe e s'
section
variable {X:Cx}{CX:QC}{k:Nat}{f:Addr}{fd:FuncData}{ps:List Str}{sp:Sp}{dvs:List V}{ds:List Value}{E:XK}{e:Expr}
def Vc {pins:List (Addr×Obj)}{σ:St}{H:Hp}{s:Shared}{Q:VK}{us:List Value}{vs:List V} (F:iu X.prog X.w X.K X.mg X.base CX k f fd ps sp) (hr:fY k X.A) (hb:Binds X.K fd ps ds) (hd:Vals dvs ds) (hx:Passes CX X E)
  (I:Inv X pins σ H s) (r:Vals vs us) (h:sp (vs++dvs) H Q E):wpAny (model X.prog X.w) X.A (call (.ref f) us) (EP X pins σ Q) X.xe s:=by
 have r2:Vals (vs++dvs) (us++ds):=r.append hd;have hl:(us++ds).length=ps.length:=by rw [<- r2.length];exact F.len _ _ _ _ h
 refine wpAny_call (codeAny_mono (F.run X.A X.stack s H ⟨us,[]⟩ (us++ds) (vs++dvs) Q E hr I.aec (hb s us I.xa hl) r2 h) fun r s' hq=>?_);cases r with
 | error e=>exact hx pins σ H s e s' I hq
 | ok fl=>
  cases fl with
  | ret u=>exact I.after hq
  | next=>exact Bk hq
  | brk=>exact Bk hq
  | cont=>exact Bk hq
end
structure ay (N P:List Str) (sc:Scope):Prop where
 kind:sc.kind=.function
 co:sc.isCoroutine=false
 gen:sc.isGenerator=false
 nd:N.Nodup
 pre:N.take P.length=P
 par:∀x∈P,sc.names.lookup x=some .local\/sc.names.lookup x=some .cell
 VS:∀y∈sc.names,y.2≠.free
theorem xq {kindOf:Str->Option NameKind}{x:Str}:∀{binds:List (Str×Value)}{m:Str->Option Value},(∀v,(x,v)∉binds)->bindL kindOf binds m x=m x
 | [],_,_=>rfl
 | (n,v)::r,m,h=>by
  unfold bindL;rw [xq fun w hw=>h w (AW _ hw)]
  split
  ·have:x≠n:=by rintro rfl;exact h v Bp
   simp [this]
  ·rfl
theorem xt {kindOf:Str->Option NameKind}{x:Str}:∀{binds:List (Str×Value)}{m:Str->Option Value},(∀v,(x,v)∉binds)->bindC kindOf binds m x=m x
 | [],_,_=>rfl
 | (n,v)::r,m,h=>by
  unfold bindC;rw [xt fun w hw=>h w (AW _ hw)]
  split
  ·rfl
  ·have:x≠n:=by rintro rfl;exact h v Bp
   simp [this]
theorem xr {kindOf:Str->Option NameKind}{x:Str}{v:Value}:∀{P:List Str}{vs:List Value}{i:Nat}{m:Str->Option Value},P.Nodup->P[i]?=some x->vs[i]?=some v->kindOf x=some .local->
  bindL kindOf (P.zip vs) m x=some v
 | [],_,_,_,_,h,_,_=>by simp at h
 | _::_,[],_,_,_,_,h,_=>by simp at h
 | p::P,w::vs,0,m,nd,h1,h2,hk=>by
  simp at h1 h2;subst h1;subst h2;show bindL kindOf ((p,w)::P.zip vs) m p=_;unfold bindL;rw [xq fun v hv=>(Du.mp nd).1 (EI hv).1,if_pos hk];simp
 | p::P,w::vs,i+1,m,nd,h1,h2,hk=>by
  show bindL kindOf ((p,w)::P.zip vs) m x=_;unfold bindL;exact xr (i:=i) (Du.mp nd).2 (by simpa using h1) (by simpa using h2) hk
theorem xu {kindOf:Str->Option NameKind}{x:Str}{v:Value}:∀{P:List Str}{vs:List Value}{i:Nat}{m:Str->Option Value},P.Nodup->P[i]?=some x->vs[i]?=some v->kindOf x≠some .local->
  bindC kindOf (P.zip vs) m x=some v
 | [],_,_,_,_,h,_,_=>by simp at h
 | _::_,[],_,_,_,_,h,_=>by simp at h
 | p::P,w::vs,0,m,nd,h1,h2,hk=>by
  simp at h1 h2;subst h1;subst h2;show bindC kindOf ((p,w)::P.zip vs) m p=_;unfold bindC;rw [xt fun v hv=>(Du.mp nd).1 (EI hv).1,if_neg hk];simp
 | p::P,w::vs,i+1,m,nd,h1,h2,hk=>by
  show bindC kindOf ((p,w)::P.zip vs) m x=_;unfold bindC;exact xu (i:=i) (Du.mp nd).2 (by simpa using h1) (by simpa using h2) hk
def start (N:List Str) (vs:List V):St:=vs.map some++Al (N.length-vs.length) none
def uX (CX:QC) (P:Program) (w:World) (K:Aa) (mg:Str->Option Value) (base:Heap) (N:List Str) (qual:Str) (scope:Scope) (f:Addr) (cd:Value) (A:Around) (outer:List Env) (s:Shared) (H:Hp) (E:XK):Cx where
 prog:=P
 w:=w
 K:=K
 mg:=mg
 base:=base
 A:=A.deeper (envOfC qual scope s.heap.objs.size f cd)
 N:=N
 s₀:=s
 H₀:=H
 env:=envOfC qual scope s.heap.objs.size f cd
 outer:=outer
 stack:=envOfC qual scope s.heap.objs.size f cd::outer
 ex:=[]
 calm:=true
 fn:=fun _=>true
 pn:=[]
 xe:=fun e s'=>wpAny (model P w) (A.deeper (envOfC qual scope s.heap.objs.size f cd)) (leaving (envOfC qual scope s.heap.objs.size f cd) e) (fun _ Y1=>CX outer H s E e Y1) (fun e' Y1=>CX outer H s E e' Y1) s'
def G3 {sc:Scope}{n:Nat}{x:Str} (h:sc.names.lookup x=some .cell):∃c,(cellsFrom n sc.names []).lookup x=some c:=by
 have q:=Eo sc.names n [] (.inl h);exact Option.isSome_iff_exists.mp q
def LX {CX:QC}{P:Program}{w:World}{K:Aa}{mg:Str->Option Value}{base:Heap}{N ps:List Str}{qual:Str}{scope:Scope}{f:Addr}{cd:Value}{A:Around}{outer:List Env}{s s1:Shared}{H:Hp}{E:XK}{us:List Value}{vs:List V}
  (S:ay N ps scope) (hd:A.handled=none) (e0:TL P w K mg base A outer s H) (hl:vs.length=ps.length) (r:Vals vs us)
  (x:InCallC s s.heap.objs.size (bindL (envOfC qual scope s.heap.objs.size f cd).kindOf (ps.zip us) fun _=>none) (cellsFrom (s.heap.objs.size+1) scope.names []) (bindC (envOfC qual scope s.heap.objs.size f cd).kindOf (ps.zip us) fun _=>none) s1) :
  Inv (uX CX P w K mg base N qual scope f cd A outer s H E) [] (start N vs) H s1:=by
 have ef:ps.length<=N.length:=by have:=congrArg BH S.pre;rw [B1] at this;omega
 obtain⟨h1,tk,rfl,hk⟩:=x.done;have ZF:∀b:Addr,b∉(uX CX P w K mg base N qual scope f cd A outer s H E).ex:=fun b z=>absurd (show b∈([]:List Addr) from z) (by simp);refine⟨⟨e0.mod,S.kind,rfl,rfl,Am _,fun y z c h1 h2=>?_,fun y hy=>?_,fun y c _ h=>?_,fun _=>hd,Around.frames_deeper e0.frames,.inr ⟨rfl,rfl⟩,fun b z=>absurd z (ZF b),e0.bs,e0.UJ,fun b _ _=>ZF b,fun b z=>absurd z (ZF b),e0.uE,e0.XU⟩,
  rfl,e0.bare,Un.kept hk,⟨_,x.toInCall.ns,fun i y v h1 h2 h3=>?_⟩,fun y c h=>⟨_,x.cell y c h⟩,e0.bD.fresh (Am _),fun y c h=>?_,fun p hp=>absurd (show p∈([]:List (Addr×Obj)) from hp) (by simp),e0.bD.kept hk,?_⟩
 ·exact name_of_addr x.apart (BF h1) (BF h2)
 ·have hy:scope.names.lookup y=some .cell\/scope.names.lookup y=some .free:=hy;rcases hy with hy | hy
  ·exact G3 hy
  ·exact absurd rfl (S.VS _ (BF hy))
 ·exact DB (x.above y c (BF h))
 ·have hi:i < vs.length:=by
   unfold start at h2;by_cases hi:i < vs.length
   ·exact hi
   ·rw [Ay (by simpa using hi)] at h2;rw [Bn] at h2
    split at h2 <;> cases h2
  have ha:vs[i]?=some v:=by
   unfold start at h2;rw [Az (by simpa using hi),Ai] at h2;cases e:vs[i]? with
   | none=>rw [e] at h2;cases h2
   | some a=>rw [e] at h2;cases h2;rfl
  obtain⟨u,hu,rv⟩:=r.get ha;have hp:ps[i]?=some y:=by
   rw [<- S.pre,List.getElem?_take_of_lt (by omega)];exact h1
  have ndP:ps.Nodup:=by rw [<- S.pre];exact S.nd.sublist (List.take_sublist _ _)
  refine⟨u,rv,?_⟩;rcases S.par y (A5 hp) with k | k
  ·exact .inl ⟨k,xr ndP hp hu k⟩
  ·obtain⟨c,e⟩:=G3 (n:=s.heap.objs.size+1) k;refine .inr ⟨.inl k,c,e,?_⟩;have q:=x.cell y c e;rw [xu ndP hp hu (by show scope.names.lookup y≠_;rw [k];decide)] at q;exact q
 ·exact e0.bD.fresh (DB (x.above y c (BF h)))
 ·unfold start;show _=N.length;rw [Ad,Af,A3];omega
def aau {CX:QC}{P:Program}{w:World}{K:Aa}{mg:Str->Option Value}{base:Heap}{k:Nat}{f:Addr}{name qual:Str}{params:Arguments}{body:List Stmt}{scope:Scope}{dV kV doc pm gw ct oc:Value}{an od:Option Addr}
  {Lx:Array (Option Value)}{N ps:List Str}{sp:Sp} (lk:K.lookup f=some ⟨oc,od,.func (B7 name qual params body scope dV kV doc pm an gw ct),Lx⟩) (iW:DE K gw qual=true) (S:ay N ps scope)
  (len:∀vs H Q E,sp vs H Q E->vs.length=ps.length)
  (O3:∀(A:Around) (outer:List Env) (s:Shared) (H:Hp) (vs:List V) (Q:VK) (E:XK),fY k (A.deeper (envOfC qual scope s.heap.objs.size f gw))->sp vs H Q E->
   ∃t,sQ (uX CX P w K mg base N qual scope f gw A outer s H E) body t/\t {nx:=fun _ H'=>Q .aU H',rt:=Q} (start N vs) H) :
  iu P w K mg base CX (k+1) f (B7 name qual params body scope dV kV doc pm an gw ct) ps sp:=by
 refine⟨len,fun A outer s H args us vs Q E hr e0 hb r SA=>?_⟩;have hl:=len _ _ _ _ SA;have KX:K.In s.heap:=e0.mod.kin.keeps fun b o e=>(e0.bs b o e).1;have lim:s.heap.NoLimit:=e0.mod.nolimit.keeps fun b o e=>(e0.bs b o e).1;have aab:∀y∈ps.zip us,scope.names.lookup y.1=some .local\/(scope.names.lookup y.1=some .cell/\((cellsFrom (s.heap.objs.size+1) scope.names []).lookup y.1).isSome=true):=fun ⟨n,v⟩ hy=>by
  rcases S.par n (EI hy).1 with q | q
  ·exact .inl q
  ·exact .inr ⟨q,Eo _ _ _ (.inl q)⟩
 refine codeAny_call_function hr.depth (KX _ _ lk) rfl S.co S.gen rfl (PySem.W.codeRec_of KX iW) (hb _ _ _ _ ?_);refine wpAny_newFunctionEnv_cells S.kind aab fun env he s1 x=>?_;subst he;refine⟨lim.keeps x.toInCall.keep,codeAny_func ?_⟩;obtain⟨t,ht,hq⟩:=O3 A outer s H vs Q E (hr.deeper _) SA;have I:Inv (uX CX P w K mg base N qual scope f gw A outer s H E) [] (start N vs) H s1:=LX S hr.hd e0 hl r x;refine BU (ht [] s1 (start N vs) H _ I hq) (fun fl s' hs=>?_) fun e s' hs=>hs;have fin:∀{σ':St}{H':Hp}{v:V}{u:Value},Inv (uX CX P w K mg base N qual scope f gw A outer s H E) [] σ' H' s'->RelV v u->Q v H'->CE outer P w H s Q u s':=
  fun {σ' H' v u} J rv q=>⟨v,H',J.os,J.bare,J.base,J.bD,rv,q⟩
 cases fl with
 | ret u=>
  obtain⟨v,σ',H',J,rv,q⟩:=hs;exact fin J rv q
 | next=>
  obtain⟨σ',H',J,q⟩:=hs;exact fin (v:=V.aU) (u:=Be) J rfl q
 | brk=>
  obtain⟨_,_,_,q⟩:=hs;exact Bk q
 | cont=>
  obtain⟨_,_,_,q⟩:=hs;exact Bk q
section
variable {X:Cx}{x:Str}{p pos:Pos}{e:Expr}{es:List Expr}{t:TA}{id T:String}{r:List V->Hp->VK->Prop}
def tCB (r:List V->Hp->VK->Prop) (t:TA):TE:=fun σ H Q=>t σ H fun vs H1=>r vs H1 Q
def e7 (hc:bL X (.builtin id) r) (hg:Gl X x) (hm:X.mg x=none) (hv:bootBuiltins x=some (.builtin id)) (ha:PA X (e::es) t) (hn:x≠"__name__":=by decide) (oU:(x==("__debug__":Str))=false:=by decide)
  (he:starEach (e::es) X.env=(false,eval e X.env)::starEach es X.env:=by rfl) (ef:(backTo pos (starEach es X.env)).any (·.1)=false:=by rfl):PE X (.Call (.Name x p) (e::es) [] pos) (tCB r t):=by
 intro pins s σ H Q I h;refine BN (jY I hg hm hv ?_ hn oU);exact PyProof.Rows.callWith_builtin1 (bM (ha pos pins s σ H _ I h) fun us s1 ⟨vs,H1,I1,r1,q1⟩=>hc pins s1 σ H1 vs us Q I1 r1 q1) he ef
def ml (hc:bL X (.type T) r) (hg:Gl X x) (hm:X.mg x=none) (hv:bootBuiltins x=some (.type T)) (ha:PA X (e::es) t) (hn:x≠"__name__":=by decide) (oU:(x==("__debug__":Str))=false:=by decide)
  (he:starEach (e::es) X.env=(false,eval e X.env)::starEach es X.env:=by rfl) (ef:(backTo pos (starEach es X.env)).any (·.1)=false:=by rfl):PE X (.Call (.Name x p) (e::es) [] pos) (tCB r t):=by
 intro pins s σ H Q I h;refine BN (jY I hg hm hv ?_ hn oU);exact Bb (bM (ha pos pins s σ H _ I h) fun us s1 ⟨vs,H1,I1,r1,q1⟩=>hc pins s1 σ H1 vs us Q I1 r1 q1) he ef
end
end L2
namespace HT
open PySem PyProof.Rows
section
variable {prog:Program}{w:World}{A:Around}{E:Value->Shared->Prop}{s:Shared}
def Tc {t b:Addr}{vs ws:List Value}{Q:Value->Shared->Prop} (ht:IsTup s.heap t vs.toArray) (hb:IsTup s.heap b ws.toArray) (hv:vs≠[])
  (h1:ws=[]->Q (.ref t) s) (h2:ws≠[]->Q (.ref s.heap.objs.size) {s with heap:=s.heap.push {cls:=.type "tuple",data:=.seq (vs++ws).toArray}})
  (hsz:vs.length+ws.length<=sizeLine):wpAny (model prog w) A (binaryOp .Add (.ref t) (.ref b)) Q E s:=by
 obtain⟨⟨cls,dd,data,sl⟩,ho,hc,n,hd⟩:=id ht;obtain⟨⟨aaT,dd2,data2,XC⟩,QJ,Uv,n2,hd2⟩:=id hb;simp only at hc hd Uv hd2;subst hc hd Uv hd2;have e:vs.toArray++ws.toArray=(vs++ws).toArray:=by simp
 by_cases hw:ws=[]
 ·exact concat_meets ⟨_,ho,rfl⟩ ⟨_,QJ,rfl⟩ noFill_tuple_add seq_tuple_add CO CI (Cz _ _)
   (tuple_addW1 t b vs.toArray ws.toArray n n2 dd dd2 sl XC (by simpa using hv) (by simp [hw])) ⟨ho,QJ,h1 hw⟩
 ·refine concat_meets ⟨_,ho,rfl⟩ ⟨_,QJ,rfl⟩ noFill_tuple_add seq_tuple_add CO CI (Cz _ _)
   (tuple_addW2 t b vs.toArray ws.toArray n n2 dd dd2 sl XC (by simpa using hv) (by simpa using hw) (by rw [Ag,Ag];exact hsz)) ⟨ho,QJ,?_⟩
  rw [e];exact h2 hw
def dz (n d:Nat):Option Int->Nat
 | none=>d
 | some v=>if v < 0 then (v+(n:Int)).toNat else min v.toNat n
theorem FV (n d:Nat):dz n d none=d:=rfl
def Rj (n d k:Nat):dz n d (some (k:Int))=min k n:=by
 show (if (k:Int) < 0 then ((k:Int)+(n:Int)).toNat else min (k:Int).toNat n)=min k n;rw [if_neg (by omega),AR]
def U8 (n d:Nat) (hd:d<=n) (o:Option Int):dz n d o<=n:=by
 cases o with
 | none=>exact hd
 | some v=>
  show (if v < 0 then (v+(n:Int)).toNat else min v.toNat n)<=n;by_cases hv:v < 0
  ·rw [if_pos hv];omega
  ·rw [if_neg hv];exact Nat.min_le_right _ _
def KL (v:Int) (n d:Nat):(if v < 0 then max (v+(n:Int)) 0 else min v (n:Int))=((dz n d (some v):Nat):Int):=by
 show (if v < 0 then max (v+(n:Int)) 0 else min v (n:Int))=(((if v < 0 then (v+(n:Int)).toNat else min v.toNat n):Nat):Int);by_cases hv:v < 0
 ·simp only [if_pos hv];omega
 ·simp only [if_neg hv];omega
def Jj (lo hi:Option Int) (n:Nat):Builtin.Slice.sliceAdjust lo hi 1 (n:Int)=(((dz n 0 lo:Nat):Int),((dz n n hi:Nat):Int)):=by
 have h1:¬((1:Int) < 0):=by omega
 unfold Builtin.Slice.sliceAdjust;simp only [h1,if_false];refine Prod.ext ?_ ?_
 ·cases lo with
  | none=>rfl
  | some v=>exact KL v n 0
 ·cases hi with
  | none=>rfl
  | some v=>exact KL v n n
def HP (i j:Nat):Builtin.Slice.slicePlaces (i:Int) (j:Int) 1=j-i:=by
 unfold Builtin.Slice.slicePlaces;have h1:(1:Int) > 0:=by omega
 simp only [h1,if_true,Int.ediv_one]
 split <;> omega
def tE {v:Value}{o:Option Int}{Q:Option Int->Shared->Prop} (p:IsPart v o) (h:Q o s):wpAny (model prog w) A (Builtin.Slice.slicePartIndex v) Q E s:=by
 cases p with
 | none=>exact slicePart_none h
 | int i t=>exact slicePart_int h
def jk {sl:Addr}{vl vu:Value}{lo hi:Option Int}{n:Nat}{Q:Int×Int×Nat->Shared->Prop} (hs:s.heap.IsSliceOf sl vl vu .none) (pl:IsPart vl lo) (pu:IsPart vu hi)
  (h:Q (((dz n 0 lo:Nat):Int),1,dz n n hi-dz n 0 lo) s):wpAny (model prog w) A (Builtin.Slice.sliceApplied (.ref sl) (pure (n:Int))) Q E s:=by
 obtain⟨os,MM,XQ,SH⟩:=id hs;unfold Builtin.Slice.sliceApplied Builtin.Slice.sliceFields;refine Ab (Ab (AV MM SH (x:=vl) rfl (Ab (AV MM SH (x:=vu) rfl (Ab (AV MM SH (x:=.none) rfl (Ah ?_)))))));refine Ab (slicePart_none ?_);show wpAny _ _ (if ((1:Int)==0)=true then _ else _) _ _ s;rw [if_neg (by decide)];refine Ab (tE pl (Ab (tE pu (Ab (Ah ?_)))));show wpAny _ _ (match Builtin.Slice.sliceAdjust lo hi 1 (n:Int) with | (lo,hi)=>pure (lo,(1:Int),Builtin.Slice.slicePlaces lo hi 1)) _ _ s;rw [Jj lo hi n];show wpAny _ _ (pure (((dz n 0 lo:Nat):Int),(1:Int),Builtin.Slice.slicePlaces ((dz n 0 lo:Nat):Int) ((dz n n hi:Nat):Int) 1)) _ _ s;rw [HP];exact Ah h
def NM (xs:Array Value) (i k:Nat):((AH k).filterMap fun (m:Nat)=>xs[((i:Int)+(m:Int)*1).toNat]?).toArray=((xs.toList.drop i).take k).toArray:=by
 have e:(fun (m:Nat)=>xs[((i:Int)+(m:Int)*1).toNat]?)=fun m=>xs[i+m]?:=by
  funext m;have:((i:Int)+(m:Int)*1).toNat=i+m:=by omega
  rw [this]
 rw [e];have:=pick_run xs i k;rw [List.filterMap_map] at this;have e2:((fun x=>xs[x]?)∘fun x=>i+x)=fun m=>xs[i+m]?:=rfl;rw [e2] at this;rw [this]
def oV {t sl:Addr}{items:Array Value}{vl vu:Value}{lo hi:Option Int}{Q:Value->Shared->Prop} (ht:IsTup s.heap t items) (hs:s.heap.IsSliceOf sl vl vu .none) (pl:IsPart vl lo) (pu:IsPart vu hi)
  (hw:¬(dz items.size 0 lo=0/\dz items.size items.size hi=items.size))
  (h:Q (.ref s.heap.objs.size) {s with heap:=s.heap.push {cls:=.type "tuple",data:=.seq ((items.toList.drop (dz items.size 0 lo)).take (dz items.size items.size hi-dz items.size 0 lo)).toArray}})
  (hsz:items.size<=sizeLine):wpAny (model prog w) A (getItem (.ref t) (.ref sl)) Q E s:=by
 have Kk:sizeOk (.seq ((items.toList.drop (dz items.size 0 lo)).take (dz items.size items.size hi-dz items.size 0 lo)).toArray):=by
  show ((items.toList.drop (dz items.size 0 lo)).take (dz items.size items.size hi-dz items.size 0 lo)).toArray.size<=sizeLine;rw [Ag,B1,Cv,Dz];omega
 have hj:dz items.size items.size hi<=items.size:=U8 _ _ (Am _) hi;obtain⟨os,MM,XQ,SH⟩:=id hs;have XT:s.TypeIs (.ref sl) "slice":=⟨os,MM,XQ⟩;unfold getItem
 try with_reducible refine Bi ?_
 first | refine Ab (Ah ?_) | skip
 refine Ab (DY ht.typeIs (by decide) ?_);refine Ab (AM (name:=B8 "__getitem__") ht.typeIs Bc
  (Bf Bc ht.typeIs entry_tuple_getitem ?_ (args_tuple_getitem _ _)))
 show wpAny _ _ (Builtin.Tuple.tupleItemsOf (.ref t) >>= _) _ _ s;refine Ab (tupleItemsOf_ ht ?_);refine Ab (B9 XT ?_);rw [if_pos (by decide)];refine Ab (jk hs pl pu ?_);have hno:¬((((dz items.size 0 lo:Nat):Int)==0&&(1:Int)==1&&(dz items.size items.size hi-dz items.size 0 lo)==items.size)=true):=by
  intro q;rw [AE,AE] at q;have q1:((dz items.size 0 lo:Nat):Int)=0:=eq_of_beq q.1.1;have q2:dz items.size items.size hi-dz items.size 0 lo=items.size:=eq_of_beq q.2;exact hw ⟨by omega,by omega⟩
 show wpAny _ _ (if (((dz items.size 0 lo:Nat):Int)==0&&(1:Int)==1&&(dz items.size items.size hi-dz items.size 0 lo)==items.size)=true then _ else _) _ _ s;rw [if_neg hno,NM]
 first
  | exact Ab (m:=Builtin.Tuple.tupleExact _) (Bh (Ah ⟨_,rfl,Ah h⟩) Kk)
  | exact Ab (m:=Builtin.Tuple.tupleExact _) (Bh (Ab (Ah (Ah ⟨_,rfl,Ah h⟩))) Kk)
  | exact Ab (Ab (m:=Builtin.Tuple.tupleExact _) (Bh (Ah (Ah ⟨_,rfl,Ah h⟩)) Kk))
  | exact Ab (Ab (m:=Builtin.Tuple.tupleExact _) (Bh (Ah ⟨_,rfl,Ah h⟩) Kk))
end
end HT
namespace L2
open PySem PySem.Spec PyProof.Rows
abbrev TO:=St->Hp->(Option Int->Hp->Prop)->Prop
def PO (X:Cx) (e:Option Expr) (t:TO):Prop:=
 ∀(pins:List (Addr×Obj)) (s:Shared) (σ:St) (H:Hp) (Q:Option Int->Hp->Prop),Inv X pins σ H s->t σ H Q->
  wpAny (model X.prog X.w) X.A (evalPart e X.env) (fun u s'=>∃o H',Inv X pins σ H' s'/\IsPart u o/\Q o H') X.xe s
def Q7:TO:=fun _ H Q=>Q none H
def YE (t:TE):TO:=fun σ H Q=>t σ H fun x H1=>∃i,x=.int i/\Q (some i) H1
def intsAre_of {ns:List Int}:∀{us:List Value},Vals (ns.map V.int) us->IntsAre us ns:=by
 induction ns with
 | nil=>intro us r;rw [Cu] at r;cases r;exact .nil
 | cons n ns ih=>
  intro us r;rw [Au] at r;cases r with
  | cons r1 r2=>
   obtain⟨t,e⟩:=r1;subst e;exact .cons n t (ih r2)
section
variable {X:Cx}{e:Expr}{te:TE}{lo hi:Option Expr}{tl th:TO}{pos p2:Pos}
def Rz:PO X none Q7:=by
 intro pins s σ H Q I h;rw [evalPart_none];exact Ah ⟨none,H,I,.none,h⟩
def Ry (h:PE X e te):PO X (some e) (YE te):=by
 intro pins s σ H Q I hw;rw [evalPart_some];refine bM (h pins s σ H _ I hw) fun u s1 ⟨x,H1,I1,r1,q1⟩=>?_;obtain⟨i,rfl,q⟩:=q1;obtain⟨t,rfl⟩:=r1;exact⟨some i,H1,I1,.int i t,q⟩
def SlR (X:Cx) (r:V->Option Int->Option Int->Hp->VK->Prop):Prop:=
 ∀(pins:List (Addr×Obj)) (s:Shared) (σ:St) (H:Hp) (x:V) (v vl vu:Value) (lo hi:Option Int) (sl:Addr) (Q:VK),Inv X pins σ H s->RelV x v->s.heap.IsSliceOf sl vl vu .none->IsPart vl lo->IsPart vu hi->r x lo hi H Q->
  ∃T id,typeLookup (.type T) "__getitem__"=pure (some (.builtin id))/\s.TypeIs v T/\wpAny (model X.prog X.w) X.A (getItem v (.ref sl)) (EP X pins σ Q) X.xe s
def tSl (r:V->Option Int->Option Int->Hp->VK->Prop) (te:TE) (tl th:TO):TE:=fun σ H Q=>te σ H fun x H1=>tl σ H1 fun l H2=>th σ H2 fun u H3=>r x l u H3 Q
def NS {r:V->Option Int->Option Int->Hp->VK->Prop} (hr:SlR X r) (he:PE X e te) (hl:PO X lo tl) (hu:PO X hi th):PE X (.Subscript e (.Slice lo hi none p2) pos) (tSl r te tl th):=by
 intro pins s σ H Q I h;refine Subscript_ (bM (he pins s σ H _ I h) fun v s1 ⟨x,H1,I1,r1,q1⟩=>?_);refine wpAny_Slice (bM (hl pins s1 σ H1 _ I1 q1) fun vl s2 ⟨l,H2,I2,pl,q2⟩=>bM (hu pins s2 σ H2 _ I2 q2) fun vu s3 ⟨u,H3,I3,pu,q3⟩=>?_);rw [evalPart_none];refine Ah ?_;have I4:Inv X pins σ H3 {s3 with heap:=s3.heap.push {cls:=.type "slice",data:=.fields #[vl,vu,.none]}}:=I3.kept (t':=s3.toks) fun b ob q=>Ak _ q;obtain⟨T,id,hT,ht,hg⟩:=hr pins {s3 with heap:=s3.heap.push {cls:=.type "slice",data:=.fields #[vl,vu,.none]}} σ H3 x v vl vu l u s3.heap.objs.size Q I4 r1 (Heap.IsSliceOf.new ..) pl pu q3;show wpAny (model X.prog X.w) X.A (subscriptTail e (.Slice lo hi none p2) v (.ref s3.heap.objs.size)) (EP X pins σ Q) X.xe {s3 with heap:=s3.heap.push {cls:=.type "slice",data:=.fields #[vl,vu,.none]}};exact tail_any (ops:=[.ref s3.heap.objs.size,v]) ht hT hg (by with_unfolding_all rfl)
def zA (xs:List V) (lo hi:Option Int):List V:=(xs.drop (HT.dz xs.length 0 lo)).take (HT.dz xs.length xs.length hi-HT.dz xs.length 0 lo)
def q8 (xs:List V) (lo hi:Option Int):(zA xs lo hi).length<=xs.length:=by
 unfold zA;rw [B1,Cv];omega
def acQ (K:Aa):V->Option Int->Option Int->Hp->VK->Prop:=fun x lo hi H Q=>∃a xs,x=.ref a/\dc K H a xs/\
 ¬(HT.dz xs.length 0 lo=0/\HT.dz xs.length xs.length hi=xs.length)/\∀p,H p=none->Q (.ref p) (upd H p (.tup (zA xs lo hi)))
def U5:SlR X (acQ X.K):=by
 intro pins s σ H x v vl vu lo hi sl Q I rx hs pl pu h;obtain⟨a,xs,rfl,hx,hw,q⟩:=h;cases rx;obtain⟨ar,r,ht,hz⟩:=I.tuple hx;have hlen:ar.toArray.size=xs.length:=by rw [Ag];exact r.length.symm
 refine⟨"tuple",_,Bc.lookup,ht.typeIs,?_⟩;refine HT.oV ht hs pl pu (by rw [hlen];exact hw) ?_ (by rw [hlen];exact hz);rw [hlen];refine⟨.ref s.heap.objs.size,_,I.laid (t':=s.toks) (o:=.tup (zA xs lo hi)) (fun b ob q=>Ak _ q) (Am _) ?_,rfl,q _ (I.bD.fresh (Am _))⟩;exact⟨Bm (q8 xs lo hi) hz,_,(r.drop (HT.dz xs.length 0 lo)).take (HT.dz xs.length xs.length hi-HT.dz xs.length 0 lo),IsTup.new _ _⟩
def Ua (K:Aa):R2:=fun x y H Q=>∃a b xs ys,x=.ref a/\y=.ref b/\dc K H a xs/\dc K H b ys/\xs≠[]/\xs.length+ys.length<=sizeLine/\
 (ys=[]->Q (.ref a) H)/\(ys≠[]->∀p,H p=none->Q (.ref p) (upd H p (.tup (xs++ys))))
def Vals.jU {xs:List V}{us:List Value} (r:Vals xs us):us=[]↔xs=[]:=by
 cases r with
 | nil=>simp
 | cons _ _=>simp
def J0:jE X (binaryOp .Add) (Ua X.K):=by
 intro pins s σ H x y v u Q I rx ry h;obtain⟨a,b,xs,ys,rfl,rfl,ha,hb,hx,hz,q1,q2⟩:=h;cases rx;cases ry;obtain⟨ar,r1,p1,_⟩:=I.tuple ha;obtain⟨bN,r2,p2,_⟩:=I.tuple hb;refine HT.Tc p1 p2 (fun z=>hx (r1.jU.mp z)) (fun z=>⟨.ref a,H,I,rfl,q1 (r2.jU.mp z)⟩) (fun z=>?_) (by rw [<- r1.length,<- r2.length];exact hz);refine⟨.ref s.heap.objs.size,_,I.laid (t':=s.toks) (o:=.tup (xs++ys)) (fun b ob q=>Ak _ q) (Am _) ?_,rfl,q2 (fun w=>z (r2.jU.mpr w)) _ (I.bD.fresh (Am _))⟩;exact⟨by rw [Ad];exact hz,_,r1.append r2,IsTup.new _ _⟩
end
def qV (n:Nat) (i:Int):Option Nat:=if 0<=i then (if i < n then some i.toNat else none) else if -(n:Int)<=i then some (i+n).toNat else none
def cI {α:Type} (xs:List α) (i:Int):Option α:=(qV xs.length i).bind fun j=>xs[j]?
def yS {n:Nat}{i:Int}{j:Nat} (h:qV n i=some j):seqIndex? i n=some j/\j < n/\-(n:Int)<=i/\i < n:=by
 unfold qV at h;by_cases h0:0<=i
 ·rw [if_pos h0] at h;by_cases h1:i < n
  ·rw [if_pos h1] at h;have e:i.toNat=j:=Option.some.inj h;exact⟨by rw [seqIndex_of h0 h1,e],by omega,by omega,h1⟩
  ·rw [if_neg h1] at h;cases h
 ·rw [if_neg h0] at h;by_cases h1:-(n:Int)<=i
  ·rw [if_pos h1] at h;have e:(i+n).toNat=j:=Option.some.inj h;exact⟨by rw [seqIndex_neg (by omega) h1,e],by omega,h1,by omega⟩
  ·rw [if_neg h1] at h;cases h
def zI {α:Type}{xs:List α}{i:Int}{v:α} (h:cI xs i=some v):∃j,seqIndex? i xs.length=some j/\xs[j]?=some v/\j < xs.length/\-(xs.length:Int)<=i/\i < xs.length:=by
 unfold cI at h;cases e:qV xs.length i with
 | none=>rw [e] at h;cases h
 | some j=>
  rw [e] at h;obtain⟨h1,h2,h3,h4⟩:=yS e;exact⟨j,h1,h,h2,h3,h4⟩
def eB {α:Type}{xs:List α}{j:Nat}{v:α} (h:xs[j]?=some v):cI xs (j:Int)=some v:=by
 have hj:j < xs.length:=(Aj.mp h).1;have e:qV xs.length (j:Int)=some j:=by
  unfold qV;rw [if_pos (by omega),if_pos (by omega)];simp
 unfold cI;rw [e];exact h
def Qq {α:Type} (xs:List α) (v:α):cI (xs++[v]) (-1)=some v:=by
 have hl:(xs++[v]).length=xs.length+1:=by simp
 have e:qV (xs++[v]).length (-1)=some xs.length:=by
  unfold qV;rw [hl,if_neg (by decide),if_pos (by omega)];congr 1;omega
 unfold cI;rw [e];show (xs++[v])[xs.length]?=some v;simp
def sP (b:Expr):Prop:=∀o i,subscripted b false o i=operate [o,i] (getItem o i)
def QO (X:Cx) (r:R2):Prop:=
 ∀(value slice:Expr) (pins:List (Addr×Obj)) (s:Shared) (σ:St) (H:Hp) (x y:V) (v u:Value) (Q:VK),Inv X pins σ H s->RelV x v->RelV y u->r x y H Q->
  subscripted slice false v u=operate [v,u] (getItem v u)->wpAny (model X.prog X.w) X.A (subscriptTail value slice v u) (EP X pins σ Q) X.xe s
def MtR (X:Cx) (id:String) (r:V->List V->Hp->VK->Prop):Prop:=
 ∀(pins:List (Addr×Obj)) (s:Shared) (σ:St) (H:Hp) (x:V) (xs:List V) (v:Value) (us:List Value) (Q:VK),Inv X pins σ H s->RelV x v->Vals xs us->r x xs H Q->
  wpAny (model X.prog X.w) X.A (call (.builtin id) (v::us)) (EP X pins σ Q) X.xe s
section
variable {X:Cx}{a b:Expr}{ta tb:TE}{pos:Pos}
def QO.or {r r':R2} (h:QO X r) (h':QO X r'):QO X (fun x y H Q=>r x y H Q\/r' x y H Q):=by
 intro value slice pins s σ H x y v u Q I rx ry q hs;rcases q with q | q
 ·exact h value slice pins s σ H x y v u Q I rx ry q hs
 ·exact h' value slice pins s σ H x y v u Q I rx ry q hs
def NT {r:R2} (hr:QO X r) (ha:PE X a ta) (hb:PE X b tb) (hs:sP b):PE X (.Subscript a b pos) (U0 r ta tb):=by
 intro pins s σ H Q I h;exact Subscript_ (Xk ha hb I h fun v u s2 x y H2 I2 rx ry q=>hr a b pins s2 σ H2 x y v u Q I2 rx ry q (hs _ _))
def Y9 (K:Aa):R2:=fun x y H Q=>∃p xs i v,x=.ref p/\y=.int i/\cT K H p xs/\cI xs i=some v/\Q v H
def Y8 (K:Aa):R2:=fun x y H Q=>∃p xs i v,x=.ref p/\y=.int i/\dc K H p xs/\cI xs i=some v/\Q v H
def Vk:R2:=fun x y H Q=>∃z i c,x=.str z/\y=.int i/\z.length<=sizeLine/\cI z.cps.toList i=some c/\Q (.str ⟨#[c]⟩) H
def Sn:QO X (Y9 X.K):=by
 intro value slice pins s σ H x y v u Q I rx ry h hs;obtain⟨p,xs,i,z,rfl,rfl,hq,he,q⟩:=h;cases rx;obtain⟨t,rfl⟩:=ry;obtain⟨ar,r,pl,hz⟩:=I.list hq;obtain⟨j,h1,h2,h3,h4,h5⟩:=zI he;obtain⟨w,ew,iU⟩:=r.get h2;have hl:=r.length;have hn:=qi;have fin:EP X pins σ Q w s:=⟨z,H,I,iU,q⟩;by_cases h0:0<=i
 ·have hj:i.toNat=j:=by
   rw [seqIndex_of h0 h5] at h1;exact Option.some.inj h1
  exact item_listR pl.isList h0 (by omega) (by rw [hj];simpa using ew) fin hs
 ·have hj:(i+(ar.toArray.size:Int)).toNat=j:=by
   rw [seqIndex_neg (by omega) h4] at h1;rw [Ag,<- hl];exact Option.some.inj h1
  exact subscriptTail_builtinR (x:=w) pl.isList.typeIs slot_list_getitem.lookup
   (wpAny_getItem_list_neg (Q:=fun r s'=>r=w/\EP X pins σ Q r s') pl.isList (by omega) (by rw [Ag] <;> omega) (by omega) (by rw [hj];simpa using ew) ⟨rfl,fin⟩) hs
def Wm:QO X (Y8 X.K):=by
 intro value slice pins s σ H x y v u Q I rx ry h hs;obtain⟨p,xs,i,z,rfl,rfl,hq,he,q⟩:=h;cases rx;obtain⟨t,rfl⟩:=ry;obtain⟨ar,r,pl,hz⟩:=I.tuple hq;obtain⟨j,h1,h2,h3,h4,h5⟩:=zI he;obtain⟨w,ew,iU⟩:=r.get h2;have hl:=r.length;have hn:=qi;have fin:EP X pins σ Q w s:=⟨z,H,I,iU,q⟩;exact subscriptTail_builtinR (x:=w) pl.typeIs slot_tuple_getitem.lookup
  (getItem_tuple (j:=j) (Q:=fun r s'=>r=w/\EP X pins σ Q r s') pl (by omega) (by omega) (by rw [Ag,<- hl];exact h1) (by simpa using ew) ⟨rfl,fin⟩) hs
def OI:QO X Vk:=by
 intro value slice pins s σ H x y v u Q I rx ry h hs;obtain⟨z,i,c,rfl,rfl,hz,he,q⟩:=h;obtain⟨t,rfl⟩:=rx;obtain⟨t',rfl⟩:=ry;obtain⟨j,h1,h2,h3,h4,h5⟩:=zI he;have hl:z.cps.toList.length=z.length:=by simp [Str.length]
 rw [hl] at h1 h4 h5;have hn:=qi;exact tail_any (typeIs_str s z t) slot_str_getitem.lookup (getItem_str (c:=c) (by
  have e1:decide (i < -(2 ^ 63:Int))=false:=decide_eq_false (by omega);have e2:decide (i≥2 ^ 63)=false:=decide_eq_false (by omega);rw [e1,e2,Bool.or_false]) (by rw [h1];simpa using h2) ⟨.str ⟨#[c]⟩,H,I.tok _,⟨_,rfl⟩,q⟩) hs
def rIx (K:Aa):R2:=fun x y H Q=>Y9 K x y H Q\/Y8 K x y H Q\/Vk x y H Q
def Wn:QO X (rIx X.K):=Sn.or (Wm.or OI)
def Ib (ar:List Value) (n j:Nat) (u:Value):Cb (·.setIfInBounds j u) {cls:=.type "list",data:=.seq ar.toArray n}={cls:=.type "list",data:=.seq (ar.set j u).toArray n}:=by
 simp [Cb]
def Inv.lst {pins:List (Addr×Obj)}{σ:St}{H:Hp}{s:Shared}{p:Addr}{xs:List V} (I:Inv X pins σ H s) (h:H p=some (.lst xs)) :
  ∃(ar:List Value) (n:Nat),Vals xs ar/\s.heap.get? p=some {cls:=.type "list",data:=.seq ar.toArray n}/\xs.length<=sizeLine:=by
 obtain⟨z,ar,n,r,e⟩:=I.bD p _ h;exact⟨ar,n,r,e,z⟩
def Inv.V1 {pins:List (Addr×Obj)}{σ:St}{H:Hp}{s:Shared}{p:Addr}{xs ys:List V}{ar its':List Value}{n n':Nat}{f:Obj->Obj} (I:Inv X pins σ H s) (h:H p=some (.lst xs))
  (ho:s.heap.get? p=some {cls:=.type "list",data:=.seq ar.toArray n}) (hf:f {cls:=.type "list",data:=.seq ar.toArray n}={cls:=.type "list",data:=.seq its'.toArray n'}) (r:Vals ys its') (hz:ys.length<=sizeLine) (t:Nat) :
  Inv X pins σ (upd H p (.lst ys)) {s with heap:=s.heap.update p f,toks:=t}:=by
 have e:(s.heap.update p f).get? p=some {cls:=.type "list",data:=.seq its'.toArray n'}:=by
  rw [Co f ho (by rw [hf] <;> rfl),hf]
 refine I.write (x:=p) (e:=p) (by rw [h];trivial) (.inl rfl) (fun b u hb q=>(CN _ _ (Bw hb)).trans q) ⟨_,e⟩ ?_;exact⟨hz,its',n',r,e⟩
def Y6:V->V->V->Hp->(Hp->Prop)->Prop:=fun o i v H Q=>∃p xs k j,o=.ref p/\i=.int k/\H p=some (.lst xs)/\qV xs.length k=some j/\Q (upd H p (.lst (xs.set j v)))
def set_list:Hi X Y6:=by
 intro pins s σ H o i v ov iv u Q I ro ri rv h;obtain⟨p,xs,k,j,rfl,rfl,hp,hj,q⟩:=h;cases ro;obtain⟨t,rfl⟩:=ri;obtain⟨ar,n,r,ho,hz⟩:=I.lst hp;obtain⟨h1,h2,h3,h4⟩:=yS hj;have hl:=r.length;have hn:=qi;have I':Inv X pins σ (upd H p (.lst (xs.set j v))) {s with heap:=s.heap.update p (Cb (·.setIfInBounds j u))}:=
  I.V1 hp ho (Ib ar n j u) (r.set rv j) (by rw [BV];exact hz) s.toks
 by_cases h0:0<=k
 ·have hk:k.toNat=j:=by
   rw [seqIndex_of h0 h4] at h1;exact Option.some.inj h1
  exact PySem.W.ki_setAt ho h0 (by omega) (by rw [Ag,<- hl];exact h4) (by rw [hk];exact⟨_,I',q⟩)
 ·have hk:(k+(ar.toArray.size:Int)).toNat=j:=by
   rw [seqIndex_neg (by omega) h3] at h1;rw [Ag,<- hl];exact Option.some.inj h1
  exact PySem.W.ki_setBack ho (by omega) (by rw [Ag,<- hl];exact h3) (by omega) (by rw [hk];exact⟨_,I',q⟩)
def ya (lo hi:Option Int) (n:Nat):(sliceBounds lo hi none n).1=((HT.dz n 0 lo:Nat):Int)/\(sliceBounds lo hi none n).2.1=((HT.dz n n hi:Nat):Int)/\(sliceBounds lo hi none n).2.2=1:=by
 refine⟨?_,?_,rfl⟩
 ·cases lo with
  | none=>simp [sliceBounds,HT.dz]
  | some i=>
   simp only [sliceBounds,HT.dz,Ed,show (1:Int) > 0 by decide,if_true];by_cases h:i < 0
   ·simp only [h,if_true] <;> omega
   ·simp only [h,if_false] <;> omega
 ·cases hi with
  | none=>simp [sliceBounds,HT.dz]
  | some i=>
   simp only [sliceBounds,HT.dz,Ed,show (1:Int) > 0 by decide,if_true];by_cases h:i < 0
   ·simp only [h,if_true] <;> omega
   ·simp only [h,if_false] <;> omega
def vK (ar:List Value) (lo hi:Option Int):slicePick ar.toArray lo hi none=((ar.drop (HT.dz ar.length 0 lo)).take (HT.dz ar.length ar.length hi-HT.dz ar.length 0 lo)).toArray:=by
 obtain⟨h1,h2,h3⟩:=ya lo hi ar.toArray.size;unfold slicePick;rw [h1,h2,h3];simp only [sliceRange_one,pick_run,Ag] <;> rfl
def acR (K:Aa):V->Option Int->Option Int->Hp->VK->Prop:=fun x lo hi H Q=>∃a xs,x=.ref a/\cT K H a xs/\∀p,H p=none->Q (.ref p) (upd H p (.lst (zA xs lo hi)))
def abi:SlR X (acR X.K):=by
 intro pins s σ H x v vl vu lo hi sl Q I rx hs pl pu h;obtain⟨a,xs,rfl,hx,q⟩:=h;cases rx;obtain⟨ar,r,ht,hz⟩:=I.list hx;have hlen:=r.length;refine⟨"list",_,slot_list_getitem.lookup,ht.isList.typeIs,?_⟩;refine wpAny_getItem_list_slice ht.isList hs pl pu .none (by simp) ?_ (by rw [Ag] <;> omega);rw [vK,<- hlen];refine⟨.ref s.heap.objs.size,_,I.laid (t':=s.toks) (o:=.lst (zA xs lo hi)) (fun b ob q=>Ak _ q) (Am _) ?_,rfl,q _ (I.bD.fresh (Am _))⟩;exact⟨Bm (q8 xs lo hi) hz,_,0,(r.drop (HT.dz xs.length 0 lo)).take (HT.dz xs.length xs.length hi-HT.dz xs.length 0 lo),An _ rfl⟩
def zD:bL X (.type "list") (fun xs H Q=>∃p ys,xs=[.ref p]/\(cT X.K H p ys\/dc X.K H p ys)/\∀l,H l=none->Q (.ref l) (upd H l (.lst ys))):=by
 intro pins s σ H xs us Q I r h;obtain⟨p,ys,rfl,hq,q⟩:=h;obtain⟨u,rfl,rx⟩:=vals1 r;cases rx;have fin:∀(ar:List Value),Vals ys ar->ys.length<=sizeLine->∀(h':Heap) (c':Nat),(∀b o',s.heap.get? b=some o'->h'.get? b=some o')->
   h'.get? s.heap.objs.size=some {cls:=.type "list",dict:=none,data:=.seq ar.toArray c',slots:=#[]}->EP X pins σ Q (.ref s.heap.objs.size) {s with heap:=h'}:=fun ar r' hz h' c' kp e=>
  ⟨.ref s.heap.objs.size,_,I.laid (t':=s.toks) kp (Am _) (show bh X.prog X.w _ h' _ (.lst ys) from⟨hz,ar,c',r',e⟩),rfl,q _ (I.bD.fresh (Am _))⟩
 rcases hq with hq | hq
 ·obtain⟨ar,r',pl,hz⟩:=I.list hq;have hlen:=r'.length;obtain⟨o,ho,hc,n,hd⟩:=pl.isList;exact call_list_seq p (.inl rfl) ho hc hd (fun h' c' kp e=>fin ar r' hz h' c' kp e) (by simp only [Ag] <;> omega)
 ·obtain⟨ar,r',pl,hz⟩:=I.tuple hq;have hlen:=r'.length;obtain⟨o,ho,hc,n,hd⟩:=pl;exact call_list_seq p (.inr rfl) ho hc hd (fun h' c' kp e=>fin ar r' hz h' c' kp e) (by simp only [Ag] <;> omega)
def wz:bL X (.type "tuple") (fun xs H Q=>∃p ys,xs=[.ref p]/\((cT X.K H p ys/\∀l,H l=none->Q (.ref l) (upd H l (.tup ys)))\/(dc X.K H p ys/\Q (.ref p) H))):=by
 intro pins s σ H xs us Q I r h;obtain⟨p,ys,rfl,h⟩:=h;obtain⟨u,rfl,rx⟩:=vals1 r;cases rx;rcases h with⟨hq,q⟩ | ⟨hq,q⟩
 ·obtain⟨ar,r',pl,hz⟩:=I.list hq;have hlen:=r'.length;refine call_tuple_list pl.isList (fun h' kp=>?_) (by simp only [Ag] <;> omega);have I1:Inv X pins σ H {s with heap:=h'}:=I.kept (t':=s.toks) kp;have I2:Inv X pins σ (upd H h'.objs.size (.tup ys)) {s with heap:=h'.push {cls:=.type "tuple",data:=.seq ar.toArray}}:=
   I1.laid (t':=s.toks) (fun b o e=>Ak _ e) (Am _) (show bh X.prog X.w _ _ _ (.tup ys) from⟨hz,ar,r',IsTup.new _ _⟩)
  exact⟨.ref h'.objs.size,_,I2,rfl,q _ (I1.bD.fresh (Am _))⟩
 ·obtain⟨ar,r',pl,hz⟩:=I.tuple hq;exact call_tuple_same pl ⟨.ref p,H,I,rfl,q⟩
def tyV (K:Aa) (T:String) (x:V) (H:Hp):Prop:=match x with
 | .str _=>T="str"
 | .int _=>T="int"
 | .ref p=>(T="list"/\∃xs,cT K H p xs)\/(T="tuple"/\∃o,K.lookup p=some o/\o.cls=.type "tuple"/\o.dict=none)\/
   (T="dict"/\((∃kvs,H p=some (.dK kvs))\/∃kvs,H p=some (.dT kvs)))\/(T="set"/\∃S n,H p=some (.set S n))
 | _=>False
def MZ {pins:List (Addr×Obj)}{σ:St}{H:Hp}{s:Shared}{T:String}{x:V}{v:Value} (I:Inv X pins σ H s) (r:RelV x v) (ty:tyV X.K T x H) :
  s.TypeIs v T/\∀a,v=.ref a->∃ob,s.heap.get? a=some ob/\ob.dict=none:=by
 cases x with
 | str z=>
  obtain⟨t,rfl⟩:=r;cases (show T="str" from ty);exact⟨typeIs_str s z t,fun _ e=>nomatch e⟩
 | int i=>
  obtain⟨t,rfl⟩:=r;cases (show T="int" from ty);exact⟨typeIs_int s i t,fun _ e=>nomatch e⟩
 | ref p=>
  cases r;rcases ty with⟨rfl,xs,hq⟩ | ⟨rfl,o,hk,hc,hd⟩ | ⟨rfl,hk⟩ | ⟨rfl,S,n,hk⟩
  ·obtain⟨ar,_,pl,_⟩:=I.list hq;refine⟨pl.isList.typeIs,fun a e=>?_⟩;cases e;obtain⟨o,n,e,c,hd,_⟩:=pl;exact⟨o,e,hd⟩
  ·refine⟨⟨o,I.xa p o hk,hc⟩,fun a e=>?_⟩;cases e;exact⟨o,I.xa _ o hk,hd⟩
  ·have z:∃o,s.heap.get? p=some o/\o.ExactDict:=by
    rcases hk with⟨kvs,hk⟩ | ⟨kvs,hk⟩
    ·obtain⟨_,_,_,_,o,_,_,e,ex,_⟩:=I.bD p _ hk;exact⟨o,e,ex⟩
    ·obtain⟨_,_,_,_,o,_,_,e,ex,_⟩:=I.bD p _ hk;exact⟨o,e,ex⟩
   obtain⟨o,e,ex⟩:=z;refine⟨⟨o,e,ex.1⟩,fun a e2=>?_⟩;cases e2;exact⟨o,e,ex.2.1⟩
  ·obtain⟨o,_,_,_,e,ex,_⟩:=I.bD p _ hk;refine⟨⟨o,e,ex.1⟩,fun a e2=>?_⟩;cases e2;exact⟨o,e,ex.2.1⟩
 | _=>exact Bk ty
def YO (K:Aa) (T:String) (r:V->List V->Hp->VK->Prop) (to:TE):TE:=fun σ H Q=>to σ H fun x H1=>tyV K T x H1/\r x [] H1 Q
def tBM (K:Aa) (T:String) (r:V->List V->Hp->VK->Prop) (to:TE) (t:TA):TE:=fun σ H Q=>to σ H fun x H1=>tyV K T x H1/\t σ H1 fun xs H2=>r x xs H2 Q
variable {o e:Expr}{es:List Expr}{to:TE}{t:TA}{name:Str}{apos bo:Pos}{T id:String}{r:V->List V->Hp->VK->Prop}
def Vy (pa:PlainAttrs T) (slot:Slot T name id) (Wx:typeOf (.builtin id)=pure (.type "method_descriptor")) (hm:MtR X id r) (ho:PE X o to)
  (fg:attributeBase o name X.env (eval o X.env)=eval o X.env:=by rfl) (fe:(apos.endLine==bo.line)=true:=by rfl):PE X (.Call (.Attribute o name apos) [] [] bo) (YO X.K T r to):=by
 intro pins s σ H Q I h;refine wpAny_Call_method0_late fg fe (bM (ho pins s σ H _ I h) fun v s1 ⟨x,H1,I1,r1,ty,q1⟩=>?_);obtain⟨h1,h2⟩:=MZ I1 r1 ty;exact⟨T,id,pa,slot,Wx,h1,h2,Er rfl (PySem.evalArgs_none (hm pins s1 σ H1 x [] v [] Q I1 r1 .nil q1))⟩
def Zn (pa:PlainAttrs T) (slot:Slot T name id) (Wx:typeOf (.builtin id)=pure (.type "method_descriptor")) (hm:MtR X id r) (ho:PE X o to) (ha:PA X (e::es) t)
  (fg:attributeBase o name X.env (eval o X.env)=eval o X.env:=by rfl)
  (qt:((backTo bo (starEach (e::es) X.env)).all (fun x=>!x.1)&&(backToKw bo (keywordEach [] X.env)).all (fun x=>x.1.isSome)
   && decide ((e::es).length+([]:List Keyword).length+(if ([]:List Keyword).isEmpty then 0 else 1) < 30))=true:=by rfl)
  (fe:(apos.endLine==bo.line)=true:=by rfl) (hs:starEach (e::es) X.env=(false,eval e X.env)::starEach es X.env:=by rfl) (fP:(backTo bo (starEach es X.env)).any (·.1)=false:=by rfl) :
  PE X (.Call (.Attribute o name apos) (e::es) [] bo) (tBM X.K T r to t):=by
 intro pins s σ H Q I h;refine wpAny_Call_method_late fg qt fe rfl (bM (ho pins s σ H _ I h) fun v s1 ⟨x,H1,I1,r1,ty,q1⟩=>?_);obtain⟨h1,h2⟩:=MZ I1 r1 ty;refine⟨T,id,pa,slot,Wx,h1,h2,?_⟩;have hA:=ha bo pins s1 σ H1 _ I1 q1;rw [hs] at hA ⊢;refine Er (by show (false||(backTo bo (starEach es X.env)).any (·.1))=false;rw [fP] <;> rfl) (Calls.evalArgs_plain ?_);exact bM hA fun us s2 ⟨vs,H2,I2,r2,q2⟩=>hm pins s2 σ H2 x vs v us Q I2 r1 r2 q2
end
def MB (X:Cx) (id:String) (r:V->List V->Hp->VK->Prop):Prop:=
 ∀(pins:List (Addr×Obj)) (s:Shared) (σ:St) (H:Hp) (x:V) (xs:List V) (v:Value) (us:List Value) (Q:VK),Inv X pins σ H s->RelV x v->Vals xs us->r x xs H Q->
  wpAny (model X.prog X.w) X.A (call (.builtin id) (v::us)) (EP X pins σ Q) X.xe s
def Vals.one:∀{x:V}{us:List Value},Vals [x] us->∃u,us=[u]/\RelV x u
 | _,_,.cons r .nil=>⟨_,rfl,r⟩
def Vals.zero:∀{us:List Value},Vals [] us->us=[]
 | _,.nil=>rfl
def Vals.dropLast {xs:List V}{us:List Value} (h:Vals xs us):Vals xs.dropLast us.dropLast:=by
 induction h with
 | nil=>exact .nil
 | cons r t ih=>
  cases t with
  | nil=>exact .nil
  | cons q t'=>exact .cons r ih
theorem Vals.rep {xs:List V}{us:List Value} (h:Vals xs us):∀k:Nat,Vals (Al k xs).flatten (Al k us).flatten
 | 0=>.nil
 | k+1=>by
  rw [Bl,Bl,BS,BS];exact Vals.append h (Vals.rep h k)
def IU {α:Type} (l:List α):l.eraseIdx (l.length-1)=l.dropLast:=by
 induction l with
 | nil=>rfl
 | cons a r ih=>
  cases r with
  | nil=>rfl
  | cons b r=>
   have e:(a::b::r).length-1=((b::r).length-1)+1:=by
    have h1:(a::b::r).length=r.length+2:=rfl;have h2:(b::r).length=r.length+1:=rfl;omega
   rw [e,List.eraseIdx_cons_succ,ih]
   all_goals rfl
theorem foldl_rep (ar:List Value):∀(k:Nat) (acc:List Value),
  List.foldl (fun x1 x2=>x1++x2) acc.toArray (Al k ar.toArray)=(acc++(Al k ar).flatten).toArray
 | 0,acc=>by simp
 | k+1,acc=>by
  have e:acc.toArray++ar.toArray=(acc++ar).toArray:=by simp
  have e2:(acc++ar)++(Al k ar).flatten=acc++(Al (k+1) ar).flatten:=by
   rw [Bl,BS,A7]
  rw [<- e2,<- foldl_rep ar k (acc++ar),<- e,Bl,List.foldl_cons]
section
variable {X:Cx}{pins:List (Addr×Obj)}{σ:St}{H:Hp}{s:Shared}{l:Addr}{xs ys:List V}
def Inv.Ic {ar its':List Value}{n:Nat}{f:Array Value->Array Value}{t':Nat} (I:Inv X pins σ H s) (hH:H l=some (.lst xs))
  (e:s.heap.get? l=some {cls:=.type "list",data:=.seq ar.toArray n}) (hf:f ar.toArray=its'.toArray) (hv:Vals ys its') (hz:ys.length<=sizeLine) :
  Inv X pins σ (upd H l (.lst ys)) {s with heap:=s.heap.update l (Cb f),toks:=t'}:=by
 have q:=PySem.IsL.update e f;rw [hf] at q;refine I.write (x:=l) (e:=l) (by rw [hH];exact trivial) (.inl rfl) (fun b' u hb hu=>(CN s.heap (Cb f) (Bw hb)).trans hu) ⟨_,q⟩ ?_;exact⟨hz,its',_,hv,q⟩
def Inv.V4 {ar:List Value}{t':Nat} (I:Inv X pins σ H s) (hv:Vals ys ar) (hz:ys.length<=sizeLine) :
  Inv X pins σ (upd H s.heap.objs.size (.lst ys)) {s with heap:=s.heap.push {cls:=.type "list",data:=.seq ar.toArray},toks:=t'}:=
 I.laid (fun _ _ q=>Ak _ q) (Am _) ⟨hz,ar,0,hv,An _ rfl⟩
def Inv.fresh (I:Inv X pins σ H s):H s.heap.objs.size=none:=I.bD.fresh (Am _)
def Inv.qa (I:Inv X pins σ H s) (hH:H l=some (.lst xs)):xs.length<=sizeLine/\∃(ar:List Value) (n:Nat),Vals xs ar/\xs.length=ar.length/\s.heap.get? l=some {cls:=.type "list",data:=.seq ar.toArray n}:=by
 obtain⟨z,ar,n,r,e⟩:=I.bD l _ hH;exact⟨z,ar,n,r,r.length,e⟩
def jt {n:Nat} (h:n<=sizeLine):Builtin.List.listTooLong n=false:=by
 unfold Builtin.List.listTooLong;exact decide_eq_false (by omega)
end
section
variable {X:Cx}
def Rr:V->List V->Hp->VK->Prop:=fun x vs H Q=>∃l xs y,x=.ref l/\vs=[y]/\H l=some (.lst xs)/\xs.length < sizeLine/\Q .aU (upd H l (.lst (xs++[y])))
def LC:MB X "list.append" Rr:=by
 intro pins s σ H x vs v us Q I rx rv h;obtain⟨l,xs,y,rfl,rfl,hH,hz,q⟩:=h;cases rx;obtain⟨u,rfl,ru⟩:=rv.one;obtain⟨z,ar,n,r,hl,e⟩:=I.qa hH;refine call_meets F.slot_list_append ⟨_,e,rfl⟩ F.entry_list_append (F.args_list_append_2 _ _) (PySem.list_append l ar.toArray n u (by rw [Ag];omega)) ⟨e,?_⟩;refine⟨.aU,_,I.Ic (its':=ar++[u]) hH e (by simp) (r.append (.cons ru .nil)) ?_,rfl,q⟩;rw [Ad,EN];omega
def Rp:V->List V->Hp->VK->Prop:=fun x vs H Q=>∃l b xs zs,x=.ref l/\vs=[.ref b]/\H l=some (.lst xs)/\H b=some (.lst zs)/\xs.length+zs.length<=sizeLine/\Q .aU (upd H l (.lst (xs++zs)))
def XF:MB X "list.extend" Rp:=by
 intro pins s σ H x vs v us Q I rx rv h;obtain⟨l,b,xs,zs,rfl,rfl,hH,hB,hz,q⟩:=h;cases rx;obtain⟨u,rfl,ru⟩:=rv.one;cases ru;obtain⟨z,ar,n,r,hl,e⟩:=I.qa hH;obtain⟨z2,bN,n2,r2,QK,e2⟩:=I.qa hB;have hsz:ar.toArray.size+bN.toArray.size<=sizeLine:=by rw [Ag,Ag];omega
 have uB:¬(!ar.toArray.isEmpty&&Builtin.List.listTooLong (ar.toArray.size+bN.toArray.size))=true:=by
  rw [jt hsz,DS];exact AI
 refine call_meets DH ⟨_,e,rfl⟩ Dx (De _ _)
  (AutoSeq1.list_extend_list_list_0 l ar.toArray n b bN.toArray n2 uB (by rw [Ag];omega) (by omega)) ⟨e,e2,?_⟩
 refine⟨.aU,_,I.Ic (its':=ar++bN) hH e (by simp) (r.append r2) ?_,rfl,q⟩;rw [Ad];omega
def acT:V->List V->Hp->VK->Prop:=fun x vs H Q=>∃l xs y,x=.ref l/\vs=[]/\H l=some (.lst xs)/\xs[xs.length-1]?=some y/\Q y (upd H l (.lst xs.dropLast))
def VY:MB X "list.pop" acT:=by
 intro pins s σ H x vs v us Q I rx rv h;obtain⟨l,xs,y,rfl,rfl,hH,hy,q⟩:=h;cases rx;have hus:=rv.zero;subst hus;obtain⟨z,ar,n,r,hl,e⟩:=I.qa hH;obtain⟨u,hu,ru⟩:=r.get hy;have Wt:ar.toArray[ar.toArray.size-1]?=some u:=by
  show ar.toArray[ar.length-1]?=some u;rw [<- ER,<- hl];exact hu
 refine call_meets F.slot_list_pop ⟨_,e,rfl⟩ F.entry_list_pop (F.args_list_pop_1 _) (MeetsSeq.list_pop_last l ar.toArray n u Wt (by rw [Ag];omega)) ⟨e,?_⟩;refine⟨y,_,I.Ic (its':=ar.dropLast) hH e ?_ r.dropLast ?_,ru,q⟩
 ·show ar.toArray.eraseIdxIfInBounds (ar.toArray.size-1)=ar.dropLast.toArray;rw [Ag,List.eraseIdxIfInBounds_toArray,IU]
 ·rw [List.length_dropLast];omega
def acU:R2:=fun x y H Q=>∃l b xs zs,x=.ref l/\y=.ref b/\H l=some (.lst xs)/\H b=some (.lst zs)/\xs.length+zs.length<=sizeLine/\∀p,H p=none->Q (.ref p) (upd H p (.lst (xs++zs)))
def VI:jE X (binaryOp .Add) acU:=by
 intro pins s σ H x y v u Q I rx ry h;obtain⟨l,b,xs,zs,rfl,rfl,hH,hB,hz,q⟩:=h;cases rx;cases ry;obtain⟨z,ar,n,r,hl,e⟩:=I.qa hH;obtain⟨z2,bN,n2,r2,QK,e2⟩:=I.qa hB;refine PySem.P.add_list e e2 ?_ (by rw [Ag,Ag];omega);have ea:ar.toArray++bN.toArray=(ar++bN).toArray:=by simp
 rw [ea];exact⟨.ref _,_,I.V4 (t':=s.toks) (r.append r2) (by rw [Ad];omega),rfl,q _ I.fresh⟩
def acS:R2:=fun x y H Q=>∃l k xs,x=.ref l/\y=.int k/\H l=some (.lst xs)/\-(2 ^ 63)<=k/\k < 2 ^ 63/\xs.length*k.toNat<=sizeLine/\
 ∀p,H p=none->Q (.ref p) (upd H p (.lst (Al k.toNat xs).flatten))
def len_rep {α:Type} (xs:List α) (k:Nat):(Al k xs).flatten.length=k*xs.length:=by
 induction k with
 | zero=>simp
 | succ k ih=>rw [Bl,BS,Ad,ih,Fj,Nat.add_comm]
def VC:jE X (binaryOp .Mult) acS:=by
 intro pins s σ H x y v u Q I rx ry h;obtain⟨l,k,xs,rfl,rfl,hH,h1,h2,hz,q⟩:=h;cases rx;obtain⟨t,rfl⟩:=ry;obtain⟨z,ar,n,r,hl,e⟩:=I.qa hH;have hlen:ar.toArray.size*k.toNat<=sizeLine:=by rw [Ag,<- hl];exact hz
 have adP:¬ar.toArray.size*k.toNat > (2 ^ 63-1) / 8:=by
  have:(sizeLine:Nat)<=(2 ^ 63-1) / 8:=by decide
  omega
 have adK:¬(!Builtin.List.listFitsIndex k)=true:=by
  rw [fitsIndex_both h1 h2];exact AI
 have uB:¬Builtin.List.listTooLong (ar.toArray.size*k.toNat)=true:=by
  rw [jt hlen];exact AI
 have SG:List.foldl (fun x1 x2=>x1++x2) #[] (Al (if ar.toArray.isEmpty=true then 0 else k.toNat) ar.toArray)=(Al k.toNat ar).flatten.toArray:=by
  have f0:∀m:Nat,List.foldl (fun x1 x2=>x1++x2) #[] (Al m ar.toArray)=(Al m ar).flatten.toArray:=fun m=>by
   have:=foldl_rep ar m [];rw [CC] at this;exact this
  rw [f0];cases ar with
  | nil=>simp
  | cons a r'=>rw [if_neg (by simp)]
 refine wpAny_binaryOp_repeat_ref (T:="list") (U:="int") (by decide) ⟨_,e,rfl⟩ (fun s'=>typeIs_int s' k t) noFill_list_mul F.fills_int_mul F.slot_int_rmul repeat_list F.slot_int_index.lookup
  (call_meets F.slot_int_rmul (typeIs_int s k t) F.entry_int_rmul (F.args_int_rmul_2 _ _) (int___rmul___int_list k t l ar.toArray n)
   ⟨e,rfl,⟨_,e,rfl⟩,call_meets F.slot_list_mul ⟨_,e,rfl⟩ F.entry_list_mul (F.args_list_mul_2 _ _) (AutoListH.list___mul___list_int_3 l ar.toArray n k t adK adP uB) ⟨e,?_⟩⟩)
 rw [SG];exact⟨.ref _,_,I.V4 (t':=s.toks) (r.rep k.toNat) (by rw [len_rep,Nat.mul_comm];exact hz),rfl,q _ I.fresh⟩
end
section
variable {prog:Program}{w:World}{A:Around}{E:Value->Shared->Prop}{s:Shared}
def K8 (ar bN:List Value) (a c:Nat):ar.toArray.extract 0 a++bN.toArray++ar.toArray.extract c ar.toArray.size=(ar.take a++bN++ar.drop c).toArray:=by
 apply Array.toList_inj.mp
 first
  | (
    simp;exact BC (by simp))
  | simp [BC]
  | simp
def Jf {a c n:Nat} (XS:a<=c) (hc:c<=n):sliceBounds (some (a:Int)) (some (c:Int)) none n=((a:Int),(c:Int),1):=by
 simp only [sliceBounds,Ed];have h1:¬((a:Int) < 0):=by omega
 have h2:¬((c:Int) < 0):=by omega
 simp only [h1,h2,if_false,show (1:Int) > 0 by decide,if_true];congr 1
 ·omega
 ·congr 1;omega
set_option maxRecDepth 100000 in
def vL {l b sl:Addr}{items new:Array Value}{n n2:Nat}{vl vu:Value}{a c:Nat}{Q:Unit->Shared->Prop}
  (e:s.heap.get? l=some {cls:=.type "list",data:=.seq items n}) (e2:s.heap.get? b=some {cls:=.type "list",data:=.seq new n2}) (OX:l≠b)
  (hs:s.heap.IsSliceOf sl vl vu .none) (pl:IsPart vl (some (a:Int))) (pu:IsPart vu (some (c:Int))) (XS:a<=c) (hc:c<=items.size)
  (hsz:items.size+new.size<=sizeLine) (h:Q () {s with heap:=s.heap.update l (Cb fun xs=>xs.extract 0 a++new++xs.extract c xs.size)}) :
  wpAny (model prog w) A (setItem (.ref l) (.ref sl) (.ref b)) Q E s:=by
 have hl:s.heap.IsList l items:=Fs e;have hb:s.heap.IsList b new:=Fs e2;obtain⟨os,MM,XQ,SH⟩:=id hs;have XT:s.TypeIs (.ref sl) "slice":=⟨os,MM,XQ⟩;have Z3:¬((rawPart none==rawInt 0)=true):=AI;have OW:Builtin.List.listSameRef (.ref l) (.ref b)=false:=by
  unfold Builtin.List.listSameRef;exact beq_eq_false_iff_ne.mpr OX
 have adB:(max (a:Int) (c:Int)).toNat=c:=by omega
 have ID:((fun xs:Array Value=>xs.extract 0 a++new++xs.extract c xs.size) items).size<=sizeLine+1:=by
  simp only [D3,Array.size_extract];omega
 unfold setItem
 try with_reducible refine Bi ?_
 first | refine Ab (Ah ?_) | skip
 refine Ab (DY hl.typeIs (by decide) ?_);refine Ab (AM (name:=B8 "__setitem__") hl.typeIs slot_list_setitem
  (Bf slot_list_setitem hl.typeIs entry_list_setitem ?_ (args_list_setitem _ _ _)))
 show wpAny _ _ (Builtin.List.listSubscript? (.ref sl) >>= _) _ _ s;refine Ab ?_;unfold Builtin.List.listSubscript?;refine Ab (Dr XT slice_no_index ?_);simp only [Option.isNone_none,if_true];refine Ah ?_;show wpAny _ _ (typeOf (.ref sl) >>= _) _ _ s;refine Ab (B9 XT ?_)
 first
  | rw [if_neg (by decide)]
  | refine PySem.W.KFB.if_not (by decide) ?_
 rw [listSliceParts_eq];refine Ab (Ab (AV MM SH (x:=.none) rfl (Ab (EX .none ?_))));rw [if_neg Z3];refine Ab (AV MM SH (x:=vl) rfl (Ab (EX pl ?_)));refine Ab (AV MM SH (x:=vu) rfl (Ab (EX pu (Ah ?_))))
 first
  | simp only [OW,Ap,if_false]
  | refine PySem.W.KFB.if_not OW ?_
  | (
    dsimp only;rw [if_neg (by rw [OW];exact AI)])
 refine Ab (m:=Builtin.List.listAllItems (.ref b) "must assign iterable to extended slice") ?_;unfold Builtin.List.listAllItems;refine Ab (B9 hb.typeIs ?_)
 first
  | refine PySem.W.KFB.if_so (by decide) ?_
  | rw [if_pos (by decide)]
  | simp only [beq_self_eq_true,Bool.true_or,if_true]
 unfold Builtin.List.listItems;refine Ab (Bu e2 rfl (Ah ?_));refine Ab (Ab (Bu e rfl (Ah ?_)));refine Ab (Ci ((sliceIndices_raw (some (a:Int)) (some (c:Int)) none items.size (by simp)).trans (congrArg (pure:Int×Int×Int->Sem (Int×Int×Int)) (Jf XS hc))) ?_);show wpAny _ _ (if ((1:Int)==1)=true then _ else _) _ _ s;rw [if_pos (by decide)];refine Ab (CF ?_)
 first
  | simp only [jt hsz,Ap,if_false]
  | refine PySem.W.KFB.if_not (jt hsz) ?_
 first | refine Ab (Ah ?_) | skip
 show wpAny _ _ (updateSeq l (fun xs=>xs.extract 0 ((a:Int)).toNat++new++xs.extract (max (a:Int) (c:Int)).toNat xs.size) >>= _) _ _ s;rw [adB,AR];refine Ab (Dq (hz:=Bm (Br _ _) hsz) (_hz':=ID) e rfl ?_);refine Ab (Di ?_)
 first
  | exact Ab (Ah (Ah ⟨.none,rfl,Ah h⟩))
  | exact Ah ⟨.none,rfl,Ah h⟩
end
section
variable {X:Cx}
def Ld {pins:List (Addr×Obj)}{s:Shared}{σ:St}{H:Hp}{l b sl:Addr}{xs ys:List V}{a c:Int}{vl vu:Value}{Q:Unit->Shared->Prop} (I:Inv X pins σ H s)
  (hH:H l=some (.lst xs)) (hB:H b=some (.lst ys)) (OX:l≠b) (hs:s.heap.IsSliceOf sl vl vu .none) (ra:RelV (.int a) vl) (rc:RelV (.int c) vu) (h0:0<=a) (XS:a<=c) (hc:c<=xs.length)
  (hz:xs.length+ys.length<=sizeLine) (h:∀s',Inv X pins σ (upd H l (.lst (xs.take a.toNat++ys++xs.drop c.toNat))) s'->Q () s') :
  wpAny (model X.prog X.w) X.A (setItem (.ref l) (.ref sl) (.ref b)) Q X.xe s:=by
 obtain⟨ta,rfl⟩:=ra;obtain⟨tc,rfl⟩:=rc;obtain⟨z,ar,n,r,hl,e⟩:=I.qa hH;obtain⟨z2,bN,n2,r2,QK,e2⟩:=I.qa hB;obtain⟨a',rfl⟩:=Em h0;obtain⟨c',rfl⟩:=Em (Int.le_trans h0 XS);simp only [AR] at h;refine vL (a:=a') (c:=c') e e2 OX hs (.int _ _) (.int _ _) (by omega) (by rw [Ag];omega) (by rw [Ag,Ag];omega) (h _ ?_);refine I.Ic (its':=ar.take a'++bN++ar.drop c') (t':=s.toks) hH e ?_ (Vals.append (Vals.append (r.take _) r2) (r.drop _)) ?_
 ·exact K8 ar bN a' c'
 ·rw [Ad,Ad,B1,Cv];omega
end
section
variable {κ:Type} [DecidableEq κ]
def iP (kvs:List (κ×V)) (k:κ):Option V:=(kvs.find? fun kv=>decide (kv.1=k)).map (·.2)
def putK (kvs:List (κ×V)) (k:κ) (v:V):List (κ×V):=
 if (kvs.any fun kv=>decide (kv.1=k))=true then kvs.map (fun kv=>if kv.1=k then (kv.1,v) else kv) else kvs++[(k,v)]
def k6 {p:κ×V}{r:List (κ×V)}{k:κ} (e:p.1=k):iP (p::r) k=some p.2:=by simp [iP,Bx,e]
def k7 {p:κ×V}{r:List (κ×V)}{k:κ} (e:¬p.1=k):iP (p::r) k=iP r k:=by simp [iP,Bx,e]
theorem n8 (k:κ):∀kvs:List (κ×V),(kvs.any fun kv=>decide (kv.1=k))=(iP kvs k).isSome
 | []=>rfl
 | p::r=>by
  rw [Ce];by_cases e:p.1=k
  ·simp only [k6 e,decide_eq_true e,Bool.true_or,Option.isSome_some]
  ·rw [k7 e,decide_eq_false e,Bool.false_or];exact n8 k r
def lA (kvs:List (κ×V)) (k:κ) (v:V):(putK kvs k v).length<=kvs.length+1:=by
 unfold putK
 split
 ·rw [Af];omega
 ·rw [Ad,Aq,BG];omega
def vf.qo {o:Option V}{u:Option Value} (r:vf o u):o.isSome=u.isSome:=by
 cases o with
 | none=>cases u with
  | none=>rfl
  | some _=>exact (show False from r).elim
 | some _=>cases u with
  | none=>exact (show False from r).elim
  | some _=>rfl
def KV.val {kvs:List (κ×V)}{vs:List (κ×Value)} (r:KV kvs vs) (k:κ):vf (iP kvs k) (valueAt vs k):=by
 unfold KV at r
 induction r with
 | nil=>exact BK
 | @cons p q ps qs h t ih=>
  obtain⟨h1,h2⟩:=h;by_cases e:p.1=k
  ·have e':q.1=k:=h1.symm.trans e;have b:valueAt (q::qs) k=some q.2:=by simp [valueAt,Bx,e']
   rw [k6 e,b];exact h2
  ·have e':¬q.1=k:=fun z=>e (h1.trans z);have b:valueAt (q::qs) k=valueAt qs k:=by simp [valueAt,Bx,e']
   rw [k7 e,b];exact ih
def KV.any {kvs:List (κ×V)}{vs:List (κ×Value)} (r:KV kvs vs) (k:κ):(kvs.any fun kv=>decide (kv.1=k))=vs.any fun kv=>decide (kv.1=k):=by
 unfold KV at r
 induction r with
 | nil=>rfl
 | cons h t ih=>rw [Ce,Ce,ih,h.1]
def KV.Vd {kvs:List (κ×V)}{vs:List (κ×Value)} (r:KV kvs vs) (k:κ) {y:V}{u:Value} (ry:RelV y u) :
  KV (kvs.map fun kv=>if kv.1=k then (kv.1,y) else kv) (vs.map fun kv=>if kv.1=k then (kv.1,u) else kv):=by
 unfold KV at r ⊢
 induction r with
 | nil=>exact .nil
 | @cons p q ps qs h t ih=>
  rw [Au,Au];refine .cons ?_ ih;obtain⟨h1,h2⟩:=h;by_cases e:p.1=k
  ·rw [if_pos e,if_pos (h1.symm.trans e)];exact⟨h1,ry⟩
  ·rw [if_neg e,if_neg (fun z=>e (h1.trans z))];exact⟨h1,h2⟩
def KV.put {kvs:List (κ×V)}{vs:List (κ×Value)} (r:KV kvs vs) (k:κ) {y:V}{u:Value} (ry:RelV y u):KV (putK kvs k y) (stored vs k u):=by
 unfold putK stored;rw [r.any k];by_cases e:(vs.any fun kv=>decide (kv.1=k))=true
 ·rw [if_pos e,if_pos e];exact r.Vd k ry
 ·rw [if_neg e,if_neg e];exact Paired.snoc r ⟨rfl,ry⟩
def KV.length {kvs:List (κ×V)}{vs:List (κ×Value)} (r:KV kvs vs):kvs.length=vs.length:=Paired.length r
end
def GH {P:Program}{w:World}{k:Key}{u:Value} (r:RelV (kV k) u):(bI P w).is k u=true:=by
 cases k with
 | inl i=>obtain⟨t,e⟩:=(show ∃t,u=C2 i t from r);subst e;exact Gn P w i t
 | inr x=>obtain⟨t,e⟩:=(show ∃t,u=Fp x t from r);subst e;exact Gm P w x t
theorem xb {P:Program}{w:World}:∀{ks:List Key}{us:List Value},Vals (ks.map kV) us->ItemsAre (bI P w) ks us
 | [],_,r=>by rw [Cu] at r;cases r;exact .nil
 | k::ks,_,r=>by
  rw [Au] at r;cases r with
  | cons h t=>exact .cons (GH h) (xb t)
abbrev KT (H:Hp):List (List Key×V)->List (List Key×Addr×Value)->Prop:=Paired fun p q=>p.1=q.1/\H q.2.1=some (.tup (p.1.map kV))/\RelV p.2 q.2.2
def KT.val {H:Hp}{kvs:List (List Key×V)}{xs:List (List Key×Addr×Value)} (r:KT H kvs xs) (k:List Key):vf (iP kvs k) ((atKey xs k).map (·.2)):=by
 induction r with
 | nil=>exact BK
 | @cons p q ps qs h t ih=>
  obtain⟨h1,_,h2⟩:=h;by_cases e:p.1=k
  ·have e':q.1=k:=h1.symm.trans e;have b:atKey (q::qs) k=some q.2:=by simp [atKey,Bx,e']
   rw [k6 e,b];exact h2
  ·have e':¬q.1=k:=fun z=>e (h1.trans z);have b:atKey (q::qs) k=atKey qs k:=by simp [atKey,Bx,e']
   rw [k7 e,b];exact ih
def KT.Vd {H:Hp}{kvs:List (List Key×V)}{xs:List (List Key×Addr×Value)} (r:KT H kvs xs) (k:List Key) {y:V}{u:Value} (ry:RelV y u) :
  KT H (kvs.map fun kv=>if kv.1=k then (kv.1,y) else kv) (xs.map (putAt k u)):=by
 induction r with
 | nil=>exact .nil
 | @cons p q ps qs h t ih=>
  rw [Au,Au];refine .cons ?_ ih;obtain⟨h1,h2,h3⟩:=h;unfold putAt;by_cases e:p.1=k
  ·rw [if_pos e,if_pos (h1.symm.trans e)];exact⟨h1,h2,ry⟩
  ·rw [if_neg e,if_neg (fun z=>e (h1.trans z))];exact⟨h1,h2,h3⟩
def KT.put {H:Hp}{kvs:List (List Key×V)}{xs:List (List Key×Addr×Value)} (r:KT H kvs xs) (k:List Key) {b:Addr}{y:V}{u:Value} (hb:H b=some (.tup (k.map kV))) (ry:RelV y u) :
  KT H (putK kvs k y) (storedH xs k b u):=by
 have e:(kvs.any fun kv=>decide (kv.1=k))=(atKey xs k).isSome:=by
  rw [n8,(r.val k).qo,Fi]
 unfold putK storedH;rw [e];by_cases q:(atKey xs k).isSome=true
 ·rw [if_pos q,if_pos q];exact r.Vd k ry
 ·rw [if_neg q,if_neg q];exact Paired.snoc r ⟨rfl,hb,ry⟩
def KT.keeps {H H':Hp}{kvs:List (List Key×V)}{xs:List (List Key×Addr×Value)} (r:KT H kvs xs) (ht:∀b ys,H b=some (.tup ys)->H' b=some (.tup ys)):KT H' kvs xs:=
 Paired.V0 r fun _ _ z=>⟨z.1,ht _ _ z.2.1,z.2.2⟩
section
variable {P:Program}{w:World}{H:Hp}{h:Heap}{a:Addr}
def T9 {u:HO} (ok:mH P w H h) (e:Rd H a u):bh P w H h a u:=e.ok ok
def uU {kvs:List (Key×V)} (ok:mH P w H h) (e:Rd H a (.dK kvs)):kvs.length<=sizeLine/\(a==sysModules)=false/\∃vs,KV kvs vs/\h.DictOf (bI P w) a vs:=
 show bh P w H h a (.dK kvs) from T9 ok e
def UE {kvs:List (Key×V)} (ok:mH P w H h) (e:H a=some (.dK kvs)):kvs.length<=sizeLine/\(a==sysModules)=false/\∃vs,KV kvs vs/\h.DictOf (bI P w) a vs:=uU ok (.inl e)
def uq {ks:List Key} (ok:mH P w H h) (e:H a=some (.tup (ks.map kV))):(tupleKind (bI P w)).is h ks a:=by
 obtain⟨_,ar,r,o,h1,h2,n,h3⟩:=(show bh P w H h a (.tup (ks.map kV)) from ok a _ e);exact⟨o,ar.toArray,n,h1,h2,h3,by simpa using xb r⟩
def uT {kvs:List (List Key×V)} (ok:mH P w H h) (e:Rd H a (.dT kvs)):kvs.length<=sizeLine/\(a==sysModules)=false/\
  ∃xs,KT H kvs xs/\h.DictOfH (tupleKind (bI P w)) a xs:=by
 obtain⟨z,y,xs,r,o,es,ep,h1,h2,h3,h4,h5⟩:=(show bh P w H h a (.dT kvs) from T9 ok e);refine⟨z,y,xs,r,o,es,ep,h1,h2,h3,h4,fun x hx=>?_,h5⟩;have all:∀{l:List (List Key×V)}{m:List (List Key×Addr×Value)},KT H l m->∀x∈m,(tupleKind (bI P w)).is h x.1 x.2.1:=by
  intro l m q
  induction q with
  | nil=>intro x hx;exact nomatch hx
  | @cons p q ps qs hq t ih=>
   intro x hx;rcases Av.mp hx with e | hx
   ·subst e;exact uq ok (by rw [<- hq.1];exact hq.2.1)
   ·exact ih x hx
 exact all r x hx
def aaP {kvs:List (List Key×V)} (ok:mH P w H h) (e:H a=some (.dT kvs)):kvs.length<=sizeLine/\(a==sysModules)=false/\
  ∃xs,KT H kvs xs/\h.DictOfH (tupleKind (bI P w)) a xs:=uT ok (.inl e)
end
def qN (H:Hp) (a:Addr) (y:V) (r:Option V):Prop:=
 (∃kvs k,Rd H a (.dK kvs)/\y=kV k/\r=iP kvs k)\/∃kvs k b,Rd H a (.dT kvs)/\y=.ref b/\H b=some (.tup (k.map kV))/\r=iP kvs k
def TQ (H:Hp) (a:Addr) (y v:V) (H':Hp):Prop:=
 (∃kvs k,H a=some (.dK kvs)/\y=kV k/\kvs.length < sizeLine/\H'=upd H a (.dK (putK kvs k v)))\/
 ∃kvs k b,H a=some (.dT kvs)/\y=.ref b/\H b=some (.tup (k.map kV))/\kvs.length < sizeLine/\H'=upd H a (.dT (putK kvs k v))
theorem qN.k {H:Hp}{a:Addr}{kvs:List (Key×V)}{k:Key} (e:H a=some (.dK kvs)):qN H a (kV k) (iP kvs k):=.inl ⟨kvs,k,.inl e,rfl,rfl⟩
theorem TQ.k {H:Hp}{a:Addr}{kvs:List (Key×V)}{k:Key}{v:V} (e:H a=some (.dK kvs)) (hl:kvs.length < sizeLine):TQ H a (kV k) v (upd H a (.dK (putK kvs k v))):=.inl ⟨kvs,k,e,rfl,hl,rfl⟩
section
variable {X:Cx}{pins:List (Addr×Obj)}{σ:St}{H:Hp}{s:Shared}{a:Addr}{y v:V}{u r:Value}{o:Option V}{A:Around}{E:Value->Shared->Prop}
def Inv.big (I:Inv X pins σ H s):sysModules < s.heap.objs.size:=by
 have h:mainGlobals < s.heap.objs.size:=(I.mod.glob.keeps I.bk).lt;exact Nat.lt_trans (by decide) h
def xn {Q:Value->Shared->Prop} (hu:A.units+1 < cLine) (I:Inv X pins σ H s) (g:qN H a y (some v)) (ry:RelV y u) (h:∀w' s',Inv X pins σ H s'->RelV v w'->Q w' s') :
  wpAny (model X.prog X.w) A (getItem (.ref a) u) Q E s:=by
 rcases g with⟨kvs,k,e,ey,l⟩ | ⟨kvs,k,b,e,ey,eb,l⟩
 ·subst ey;obtain⟨z,hd,vs,rel,dd⟩:=uU I.bD e;obtain⟨w',hw,iU⟩:=vf.some_of (v:=v) (o:=valueAt vs k) (by rw [l];exact rel.val k);exact wpAny_getItem_of (GH ry) dd.mapOf hw (h w' _ (I.tok _) iU)
 ·subst ey;cases (show u=Aw b from ry);obtain⟨z,hd,xs,rel,dd⟩:=uT I.bD e;obtain⟨w',hw,iU⟩:=vf.some_of (v:=v) (o:=(atKey xs k).map (·.2)) (by rw [l];exact rel.val k);obtain⟨p,hp,yU⟩:=CT.mp hw;refine wpAny_getItem_heap (tupleKind_room_in1 hu) (uq I.bD eb) dd hp ?_;rw [yU];exact h w' _ (I.tok _) iU
def aef {Q:Value->Shared->Prop} (hu:A.units+1 < cLine) (I:Inv X pins σ H s) (g:qN H a y o) (ry:RelV y u) (h:∀s',Inv X pins σ H s'->Q (.bool o.isSome) s') :
  wpAny (model X.prog X.w) A (compareOp .In u (.ref a)) Q E s:=by
 rcases g with⟨kvs,k,e,ey,l⟩ | ⟨kvs,k,b,e,ey,eb,l⟩
 ·subst ey;obtain⟨z,hd,vs,rel,dd⟩:=uU I.bD e;refine wpAny_in_of (GH ry) hd dd.mapOf ?_;rw [<- (rel.val k).qo,<- l];exact h _ (I.tok _)
 ·subst ey;cases (show u=Aw b from ry);obtain⟨z,hd,xs,rel,dd⟩:=uT I.bD e;refine wpAny_in_heap (tupleKind_room_in1 hu) (uq I.bD eb) hd dd ?_;have q:=(rel.val k).qo;rw [Fi] at q;rw [<- q,<- l];exact h _ (I.tok _)
def zx {h':Heap}{t':Nat}{ob:HO} (I:Inv X pins σ H s) (mu:Mut (H a)) (hs:BZ a s.heap h') (he:∃q,h'.get? a=some q) (new:bh X.prog X.w (upd H a ob) h' a ob) :
  Inv X pins σ (upd H a ob) {s with heap:=h',toks:=t'}:=
 I.write (x:=a) (e:=a) mu (.inl rfl) (fun b q hb z=>(hs.2 b hb).trans z) he new
def PX {P:Program}{w:World}{H':Hp}{h':Heap}{kvs:List (Key×V)}{vs:List (Key×Value)} (z:kvs.length<=sizeLine) (hd:(a==sysModules)=false) (rel:KV kvs vs) (dd:h'.DictOf (bI P w) a vs) :
  bh P w H' h' a (.dK kvs):=⟨z,hd,vs,rel,dd⟩
def Mj {H':Hp}{Q:Unit->Shared->Prop} (hu:A.units+1 < cLine) (I:Inv X pins σ H s) (g:TQ H a y v H') (ry:RelV y u) (rv:RelV v r) (h:∀s',Inv X pins σ H' s'->Q () s') :
  wpAny (model X.prog X.w) A (setItem (.ref a) u r) Q E s:=by
 rcases g with⟨kvs,k,e,ey,l,eH⟩ | ⟨kvs,k,b,e,ey,eb,l,eH⟩
 ·subst ey eH;obtain⟨z,hd,vs,rel,dd⟩:=UE I.bD e;have hz:vs.length<=sizeLine:=by rw [<- rel.length];exact z
  have hl:(putK kvs k v).length<=sizeLine:=by have:=lA kvs k v;omega
  refine wpAny_setItem_pairs (hsz:=hz) (GH ry) dd fun h' Xb hs=>h _ ?_;have he:∃q,h'.get? a=some q:=let ⟨q,_,_,hq,_⟩:=Xb;⟨q,hq⟩;exact zx I (by rw [e];exact BK) hs he (PX hl hd (rel.put k rv) Xb)
 ·subst ey eH;cases (show u=Aw b from ry);obtain⟨z,hd,xs,rel,dd⟩:=aaP I.bD e;have hz:xs.length<=sizeLine:=by rw [<- Paired.length rel];exact z
  have hl:(putK kvs k v).length<=sizeLine:=by have:=lA kvs k v;omega
  refine wpAny_setItem_heap (hsz:=hz) (tupleKind_room_in1 hu) (uq I.bD eb) dd fun h' Xb hs=>h _ ?_;obtain⟨q,es,ep,hq,h2,h3,h4,_,h5⟩:=Xb;refine zx I (by rw [e];exact BK) hs ⟨q,hq⟩ ⟨hl,hd,_,(rel.put k eb rv).keeps fun c ys ec=>?_,q,es,ep,hq,h2,h3,h4,h5⟩;rw [av (J4 ec e (fun z=>nomatch z))];exact ec
end
def TC (i:Expr):Prop:=∀ov iv,subscripted i false ov iv=operate [ov,iv] (getItem ov iv)
def Q9 {prog:Program}{w:World}{A:Around}{E:Value->Shared->Prop}{s:Shared}{env:Env}{value slice:Expr}{pos:Pos}{T id:String}{Q:Value->Shared->Prop}
  (hl:typeLookup (.type T) "__getitem__"=pure (some (.builtin id))) (hs:TC slice)
  (h:wpAny (model prog w) A (eval value env) (fun o s₁=>wpAny (model prog w) A (eval slice env) (fun i s₂=>s₂.TypeIs o T/\wpAny (model prog w) A (getItem o i) Q E s₂) E s₁) E s) :
  wpAny (model prog w) A (eval (.Subscript value slice pos) env) Q E s:=by
 refine Subscript_ (BU h (fun o s₁ h₁=>BU h₁ (fun i s₂ h₂=>?_) fun _ _ x=>x) fun _ _ x=>x);obtain⟨hT,h₂⟩:=h₂;unfold subscriptTail;refine Ab ?_;rw [getitemInPython_of_ne hT.not_modules];refine Ab (Dr hT hl ?_);have fin:wpAny (model prog w) A (subscripted slice false o i) (fun r s₃=>wpAny (model prog w) A (letTemporaryGo value o r >>= fun _=>pure r) Q E s₃) E s₂:=by
  rw [hs o i];exact wpAny_operating (BU h₂ (fun r s₃ h₃=>Ab (wpAny_letTemporaryGo (Ah h₃))) fun _ _ x=>x)
 first
  | exact Ah (Ab fin)
  | exact Ab (Ah (Ab fin))
  | exact Ab fin
def G0 {X:Cx}{pins:List (Addr×Obj)}{σ:St}{H:Hp}{s:Shared}{a:Addr}{y:V}{o:Option V} (I:Inv X pins σ H s) (g:qN H a y o):s.TypeIs (.ref a) "dict":=by
 rcases g with⟨kvs,k,e,_,_⟩ | ⟨kvs,k,b,e,_,_,_⟩
 ·obtain⟨_,_,vs,_,dd⟩:=uU I.bD e;exact dd.typeIs
 ·obtain⟨_,_,xs,_,dd⟩:=uT I.bD e;exact dd.typeIs
def YL (td ty:TE):TE:=fun σ H Q=>td σ H fun x H1=>ty σ H1 fun y H2=>∃a v,x=.ref a/\qN H2 a y (some v)/\Q v H2
def acE (ty td:TE):TE:=fun σ H Q=>ty σ H fun y H1=>td σ H1 fun x H2=>∃a o,x=.ref a/\qN H2 a y o/\Q (.bl o.isSome) H2
section
variable {X:Cx}{o i:Expr}{pos:Pos}{td ty:TE}
def JW (hu:X.A.units+1 < cLine) (ho:PE X o td) (hi:PE X i ty) (hs:TC i):PE X (.Subscript o i pos) (YL td ty):=by
 intro pins s σ H Q I h;refine Q9 PySem.F.slot_dict_getitem.lookup hs (bM (ho pins s σ H _ I h) fun u s1 ⟨x,H1,I1,rx,q1⟩=>bM (hi pins s1 σ H1 _ I1 q1) fun iv s2 ⟨y,H2,I2,ry,a,v,ex,g,q2⟩=>?_);subst ex;obtain rfl:u=Aw a:=rx;exact⟨G0 I2 g,xn hu I2 g ry fun w' s3 I3 iU=>⟨v,H2,I3,iU,q2⟩⟩
def VA (hu:X.A.units+1 < cLine) (hi:PE X i ty) (ho:PE X o td):PC X .In i o (acE ty td):=by
 intro pins s σ H Q I h;refine bM (hi pins s σ H _ I h) fun iv s1 ⟨y,H1,I1,ry,q1⟩=>bM (ho pins s1 σ H1 _ I1 q1) fun u s2 ⟨x,H2,I2,rx,a,ov,ex,g,q2⟩=>?_;subst ex;obtain rfl:u=Aw a:=rx;exact aef hu I2 g ry fun s3 I3=>⟨.bl ov.isSome,H2,I3,rfl,q2⟩
end
def PY {P:Program}{w:World}{H:Hp} (h:Heap) (hb:sysModules < h.objs.size):bh P w H (h.push {cls:=.type "dict",data:=.dict #[]}) h.objs.size (.dK []):=
 ⟨Bd _,beq_eq_false_iff_ne.mpr (Bw (AJ hb)),[],.nil,Heap.DictOf.new h⟩
def xU:List (TE×TE)->St->Hp->(List (V×V)->Hp->Prop)->Prop
 | [],_,H,Q=>Q [] H
 | (tk,tv)::r,σ,H,Q=>tk σ H fun x H1=>tv σ H1 fun y H2=>xU r σ H2 fun ps H3=>Q ((x,y)::ps) H3
abbrev VV:List (V×V)->List (Value×Value)->Prop:=Paired fun p q=>RelV p.1 q.1/\RelV p.2 q.2
def PPs (X:Cx) (pos:Pos) (keys:List (Option Expr)) (values:List Expr) (Q3:List (TE×TE)):Prop:=
 ∀(pins:List (Addr×Obj)) (s:Shared) (σ:St) (H:Hp) (Q:List (V×V)->Hp->Prop),Inv X pins σ H s->xU Q3 σ H Q->
  wpAny (model X.prog X.w) X.A (evalPairs (pairTrees keys values X.env pos)) (fun vs s'=>∃ps H',Inv X pins σ H' s'/\VV ps vs/\Q ps H') X.xe s
def Rv {X:Cx}{pos:Pos}:PPs X pos [] [] []:=fun pins s σ H Q I h=>pairTrees_nil_walk ⟨[],H,I,.nil,h⟩
def oq {X:Cx}{pos:Pos}{k v:Expr}{ks:List (Option Expr)}{vs:List Expr}{tk tv:TE}{Q3:List (TE×TE)} (hk:PE X k tk) (hv:PE X v tv) (hr:PPs X pos ks vs Q3) :
  PPs X pos (some k::ks) (v::vs) ((tk,tv)::Q3):=fun pins s σ H Q I h=>
 pairTrees_cons_walk (bM (hk pins s σ H _ I h) fun u s1 ⟨x,H1,I1,rx,q1⟩=>bM (hv pins s1 σ H1 _ I1 q1) fun w2 s2 ⟨y,H2,I2,ry,q2⟩=>
  bM (hr pins s2 σ H2 _ I2 q2) fun ws s3 ⟨ps,H3,I3,rel,q3⟩=>⟨(x,y)::ps,H3,I3,.cons ⟨rx,ry⟩ rel,q3⟩)
def iV (kvs more:List (Key×V)):List (Key×V):=more.foldl (fun acc kv=>putK acc kv.1 kv.2) kvs
def KV.merge:∀{more:List (Key×V)}{rs:List (Key×Value)}{kvs:List (Key×V)}{vs:List (Key×Value)},KV more rs->KV kvs vs->KV (iV kvs more) (merged vs rs):=by
 intro more rs kvs vs r;unfold KV at r
 induction r generalizing kvs vs with
 | nil=>intro q;exact q
 | @cons p q ps qs h t ih=>
  intro r0;have e:KV (putK kvs p.1 p.2) (stored vs q.1 q.2):=by
   have:=r0.put p.1 h.2;rw [<- h.1];exact this
  exact ih e
theorem mO:∀(more kvs:List (Key×V)),(iV kvs more).length<=kvs.length+more.length
 | [],kvs=>by show kvs.length<=kvs.length+0;omega
 | p::r,kvs=>by
  have h1:=mO r (putK kvs p.1 p.2);have h2:=lA kvs p.1 p.2;show (iV (putK kvs p.1 p.2) r).length<=_;rw [Aq];omega
theorem u5 {P:Program}{w:World}:∀{kvs:List (Key×V)}{ws:List (Value×Value)},VV (kvs.map fun kv=>(kV kv.1,kv.2)) ws->∃rs,Carries (bI P w) ws rs/\KV kvs rs
 | [],_,r=>by rw [Cu] at r;cases r;exact⟨[],BK,.nil⟩
 | p::kvs,_,r=>by
  rw [Au] at r;cases r with
  | @cons a b as bs h t=>
   obtain⟨rs,c,q⟩:=u5 (P:=P) (w:=w) t;obtain⟨b1,b2⟩:=b;exact⟨(p.1,b2)::rs,⟨GH h.1,rfl,c⟩,.cons ⟨rfl,h.2⟩ q⟩
def YK (Q3:List (TE×TE)):TE:=fun σ H Q=>∀p,H p=none->xU Q3 σ (upd H p (.dK [])) fun ps H2=>H2 p=some (.dK [])/\∃kvs:List (Key×V),ps=kvs.map (fun kv=>(kV kv.1,kv.2))/\kvs.length<=15/\Q (.ref p) (upd H2 p (.dK (iV [] kvs)))
def RF {X:Cx}{pos:Pos}{keys:List (Option Expr)}{values:List Expr}{Q3:List (TE×TE)} (h:PPs X pos keys values Q3) (O4:keys.all (·.isSome)=true) (hl:keys.length=values.length) (h0:keys≠[])
  (h15:keys.length<=15):PE X (.Dict keys values pos) (YK Q3):=by
 intro pins s σ H Q I q;have hn:=I.bD.fresh (Am s.heap.objs.size);have I1:=I.laid (a:=s.heap.objs.size) (o:=.dK []) (h':=s.heap.push {cls:=.type "dict",data:=.dict #[]}) (t':=s.toks) (fun _ _ q=>Ak _ q) (Am _) (PY s.heap I.big);refine wpAny_Dict_walk (knd:=bI X.prog X.w) O4 hl h0 h15 (bM (h pins _ σ _ _ I1 (q _ hn)) fun ws s2 ⟨ps,H2,I2,rel,e,kvs,ep,lk,q2⟩=>?_);subst ep;obtain⟨rs,c,rk⟩:=u5 (P:=X.prog) (w:=X.w) rel;obtain⟨z,hd,vs0,r0,dd⟩:=UE I2.bD e;cases r0;refine⟨rs,c,dd,fun h' Xb hs=>⟨.ref s.heap.objs.size,_,?_,rfl,q2⟩⟩;have hz:(iV [] kvs).length<=sizeLine:=by
  have h1:=mO kvs [];rw [BG] at h1;rw [sizeLine_eq];omega
 have he:∃q,h'.get? s.heap.objs.size=some q:=let ⟨q,_,_,hq,_⟩:=Xb;⟨q,hq⟩;exact zx I2 (by rw [e];exact BK) hs he (PX hz hd (rk.merge .nil) Xb)
structure M2 (X:Cx) (o:Expr) (m:Str) (apos:Pos) (e f:Expr) (bo:Pos):Prop where
 base:attributeBase o m X.env (eval o X.env)=eval o X.env
 few:((backTo bo (starEach [e,f] X.env)).all (fun x=>!x.1)&&(backToKw bo (keywordEach [] X.env)).all (fun x=>x.1.isSome)
  && decide (([e,f]:List Expr).length+([]:List Keyword).length+(if ([]:List Keyword).isEmpty then 0 else 1) < 30))=true
 line:(apos.endLine==bo.line)=true
 trees:backTo bo (starEach [e,f] X.env)=[(false,eval e X.env),(false,eval f X.env)]
def IsD (H:Hp) (a:Addr):Prop:=(∃kvs,Rd H a (.dK kvs))\/∃kvs,Rd H a (.dT kvs)
end L2
namespace Att
open PySem PySem.W PySem.Calls PyProof.Rows
def rS {P:Params}{h:Heap}:∀(ns:List Int) (vs:List Value),WellAll P h vs (ns.map WData.int)->IntsAre vs ns:=by
 intro ns
 induction ns with
 | nil=>
  intro vs w;rw [Cu] at w;cases w;exact .nil
 | cons n ns ih=>
  intro vs w;rw [Au] at w;cases w with
  | cons a b=>
   cases a;exact .cons _ _ (ih _ b)
def Lg {l:OpenLaw}{n:Nat} (hn:l.most=some n) {P:Params}{h:Heap}{args:List WData}{vals:List Value}
  (SD:l.row.toRowW.claim.pre args=true) (hwl:WellAll P h vals args) :
  ∃a vs ns,vals=[Aw a]/\args=[WData.list (ns.map WData.int)]/\h.get? a=some {cls:=.type "list",data:=.seq vs.toArray}/\IntsAre vs ns/\ns.length<=n:=by
 have hsh:WShape.hasAll [] args [.list .int]=true:=(pre_splitW SD).1;have hc:l.pre.holds [] {args:=args}=true:=(pre_splitW SD).2;obtain⟨d,r,rfl,h1,h2⟩:=hasAllW_cons hsh;obtain rfl:=hasAllW_nil h2;obtain⟨xs,rfl,h3⟩:=hasW_list h1;obtain⟨ns,rfl⟩:=items_int h3;have hlen:ns.length<=n:=by
  unfold OpenLaw.pre at hc;have h4:(WTm.not (.lt (.lit (.int (n:Int))) (.len (.arg 0)))).holds [] {args:=[.list (ns.map .int)]}=true:=by
   have h4:=(holds_andW hc).1;rw [hn] at h4;exact h4
  have h5:=condW_of h4 (w_not (w_lt w_lit (w_len_list (w_arg rfl))));rw [Af] at h5;refine Nat.le_of_not_lt fun q=>?_;have q':(n:Int) < ((ns.length:Nat):Int):=by omega
  first
   | (rw [decide_eq_true q'] at h5;exact absurd h5 (by decide))
   | (simp at h5;omega)
 cases hwl with
 | cons w1 w2=>
  cases w2;cases w1 with
  | list ho O4=>exact⟨_,_,ns,rfl,rfl,ho,rS ns _ O4,hlen⟩
def Lu (l:OpenLaw) (args:List WData):l.row.toRowW.claim.post args (.bool true) args=true:=
 postW_of (r:=l.row.toRowW) (X:=(true==true))
  (show WShape.has [] (.bool true) .bool=true by first | rfl | decide | simp [WShape.has,WShape.arms,WShape.armsAll])
  (show (WTm.eq .res (.lit (.bool true))).value [] {args:=args,res:=some (.bool true),after:=args}=some (.bool (true==true)) from w_eq_bool (w_res rfl) w_lit) rfl
def G7 {l:OpenLaw}{n:Nat}{q:Program}{loose:List Str}{XP:(Str->Option Value)->Heap->Prop}{YP:World->Heap->Prop}{d:DefRec}
  (hn:l.most=some n) (hdf:d.params.defaults=[])
  (call:∀(w:World) (s₀ s₁:Shared) (mg mb:Str->Option Value) (fa:Addr) (o:Obj) (pm cd doc:Value) (a:Addr) (vs:List Value) (ns:List Int),
   Ground q loose [] XP w s₀ mg mb s₁.heap->YP w s₁.heap->
   s₁.heap.get? fa=some o->o.data=.func (docDef d.name d.params d.body d.scope pm cd doc)->s₁.heap.CodeRec cd d.name->mg d.name=some (.ref fa)->
   s₁.heap.get? a=some {cls:=.type "list",data:=.seq vs.toArray}->IntsAre vs ns->ns.length<=n->s₁.gens=#[]->
   codeAny (model l.prog w) callerA (.call (.ref fa) ⟨[.ref a],[]⟩) (fun r s'=>r=.ok (.ret (.bool true))/\OldK s₁.heap s'.heap/\s'.os=s₁.os/\AllBare s'.gens) s₁) :
  WalkO q loose XP YP l.row.toRowW d [] (fun f vs=>Fw f vs):=by
 intro w s₀ s₁ mg mb G Y fa o pm cd doc dV kV ho hd iW hD hmg hg args vals as SD ahi hrd hwl hlo;obtain rfl:dV=.none:=Dflts.none hD hdf;obtain rfl:kV=.none:=Dflts.noKw hD;obtain⟨a,vs,ns,rfl,rfl,Wy,hints,hlen⟩:=Lg hn SD hwl;refine enter_call (codeAny_mono (call w s₀ s₁ mg mb fa o pm cd doc a vs ns G Y ho (fd_plain hd) iW hmg Wy hints hlen hg) fun r s' hq=>?_);obtain⟨rfl,h2,h3,h4⟩:=hq;exact⟨.inl ⟨.bool true,.bool true,[],rfl,fun _=>rfl,.bool true,Lu l _,fun _=>⟨List.Pairwise.nil,fun _ hm=>(nomatch hm)⟩⟩,h2,h3,h4⟩
end Att
namespace L2
open PySem PySem.Spec PyProof.Rows
theorem pO:∀{vs:List Value}{ns:List Int},IntsAre vs ns->Vals (ns.map V.int) vs
 | _,_,.nil=>.nil
 | _,_,.cons n t h=>.cons ⟨t,rfl⟩ (pO h)
def TB (H:Hp):Prop:=∀b,H b=none\/∃o xs,H b=some (.c7 o (.lst xs))
def Oq {P:Program}{w:World}{K:Aa}{mg mb:Str->Option Value}{CX:QC}{k:Nat}{fa a:Addr}{fd:FuncData}{x:Str}{sp:Sp}{s₁:Shared}{vs:List Value}{ns:List Int}
  (KX:K.In s₁.heap) (XM:s₁.heap.Ns mainGlobals mg) (hb:s₁.heap.Ns builtinsNs mb) (hbb:∀x:Str,x≠"__name__"->mb x=bootBuiltins x) (adD:s₁.heap.NoLimit) (hg:s₁.gens=#[])
  (ha:s₁.heap.get? a=some {cls:=.type "list",data:=.seq vs.toArray}) (hi:IntsAre vs ns) (hl:ns.length<=sizeLine) (hr:fY k callerA)
  (F:∀base:Heap,K.In base->base.Ns mainGlobals mg->iu P w K mg base CX k fa fd [x] sp) (aam:∀(s:Shared) (u:Value),BindsTo s fd ⟨[u],[]⟩ [(x,u)])
  (SA:∀H:Hp,TB H->cT K H a (ns.map V.int)->sp [.ref a] H (fun v _=>v=.bl true) fun _ _ _=>False)
  (hCX:∀H e s',CX [] H s₁ (fun _ _ _=>False) e s'->False) :
  codeAny (model P w) callerA (.call (.ref fa) ⟨[.ref a],[]⟩) (fun r s'=>r=.ok (.ret (.bool true))/\OldK s₁.heap s'.heap/\s'.os=s₁.os/\AllBare s'.gens) s₁:=by
 have rv:=pO hi;have ac7:=hi.length;have core:∀H:Hp,TB H->cT K H a (ns.map V.int)->mH P w H s₁.heap->(∀b,H b≠none->b=a)->(H a≠none->K.lookup a=none)->
   codeAny (model P w) callerA (.call (.ref fa) ⟨[.ref a],[]⟩) (fun r s'=>r=.ok (.ret (.bool true))/\OldK s₁.heap s'.heap/\s'.os=s₁.os/\AllBare s'.gens) s₁:=by
  intro H hO hS bD hA hK;have KN:∀{b:Addr}{o:Obj},s₁.heap.get? b=some o->H b=none->(yW s₁.heap H).get? b=some o:=fun e n=>O0 e n;have ZF:∀{b:Addr}{o:Obj}{es:Array DictEntry}{ep:Nat},s₁.heap.get? b=some o->o.data=.dict es ep->H b=none:=fun {b o es ep} e d=>by
   cases q:H b with
   | none=>rfl
   | some u=>
    have e':b=a:=hA b (by rw [q];simp);subst e';rw [ha] at e;cases e;have d':EU vs.toArray _=Data.dict es ep:=d;cases d'
  have nsK:∀{b:Addr}{m:Str->Option Value},s₁.heap.Ns b m->(yW s₁.heap H).Ns b m:=fun {b m} ⟨o,es,ep,e,d,r⟩=>⟨o,es,ep,KN e (ZF e d),d,r⟩;have hKb:K.In (yW s₁.heap H):=fun b o e=>KN (KX b o e) (by
   cases q:H b with
   | none=>rfl
   | some u=>
    have e':b=a:=hA b (by rw [q];simp);subst e';rw [hK (by rw [q];simp)] at e;cases e)
  have hM:Mod K mg (yW s₁.heap H):=⟨hKb,nsK XM,⟨mb,nsK hb,hbb⟩,let ⟨mc,h1,h2⟩:=adD;⟨mc,nsK h1,h2⟩⟩;have e0:TL P w K mg (yW s₁.heap H) callerA [] s₁ H:=⟨rfl,hM,fun b o e=>RS e,Nat.le_of_eq (L1 _ _),trivial,fun b hb=>absurd (show b∈([]:List Addr) from hb) (by simp),bD,.of_eq hg⟩;refine codeAny_mono ((F _ hKb (nsK XM)).run callerA [] s₁ H ⟨[.ref a],[]⟩ [.ref a] [.ref a] _ _ hr e0 (aam s₁ (.ref a)) (.cons rfl .nil) (SA H hO hS)) fun r s' h=>?_;cases r with
  | error e=>exact (hCX H e s' h).elim
  | ok fl=>
   cases fl with
   | next=>exact Bk h
   | brk=>exact Bk h
   | cont=>exact Bk h
   | ret u=>
    obtain⟨v,H',os,bare,un,adz,r',q⟩:=h;have q':v=.bl true:=q;subst q';obtain rfl:u=B2 true:=r';refine⟨rfl,OldK.of_keep fun b o e=>?_,os,bare⟩;cases q:H b with
    | none=>exact un.keep b o e q (by intro z;exact absurd (show b∈([]:List Addr) from z) (by simp)) (by simp)
    | some u=>
     rcases hO b with z | ⟨ob,xs,z⟩
     ·rw [q] at z;cases z
     ·have z2:=un.rT b ob _ z;obtain⟨e1,_⟩:=bD b _ z;obtain⟨e2,_⟩:=adz b _ z2;rw [e] at e1;cases e1;exact e2
 cases hk:K.lookup a with
 | some o=>
  have e:=KX a o hk;rw [ha] at e;cases e;refine core (fun _=>none) (fun _=>.inl rfl) (.inr ⟨_,vs.toArray,_,hk,rfl,rfl,rfl,by rw [Ag,ac7];exact hl,by simpa using rv⟩) (fun b u z=>by have z':(none:Option HO)=some u:=z;cases z') (fun b z=>absurd rfl z) fun z=>absurd rfl z
 | none=>
  refine core (fun b=>if b=a then some (.c7 {cls:=.type "list",data:=.seq vs.toArray} (.lst (ns.map V.int))) else none) (fun b=>?_) (.inl (.inr ⟨{cls:=.type "list",data:=.seq vs.toArray},if_pos rfl⟩)) (fun b u z=>?_) (fun b z=>?_) fun _=>hk
  ·by_cases hb:b=a
   ·exact .inr ⟨_,_,if_pos hb⟩
   ·exact .inl (if_neg hb)
  ·by_cases hb:b=a
   ·have z':=(if_pos hb).symm.trans z;cases z';subst hb;exact⟨ha,by rw [Af];exact hl,vs,_,rv,ha⟩
   ·have z':=(if_neg hb).symm.trans z;cases z'
  ·by_cases hb:b=a
   ·exact hb
   ·exact absurd (if_neg hb) z
def QW {l:EC}{n k:Nat}{q:Program}{loose:List Str}{XP:(Str->Option Value)->Heap->Prop}{YP:World->Heap->Prop}{d:DefRec}{K:Params->Aa}{CX:World->QC}{sp:World->Sp}{x:Str}
  (hn:l.most=some n) (hn2:n<=sizeLine) (hdf:d.params.defaults=[]) (hr:fY k callerA)
  (hY:∀(w:World) (h:Heap),YP w h->(K w.params).In h)
  (F:∀(w:World) (mg:Str->Option Value) (fa:Addr) (h:Heap),(K w.params).In h->h.Ns mainGlobals mg->mg d.name=some (.ref fa)->
   ∃fd:FuncData,(∀(s:Shared) (u:Value),BindsTo s fd ⟨[u],[]⟩ [(x,u)])/\
    ∀base:Heap,(K w.params).In base->base.Ns mainGlobals mg->iu l.prog w (K w.params) mg base (CX w) k fa fd [x] (sp w))
  (SA:∀(w:World) (H:Hp) (a:Addr) (ns:List Int),ns.length<=n->TB H->cT (K w.params) H a (ns.map V.int)->sp w [.ref a] H (fun v _=>v=.bl true) fun _ _ _=>False)
  (hCX:∀(w:World) (H:Hp) (s:Shared) (e:Value) (s':Shared),CX w [] H s (fun _ _ _=>False) e s'->False) :
  PySem.W.WalkO q loose XP YP l.row.toRowW d [] (fun f vs=>Fw f vs):=by
 refine Att.G7 hn hdf fun w s₀ s₁ mg mb fa o pm cd doc a vs ns G Y ho hd iW hmg Wy hints hlen hg=>?_;have KX:=hY w _ Y;obtain⟨fd,hb,hF⟩:=F w mg fa _ KX G.T.g hmg;exact Oq KX G.T.g G.T.b G.T.builtins G.T.nolimit hg Wy hints (Bm hlen hn2) hr hF hb (fun H hO hS=>SA w H a ns hlen hO hS) fun H e s'=>hCX w H s₁ e s'
def kj (s:Stmt):Arguments:=match s with
 | .FunctionDef _ a _ _ _ _ _ _ _ _=>a
 | _=>{posonlyargs:=[],args:=[],vararg:=none,kwonlyargs:=[],kw_defaults:=[],kwarg:=none,defaults:=[]}
def dI (s:Stmt):List Stmt:=match s with
 | .FunctionDef _ _ b _ _ _ _ _ _ _=>b
 | _=>[]
def aj (s:Stmt):Scope:=match s with
 | .FunctionDef _ _ _ _ _ _ sc _ _ _=>sc
 | _=>{kind:=.function,names:=[],isGenerator:=false,isCoroutine:=false}
abbrev sT:QC:=fun _ _ _ _ _ _=>False
abbrev E0:XK:=fun _ _ _=>False
def Zp {X:Cx}:Passes sT X E0:=fun _ _ _ _ _ _ _ h=>h.elim
structure QP (K:Aa) (x qual:Str) (st:Stmt) (f:Addr) (fd:FuncData):Prop where
 ex:∃(oc:Value) (od:Option Addr) (kV doc pm:Value) (an:Option Addr) (gw ct:Value) (Lx:Array (Option Value)),
  fd=B7 x qual (kj st) (dI st) (aj st) .none kV doc pm an gw ct/\K.lookup f=some ⟨oc,od,.func fd,Lx⟩/\DE K gw qual=true
 kp:DC K (.ref f)=true
section
variable {P:Program}{w:World}{K:Aa}{mg:Str->Option Value}{base:Heap}
def QP.ok {x qual:Str}{st:Stmt}{f:Addr}{fd:FuncData}{N ps:List Str}{k:Nat}{sp:Sp} (F:QP K x qual st f fd) (S:ay N ps (aj st)) (len:∀vs H Q E,sp vs H Q E->vs.length=ps.length)
  (O3:∀(gw:Value) (A:Around) (outer:List Env) (s:Shared) (H:Hp) (vs:List V) (Q:VK) (E:XK),fY k (A.deeper (envOfC qual (aj st) s.heap.objs.size f gw))->sp vs H Q E->
   ∃t,sQ (uX sT P w K mg base N qual (aj st) f gw A outer s H E).RZ (dI st) t/\t {nx:=fun _ H'=>Q .aU H',rt:=Q} (start N vs) H):iu P w K mg base sT (k+1) f fd ps sp:=by
 obtain⟨oc,od,kV,doc,pm,an,gw,ct,Lx,rfl,lk,iW⟩:=F.ex;refine aau lk iW S len fun A outer s H vs Q E hr SA=>?_;obtain⟨t,h,q⟩:=O3 gw A outer s H vs Q E hr SA;exact⟨t,h.RZ,q⟩
def QP.binds {x qual:Str}{st:Stmt}{f:Addr}{fd:FuncData}{ps:List Str} (F:QP K x qual st f fd)
  (h:∀(kV doc pm:Value) (an:Option Addr) (gw ct:Value) (us:List Value),us.length=ps.length->bindArgs (B7 x qual (kj st) (dI st) (aj st) .none kV doc pm an gw ct) ⟨us,[]⟩=pure (ps.zip us)):Binds K fd ps []:=by
 obtain⟨oc,od,kV,doc,pm,an,gw,ct,Lx,rfl,lk,iW⟩:=F.ex;exact .all (h kV doc pm an gw ct)
def WN {x qual:Str}{st:Stmt}{f:Addr}{oc:Value}{od an:Option Addr}{Lx:Array (Option Value)}{kV doc pm gw ct:Value} (l:K.lookup f=some ⟨oc,od,.func (B7 x qual (kj st) (dI st) (aj st) .none kV doc pm an gw ct),Lx⟩)
  (c:DE K gw qual=true) (k:DC K (.ref f)=true):QP K x qual st f (B7 x qual (kj st) (dI st) (aj st) .none kV doc pm an gw ct):=⟨⟨oc,od,kV,doc,pm,an,gw,ct,Lx,rfl,l,c⟩,k⟩
end
def La {n:Nat} (h:n<=1000):n < sizeLine:=Nat.lt_of_le_of_lt h (by decide)
def GJ {A B:Prop} (h:B):if false=true then A else B:=by
 rw [if_neg AI];exact h
def GI {A B:Prop} (h:A):if true=true then A else B:=by
 rw [if_pos rfl];exact h
def kG (H H':Hp):Prop:=∀b o,H b=some o->H' b=some o
def kG.refl (H:Hp):kG H H:=fun _ _ h=>h
def lsz {h:Heap}{b:Nat}{o:Obj} (e:h.get? b=some o):b < h.objs.size:=Ao e
def neN {a b:Nat} (h:a≠b):a≠b:=h
def ltN {a b:Nat} (h:a < b):a < b:=h
def UI {h:Heap}{c:Nat}{v:Option Value} (q:h.IsCell c v):c < h.objs.size:=q.lt
structure aD (Xs:Scope) (N:List Str) (sc:Scope) (N':List Str) (ix:List (Option Nat)):Prop where
 kind:sc.kind=.function
 nc:∀y∈sc.names,y.2≠.cell
 loc:∀y∈sc.names,y.2=.local->sc.names.lookup y.1=some .local
 fr:∀y∈sc.names,y.2=.free->(Xs.names.lookup y.1=some .cell\/Xs.names.lookup y.1=some .free)
 nd:N'.Nodup
 len:ix.length=N'.length
 map:((ix.zip N').all fun p=>match p.1 with | none=>true | some j=>decide (N[j]?=some p.2)&&decide (sc.names.lookup p.2=some .free))=true
def aD.at {Xs:Scope}{N:List Str}{sc:Scope}{N':List Str}{ix:List (Option Nat)} (S:aD Xs N sc N' ix) {i j:Nat}{x:Str} (h1:ix[i]?=some (some j)) (h2:N'[i]?=some x) :
  N[j]?=some x/\sc.names.lookup x=some .free:=by
 have hm:((some j,x):Option Nat×Str)∈ix.zip N':=by
  refine A5 (i:=i) ?_;rw [List.getElem?_zip_eq_some];exact⟨h1,h2⟩
 have q:=El.mp S.map _ hm;simp only [AE,decide_eq_true_eq] at q;exact q
def pj (ix:List (Option Nat)) (σ:St):St:=ix.map fun o=>match o with | some j=>(σ[j]?).getD none | none=>none
def gI (X:Cx) (sc:Scope) (N':List Str) (cl:List (Str×Addr)) (C:Addr) (s2:Shared) (H2:Hp) (fp:List Addr):Cx where
 prog:=X.prog
 w:=X.w
 K:=X.K
 mg:=X.mg
 base:=X.base
 A:=X.A
 N:=N'
 s₀:=s2
 H₀:=H2
 env:=compEnvC sc cl C X.env
 outer:=X.stack
 stack:=X.stack
 ex:=fp
 calm:=X.calm
 fn:=fun _=>false
 pn:=[]
 xe:=fun _ _=>False
theorem nW {env:Env}:∀(names:List (Str×NameKind)) (cs:List (Str×Addr)),(∀y∈names,y.2=.free->∃c,env.cells.lookup y.1=some c)->
  ∃cl,(forIn names cs fun (x:Str×NameKind) (c:List (Str×Addr))=>(match x with | (name,kind)=>do
    let c <- if (kind==A8)=true then do let a <- cellOf env name;pure ((name,a)::c) else pure c
    pure (B6 c):Sem (ForInStep (List (Str×Addr)))))=pure cl/\(∀x c,cl.lookup x=some c->cs.lookup x=some c\/(env.cells.lookup x=some c/\(x,A8)∈names))/\(∀x,((x,A8)∈names\/(∃c,cs.lookup x=some c))->∃c,cl.lookup x=some c)
 | [],cs,_=>⟨cs,rfl,fun _ _ h=>.inl h,fun x h=>h.elim (fun z=>nomatch z) fun z=>z⟩
 | (n,k)::r,cs,h=>by
  by_cases hk:k=.free
  ·subst hk;obtain⟨c,hc⟩:=h (n,.free) Bp rfl;obtain⟨cl,e,h1,h2⟩:=nW r ((n,c)::cs) fun y hy=>h y (AW _ hy);refine⟨cl,?_,fun x d hd=>?_,fun x hx=>?_⟩
   ·rw [BI,<- e];simp only [beq_self_eq_true,if_true,cellOf,hc,pure_bind]
   ·rcases h1 x d hd with z | ⟨z1,z2⟩
    ·rw [Bg] at z;by_cases hx:(x==n)=true
     ·rw [hx] at z;have Fy:x=n:=eq_of_beq hx;subst Fy;cases z;exact .inr ⟨hc,Bp⟩
     ·have Fy:(x==n)=false:=by simpa using hx
      rw [Fy] at z;exact .inl z
    ·exact .inr ⟨z1,AW _ z2⟩
   ·refine h2 x ?_;rcases hx with hx | ⟨d,hd⟩
    ·rcases Av.mp hx with z | z
     ·injection z with z1 _;subst z1;exact .inr ⟨c,by rw [Bg];simp⟩
     ·exact .inl z
    ·by_cases hx:(x==n)=true
     ·exact .inr ⟨c,by rw [Bg,hx]⟩
     ·have Fy:(x==n)=false:=by simpa using hx
      exact .inr ⟨d,by rw [Bg,Fy];exact hd⟩
  ·obtain⟨cl,e,h1,h2⟩:=nW r cs fun y hy=>h y (AW _ hy);refine⟨cl,?_,fun x d hd=>?_,fun x hx=>?_⟩
   ·have hb:(k==A8)=false:=by simpa using hk
    rw [BI,<- e];simp only [hb,Ap,if_false,pure_bind]
   ·rcases h1 x d hd with z | ⟨z1,z2⟩
    ·exact .inl z
    ·exact .inr ⟨z1,AW _ z2⟩
   ·refine h2 x ?_;rcases hx with hx | hx
    ·rcases Av.mp hx with z | z
     ·injection z with _ z2;exact absurd z2.symm hk
     ·exact .inl z
    ·exact .inr hx
def mU {sc:Scope}{env:Env} (h:∀y∈sc.names,y.2=.free->∃c,env.cells.lookup y.1=some c) :
  ∃cl,closureFor sc env=pure cl/\(∀x c,cl.lookup x=some c->env.cells.lookup x=some c/\(x,A8)∈sc.names)/\(∀x,(x,A8)∈sc.names->∃c,cl.lookup x=some c):=by
 obtain⟨cl,e,h1,h2⟩:=nW (env:=env) sc.names [] h;refine⟨cl,?_,fun x c hc=>(h1 x c hc).resolve_left (fun z=>nomatch z),fun x hx=>h2 x (.inl hx)⟩;unfold closureFor;have e':(forIn sc.names ([]:List (Str×Addr)) fun x r=>(match x with | (name,kind)=>if (kind==A8)=true then do let a <- cellOf env name;pure (B6 ((name,a)::r)) else pure (B6 r):Sem (ForInStep (List (Str×Addr)))))=pure cl:=by
  rw [<- e]
  first
   | rfl
   | (
     congr 1;funext x r;obtain⟨n,k⟩:=x;by_cases hk:(k==A8)=true
     ·simp only [hk,if_true,pure_bind]
     ·simp only [hk,if_false,pure_bind,Ap])
   | simp only [pure_bind]
 simpa using e'
theorem ic {env:Env}:∀{names:List (Str×NameKind)}{x:Str},
  (names.map fun (n,k)=>if (k==A8&&env.scope.kind==.function&&env.kindOf n==some .cell) then (n,E9) else (n,k)).lookup x =
   (names.lookup x).map fun k=>if (k==A8&&env.scope.kind==.function&&env.kindOf x==some .cell) then E9 else k
 | [],_=>rfl
 | (n,k)::r,x=>by
  have ih:=@ic env r x;show List.lookup x ((if (k==A8&&env.scope.kind==.function&&env.kindOf n==some .cell)=true then (n,E9) else (n,k))::_)=_;cases hx:x==n with
  | true=>
   have e:x=n:=eq_of_beq hx;subst e;by_cases hc:(k==A8&&env.scope.kind==.function&&env.kindOf x==some .cell)=true
   ·rw [if_pos hc,Bg,Bg,hx];simp only [Cm,hc,if_true]
   ·rw [if_neg hc,Bg,Bg,hx];simp only [Cm,hc,if_false];simp
  | false=>
   by_cases hc:(k==A8&&env.scope.kind==.function&&env.kindOf n==some .cell)=true
   ·rw [if_pos hc,Bg,Bg,hx];exact ih
   ·rw [if_neg hc,Bg,Bg,hx];exact ih
def X9 (X:Cx) (ifs:List Expr) (t:TT):Prop:=
 ∀(pins:List (Addr×Obj)) (s:Shared) (σ:St) (H:Hp) (Q:Bool->Hp->Prop),Inv X pins σ H s->t σ H Q->
  wpAny (model X.prog X.w) X.A (forIn ifs true fun c r=>if r=true then do let ok <- isTrue c X.env (eval c X.env);pure (B6 ok) else pure (B6 r)) (TP X pins σ Q) X.xe s
def acI:TT:=fun _ H Q=>Q true H
def RD {X:Cx}:X9 X [] acI:=fun pins s σ H Q I h=>by
 rw [DP];exact Ah ⟨H,I,h⟩
def RC {X:Cx}{c:Expr}{t:TT} (hc:PT X c t):X9 X [c] t:=fun pins s σ H Q I h=>by
 rw [BI];simp only [if_true,bind_assoc,pure_bind];refine Ab (bM (hc pins s σ H Q I h) fun b s1 q=>?_);rw [DP];exact Ah q
def tLc (ix:List (Option Nat)) (wi:TI) (g:TG) (tf:TT) (te:TE):TE:=fun σ H Q=>wi σ H fun J H1=>∀D,H1 D=none->∃W:Nat->Nat->St->List V->Hp->Prop,
 (∃m,W 0 m (pj ix σ) [] (upd H1 D (.lst [])))/\∀i m σ' ys H,W i m σ' ys H->H D=some (.lst ys)/\
  ((J.stop i H/\Q (.ref D) H)\/(J.go i H/\∀x H',J.TV i H x H'->g x σ' H' fun σ2 H2=>tf σ2 H2 fun b H3=>
   if b=true then te σ2 H3 fun y H4=>H4 D=some (.lst ys)/\ys.length+1<=sizeLine/\∃m',m' < m/\W (i+1) m' σ2 (ys++[y]) (upd H4 D (.lst (ys++[y]))) else ∃m',m' < m/\W (i+1) m' σ2 ys H3))
def mL {prog:Program}{w:World}{A:Around}{R:Result->Shared->Prop}{s:Shared}{elt target iter:Expr}{ifs:List Expr}{scope:Scope}{pos:Pos}{it acc:Value}{env:Env} (I:Nat->Shared->Prop)
  (turn:∀n s,I n s->wpAny (model prog w) A (pyNext it) (fun r s₁=>match r with
   | none=>R (.ok .next) s₁
   | some v=>wpAny (model prog w) A (letOwnedTupleGo target it v) (fun _ T5=>wpAny (model prog w) A (assign target env v) (fun _ s₂=>
     wpAny (model prog w) A (forIn ifs true fun c r=>if r=true then do let ok <- isTrue c env (eval c env);pure (B6 ok) else pure (B6 r)) (fun ok s₃=>
      if ok=true then wpAny (model prog w) A (eval elt env) (fun x s₄=>
       wpAny (model prog w) A (call (.builtin "list.append") [acc,x]) (fun _ s₅=>∃m,m < n/\I m s₅) (fun _ _=>False) s₄) (fun _ _=>False) s₃
      else ∃m,m < n/\I m s₃) (fun _ _=>False) s₂) (fun _ _=>False) T5) (fun _ _=>False) s₁) (fun _ _=>False) s)
  (n:Nat) (h:I n s) :
  codeAny (model prog w) A (.compLoop (.ListComp elt [⟨target,iter,ifs,0⟩] scope pos) 0 it acc env) R s:=by
 refine codeAny_loop rfl I (fun n s hI=>?_) n h;show wpAny _ A ((compTurn (.ListComp elt [⟨target,iter,ifs,0⟩] scope pos) 0 it acc env).onRaise (fun x=>do noteFrame x env;theTreesLotGoes x)) _ _ s;refine wpAny_noted ?_;rw [compTurn_list];refine Ab (D8 (Ab (BU (turn n s hI) (fun r s₁ h₁=>?_) fun _ _ h'=>h'.elim)));cases r with
 | none=>exact Ah h₁
 | some v=>
  refine Ab (BU h₁ (fun _ T5 ZY=>?_) fun _ _ h'=>h'.elim);refine Ab (BU ZY (fun _ s₂ h₂=>Ab (BU h₂ (fun ok s₃ h₃=>?_) fun _ _ h'=>h'.elim)) fun _ _ h'=>h'.elim);cases ok with
  | false=>exact Ah ⟨rfl,h₃⟩
  | true=>
   have ZX:wpAny (model prog w) A (eval elt env) (fun x s₄=>
       wpAny (model prog w) A (call (.builtin "list.append") [acc,x]) (fun _ s₅=>∃m,m < n/\I m s₅) (fun _ _=>False) s₄) (fun _ _=>False) s₃:=h₃
   exact Ab (Ab (BU ZX (fun x s₄ h₄=>Ab (BU h₄ (fun _ s₅ h₅=>Ah (Ah ⟨rfl,h₅⟩)) fun _ _ h'=>h'.elim)) fun _ _ h'=>h'.elim))
section
variable {X:Cx}{elt tg iter:Expr}{ifs:List Expr}{sc:Scope}{pos:Pos}{N':List Str}{ix:List (Option Nat)}{wi:TI}{g:TG}{tf:TT}{te:TE}
structure aba (X:Cx) (pins:List (Addr×Obj)) (H:Hp) (C:Addr):Prop where
 hn:H C=none
 hL:C≠X.env.locals
 ab:X.s₀.heap.objs.size<=C
 cl:∀x c,X.env.cells.lookup x=some c->c≠C
 pn:∀p∈X.pn++pins,p.1≠C
def Kc (hc:X.calm=true) (S:aD X.env.scope X.N sc N' ix)
  (hg:∀cl C s2 H2 fp,PG (gI X sc N' cl C s2 H2 fp) tg g) (hf:∀cl C s2 H2 fp,X9 (gI X sc N' cl C s2 H2 fp) ifs tf) (he:∀cl C s2 H2 fp,PE (gI X sc N' cl C s2 H2 fp) elt te)
  {pins:List (Addr×Obj)}{σ:St}{H2:Hp}{s2:Shared}{cl:List (Str×Addr)} (uC:∀x c,cl.lookup x=some c->X.env.cells.lookup x=some c/\(x,A8)∈sc.names) (L3:∀x,(x,A8)∈sc.names->∃c,cl.lookup x=some c)
  {it:Addr}{fp:List Addr}{tn:Nat->Heap->Prop}{J:It}{Q:VK} (I2:Inv X pins σ H2 s2) (T:Turn X.prog X.w X.K tg J fp it tn) (K7:tn 0 s2.heap) (f2:∀b∈fp,wH X pins H2 b)
  (hW:∀D,H2 D=none->∃W:Nat->Nat->St->List V->Hp->Prop,
   (∃m,W 0 m (pj ix σ) [] (upd H2 D (.lst [])))/\∀i m σ' ys H,W i m σ' ys H->H D=some (.lst ys)/\
    ((J.stop i H/\Q (.ref D) H)\/(J.go i H/\∀x H',J.TV i H x H'->g x σ' H' fun σ2 H2=>tf σ2 H2 fun b H3=>
     if b=true then te σ2 H3 fun y H4=>H4 D=some (.lst ys)/\ys.length+1<=sizeLine/\∃m',m' < m/\W (i+1) m' σ2 (ys++[y]) (upd H4 D (.lst (ys++[y]))) else ∃m',m' < m/\W (i+1) m' σ2 ys H3)))
  {RR:Value->Addr->Result->Shared->Prop}{E:Value->Shared->Prop}
  (hRR:∀D C m s' H',Inv X pins σ H' s'->Q (.ref D) H'->s'.heap.Ns C m->aba X pins H' C->RR (.ref D) C (.ok .next) s') :
  wpAny (model X.prog X.w) X.A (newList []) (fun acc s₃=>wpAny (model X.prog X.w) X.A (newFunctionEnv sc X.env.globals cl [] X.env.qual none .none (some X.env)) (fun aaV s₄=>
   codeAny (model X.prog X.w) X.A (.compStart (.ListComp elt [⟨tg,iter,ifs,0⟩] sc pos) 0 (.ref it) acc {aaV with scope:=relabel sc X.env}) (RR acc aaV.locals) s₄) E s₃) E s2:=by
 refine Bh (wpAny_newFunctionEnv S.nc (by intro y hy;simp at hy) (fun h₁ yV uz=>?_) S.kind);dsimp only at yV uz ⊢;generalize hH2:s2.heap.push {cls:=.type "list",dict:=none,data:=.seq ([]:List Value).toArray}=G2 at yV uz ⊢;have hC:G2.objs.size=s2.heap.objs.size+1:=by rw [<- hH2,Cg]
 obtain⟨D,hD⟩:∃D:Nat,s2.heap.objs.size=D:=⟨_,rfl⟩;obtain⟨C,hCC⟩:∃C:Nat,G2.objs.size=C:=⟨_,rfl⟩;simp only [hD,hCC] at yV uz hC ⊢;have hDC:D≠C:=by omega
 have old:∀b o,s2.heap.get? b=some o->h₁.get? b=some o:=fun b o e=>by
  have hb:=lsz e;exact uz.extBut b o (neN (by omega)) (Ak _ (hH2▸Ak _ e))
 have aan:h₁.get? D=some {cls:=.type "list",data:=.seq ([]:List Value).toArray}:=by
  refine uz.extBut D _ hDC (Ak _ ?_);rw [<- hH2,<- hD];exact An _ rfl
 have hD2:H2 D=none:=I2.bD.fresh (by omega);have hC2:H2 C=none:=I2.bD.fresh (by omega);obtain⟨W,⟨m0,w0⟩,turn⟩:=hW D hD2;have UH:∀x c,cl.lookup x=some c->∃v,s2.heap.IsCell c v:=fun x c e=>I2.cell x c (uC x c e).1;have aeh:∀x c,cl.lookup x=some c->c < D:=fun x c e=>by
  obtain⟨v,q⟩:=UH x c e;have:=UI q;exact ltN (by omega)
 have fpD:∀b∈fp,b < D:=fun b hb=>by
  obtain⟨o,e,_⟩:=T.obj 0 _ K7 b hb;have:=lsz e;exact ltN (by omega)
 have Yok:(gI X sc N' cl C s2 H2 fp).Ok:=by
  refine⟨I2.ok.mod,S.kind,I2.ok.glob,I2.ok.blt,?_,?_,?_,?_,I2.ok.hd,I2.ok.frames,.inl rfl,?_,I2.bs,?_,?_,?_,I2.stack,I2.JB⟩
  ·show s2.heap.objs.size<=C;omega
  ·intro x y c e1 e2;exact I2.ok.inj x y c (uC x c e1).1 (uC y c e2).1
  ·intro x hx;have Fy:(relabel sc X.env).names.lookup x=some .cell\/(relabel sc X.env).names.lookup x=some .free:=hx;unfold relabel at Fy;rw [ic] at Fy;cases q:sc.names.lookup x with
   | none=>rw [q] at Fy;simp at Fy
   | some k=>
    have hm:=BF q;by_cases hk:k=.free
    ·subst hk;exact L3 x hm
    ·have hk2:k≠.cell:=S.nc _ hm;rw [q] at Fy;have hb:(k==A8)=false:=by simpa using hk
     simp only [Cm,hb,E2,Ap,if_false] at Fy;rcases Fy with z | z
     ·exact absurd (Option.some.inj z) hk2
     ·exact absurd (Option.some.inj z) hk
  ·intro x c hfn;exact absurd hfn AI
  ·intro b hb;refine⟨?_,fun x c e z=>(f2 b hb).2.2.2.2.1 x c (uC x c e).1 z⟩;show b≠C;have:=ltN (fpD b hb);exact neN (by omega)
  ·show X.base.objs.size<=s2.heap.objs.size;exact Bm I2.ok.UJ I2.sz
  ·intro b o e hb;rcases (f2 b hb).2.2.2.1 with z | z
   ·exact I2.ok.N6 b o e z
   ·have h1:=lsz (h:=X.base) e;have h2:=I2.ok.UJ;omega
  ·intro b hb z;rcases Av.mp (I2.HH b z) with q | q
   ·exact (f2 b hb).2.1 q
   ·exact (f2 b hb).2.2.1 q
 have un0:Un (MP X.stack) fp H2 (upd H2 D (.lst [])) s2.heap h₁:=Un.laid old (by omega) hD2;have ady:mH X.prog X.w (upd H2 D (.lst [])) h₁:=I2.bD.laid old (by omega) ⟨Bd _,[],0,.nil,aan⟩;have IY:∀tk,Inv (gI X sc N' cl C s2 H2 fp) [] (pj ix σ) (upd H2 D (.lst [])) {s2 with heap:=h₁,toks:=tk}:=fun tk=>by
  refine⟨Yok,rfl,I2.bare,un0,⟨_,yV,fun i x v e1 e2 e3=>?_⟩,fun x c e=>?_,?_,fun x c e=>?_,fun p hp=>absurd (show p∈([]:List (Addr×Obj)) from hp) (by simp),ady,?_⟩
  ·have mK:N'[i]?=some x:=e1;unfold pj at e2;rw [Ai] at e2;cases q:ix[i]? with
   | none=>rw [q] at e2;cases e2
   | some o=>
    cases o with
    | none=>rw [q] at e2;cases e2
    | some j=>
     rw [q] at e2;have W9:(σ[j]?).getD none=some v:=Option.some.inj e2;have e4:σ[j]?=some (some v):=by
      cases z:σ[j]? with
      | none=>rw [z] at W9;cases W9
      | some y=>rw [z] at W9;exact congrArg some W9
     obtain⟨a1,a2⟩:=S.at q mK;have Z9:=BF a2;have hk:=S.fr _ Z9 rfl;obtain⟨m,_,hl⟩:=I2.loc;obtain⟨u,r,l⟩:=hl j x v a1 e4 (.inr hk);refine⟨u,r,.inr ⟨?_,?_⟩⟩
     ·show (relabel sc X.env).names.lookup x=some .cell\/(relabel sc X.env).names.lookup x=some .free;unfold relabel;rw [ic,a2];by_cases hb:(X.env.scope.kind==.function&&X.env.kindOf x==some .cell)=true
      ·left
       simp only [Cm,beq_self_eq_true,Fb,hb,if_true]
      ·right
       simp only [Cm,beq_self_eq_true,Fb,hb,if_false,Ap]
     ·obtain⟨c,hcx⟩:=L3 x Z9;have hcX:=(uC x c hcx).1;refine⟨c,hcx,?_⟩;rcases l with⟨k,_⟩ | ⟨k,c',e',z⟩
      ·have k':X.env.scope.names.lookup x=some .local:=k;rcases hk with y | y <;> rw [k'] at y <;> cases y
      ·rw [hcX] at e';cases e';obtain⟨o,ho,hd⟩:=z;exact⟨o,old _ _ ho,hd⟩
  ·obtain⟨v,o,ho,hd⟩:=UH x c e;exact⟨v,o,old _ _ ho,hd⟩
  ·show upd H2 D (.lst []) C=none;rw [av (Bw hDC)];exact hC2
  ·have my:=ltN (aeh x c e);show upd H2 D (.lst []) c=none;rw [av (neN (by omega))];exact I2.kQ x c (uC x c e).1
  ·unfold pj;rw [Af];exact S.len
 have fpY:∀{F8:List (Addr×Obj)}{H':Hp},(∀b∈fp,H' b=none)->(∀p∈F8,p.1∉fp)->∀b∈fp,wH (gI X sc N' cl C s2 H2 fp) F8 H' b:=fun hn hp b hb=>by
  refine⟨hn b hb,?_,?_,.inl hb,fun x c e z=>(f2 b hb).2.2.2.2.1 x c (uC x c e).1 z,fun p hpp z=>?_⟩
  ·show b≠C;have:=ltN (fpD b hb);exact neN (by omega)
  ·exact Yok.Pk b hb
  ·have Z5:p∈([]:List (Addr×Obj))++_:=hpp;rw [CC] at Z5;exact hp p Z5 (z▸hb)
 have loop:∀s₃:Shared,s₃={s2 with heap:=h₁,toks:=s2.toks+([]:List (Str×Value)).length}->
   codeAny (model X.prog X.w) X.A (.compLoop (.ListComp elt [⟨tg,iter,ifs,0⟩] sc pos) 0 (.ref it) (.ref D) (compEnvC sc cl C X.env)) (RR (.ref D) C) s₃:=by
  rintro s₃ rfl;refine mL (fun n s'=>∃i σ' ys H',Inv (gI X sc N' cl C s2 H2 fp) [] σ' H' s'/\tn i s'.heap/\(∀b∈fp,H' b=none)/\W i n σ' ys H') ?_ m0
   ⟨0,_,[],_,IY _,T.keep _ _ _ K7 (fun b _ o e=>old b o e),fun b hb=>by rw [av (AJ (fpD b hb))];exact (f2 b hb).1,w0⟩
  rintro n s3 ⟨i,σ3,ys,H3,I3,YT,fr3,w3⟩;obtain⟨hDl,w3⟩:=turn i n σ3 ys H3 w3;rcases w3 with⟨stop,qn⟩ | ⟨go,step⟩
  ·refine bM (T.done (gI X sc N' cl C s2 H2 fp) rfl rfl rfl hc i [] s3 σ3 H3 _ I3 (fpY fr3 (by simp)) YT stop) fun r s4 ⟨hr,I4⟩=>?_;subst hr;obtain⟨m,hn,_⟩:=I4.loc;refine hRR D C m s4 H3 (I2.aaW (ch:=fp) I4.os I4.base I4.bD I4.bare fun b hb=>?_) qn hn ?_
   ·obtain⟨a0,a1,a2,a3,a4,a5⟩:=f2 b hb;exact⟨a3,a1,a4,a5⟩
   ·refine⟨I4.free,?_,?_,fun x c e z=>?_,fun p hp z=>?_⟩
    ·have:=ltN I2.lt;exact neN (by omega)
    ·have:=I2.sz;omega
    ·obtain⟨v,q⟩:=I2.cell x c e;have:=UI q;exact neN (a:=c) (b:=C) (by omega) z
    ·have:=lsz (I2.pin p hp).1;exact neN (a:=p.1) (b:=C) (by omega) z
  ·refine bM (T.item (gI X sc N' cl C s2 H2 fp) rfl rfl rfl hc i [] s3 σ3 H3 (fun _ _=>False) I3 (fpY fr3 (by simp)) YT go) fun r s4 ⟨u,hr,h4⟩=>?_;subst hr;refine bM h4 fun _ s5 ⟨x,H5,I5,r5,y5,U4,fr5⟩=>?_;have I5':=I5.pinned (fpY fr5 (by simp)) (T.obj _ _ U4);refine bM (hg _ _ _ _ _ _ s5 σ3 H5 x u _ I5' r5 (step x H5 y5)) fun _ s6 ⟨σ6,H6,I6,q6⟩=>?_;refine bM (hf _ _ _ _ _ _ s6 σ6 H6 _ I6 q6) fun b s7 ⟨H7,I7,q7⟩=>?_;have OA:∀{s8:Shared}{σ8:St}{H8:Hp},Inv (gI X sc N' cl C s2 H2 fp) ([]++pY fp s5.heap) σ8 H8 s8->tn (i+1) s8.heap/\∀b∈fp,H8 b=none:=fun {s8 σ8 H8} I8=>by
    refine⟨T.keep _ _ _ U4 fun b hb o e=>(I8.pin (b,o) (AY _ (AY _ (jV hb e)))).1,fun b hb=>?_⟩;obtain⟨o,e,d⟩:=T.obj _ _ U4 b hb;exact (I8.pin (b,o) (AY _ (AY _ (jV hb e)))).2.1
   cases b with
   | false=>
    have q7':∃m',m' < n/\W (i+1) m' σ6 ys H7:=q7;obtain⟨m',hm,w7⟩:=q7';rw [if_neg AI];obtain⟨t7,fr7⟩:=OA I7;exact⟨m',hm,i+1,σ6,ys,H7,I7.lg,t7,fr7,w7⟩
   | true=>
    rw [if_pos rfl];rw [if_pos rfl] at q7;refine bM (he _ _ _ _ _ _ s7 σ6 H7 _ I7 q7) fun yv s8 ⟨y,H8,I8,r8,hD8,hz8,m',hm,w8⟩=>?_;obtain⟨z,ar,k,rv,hl8,e8⟩:=I8.qa hD8;obtain⟨t8,fr8⟩:=OA I8;refine wpAny_list_append_plain (s:=s8) (items:=ar.toArray) (hsz:=by rw [Ag];omega) ⟨_,e8⟩ fun h9 hl9 hs9=>?_;obtain⟨k9,e9⟩:=hl9;have hv9:Vals (ys++[y]) (ar++[yv]):=Vals.append rv (.cons r8 .nil);have I9:Inv (gI X sc N' cl C s2 H2 fp) ([]++pY fp s5.heap) σ6 (upd H8 D (.lst (ys++[y]))) {s8 with heap:=h9,toks:=s8.toks}:=by
     refine I8.write (x:=D) (e:=D) (by rw [hD8];exact trivial) (.inl rfl) (fun b u hb hu=>(hs9.2 b hb).trans hu) ⟨_,e9⟩ ?_;refine⟨by rw [Ad,EN];exact hz8,ar++[yv],k9,hv9,?_⟩;rw [e9];simp
    obtain⟨t9,fr9⟩:=OA I9;exact⟨m',hm,i+1,σ6,_,_,I9.lg,t9,fr9,w8⟩
 exact codeAny_compStart_list (loop _ rfl) (T.self _ 0 _ _ _ (T.keep _ _ _ K7 fun b _ o e=>old b o e) (loop _ rfl))
def Zm (hc:X.calm=true) (S:aD X.env.scope X.N sc N' ix) (hi:PI X tg iter wi)
  (hg:∀cl C s2 H2 fp,PG (gI X sc N' cl C s2 H2 fp) tg g) (hf:∀cl C s2 H2 fp,X9 (gI X sc N' cl C s2 H2 fp) ifs tf) (he:∀cl C s2 H2 fp,PE (gI X sc N' cl C s2 H2 fp) elt te)
  (hs:∀x,foldedSetIterable iter X.env x=pure x:=by intro _;rfl):PE X (.ListComp elt [⟨tg,iter,ifs,0⟩] sc pos) (tLc ix wi g tf te):=by
 intro pins s σ H Q I h;rw [eval_ListComp];have IG:∀y∈sc.names,y.2=.free->∃c,X.env.cells.lookup y.1=some c:=fun y hy hk=>I.ok.has y.1 (S.fr y hy hk);obtain⟨cl,O2,uC,L3⟩:=mU IG;refine Ea (use:=none) rfl hs O2 S.kind S.loc (bM (hi pins s σ H _ I h) fun v s1 h1=>bM h1 fun itv s2 h2=>?_);obtain⟨it,fp,tn,J,H2,rfl,I2,T,K7,f2,hW⟩:=h2;refine Kc (RR:=fun acc C=>compPost (model X.prog X.w) X.A X.xe none (EP X pins σ Q) acc C) hc S hg hf he uC L3 I2 T K7 f2 hW fun D C m s' H' I' q hn F=>?_;refine⟨m,hn,fun h' hs'=>⟨.ref D,H',?_,rfl,q⟩⟩;exact I'.turned (it:=C) (t':=s'.toks) (fun b o hb e=>(hs'.2 b hb).trans e) F.hn F.hL (.inr F.ab) F.cl F.pn
def F5 {i:Nat}{x:Str}{px kT:Pos} (hc:X.calm=true) (hN:X.N.Nodup) (IE:X.N[i]?=some x) (hx:X.env.scope.names.lookup x=some .local) (S:aD X.env.scope X.N sc N' ix) (hi:PI X tg iter wi)
  (hg:∀cl C s2 H2 fp,PG (gI X sc N' cl C s2 H2 fp) tg g) (hf:∀cl C s2 H2 fp,X9 (gI X sc N' cl C s2 H2 fp) ifs tf) (he:∀cl C s2 H2 fp,PE (gI X sc N' cl C s2 H2 fp) elt te)
  (uy:swapsWith (.ListComp elt [⟨tg,iter,ifs,0⟩] sc pos) (some (.Name x px)) kT.line X.env=pure true:=by rfl)
  (hs:∀x,foldedSetIterable iter X.env x=pure x:=by intro _;rfl):PS X (.Assign [.Name x px] (.ListComp elt [⟨tg,iter,ifs,0⟩] sc pos) kT) (U2 (tLc ix wi g tf te) (dN i)):=by
 intro pins s σ H D0 I h;rw [exec_Assign_Name_used _ _ _ _ uy];refine Ab (D8 (Ab ?_));show wpAny _ X.A (do let _ <- comprehension (.ListComp elt [⟨tg,iter,ifs,0⟩] sc pos) sc X.env _ (newList []) false (eval iter X.env) (some (assign (.Name x px) X.env))) _ _ s;have IG:∀y∈sc.names,y.2=.free->∃c,X.env.cells.lookup y.1=some c:=fun y hy hk=>I.ok.has y.1 (S.fr y hy hk);obtain⟨cl,O2,uC,L3⟩:=mU IG;refine Ab (BU (Ea (use:=some (assign (.Name x px) X.env)) (Q:=fun _ s'=>SP X pins D0 .next s') rfl hs O2 S.kind S.loc (bM (hi pins s σ H _ I h) fun v s1 h1=>bM h1 fun itv s2 h2=>?_)) (fun _ s' hq=>Ah (Ah hq)) fun _ _ e=>e);obtain⟨it,fp,tn,J,H2,rfl,I2,T,K7,f2,hW⟩:=h2;refine Kc (RR:=fun acc C=>compPost (model X.prog X.w) X.A X.xe (some (assign (.Name x px) X.env)) (fun _ s'=>SP X pins D0 .next s') acc C) (Q:=fun x H1=>dN i x σ H1 D0.nx) hc S hg hf he uC L3 I2 T K7 f2 hW fun D C m s' H' I' q hn F=>?_;show wpAny _ X.A (assign (.Name x px) X.env (.ref D)) _ _ _;refine wpAny_assign_Name (wL (v:=.ref D) I' hN IE (.inl hx) rfl (fun Y1 I'' hsb=>?_) (.inr hx));obtain⟨a,hsb,ha⟩:=hsb;have haC:C≠a:=by
  rcases ha with z | z
  ·rw [z];exact F.hL
  ·exact Bw (F.cl _ _ z)
 refine⟨m,hn.sameBut hsb haC,fun h' hs'=>⟨_,H',?_,q⟩⟩;exact I''.turned (it:=C) (t':=Y1.toks) (fun b o hb e=>(hs'.2 b hb).trans e) F.hn F.hL (.inr F.ab) F.cl F.pn
end
section
variable {X:Cx}{b e:Expr}
def q9:bL X (.builtin "isinstance") (fun xs H Q=>∃x c t b,xs=[x,.ty c]/\mM X.K H x t/\Bo X.K t (.type c)=some b/\Q (.bl b) H):=by
 intro pins s σ H xs us Q I r h;obtain⟨x,c,t,b,rfl,ty,hk,q⟩:=h;obtain⟨u,w',rfl,ru,iU⟩:=vals2 r;cases (show w'=BL c from iU);exact LU I ru ty hk fun tk=>⟨.bl b,H,I.tok _,rfl,q⟩
def Ly (hu:X.A.units < cLine):jE X (compareOp .NotEq) (fun x y H Q=>∃p q xs,x=.ref p/\y=.ref q/\cT X.K H p xs/\cT X.K H q []/\Q (.bl (!xs.isEmpty)) H):=by
 intro pins s σ H x y v u Q I rx ry h;obtain⟨p,q,xs,rfl,rfl,hp,hq,k⟩:=h;cases rx;cases ry;obtain⟨ar,r,pl,hz⟩:=I.list hp;obtain⟨bN,r2,F7,hz2⟩:=I.list hq;cases r2;cases xs with
 | nil=>
  cases r;refine DW (Fd (e:=fun _=>true) pl.isList F7.isList rfl hu fun j h1=>absurd h1 (by simp)) ?_;exact⟨.bl false,H,I,rfl,k⟩
 | cons y ys=>
  have hl:=r.length;refine DW (DG pl.isList F7.isList (by simp at hl ⊢;intro z;subst z;simp at hl) hu) ?_;exact⟨.bl true,H,I,rfl,k⟩
def G5 {bs:List Bool}:∀{us:List Value},Vals (bs.map V.bl) us->us=bs.map B2:=by
 induction bs with
 | nil=>intro us r;rw [Cu] at r;cases r;rfl
 | cons n ns ih=>
  intro us r;rw [Au] at r;cases r with
  | cons r1 r2=>
   cases r1;rw [ih r2];rfl
def Je (hc:X.calm=true):bL X (.builtin "all") (fun xs H Q=>∃(p:Addr) (bs:List Bool),xs=[.ref p]/\cT X.K H p (bs.map V.bl)/\Q (.bl (bs.all id)) H):=by
 intro pins s σ H xs us Q I r h;obtain⟨p,bs,rfl,hp,q⟩:=h;obtain⟨u,rfl,ru⟩:=vals1 r;cases ru;obtain⟨ar,rv,pl,hz⟩:=I.list hp;have eb:=G5 rv;subst eb;have hl:=pl.isList;have my:p < s.heap.objs.size:=by obtain⟨_,e,_⟩:=hl;exact Ao e
 refine call_all_walk (Cr hl ?_);refine⟨s.heap.objs.size,[s.heap.objs.size,p],[s.heap.objs.size],(bs.map B2).toArray.size,_,_,fun i=>(bs[i]?).getD true,rfl,Walks.list (A:=X.A.in1) (I.ok.hd hc) _ p (AJ my) (bs.map B2).toArray,
  ⟨⟨_,An _ rfl,rfl,rfl⟩,hl.push _⟩,fun i v s' Q' E' hP hQ=>?_,fun h' tk hk=>?_⟩
 ·have O5:(bs.map B2)[i]?=some v:=by simpa using hP
  rw [Ai] at O5;cases e:bs[i]? with
  | none=>rw [e] at O5;cases O5
  | some b=>
   rw [e] at O5;cases O5;simp only [e,Option.getD_some] at hQ;exact BB hQ
 ·have e:((AH (bs.map B2).toArray.size).all fun i=>(bs[i]?).getD true)=bs.all id:=by
   rw [Ag,Af];exact LSm.range_all bs
  rw [e];exact⟨.bl (bs.all id),H,I.kept (LSm.kept_iter hk),rfl,q⟩
def Jd (hc:X.calm=true):bL X (.builtin "any") (fun xs H Q=>∃(p:Addr) (bs:List Bool),xs=[.ref p]/\cT X.K H p (bs.map V.bl)/\Q (.bl (bs.any id)) H):=by
 intro pins s σ H xs us Q I r h;obtain⟨p,bs,rfl,hp,q⟩:=h;obtain⟨u,rfl,ru⟩:=vals1 r;cases ru;obtain⟨ar,rv,pl,hz⟩:=I.list hp;have eb:=G5 rv;subst eb;have hl:=pl.isList;have my:p < s.heap.objs.size:=by obtain⟨_,e,_⟩:=hl;exact Ao e
 refine call_any_walk (Cr hl ?_);refine⟨s.heap.objs.size,[s.heap.objs.size,p],[s.heap.objs.size],(bs.map B2).toArray.size,_,_,fun i=>(bs[i]?).getD false,rfl,Walks.list (A:=X.A.in1) (I.ok.hd hc) _ p (AJ my) (bs.map B2).toArray,
  ⟨⟨_,An _ rfl,rfl,rfl⟩,hl.push _⟩,fun i v s' Q' E' hP hQ=>?_,fun h' tk hk=>?_⟩
 ·have O5:(bs.map B2)[i]?=some v:=by simpa using hP
  rw [Ai] at O5;cases e:bs[i]? with
  | none=>rw [e] at O5;cases O5
  | some b=>
   rw [e] at O5;cases O5;simp only [e,Option.getD_some] at hQ;exact BB hQ
 ·have e:((AH (bs.map B2).toArray.size).any fun i=>(bs[i]?).getD false)=bs.any id:=by
   rw [Ag,Af];exact LSm.range_any bs
  rw [e];exact⟨.bl (bs.any id),H,I.kept (LSm.kept_iter hk),rfl,q⟩
def rP (l:Addr) (items:Array Value) (n:Nat) (b:Addr) (ip:Array Value) (n2:Nat) (dd:Option Addr) (sl:Array (Option Value)) (hs0:¬(!items.isEmpty&&Builtin.List.listTooLong (items.size+ip.size))=true) (GL:items.size<=sizeLine) (sF:items.size+ip.size<=sizeLine+1) :
  Meets (Builtin.«list.extend» ⟨[.ref l,.ref b],[]⟩) (fun _ R s=>s.heap.get? l=some {cls:=.type "list",dict:=none,data:=.seq items n,slots:=#[]}/\s.heap.get? b=some {cls:=.type "tuple",dict:=dd,data:=.seq ip n2,slots:=sl}/\R (.ok (.ret Be)) {s with heap:=s.heap.update l (Cb fun x=>x++ip),toks:=s.toks}):=
 .of_wp fun prog w A R s h=>by
  obtain⟨hp,g,d,tk,os⟩:=s;obtain⟨hl,hb,h⟩:=h;have f1:=Es;have f2:=C4;have f3:=Dp;have f4:=Df;have f5:=Dg;have ID:(items++ip).size<=sizeLine+1:=by rw [D3];exact sF
  wp_walk using (Dq hl rfl (hz:=GL) (_hz':=ID)),BM hl,BM hb;exact⟨_,rfl,h⟩
def NC (K:Aa):V->List V->Hp->VK->Prop:=fun x vs H Q=>∃l b xs zs,x=.ref l/\vs=[.ref b]/\H l=some (.lst xs)/\dc K H b zs/\xs.length+zs.length<=sizeLine/\Q .aU (upd H l (.lst (xs++zs)))
def HZ:MB X "list.extend" (NC X.K):=by
 intro pins s σ H x vs v us Q I rx rv h;obtain⟨l,b,xs,zs,rfl,rfl,hH,hB,hz,q⟩:=h;cases rx;obtain⟨u,rfl,ru⟩:=rv.one;cases ru;obtain⟨z,ar,n,r,hl,e⟩:=I.qa hH;obtain⟨bN,r2,⟨⟨cls,dd,data,sl⟩,e2,hc,n2,hd⟩,z2⟩:=I.tuple hB;simp only at hc hd;subst hc hd;have QK:=r2.length;have hsz:ar.toArray.size+bN.toArray.size<=sizeLine:=by rw [Ag,Ag];omega
 have uB:¬(!ar.toArray.isEmpty&&Builtin.List.listTooLong (ar.toArray.size+bN.toArray.size))=true:=by
  rw [jt hsz,DS];exact AI
 refine call_meets DH ⟨_,e,rfl⟩ Dx (De _ _)
  (rP l ar.toArray n b bN.toArray n2 dd sl uB (by rw [Ag];omega) (by omega)) ⟨e,e2,?_⟩
 refine⟨.aU,_,I.Ic (its':=ar++bN) hH e (by simp) (r.append r2) ?_,rfl,q⟩;rw [Ad];omega
end
section
variable {X:Cx}{o:Expr}{lo hi:Expr}{to tl th:TE}{pos p2:Pos}
def WM (to tl th:TE):TG:=fun v σ H Q=>to σ H fun x H1=>tl σ H1 fun i H2=>th σ H2 fun j H3=>∃l b xs ys a c,x=.ref l/\v=.ref b/\i=.int a/\j=.int c/\H3 l=some (.lst xs)/\H3 b=some (.lst ys)/\l≠b/\0<=a/\a<=c/\c<=xs.length/\xs.length+ys.length<=sizeLine/\
 Q σ (upd H3 l (.lst (xs.take a.toNat++ys++xs.drop c.toNat)))
def NR (ho:PE X o to) (hl:PE X lo tl) (hh:PE X hi th)
  (ha:∀v,assign (.Subscript o (.Slice (some lo) (some hi) none p2) pos) X.env v=(do
   let ov <- holding [v] (eval o X.env)
   let iv <- holding [v,ov] (eval (.Slice (some lo) (some hi) none p2) X.env)
   standAt pos
   holding [v,ov,iv] (setItem ov iv v)
   release [iv,v,ov] []):=by intro _;rfl):PG X (.Subscript o (.Slice (some lo) (some hi) none p2) pos) (WM to tl th):=by
 intro pins s σ H v u Q I r h;rw [ha];refine Ab (Bi (bM (ho pins s σ H _ I h) fun ov s1 ⟨x,H1,I1,r1,q1⟩=>?_));refine Ab (Bi (wpAny_Slice ?_));rw [evalPart_some,evalPart_some,evalPart_none];refine bM (hl pins s1 σ H1 _ I1 q1) fun vl s2 ⟨i,H2,I2,r2,q2⟩=>bM (hh pins s2 σ H2 _ I2 q2) fun vu s3 ⟨j,H3,I3,r3,q3⟩=>Ah ?_;obtain⟨l,b,xs,ys,a,c,rfl,rfl,rfl,rfl,hH,hB,OX,h0,XS,hc,hz,q⟩:=q3;cases r;cases r1;have I4:Inv X pins σ H3 {s3 with heap:=s3.heap.push {cls:=.type "slice",data:=.fields #[vl,vu,.none]}}:=I3.kept (t':=s3.toks) fun b ob q=>Ak _ q;refine Ab (D8 (Ab (Bi (Ld I4 hH hB OX (Heap.IsSliceOf.new ..) r2 r3 h0 XS hc hz fun s' I'=>?_))));exact wpAny_release ⟨σ,_,I',q⟩
end
def rg (l:Addr) (H H':Hp):Prop:=∀b u,b≠l->H b=some u->H' b=some u
def lj {H:Hp}{p:Addr} (h:H p=none) (o:HO):kG H (upd H p o):=fun b u q=>by rw [av (bK q h)];exact q
def Lj {H:Hp}{p:Addr} (o:HO):rg p H (upd H p o):=fun b u n q=>by rw [av n];exact q
def nu (H:Hp) (o:HO) (Q:VK):Prop:=∀p H',kG H H'->H' p=some o->H p=none->Q (.ref p) H'
def nu.at {H:Hp}{o:HO}{Q:VK} (h:nu H o Q) (p:Addr) (hp:H p=none):Q (.ref p) (upd H p o):=h p _ (lj hp o) aM hp
def xK (H:Hp) (l:Addr) (o:HO) (Q:Hp->Prop):Prop:=∀H',rg l H H'->H' l=some o->Q H'
def xK.at {H:Hp}{l:Addr}{o:HO}{Q:Hp->Prop} (h:xK H l o Q):Q (upd H l o):=h _ (Lj o) aM
def jE.mono {X:Cx}{f:Value->Value->Sem Value}{r r':R2} (h:jE X f r) (hr:∀x y H Q,r' x y H Q->r x y H Q):jE X f r':=fun pins s σ H x y v u Q I rx ry q=>h pins s σ H x y v u Q I rx ry (hr _ _ _ _ q)
def bL.mono {X:Cx}{f:Value}{r r':List V->Hp->VK->Prop} (h:bL X f r) (hr:∀xs H Q,r' xs H Q->r xs H Q):bL X f r':=fun pins s σ H xs us Q I rx q=>h pins s σ H xs us Q I rx (hr _ _ _ q)
def MB.mono {X:Cx}{id:String}{r r':V->List V->Hp->VK->Prop} (h:MB X id r) (hr:∀x xs H Q,r' x xs H Q->r x xs H Q):MB X id r':=fun pins s σ H x xs v us Q I rx rv q=>h pins s σ H x xs v us Q I rx rv (hr _ _ _ _ q)
def Hi.mono {X:Cx}{r r':Hg} (h:Hi X r) (hr:∀o i v H Q,r' o i v H Q->r o i v H Q):Hi X r':=fun pins s σ H o i v ov iv u Q I ro ri rv q=>h pins s σ H o i v ov iv u Q I ro ri rv (hr _ _ _ _ _ q)
section
variable {X:Cx}{e o:Expr}{es:List Expr}{t:TA}{pos:Pos}
def YC (t:TA):TE:=fun σ H Q=>t σ H fun xs H1=>xs.length<=sizeLine/\nu H1 (.tup xs) Q
def YI (t:TA):TE:=fun σ H Q=>t σ H fun xs H1=>xs.length<=sizeLine/\nu H1 (.lst xs) Q
def RE {x1} (h:PA X es t):PE X (.Tuple es x1 pos) (YC t):=by
 intro pins s σ H Q I hq;refine wpAny_Tuple_spliced (bM (h pos pins s σ H _ I hq) fun us s1 ⟨xs,H1,I1,r,z,q⟩=>⟨by rw [<- r.length];exact z,?_⟩);have hf:H1 s1.heap.objs.size=none:=I1.bD.fresh (Am _);refine⟨.ref s1.heap.objs.size,upd H1 s1.heap.objs.size (.tup xs),I1.laid (t':=s1.toks) (fun b u e=>Ak _ e) (Am _) ?_,rfl,q.at _ hf⟩;exact⟨z,us,r,⟨_,An _ rfl,rfl,_,rfl⟩⟩
def JU (h:PA X es t):PE X (.List es pos) (YI t):=by
 intro pins s σ H Q I hq;refine wpAny_List_spliced (bM (h pos pins s σ H _ I hq) fun us s1 ⟨xs,H1,I1,r,z,q⟩=>⟨by rw [<- r.length];exact z,?_⟩);have hf:H1 s1.heap.objs.size=none:=I1.bD.fresh (Am _);refine⟨.ref s1.heap.objs.size,upd H1 s1.heap.objs.size (.lst xs),I1.laid (t':=s1.toks) (fun b u e=>Ak _ e) (Am _) ?_,rfl,q.at _ hf⟩;exact⟨z,us,0,r,An _ rfl⟩
def Nx (K:Aa):R2:=fun x y H Q=>match x with
 | .int i=>∃j,y=.int j/\Q (.int (i+j)) H
 | .str i=>∃j,y=.str j/\i.length+j.length<=sizeLine/\Q (.str (i++j)) H
 | .ref a=>(∃b xs zs,y=.ref b/\H a=some (.lst xs)/\H b=some (.lst zs)/\xs.length+zs.length<=sizeLine/\nu H (.lst (xs++zs)) Q)\/Ua K x y H Q
 | _=>False
def RP:jE X (binaryOp .Add) (Nx X.K):=by
 refine ((VJ.or HS).or (VI.or J0)).mono fun x y H Q h=>?_;unfold Nx at h;cases x with
 | int i=>obtain⟨j,rfl,q⟩:=h;exact .inl (.inl ⟨i,j,rfl,rfl,q⟩)
 | str i=>obtain⟨j,rfl,hl,q⟩:=h;exact .inl (.inr ⟨i,j,rfl,rfl,hl,q⟩)
 | ref a=>
  rcases h with⟨b,xs,zs,rfl,h1,h2,hz,q⟩ | h
  ·exact .inr (.inl ⟨a,b,xs,zs,rfl,rfl,h1,h2,hz,fun p hp=>q.at p hp⟩)
  ·exact .inr (.inr h)
 | _=>exact h.elim
def RK:jE X (binaryOp .Mult) (rI IntMulOk fun i j=>.int (i*j)):=opI fun _ _ _ _ _ _ _ hc q=>mul_int q hc
def Ja:bL X (.type "list") (fun xs H Q=>∃p ys,xs=[.ref p]/\(cT X.K H p ys\/dc X.K H p ys)/\nu H (.lst ys) Q):=zD.mono fun xs H Q ⟨p,ys,e,h,q⟩=>⟨p,ys,e,h,fun l hl=>q.at l hl⟩
def ND:V->List V->Hp->VK->Prop:=fun x vs H Q=>∃l xs y,x=.ref l/\vs=[y]/\H l=some (.lst xs)/\xs.length < sizeLine/\xK H l (.lst (xs++[y])) (Q .aU)
def ub:MB X "list.append" ND:=LC.mono fun x xs H Q ⟨l,ys,y,e1,e2,h,hz,q⟩=>⟨l,ys,y,e1,e2,h,hz,q.at⟩
def Lq (K:Aa):V->List V->Hp->VK->Prop:=fun x vs H Q=>∃l b xs zs,x=.ref l/\vs=[.ref b]/\H l=some (.lst xs)/\dc K H b zs/\xs.length+zs.length<=sizeLine/\xK H l (.lst (xs++zs)) (Q .aU)
def Gk:MB X "list.extend" (Lq X.K):=HZ.mono fun x xs H Q ⟨l,b,ys,zs,e1,e2,h1,h2,hz,q⟩=>⟨l,b,ys,zs,e1,e2,h1,h2,hz,q.at⟩
def Y7:V->List V->Hp->VK->Prop:=fun x vs H Q=>∃l xs y,x=.ref l/\vs=[]/\H l=some (.lst (xs++[y]))/\xK H l (.lst xs) (Q y)
def R1:MB X "list.pop" Y7:=VY.mono fun x xs H Q ⟨l,ys,y,e1,e2,h,q⟩=>⟨l,ys++[y],y,e1,e2,h,by simp,by rw [List.dropLast_concat];exact q.at⟩
def Vg:Hg:=fun o i v H Q=>∃p xs k j,o=.ref p/\i=.int k/\H p=some (.lst xs)/\qV xs.length k=some j/\xK H p (.lst (xs.set j v)) Q
def pT:Hi X Vg:=set_list.mono fun o i v H Q ⟨p,xs,k,j,e1,e2,h,hj,q⟩=>⟨p,xs,k,j,e1,e2,h,hj,q.at⟩
def Vh:Hg:=fun o i v H Q=>∃p kvs k,o=.ref p/\i=kV k/\H p=some (.dK kvs)/\kvs.length < sizeLine/\xK H p (.dK (putK kvs k v)) Q
def Lf (hu:X.A.units+1 < cLine):Hi X Vh:=fun pins s σ H o i v ov iv u Q I ro ri rv h=>by
 obtain⟨p,kvs,k,rfl,rfl,hp,hz,q⟩:=h;cases ro;exact Mj hu I (TQ.k hp hz) ri rv fun s' I'=>⟨_,I',q.at⟩
end
section
variable {X:Cx} (K:Aa) (hK:X.K=K) {a e o:Expr}{es:List Expr}{ta to:TE}{t:TA}{pos:Pos}{name:Str}{apos bo:Pos}{T XI:String}{r:V->List V->Hp->VK->Prop}
include hK
def Kh:QO X (rIx K):=hK▸Wn
def RO:jE X (binaryOp .Add) (Nx K):=hK▸RP
def Vj (K:Aa):List V->Hp->VK->Prop:=fun xs H Q=>∃x n,xs=[x]/\aa5 K x H n/\Q (.int n) H
def xo:bL X (.builtin "len") (Vj K):=hK▸Qh
def Ny (K:Aa):List V->Hp->VK->Prop:=fun xs H Q=>∃p ys,xs=[.ref p]/\(cT K H p ys\/dc K H p ys)/\nu H (.lst ys) Q
def I0:bL X (.type "list") (Ny K):=hK▸Ja
def Zh (K:Aa):List V->Hp->VK->Prop:=fun xs H Q=>∃(p:Addr) (bs:List Bool),xs=[.ref p]/\cT K H p (bs.map V.bl)/\Q (.bl (bs.all id)) H
def Mv (hc:X.calm=true):bL X (.builtin "all") (Zh K):=hK▸Je hc
def Zg (K:Aa):List V->Hp->VK->Prop:=fun xs H Q=>∃(p:Addr) (bs:List Bool),xs=[.ref p]/\cT K H p (bs.map V.bl)/\Q (.bl (bs.any id)) H
def Mu (hc:X.calm=true):bL X (.builtin "any") (Zg K):=hK▸Jd hc
def Vi (K:Aa):R2:=fun x y H Q=>∃p q xs,x=.ref p/\y=.ref q/\cT K H p xs/\cT K H q []/\Q (.bl (!xs.isEmpty)) H
def tT (hu:X.A.units < cLine):jE X (compareOp .NotEq) (Vi K):=hK▸Ly hu
def acw (K:Aa) (ta:TE):TT:=fun σ H Q=>ta σ H fun x H'=>∃k,Xr K x H' k/\Q k H'
def wO (ha:PE X a ta) (he:∀whole,isTrue a X.env whole=(do let v <- whole;standAt a.pos;holding [v] (truthy v))):PT X a (acw K ta):=hK▸NI ha he
def RG (pa:PlainAttrs T) (slot:Slot T name XI) (Wx:typeOf (.builtin XI)=pure (.type "method_descriptor")) (hm:MtR X XI r) (ho:PE X o to)
  (fg:attributeBase o name X.env (eval o X.env)=eval o X.env:=by rfl) (fe:(apos.endLine==bo.line)=true:=by rfl):PE X (.Call (.Attribute o name apos) [] [] bo) (YO K T r to):=hK▸Vy pa slot Wx hm ho fg fe
def tS (pa:PlainAttrs T) (slot:Slot T name XI) (Wx:typeOf (.builtin XI)=pure (.type "method_descriptor")) (hm:MtR X XI r) (ho:PE X o to) (ha:PA X (e::es) t)
  (fg:attributeBase o name X.env (eval o X.env)=eval o X.env:=by rfl)
  (qt:((backTo bo (starEach (e::es) X.env)).all (fun x=>!x.1)&&(backToKw bo (keywordEach [] X.env)).all (fun x=>x.1.isSome)
   && decide ((e::es).length+([]:List Keyword).length+(if ([]:List Keyword).isEmpty then 0 else 1) < 30))=true:=by rfl)
  (fe:(apos.endLine==bo.line)=true:=by rfl) (hs:starEach (e::es) X.env=(false,eval e X.env)::starEach es X.env:=by rfl) (fP:(backTo bo (starEach es X.env)).any (·.1)=false:=by rfl) :
  PE X (.Call (.Attribute o name apos) (e::es) [] bo) (tBM K T r to t):=hK▸Zn pa slot Wx hm ho ha fg qt fe hs fP
omit hK
end
structure TR (P:Program) (w:World) (K:Aa) (mg:Str->Option Value) (base:Heap) (x:Str) (k:Nat) (ps:List Str) (sp:Sp) where
 f:Addr
 fd:FuncData
 ok:iu P w K mg base sT k f fd ps sp
 bi:Binds K fd ps []
 kp:DC K (.ref f)=true
 at':mg x=some (.ref f)
section
variable {X:Cx}{k k':Nat}{ps:List Str}{sp:Sp}{x:Str}{p pos:Pos}{e:Expr}{es:List Expr}{t:TA}
def YN (sp:Sp) (t:TA):TE:=fun σ H Q=>t σ H fun vs H1=>sp vs H1 Q E0
def NV (G:TR X.prog X.w X.K X.mg X.base x k ps sp) (hr:fY k' X.A) (hk:k<=k') (hg:Gl X x) (ha:PA X (e::es) t) (oU:(x==("__debug__":Str))=false:=by decide)
  (he:starEach (e::es) X.env=(false,eval e X.env)::starEach es X.env:=by rfl) (ef:(backTo pos (starEach es X.env)).any (·.1)=false:=by rfl) :
  PE X (.Call (.Name x p) (e::es) [] pos) (YN sp t):=by
 intro pins s σ H Q I h;refine BN (Kb I hg G.at' ?_ oU);refine PySem.W.callWith_K (h₀:=X.base) I.ok.mod.kin G.kp (bM (ha pos pins s σ H _ I h) fun us s1 ⟨vs,H1,I1,r,q⟩=>⟨I1.xa,?_⟩) he ef;refine Vc (dvs:=[]) (ds:=[]) G.ok (hr.mono hk) G.bi .nil Zp I1 r ?_;rw [Dv];exact q
end
section
variable {v:V}
def Qp {α:Type}{xs:List α}{i:Int} (h0:0<=i) (h1:i < xs.length):∃v,cI xs i=some v/\xs[i.toNat]?=some v:=by
 have hk:i.toNat < xs.length:=by omega
 have q:cI xs ((i.toNat:Nat):Int)=some xs[i.toNat]:=eB (by rw [Ae hk]);have e:((i.toNat:Nat):Int)=i:=by omega
 rw [e] at q;exact⟨_,q,by rw [Ae hk]⟩
def Ue {i j:Int} (h1:-18446744073709551616 < i) (h2:i < 18446744073709551616):IntMulOk i j:=TU.ok (.inl ⟨h1,h2⟩)
def mul_r {i j:Int} (h1:-18446744073709551616 < j) (h2:j < 18446744073709551616):IntMulOk i j:=TU.ok (.inr ⟨h1,h2⟩)
end
def bb {n:Nat} (h:n<=1000):n<=sizeLine:=DB (La h)
section
variable {X:Cx} (K:Aa) (hK:X.K=K)
include hK
def Vm (K:Aa):R2:=fun x y H Q=>∃p q xs,x=.ref p/\y=.ref q/\cT K H p xs/\cT K H q []/\Q (.bl xs.isEmpty) H
def tU (hu:X.A.units < cLine):jE X (compareOp .Eq) (Vm K):=by
 subst hK;intro pins s σ H x y v u Q I rx ry h;obtain⟨p,q,xs,rfl,rfl,hp,hq,k⟩:=h;cases rx;cases ry;obtain⟨ar,r,pl,hz⟩:=I.list hp;obtain⟨bN,r2,F7,hz2⟩:=I.list hq;cases r2;cases xs with
 | nil=>
  cases r;refine EE (Fq (e:=fun _=>true) pl.isList F7.isList rfl hu fun j h1=>absurd h1 (by simp)) ?_;exact⟨.bl true,H,I,rfl,k⟩
 | cons y ys=>
  have hl:=r.length;refine EE (D5 pl.isList F7.isList (by simp at hl ⊢;intro z;subst z;simp at hl) hu) ?_;exact⟨.bl false,H,I,rfl,k⟩
omit hK
end
theorem Vals.FZ:∀{xs:List V}{us:List Value},Vals xs us->Vals xs.reverse us.reverse
 | _,_,.nil=>.nil
 | _,_,.cons h t=>by rw [CW,CW];exact (Vals.FZ t).append (.cons h .nil)
def V5:typeLookup (.type "list_reverseiterator") (B8 "__len__")=pure none:=by kernel_rfl
def R6:typeLookup (.type "list_reverseiterator") (B8 "__length_hint__")=pure (some (.builtin "list_reverseiterator.__length_hint__")):=by kernel_rfl
def Rc:splitId "list_reverseiterator.__length_hint__"=some ("list_reverseiterator","__length_hint__"):=by kernel_rfl
def Q8:isSubtype (.type "list_reverseiterator") (.type "list_reverseiterator")=pure true:=by kernel_rfl
def OZ {prog:Program}{w:World}{A:Around}{E:Value->Shared->Prop}{s:Shared}{r l:Addr}{i:Int}{Q:Bool->Shared->Prop} (h:s.heap.IsRevIter r l i) (q:Q false s):wpAny (model prog w) A (Builtin.List.listLengthHint (Aw r)) Q E s:=by
 unfold Builtin.List.listLengthHint;refine Ab (Dr h.typeIs V5 ?_);refine Ab (Dr h.typeIs R6 ?_);dsimp only;rw [Rc];dsimp only;refine Ab (C5 h.typeIs Q8 ?_);rw [if_neg (by decide)];rw [if_pos (by decide)];rw [if_neg (by decide)];exact Ah q
def vW {prog:Program}{w:World}{A:Around}{s:Shared}{R:Result->Shared->Prop}{r l S:Addr}{items:Array Value} (hA:A.handled=none) (h:s.heap.IsRevIter r l (items.size-1)) (hl:s.heap.IsList l items) (OX:l≠r) (hSr:S≠r) (hSl:S≠l) (hz:items.size<=sizeLine)
  (hS:s.heap.get? S=some {cls:=BL "list",data:=EU #[]})
  (q:∀(h':Heap) (tk:Nat) (acc:Array Value) (c:Nat),(∀b o,b≠S->b≠r->s.heap.get? b=some o->h'.get? b=some o)->h'.get? S=some {cls:=BL "list",data:=EU acc c}->ItemsOf (fun i v=>items[items.size-1-i]?=some v) acc items.size->R (.ok (.ret .none)) {s with heap:=h',toks:=tk}) :
  wpAny (model prog w) A.in1 (Builtin.«list.__init__» {pos:=[Aw S,Aw r]})
   (fun fin s'=>match fin with | Fv f=>R (Except.ok f) s' | Fin.again c'=>c'.quiet=true/\codeAny (model prog w) A c' R s') (fun e s'=>R (Except.error e) s') s:=by
 unfold Builtin.«list.__init__»;dsimp only;rw [if_neg (by decide),if_neg (by simp)];refine Ab (wpAny_listItems hS rfl ?_);refine Ab ?_;unfold Builtin.List.listUpdate;dsimp only;refine Dq hS rfl ?_ (by simp) (by simp);refine Ab (Di ?_);have k1:∀b o,b≠S->s.heap.get? b=some o->(s.heap.update S (Cb fun _=>#[])).get? b=some o:=fun b o hb e=>by rw [CN _ _ (Bw hb)];exact e
 have hS1:=Co (Cb fun _=>#[]) hS rfl;generalize s.heap.update S (Cb fun _=>#[])=h1 at k1 hS1 ⊢;have hr1:h1.IsRevIter r l (items.size-1):=let ⟨o,e,p⟩:=h;⟨o,k1 _ _ (Bw hSr) e,p⟩;have hl1:h1.IsList l items:=let ⟨o,e,p⟩:=hl;⟨o,k1 _ _ (Bw hSl) e,p⟩;unfold Builtin.List.listExtendWith;refine Ab (B9 (T:="list_reverseiterator") hr1.typeIs ?_);rw [if_neg (by
  have e1:Builtin.List.listSameRef (Aw S) (Aw r)=false:=by
   unfold Builtin.List.listSameRef;simpa using hSr
  rw [e1];decide)]
 refine Ab (wpAny_pyIter_revIter hr1 ?_);refine Ab (Bi (OZ hr1 ?_));rw [if_neg (by decide)];refine Ah ⟨plainId_quiet F.plain_extend_loop _,?_⟩;refine codeAny_extend_loopS (Walks.toS (Walks.listRev (A:=A.in1) hA r l OX items)) hz S (by simp [hSr,hSl]) .none items.size 0 _ #[] _ (Et _) (Bd _) ⟨Bd _,by simpa using hr1,hl1⟩ hS1 (ItemsOf.nil _) ?_;intro s' acc c mv e io;rw [mv.eq_with];exact q s'.heap s'.toks acc c (fun b o n1 n2 e'=>mv.heap b o (by simp [n1,n2]) (k1 b o n1 e')) e io
def wA {prog:Program}{w:World}{A:Around}{E:Value->Shared->Prop}{s:Shared}{r l:Addr}{items:Array Value}{Q:Value->Shared->Prop} (hA:A.handled=none) (h:s.heap.IsRevIter r l (items.size-1)) (hl:s.heap.IsList l items) (OX:l≠r) (hz:items.size<=sizeLine)
  (q:∀(h':Heap) (tk:Nat) (acc:Array Value) (c:Nat),(∀b o,b≠r->s.heap.get? b=some o->h'.get? b=some o)->h'.get? s.heap.objs.size=some {cls:=BL "list",data:=EU acc c}->ItemsOf (fun i v=>items[items.size-1-i]?=some v) acc items.size->Q (.ref s.heap.objs.size) {s with heap:=h',toks:=tk}) :
  wpAny (model prog w) A (call (BL "list") [Aw r]) Q E s:=by
 have lr:r < s.heap.objs.size:=let ⟨_,e,_⟩:=h;Ao e;have ll:l < s.heap.objs.size:=let ⟨_,e,_⟩:=hl;Ao e;refine callType_codes F.called_list (F.typeCall_list_1 _) F.entry_list_init (code_list_new (Q₁:=fun v s₁=>v=.ref s.heap.objs.size/\s₁={s with heap:=s.heap.push {cls:=BL "list",data:=EU #[]}}) _ ⟨rfl,rfl⟩) ?_;rintro obj s₁ ⟨rfl,rfl⟩;refine⟨⟨_,An _ rfl,rfl⟩,F.args_list_init_2 _ _,?_⟩;have kp:∀b o,s.heap.get? b=some o->(s.heap.push {cls:=BL "list",data:=EU #[]}).get? b=some o:=fun b o e=>Ak _ e;refine vW (A:=A.in1) (items:=items) (l:=l) hA (let ⟨o,e,p⟩:=h;⟨o,kp _ _ e,p⟩) (let ⟨o,e,p⟩:=hl;⟨o,kp _ _ e,p⟩) OX (fun z=>by rw [z] at lr;exact AX _ lr) (fun z=>by rw [z] at ll;exact AX _ ll) hz (An _ rfl) ?_;intro h' tk acc c k e io;exact⟨rfl,q h' tk acc c (fun b o n e'=>k b o (fun z=>by rw [z] at e';exact AX _ (Ao e')) n (kp b o e')) e io⟩
def tLR (K:Aa) (te:TE):TE:=fun σ H Q=>te σ H fun x H1=>∃p ys,x=.ref p/\cT K H1 p ys/\nu H1 (.lst ys.reverse) Q
section
variable {X:Cx} (K:Aa) (hK:X.K=K) {e:Expr}{te:TE}{p1 p2 q1 q2:Pos}
include hK
def HQ (hc:X.calm=true) (hg1:Gl X "list") (hm1:X.mg "list"=none) (hg2:Gl X "reversed") (XN:X.mg "reversed"=none) (he:PE X e te)
  (GL:starEach [.Call (.Name "reversed" q1) [e] [] q2] X.env=(false,eval (.Call (.Name "reversed" q1) [e] [] q2) X.env)::starEach [] X.env:=by rfl) (sF:starEach [e] X.env=(false,eval e X.env)::starEach [] X.env:=by rfl) :
  PE X (.Call (.Name "list" p1) [.Call (.Name "reversed" q1) [e] [] q2] [] p2) (tLR K te):=by
 intro pins s σ H Q I h;subst hK;refine BN (jY I hg1 hm1 boot_list ?_ (by decide) (by decide));refine Bb ?_ GL rfl;rw [GL];show wpAny _ _ (spliced ((false,eval (.Call (.Name "reversed" q1) [e] [] q2) X.env)::backTo p2 (starEach [] X.env))) _ _ s;refine B4 ?_;refine BN (jY I hg2 XN boot_reversed ?_ (by decide) (by decide));refine Bb ?_ sF rfl;rw [sF];show wpAny _ _ (spliced ((false,eval e X.env)::backTo q2 (starEach [] X.env))) _ _ s;refine B4 (bM (he pins s σ H _ I h) fun u s1 ⟨x,H1,I1,r1,pa,ys,ex,hS,q⟩=>Cq ?_);subst ex;cases r1;obtain⟨ar,rv,pl,hz⟩:=I1.list hS;have hlen:=rv.length;have lp:pa < s1.heap.objs.size:=let ⟨_,e,_⟩:=pl.isList;Ao e;refine call_reversed_list pl.isList ?_;refine Cq ?_;have kp:∀b o,s1.heap.get? b=some o->(s1.heap.push (revObj pa (ar.toArray.size-1))).get? b=some o:=fun b o e=>Ak _ e;refine wA (items:=ar.toArray) (l:=pa) (r:=s1.heap.objs.size) (I1.ok.hd hc) ⟨_,An _ rfl,rfl,rfl⟩ (let ⟨o,e,p⟩:=pl.isList;⟨o,kp _ _ e,p⟩) (fun z=>by rw [z] at lp;exact AX _ lp) (by rw [Ag];omega) ?_;intro h' tk acc c k e io;have kk:∀b o,s1.heap.get? b=some o->h'.get? b=some o:=fun b o eb=>k b o (fun z=>by rw [z] at eb;exact AX _ (Ao eb)) (kp b o eb);have ea:acc=ar.reverse.toArray:=by
  obtain⟨z1,z2⟩:=io;apply Array.ext
  ·rw [z1,Ag,Ag,Cf]
  ·intro j h1 h2;have:=z2 j acc[j] (Cw h1);rw [Ag] at this;have hj:j < ar.length:=by rw [z1,Ag] at h1;exact h1
   rw [EO] at this;have e3:ar.reverse[j]?=some acc[j]:=by rw [List.getElem?_reverse hj];exact this
   rw [Dj];exact (Option.some.inj (((Ae (by rw [Cf];exact hj)).symm.trans e3))).symm
 subst ea;have sF:s1.heap.objs.size<=(s1.heap.push (revObj pa (ar.toArray.size-1))).objs.size:=by simp [Heap.push]
 refine⟨.ref _,upd H1 _ (.lst ys.reverse),I1.laid (t':=tk) kk sF ?_,rfl,q.at _ (I1.bD.fresh sF)⟩;exact⟨by rw [Cf];exact hz,ar.reverse,c,rv.FZ,e⟩
end
end L2
namespace My
open PySem PySem.Spec PyProof.Rows L2
def Wd (x:Str):Prop:=1<=x.length/\x.length<=8/\∀c∈x.cps.toList,97<=c/\c < 123
def Part (x:Str) (n:Nat):Prop:=x.length<=n/\∀c∈x.cps.toList,97<=c/\c < 123
def Part.append {x y:Str}{m n:Nat} (a:Part x m) (b:Part y n):Part (x++y) (m+n):=by
 refine⟨?_,fun c hc=>?_⟩
 ·rw [CM];have:=a.1;have:=b.1;omega
 ·rw [ET,Array.toList_append] at hc;rcases A2.mp hc with h | h
  ·exact a.2 c h
  ·exact b.2 c h
def vX {d st:Int} (h:st=1\/st=3\/st=5\/st=7\/st=9\/st=11) {n:Nat} (hn:n<=26):((AH n).map fun k:Nat=>some (97+((d+st*(0+(k:Int))) % 26).toNat)).Nodup:=by
 unfold List.Nodup;rw [D2];refine List.Pairwise.imp_of_mem ?_ CY;intro a b ha hb Uw hz;have hb':=AL.mp hb;have ID:=Option.some.inj hz;rcases h with rfl | rfl | rfl | rfl | rfl | rfl <;> omega
def yA {α β:Type}{g:α->β}{l:List α} (h:(l.map g).Nodup):l.Nodup:=(D2.mp h).imp fun h e=>h (congrArg g e)
def KZ (x y:Str) (c:Nat):(x++⟨#[c]⟩++y).cps[x.length]?=some c:=by
 rw [ET,ET];show ((x.cps++#[c])++y.cps)[x.cps.size]?=some c;rw [Array.getElem?_append_left (by simp),Array.getElem?_append_right (Am _)];simp
def Ig:∀k:_root_.Fin 26,cI ("abcdefghijklmnopqrstuvwxyz":Str).cps.toList (k.val:Int)=some (97+k.val):=by decide +kernel
def LJ {n:Int} (h0:0<=n) (h1:n < 26):cI ("abcdefghijklmnopqrstuvwxyz":Str).cps.toList n=some (97+n.toNat):=by
 have e:=Ig ⟨n.toNat,by omega⟩;have e2:((n.toNat:Nat):Int)=n:=by omega
 rw [e2] at e;exact e
def NY {c:Nat} (h0:97<=c) (h1:c < 123):Part ⟨#[c]⟩ 1:=by
 refine⟨Am _,fun d hd=>?_⟩;have:d=c:=by simpa using hd
 subst this;exact⟨h0,h1⟩
inductive Tr where
 | leaf (x:Str)
 | node (l r:Tr)
def Tr.aL:Tr->List Str
 | .leaf x=>[x]
 | .node l r=>l.aL++r.aL
def Tr.size:Tr->Nat
 | .leaf _=>1
 | .node l r=>l.size+r.size+1
def Tr.depth:Tr->Nat
 | .leaf _=>0
 | .node l r=>max l.depth r.depth+1
def Tr.Ws (t:Tr):Prop:=∀x∈t.aL,Wd x
def Tr.nv:∀t:Tr,1<=t.aL.length
 | .leaf _=>Am _
 | .node l r=>by have:=l.nv;show 1<=(l.aL++r.aL).length;rw [Ad];omega
def Tr.o9:∀t:Tr,t.depth < t.aL.length
 | .leaf _=>C6 0
 | .node l r=>by
  have h1:=l.o9;have h2:=r.o9;have h3:=l.nv;have h4:=r.nv;show max l.depth r.depth+1 < (l.aL++r.aL).length;rw [Ad];omega
def Tr.size_eq:∀t:Tr,t.size+1=2*t.aL.length
 | .leaf _=>rfl
 | .node l r=>by
  have h1:=l.size_eq;have h2:=r.size_eq;show l.size+r.size+1+1=2*(l.aL++r.aL).length;rw [Ad];omega
def bG (ts:List Tr):Nat:=(ts.map Tr.size).sum
def gK (a b:List Tr):bG (a++b)=bG a+bG b:=by unfold bG;rw [A1,List.sum_append]
def pR (t:Tr):bG [t]=t.size:=by simp [bG]
def Tr.size_pos:∀t:Tr,1<=t.size
 | .leaf _=>Am _
 | .node l r=>by show 1<=l.size+r.size+1;omega
theorem jw:∀ts:List Tr,ts.length<=bG ts
 | []=>Am _
 | t::r=>by have:=jw r;have:=t.size_pos;show r.length+1<=t.size+bG r;omega
def Tr.post:Tr->List Tr
 | .leaf x=>[.leaf x]
 | .node l r=>l.post++r.post++[.node l r]
def Tr.cg:∀t:Tr,t.post.length=t.size
 | .leaf _=>rfl
 | .node l r=>by show (l.post++r.post++[_]).length=l.size+r.size+1;rw [Ad,Ad,l.cg,r.cg];rfl
def cz (ts:List Tr):List Tr:=(ts.map Tr.post).flatten
def jR (a b:List Tr):cz (a++b)=cz a++cz b:=by unfold cz;rw [A1,List.flatten_append]
def pX (t:Tr):cz [t]=t.post:=by simp [cz]
def Lr (t u:Tr):cz [t,u]=t.post++u.post:=by simp [cz]
inductive Ent where
 | word (x:Str)
 | pair (a b:Nat)
def Tr.nd:Tr->Nat->List Ent
 | .leaf x,_=>[.word x]
 | .node l r,o=>l.nd o++r.nd (o+l.size)++[.pair (o+l.size-1) (o+l.size+r.size-1)]
def Tr.br:∀(t:Tr) (o:Nat),(t.nd o).length=t.size
 | .leaf _,_=>rfl
 | .node l r,o=>by show (l.nd o++r.nd (o+l.size)++[_]).length=l.size+r.size+1;rw [Ad,Ad,l.br,r.br];rfl
def run:List Tr->List Ent->List Nat->Option (List Ent×List Nat)
 | [],told,ls=>some (told,ls)
 | .leaf x::k,told,ls=>run k (told++[.word x]) (told.length::ls)
 | .node _ _::k,told,b::a::ls=>run k (told++[.pair a b]) (told.length::ls)
 | .node _ _::_,_,_=>none
theorem tJ:∀(t:Tr) (k:List Tr) (told:List Ent) (ls:List Nat),run (t.post++k) told ls=run k (told++t.nd told.length) ((told.length+t.size-1)::ls)
 | .leaf x,k,told,ls=>rfl
 | .node l r,k,told,ls=>by
  have e1:(Tr.node l r).post++k=l.post++(r.post++(Tr.node l r::k)):=by show l.post++r.post++[_]++k=_;simp
  rw [e1,tJ l,tJ r];have e2:(told++l.nd told.length).length=told.length+l.size:=by rw [Ad,l.br]
  rw [e2];show run k _ _=run k _ _;have e3:(told++l.nd told.length++r.nd (told.length+l.size)).length=told.length+(Tr.node l r).size-1:=by
   rw [Ad,Ad,l.br,r.br];show _=told.length+(l.size+r.size+1)-1;omega
  rw [e3];have e4:told++(Tr.node l r).nd told.length=told++l.nd told.length++r.nd (told.length+l.size)++[.pair (told.length+l.size-1) (told.length+l.size+r.size-1)]:=by
   show told++(l.nd told.length++r.nd (told.length+l.size)++[_])=_;simp
  rw [e4]
def Lk (t:Tr):run t.post [] []=some (t.nd 0,[t.size-1]):=by
 have:=tJ t [] [] [];rw [Dv] at this;rw [this];show some ([]++t.nd 0,[0+t.size-1])=_;simp
end My
namespace L2
open PySem PySem.Spec PyProof.Rows
def iC {prog:Program}{w:World}{A:Around}{E:Value->Shared->Prop}{s:Shared}{it t:Addr}{i:Nat}{items:Array Value}{x:Value}{Q:Value->Shared->Prop} (h:s.heap.IsTupleIter it t i) (ht:s.heap.IsTuple t items) (hx:items[i]?=some x)
  (q:∀h':Heap,h'.IsTupleIter it t (i+1)->BZ it s.heap h'->Q x {s with heap:=h'}):wpAny (model prog w) A (Builtin.SmallTypes.nextOf (.ref it)) Q E s:=by
 unfold Builtin.SmallTypes.nextOf;refine Ab (AM h.typeIs B3 (Bf B3 h.typeIs DA ?_ (Dn _)));obtain⟨o,ho,hc,hd⟩:=id h;obtain⟨ot,hot,htc,n,htd⟩:=id ht;show wpAny _ _ (field (.ref it) 0 >>= fun seq=>_) _ _ s;refine Ab (AV ho hd rfl ?_);show wpAny _ _ (field (.ref it) 1 >>= fun seq=>_) _ _ s;refine Ab (AV ho hd rfl ?_);show wpAny _ _ (seqItems? (.ref t) >>= fun seq=>_) _ _ s;refine Ab (Bu hot htd ?_);show wpAny _ _ (match items[i]? with | some x=>(do setField (.ref it) 1 (rawInt ((i:Int)+1));ret x) | none=>_) _ _ s;rw [hx];refine Ab (DK ho hd (show 1 < 2 by decide) ?_);refine Ah ⟨x,rfl,Ah (q _ ⟨_,Co _ ho (by rw [EK (CD hd _)]),by rw [Obj.cls_mapFields];exact hc,by rw [CD hd];rfl⟩ (BZ.update ..))⟩
def Ra {prog:Program}{w:World}{A:Around}{E:Value->Shared->Prop}{s:Shared}{α:Type}{Q:α->Shared->Prop} (hA:A.handled=none)
  (q:∀(h':Heap) (e:Addr),(∀b o,s.heap.get? b=some o->h'.get? b=some o)->(∃o,h'.get? e=some o/\o.cls=.type "StopIteration")->E (.ref e) {s with heap:=h'}):wpAny (model prog w) A (Builtin.SmallTypes.stopIteration (α:=α)) Q E s:=by
 unfold Builtin.SmallTypes.stopIteration newExc;refine Ab ?_;refine Ab (CS ?_ (by show 0<=sizeLine;decide));refine Ab (Ci (a:=Be) rfl ?_);refine Bh ?_ (sizeOk_excFields ..);unfold raiseNew;refine Ab (wpAny_handled ?_);rw [hA];refine wpAny_throw (q _ _ (fun b o e=>Ak _ (Ak _ e)) ⟨_,An _ rfl,rfl⟩)
def ju {prog:Program}{w:World}{A:Around}{E:Value->Shared->Prop}{s:Shared}{it t:Addr}{i:Nat}{items:Array Value}{Q:Value->Shared->Prop} (hA:A.handled=none) (h:s.heap.IsTupleIter it t i) (ht:s.heap.IsTuple t items) (hx:items[i]?=none)
  (q:∀(h':Heap) (e:Addr),Ft it s.heap h'->(∃o,h'.get? e=some o/\o.cls=.type "StopIteration")->E (.ref e) {s with heap:=h'}):wpAny (model prog w) A (Builtin.SmallTypes.nextOf (.ref it)) Q E s:=by
 unfold Builtin.SmallTypes.nextOf;refine Ab (AM h.typeIs B3 (Bf B3 h.typeIs DA ?_ (Dn _)));obtain⟨o,ho,hc,hd⟩:=id h;obtain⟨ot,hot,htc,n,htd⟩:=id ht;show wpAny _ _ (field (.ref it) 0 >>= fun seq=>_) _ _ s;refine Ab (AV ho hd rfl ?_);show wpAny _ _ (field (.ref it) 1 >>= fun seq=>_) _ _ s;refine Ab (AV ho hd rfl ?_);show wpAny _ _ (seqItems? (.ref t) >>= fun seq=>_) _ _ s;refine Ab (Bu hot htd ?_);show wpAny _ _ (match items[i]? with | some x=>(do setField (.ref it) 1 (rawInt ((i:Int)+1));ret x) | none=>(do rule _;setField (.ref it) 0 .none;Builtin.SmallTypes.stopIteration)) _ _ s;rw [hx];refine Ab (CF ?_);refine Ab (DK ho hd (show 0 < 2 by decide) ?_);refine Ra (A:=A.in1) hA fun h' e k ex=>q h' e (fun b o n eb=>k b o ?_) ex;rw [(BZ.update _ _ _).2 b n];exact eb
def Inv.tm {X:Cx}{pins:List (Addr×Obj)}{σ:L2.St}{H:Hp}{s:Shared}{h':Heap}{t':Nat}{ch:List Addr}{a:Addr}{o:HO} (I:Inv X pins σ H s) (hf:∀b∈ch,wH X pins H b) (k:∀b u,b∉ch->s.heap.get? b=some u->h'.get? b=some u)
  (hp:s.heap.objs.size<=a) (new:bh X.prog X.w (upd H a o) h' a o):Inv X pins σ (upd H a o) {s with heap:=h',toks:=t'}:=by
 have hn:=I.bD.fresh hp;have Ud:∀b u,H b=some u->b∉ch:=fun b u e z=>by rw [(hf b z).1] at e;cases e
 have nL:X.env.locals∉ch:=fun z=>(hf _ z).2.1 rfl;refine I.step (g':=s.gens) (d':=s.drawn) (ch:=ch) (fun b hb=>⟨(hf b hb).2.2.2.1,(hf b hb).2.1,(hf b hb).2.2.2.2.1,(hf b hb).2.2.2.2.2⟩) (fun b u _ _ hc e _=>k b u hc e) (fun b u _ _ hc e _=>⟨u.slots,k b u hc e⟩)
  (fun b u _ e n=>by rw [av (AJ (Ax (Ao e) hp))];exact n) (fun b u hc e=>⟨u,k b u hc e⟩) (fun b xs e=>by rw [av (bK e hn)];exact e) (fun b u xs e=>by rw [av (bK e hn)];exact e)
  (fun b ps e=>⟨#[],by rw [av (bK e hn),e];simp⟩) (fun m hm=>?_) (fun b u e=>?_) I.bare
 ·obtain⟨o',es,ep,ho,r⟩:=hm;exact⟨o',es,ep,k _ o' nL ho,r⟩
 ·by_cases hb:b=a
  ·subst hb;rw [aM] at e;cases e;exact new
  ·rw [av hb] at e;refine (I.bD b u e).xX (fun c v hc q=>k c v ?_ q) (fun c q=>by rw [av (bK q hn)];exact q) fun c xs q=>by rw [av (bK q hn)];exact q
   rcases hc with z | z
   ·rw [z];exact Ud b u e
   ·exact Ud c _ z
def Inv.xN {X:Cx}{pins:List (Addr×Obj)}{σ:L2.St}{H:Hp}{s:Shared}{h':Heap}{t':Nat}{ch:List Addr} (I:Inv X pins σ H s) (hf:∀b∈ch,wH X pins H b) (k:∀b u,b∉ch->s.heap.get? b=some u->h'.get? b=some u) :
  Inv X pins σ H {s with heap:=h',toks:=t'}:=by
 have Ud:∀b u,H b=some u->b∉ch:=fun b u e z=>by rw [(hf b z).1] at e;cases e
 have nL:X.env.locals∉ch:=fun z=>(hf _ z).2.1 rfl;refine I.step (g':=s.gens) (d':=s.drawn) (ch:=ch) (fun b hb=>⟨(hf b hb).2.2.2.1,(hf b hb).2.1,(hf b hb).2.2.2.2.1,(hf b hb).2.2.2.2.2⟩) (fun b u _ _ hc e _=>k b u hc e) (fun b u _ _ hc e _=>⟨u.slots,k b u hc e⟩)
  (fun _ _ _ _ n=>n) (fun b u hc e=>⟨u,k b u hc e⟩) (fun _ _ e=>e) (fun _ _ _ e=>e) (fun b ps e=>⟨#[],by rw [e];simp⟩) (fun m hm=>?_) (fun b u e=>?_) I.bare
 ·obtain⟨o',es,ep,ho,r⟩:=hm;exact⟨o',es,ep,k _ o' nL ho,r⟩
 ·refine (I.bD b u e).xX (fun c v hc q=>k c v ?_ q) (fun _ q=>q) fun _ _ q=>q;rcases hc with z | z
  ·rw [z];exact Ud b u e
  ·exact Ud c _ z
def kZ {xs:List V}{us:List Value} (h:Vals xs us):∀{i:Nat}{x:V},xs[i]?=some x->∃u,us[i]?=some u/\RelV x u:=by
 induction h with
 | nil=>intro i x e;simp at e
 | cons r t ih=>
  intro i x e;cases i with
  | zero=>simp at e;subst e;exact⟨_,rfl,r⟩
  | succ i=>exact ih (by simpa using e)
def rX {prog:Program}{w:World}{A:Around}{E:Value->Shared->Prop}{s:Shared}{e it t:Addr}{i:Nat}{old:Value}{items:Array Value}{x:Value}{Q:Value->Shared->Prop} (MN:e≠it) (hte:t≠e) (Sz:t≠it)
  (hz:IsEnum s.heap e it i old) (hi:s.heap.IsTupleIter it t i) (ht:s.heap.IsTuple t items) (hx:items[i]?=some x)
  (q:∀(h':Heap) (tk:Nat),IsEnumOut h' e it (i+1:Nat) x s.heap.objs.size->h'.IsTupleIter it t (i+1)->IsPair h' s.heap.objs.size (.int i s.toks) x->(∀c o,c≠e->c≠it->s.heap.get? c=some o->h'.get? c=some o)->Q (.ref s.heap.objs.size) {s with heap:=h',toks:=tk}) :
  wpAny (model prog w) A (Builtin.«enumerate.__next__» {pos:=[.ref e]}) (fun fin s'=>∃v,fin=Fv (Fu v)/\Q v s') E s:=by
 show wpAny _ _ (field (.ref e) 2 >>= fun r=>_) _ _ s;refine Ab (AV hz rfl rfl ?_);show wpAny _ _ (Builtin.SmallTypes.nextOf (.ref it) >>= fun r=>_) _ _ s;refine Ab (iC hi ht hx fun h1 j1 b1=>?_);have z1:IsEnum h1 e it i old:=(b1.2 _ MN).trans hz;refine Ab (AV z1 rfl rfl ?_);show wpAny _ _ (field (.ref e) 4 >>= fun r=>_) _ _ _;refine Ab (AV z1 rfl rfl ?_);show wpAny _ _ (mkInt i >>= fun r=>_) _ _ _;refine Ab (wpAny_mkInt ?_);refine Ab (AZ z1 (show 3 < 6 by decide) fun h2 z2 b2=>?_);refine Ab (AZ z2 (show 4 < 6 by decide) fun h3 z3 b3=>?_);have sz3:h3.objs.size=s.heap.objs.size:=b3.1.trans (b2.1.trans b1.1);have get3:∀b,b≠e->b≠it->h3.get? b=s.heap.get? b:=fun b n1 n2=>(b3.2 b n1).trans ((b2.2 b n1).trans (b1.2 b n2));refine Ab (CS ?_ (by show 2<=sizeLine;decide));have kp:∀b o,h3.get? b=some o->(h3.push {cls:=.type "tuple",data:=.seq [C2 i s.toks,x].toArray}).get? b=some o:=fun b o e=>Ak _ e;have VW:(h3.push {cls:=.type "tuple",data:=.seq [C2 i s.toks,x].toArray}).get? h3.objs.size=some {cls:=.type "tuple",data:=.seq #[.int i s.toks,x]}:=An _ rfl;generalize h3.push {cls:=.type "tuple",data:=.seq [C2 i s.toks,x].toArray}=h4 at kp VW ⊢;have z4:h4.get? e=some {cls:=.type "enumerate",data:=.fields #[.none,.bool false,.ref it,rawInt (i+1),.none,old]}:=kp _ _ z3;refine Ab ?_;unfold Builtin.SmallTypes.ownedTupleIsFree;refine Ab (AV z4 rfl rfl ?_);refine Ah ?_;show wpAny _ _ (rule "enumerate.__next__.owned-tuple-again" >>= fun r=>_) _ _ _;refine Ab (CF ?_);refine Ab (AV z4 rfl rfl ?_);refine Ab (AZ z4 (show 5 < 6 by decide) fun h5 z5 b5=>?_);refine Ab ?_;show wpAny _ _ (setField (.ref e) 0 (rawInt h3.objs.size) >>= fun _=>setField (.ref e) 1 (.bool false)) _ _ _;refine Ab (AZ z5 (show 0 < 6 by decide) fun h6 z6 b6=>?_);refine AZ z6 (show 1 < 6 by decide) fun h7 z7 b7=>?_;refine Ab (Di ?_);have WI:∀b,b≠e->h7.get? b=h4.get? b:=fun b n=>(b7.2 b n).trans ((b6.2 b n).trans (b5.2 b n));have ne:s.heap.objs.size≠e:=fun z=>by have:=Ao hz;rw [<- z] at this;exact AX _ this
 refine Ah ⟨.ref h3.objs.size,rfl,?_⟩;rw [sz3] at z7 VW ⊢;refine q h7 _ ?_ ?_ ?_ ?_
 ·exact z7
 ·obtain⟨o,eo,p⟩:=j1;refine⟨o,?_,p⟩;rw [WI _ (Bw MN)];exact kp _ _ ((b3.2 _ (Bw MN)).trans ((b2.2 _ (Bw MN)).trans eo))
 ·rw [IsPair,WI _ ne];exact VW
 ·intro c o n1 n2 ec;rw [WI _ n1];exact kp _ _ ((get3 _ n1 n2).trans ec)
def uO {prog:Program}{w:World}{A:Around}{E:Value->Shared->Prop}{s:Shared}{e it t:Addr}{i:Nat}{old:Value}{items:Array Value}{Q:PySem.Fin->Shared->Prop} (hA:A.handled=none)
  (hz:IsEnum s.heap e it i old) (hi:s.heap.IsTupleIter it t i) (ht:s.heap.IsTuple t items) (hx:items[i]?=none)
  (q:∀(h':Heap) (x:Addr),(∀c o,c≠it->s.heap.get? c=some o->h'.get? c=some o)->(∃o,h'.get? x=some o/\o.cls=.type "StopIteration")->E (.ref x) {s with heap:=h'}) :
  wpAny (model prog w) A (Builtin.«enumerate.__next__» {pos:=[.ref e]}) Q E s:=by
 show wpAny _ _ (field (.ref e) 2 >>= fun r=>_) _ _ s;refine Ab (AV hz rfl rfl ?_);show wpAny _ _ (Builtin.SmallTypes.nextOf (.ref it) >>= fun r=>_) _ _ s;exact Ab (ju hA hi ht hx fun h' x k ex=>q h' x (fun c o n e'=>k c o n e') ex)
def om {prog:Program}{w:World}{A:Around}{E:Value->Shared->Prop}{s:Shared}{e it t:Addr}{i:Nat}{old:Value}{items:Array Value}{x:Value}{Q:Option Value->Shared->Prop} (MN:e≠it) (hte:t≠e) (Sz:t≠it)
  (hz:IsEnum s.heap e it i old) (hi:s.heap.IsTupleIter it t i) (ht:s.heap.IsTuple t items) (hx:items[i]?=some x)
  (q:∀(h':Heap) (tk:Nat),IsEnumOut h' e it (i+1:Nat) x s.heap.objs.size->h'.IsTupleIter it t (i+1)->IsPair h' s.heap.objs.size (.int i s.toks) x->(∀c o,c≠e->c≠it->s.heap.get? c=some o->h'.get? c=some o)->Q (some (.ref s.heap.objs.size)) {s with heap:=h',toks:=tk}) :
  wpAny (model prog w) A (pyNext (.ref e)) Q E s:=by
 have ty:s.TypeIs (.ref e) "enumerate":=⟨_,hz,rfl⟩;unfold pyNext;refine Ab (CB (AM ty Cp (Bf Cp ty Ep ?_ (Ec _))));exact rX MN hte Sz hz hi ht hx fun h' tk a b c d=>Ah (q h' tk a b c d)
def pW {prog:Program}{w:World}{A:Around}{E:Value->Shared->Prop}{s:Shared}{e it t:Addr}{i:Nat}{old:Value}{items:Array Value}{Q:Option Value->Shared->Prop} (hA:A.handled=none)
  (hz:IsEnum s.heap e it i old) (hi:s.heap.IsTupleIter it t i) (ht:s.heap.IsTuple t items) (hx:items[i]?=none)
  (q:∀h':Heap,(∀c o,c≠it->s.heap.get? c=some o->h'.get? c=some o)->Q none {s with heap:=h'}) :
  wpAny (model prog w) A (pyNext (.ref e)) Q E s:=by
 have ty:s.TypeIs (.ref e) "enumerate":=⟨_,hz,rfl⟩;unfold pyNext;refine Ab (CB (AM ty Cp (Bf Cp ty Ep ?_ (Ec _))));refine uO (A:=A.in1) hA hz hi ht hx fun h' x k ex=>?_;obtain⟨o,eo,hc⟩:=ex;refine Ab (C5 (T:="StopIteration") ⟨o,eo,hc⟩ isSubtype_stop ?_);rw [if_pos rfl];exact Ah (q h' k)
def rJ (t:Addr) (items:Array Value):Meets (Builtin.«enumerate.__new__» {pos:=[.type "enumerate",.ref t]}) (fun _ R s=>s.heap.IsTuple t items/\
  ∀h':Heap,IsEnum h' (s.heap.objs.size+1) s.heap.objs.size (0:Nat) .none->h'.IsTupleIter s.heap.objs.size t 0->(∀b o,s.heap.get? b=some o->h'.get? b=some o)->R (.ok (.ret (.ref (s.heap.objs.size+1)))) {s with heap:=h'}):=
 .of_wp fun prog w A R s h=>by
  obtain⟨h1,q⟩:=h;unfold Builtin.«enumerate.__new__»;refine Ab ?_;unfold Builtin.SmallTypes.newClass;refine Ab (Ci (a:=true) rfl ?_);rw [if_neg (by decide)];refine Ab (Ci sub_enumerate ?_);rw [if_neg (by decide)];refine Ah ?_;show wpAny _ _ (Builtin.SmallTypes.calledThroughType (.type "enumerate") >>= fun r=>_) _ _ s;refine Ab ?_;unfold Builtin.SmallTypes.calledThroughType;refine Ab (wpAny_stack_any fun st=>Ah ?_);have fin:wpAny (model prog w) A.in1 (pyIter (.ref t) >>= fun it=>(Builtin.SmallTypes.newRecord (.type "enumerate") (Builtin.SmallTypes.ownedTupleFields++[it,rawInt 0,.none,.none]) >>= fun r=>ret r)) (fun fin s'=>∃v,fin=Fv (Fu v)/\R (Except.ok (Fu v)) s') (fun e s'=>R (Except.error e) s') s:=by
   refine Ab (Cj h1 ?_);have k1:∀b o,s.heap.get? b=some o->(s.heap.push {cls:=.type "tuple_iterator",data:=.fields #[.ref t,.int 0 0]}).get? b=some o:=fun b o e=>Ak _ e;have g1:(s.heap.push {cls:=.type "tuple_iterator",data:=.fields #[.ref t,.int 0 0]}).get? s.heap.objs.size=some {cls:=.type "tuple_iterator",data:=.fields #[.ref t,.int 0 0]}:=An _ rfl;have z1:(s.heap.push {cls:=.type "tuple_iterator",data:=.fields #[.ref t,.int 0 0]}).objs.size=s.heap.objs.size+1:=Cg ..;generalize s.heap.push {cls:=.type "tuple_iterator",data:=.fields #[.ref t,.int 0 0]}=vC at k1 g1 z1 ⊢;show wpAny _ _ (newObj (.type "enumerate") (.fields #[.none,.bool false,.ref s.heap.objs.size,rawInt 0,.none,.none]) >>= fun r=>ret r) _ _ _;refine Ab (Bh ?_ (by simp [sizeOk];decide));have g2:(vC.push {cls:=.type "enumerate",data:=.fields #[.none,.bool false,.ref s.heap.objs.size,rawInt 0,.none,.none]}).get? vC.objs.size=some {cls:=.type "enumerate",data:=.fields #[.none,.bool false,.ref s.heap.objs.size,rawInt 0,.none,.none]}:=An _ rfl;refine Ah ⟨.ref vC.objs.size,rfl,?_⟩;rw [z1] at g2 ⊢;exact q _ g2 ⟨_,Ak _ g1,rfl,rfl⟩ fun b o e=>Ak _ (k1 _ _ e)
  dsimp only;refine wpAny_ite_split (fun _=>?_) (fun _=>?_)
  ·exact Ab (Ci (a:=(Aw t,none)) rfl fin)
  ·exact Ab (Ci (a:=(Aw t,none)) rfl fin)
def Jb {prog:Program}{w:World}{A:Around}{E:Value->Shared->Prop}{s:Shared}{t:Addr}{items:Array Value}{Q:Value->Shared->Prop} (h1:s.heap.IsTuple t items)
  (q:∀h':Heap,IsEnum h' (s.heap.objs.size+1) s.heap.objs.size (0:Nat) .none->h'.IsTupleIter s.heap.objs.size t 0->(∀b o,s.heap.get? b=some o->h'.get? b=some o)->Q (.ref (s.heap.objs.size+1)) {s with heap:=h'}) :
  wpAny (model prog w) A (call (.type "enumerate") [.ref t]) Q E s:=
 callType_new F.called_enumerate (by decide) (F.typeCall_enumerate_1 _) (F.newCall_enumerate_1 _) (fun o=>F.args_object_init_2 o _) F.entry_enumerate_new (rJ t items) ⟨h1,fun h' z i k=>⟨⟨_,z,rfl⟩,q h' z i k⟩⟩
def Ite (K:Aa) (a:Addr):It where
 go:=fun i H=>∃xs x,dc K H a xs/\xs[i]?=some x
 TV:=fun i H v H'=>∃p x,v=.ref p/\H p=none/\H'=upd H p (.tup [.int i,x])/\∀xs,dc K H a xs->xs[i]?=some x
 stop:=fun i H=>∃xs,dc K H a xs/\xs.length<=i
def K4 {P:Program}{w:World}{K:Aa}{elts:List Expr}{kk:Nat}{pos:Pos}{e it t:Addr} (MN:e≠it) (hte:t≠e) (Sz:t≠it):Turn P w K (.Tuple elts kk pos) (Ite K t) [e,it] e (fun i h=>(∃old,IsEnum h e it (i:Nat) old)/\h.IsTupleIter it t i) where
 mem:=by simp
 obj:=fun i h st b hb=>by
  simp only [Av,Bs,or_false] at hb;rcases hb with rfl | rfl
  ·obtain⟨⟨_,e⟩,_⟩:=st;exact⟨_,e,fun v z=>by cases z⟩
  ·obtain⟨_,⟨o,e,_,d⟩⟩:=st;exact⟨o,e,fun v z=>by rw [d] at z;cases z⟩
 keep:=fun i h h' st k=>⟨let ⟨o,e'⟩:=st.1;⟨o,k e (by simp) _ e'⟩,let ⟨o,e',p⟩:=st.2;⟨o,k it (by simp) _ e',p⟩⟩
 item:=by
  intro X hP hw hK hc i pins s σ H E I hf st hg;subst hP hw hK;obtain⟨xs,x,hx,gx⟩:=hg;obtain⟨ar,rx,tx,_⟩:=I.tuple hx;obtain⟨u,gu,ru⟩:=kZ rx gx;obtain⟨⟨old,hz⟩,hi⟩:=st;refine om MN hte Sz hz hi tx (by simpa using gu) fun h' tk zo j np k=>?_;refine⟨_,rfl,?_⟩;refine DL zo fun h2 z2 b2=>?_;have le:e < s.heap.objs.size:=Ao hz;have li:it < s.heap.objs.size:=let ⟨_,e',_⟩:=hi;Ao e';have lt:∀b∈[e,it],b < s.heap.objs.size:=fun b hb=>by
   simp only [Av,Bs,or_false] at hb;rcases hb with rfl | rfl
   ·exact le
   ·exact li
  have nz:s.heap.objs.size≠e:=fun z=>AX _ (by have:=le;rw [<- z] at this;exact this);have ZL:∀b o,b∉[e,it]->s.heap.get? b=some o->h2.get? b=some o:=fun b o hb e'=>by
   have ID:b≠e:=fun q=>hb (by simp [q]);rw [b2.2 b ID];exact k b o ID (fun q=>hb (by simp [q])) e'
  have ZD:h2.get? s.heap.objs.size=some {cls:=.type "tuple",data:=.seq #[.int i s.toks,u]}:=(b2.2 _ nz).trans np;have hfr:=I.bD.fresh (Am s.heap.objs.size);refine⟨.ref s.heap.objs.size,upd H s.heap.objs.size (.tup [.int i,x]),I.tm (t':=tk) hf ZL (Am _) ⟨by show 2<=sizeLine;decide,[.int i s.toks,u],.cons ⟨_,rfl⟩ (.cons ru .nil),⟨_,ZD,rfl,_,rfl⟩⟩,rfl,⟨_,x,rfl,hfr,rfl,fun xs' h'=>by rw [I.mh h' hx];exact gx⟩,⟨⟨_,z2⟩,let ⟨o,e',p⟩:=j;⟨o,(b2.2 _ (Bw MN)).trans e',p⟩⟩,fun b hb=>?_⟩;rw [av (AJ (lt b hb))];exact (hf b hb).1
 done:=by
  intro X hP hw hK hc i pins s σ H E I hf st hg;subst hP hw hK;obtain⟨xs,hx,hl⟩:=hg;obtain⟨ar,rx,tx,_⟩:=I.tuple hx;have el:=rx.length;obtain⟨⟨old,hz⟩,hi⟩:=st;refine pW (I.ok.hd hc) hz hi tx (by simp;omega) fun h' k=>⟨rfl,I.xN (t':=s.toks) hf fun b o hb e'=>k b o (fun z=>hb (by simp [z])) e'⟩
 self:=fun A i s Q E st h=>let ⟨_,e'⟩:=st.1;CP e' h
end L2
namespace My
open PySem PySem.Spec PyProof.Rows L2
def Qw (l:List V) (i:Nat):Ent->List V
 | .word _=>l
 | .pair a b=>(l.set a (.int i)).set b (.int i)
def ah:List Ent->Nat->List V->List V
 | [],_,l=>l
 | e::es,i,l=>ah es (i+1) (Qw l i e)
theorem zL:∀(es:List Ent) (e:Ent) (i:Nat) (l:List V),ah (es++[e]) i l=Qw (ah es i l) (i+es.length) e
 | [],e,i,l=>rfl
 | x::es,e,i,l=>by
  show ah (es++[e]) (i+1) (Qw l i x)=Qw (ah es (i+1) (Qw l i x)) (i+(es.length+1)) e;rw [zL es e];congr 1;omega
def Tt (l:List V) (i:Nat) (e:Ent):(Qw l i e).length=l.length:=by cases e with
 | word=>rfl
 | pair=>show ((l.set _ _).set _ _).length=_;rw [BV,BV]
theorem Jh:∀(es:List Ent) (i:Nat) (l:List V),(ah es i l).length=l.length
 | [],_,_=>rfl
 | e::es,i,l=>by show (ah es (i+1) (Qw l i e)).length=_;rw [Jh es,Tt]
end My
namespace L2
open PySem PySem.Spec PyProof.Rows
def Zb (K:Aa):V->V->Hp->VK->Prop:=fun o i H Q=>∃p xs k x,o=.ref p/\i=.int k/\cT K H p xs/\0<=k/\k < 1000/\xs[k.toNat]?=some x/\Q x H
def O8 {X:Cx} (K:Aa) (hK:X.K=K):Xv X (Zb K):=fun pins s σ H o i ov iv Q I ro ri h=>by
 obtain⟨p,xs,k,x,rfl,rfl,hp,k0,k1,hx,q⟩:=h;subst hK;cases ro;obtain⟨t,rfl⟩:=ri;obtain⟨ar,r,pl,hz⟩:=I.list hp;obtain⟨u,gu,ru⟩:=kZ r hx;exact wpAny_getItem_list pl.isList k0 (by omega) (by simpa using gu) ⟨x,H,I,ru,q⟩
end L2
namespace My
open PySem PySem.Spec PyProof.Rows L2
def MV {x y:Str}{c:Nat} (a:Part x 1) (b:Part y 6) (h0:97<=c) (h1:c < 123):Wd (x++⟨#[c]⟩++y):=by
 have q:=(a.append (NY h0 h1)).append b;refine⟨?_,q.1,q.2⟩;rw [CM,CM];show 1<=x.length+1+y.length;omega
end My
namespace L2
open PySem PySem.Spec PyProof.Rows
def Itd (lo:Int) (n:Nat):It:=⟨fun i _=>i < n,fun i H x H'=>H'=H/\x=.int (lo-i),fun i _=>n<=i⟩
def FK {P:Program}{w:World}{K:Aa}{tg:Expr} (it:Addr) (lo:Int) (n:Nat):Turn P w K tg (Itd lo n) [it] it (fun i h=>IsRangeIter h it (lo+(i:Nat)*(-1)) ((n:Int)-(i:Nat)) (-1)) where
 mem:=by simp
 obj:=fun i h st b hb=>by
  have e:b=it:=by simpa using hb
  subst e;exact⟨_,st,fun v z=>by
   have z':Data.fields _=Data.cell v:=z;cases z'⟩
 keep:=fun i h h' st k=>k it (by simp) _ st
 item:=by
  intro X hP hw hK hc i pins s σ H E I hf st hg;subst hP hw hK;obtain⟨f0,f1,f2,f3,f4,f5⟩:=hf it (by simp);have W:=Walks.range (prog:=X.prog) (w:=X.w) (I.ok.hd hc) it lo (-1) n;refine W.item i s _ _ hg st fun v h' tk hv JE kk=>?_;obtain⟨t,rfl⟩:=hv;have I1:Inv X pins σ H {s with heap:=h',toks:=tk}:=I.turned (fun b o hb e=>kk b o (by simpa using hb) e) f0 f1 f3 f4 f5;refine⟨_,rfl,GN (s:={s with heap:=h',toks:=tk}) (n:="range_iterator") JE rfl rfl (by decide) ⟨.int (lo-i),H,I1,⟨t,?_⟩,⟨rfl,rfl⟩,JE,fun b hb=>(hf b hb).1⟩⟩;rw [show lo+(i:Int)*(-1)=lo-i by omega]
 done:=by
  intro X hP hw hK hc i pins s σ H E I hf st hg;subst hP hw hK;obtain⟨f0,f1,f2,f3,f4,f5⟩:=hf it (by simp);exact wpAny_pyNext_range_end (I.ok.hd hc) st (by have:n<=i:=hg;omega) fun h' eb=>⟨rfl,I.turned (t':=s.toks) (fun b o hb e=>eb b o hb e) f0 f1 f3 f4 f5⟩
 self:=fun _ _ _ _ _ st h=>wpAny_pyIter_rangeiter st h
section
variable {X:Cx}{tg:Expr}
def Lo {pins:List (Addr×Obj)}{σ:St}{H:Hp}{s:Shared}{R:It->Hp->Prop}{E:Value->Shared->Prop}{lo hi:Int}{t u v:Tok}{tk:Nat} (I:Inv X pins σ H s) (h1:-(2 ^ 62)<=lo) (h2:lo < 2 ^ 62) (h3:-(2 ^ 62)<=hi) (h4:hi < 2 ^ 62)
  (q:R (Itd lo (lo-hi).toNat) H):wpAny (model X.prog X.w) X.A (pyIter (.ref s.heap.objs.size)) (PIE X pins σ tg R) E {s with heap:=s.heap.push {cls:=.type "range",data:=.fields #[.int lo t,.int hi u,.int (-1) v]},toks:=tk}:=by
 refine wpAny_pyIter_range (IsRange.new ..) (PySem.W.small_down h1 h2 h3 h4) ?_;have I1:Inv X pins σ H {s with heap:=s.heap.push {cls:=.type "range",data:=.fields #[.int lo t,.int hi u,.int (-1) v]},toks:=tk}:=I.kept fun b o e=>Ak _ e;refine⟨(s.heap.push {cls:=.type "range",data:=.fields #[.int lo t,.int hi u,.int (-1) v]}).objs.size,[(s.heap.push {cls:=.type "range",data:=.fields #[.int lo t,.int hi u,.int (-1) v]}).objs.size],_,_,H,rfl,
  I1.kept (t':=tk) fun b o e=>Ak _ e,FK _ lo (lo-hi).toNat,?_,fun b hb=>?_,q⟩
 ·have e1:lo+((0:Nat):Int)*(-1)=lo:=by simp
  have e2:(((lo-hi).toNat:Nat):Int)-((0:Nat):Int)=Builtin.Range.rangeSize lo hi (-1):=by rw [PySem.W.rangeSize_down];split <;> omega
  show IsRangeIter _ _ (lo+((0:Nat):Int)*(-1)) ((((lo-hi).toNat:Nat):Int)-((0:Nat):Int)) (-1);rw [e1,e2];exact An _ rfl
 ·have e:b=(s.heap.push {cls:=.type "range",data:=.fields #[.int lo t,.int hi u,.int (-1) v]}).objs.size:=by simpa using hb
  subst e;exact I1.zb (Am _) (I1.bD.fresh (Am _))
def ZV (ta:TA):TI:=fun σ H R=>ta σ H fun vs H1=>∃i j:Int,vs=[.int i,.int j,.int (-1)]/\(-(2 ^ 62)<=i/\i < 2 ^ 62/\-(2 ^ 62)<=j/\j < 2 ^ 62)/\R (Itd i (i-j).toNat) H1
def Lv {a b c:Expr}{ta:TA}{p pos:Pos} (hg:Gl X "range") (hm:X.mg "range"=none) (ha:PA X [a,b,c] ta) (hs:starEach [a,b,c] X.env=[(false,eval a X.env),(false,eval b X.env),(false,eval c X.env)]:=by rfl) (sF:starEach [b,c] X.env=[(false,eval b X.env),(false,eval c X.env)]:=by rfl) :
  PI X tg (.Call (.Name "range" p) [a,b,c] [] pos) (ZV ta):=by
 intro pins s σ H R I h;refine Call_ (jY I hg hm boot_range (Bb (bM (ha pos pins s σ H _ I h) fun us s1 ⟨vs,H1,I1,r1,q1⟩=>?_) (by rw [hs,sF]) (by rw [sF];rfl)));obtain⟨i,j,e,⟨q1,q2,q3,q4⟩,q⟩:=q1;subst e;cases r1 with
 | cons r rr=>
  cases rr with
  | cons r' rr=>
   cases rr with
   | cons r'' rr=>
    cases rr;obtain⟨t,rfl⟩:=r;obtain⟨t',rfl⟩:=r';obtain⟨t'',rfl⟩:=r'';refine call_range_3 (by decide) (Lo I1 q1 q2 q3 q4 q) (.inl ?_);unfold Builtin.divisionGoesByPylong;have e1:decide ((if ((-1:Int)==0)=true then 0 else (-1:Int).natAbs.log2 / 30+1) > 300)=false:=by decide
    simp only [e1,E2]
end
def aa7 (K:Aa) (a:Addr):It where
 go:=fun i H=>∃xs x,cT K H a xs/\xs[i]?=some x
 TV:=fun i H v H'=>∃p x,v=.ref p/\H p=none/\H'=upd H p (.tup [.int i,x])/\∀xs,cT K H a xs->xs[i]?=some x
 stop:=fun i H=>∃xs,cT K H a xs/\xs.length<=i
def HD {P:Program}{w:World}{K:Aa}{elts:List Expr}{kk:Nat}{pos:Pos}{e it t:Addr} (MN:e≠it):Turn P w K (.Tuple elts kk pos) (aa7 K t) [e,it] e (fun i h=>(∃old,IsEnum h e it (i:Nat) old)/\h.IsListIter it t i) where
 mem:=by simp
 obj:=fun i h st b hb=>by
  simp only [Av,Bs,or_false] at hb;rcases hb with rfl | rfl
  ·obtain⟨⟨_,e⟩,_⟩:=st;exact⟨_,e,fun v z=>by cases z⟩
  ·obtain⟨_,⟨o,e,_,d⟩⟩:=st;exact⟨o,e,fun v z=>by rw [d] at z;cases z⟩
 keep:=fun i h h' st k=>⟨let ⟨o,e'⟩:=st.1;⟨o,k e (by simp) _ e'⟩,let ⟨o,e',p⟩:=st.2;⟨o,k it (by simp) _ e',p⟩⟩
 item:=by
  intro X hP hw hK hc i pins s σ H E I hf st hg;subst hP hw hK;obtain⟨xs,x,hx,gx⟩:=hg;obtain⟨ar,rx,tx,_⟩:=I.list hx;obtain⟨u,gu,ru⟩:=kZ rx gx;obtain⟨⟨old,hz⟩,hi⟩:=st;refine wpAny_pyNext_enum_item hz hi tx.isList (by simpa using gu) MN fun h' zo j np _ k=>?_;refine⟨_,rfl,?_⟩;refine DL zo fun h2 z2 b2=>?_;have le:e < s.heap.objs.size:=Ao hz;have li:it < s.heap.objs.size:=let ⟨_,e',_⟩:=hi;Ao e';have lt:∀b∈[e,it],b < s.heap.objs.size:=fun b hb=>by
   simp only [Av,Bs,or_false] at hb;rcases hb with rfl | rfl
   ·exact le
   ·exact li
  have nz:s.heap.objs.size≠e:=fun z=>AX _ (by have:=le;rw [<- z] at this;exact this);have ZL:∀b o,b∉[e,it]->s.heap.get? b=some o->h2.get? b=some o:=fun b o hb e'=>by
   have ID:b≠e:=fun q=>hb (by simp [q]);rw [b2.2 b ID];exact k b o ID (fun q=>hb (by simp [q])) e'
  have ZD:h2.get? s.heap.objs.size=some {cls:=.type "tuple",data:=.seq #[.int i s.toks,u]}:=(b2.2 _ nz).trans np;have hfr:=I.bD.fresh (Am s.heap.objs.size);refine⟨.ref s.heap.objs.size,upd H s.heap.objs.size (.tup [.int i,x]),I.tm (t':=s.toks+1) hf ZL (Am _) ⟨by show 2<=sizeLine;decide,[.int i s.toks,u],.cons ⟨_,rfl⟩ (.cons ru .nil),⟨_,ZD,rfl,_,rfl⟩⟩,rfl,⟨_,x,rfl,hfr,rfl,fun xs' h'=>by rw [I.Gu h' hx];exact gx⟩,⟨⟨_,z2⟩,let ⟨o,e',p⟩:=j;⟨o,(b2.2 _ (Bw MN)).trans e',p⟩⟩,fun b hb=>?_⟩;rw [av (AJ (lt b hb))];exact (hf b hb).1
 done:=by
  intro X hP hw hK hc i pins s σ H E I hf st hg;subst hP hw hK;obtain⟨xs,hx,hl⟩:=hg;obtain⟨ar,rx,tx,_⟩:=I.list hx;have el:=rx.length;obtain⟨⟨old,hz⟩,hi⟩:=st;refine wpAny_pyNext_enum_end (I.ok.hd hc) hz hi tx.isList (by simp;omega) fun h' k=>⟨rfl,I.xN (t':=s.toks) hf fun b o hb e'=>k b o (fun z=>hb (by simp [z])) e'⟩
 self:=fun A i s Q E st h=>let ⟨_,e'⟩:=st.1;CP e' h
end L2
namespace My
open PySem PySem.Spec PyProof.Rows L2
def en:Tr->Nat->Nat->Ent
 | .leaf x,_,_=>.word x
 | .node l r,o,j=>if j < l.size then en l o j else if j < l.size+r.size then en r (o+l.size) (j-l.size) else .pair (o+l.size-1) (o+l.size+r.size-1)
def up:Tr->Nat->Nat->List Nat->List Nat
 | .leaf _,o,_,ab=>o::ab
 | .node l r,o,j,ab=>if j < l.size then up l o j ((o+l.size+r.size)::ab) else if j < l.size+r.size then up r (o+l.size) (j-l.size) ((o+l.size+r.size)::ab) else (o+l.size+r.size)::ab
def kX:Tr->Nat->Nat->V->V
 | .leaf _,_,_,p=>p
 | .node l r,o,j,p=>if j < l.size then kX l o j (.int (o+l.size+r.size:Nat)) else if j < l.size+r.size then kX r (o+l.size) (j-l.size) (.int (o+l.size+r.size:Nat)) else p
def be:Tr->Nat->Nat->List Nat
 | .leaf _,o,_=>[o]
 | .node l r,o,j=>if j < l.size then be l o j else if j < l.size+r.size then be r (o+l.size) (j-l.size) else be l o (l.size-1)++be r (o+l.size) (r.size-1)
theorem gG:∀(t:Tr) (o j:Nat),j < t.size->(t.nd o)[j]?=some (en t o j)
 | .leaf x,o,j,h=>by
  have:j=0:=by have:j < 1:=h;omega
  subst this;rfl
 | .node l r,o,j,h=>by
  have es:(Tr.node l r).size=l.size+r.size+1:=rfl;have hn:(Tr.node l r).nd o=l.nd o++r.nd (o+l.size)++[.pair (o+l.size-1) (o+l.size+r.size-1)]:=rfl;have ln:=l.br o;have rn:=r.br (o+l.size);unfold en;by_cases c1:j < l.size
  ·rw [if_pos c1,hn,A7,Az (by omega)];exact gG l o j c1
  ·rw [if_neg c1];by_cases c2:j < l.size+r.size
   ·rw [if_pos c2,hn,A7,Ay (by omega),Az (by omega),ln];exact gG r _ _ (by omega)
   ·rw [if_neg c2,hn,Ay (by rw [Ad];omega),Ad,ln,rn];have:j-(l.size+r.size)=0:=by omega
    rw [this];rfl
theorem Qk:∀(t:Tr) (o j:Nat),j < t.size->(∃x,en t o j=.word x/\be t o j=[o+j])\/∃a b,en t o j=.pair (o+a) (o+b)/\a < j/\b < j/\be t o j=be t o a++be t o b
 | .leaf x,o,j,h=>by
  have:j=0:=by have:j < 1:=h;omega
  subst this;exact .inl ⟨x,rfl,rfl⟩
 | .node l r,o,j,h=>by
  have es:(Tr.node l r).size=l.size+r.size+1:=rfl;have lp:=l.size_pos;have rp:=r.size_pos;by_cases c1:j < l.size
  ·have e1:en (.node l r) o j=en l o j:=by rw [en,if_pos c1]
   have e2:∀k,k < l.size->be (.node l r) o k=be l o k:=fun k hk=>by rw [be,if_pos hk]
   rw [e1];rcases Qk l o j c1 with⟨x,q1,q2⟩ | ⟨a,b,q1,q2,q3,q4⟩
   ·exact .inl ⟨x,q1,by rw [e2 j c1];exact q2⟩
   ·exact .inr ⟨a,b,q1,q2,q3,by rw [e2 j c1,e2 a (by omega),e2 b (by omega)];exact q4⟩
  ·by_cases c2:j < l.size+r.size
   ·have e1:en (.node l r) o j=en r (o+l.size) (j-l.size):=by rw [en,if_neg c1,if_pos c2]
    have e2:∀k,k < r.size->be (.node l r) o (l.size+k)=be r (o+l.size) k:=fun k hk=>by
     rw [be,if_neg (by omega),if_pos (by omega)];congr 1;omega
    have ej:j=l.size+(j-l.size):=by omega
    rw [e1];rcases Qk r (o+l.size) (j-l.size) (by omega) with⟨x,q1,q2⟩ | ⟨a,b,q1,q2,q3,q4⟩
    ·refine .inl ⟨x,q1,?_⟩;rw [ej,e2 _ (by omega),q2];congr 1;omega
    ·refine .inr ⟨l.size+a,l.size+b,?_,by omega,by omega,?_⟩
     ·rw [q1,A9,A9]
     ·rw [e2 a (by omega),e2 b (by omega),ej,e2 _ (by omega),q4]
   ·have ej:j=l.size+r.size:=by omega
    refine .inr ⟨l.size-1,l.size+r.size-1,?_,by omega,by omega,?_⟩
    ·rw [en,if_neg c1,if_neg c2];congr 1 <;> omega
    ·rw [be,if_neg c1,if_neg c2,be,if_pos (by omega),be,if_neg (by omega),if_pos (by omega)];congr 2;omega
theorem sZ:∀(t:Tr) (o j:Nat) (p:V) (ab:List Nat),j < t.size->(j=t.size-1/\kX t o j p=p/\up t o j ab=(o+j)::ab)\/∃a,j < a/\a < t.size/\kX t o j p=.int (o+a:Nat)/\up t o j ab=(o+j)::up t o a ab
 | .leaf x,o,j,p,ab,h=>by
  have:j=0:=by have:j < 1:=h;omega
  subst this;exact .inl ⟨rfl,rfl,rfl⟩
 | .node l r,o,j,p,ab,h=>by
  have es:(Tr.node l r).size=l.size+r.size+1:=rfl;have lp:=l.size_pos;have rp:=r.size_pos;have er:up (.node l r) o (l.size+r.size) ab=(o+l.size+r.size)::ab:=by rw [up,if_neg (by omega),if_neg (by omega)]
  by_cases c1:j < l.size
  ·have e1:kX (.node l r) o j p=kX l o j (.int (o+l.size+r.size:Nat)):=by rw [kX,if_pos c1]
   have e2:∀k,k < l.size->up (.node l r) o k ab=up l o k ((o+l.size+r.size)::ab):=fun k hk=>by rw [up,if_pos hk]
   rw [e1,e2 j c1];rcases sZ l o j (.int (o+l.size+r.size:Nat)) ((o+l.size+r.size)::ab) c1 with⟨q1,q2,q3⟩ | ⟨a,q1,q2,q3,q4⟩
   ·refine .inr ⟨l.size+r.size,by omega,by omega,by rw [q2,A9],by rw [q3,er]⟩
   ·exact .inr ⟨a,q1,by omega,q3,by rw [q4,e2 a q2]⟩
  ·by_cases c2:j < l.size+r.size
   ·have e1:kX (.node l r) o j p=kX r (o+l.size) (j-l.size) (.int (o+l.size+r.size:Nat)):=by rw [kX,if_neg c1,if_pos c2]
    have e2:∀k,k < r.size->up (.node l r) o (l.size+k) ab=up r (o+l.size) k ((o+l.size+r.size)::ab):=fun k hk=>by
     rw [up,if_neg (by omega),if_pos (by omega)];congr 1;omega
    obtain⟨i,rfl⟩:∃i,j=l.size+i:=⟨j-l.size,by omega⟩;have ei:l.size+i-l.size=i:=by omega
    rw [e1,e2 i (by omega),ei];rcases sZ r (o+l.size) i (.int (o+l.size+r.size:Nat)) ((o+l.size+r.size)::ab) (by omega) with⟨q1,q2,q3⟩ | ⟨a,q1,q2,q3,q4⟩
    ·refine .inr ⟨l.size+r.size,by omega,by omega,by rw [q2,A9],by rw [q3,er,A9]⟩
    ·exact .inr ⟨l.size+a,by omega,by omega,by rw [q3,A9],by rw [q4,e2 a q2,A9]⟩
   ·have ej:j=l.size+r.size:=by omega
    refine .inl ⟨by omega,by rw [kX,if_neg c1,if_neg c2],?_⟩;rw [ej,er,A9]
def mV:Tr->Nat->V->List V
 | .leaf _,_,p=>[p]
 | .node l r,o,p=>mV l o (.int (o+l.size+r.size:Nat))++mV r (o+l.size) (.int (o+l.size+r.size:Nat))++[p]
theorem kD:∀(t:Tr) (o:Nat) (p:V),(mV t o p).length=t.size
 | .leaf _,_,_=>rfl
 | .node l r,o,p=>by
  unfold mV;rw [Ad,Ad,kD l,kD r];rfl
def KO (t:Tr) (o:Nat) (p q:V) (A B:List V):(A++mV t o p++B).set (A.length+t.size-1) q=A++mV t o q++B:=by
 have key:∃I,mV t o p=I++[p]/\mV t o q=I++[q]:=by
  cases t with
  | leaf _=>exact⟨[],rfl,rfl⟩
  | node l r=>exact⟨_,rfl,rfl⟩
 obtain⟨I,e1,e2⟩:=key;have h1:=kD t o p;rw [e1,Ad] at h1;have iX:I.length+1=t.size:=h1;rw [e1,e2];have ei:A.length+t.size-1=(A++I).length:=by rw [Ad];omega
 rw [ei,show A++(I++[p])++B=(A++I)++p::B by simp,EM _ _ (Am _),Ca];simp
theorem Qv:∀(es fs:List Ent) (i:Nat) (l:List V),ah (es++fs) i l=ah fs (i+es.length) (ah es i l)
 | [],fs,i,l=>rfl
 | e::es,fs,i,l=>by
  show ah (es++fs) (i+1) (Qw l i e)=ah fs (i+(es.length+1)) (ah es (i+1) (Qw l i e));rw [Qv es fs];congr 1;omega
theorem Ji:∀(t:Tr) (A B:List V),ah (t.nd A.length) A.length (A++Al t.size .aU++B)=A++mV t A.length .aU++B
 | .leaf x,A,B=>rfl
 | .node l r,A,B=>by
  have es:(Tr.node l r).size=l.size+r.size+1:=rfl;have lp:=l.size_pos;have rp:=r.size_pos;have hn:(Tr.node l r).nd A.length=l.nd A.length++r.nd (A.length+l.size)++[.pair (A.length+l.size-1) (A.length+l.size+r.size-1)]:=rfl;have ln:=l.br A.length;have rn:=r.br (A.length+l.size);have h1:=Ji l A (Al r.size .aU++([V.aU]++B));have e0:A++Al (Tr.node l r).size V.aU++B=A++Al l.size .aU++(Al r.size .aU++([V.aU]++B)):=by
   rw [es,<- C1,<- C1];simp only [A7];rfl
  rw [hn,zL,Qv,e0,h1,ln];have la:(A++mV l A.length V.aU).length=A.length+l.size:=by rw [Ad,kD]
  have h2:=Ji r (A++mV l A.length V.aU) ([V.aU]++B);rw [la] at h2;have e1:A++mV l A.length V.aU++(Al r.size V.aU++([V.aU]++B))=A++mV l A.length V.aU++Al r.size V.aU++([V.aU]++B):=by simp [A7]
  rw [e1,h2,Ad,ln,rn];show ((_:List V).set (A.length+l.size-1) _).set (A.length+l.size+r.size-1) _=_;have s1:=KO l A.length .aU (.int (A.length+(l.size+r.size):Nat)) A (mV r (A.length+l.size) V.aU++([V.aU]++B));have e2:A++mV l A.length V.aU++mV r (A.length+l.size) V.aU++([V.aU]++B)=A++mV l A.length V.aU++(mV r (A.length+l.size) V.aU++([V.aU]++B)):=by simp [A7]
  rw [e2,s1];have lb:(A++mV l A.length (V.int (A.length+(l.size+r.size):Nat))).length=A.length+l.size:=by rw [Ad,kD]
  have s2:=KO r (A.length+l.size) .aU (.int (A.length+(l.size+r.size):Nat)) (A++mV l A.length (V.int (A.length+(l.size+r.size):Nat))) ([V.aU]++B);rw [lb] at s2;have e3:A++mV l A.length (V.int (A.length+(l.size+r.size):Nat))++(mV r (A.length+l.size) V.aU++([V.aU]++B))=A++mV l A.length (V.int (A.length+(l.size+r.size):Nat))++mV r (A.length+l.size) V.aU++([V.aU]++B):=by simp [A7]
  rw [e3,s2];have e4:mV (.node l r) A.length .aU=mV l A.length (.int (A.length+l.size+r.size:Nat))++mV r (A.length+l.size) (.int (A.length+l.size+r.size:Nat))++[.aU]:=rfl;rw [e4,A9 A.length l.size r.size];simp [A7]
theorem zJ:∀(t:Tr) (o j:Nat) (p:V),j < t.size->(mV t o p)[j]?=some (kX t o j p)
 | .leaf x,o,j,p,h=>by
  have:j=0:=by have:j < 1:=h;omega
  subst this;rfl
 | .node l r,o,j,p,h=>by
  have es:(Tr.node l r).size=l.size+r.size+1:=rfl;have ln:=kD l o (.int (o+l.size+r.size:Nat));have rn:=kD r (o+l.size) (.int (o+l.size+r.size:Nat));unfold mV kX;by_cases c1:j < l.size
  ·rw [if_pos c1,A7,Az (by omega)];exact zJ l _ _ _ c1
  ·rw [if_neg c1];by_cases c2:j < l.size+r.size
   ·rw [if_pos c2,A7,Ay (by omega),Az (by omega),ln];exact zJ r _ _ _ (by omega)
   ·rw [if_neg c2,Ay (by rw [Ad];omega),Ad,ln,rn];have:j-(l.size+r.size)=0:=by omega
    rw [this];rfl
def Xo (t:Tr) {j:Nat} (h:j < t.size):(ah (t.nd 0) 0 (Al t.size .aU))[j]?=some (kX t 0 j .aU):=by
 have q:=Ji t [] [];have e:([]:List V)++Al t.size .aU++[]=Al t.size .aU:=by simp
 have e2:([]:List V)++mV t ([]:List V).length .aU++[]=mV t 0 .aU:=by simp
 rw [e,e2] at q;have q':ah (t.nd 0) 0 (Al t.size .aU)=mV t 0 .aU:=q;rw [q'];exact zJ t 0 j .aU h
end My
namespace PL
section
open PySem PySem.Spec PyProof.Rows L2
variable {K:Aa}
def TK (K:Aa) (H:Hp) (a:Addr) (xs:List V):Prop:=(∃o,H a=some (.c7 o (.lst xs)))\/
  ∃(o:Obj) (ar:Array Value) (n:Nat),K.lookup a=some o/\o.cls=.type "list"/\o.dict=none/\o.data=.seq ar n/\ar.size<=sizeLine/\Vals xs ar.toList
def TK.sq {H:Hp}{a:Addr}{xs:List V} (h:TK K H a xs):cT K H a xs:=h.elim (fun h=>.inl (.inr h)) .inr
structure bq (K:Aa) (H H':Hp):Prop where
 t:∀p vs,H p=some (.tup vs)->H' p=some (.tup vs)
 z:∀p o u,H p=some (.c7 o u)->H' p=some (.c7 o u)
def bq.f {H H':Hp} (t:bq K H H') (p:Addr) (vs:List V) (h:TK K H p vs):TK K H' p vs:=h.elim (fun ⟨o,h⟩=>.inl ⟨o,t.z _ _ _ h⟩) .inr
def bq.refl (H:Hp):bq K H H:=⟨fun _ _ h=>h,fun _ _ _ h=>h⟩
def bq.trans {H H1 H2:Hp} (a:bq K H H1) (b:bq K H1 H2):bq K H H2:=⟨fun p vs h=>b.t p vs (a.t p vs h),fun p o w h=>b.z p o w (a.z p o w h)⟩
def _root_.L2.kG.fv {H H':Hp} (s:kG H H'):bq K H H':=⟨fun p vs h=>s _ _ h,fun p o u h=>s _ _ h⟩
inductive PV where
 | aU | bl (b:Bool) | int (i:Int) | str (x:Str) | tup (l:List PV) | ref (n:Nat) | ty (n:String) | cl (l:List PV) | dv (ks vs:List PV)
def kP:Key->PV
 | .inl i=>.int i
 | .inr x=>.str x
inductive PO where
 | lst (xs:List PV) | dk (kvs:List (Key×PV)) | dt (kvs:List (List Key×PV)) | opq (φ:List V->Prop)
abbrev PH:=List PO
abbrev FA:=List (Option PV)
mutual
inductive VR (K:Aa) (ι:List Addr) (H:Hp):V->PV->Prop
 | aU:VR K ι H .aU .aU
 | bl (b:Bool):VR K ι H (.bl b) (.bl b)
 | int (i:Int):VR K ι H (.int i) (.int i)
 | str (x:Str):VR K ι H (.str x) (.str x)
 | ty (n:String):VR K ι H (.ty n) (.ty n)
 | tup {p:Addr}{vs:List V}{l:List PV} (h:H p=some (.tup vs)) (r:aH K ι H vs l):VR K ι H (.ref p) (.tup l)
 | ref {n:Nat}{a:Addr} (h:ι[n]?=some a):VR K ι H (.ref a) (.ref n)
 | cl {a:Addr}{vs:List V}{l:List PV} (h:TK K H a vs) (r:aH K ι H vs l):VR K ι H (.ref a) (.cl l)
 | dk {a:Addr}{o:Obj}{kvs:List (Key×V)}{ks l:List PV} (h:H a=some (.c7 o (.dK kvs))) (e:ks=kvs.map fun kv=>kP kv.1) (r:aH K ι H (kvs.map (·.2)) l):VR K ι H (.ref a) (.dv ks l)
 | dt {a:Addr}{o:Obj}{kvs:List (List Key×V)}{ks l:List PV} (h:H a=some (.c7 o (.dT kvs))) (e:ks=kvs.map fun kv=>.tup (kv.1.map kP)) (r:aH K ι H (kvs.map (·.2)) l):VR K ι H (.ref a) (.dv ks l)
inductive aH (K:Aa) (ι:List Addr) (H:Hp):List V->List PV->Prop
 | nil:aH K ι H [] []
 | cons {v:V}{p:PV}{vs:List V}{ps:List PV} (r:VR K ι H v p) (t:aH K ι H vs ps):aH K ι H (v::vs) (p::ps)
end
section
variable {ι ι':List Addr}{H H':Hp}
mutual
theorem VR.mono (ht:bq K H H') (hi:∀(n:Nat) (a:Addr),ι[n]?=some a->ι'[n]?=some a):∀{v:V}{p:PV},VR K ι H v p->VR K ι' H' v p
 | _,_,.aU=>.aU
 | _,_,.bl b=>.bl b
 | _,_,.int i=>.int i
 | _,_,.str x=>.str x
 | _,_,.ty n=>.ty n
 | _,_,.tup h r=>.tup (ht.t _ _ h) (aH.mono ht hi r)
 | _,_,.cl h r=>.cl (ht.f _ _ h) (aH.mono ht hi r)
 | _,_,.dk h e r=>.dk (ht.z _ _ _ h) e (aH.mono ht hi r)
 | _,_,.dt h e r=>.dt (ht.z _ _ _ h) e (aH.mono ht hi r)
 | _,_,.ref h=>.ref (hi _ _ h)
theorem aH.mono (ht:bq K H H') (hi:∀(n:Nat) (a:Addr),ι[n]?=some a->ι'[n]?=some a):∀{vs:List V}{ps:List PV},aH K ι H vs ps->aH K ι' H' vs ps
 | _,_,.nil=>.nil
 | _,_,.cons r t=>.cons (VR.mono ht hi r) (aH.mono ht hi t)
end
theorem aH.length:∀{vs:List V}{ps:List PV},aH K ι H vs ps->vs.length=ps.length
 | _,_,.nil=>rfl
 | _,_,.cons _ t=>by rw [Aq,Aq,aH.length t]
theorem aH.get:∀{vs:List V}{ps:List PV}{i:Nat}{p:PV},aH K ι H vs ps->ps[i]?=some p->∃v,vs[i]?=some v/\VR K ι H v p
 | _,_,_,_,.nil,e=>by simp at e
 | _,_,0,_,.cons r _,e=>by simp at e;subst e;exact⟨_,rfl,r⟩
 | _,_,i+1,p,.cons _ t,e=>by
  obtain⟨v,h1,h2⟩:=aH.get (i:=i) (p:=p) t (by simpa using e);exact⟨v,by simpa using h1,h2⟩
theorem aH.set {v:V}{p:PV} (r:VR K ι H v p):∀{vs:List V}{ps:List PV} (i:Nat),aH K ι H vs ps->aH K ι H (vs.set i v) (ps.set i p)
 | _,_,_,.nil=>.nil
 | _,_,0,.cons _ t=>.cons r t
 | _,_,i+1,.cons q t=>.cons q (aH.set r i t)
theorem aH.append:∀{xs ys:List V}{us ws:List PV},aH K ι H xs us->aH K ι H ys ws->aH K ι H (xs++ys) (us++ws)
 | _,_,_,_,.nil,s=>s
 | _,_,_,_,.cons r t,s=>.cons r (aH.append t s)
theorem aH.take:∀{xs:List V}{us:List PV} (n:Nat),aH K ι H xs us->aH K ι H (xs.take n) (us.take n)
 | _,_,0,_=>.nil
 | _,_,_+1,.nil=>.nil
 | _,_,n+1,.cons r t=>.cons r (aH.take n t)
theorem aH.drop:∀{xs:List V}{us:List PV} (n:Nat),aH K ι H xs us->aH K ι H (xs.drop n) (us.drop n)
 | _,_,0,r=>r
 | _,_,_+1,.nil=>.nil
 | _,_,n+1,.cons _ t=>aH.drop n t
theorem aH.reverse:∀{xs:List V}{us:List PV},aH K ι H xs us->aH K ι H xs.reverse us.reverse
 | _,_,.nil=>.nil
 | _,_,.cons r t=>by rw [CW,CW];exact (aH.reverse t).append (.cons r .nil)
def aH.one {v:V}{p:PV} (r:VR K ι H v p):aH K ι H [v] [p]:=.cons r .nil
end
structure Go (ι ι':List Addr) (H H':Hp):Prop where
 ext:∃m,ι'=ι++m
 new:∀a,a∈ι'->a∉ι->H a=none
 keep:∀a o,a∉ι->H a=some o->H' a=some o
def Go.refl (ι:List Addr) (H:Hp):Go ι ι H H:=⟨⟨[],by simp⟩,fun a h n=>absurd h n,fun _ _ _ h=>h⟩
def OR (K:Aa) (ι:List Addr) (H:Hp) (a:Addr):PO->Prop
 | .lst xs=>∃vs,H a=some (.lst vs)/\aH K ι H vs xs
 | .dk kvs=>∃vs:List (Key×V),H a=some (.dK vs)/\vs.map (·.1)=kvs.map (·.1)/\aH K ι H (vs.map (·.2)) (kvs.map (·.2))
 | .dt kvs=>∃vs:List (List Key×V),H a=some (.dT vs)/\vs.map (·.1)=kvs.map (·.1)/\aH K ι H (vs.map (·.2)) (kvs.map (·.2))
 | .opq φ=>∃vs,H a=some (.lst vs)/\φ vs
structure HR (K:Aa) (ι:List Addr) (H:Hp) (h:PH):Prop where
 nd:ι.Nodup
 len:ι.length=h.length
 obj:∀(n:Nat) (a:Addr) (o:PO),ι[n]?=some a->h[n]?=some o->OR K ι H a o
def iY {α:Type}{l:List α}{x y:α}{n:Nat} (h:(l++[x])[n]?=some y):l[n]?=some y\/(n=l.length/\y=x):=by
 by_cases hn:n < l.length
 ·rw [Az hn] at h;exact .inl h
 ·rw [Ay (by omega)] at h;obtain⟨k,hk⟩:∃k,k=n-l.length:=⟨_,rfl⟩;rw [<- hk] at h;cases k with
  | zero=>simp at h;exact .inr ⟨by omega,h.symm⟩
  | succ k=>simp at h
end
section
open PySem PySem.Spec PyProof.Rows L2
variable {K:Aa}
abbrev QV:=PV->PH->Prop
structure ME where
 run:FA->PH->QV->Prop
 mono:∀{ps h}{Q Q':QV},(∀v h',Q v h'->Q' v h')->run ps h Q->run ps h Q'
structure MT where
 run:FA->PH->(Bool->PH->Prop)->Prop
 mono:∀{ps h}{Q Q':Bool->PH->Prop},(∀v h',Q v h'->Q' v h')->run ps h Q->run ps h Q'
structure MA where
 run:FA->PH->(List PV->PH->Prop)->Prop
 mono:∀{ps h}{Q Q':List PV->PH->Prop},(∀v h',Q v h'->Q' v h')->run ps h Q->run ps h Q'
structure ML where
 run:FA->PH->(List PV->PH->Prop)->Prop
 mono:∀{ps h}{Q Q':List PV->PH->Prop},(∀v h',Q v h'->Q' v h')->run ps h Q->run ps h Q'
structure Src where
 items:List PV
 ok:PH->Prop
 fz:Bool
structure MI where
 run:FA->PH->(Src->PH->Prop)->Prop
 mono:∀{ps h}{Q Q':Src->PH->Prop},(∀v h',Q v h'->Q' v h')->run ps h Q->run ps h Q'
structure PD where
 nx:FA->PH->Prop
 rt:QV
 bk:FA->PH->Prop
 ct:FA->PH->Prop
structure PD.Le (D D':PD):Prop where
 nx:∀ps h,D.nx ps h->D'.nx ps h
 rt:∀v h,D.rt v h->D'.rt v h
 bk:∀ps h,D.bk ps h->D'.bk ps h
 ct:∀ps h,D.ct ps h->D'.ct ps h
structure MS where
 run:PD->FA->PH->Prop
 mono:∀{D D' ps h},PD.Le D D'->run D ps h->run D' ps h
structure MG where
 run:PV->FA->PH->(FA->PH->Prop)->Prop
 mono:∀{v ps h}{Q Q':FA->PH->Prop},(∀ps h,Q ps h->Q' ps h)->run v ps h Q->run v ps h Q'
def pQ (K:Aa) (ι:List Addr) (H:Hp) (Q:VK):QV:=fun p h'=>∀ι' v H',Go ι ι' H H'->HR K ι' H' h'->VR K ι' H' v p->Q v H'
def PE.imp {X:Cx}{e:Expr}{t t':TE} (h:PE X e t) (f:∀σ H Q,t' σ H Q->t σ H Q):PE X e t':=fun pins s σ H Q I q=>h pins s σ H Q I (f _ _ _ q)
def PT.imp {X:Cx}{e:Expr}{t t':TT} (h:PT X e t) (f:∀σ H Q,t' σ H Q->t σ H Q):PT X e t':=fun pins s σ H Q I q=>h pins s σ H Q I (f _ _ _ q)
def PW.imp {X:Cx}{e:Expr}{t t':TT} (h:PW X e t) (f:∀σ H Q,t' σ H Q->t σ H Q):PW X e t':=fun w pins s σ H Q I q=>h w pins s σ H Q I (f _ _ _ q)
def PA.imp {X:Cx}{e:List Expr}{t t':TA} (h:PA X e t) (f:∀σ H Q,t' σ H Q->t σ H Q):PA X e t':=fun pos pins s σ H Q I q=>h pos pins s σ H Q I (f _ _ _ q)
def PS.imp {X:Cx}{e:Stmt}{t t':TS} (h:PS X e t) (f:∀D σ H,t' D σ H->t D σ H):PS X e t':=fun pins s σ H D I q=>h pins s σ H D I (f _ _ _ q)
def sQ.imp {X:Cx}{e:List Stmt}{t t':TS} (h:sQ X e t) (f:∀D σ H,t' D σ H->t D σ H):sQ X e t':=fun pins s σ H D I q=>h pins s σ H D I (f _ _ _ q)
def PG.imp {X:Cx}{e:Expr}{t t':TG} (h:PG X e t) (f:∀v σ H Q,t' v σ H Q->t v σ H Q):PG X e t':=fun pins s σ H v u Q I r q=>h pins s σ H v u Q I r (f _ _ _ _ q)
def PI.imp {X:Cx}{tg e:Expr}{t t':TI} (h:PI X tg e t) (f:∀σ H Q,t' σ H Q->t σ H Q):PI X tg e t':=fun pins s σ H R I q=>h pins s σ H R I (f _ _ _ q)
section
abbrev P2:=PV->PV->PH->QV->Prop
structure M2 where
 f:P2
 mono:∀{x y h}{Q Q':QV},(∀v h',Q v h'->Q' v h')->f x y h Q->f x y h Q'
def M2.Ok (K:Aa) (r:R2) (m:M2):Prop:=∀{ι H h u v x y Q},HR K ι H h->VR K ι H u x->VR K ι H v y->m.f x y h (pQ K ι H Q)->r u v H Q
end
end
section
open PySem PySem.Spec PyProof.Rows L2
variable {K:Aa}
section
def lI {ι:List Addr}{H:Hp}:∀{vs:List V}{l:List PV},aH K ι H vs l->(!l.isEmpty)=!vs.isEmpty
 | _,_,.nil=>rfl
 | _,_,.cons _ _=>rfl
structure MQ where
 run:FA->PH->(Src->PH->Prop)->Prop
 mono:∀{ps h}{Q Q':Src->PH->Prop},(∀v h',Q v h'->Q' v h')->run ps h Q->run ps h Q'
end
end
open PySem PySem.Spec PyProof.Rows L2
section
structure MGs where
 run:List PV->FA->PH->(FA->PH->Prop)->Prop
 mono:∀{v ps h}{Q Q':FA->PH->Prop},(∀ps h,Q ps h->Q' ps h)->run v ps h Q->run v ps h Q'
end
section
variable {K:Aa}
section
structure xB where
 f:List PV->PH->QV->Prop
 mono:∀{l h}{Q Q':QV},(∀v h',Q v h'->Q' v h')->f l h Q->f l h Q'
def xB.Ok (K:Aa) (r:List V->Hp->VK->Prop) (m:xB):Prop:=∀{ι H h vs l Q},HR K ι H h->aH K ι H vs l->m.f l h (pQ K ι H Q)->r vs H Q
end
end
section
variable {K:Aa}
def aI (g:Int->Int->PV):M2:=⟨fun x y h Q=>match x,y with | .int i,.int j=>Q (g i j) h | _,_=>False,fun f q=>by
 revert q
 split
 ·exact f _ _
 ·exact fun z=>z⟩
def Xq (C:Int->Int->Prop) (g:Int->Int->PV):M2:=⟨fun x y h Q=>match x,y with | .int i,.int j=>C i j/\Q (g i j) h | _,_=>False,fun f q=>by
 revert q
 split
 ·exact fun q=>⟨q.1,f _ _ q.2⟩
 ·exact fun z=>z⟩
def Hd {g:Int->Int->PV}{g':Int->Int->V} (hg:∀ι H i j,VR K ι H (g' i j) (g i j)):M2.Ok K (Ro g') (aI g):=by
 intro ι H h u v x y Q hr hu hv q;unfold aI at q;dsimp only at q;revert q
 split
 ·intro q;cases hu;cases hv;exact⟨_,_,rfl,rfl,q ι _ H (Go.refl _ _) hr (hg _ _ _ _)⟩
 ·exact Bk
def zM {C:Int->Int->Prop}{g:Int->Int->PV}{g':Int->Int->V} (hg:∀ι H i j,VR K ι H (g' i j) (g i j)):M2.Ok K (rI C g') (Xq C g):=by
 intro ι H h u v x y Q hr hu hv q;unfold Xq at q;dsimp only at q;revert q
 split
 ·intro q;cases hu;cases hv;exact⟨_,_,rfl,rfl,q.1,q.2 ι _ H (Go.refl _ _) hr (hg _ _ _ _)⟩
 ·exact Bk
def p0:=aI fun i j=>.int (i-j)
def jT:=Xq IntMulOk fun i j=>.int (i*j)
def oDiv:=Xq QD fun i j=>.int (i / j)
def oMod:=Xq (fun _ j=>0 < j) fun i j=>.int (i % j)
def yz:=Xq MC fun i j=>.int (i ^ j.toNat)
def oLt:=aI fun i j=>.bl (decide (i < j))
def oLe:=aI fun i j=>.bl (decide (i<=j))
def ZC:=aI fun i j=>.bl (decide (j < i))
def oGe:=aI fun i j=>.bl (decide (j<=i))
section
variable {ι:List Addr}{H:Hp}
def aH.jU:∀{vs:List V}{l:List PV},aH K ι H vs l->(vs=[]↔l=[])
 | _,_,.nil=>by simp
 | _,_,.cons _ _=>by simp
end
mutual
def PV.dat:PV->Bool
 | .tup l=>wy l
 | .ref _=>false
 | .ty _=>false
 | .cl _=>false
 | .dv _ _=>false
 | _=>true
def wy:List PV->Bool
 | []=>true
 | x::l=>x.dat&&wy l
end
end
section
variable {K:Aa}
section
def PV.oS:PV->Bool
 | .aU=>true
 | _=>false
def LA:M2:=⟨fun x y h Q=>match y with | .aU=>Q (.bl x.oS) h | _=>False,fun f q=>by
 revert q
 split
 ·exact f _ _
 ·exact fun z=>z⟩
def LW {ι:List Addr}{H:Hp}{v:V}{x:PV} (h:VR K ι H v x):decide (v=.aU)=x.oS:=by cases h <;> simp [PV.oS]
def RV:M2.Ok K (fun x y H Q=>y=.aU/\Q (.bl (decide (x=.aU))) H) LA:=by
 intro ι H h u v x y Q hr hu hv q;cases hv with
 | aU=>exact⟨rfl,q ι _ H (Go.refl _ _) hr (by rw [LW hu];exact .bl _)⟩
 | _=>exact q.elim
end
end
section
variable {K:Aa}
section
def Nt {v v':V}{w:Value} (h:RelV v w) (h':RelV v' w):v=v':=Option.some.inj (h.abs.symm.trans h'.abs)
end
section
variable {X:Cx}{a b c e:Expr}
def mIx (a:MQ) (b:ME):ME:=⟨fun ps h Q=>a.run ps h fun S h1=>b.run ps h1 fun y h2=>match y with
 | .int k=>S.ok h2/\match cI S.items k with | some v=>Q v h2 | none=>False
 | _=>False,fun f q=>a.mono (fun _ _ q=>b.mono (fun _ _ q=>by
  revert q
  split
  ·rintro⟨q0,q⟩;refine⟨q0,?_⟩;revert q
   split
   ·exact f _ _
   ·exact fun z=>z
  ·exact fun z=>z) q) q⟩
def aH.cI {ι:List Addr}{H:Hp}{vs:List V}{l:List PV} (r:aH K ι H vs l) {k:Int}{p:PV} (e:L2.cI l k=some p):∃v,L2.cI vs k=some v/\VR K ι H v p:=by
 unfold L2.cI at e ⊢;rw [r.length];cases z:qV l.length k with
 | none=>rw [z] at e;cases e
 | some j=>
  rw [z] at e;exact r.get e
def N4:M2:=⟨fun x y h Q=>match x,y with
 | .str z,.int k=>z.length<=sizeLine/\match L2.cI z.cps.toList k with | some c=>Q (.str ⟨#[c]⟩) h | none=>False
 | _,_=>False,fun f q=>by
  revert q
  split
  ·rintro⟨q0,q⟩;refine⟨q0,?_⟩;revert q
   split
   ·exact f _ _
   ·exact fun z=>z
  ·exact fun z=>z⟩
def RU:M2.Ok K Vk N4:=by
 intro ι H h u v x y Q hr hu hv q;unfold N4 at q;dsimp only at q;revert q
 split
 ·rename_i z k;rintro⟨q0,q⟩;cases hu;cases hv;cases e:L2.cI z.cps.toList k with
  | none=>rw [e] at q;exact q.elim
  | some c=>rw [e] at q;exact⟨z,k,c,rfl,rfl,q0,e,q ι _ H (Go.refl _ _) hr (.str _)⟩
 ·exact Bk
def fu:xB:=⟨fun l h Q=>match l with
 | [.str y]=>y.length<=sizeLine/\Q (.int y.length) h
 | [.tup l]=>Q (.int l.length) h
 | [.cl l]=>Q (.int l.length) h
 | [.ref n]=>match h[n]? with
  | some (.lst xs)=>Q (.int xs.length) h
  | _=>False
 | _=>False,fun f q=>by
  revert q
  split
  ·exact fun q=>⟨q.1,f _ _ q.2⟩
  ·exact f _ _
  ·exact f _ _
  ·split
   ·exact f _ _
   ·exact fun z=>z
  ·exact fun z=>z⟩
def Tf (K:Aa):xB.Ok K (Vj K) fu:=by
 intro ι H h vs l Q hr hv q;unfold fu at q;dsimp only at q;revert q
 split
 ·intro q;cases hv with
  | cons x t=>cases t;cases x;exact⟨_,_,rfl,⟨q.1,rfl⟩,q.2 ι _ H (Go.refl _ _) hr (.int _)⟩
 ·intro q;cases hv with
  | cons x t=>
   cases t;cases x with
   | tup e r=>exact⟨_,_,rfl,.inr ⟨_,dc.of e,r.length.symm⟩,q ι _ H (Go.refl _ _) hr (.int _)⟩
 ·intro q;cases hv with
  | cons x t=>
   cases t;cases x with
   | cl e r=>exact⟨_,_,rfl,.inl ⟨_,e.sq,r.length.symm⟩,q ι _ H (Go.refl _ _) hr (.int _)⟩
 ·rename_i n;cases hv with
  | cons x t=>
   cases t;cases x with
   | @ref _ a e=>
   split
   ·rename_i xs hn;intro q;obtain⟨ws,e1,e2⟩:=hr.obj n a _ e hn;exact⟨_,_,rfl,.inl ⟨ws,cT.of e1,e2.length.symm⟩,q ι _ H (Go.refl _ _) hr (.int _)⟩
   ·exact Bk
 ·exact Bk
inductive Kd where
 | str | tup | int | bool
def Kd.name:Kd->String
 | .str=>"str" | .tup=>"tuple" | .int=>"int" | .bool=>"bool"
def Kd.is:Kd->PV->Bool
 | .str,.str _=>true
 | .tup,.tup _=>true
 | .int,.int _=>true
 | .int,.bl _=>true
 | .bool,.bl _=>true
 | _,_=>false
def Za (K:Aa):List V->Hp->VK->Prop:=fun xs H Q=>∃x c t b,xs=[x,.ty c]/\(mM K H x t\/(t=.type "tuple"/\∃a vs,x=.ref a/\dc K H a vs))/\Bo K t (.type c)=some b/\Q (.bl b) H
def Mq (K:Aa) (hK:X.K=K):bL X (.builtin "isinstance") (Za K):=by
 subst hK;intro pins s σ H xs us Q I r h;obtain⟨x,c,t,b,rfl,ty | ⟨rfl,a,vs,rfl,hT⟩,e,q⟩:=h
 ·exact q9 pins s σ H _ us Q I r ⟨x,c,t,b,rfl,ty,e,q⟩
 ·obtain⟨u,w,rfl,r1,r2⟩:=vals2 r;cases r1;cases r2;obtain⟨ar,_,⟨o,h1,h2,_⟩,_⟩:=I.tuple hT;exact A4 Fc I.xa ⟨o,h1,h2⟩ e (fun z=>nomatch z) fun tk=>⟨.bl b,H,I.tok _,rfl,q⟩
def sE (K:Aa):(∀k:Kd,Bo K (.type "NoneType") (.type k.name)=some false)/\(∀k:Kd,Bo K (.type "list") (.type k.name)=some false)/\(∀k:Kd,Bo K (.type "dict") (.type k.name)=some false):=
 ⟨fun k=>by cases k <;> kernel_rfl,fun k=>by cases k <;> kernel_rfl,fun k=>by cases k <;> kernel_rfl⟩
def We (K:Aa) (b:Bool) (k:Kd):Bo K (.type "bool") (.type k.name)=some (k.is (.bl b)):=by cases k <;> kernel_rfl
def Si (K:Aa) (b:Int) (k:Kd):Bo K (.type "int") (.type k.name)=some (k.is (.int b)):=by cases k <;> kernel_rfl
def Sh (K:Aa) (b:Str) (k:Kd):Bo K (.type "str") (.type k.name)=some (k.is (.str b)):=by cases k <;> kernel_rfl
def Sg (K:Aa) (b:List PV) (k:Kd):Bo K (.type "tuple") (.type k.name)=some (k.is (.tup b)):=by cases k <;> kernel_rfl
def Qn:xB:=⟨fun l h Q=>match l with | [.int i]=>Q (.int (if i < 0 then -i else i)) h | _=>False,fun f q=>by
 revert q
 split
 ·exact f _ _
 ·exact fun z=>z⟩
def Th:xB.Ok K (fun xs H Q=>∃i,xs=[.int i]/\Q (.int (if i < 0 then -i else i)) H) Qn:=by
 intro ι H h vs l Q hr hv q;unfold Qn at q;dsimp only at q;revert q
 split
 ·intro q;cases hv with
  | cons x t=>cases t;cases x;exact⟨_,rfl,q ι _ H (Go.refl _ _) hr (.int _)⟩
 ·exact Bk
def pz:xB:=⟨fun l h Q=>match l with | [.int i]=>Q (.int i) h | [.bl k]=>Q (.int (if k then 1 else 0)) h | _=>False,fun f q=>by
 revert q
 split
 ·exact f _ _
 ·exact f _ _
 ·exact fun z=>z⟩
def Tg:xB.Ok K (fun xs H Q=>(∃i,xs=[.int i]/\Q (.int i) H)\/∃k,xs=[.bl k]/\Q (.int (if k then 1 else 0)) H) pz:=by
 intro ι H h vs l Q hr hv q;unfold pz at q;dsimp only at q;revert q
 split
 ·intro q;cases hv with
  | cons x t=>cases t;cases x;exact .inl ⟨_,rfl,q ι _ H (Go.refl _ _) hr (.int _)⟩
 ·intro q;cases hv with
  | cons x t=>cases t;cases x;exact .inr ⟨_,rfl,q ι _ H (Go.refl _ _) hr (.int _)⟩
 ·exact Bk
def Qm:xB:=⟨fun l h Q=>match l with | [.int i,.int j]=>Q (.int (if j > i then j else i)) h | _=>False,fun f q=>by
 revert q
 split
 ·exact f _ _
 ·exact fun z=>z⟩
def Ql:xB:=⟨fun l h Q=>match l with | [.int i,.int j]=>Q (.int (if j < i then j else i)) h | _=>False,fun f q=>by
 revert q
 split
 ·exact f _ _
 ·exact fun z=>z⟩
def Te:xB.Ok K (fun xs H Q=>∃i j,xs=[.int i,.int j]/\Q (.int (if j > i then j else i)) H) Qm:=by
 intro ι H h vs l Q hr hv q;unfold Qm at q;dsimp only at q;revert q
 split
 ·intro q;cases hv with
  | cons x t=>cases t with
   | cons y t=>cases t;cases x;cases y;exact⟨_,_,rfl,q ι _ H (Go.refl _ _) hr (.int _)⟩
 ·exact Bk
def Td:xB.Ok K (fun xs H Q=>∃i j,xs=[.int i,.int j]/\Q (.int (if j < i then j else i)) H) Ql:=by
 intro ι H h vs l Q hr hv q;unfold Ql at q;dsimp only at q;revert q
 split
 ·intro q;cases hv with
  | cons x t=>cases t with
   | cons y t=>cases t;cases x;cases y;exact⟨_,_,rfl,q ι _ H (Go.refl _ _) hr (.int _)⟩
 ·exact Bk
end
end
section
variable {K:Aa}
section
variable {X:Cx}{b e:Expr}
def Nv (K:Aa):List V->Hp->VK->Prop:=fun xs H Q=>∃p ys,xs=[.ref p]/\((cT K H p ys/\nu H (.tup ys) Q)\/(dc K H p ys/\Q (.ref p) H))
def Mm (K:Aa) (hK:X.K=K):bL X (.type "tuple") (Nv K):=by
 subst hK;exact wz.mono fun xs H Q ⟨p,ys,e,h⟩=>⟨p,ys,e,h.imp (fun ⟨h1,h2⟩=>⟨h1,fun l hl=>h2.at l hl⟩) fun z=>z⟩
theorem qL {ι:List Addr}{H:Hp}:∀{bs:List Bool}{vs:List V},aH K ι H vs (bs.map PV.bl)->vs=bs.map V.bl
 | [],_,h=>by cases h;rfl
 | b::bs,_,h=>by
  cases h with
  | cons x t=>cases x;rw [qL t];rfl
structure MQL where
 run:FA->PH->(Src->PH->Prop)->Prop
 mono:∀{ps h}{Q Q':Src->PH->Prop},(∀v h',Q v h'->Q' v h')->run ps h Q->run ps h Q'
structure MO where
 run:FA->PH->(Option Int->PH->Prop)->Prop
 mono:∀{ps h}{Q Q':Option Int->PH->Prop},(∀v h',Q v h'->Q' v h')->run ps h Q->run ps h Q'
def PO.imp {e:Option Expr}{t t':TO} (h:L2.PO X e t) (f:∀σ H Q,t' σ H Q->t σ H Q):L2.PO X e t':=fun pins s σ H Q I q=>h pins s σ H Q I (f _ _ _ q)
def ph (xs:List PV) (lo hi:Option Int):List PV:=(xs.drop (HT.dz xs.length 0 lo)).take (HT.dz xs.length xs.length hi-HT.dz xs.length 0 lo)
def aH.cut {ι:List Addr}{H:Hp}{vs:List V}{l:List PV} (r:aH K ι H vs l) (lo hi:Option Int):aH K ι H (zA vs lo hi) (ph l lo hi):=by
 unfold zA ph;rw [r.length];exact (r.drop _).take _
end
end
section
variable {K:Aa}
section
variable {X:Cx}{a c e:Expr}{p:Pos}
def iE (lo:Int) (n:Nat):List PV:=(AH n).map fun (i:Nat)=>.int (lo+(i:Int))
def jx (lo:Int) (n:Nat):(iE lo n).length=n:=by unfold iE;simp
def qr {lo:Int}{n i:Nat}{p:PV} (h:(iE lo n)[i]?=some p):i < n/\p=.int (lo+i):=by
 unfold iE at h;rw [Ai] at h;cases z:(AH n)[i]? with
 | none=>rw [z] at h;cases h
 | some k=>
  rw [z] at h;obtain⟨h1,h2⟩:=Aj.mp z;simp at h1 h2;subst h2;exact⟨h1,(Option.some.inj h).symm⟩
def qZ (lo:Int) (n:Nat):List PV:=(AH n).map fun (i:Nat)=>.int (lo-(i:Int))
def xk (lo:Int) (n:Nat):(qZ lo n).length=n:=by unfold qZ;simp
def xl {lo:Int}{n i:Nat}{p:PV} (h:(qZ lo n)[i]?=some p):i < n/\p=.int (lo-i):=by
 unfold qZ at h;rw [Ai] at h;cases z:(AH n)[i]? with
 | none=>rw [z] at h;cases h
 | some k=>
  rw [z] at h;obtain⟨h1,h2⟩:=Aj.mp z;simp at h1 h2;subst h2;exact⟨h1,(Option.some.inj h).symm⟩
def Rf (i:Int):Prop:=-(2 ^ 62)<=i/\i < 2 ^ 62
def abz (m:MA):MI:=⟨fun ps h Q=>m.run ps h fun l h1=>match l with | [.int j]=>Rf j/\Q ⟨iE 0 j.toNat,fun _=>True,false⟩ h1 | _=>False,fun f q=>m.mono (fun l h1 q=>by
 revert q
 split
 ·exact fun q=>⟨q.1,f _ _ q.2⟩
 ·exact fun z=>z) q⟩
def dZ (k:Nat):List PV->List PV
 | []=>[]
 | x::l=>.tup [.int (k:Int),x]::dZ (k+1) l
theorem cH:∀(k:Nat) (l:List PV),(dZ k l).length=l.length
 | _,[]=>rfl
 | k,x::l=>by rw [dZ,Aq,Aq,cH]
theorem g8:∀{k:Nat}{l:List PV}{i:Nat}{p:PV},(dZ k l)[i]?=some p->∃x,l[i]?=some x/\p=.tup [.int ((k+i:Nat):Int),x]
 | _,[],_,_,h=>by simp [dZ] at h
 | k,x::l,0,p,h=>by simp [dZ] at h;subst h;exact⟨x,rfl,by simp⟩
 | k,x::l,i+1,p,h=>by
  obtain⟨y,h1,h2⟩:=g8 (k:=k+1) (l:=l) (i:=i) (p:=p) (by simpa [dZ] using h);exact⟨y,by simpa using h1,by rw [h2,show k+1+i=k+(i+1) by omega]⟩
def Wq (K:Aa) (t1:TE):TI:=fun σ H R=>t1 σ H fun x H1=>∃a,x=.ref a/\(((∃xs,cT K H1 a xs)/\R (aa7 K a) H1)\/((∃xs,dc K H1 a xs)/\R (Ite K a) H1))
def NN {X:Cx} (K:Aa) (hK:X.K=K) {e1:Expr}{t1:TE}{elts:List Expr}{kk:Nat}{tp p1 p2:Pos} (hg:Gl X "enumerate") (hm:X.mg "enumerate"=none) (h1:PE X e1 t1)
  (GL:starEach [e1] X.env=(false,eval e1 X.env)::starEach [] X.env:=by rfl):PI X (.Tuple elts kk tp) (.Call (.Name "enumerate" p1) [e1] [] p2) (Wq K t1):=by
 subst hK;intro pins s σ H R I h;refine BN (jY I hg hm boot_enumerate ?_ (by decide) (by decide));refine Bb ?_ GL rfl;rw [GL];show wpAny _ _ (spliced ((false,eval e1 X.env)::backTo p2 (starEach [] X.env))) _ _ s;refine B4 (bM (h1 pins s σ H _ I h) fun u1 s1 ⟨x,H1,I1,r1,a,ex,hh⟩=>Cq ?_);subst ex;cases r1;have d1:s1.heap.objs.size+1≠s1.heap.objs.size:=Nat.succ_ne_self _;rcases hh with⟨⟨xs,hx⟩,q⟩ | ⟨⟨xs,hx⟩,q⟩
 ·obtain⟨ar,rx,tx,_⟩:=I1.list hx;refine call_enumerate_list tx.isList fun h' ze hi _ k=>?_;refine CP ze ?_;refine⟨_,_,_,_,H1,rfl,I1.kept (t':=s1.toks) k,HD d1,⟨⟨_,ze⟩,hi⟩,fun c hc=>?_,q⟩;have hle:s1.heap.objs.size<=c:=by
   simp only [Av,Bs,or_false] at hc;rcases hc with rfl | rfl
   ·exact Br _ _
   ·exact Am _
  exact I1.zb hle (I1.bD.fresh hle)
 ·obtain⟨ar,rx,tx,_⟩:=I1.tuple hx;have l1:a < s1.heap.objs.size:=let ⟨_,e,_⟩:=tx;Ao e;refine Jb tx fun h' ze hi k=>?_;refine CP ze ?_;refine⟨_,_,_,_,H1,rfl,I1.kept (t':=s1.toks) k,K4 d1 (AJ (Ax l1 (Br _ 1))) (AJ l1),⟨⟨_,ze⟩,hi⟩,fun c hc=>?_,q⟩;have hle:s1.heap.objs.size<=c:=by
   simp only [Av,Bs,or_false] at hc;rcases hc with rfl | rfl
   ·exact Br _ _
   ·exact Am _
  exact I1.zb hle (I1.bD.fresh hle)
def kS:List PV->List PV->List PV
 | x::l,y::m=>.tup [x,y]::kS l m
 | _,_=>[]
theorem sV:∀{l m:List PV}{i:Nat}{p:PV},(kS l m)[i]?=some p->∃x y,l[i]?=some x/\m[i]?=some y/\p=.tup [x,y]
 | [],m,i,p,h=>by simp [kS] at h
 | x::l,[],i,p,h=>by simp [kS] at h
 | x::l,y::m,0,p,h=>by simp [kS] at h;subst h;exact⟨x,y,rfl,rfl,rfl⟩
 | x::l,y::m,i+1,p,h=>by
  obtain⟨u,w,h1,h2,h3⟩:=sV (l:=l) (m:=m) (i:=i) (p:=p) (by simpa [kS] using h);exact⟨u,w,by simpa using h1,by simpa using h2,h3⟩
end
end
section
variable {K:Aa}
section
def Kj:M2:=aI fun i j=>.int (i+j)
def OL {g:Int->Int->Int}:M2.Ok K (ipI g) (aI fun i j=>.int (g i j)):=by
 intro ι H h u v x y Q hr hu hv q;unfold aI at q;dsimp only at q;revert q
 split
 ·intro q;cases hu;cases hv;exact⟨_,_,rfl,rfl,q ι _ H (Go.refl _ _) hr (.int _)⟩
 ·exact Bk
end
end
section
variable {X:Cx}{K:Aa}{b:Expr}{p:Pos}
section
structure JC (X:Cx) (K:Aa) (op:CmpOp) (b:Expr) (m:M2):Prop where
 p:∃r,jE X (compareOp op) r/\M2.Ok K r m
 k:behindInMarks op b=false
def OH:JC X K .Lt b oLt:=⟨⟨_,Zt,Hd fun _ _ _ _=>.bl _⟩,nt _⟩
def ZP:JC X K .LtE b oLe:=⟨⟨_,Zu,Hd fun _ _ _ _=>.bl _⟩,nt _⟩
def Uo:JC X K .Gt b ZC:=⟨⟨_,Zv,Hd fun _ _ _ _=>.bl _⟩,nt _⟩
def ZQ:JC X K .GtE b oGe:=⟨⟨_,Zw,Hd fun _ _ _ _=>.bl _⟩,nt _⟩
def Iy:JC X K .Is b LA:=⟨⟨_,VG,RV⟩,nt _⟩
end
end
theorem G1:∀{l:List PV},wy l=true↔∀x∈l,x.dat=true
 | []=>by simp [wy]
 | x::l=>by rw [wy,AE,G1];simp
section
variable {K:Aa}
section
variable {X:Cx}{a b c e:Expr}
def Pw {ι:List Addr}{H:Hp}{vs:List V}{l:List PV} (h:aH K ι H vs l):vs.isEmpty=l.isEmpty:=by cases h <;> rfl
def aH.rep {ι:List Addr}{H:Hp}{vs:List V}{l:List PV} (h:aH K ι H vs l):∀k:Nat,aH K ι H (Al k vs).flatten (Al k l).flatten
 | 0=>.nil
 | k+1=>by
  rw [Bl,Bl,BS,BS];exact h.append (h.rep k)
def Nw:V->List V->Hp->VK->Prop:=fun x vs H Q=>∃(l:Addr) (ns:List Int) (k:Int),x=.ref l/\vs=[.int k]/\H l=some (.lst (ns.map V.int))/\k∈ns/\xK H l (.lst ((ns.erase k).map V.int)) (Q .aU)
theorem ints_get:∀{us:List Value}{ns:List Int},IntsAre us ns->∀(i:Nat) (hi:i < us.length),∃n t,ns[i]?=some n/\us[i]=.int n t
 | _,_,.nil,i,hi=>by simp at hi
 | _,_,.cons _ _ r,i,hi=>by
  cases i with
  | zero=>exact⟨_,_,rfl,rfl⟩
  | succ i=>exact ints_get r i (by simpa using hi)
theorem OS {k:Int}:∀{ns:List Int}{m:Nat},ns[m]?=some k->ns.idxOf k<=m
 | [],m,h=>by simp at h
 | a::ns,0,h=>by
  have:a=k:=by simpa using h
  subst this;simp
 | a::ns,m+1,h=>by
  have:=OS (ns:=ns) (m:=m) (by simpa using h);rw [List.idxOf_cons];by_cases c:a=k
  ·have:(a==k)=true:=by simpa using c
   rw [this];exact Bd _
  ·have c2:(a==k)=false:=by simpa using c
   rw [c2];exact Nat.succ_le_succ this
theorem xh {α β:Type} (f:α->β):∀(l:List α) (j:Nat),(l.eraseIdx j).map f=(l.map f).eraseIdx j
 | [],_=>rfl
 | a::l,0=>rfl
 | a::l,j+1=>by
  show f a::(l.eraseIdx j).map f=f a::(l.map f).eraseIdx j;rw [xh f l j]
def ZT (k:Int):Value->Bool
 | .int a _=>a==k
 | _=>false
def vH {vs:List V}{us:List Value} (r:Vals vs us):∀j,Vals (vs.eraseIdx j) (us.eraseIdx j):=by
 induction r with
 | nil=>intro j;exact .nil
 | cons h r ih=>
  intro j;cases j with
  | zero=>exact r
  | succ j=>exact .cons h (ih j)
def HY:MB X "list.remove" Nw:=by
 intro pins s σ H x vs v us Q I rx rv h;obtain⟨l,ns,k,rfl,rfl,hH,hk,q⟩:=h;cases rx;obtain⟨u,rfl,ru⟩:=rv.one;obtain⟨t,rfl⟩:=ru;obtain⟨z,ar,n,r,hl,e⟩:=I.qa hH;have hi:=intsAre_of r;have hlen:ns.length=ar.length:=by rw [Af] at hl;omega
 have hj:ns.idxOf k < ns.length:=BA hk;have hej:ns.erase k=ns.eraseIdx (ns.idxOf k):=by rw [List.erase_eq_eraseIdx_of_idxOf rfl]
 refine call_meets F.slot_list_remove ⟨_,e,rfl⟩ F.entry_list_remove (F.args_list_remove_2 _ _) (MeetsSeq.list_remove l ar.toArray n (.int k t) (ZT k) (fun y hy=>?_) (ns.idxOf k) (by rw [Ag];omega) ?_ (fun m hm my=>?_) (by rw [Ag];omega)) ⟨e,?_⟩
 ·have Wt:y∈ar:=by simpa using hy
  obtain⟨i,hi2⟩:=Ct Wt;obtain⟨h1,h2⟩:=Aj.mp hi2;obtain⟨n',t',g1,g2⟩:=ints_get hi i h1;rw [<- h2,g2];exact MeetsSeq.EqGives.int _ _ _ _
 ·have h1:ns.idxOf k < ar.length:=by omega
  obtain⟨n',t',g1,g2⟩:=ints_get hi (ns.idxOf k) h1;have g3:ns[ns.idxOf k]?=some k:=by rw [Ae hj,List.getElem_idxOf hj]
  rw [g3] at g1;cases g1;show ZT k ar.toArray[ns.idxOf k]=true;rw [Dj,g2];simp [ZT]
 ·have h1:m < ar.length:=by rw [Ag] at hm;exact hm
  obtain⟨n',t',g1,g2⟩:=ints_get hi m h1;show ZT k ar.toArray[m]=false;rw [Dj,g2];have:n'≠k:=fun z=>by
   subst z;have:=OS g1;omega
  simp [ZT,this]
 ·refine⟨.aU,_,I.Ic (its':=ar.eraseIdx (ns.idxOf k)) (ys:=(ns.erase k).map V.int) hH e (by simp [Array.toList_eraseIdxIfInBounds,<- Array.toList_inj]) ?_ ?_,rfl,q.at⟩
  ·rw [hej,xh];exact vH r _
  ·rw [hej,Af,List.length_eraseIdx]
   split <;> omega
theorem j5 {ι:List Addr}{H:Hp}:∀{ns:List Int}{vs:List V},aH K ι H vs (ns.map PV.int)->vs=ns.map V.int
 | [],_,h=>by cases h;rfl
 | b::bs,_,h=>by
  cases h with
  | cons x t=>cases x;rw [j5 t];rfl
theorem oT (ι:List Addr) (H:Hp):∀ns:List Int,aH K ι H (ns.map V.int) (ns.map PV.int)
 | []=>.nil
 | n::ns=>.cons (.int n) (oT ι H ns)
def Vf (K:Aa):List V->Hp->VK->Prop:=fun xs H Q=>∃(p:Addr) (ns:List Int),xs=[.ref p]/\cT K H p (ns.map V.int)/\ns.length < 64/\∀ms:List Int,ms.Perm ns->ms.Pairwise (·<=·)->nu H (.lst (ms.map V.int)) Q
def IZ (K:Aa) (hK:X.K=K):bL X (.builtin "sorted") (Vf K):=by
 subst hK;intro pins s σ H xs us Q I r h;obtain⟨p,ns,rfl,hq,h64,q⟩:=h;obtain⟨u,rfl,rx⟩:=vals1 r;cases rx;obtain⟨ar,r',pl,hz⟩:=I.list hq;have hi:=intsAre_of r';have hl:=r'.length;rw [Af] at hl hz;refine PyProof.Rows.sorted_ints pl.isList hi (by omega) fun out ms a1 a2 a3=>?_;obtain⟨e,he⟩:=sortedAll_at s.heap ar out;refine⟨.ref (s.heap.objs.size+1),_,I.laid (t':=s.toks) (fun _ _=>sortedAll_old) (Nat.le_succ _) (show bh X.prog X.w _ _ _ (.lst (ms.map V.int)) from⟨?_,out.toList,e,pO a1,?_⟩),rfl,(q ms a2 a3).at _ (I.bD.fresh (Nat.le_succ _))⟩
 ·rw [Af,a2.length_eq];exact hz
 ·rw [Array.toArray_toList];exact he
end
end
end PL
namespace L2
open PySem PySem.Spec PyProof.Rows
def nA {prog:Program}{w:World}{A:Around}{E:Value->Shared->Prop}{s:Shared}{a:Addr}{o:Obj}{xs:Array Value}{k:Nat}{name:Str}{Q:Option Value->Shared->Prop}
  (hx:s.heap.get? a=some o) (hc:o.cls=.type "list") (lK:o.data=.seq xs k) (hd:o.dict=none) (Z8:typeLookup (.type "list") name=pure none) (Z7:(["__module__","__name__","__qualname__","__doc__","__annotations__"]:List Str).contains name=false) (hA:A.handled=none)
  (h:∀h' tk e,Heap.NewExcOf s.heap h' e "AttributeError"->Q none {s with heap:=h',toks:=tk}) (hsz:name.length+100<=sizeLine:=by size_fits) :
  wpAny (model prog w) A (getAttr? (.ref a) name) Q E s:=by
 obtain⟨c,dct,dat,sl⟩:=o;simp only at hc lK hd;subst hc lK hd;obtain⟨hp,g,d,tk,os⟩:=s;have hT:∀tk',(⟨hp,g,d,tk',os⟩:Shared).TypeIs (.ref a) "list":=fun _=>⟨_,hx,rfl⟩;have f1:=sub_AttributeError;have f3:=CA.lookup;have f4:=CA.bind (.ref a);have f5:=am_list_getattr_none;unfold getAttr? getAttrBy? getAttrBy
 repeat (any_goals (first | assumption | exact hT _ | ((with_reducible show wpAny _ _ (call (Value.builtin "list.__getattribute__") _ _) _ _ _);refine call_meets CA (hT _) am_entry_list_getattribute (F.args_list_getattribute_2 _ _) (meets_getattribute_miss_list a xs k sl name _ Z8 Z7 hsz) ⟨hx,hA,fun h' tk' e Fy=>?_⟩) | wp_step))
 obtain⟨t',u',he⟩:=Fy.there;show wpAny _ _ (getattributeRaised _ _ _ _ _ _ _) _ _ _;unfold getattributeRaised
 repeat (any_goals (first | assumption | wp_step))
 exact h _ _ _ Fy.of
def iI:entryFor table "dict.update.loop"=some Builtin.«dict.update.loop»:=entryFor_of_fast (by kernel_rfl)
def c9:plainId "dict.update.loop"=true:=by decide +kernel
section
variable {prog:Program}{w:World}{K:Type} [DecidableEq K] {knd:KeyKind prog w K}{A:Around}{R:Result->Shared->Prop}
def zX (knd:KeyKind prog w K) (h:Heap) (it d:Addr) (v:Value) (x:List K×Addr×Value):Prop:=
 ∃pa o n,v=.ref pa/\pa≠it/\pa≠d/\x.2.1≠it/\x.2.1≠d/\h.get? pa=some o/\o.cls=.type "tuple"/\o.data=.seq #[.ref x.2.1,x.2.2] n/\(tupleKind knd).is h x.1 x.2.1
def xO {h h':Heap}{k:List K}{b:Addr} (x:(tupleKind knd).is h k b) (kp:∀o,h.get? b=some o->h'.get? b=some o):(tupleKind knd).is h' k b:=by
 obtain⟨o,ar,n,h1,h2⟩:=x;exact⟨o,ar,n,kp _ h1,h2⟩
def zX.keep {h h':Heap}{it d:Addr}{v:Value}{x:List K×Addr×Value} (p:zX knd h it d v x) (kp:∀b o,b≠it->b≠d->h.get? b=some o->h'.get? b=some o):zX knd h' it d v x:=by
 obtain⟨pa,o,n,e,n1,n2,n3,n4,h1,h2,h3,h4⟩:=p;exact⟨pa,o,n,e,n1,n2,n3,n4,kp _ _ n1 n2 h1,h2,h3,xO h4 fun o q=>kp _ _ n3 n4 q⟩
def zr {h h':Heap}{it d:Addr}{xs:List (List K×Addr×Value)} (m:h.DictOfH (tupleKind knd) d xs) (hd:d≠it) (hx:∀x∈xs,x.2.1≠it) (kp:∀b o,b≠it->h.get? b=some o->h'.get? b=some o):h'.DictOfH (tupleKind knd) d xs:=by
 obtain⟨o,es,ep,ho,hc,hd',he,his,hn⟩:=m;exact⟨o,es,ep,kp _ _ hd ho,hc,hd',he,fun x q=>xO (his x q) fun o z=>kp _ _ (hx x q) z,hn⟩
def FP {xs:List (List K×Addr×Value)}{k:List K}{b:Addr}{v:Value}{it:Addr} (hx:∀x∈xs,x.2.1≠it) (hb:b≠it):∀x∈storedH xs k b v,x.2.1≠it:=by
 intro x q;unfold storedH at q
 split at q
 ·obtain⟨y,hy,rfl⟩:=AB.mp q;have e:(putAt k v y).2.1=y.2.1:=by unfold putAt;split <;> rfl
  rw [e];exact hx y hy
 ·rcases A2.mp q with q | q
  ·exact hx x q
  ·rw [Ba.mp q];exact hb
def FQ {xs:List (List K×Addr×Value)}{k:List K}{b:Addr}{v:Value}:(storedH xs k b v).length<=xs.length+1:=by
 unfold storedH
 split <;> simp
def FH (hA:A.handled=none) (hu:A.units+1 < cLine) {d it l:Addr}{items:Array Value} (hz:items.size+items.size<=sizeLine) (hdi:d≠it) (hli:l≠it) (hld:l≠d) :
  ∀(k i:Nat) (ys xs:List (List K×Addr×Value)) (s:Shared),items.size-i=k->i<=items.size->ys.length=items.size-i->xs.length<=i->s.heap.IsListIter it l i->s.heap.IsList l items->s.heap.DictOfH (tupleKind knd) d xs->(∀x∈xs,x.2.1≠it)->
   (∀j x,ys[j]?=some x->∃v,items[i+j]?=some v/\zX knd s.heap it d v x)->
   (∀h' tk,h'.DictOfH (tupleKind knd) d (ys.foldl (fun a y=>storedH a y.1 y.2.1 y.2.2) xs)->(∀b o,b≠it->b≠d->s.heap.get? b=some o->h'.get? b=some o)->R (.ok (.ret .none)) {s with heap:=h',toks:=tk})->
   codeAny (model prog w) A (.builtin "dict.update.loop" ⟨[.ref d,.ref it,rawInt i,.none],[]⟩) R s:=by
 intro k
 induction k with
 | zero=>
  intro i ys xs s hk hi hy hxl hit hl hd hx hp q;have e0:ys=[]:=Dk (by omega);subst e0;refine codeAny_builtin iI ?_;rw [EW c9 _];show wpAny _ A.in1 (pyNext (.ref it) >>= _) _ _ s;refine Ab (wpAny_pyNext_list_end (A:=A.in1) hA hit hl (by rw [EA];omega) fun h' ex=>?_);show wpAny _ A.in1 (Builtin.Dict.addKeywords d [] >>= _) _ _ _;have kp:∀b o,b≠it->s.heap.get? b=some o->h'.get? b=some o:=ex;exact Ab (Ah (Ah (q h' s.toks (zr hd hdi hx kp) fun b o n1 _ e=>kp b o n1 e)))
 | succ k ih=>
  intro i ys xs s hk hi hy hxl hit hl hd hx hp q;have my:i < items.size:=by omega
  match ys,hy,hp,q with
  | [],hy,_,_=>exact absurd hy (by simp only [BG];omega)
  | y::ys,hy,hp,q=>
  obtain⟨v,hv,pa⟩:=hp 0 y rfl;refine codeAny_builtin iI ?_;rw [EW c9 _];show wpAny _ A.in1 (pyNext (.ref it) >>= _) _ _ s;refine Ab (wpAny_pyNext_list_item hit hl (by simpa using hv) fun h1 adH sb=>?_);have Sf:∀b o,b≠it->s.heap.get? b=some o->h1.get? b=some o:=fun b o hb e=>(sb.2 b hb).trans e;have pa1:=pa.keep fun b o n1 _ e=>Sf b o n1 e;have hd1:=zr hd hdi hx Sf;have hl1:h1.IsList l items:=let ⟨o,e,p⟩:=hl;⟨o,Sf _ _ hli e,p⟩;obtain⟨p,o,n,rfl,n1,n2,n3,n4,g1,g2,g3,g4⟩:=pa1;show wpAny _ A.in1 (holding [Aw p] _ >>= _) _ _ _;refine Ab (Bi (Ab (wpAny_tryCatch ?_)));unfold Builtin.Dict.pairItems;refine Ab (B9 (T:="tuple") ⟨_,g1,g2⟩ ?_);rw [if_pos (by decide)];refine Ab (Bu g1 g3 (Ah ?_));show wpAny _ A.in1 (holding [Aw y.2.1,y.2.2] (dictSet d (.ref y.2.1) y.2.2)) _ _ _;refine Bi (wpAny_dictSet_heap (knd:=tupleKind knd) (tupleKind_room_in1 hu) g4 hd1 (fun h2 hd2 sb2=>?_) (by omega));have kp2:∀b o,b≠d->h1.get? b=some o->h2.get? b=some o:=fun b o hb e=>(sb2.2 b hb).trans e;refine Ah ⟨plainId_quiet c9 _,?_⟩;have ei:((i:Int)+1)=((i+1:Nat):Int):=by omega
  have kp:∀b o,b≠it->b≠d->s.heap.get? b=some o->h2.get? b=some o:=fun b o a1 a2 e=>kp2 _ _ a2 (Sf _ _ a1 e);show codeAny _ A (.builtin "dict.update.loop" ⟨[.ref d,.ref it,rawInt ((i:Int)+1),.none],[]⟩) R _;rw [ei];refine ih (i+1) ys (storedH xs y.1 y.2.1 y.2.2) _ (by omega) (by omega) (by rw [Aq] at hy;omega) (Bm FQ (by omega)) ?_ ?_ hd2 (FP hx n3) (fun j x hj=>?_) (fun h' tk dd k3=>?_)
  ·obtain⟨o',e1,e2⟩:=adH;exact⟨o',kp2 _ _ (Bw hdi) e1,e2⟩
  ·obtain⟨o',e1,e2⟩:=hl1;exact⟨o',kp2 _ _ hld e1,e2⟩
  ·obtain⟨v',h3,h4⟩:=hp (j+1) x hj;exact⟨v',by rw [show i+1+j=i+(j+1) by omega];exact h3,h4.keep kp⟩
  ·exact q h' tk dd fun b o a1 a2 e=>k3 b o a1 a2 (kp b o a1 a2 e)
end
def yF:typeLookup (.type "list") (B8 "keys")=pure none:=am_miss_of_fast (by decide +kernel)
section
variable {prog:Program}{w:World}{K:Type} [DecidableEq K] {knd:KeyKind prog w K}{A:Around}{E:Value->Shared->Prop}{s:Shared}
def rZ {l:Addr}{o:Obj}{items:Array Value}{n:Nat}{ys:List (List K×Addr×Value)}{Q:Value->Shared->Prop} (hA:A.handled=none) (hu:A.units+2 < cLine) (ho:s.heap.get? l=some o) (hc:o.cls=.type "list") (lK:o.data=.seq items n) (hd:o.dict=none)
  (hz:items.size+items.size<=sizeLine) (hy:ys.length=items.size)
  (hp:∀(j:Nat) (x:List K×Addr×Value),ys[j]?=some x->∃(pa:Addr) (op:Obj) (m:Nat),items[j]?=some (Aw pa)/\s.heap.get? pa=some op/\op.cls=.type "tuple"/\op.data=.seq #[Aw x.2.1,x.2.2] m/\(tupleKind knd).is s.heap x.1 x.2.1)
  (q:∀h' tk,(∀b o,s.heap.get? b=some o->h'.get? b=some o)->h'.DictOfH (tupleKind knd) s.heap.objs.size (ys.foldl (fun a y=>storedH a y.1 y.2.1 y.2.2) [])->Q (.ref s.heap.objs.size) {s with heap:=h',toks:=tk}) :
  wpAny (model prog w) A (call (.type "dict") [.ref l]) Q E s:=by
 refine callType_codes (Q₁:=fun obj s₁=>obj=.ref s.heap.objs.size/\s₁={s with heap:=s.heap.push {cls:=.type "dict",data:=.dict #[]}}) F.kt_called_dict (F.kt_typeCall_dict_1 _) F.entry_dict_init (kt_code_dict_new _ ⟨rfl,rfl⟩) ?_;rintro obj s₁ ⟨rfl,rfl⟩;have kp0:∀b o,s.heap.get? b=some o->(s.heap.push {cls:=.type "dict",data:=.dict #[]}).get? b=some o:=fun b o e=>Ak _ e;have SG:(s.heap.push {cls:=.type "dict",data:=.dict #[]}).DictOf knd s.heap.objs.size []:=Heap.DictOf.new s.heap;have Z6:(s.heap.push {cls:=.type "dict",data:=.dict #[]}).DictOfH (tupleKind knd) s.heap.objs.size []:=⟨_,#[],0,An _ rfl,⟨rfl,rfl,rfl⟩,rfl,rfl,fun x hx=>absurd hx (Bs),EZ⟩;have ls:∀b o,s.heap.get? b=some o->b≠s.heap.objs.size:=fun b o e z=>by subst z;exact AX _ (Ao e)
 refine⟨SG.typeIs,F.args_dict_init_2 _ _,?_⟩;unfold Builtin.«dict.__init__»;refine Ab ?_;unfold Builtin.Dict.selfAndRest;refine Ab (wpAny_notOrdered_dict SG.typeIs ?_);show wpAny _ _ (pure (s.heap.objs.size,[Aw l])) _ _ _;refine Ah ?_;show wpAny _ _ (Builtin.Dict.updateFrom "dict.__init__" s.heap.objs.size (.ref l) [] .none) _ _ _;unfold Builtin.Dict.updateFrom;refine Ab (B9 (T:="list") ⟨_,kp0 _ _ ho,hc⟩ ?_);rw [if_pos (by decide)];refine Ab (nA (kp0 _ _ ho) hc lK hd yF (by decide +kernel) hA (fun h1 tk e nx=>?_) (by decide));rw [if_pos (by rfl)];refine Ab (CF (Ab ?_));refine Cr (items:=items) ⟨_,nx.keeps _ _ (kp0 _ _ ho),hc,n,lK⟩ ?_;have hsz:s.heap.objs.size < h1.objs.size:=Ao (nx.keeps _ _ (An s.heap rfl));have Sf:∀b o,s.heap.get? b=some o->(h1.push {cls:=.type "list_iterator",data:=.fields #[.ref l,.int 0 0]}).get? b=some o:=fun b o e=>Ak _ (nx.keeps _ _ (kp0 _ _ e));have ni:∀b o,s.heap.get? b=some o->b≠h1.objs.size:=fun b o e z=>by
  have h3:=Ao e;subst z;exact AX _ (Nat.lt_trans h3 hsz)
 refine Ah ⟨plainId_quiet c9 _,?_⟩;refine FH (A:=A.in1) (knd:=knd) hA (by show A.units+1+1 < _;omega) (items:=items) (d:=s.heap.objs.size) (it:=h1.objs.size) (l:=l) hz (AJ hsz) (ni _ _ ho) (ls _ _ ho) items.size 0 ys [] _ (Et _) (Bd _) (by rw [hy];rfl) (Am _)
  ⟨_,An _ rfl,rfl,rfl⟩ ⟨_,Sf _ _ ho,hc,n,lK⟩ ?_ (fun x hx=>nomatch hx) (fun j x hj=>?_) (fun h' tk' dd kp=>?_)
 ·refine zr (it:=h1.objs.size) Z6 (AJ hsz) (fun x hx=>nomatch hx) fun b o _ e=>Ak _ (nx.keeps _ _ e)
 ·obtain⟨pa,op,m,e1,e2,e3,e4,e5⟩:=hp j x hj;have kb:∃ob,s.heap.get? x.2.1=some ob:=let ⟨ob,_,_,z,_⟩:=e5;⟨ob,z⟩;obtain⟨ob,eb⟩:=kb;exact⟨.ref pa,by rw [AU];exact e1,pa,op,m,rfl,ni _ _ e2,ls _ _ e2,ni _ _ eb,ls _ _ eb,Sf _ _ e2,e3,e4,xO e5 fun o z=>Sf _ _ z⟩
 ·exact⟨rfl,q h' tk' (fun b o e=>kp b o (ni _ _ e) (ls _ _ e) (Sf _ _ e)) dd⟩
end
structure Pz where
 pa:Addr
 k:List Key
 b:Addr
 v:V
def Pz.At (H:Hp) (z:Pz):Prop:=H z.pa=some (.tup [.ref z.b,z.v])/\H z.b=some (.tup (z.k.map kV))
def Vn (K:Aa):List V->Hp->VK->Prop:=fun xs H Q=>∃(p:Addr) (zs:List Pz),xs=[.ref p]/\cT K H p (zs.map fun z=>.ref z.pa)/\(∀z∈zs,z.At H)/\(zs.map (·.k)).Nodup/\zs.length<=1000/\nu H (.dT (zs.map fun z=>(z.k,z.v))) Q
theorem qY {K:Type} [DecidableEq K]:∀(ys xs:List (K×Addr×Value)),((xs++ys).map (·.1)).Nodup->ys.foldl (fun a y=>storedH a y.1 y.2.1 y.2.2) xs=xs++ys
 | [],xs,_=>by simp
 | y::ys,xs,h=>by
  have hn:atKey xs y.1=none:=by
   cases e:atKey xs y.1 with
   | none=>rfl
   | some p=>
    exfalso;rw [A1,Au] at h;have h2:=(CZ.mp h).2.2;have hm:y.1∈xs.map (·.1):=by
     by_cases hc:y.1∈xs.map (·.1)
     ·exact hc
     ·rw [atKey_none_of_get (fun j q hj=>?_)] at e
      ·cases e
      ·exact hc (AB.mpr ⟨_,A5 hj,rfl⟩)
    exact h2 _ hm _ Bp rfl
  rw [List.foldl_cons,storedH_new hn,qY ys (xs++[(y.1,y.2.1,y.2.2)]) (by simpa using h)];simp
section
variable {X:Cx}
def Jc (K:Aa) (hK:X.K=K) (hc:X.calm=true) (hu:X.A.units+2 < cLine):bL X (.type "dict") (Vn K):=by
 subst hK;intro pins s σ H xs us Q I r h;obtain⟨p,zs,rfl,hq,hz,hn,hl,q⟩:=h;obtain⟨u,rfl,rx⟩:=vals1 r;cases rx;obtain⟨ar,rv,pl,hsz⟩:=I.list hq;obtain⟨o,n,ho,XR,hd,lK⟩:=pl;have build:∀(zs:List Pz) (ar:List Value),(∀z∈zs,z.At H)->Vals (zs.map fun z=>V.ref z.pa) ar->∃ys:List (List Key×Addr×Value),ys.map (·.1)=zs.map (·.k)/\KT H (zs.map fun z=>(z.k,z.v)) ys/\
   ∀(j:Nat) (x:List Key×Addr×Value),ys[j]?=some x->∃(pa:Addr) (op:Obj) (m:Nat),ar[j]?=some (Aw pa)/\s.heap.get? pa=some op/\op.cls=.type "tuple"/\op.data=.seq #[Aw x.2.1,x.2.2] m/\(tupleKind (bI X.prog X.w)).is s.heap x.1 x.2.1:=by
  intro zs
  induction zs with
  | nil=>intro ar _ _;exact⟨[],rfl,.nil,fun j x h=>by simp at h⟩
  | cons z zs ih=>
   intro ar ha hv;cases hv with
   | @cons _ u _ us ru rus=>
   cases ru;obtain⟨ys,e1,e2,e3⟩:=ih us (fun y hy=>ha y (AW _ hy)) rus;obtain⟨a1,a2⟩:=ha z Bp;obtain⟨_,its',r',op,h1,h2,m,h3⟩:=(show bh X.prog X.w H s.heap z.pa (.tup [.ref z.b,z.v]) from I.bD _ _ a1);obtain⟨w,rfl,iU⟩:∃w,its'=[Aw z.b,w]/\RelV z.v w:=by
    cases r' with
    | cons q1 q2=>cases q1;cases q2 with
     | cons q3 q4=>cases q4;exact⟨_,rfl,q3⟩
   refine⟨(z.k,z.b,w)::ys,by rw [Au,Au,e1],.cons ⟨rfl,a2,iU⟩ e2,fun j x hj=>?_⟩;cases j with
   | zero=>
    cases hj;exact⟨z.pa,op,m,rfl,h1,h2,h3,uq I.bD a2⟩
   | succ j=>exact e3 j x hj
 obtain⟨ys,e1,e2,e3⟩:=build zs ar hz rv;have hlen:=rv.length;rw [Af] at hlen;have hyl:ys.length=zs.length:=by have:=congrArg BH e1;simpa using this
 have hs:(1000:Nat)+1000<=sizeLine:=by decide
 refine rZ (knd:=bI X.prog X.w) (items:=ar.toArray) (ys:=ys) (I.ok.hd hc) hu ho XR lK hd (by rw [Ag];omega) (by rw [Ag];omega) (fun j x hj=>?_) (fun h' tk kp dd=>?_)
 ·obtain⟨pa,op,m,g1,g2⟩:=e3 j x hj;exact⟨pa,op,m,by rw [EO];exact g1,g2⟩
 ·rw [qY ys [] (by rw [CC,e1];exact hn),CC] at dd;obtain⟨od,es,ep,hq',h2,h3,h4,_,h5⟩:=dd;have adR:(s.heap.objs.size==sysModules)=false:=beq_eq_false_iff_ne.mpr (Bw (AJ I.big));have fr:=I.bD.fresh (Am s.heap.objs.size);refine⟨.ref s.heap.objs.size,_,I.laid (t':=tk) kp (Am _) (show bh X.prog X.w (upd H s.heap.objs.size (.dT (zs.map fun z=>(z.k,z.v)))) h' _ (.dT _) from⟨?_,adR,ys,?_,od,es,ep,hq',h2,h3,h4,h5⟩),rfl,q.at _ fr⟩
  ·rw [Af];exact Bm hl (by decide)
  ·refine e2.keeps fun c xs ec=>?_;rw [av (fun z=>by subst z;rw [fr] at ec;cases ec)];exact ec
end
section
variable {prog:Program}{w:World}{A:Around}{E:Value->Shared->Prop}{s:Shared}
def Tz (h:Heap) (d:Addr) (es:Array DictEntry) (ep:Nat):Prop:=∃o,h.get? d=some o/\o.ExactDict/\o.data=.dict es ep
def Kf:Builtin.Dict_items.ownsTuple "dict_keyiterator"=false:=by decide
def N7 {it d:Addr}{i ep:Nat}{es:Array DictEntry}{Q:Option Value->Shared->Prop} (hit:s.heap.IsKeyIter it d i es.size ep) (hm:Tz s.heap d es ep) (hi:i < es.size)
  (q:∀h',h'.IsKeyIter it d (i+1) es.size ep->BZ it s.heap h'->Q (some es[i].key) {s with heap:=h'}):wpAny (model prog w) A (pyNext (.ref it)) Q E s:=by
 have ty:=hit.typeIs;obtain⟨o,ho,hc,hd⟩:=id hit;obtain⟨od,SE,-,Us⟩:=hm;have aad:(s.heap.update it (Obj.mapFields (·.setIfInBounds 1 (rawInt ((i:Int)+1))))).IsKeyIter it d (i+1) es.size ep:=⟨_,Co _ ho (EK (CD hd _)),(Obj.cls_mapFields ..).trans hc,by rw [CD hd];simp [rawInt]⟩;unfold pyNext;refine Ab (CB (AM (name:=B8 "__next__") ty Bv (Bf Bv ty Dc ?_ (C3 _))));refine Ab (Ah (Ab (Ab ?_)))
 first | refine Ab (BQ ty (Ah ?_)) | refine Ab (Cc ty (Ah ?_))
 refine Ab (wpAny_fieldsOf ho hd ?_);rw [Kf];show wpAny _ _ (if (Aw d==Be)=true then _ else _) _ _ s;rw [if_neg (fun z:(Aw d==Be)=true=>AI z)];refine Ab (Ah (Ab (DZ SE Us ?_)));rw [if_neg (by simp)];refine Ab (Ah (Ab (EG SE Us ?_)));rw [if_neg (by simp)];refine Ah ?_;have i0:¬((i:Int) < 0):=by omega
 simp only [i0,if_false,AR,Cw hi];refine Ab ?_
 first | refine Ab (BQ ty (Ah ?_)) | refine Ab (Cc ty (Ah ?_))
 refine Ab (wpAny_isOneOf_keyiter ty ?_);show wpAny _ _ (setField (.ref it) 1 (rawInt ((i:Int)+1)) >>= _) _ _ s;refine Ab (DK ho hd (by simp) (Ab (Bi (Ab (wpAny_isOneOf_keyiter (s:={s with heap:=s.heap.update it (Obj.mapFields (·.setIfInBounds 1 (rawInt ((i:Int)+1))))}) aad.typeIs ?_)))));show wpAny _ _ (pure es[i].key) _ _ _;exact Ah (Ah ⟨_,rfl,Ah (q _ aad (BZ.update ..))⟩)
def S5 {it d:Addr}{i ep:Nat}{es:Array DictEntry}{Q:Option Value->Shared->Prop} (hh:A.handled=none) (hit:s.heap.IsKeyIter it d i es.size ep) (hm:Tz s.heap d es ep) (hi:es.size<=i)
  (q:∀h',Ft it s.heap h'->Q none {s with heap:=h'}):wpAny (model prog w) A (pyNext (.ref it)) Q E s:=by
 have ty:=hit.typeIs;obtain⟨o,ho,hc,hd⟩:=id hit;obtain⟨od,SE,-,Us⟩:=hm;unfold pyNext;refine Ab (CB (AM (name:=B8 "__next__") ty Bv (Bf Bv ty Dc ?_ (C3 _))));refine Ab (Ah (Ab (Ab ?_)))
 first | refine Ab (BQ ty (Ah ?_)) | refine Ab (Cc ty (Ah ?_))
 refine Ab (wpAny_fieldsOf ho hd ?_);rw [Kf];show wpAny _ _ (if (Aw d==Be)=true then _ else _) _ _ s;rw [if_neg (fun z:(Aw d==Be)=true=>AI z)];refine Ab (Ah (Ab (DZ SE Us ?_)));rw [if_neg (by simp)];refine Ab (Ah (Ab (EG SE Us ?_)));rw [if_neg (by simp)];refine Ah ?_;have i0:¬((i:Int) < 0):=by omega
 simp only [i0,if_false,AR,EA hi];refine Ab ?_
 first | refine Ab (BQ ty (Ah ?_)) | refine Ab (Cc ty (Ah ?_))
 show wpAny _ _ (setField (.ref it) 0 .none >>= _) _ _ s;refine Ab (DK ho hd (by simp) ?_);show wpAny _ _ (newExc (.type "StopIteration") [] >>= _) _ _ _;refine Ab ?_;unfold newExc newTuple;refine Ab (Bh (Ab (m:=firstArgMember _ _) (Ci (a:=Be) (by first | rfl | (simp only [firstArgMember];rfl)) (Bh ?_ (by size_fits)))) (by size_fits));unfold raiseNew;refine Ab (wpAny_handled ?_);rw [show A.in1.handled=none from hh];refine Ab (Ah (wpAny_throw ?_));refine Ab (C5 (T:="StopIteration") (b:=true) ⟨_,An _ rfl,rfl⟩ isSubtype_stop ?_);exact Ah (q _ (((BZ.update ..).extBut.push _).push _))
def OJ {d:Addr}{es:Array DictEntry}{ep:Nat}{Q:Value->Shared->Prop} (hs:(d==sysModules)=false) (hm:Tz s.heap d es ep)
  (q:Q (.ref s.heap.objs.size) {s with heap:=s.heap.push {cls:=.type "dict_keyiterator",data:=.fields #[.ref d,.int 0 0,.int es.size 0,.int ep 0]}}):wpAny (model prog w) A (pyIter (.ref d)) Q E s:=by
 obtain⟨od,SE,hx,Us⟩:=hm;have ty:s.TypeIs (.ref d) "dict":=⟨_,SE,hx.1⟩;refine wpAny_pyIter_slot ty F.slot_dict_iter (Bf F.slot_dict_iter ty F.entry_dict_iter ?_ (F.args_dict_iter_1 _));unfold Builtin.«dict.__iter__»;refine Ab ?_;unfold Builtin.Dict.dictSlotNone;refine Ab (wpAny_notOrdered_dict ty ?_);show wpAny _ _ (pure (Aw d)) _ _ s;refine Ah ?_;show wpAny _ _ (Builtin.Dict.showsAll d >>= _) _ _ s;unfold Builtin.Dict.showsAll;rw [if_neg (by rw [hs];exact AI)];refine Ab (Ah (Ab (DZ SE Us (Ab (EG SE Us ?_)))));exact Ab (Bh (Ah ⟨_,rfl,"dict_keyiterator",_,⟨_,An _ rfl,rfl⟩,Bv.lookup,q⟩))
end
section
variable {X:Cx}{pins:List (Addr×Obj)}{σ:St}{H:Hp}{s:Shared}{a:Addr}{kvs:List (List Key×V)}
def Inv.freeze (I:Inv X pins σ H s) (e:H a=some (.dT kvs)):∃o,Inv X pins σ (upd H a (.c7 o (.dT kvs))) s:=by
 obtain⟨z,hs,xs,r,o,es,ep,h1,h2,h3,h4,h5⟩:=(show bh X.prog X.w H s.heap a (.dT kvs) from I.bD a _ e);refine⟨o,?_⟩;have q:=I.write (x:=a) (e:=a) (o:=.c7 o (.dT kvs)) (h':=s.heap) (t':=s.toks) (by rw [e];exact BK) (.inl rfl) (fun b u _ z=>z) ⟨o,h1⟩
  ⟨h1,z,hs,xs,KT.keeps r fun b ys eb=>by rw [av (J4 eb e (fun z=>nomatch z))];exact eb,o,es,ep,h1,h2,h3,h4,h5⟩
 exact q
def Inv.Yz {o:Obj}{u:HO} (I:Inv X pins σ H s) (e:H a=some (.c7 o u)) (h0:∀o u,X.H₀ a≠some (.c7 o u)) (hu:bh X.prog X.w (upd H a u) s.heap a u) (bD:mH X.prog X.w (upd H a u) s.heap):Inv X pins σ (upd H a u) s:=by
 have ne:∀b v,H b=v->v≠some (.c7 o u)->b≠a:=fun b v q n z=>by subst z;exact n (q.symm.trans e)
 refine⟨I.ok,I.os,I.bare,⟨I.base.keep,I.base.slot,fun b ob q n hx=>?_,I.base.there,fun b xs q=>?_,fun b ob xs q=>?_,fun b ps q=>?_⟩,I.loc,I.cell,?_,fun x c q=>?_,fun p hp=>?_,bD,I.len⟩
 ·have:=I.base.free b ob q n hx;rw [av (ne b _ this (by simp))];exact this
 ·have:=I.base.eT b xs q;rw [av (ne b _ this (by simp))];exact this
 ·have:=I.base.rT b ob xs q;have hb:b≠a:=fun z=>by subst z;exact h0 _ _ q
  rw [av hb];exact this
 ·obtain⟨m,this⟩:=I.base.xQ b ps q;exact⟨m,by rw [av (ne b _ this (by simp))];exact this⟩
 ·rw [av (ne _ _ I.free (by simp))];exact I.free
 ·rw [av (ne _ _ (I.kQ x c q) (by simp))];exact I.kQ x c q
 ·obtain⟨p1,p2,p3⟩:=I.pin p hp;exact⟨p1,by rw [av (ne _ _ p2 (by simp))];exact p2,p3⟩
end
def aa8 (a:Addr) (o:Obj):It:=
 ⟨fun i H=>∃kvs,H a=some (.c7 o (.dT kvs))/\i < kvs.length,fun i H x H'=>H'=H/\∀kvs,H a=some (.c7 o (.dT kvs))->∃b k v,x=.ref b/\kvs[i]?=some (k,v)/\H b=some (.tup (k.map kV)),fun i H=>∃kvs,H a=some (.c7 o (.dT kvs))/\kvs.length<=i⟩
def Pc {P:Program}{w:World}{H:Hp}{h:Heap}{a:Addr}{o:Obj}{kvs:List (List Key×V)}{es:Array DictEntry}{ep:Nat} (x:bh P w H h a (.c7 o (.dT kvs))) (hd:o.data=.dict es ep) :
  Tz h a es ep/\es.size=kvs.length/\∀(i:Nat) (hi:i < es.size),∃b k v,es[i].key=.ref b/\kvs[i]?=some (k,v)/\H b=some (.tup (k.map kV)):=by
 obtain⟨e,z,hs,xs,r,o',es',ep',h1,h2,h3,h4,h5⟩:=x;rw [e] at h1;cases h1;rw [hd] at h3;cases h3;have hl:es.size=xs.length:=by have:=congrArg BH h4;simpa using this
 refine⟨⟨o,e,h2,hd⟩,hl.trans (Paired.length r).symm,fun i hi=>?_⟩;have hx:xs[i]?=some (xs[i]'(by omega)):=Ae _;have pg:∀{l:List (List Key×V)}{m:List (List Key×Addr×Value)}{i:Nat}{q:List Key×Addr×Value},KT H l m->m[i]?=some q->∃v,l[i]?=some (q.1,v)/\H q.2.1=some (.tup (q.1.map kV)):=by
  intro l m i q t
  induction t generalizing i with
  | nil=>intro h;simp at h
  | @cons p q' ps qs hq t ih=>
   intro h;cases i with
   | zero=>
    cases h;obtain⟨p1,p2⟩:=p;have e1:p1=q.1:=hq.1;subst e1;exact⟨p2,rfl,hq.2.1⟩
   | succ i=>exact ih (by simpa using h)
 obtain⟨v,g1,g2⟩:=pg r hx;refine⟨_,_,v,?_,g1,g2⟩;have:es[i]=entryOfKey (tupleKind (bI P w)) (xs[i]'(by omega)):=by
  have h6:es.toList[i]?=some (entryOfKey (tupleKind (bI P w)) (xs[i]'(by omega))):=by rw [h4,Ai,hx];rfl
  rw [ER,Cw hi] at h6;exact Option.some.inj h6
 rw [this];rfl
def K5 {P:Program}{w:World}{K:Aa}{tg:Expr} (a it:Addr) (o:Obj) {es:Array DictEntry}{ep:Nat} (hd:o.data=.dict es ep):Turn P w K tg (aa8 a o) [it] it (fun i h=>h.IsKeyIter it a i es.size ep) where
 mem:=by simp
 obj:=fun i h st b hb=>by
  have e:b=it:=by simpa using hb
  subst e;obtain⟨o,e,c,d⟩:=st;exact⟨o,e,fun v z=>by rw [d] at z;cases z⟩
 keep:=fun i h h' st k=>st.at fun o e=>k it (by simp) o e
 item:=by
  intro X hP hw hK hc i pins s σ H E I hf st hg;subst hP hw hK;obtain⟨kvs,hq,hx⟩:=hg;obtain⟨raw,hl,ky⟩:=Pc (I.bD a _ hq) hd;obtain⟨b,k,v,k1,k2,k3⟩:=ky i (by omega);obtain⟨f0,f1,f2,f3,f4,f5⟩:=hf it (by simp);refine N7 st raw (by omega) fun h' JE sb=>?_;have I1:Inv X pins σ H {s with heap:=h'}:=I.turned (t':=s.toks) (fun b o hb e=>(sb.2 b hb).trans e) f0 f1 f3 f4 f5;obtain⟨oi,e,c,d⟩:=id JE;refine⟨_,rfl,GN (s:={s with heap:=h'}) e c d (by decide) ⟨.ref b,H,I1,k1,⟨rfl,fun agE hq'=>?_⟩,JE,fun b hb=>(hf b hb).1⟩⟩;rw [hq] at hq';cases hq';exact⟨b,k,v,rfl,k2,k3⟩
 done:=by
  intro X hP hw hK hc i pins s σ H E I hf st hg;subst hP hw hK;obtain⟨kvs,hq,hx⟩:=hg;obtain⟨raw,hl,ky⟩:=Pc (I.bD a _ hq) hd;obtain⟨f0,f1,f2,f3,f4,f5⟩:=hf it (by simp);exact S5 (I.ok.hd hc) st raw (by omega) fun h' eb=>⟨rfl,I.turned (t':=s.toks) (fun b o hb e=>eb b o hb e) f0 f1 f3 f4 f5⟩
 self:=fun _ _ _ _ _ st h=>wpAny_pyIter_keyiter st h
def Wr (tl:TE):TI:=fun σ H R=>tl σ H fun x H1=>∃a o kvs,x=.ref a/\H1 a=some (.c7 o (.dT kvs))/\R (aa8 a o) H1
def NP {X:Cx}{tg l:Expr}{tl:TE} (hl:PE X l tl):PI X tg l (Wr tl):=by
 intro pins s σ H R I h;refine bM (hl pins s σ H _ I h) fun v s1 ⟨x,H1,I1,r1,q1⟩=>?_;obtain⟨a,o,kvs,e,hq,q⟩:=q1;subst e;cases r1;obtain⟨eo,z,hs,xs,r,o',es,ep,h1,h2,h3,h4,h5⟩:=(show bh X.prog X.w H1 s1.heap a (.c7 o (.dT kvs)) from I1.bD a _ hq);rw [eo] at h1;cases h1;refine OJ hs ⟨o,eo,h2,h3⟩ ?_;refine⟨s1.heap.objs.size,[s1.heap.objs.size],_,_,H1,rfl,I1.kept (t':=s1.toks) fun b o e=>Ak _ e,K5 a _ o h3,⟨_,An _ rfl,rfl,rfl⟩,fun b hb=>?_,q⟩;have e:b=s1.heap.objs.size:=by simpa using hb
 subst e;exact I1.zb (Am _) (I1.bD.fresh (Am _))
end L2
namespace FL
section
open PySem PySem.Spec PyProof.Rows L2 PL
variable {K:Aa}
structure W (α:Type) where
 run:(α->Prop)->Prop
 mono:∀{Q Q':α->Prop},(∀a,Q a->Q' a)->run Q->run Q'
namespace W
variable {α β γ:Type}
def ext' {a b:W α} (h:∀Q,a.run Q↔b.run Q):a=b:=by
 cases a;cases b;congr;funext Q;exact propext (h Q)
def ret (a:α):W α:=⟨fun Q=>Q a,fun h q=>h _ q⟩
def bind (w:W α) (k:α->W β):W β:=⟨fun Q=>w.run fun a=>(k a).run Q,fun h q=>w.mono (fun a q=>(k a).mono h q) q⟩
def fail:W α:=⟨fun _=>False,fun _ q=>q⟩
def gs (p:Prop) (w:W α):W α:=⟨fun Q=>p/\w.run Q,fun h q=>⟨q.1,w.mono h q.2⟩⟩
def any (p:α->Prop):W α:=⟨fun Q=>∀a,p a->Q a,fun h q a pa=>h a (q a pa)⟩
def yt:Option α->W α
 | some a=>ret a
 | none=>fail
@[simp] theorem ag (a:α) (k:α->W β):bind (ret a) k=k a:=(rfl)
@[simp] theorem bind_assoc (w:W α) (f:α->W β) (g:β->W γ):bind (bind w f) g=bind w fun a=>bind (f a) g:=(rfl)
@[simp] theorem aaZ (w:W α):bind w ret=w:=(rfl)
@[simp] theorem X0 (k:α->W β):bind fail k=fail:=(rfl)
@[simp] theorem ai (a:α) (Q:α->Prop):(ret a).run Q=Q a:=(rfl)
@[simp] theorem run_bind (w:W α) (k:α->W β) (Q:β->Prop):(bind w k).run Q=w.run fun a=>(k a).run Q:=(rfl)
@[simp] theorem Y3 (Q:α->Prop):(fail:W α).run Q=False:=(rfl)
@[simp] theorem abk (p Q:α->Prop):(any p).run Q=∀a,p a->Q a:=(rfl)
@[simp] theorem Rm (p:Prop) (w:W α) (Q:α->Prop):(gs p w).run Q=(p/\w.run Q):=(rfl)
@[simp] theorem Qa (p:Prop) (w:W α) (k:α->W β):bind (gs p w) k=gs p (bind w k):=(rfl)
def aq {p:Prop}{w:W α} (h:p):gs p w=w:=ext' fun Q=>⟨fun q=>q.2,fun q=>⟨h,q⟩⟩
@[simp] theorem aaU {w:W α}:gs True w=w:=aq trivial
@[simp] theorem aA (a:α):yt (some a)=ret a:=(rfl)
@[simp] theorem ZA:yt (none:Option α)=fail:=(rfl)
end W
inductive SL where
 | val (v:PV) | adr (b:Addr) | ol (q:Option Addr) (l:List PV) | so (bs:List Addr) (ls:List (List PV)) | od (kvs:List (Key×PV)) | ot (kvs:List (List Key×PV)) | gF (φ:List V->Prop)
abbrev aV:=List (Option SL)
def SL.own:SL->Bool
 | .val _=>false
 | .adr _=>false
 | _=>true
def SL.qX:SL->List Addr
 | .so bs _=>bs
 | _=>[]
def SL.has (s:SL) (x a:Addr):Prop:=a=x\/a∈s.qX
def iM (K:Aa) (H:Hp) (a:Addr):SL->Prop
 | .val _=>False
 | .adr b=>a=b
 | .so bs ls=>H a=some (.lst (bs.map V.ref))/\a∉bs/\bs.Nodup/\bs.length=ls.length/\∀(j:Nat) (b:Addr) (l:List PV),bs[j]?=some b->ls[j]?=some l->∃ws,H b=some (.lst ws)/\aH K [] H ws l
 | .ol q l=>(∀b,q=some b->a=b)/\∃vs,H a=some (.lst vs)/\aH K [] H vs l
 | .od kvs=>∃vs:List (Key×V),H a=some (.dK vs)/\vs.map (·.1)=kvs.map (·.1)/\aH K [] H (vs.map (·.2)) (kvs.map (·.2))
 | .ot kvs=>∃vs:List (List Key×V),H a=some (.dT vs)/\vs.map (·.1)=kvs.map (·.1)/\aH K [] H (vs.map (·.2)) (kvs.map (·.2))
 | .gF φ=>∃vs,H a=some (.lst vs)/\φ vs
def xy (K:Aa) (H:Hp) (u:V) (s:SL):Prop:=(∃v,s=.val v/\VR K [] H u v)\/∃a,u=.ref a/\iM K H a s
def da (σ:L2.St) (fs:aV) (a:Addr):Prop:=∃(i:Nat) (s:SL) (x:Addr),fs[i]?=some (some s)/\s.own=true/\σ[i]?=some (some (.ref x))/\s.has x a
def fq (σ:L2.St) (fs:aV) (φ:List V->Prop) (a:Addr):Prop:=∃i:Nat,fs[i]?=some (some (.gF φ))/\σ[i]?=some (some (.ref a))
structure aQ (K:Aa) (H:Hp) (σ:L2.St) (fs:aV):Prop where
 len:σ.length=fs.length
 at':∀(i:Nat) (s:SL),fs[i]?=some (some s)->∃u,σ[i]?=some (some u)/\xy K H u s
 nd:∀(i j:Nat) (s t:SL) (x y a:Addr),fs[i]?=some (some s)->fs[j]?=some (some t)->s.own=true->t.own=true->σ[i]?=some (some (.ref x))->σ[j]?=some (some (.ref y))->s.has x a->t.has y a->i=j
structure cK (σ:L2.St) (fs:aV) (H:Hp) (σ':L2.St) (bE:aV) (H':Hp):Prop where
 keep:∀a o,H a=some o->¬da σ fs a->H' a=some o/\¬da σ' bE a
 there:∀a,H' a=none->H a=none
 pk:∀a φ,fq σ fs φ a->fq σ' bE φ a\/(¬da σ' bE a/\∃vs,H' a=some (.lst vs)/\φ vs)
structure cU (σ:L2.St) (fs:aV) (H H':Hp):Prop where
 keep:∀a o,H a=some o->(∀φ,¬fq σ fs φ a)->H' a=some o
 there:∀a,H' a=none->H a=none
section
variable {σ σ' σ1 σ2:L2.St}{fs bE SN dR:aV}{H H' H1 H2:Hp}
def fq.yr {φ:List V->Prop}{a:Addr} (p:fq σ fs φ a):da σ fs a:=let ⟨i,e1,e2⟩:=p;⟨i,_,_,e1,rfl,e2,.inl rfl⟩
def cU.refl:cU σ fs H H:=⟨fun _ _ h _=>h,fun _ h=>h⟩
def cU.trans (a:cU σ fs H H1) (b:cU σ fs H1 H2):cU σ fs H H2:=⟨fun x o h n=>b.keep x o (a.keep x o h n) n,fun x h=>a.there x (b.there x h)⟩
def cU.f (g:cU σ fs H H'):cK σ fs H σ fs H':=⟨fun a o h n=>⟨g.keep a o h fun φ p=>n p.yr,n⟩,g.there,fun a φ p=>.inl p⟩
def cU.qT (g:cU σ fs H H') {a:Addr}{o:HO} (h:H a=some o) (n:¬da σ fs a):H' a=some o:=g.keep a o h fun φ p=>n p.yr
def cU.same (h:kG H H'):cU σ fs H H':=⟨fun a o e _=>h a o e,fun a e=>(by
 cases z:H a with
 | none=>rfl
 | some o=>rw [h a o z] at e;cases e)⟩
def iM.ex {a c:Addr}{s:SL} (h:iM K H a s) (ho:s.own=true) (hc:s.has a c):∃o,H c=some o/\(∀vs,o≠.tup vs)/\∀ob u,o≠.c7 ob u:=by
 cases s with
 | val _=>exact h.elim
 | adr _=>cases ho
 | ol q l=>obtain⟨_,vs,e,_⟩:=h;rcases hc with rfl | hc;exact⟨_,e,by simp,by simp⟩;cases hc
 | so bs ls=>
  obtain⟨e,_,_,hl,hb⟩:=h;rcases hc with rfl | hc
  ·exact⟨_,e,by simp,by simp⟩
  ·obtain⟨j,hj⟩:=Ct (show c∈bs from hc);have h1:=(Aj.mp hj).1;obtain⟨ws,e,_⟩:=hb j c _ hj (Ae (by rw [<- hl];exact h1));exact⟨_,e,by simp,by simp⟩
 | od l=>obtain⟨vs,e,_⟩:=h;rcases hc with rfl | hc;exact⟨_,e,by simp,by simp⟩;cases hc
 | ot l=>obtain⟨vs,e,_⟩:=h;rcases hc with rfl | hc;exact⟨_,e,by simp,by simp⟩;cases hc
 | gF l=>obtain⟨vs,e,_⟩:=h;rcases hc with rfl | hc;exact⟨_,e,by simp,by simp⟩;cases hc
def aQ.ownAt (s:aQ K H σ fs) {i:Nat}{t:SL}{a:Addr} (h1:fs[i]?=some (some t)) (h2:t.own=true) (h3:σ[i]?=some (some (.ref a))):iM K H a t:=by
 obtain⟨u,e,r⟩:=s.at' i t h1;rw [h3] at e;cases e;rcases r with⟨v,rfl,_⟩ | ⟨b,e,r⟩
 ·cases h2
 ·cases e;exact r
def aQ.yr (s:aQ K H σ fs) {a:Addr} (h:da σ fs a):∃o,H a=some o/\(∀vs,o≠.tup vs)/\∀ob u,o≠.c7 ob u:=by
 obtain⟨i,t,x,h1,h2,h3,h4⟩:=h;exact (s.ownAt h1 h2 h3).ex h2 h4
def aQ.noOwn (s:aQ K H σ fs) {a:Addr} (h:H a=none):¬da σ fs a:=fun z=>by
 obtain⟨o,e,_⟩:=s.yr z;rw [h] at e;cases e
def aQ.VT (s:aQ K H σ fs) {a:Addr}{vs:List V} (h:H a=some (.tup vs)):¬da σ fs a:=fun z=>by
 obtain⟨o,e,n,_⟩:=s.yr z;rw [h] at e;cases e;exact n vs rfl
def aQ.VU (s:aQ K H σ fs) {a:Addr}{ob:Obj}{u:HO} (h:H a=some (.c7 ob u)):¬da σ fs a:=fun z=>by
 obtain⟨o,e,_,n⟩:=s.yr z;rw [h] at e;cases e;exact n ob u rfl
def cK.refl:cK σ fs H σ fs H:=⟨fun _ _ h n=>⟨h,n⟩,fun _ h=>h,fun _ _ h=>.inl h⟩
def cK.trans (a:cK σ fs H σ1 SN H1) (b:cK σ1 SN H1 σ2 dR H2):cK σ fs H σ2 dR H2:=
 ⟨fun x o h n=>let ⟨h1,n1⟩:=a.keep x o h n;b.keep x o h1 n1,fun x h=>a.there x (b.there x h),fun x φ h=>(a.pk x φ h).elim (b.pk x φ) fun ⟨n,vs,e,p⟩=>.inr (let ⟨h1,n1⟩:=b.keep x _ e n;⟨n1,vs,h1,p⟩)⟩
def cK.eT (g:cK σ fs H σ' bE H') (s:aQ K H σ fs):bq K H H':=
 ⟨fun a vs h=>(g.keep a _ h (s.VT h)).1,fun a o u h=>(g.keep a _ h (s.VU h)).1⟩
def VR.tk {u:V}{v:PV} (t:bq K H H') (r:VR K [] H u v):VR K [] H' u v:=r.mono t fun _ _ e=>e
def aH.tk {u:List V}{v:List PV} (t:bq K H H') (r:aH K [] H u v):aH K [] H' u v:=r.mono t fun _ _ e=>e
def cK.vr (g:cK σ fs H σ' bE H') (s:aQ K H σ fs) {u:V}{v:PV} (r:VR K [] H u v):VR K [] H' u v:=VR.tk (g.eT s) r
def cU.eT (g:cU σ fs H H') (s:aQ K H σ fs):bq K H H':=g.f.eT s
def cU.vr (g:cU σ fs H H') (s:aQ K H σ fs) {u:V}{v:PV} (r:VR K [] H u v):VR K [] H' u v:=VR.tk (g.eT s) r
def cU.MD (g:cU σ fs H H') (s:aQ K H σ fs) {u:List V}{v:List PV} (r:aH K [] H u v):aH K [] H' u v:=aH.tk (g.eT s) r
def iM.mono {a:Addr}{s:SL} (t:bq K H H') (e:∀c o,s.own=true->s.has a c->H c=some o->H' c=some o) (h:iM K H a s):iM K H' a s:=by
 cases s with
 | val _=>exact h
 | adr _=>exact h
 | ol _ l=>obtain⟨z,vs,q,r⟩:=h;exact⟨z,vs,e _ _ rfl (.inl rfl) q,aH.tk t r⟩
 | so bs ls=>
  obtain⟨z,h1,h2,h3,h4⟩:=h;refine⟨e _ _ rfl (.inl rfl) z,h1,h2,h3,fun j b l hb hl=>?_⟩;obtain⟨ws,q,r⟩:=h4 j b l hb hl;exact⟨ws,e _ _ rfl (.inr (A5 hb)) q,aH.tk t r⟩
 | od l=>obtain⟨vs,q,k,r⟩:=h;exact⟨vs,e _ _ rfl (.inl rfl) q,k,aH.tk t r⟩
 | ot l=>obtain⟨vs,q,k,r⟩:=h;exact⟨vs,e _ _ rfl (.inl rfl) q,k,aH.tk t r⟩
 | gF φ=>obtain⟨vs,q,k⟩:=h;exact⟨vs,e _ _ rfl (.inl rfl) q,k⟩
def xy.mono {u:V}{s:SL} (t:bq K H H') (e:∀x a o,u=.ref x->s.own=true->s.has x a->H a=some o->H' a=some o) (h:xy K H u s):xy K H' u s:=by
 rcases h with⟨v,q,r⟩ | ⟨a,q,r⟩
 ·exact .inl ⟨v,q,VR.tk t r⟩
 ·exact .inr ⟨a,q,r.mono t (fun c o z y w=>e a c o q z y w)⟩
def aQ.same (s:aQ K H σ fs) (h:kG H H'):aQ K H' σ fs:=⟨s.len,fun i t e=>let ⟨u,h1,h2⟩:=s.at' i t e;⟨u,h1,h2.mono h.fv (fun _ a o _ _ _ z=>h a o z)⟩,s.nd⟩
def cK.same (h:kG H H') (s:aQ K H σ fs):cK σ fs H σ fs H':=⟨fun a o e n=>⟨h a o e,n⟩,fun a e=>(by
 cases z:H a with
 | none=>rfl
 | some o=>rw [h a o z] at e;cases e),fun a φ p=>.inl p⟩
inductive jH:aV->aV->Prop
 | nil:jH [] []
 | drop {s:Option SL}{a b:aV} (h:jH a b):jH (s::a) (none::b)
 | keep {s:Option SL}{a b:aV} (h:jH a b):jH (s::a) (s::b)
theorem jH.at {a b:aV} (h:jH a b):∀(i:Nat) (s:SL),b[i]?=some (some s)->a[i]?=some (some s):=by
 induction h with
 | nil=>intro i s e;simp at e
 | drop h ih=>intro i s e;cases i with | zero=>simp at e | succ i=>simp at e ⊢;exact ih i s e
 | keep h ih=>intro i s e;cases i with | zero=>simpa using e | succ i=>simp at e ⊢;exact ih i s e
def jH.length {a b:aV} (h:jH a b):a.length=b.length:=by induction h <;> simp_all
theorem jH.refl:∀a:aV,jH a a
 | []=>.nil
 | _::a=>.keep (jH.refl a)
def aQ.le (s:aQ K H σ fs) (h:jH fs bE):aQ K H σ bE:=⟨s.len.trans h.length,fun i t e=>s.at' i t (h.at i t e),fun i j t u x y a e1 e2=>s.nd i j t u x y a (h.at i t e1) (h.at j u e2)⟩
def da.le (h:jH fs bE) {a:Addr} (o:da σ bE a):da σ fs a:=let ⟨i,t,x,e1,e2,e3⟩:=o;⟨i,t,x,h.at i t e1,e2,e3⟩
def cK.le (s:aQ K H σ fs) (h:jH fs bE):cK σ fs H σ bE H:=⟨fun a o e n=>⟨e,fun z=>n (z.le h)⟩,fun _ e=>e,fun a φ p=>by
 obtain⟨i,e1,e2⟩:=p;by_cases c:da σ bE a
 ·obtain⟨j,t,x,c1,c2,c3,c4⟩:=c;have ij:=s.nd i j _ t a x a e1 (h.at j t c1) rfl c2 e2 c3 (.inl rfl) c4;subst ij;have:=h.at i t c1;rw [e1] at this;cases this;exact .inl ⟨i,c1,e2⟩
 ·obtain⟨vs,q,r⟩:=s.ownAt e1 rfl e2;exact .inr ⟨c,vs,q,r⟩⟩
def aY {α:Type}{l:List (Option α)}{i j:Nat}{x y:α} (h:(l.set i (some x))[j]?=some (some y)):(j=i/\y=x)\/(j≠i/\l[j]?=some (some y)):=by
 by_cases c:j=i
 ·subst c;rw [List.getElem?_set] at h;simp at h;exact .inl ⟨rfl,h.2.symm⟩
 ·rw [Bq (fun z=>c z.symm)] at h;exact .inr ⟨c,h⟩
def cm {α:Type}{l:List α}{i:Nat}{x:α} (h:i < l.length):(l.set i x)[i]?=some x:=by rw [List.getElem?_set];simp [h]
def aF {α:Type}{l:List α}{i j:Nat}{x:α} (h:j≠i):(l.set i x)[j]?=l[j]?:=Bq (fun z=>h z.symm)
def aQ.put (s:aQ K H σ fs) {i:Nat}{u:V}{t:SL} (hr:xy K H u t) (hf:∀x a,u=.ref x->t.own=true->t.has x a->∀(j:Nat) (w:SL) (y:Addr),j≠i->fs[j]?=some (some w)->w.own=true->σ[j]?=some (some (.ref y))->¬w.has y a):aQ K H (σ.set i (some u)) (fs.set i (some t)):=by
 refine⟨by simp [s.len],fun j w e=>?_,fun j k w x b1 b2 a e1 e2 o1 o2 q1 q2 z1 z2=>?_⟩
 ·rcases aY e with⟨rfl,rfl⟩ | ⟨n,e⟩
  ·have hl:j < σ.length:=by
    have:=(Aj.mp e).1;rw [BV] at this;rw [s.len];exact this
   exact⟨u,cm hl,hr⟩
  ·obtain⟨v,h1,h2⟩:=s.at' j w e;exact⟨v,by rw [aF n];exact h1,h2⟩
 ·rcases aY e1 with⟨y1,y2⟩ | ⟨n1,f1⟩ <;> rcases aY e2 with⟨y3,y4⟩ | ⟨n2,f2⟩
  ·exact y1.trans y3.symm
  ·subst y1;subst y2;rw [aF n2] at q2;have hl:j < σ.length:=by have:=(Aj.mp q1).1;simpa using this
   rw [cm hl] at q1;cases q1;exact absurd z2 (hf _ a rfl o1 z1 k x b2 n2 f2 o2 q2)
  ·subst y3;subst y4;rw [aF n1] at q1;have hl:k < σ.length:=by have:=(Aj.mp q2).1;simpa using this
   rw [cm hl] at q2;cases q2;exact absurd z1 (hf _ a rfl o2 z2 j w b1 n1 f1 o1 q1)
  ·rw [aF n1] at q1;rw [aF n2] at q2;exact s.nd j k w x b1 b2 a f1 f2 o1 o2 q1 q2 z1 z2
def aQ.eZ (s:aQ K H σ fs) {u:V}{v:PV} (hr:VR K [] H u v) (i:Nat):aQ K H (σ.set i (some u)) (fs.set i (some (.val v))):=s.put (.inl ⟨v,rfl,hr⟩) fun _ _ _ z=>by cases z
def Gf {i:Nat}{u:V}{t:SL}{a:Addr} (o:da (σ.set i (some u)) (fs.set i (some t)) a) (hl:σ.length=fs.length):da σ fs a\/∃x,u=.ref x/\t.own=true/\t.has x a:=by
 obtain⟨j,w,x,e1,e2,e3,e4⟩:=o;rcases aY e1 with⟨rfl,rfl⟩ | ⟨n,e1⟩
 ·have h2:j < σ.length:=by have:=(Aj.mp e3).1;simpa using this
  rw [cm h2] at e3;cases e3;exact .inr ⟨x,rfl,e2,e4⟩
 ·rw [aF n] at e3;exact .inl ⟨j,w,x,e1,e2,e3,e4⟩
def JR (s:aQ K H σ fs) {i:Nat}{u:V}{t:SL}{φ:List V->Prop}{a:Addr} (p:fq σ fs φ a) (hu:∀x,u=.ref x->t.own=true->t.has x a->t=.gF φ):fq (σ.set i (some u)) (fs.set i (some t)) φ a\/¬da (σ.set i (some u)) (fs.set i (some t)) a:=by
 obtain⟨j,e1,e2⟩:=p;by_cases c:j=i
 ·subst c;by_cases c2:∃x,u=.ref x/\t.own=true/\t.has x a
  ·obtain⟨x,c3,c4,c5⟩:=c2;have hl:=(Aj.mp e2).1;have QK:=(Aj.mp e1).1;have et:=hu x c3 c4 c5;subst et;rcases c5 with rfl | c5
   ·exact .inl ⟨j,by rw [cm QK],by rw [cm hl,c3]⟩
   ·cases c5
  ·refine .inr fun o=>?_;obtain⟨k,w,y,q1,q2,q3,q4⟩:=o;rcases aY q1 with⟨rfl,rfl⟩ | ⟨n,q1⟩
   ·have hl:=(Aj.mp e2).1;rw [cm hl] at q3;cases q3;exact c2 ⟨y,rfl,q2,q4⟩
   ·rw [aF n] at q3;exact n (s.nd k j w _ y a a q1 e1 q2 rfl q3 e2 q4 (.inl rfl))
 ·exact .inl ⟨j,by rw [aF c];exact e1,by rw [aF c];exact e2⟩
def cK.eZ (s:aQ K H σ fs) (u:V) (v:PV) (i:Nat):cK σ fs H (σ.set i (some u)) (fs.set i (some (.val v))) H:=
 ⟨fun a o e n=>⟨e,fun z=>(Gf z s.len).elim n fun ⟨_,_,z,_⟩=>by cases z⟩,fun _ e=>e,fun a φ p=>(JR s p (fun _ _ z=>by cases z)).imp id fun n=>⟨n,by
  obtain⟨j,e1,e2⟩:=p;obtain⟨vs,q,r⟩:=s.ownAt e1 rfl e2;exact⟨vs,q,r⟩⟩⟩
def aQ.NH (s:aQ K H σ fs) {a:Addr}{t:SL} (hr:iM K H a t) (hn:∀c,t.has a c->¬da σ fs c) (i:Nat):aQ K H (σ.set i (some (.ref a))) (fs.set i (some t)):=s.put (.inr ⟨a,rfl,hr⟩) fun x c e _ hc j w y n e1 e2 e3 z=>by
 cases e;exact hn c hc ⟨j,w,y,e1,e2,e3,z⟩
def yX {t:SL} (hi:t.qX=[]) {a c:Addr} (h:t.has a c):c=a:=by
 rcases h with h | h
 ·exact h
 ·rw [hi] at h;cases h
def aQ.tM (s:aQ K H σ fs) {a:Addr}{t:SL} (hr:iM K H a t) (hn:¬da σ fs a) (i:Nat) (hi:t.qX=[]:=by rfl):aQ K H (σ.set i (some (.ref a))) (fs.set i (some t)):=s.NH hr (fun c hc=>by rw [yX hi hc];exact hn) i
def cK.NH (s:aQ K H1 σ fs) (g:cK σ fs H σ fs H1) {a:Addr}{t:SL} (hn:∀c,t.has a c->¬da σ fs c) (h0:∀c,t.has a c->H c=none) (i:Nat):cK σ fs H (σ.set i (some (.ref a))) (fs.set i (some t)) H1:=by
 refine⟨fun b o e n=>⟨(g.keep b o e n).1,fun z=>(Gf z s.len).elim n fun ⟨x,z,_,y⟩=>?_⟩,g.there,fun b φ p=>?_⟩
 ·cases z;rw [h0 b y] at e;cases e
 ·obtain⟨j,e1,e2⟩:=p;obtain⟨vs,q,r⟩:=s.ownAt e1 rfl e2;refine (JR (t:=t) s ⟨j,e1,e2⟩ (fun x z o y=>?_)).imp id fun n=>⟨n,vs,q,r⟩;cases z;exact absurd ⟨j,_,_,e1,rfl,e2,.inl rfl⟩ (hn b y)
def cK.tM (s:aQ K H1 σ fs) (g:cK σ fs H σ fs H1) {a:Addr}{t:SL} (hn:¬da σ fs a) (h0:H a=none) (i:Nat) (hi:t.qX=[]:=by rfl):cK σ fs H (σ.set i (some (.ref a))) (fs.set i (some t)) H1:=cK.NH s g (fun c hc=>by rw [yX hi hc];exact hn) (fun c hc=>by rw [yX hi hc];exact h0) i
def qR (s:aQ K H σ fs) {i:Nat}{t t':SL}{a c:Addr} (e1:fs[i]?=some (some t)) (o:t.own=true) (np:∀φ,t≠.gF φ) (e2:σ[i]?=some (some (.ref a))) (hc:t.has a c) (XR:t'.has a c) (v9:∀b,t'.has a b->t.has a b) (o':t'.own=true) (sx:rg c H H') (ht:bq K H H'->iM K H' a t'):aQ K H' σ (fs.set i (some t'))/\cK σ fs H σ (fs.set i (some t')) H':=by
 have oa:=s.ownAt e1 o e2;obtain⟨ob,q,n1,n2⟩:=oa.ex o hc;have tk:bq K H H':=⟨fun b vs z=>sx b _ (fun y=>by subst y;rw [q] at z;cases z;exact n1 _ rfl) z,fun b o u z=>sx b _ (fun y=>by subst y;rw [q] at z;cases z;exact n2 _ _ rfl) z⟩;have oa':=ht tk;have hi:i < fs.length:=(Aj.mp e1).1;have RI:∀b,da σ (fs.set i (some t')) b->da σ fs b:=fun b z=>by
  obtain⟨j,w,x,z1,z2,z3,z4⟩:=z;rcases aY z1 with⟨rfl,rfl⟩ | ⟨n,z1⟩
  ·rw [e2] at z3;cases z3;exact⟨j,t,a,e1,o,e2,v9 b z4⟩
  ·exact⟨j,w,x,z1,z2,z3,z4⟩
 refine⟨⟨by simp [s.len],fun j w e=>?_,fun j k w x b1 b2 b z1 z2 o1 o2 q1 q2 y1 y2=>?_⟩,⟨fun b ob e n=>⟨sx b ob (fun z=>by subst z;exact n ⟨i,t,a,e1,o,e2,hc⟩) e,fun z=>n (RI b z)⟩,fun b e=>?_,fun b φ p=>?_⟩⟩
 ·rcases aY e with⟨rfl,rfl⟩ | ⟨n,e⟩
  ·exact⟨_,e2,.inr ⟨a,rfl,oa'⟩⟩
  ·obtain⟨u,h1,h2⟩:=s.at' j w e;refine⟨u,h1,h2.mono tk (fun x b ob eb ow hb z=>sx b ob (fun y=>?_) z)⟩;subst y;subst eb;exact n (s.nd j i w t x a b e e1 ow o h1 e2 hb hc)
 ·have f:∀{j:Nat}{w:SL}{y:Addr},(fs.set i (some t'))[j]?=some (some w)->w.own=true->σ[j]?=some (some (.ref y))->w.has y b->∃w',fs[j]?=some (some w')/\w'.own=true/\w'.has y b:=fun {j w y} z ow qy hy=>by
   rcases aY z with⟨rfl,rfl⟩ | ⟨n,z⟩
   ·rw [e2] at qy;cases qy;exact⟨t,e1,o,v9 b hy⟩
   ·exact⟨w,z,ow,hy⟩
  obtain⟨w',a1,a2,a3⟩:=f z1 o1 q1 y1;obtain⟨x',c1,c2,c3⟩:=f z2 o2 q2 y2;exact s.nd j k w' x' b1 b2 b a1 c1 a2 c2 q1 q2 a3 c3
 ·cases z:H b with
  | none=>rfl
  | some ob=>
   by_cases cc:b=c
   ·subst cc;obtain⟨o2,y,_⟩:=oa'.ex o' XR;rw [e] at y;cases y
   ·rw [sx b ob cc z] at e;cases e
 ·obtain⟨j,p1,p2⟩:=p;have ji:j≠i:=fun z=>by subst z;rw [e1] at p1;cases p1;exact np φ rfl
  exact .inl ⟨j,by rw [aF ji];exact p1,p2⟩
def nk (s:aQ K H σ fs) {i:Nat}{t t':SL}{a:Addr} (e1:fs[i]?=some (some t)) (o:t.own=true) (np:∀φ,t≠.gF φ) (e2:σ[i]?=some (some (.ref a))) (sx:rg a H H') (ht:bq K H H'->iM K H' a t') (hi:t'.qX=t.qX:=by rfl) (o':t'.own=true:=by rfl):aQ K H' σ (fs.set i (some t'))/\cK σ fs H σ (fs.set i (some t')) H':=
 qR s e1 o np e2 (.inl rfl) (.inl rfl) (fun b h=>by unfold SL.has at h ⊢;rw [hi] at h;exact h) o' sx ht
end
end
section
open PySem PySem.Spec PyProof.Rows L2 PL
variable {K:Aa}
def fE (K:Aa) (fs:aV) (w:W PV):TE:=fun σ H Q=>aQ K H σ fs/\w.run fun v=>∀u H',cU σ fs H H'->aQ K H' σ fs->VR K [] H' u v->Q u H'
def fT (K:Aa) (fs:aV) (w:W Bool):TT:=fun σ H Q=>aQ K H σ fs/\w.run fun b=>∀H',cU σ fs H H'->aQ K H' σ fs->Q b H'
def fO (K:Aa) (fs:aV) (w:W (Option Int)):TO:=fun σ H Q=>aQ K H σ fs/\w.run fun b=>∀H',cU σ fs H H'->aQ K H' σ fs->Q b H'
def fL (K:Aa) (fs:aV) (w:W (List PV)):TE:=fun σ H Q=>aQ K H σ fs/\w.run fun l=>∀a vs H',cU σ fs H H'->aQ K H' σ fs->H a=none->H' a=some (.lst vs)->aH K [] H' vs l->Q (.ref a) H'
def Xu (K:Aa) (H:Hp) (u:V) (l:List PV):Prop:=∃a vs,u=.ref a/\(TK K H a vs\/H a=some (.tup vs))/\aH K [] H vs l
def Tx (K:Aa) (σ:L2.St) (fs:aV) (H:Hp) (u:V) (l:List PV):Prop:=Xu K H u l\/∃a,u=.ref a/\((¬da σ fs a/\∃vs,H a=some (.lst vs)/\aH K [] H vs l)\/∃(i:Nat) (q:Option Addr),fs[i]?=some (some (.ol q l))/\σ[i]?=some (some (.ref a)))
def fQ (K:Aa) (fs:aV) (w:W (List PV)):TE:=fun σ H Q=>aQ K H σ fs/\w.run fun l=>∀u H',cU σ fs H H'->aQ K H' σ fs->Tx K σ fs H' u l->Q u H'
def fI (K:Aa) (fs:aV) (w:W (List PV)):TE:=fun σ H Q=>aQ K H σ fs/\w.run fun l=>∀u H',cU σ fs H H'->aQ K H' σ fs->Xu K H' u l->Q u H'
inductive AK where
 | v | p (φ:List V->Prop) | f (a:Addr)
inductive gr (K:Aa) (σ:L2.St) (fs:aV) (H:Hp):List V->List AK->List PV->Prop
 | nil:gr K σ fs H [] [] []
 | v {u:V}{x:PV}{vs:List V}{ks:List AK}{l:List PV} (r:VR K [] H u x) (t:gr K σ fs H vs ks l):gr K σ fs H (u::vs) (.v::ks) (x::l)
 | p {a:Addr}{φ:List V->Prop}{vs:List V}{ks:List AK}{l:List PV} (r:fq σ fs φ a) (t:gr K σ fs H vs ks l):gr K σ fs H (.ref a::vs) (.p φ::ks) l
 | f {a:Addr}{vs:List V}{ks:List AK}{l:List PV} (t:gr K σ fs H vs ks l):gr K σ fs H (.ref a::vs) (.f a::ks) l
def fA (K:Aa) (fs:aV) (ks:List AK) (w:W (List PV)):TA:=fun σ H Q=>aQ K H σ fs/\w.run fun l=>∀vs H',cU σ fs H H'->aQ K H' σ fs->gr K σ fs H' vs ks l->Q vs H'
structure EF (X:Cx) (K:Aa) (fs:aV) (e:Expr) (w:W PV):Prop where p:PE X e (fE K fs w)
structure LF (X:Cx) (K:Aa) (fs:aV) (e:Expr) (w:W (List PV)):Prop where p:PE X e (fL K fs w)
structure QF (X:Cx) (K:Aa) (fs:aV) (e:Expr) (w:W (List PV)):Prop where p:PE X e (fQ K fs w)
structure IF (X:Cx) (K:Aa) (fs:aV) (e:Expr) (w:W (List PV)):Prop where p:PE X e (fI K fs w)
structure TF (X:Cx) (K:Aa) (fs:aV) (e:Expr) (w:W Bool):Prop where p:PT X e (fT K fs w)
structure zW (X:Cx) (K:Aa) (fs:aV) (e:Expr) (w:W Bool):Prop where p:PW X e (fT K fs w)
structure OF (X:Cx) (K:Aa) (fs:aV) (e:Option Expr) (w:W (Option Int)):Prop where p:L2.PO X e (fO K fs w)
structure AF (X:Cx) (K:Aa) (fs:aV) (es:List Expr) (ks:List AK) {R:Type} (B:(List PV->W R)->W R):Prop where
 p:∃w:W (List PV),PA X es (fA K fs ks w)/\∀k,B k=W.bind w k
section
variable {σ:L2.St}{fs:aV}{H H':Hp}
def Xu.tk {u:V}{l:List PV} (t:bq K H H') (h:Xu K H u l):Xu K H' u l:=by
 obtain⟨a,vs,e,q,r⟩:=h;exact⟨a,vs,e,q.imp (t.f _ _) (t.t _ _),aH.tk t r⟩
def Tx.go {u:V}{l:List PV} (h:Tx K σ fs H u l) (s:aQ K H σ fs) (g:cU σ fs H H'):Tx K σ fs H' u l:=by
 rcases h with h | ⟨a,e,⟨n,vs,q,r⟩ | q⟩
 ·exact .inl (h.tk (g.eT s))
 ·exact .inr ⟨a,e,.inl ⟨n,vs,(g.qT q n),g.MD s r⟩⟩
 ·exact .inr ⟨a,e,.inr q⟩
def Tx.sq {u:V}{l:List PV} (h:Tx K σ fs H u l) (s:aQ K H σ fs):∃a vs,u=.ref a/\(cT K H a vs\/dc K H a vs)/\aH K [] H vs l:=by
 rcases h with⟨a,vs,e,q,r⟩ | ⟨a,e,⟨n,vs,q,r⟩ | ⟨i,_,q1,q2⟩⟩
 ·exact⟨a,vs,e,q.elim (fun q=>.inl q.sq) fun q=>.inr (dc.of q),r⟩
 ·exact⟨a,vs,e,.inl (cT.of q),r⟩
 ·obtain⟨_,vs,q,r⟩:=s.ownAt q1 rfl q2;exact⟨a,vs,e,.inl (cT.of q),r⟩
end
section
variable {X:Cx}{a b c e o:Expr}{es rest:List Expr}{pos:Pos}{fs:aV}{w wa wb:W PV}
def ae (i:Nat) {x:Str}{v:PV} (hs:fs[i]?=some (some (.val v)):=by rfl) (hN:X.N[i]?=some x:=by rfl) (hv:xw X.env.scope x:=by first | exact Ck rfl | exact Cd (Ck rfl) | exact Cd (Cd rfl)) (hd:(x==("__debug__":Str))=false:=by decide) (iW:(x==("__classdict__":Str))=false:=by decide):EF X K fs (.Name x pos) (.ret v):=
 ⟨PE.imp (dg hN hv hd iW) fun σ H Q ⟨sr,q⟩=>by
  obtain⟨u,e1,r⟩:=sr.at' i _ hs;rcases r with⟨w,e,r⟩ | ⟨a,_,r⟩
  ·cases e;exact⟨u,e1,q u H .refl sr r⟩
  ·exact r.elim⟩
def f_c {v:V}{p:PV} (hv:∀H,VR K [] H v p) (h:PE X e (tC v)):EF X K fs e (.ret p):=⟨PE.imp h fun σ H Q ⟨sr,q⟩=>q v H .refl sr (hv _)⟩
def ak {i j}:EF X K fs (.Constant (.int i) j pos) (.ret (.int i)):=f_c (fun _=>.int i) tR
def Mf {b j}:EF X K fs (.Constant (.bool b) j pos) (.ret (.bl b)):=f_c (fun _=>.bl b) Zo
def Ky {j}:EF X K fs (.Constant .none j pos) (.ret .aU):=f_c (fun _=>.aU) Vx
def gm {x j}:EF X K fs (.Constant (.str x) j pos) (.ret (.str x)):=f_c (fun _=>.str x) tQ
def W7 {x:Str}{i:Int}{t:Tok} (hm:X.mg x=some (.int i t)) (hg:Gl X x) (hd:(x==("__debug__":Str))=false:=by decide):EF X K fs (.Name x pos) (.ret (.int i)):=f_c (fun _=>.int i) (JV hg hm ⟨_,rfl⟩ hd)
def of2 (m:M2) (x y:PV):W PV:=⟨fun Q=>m.f x y [] fun z h=>h=[]/\Q z,fun f q=>m.mono (fun _ _ q=>⟨q.1,f _ q.2⟩) q⟩
def hr0 (H:Hp):HR K [] H []:=⟨EZ,rfl,fun n a o e _=>by simp at e⟩
def pq0 {σ:L2.St}{H:Hp}{Q:VK}{z:PV}{h:PH} (sr:aQ K H σ fs) (q:h=[]/\∀u H',cU σ fs H H'->aQ K H' σ fs->VR K [] H' u z->Q u H'):pQ K [] H Q z h:=fun ι' v H' g r x=>by
 obtain⟨e,q⟩:=q;subst e;have:ι'=[]:=Dk r.len;subst this;have sm:kG H H':=fun a o z=>g.keep a o (by simp) z;exact q v H' (cU.same sm) (sr.same sm) x
def yu {r:R2}{m:M2} (hm:M2.Ok K r m) {σ:L2.St}{H:Hp}{Q:VK}{u v:V}{x y:PV} (sr:aQ K H σ fs) (hu:VR K [] H u x) (hv:VR K [] H v y) (q:(of2 m x y).run fun z=>∀u H',cU σ fs H H'->aQ K H' σ fs->VR K [] H' u z->Q u H'):r u v H Q:=
 hm (hr0 H) hu hv (m.mono (fun z h q=>pq0 sr q) q)
def Kr {r:R2}{m:M2} (hm:M2.Ok K r m):∀σ H Q,fE K fs (.bind wa fun x=>.bind wb fun y=>of2 m x y) σ H Q->U0 r (fE K fs wa) (fE K fs wb) σ H Q:=fun σ H Q ⟨sr,q⟩=>
 ⟨sr,wa.mono (fun x q1 u1 H1 g1 s1 v1=>⟨s1,wb.mono (fun y q2 u2 H2 g2 s2 v2=>yu hm s2 (g2.vr s1 v1) v2 ((of2 m x y).mono (fun z q u3 H3 g3 s3 v3=>q u3 H3 ((g1.trans g2).trans g3) s3 v3) q2)) q1⟩) q⟩
def Py {op:Operator}{r:R2}{m:M2} (ho:jE X (binaryOp op) r) (hm:M2.Ok K r m) (ha:EF X K fs a wa) (hb:EF X K fs b wb):EF X K fs (.BinOp a op b pos) (.bind wa fun x=>.bind wb fun y=>of2 m x y):=⟨PE.imp (JT ho ha.p hb.p) (Kr hm)⟩
def o5 (ha:EF X K fs a wa) (hb:EF X K fs b wb):EF X K fs (.BinOp a .Sub b pos) (.bind wa fun x=>.bind wb fun y=>of2 p0 x y):=Py VB (Hd fun _ _ _ _=>.int _) ha hb
def jA (ha:EF X K fs a wa) (hb:EF X K fs b wb):EF X K fs (.BinOp a .Mult b pos) (.bind wa fun x=>.bind wb fun y=>of2 jT x y):=Py RK (zM fun _ _ _ _=>.int _) ha hb
def PF (ha:EF X K fs a wa) (hb:EF X K fs b wb):EF X K fs (.BinOp a .FloorDiv b pos) (.bind wa fun x=>.bind wb fun y=>of2 oDiv x y):=Py RL (zM fun _ _ _ _=>.int _) ha hb
def o7 (ha:EF X K fs a wa) (hb:EF X K fs b wb):EF X K fs (.BinOp a .Mod b pos) (.bind wa fun x=>.bind wb fun y=>of2 oMod x y):=Py VF (zM fun _ _ _ _=>.int _) ha hb
def Kx (ha:EF X K fs a wa) (hb:EF X K fs b wb):EF X K fs (.BinOp a .Pow b pos) (.bind wa fun x=>.bind wb fun y=>of2 yz x y):=Py VD (zM fun _ _ _ _=>.int _) ha hb
def t6:PV->W PV
 | .int i=>.ret (.int (-i))
 | _=>.fail
def o6 (ha:EF X K fs a wa):EF X K fs (.UnaryOp .USub a pos) (.bind wa t6):=⟨PE.imp (Zk UT ha.p) fun σ H Q ⟨sr,q⟩=>⟨sr,wa.mono (fun x q1 u1 H1 g1 s1 v1=>by
 cases v1 with
 | int i=>exact⟨_,rfl,q1 _ H1 g1 s1 (.int _)⟩
 | _=>exact q1.elim) q⟩⟩
def asB:PV->W Bool
 | .bl b=>.ret b
 | _=>.fail
def kR {op:CmpOp}{m:M2} (hc:JC X K op b m) (ha:EF X K fs a wa) (hb:EF X K fs b wb):EF X K fs (.Compare a [op] [b] pos) (.bind wa fun x=>.bind wb fun y=>of2 m x y):=let ⟨_,h1,h2⟩:=hc.p;⟨PE.imp (ym h1 ha.p hb.p hc.k) (Kr h2)⟩
def WU {w:W PV}:∀σ H Q,fT K fs (.bind w asB) σ H Q->(fE K fs w) σ H fun x H'=>∃k,x=.bl k/\Q k H':=fun σ H Q ⟨sr,q⟩=>⟨sr,w.mono (fun x q1 u1 H1 g1 s1 v1=>by
 cases v1 with
 | bl b=>exact⟨b,rfl,q1 H1 g1 s1⟩
 | _=>exact q1.elim) q⟩
def eW {op:CmpOp}{m:M2} (hc:JC X K op b m) (ha:EF X K fs a wa) (hb:EF X K fs b wb):TF X K fs (.Compare a [op] [b] pos) (.bind wa fun x=>.bind wb fun y=>.bind (of2 m x y) asB):=let ⟨_,h1,h2⟩:=hc.p
 ⟨PT.imp (sg h1 ha.p hb.p hc.k) fun σ H Q q=>Kr h2 σ H _ (WU (w:=.bind wa fun x=>.bind wb fun y=>of2 m x y) σ H Q q)⟩
def Qb (z:PV) (w:W PV):W PV:=match z with
 | .bl true=>w
 | .bl false=>.ret (.bl false)
 | _=>.fail
def Tn (x:PV) (w:W PV):W PV:=match x with
 | .bl true=>w
 | .bl false=>.ret (.bl false)
 | _=>.fail
def orW (x:PV) (w:W PV):W PV:=match x with
 | .bl true=>.ret (.bl true)
 | .bl false=>w
 | _=>.fail
def VQ:PV->W PV
 | .bl b=>.ret (.bl (!b))
 | _=>.fail
def KA (ha:EF X K fs a wa) (hb:EF X K fs (.BoolOp .And (b::rest) pos) wb):EF X K fs (.BoolOp .And (a::b::rest) pos) (.bind wa fun x=>Tn x wb):=⟨PE.imp (Vz ha.p hb.p) fun σ H Q ⟨sr,q⟩=>⟨sr,wa.mono (fun x q1 u1 H1 g1 s1 v1=>by
 cases v1 with
 | bl k=>
  cases k with
  | true=>exact⟨true,rfl,by rw [if_pos rfl];exact⟨s1,wb.mono (fun _ q u H' g s v=>q u H' (g1.trans g) s v) q1⟩⟩
  | false=>exact⟨false,rfl,by rw [if_neg AI];exact q1 _ H1 g1 s1 (.bl _)⟩
 | _=>exact q1.elim) q⟩⟩
def aaE (ha:EF X K fs a wa) (hb:EF X K fs (.BoolOp .Or (b::rest) pos) wb):EF X K fs (.BoolOp .Or (a::b::rest) pos) (.bind wa fun x=>orW x wb):=⟨PE.imp (Zl ha.p hb.p) fun σ H Q ⟨sr,q⟩=>⟨sr,wa.mono (fun x q1 u1 H1 g1 s1 v1=>by
 cases v1 with
 | bl k=>
  cases k with
  | true=>exact⟨true,rfl,by rw [if_pos rfl];exact q1 _ H1 g1 s1 (.bl _)⟩
  | false=>exact⟨false,rfl,by rw [if_neg AI];exact⟨s1,wb.mono (fun _ q u H' g s v=>q u H' (g1.trans g) s v) q1⟩⟩
 | _=>exact q1.elim) q⟩⟩
def GZ {op} (h:EF X K fs a wa):EF X K fs (.BoolOp op [a] pos) wa:=⟨Vv h.p⟩
def aaF (ha:EF X K fs a wa):EF X K fs (.UnaryOp .Not a pos) (.bind wa VQ):=⟨PE.imp (Vw ha.p) fun σ H Q ⟨sr,q⟩=>⟨sr,wa.mono (fun x q1 u1 H1 g1 s1 v1=>by
 cases v1 with
 | bl k=>exact⟨_,rfl,q1 _ H1 g1 s1 (.bl _)⟩
 | _=>exact q1.elim) q⟩⟩
variable {ta tb tc:W Bool}
def jJ (h:TF X K fs a ta):zW X K fs (.BoolOp .And [a] pos) ta:=⟨Rt h.p⟩
def xM (h:TF X K fs a ta):zW X K fs (.BoolOp .Or [a] pos) ta:=⟨Vo h.p⟩
def m9 (ha:TF X K fs a ta) (hb:zW X K fs (.BoolOp .And (b::rest) pos) tb):zW X K fs (.BoolOp .And (a::b::rest) pos) (.bind ta fun k=>if k=true then tb else .ret false):=⟨PW.imp (Vp ha.p hb.p) fun σ H Q ⟨sr,q⟩=>⟨sr,ta.mono (fun k q1 H1 g1 s1=>by
 cases k with
 | true=>exact GI ⟨s1,tb.mono (fun _ q H' g s=>q H' (g1.trans g) s) q1⟩
 | false=>exact GJ (q1 H1 g1 s1)) q⟩⟩
def Ju (ha:TF X K fs a ta) (hb:zW X K fs (.BoolOp .Or (b::rest) pos) tb):zW X K fs (.BoolOp .Or (a::b::rest) pos) (.bind ta fun k=>if k=true then .ret true else tb):=⟨PW.imp (Zi ha.p hb.p) fun σ H Q ⟨sr,q⟩=>⟨sr,ta.mono (fun k q1 H1 g1 s1=>by
 cases k with
 | true=>exact GI (q1 H1 g1 s1)
 | false=>exact GJ ⟨s1,tb.mono (fun _ q H' g s=>q H' (g1.trans g) s) q1⟩) q⟩⟩
def zW.t (h:zW X K fs a ta):TF X K fs a ta:=⟨PW.pt h.p⟩
def qP (ha:TF X K fs a ta):TF X K fs (.UnaryOp .Not a pos) (.bind ta fun k=>.ret (!k)):=⟨PT.imp (Vq ha.p) fun σ H Q ⟨sr,q⟩=>⟨sr,q⟩⟩
def PB (hc:TF X K fs c tc) (ha:EF X K fs a wa) (hb:EF X K fs b wb):EF X K fs (.IfExp c a b pos) (.bind tc fun k=>if k=true then wa else wb):=⟨PE.imp (NU hc.p ha.p hb.p) fun σ H Q ⟨sr,q⟩=>⟨sr,tc.mono (fun k q1 H1 g1 s1=>by
 cases k with
 | true=>exact GI ⟨s1,wa.mono (fun _ q u H' g s v=>q u H' (g1.trans g) s v) q1⟩
 | false=>exact GJ ⟨s1,wb.mono (fun _ q u H' g s v=>q u H' (g1.trans g) s v) q1⟩) q⟩⟩
def eE:PV->W Bool
 | .aU=>.ret false
 | .bl b=>.ret b
 | .int i=>.ret (i != 0)
 | .str y=>.gs (y.length<=sizeLine) (.ret ((y.length:Int) != 0))
 | .tup l=>.ret (!l.isEmpty)
 | .cl l=>.ret (!l.isEmpty)
 | _=>.fail
def de (hK:X.K=K) (ha:EF X K fs a wa) (he:∀whole,isTrue a X.env whole=(do let v <- whole;standAt a.pos;holding [v] (truthy v))):TF X K fs a (.bind wa eE):=⟨PT.imp (wO K hK ha.p he) fun σ H Q ⟨sr,q⟩=>⟨sr,wa.mono (fun x q1 u1 H1 g1 s1 v1=>by
 cases v1 with
 | aU=>exact⟨false,rfl,q1 H1 g1 s1⟩
 | bl b=>exact⟨b,rfl,q1 H1 g1 s1⟩
 | int i=>exact⟨_,rfl,q1 H1 g1 s1⟩
 | str y=>exact⟨_,⟨q1.1,rfl⟩,q1.2 H1 g1 s1⟩
 | ty _=>exact q1.elim
 | dk _ _ _=>exact q1.elim
 | dt _ _ _=>exact q1.elim
 | ref _=>exact q1.elim
 | @tup p vs l e rs=>
  refine⟨!vs.isEmpty,.inr (.inl ⟨_,dc.of e,rfl⟩),?_⟩;rw [<- lI rs];exact q1 H1 g1 s1
 | @cl p vs l e rs=>
  refine⟨!vs.isEmpty,.inl ⟨_,e.sq,rfl⟩,?_⟩;rw [<- lI rs];exact q1 H1 g1 s1) q⟩⟩
def T3 (hK:X.K=K) {wl:W (List PV)} (ha:QF X K fs a wl) (he:∀whole,isTrue a X.env whole=(do let v <- whole;standAt a.pos;holding [v] (truthy v))):TF X K fs a (.bind wl fun l=>.ret (!l.isEmpty)):=⟨PT.imp (wO K hK ha.p he) fun σ H Q ⟨sr,q⟩=>⟨sr,wl.mono (fun l q1 u1 H1 g1 s1 v1=>by
 obtain⟨b,vs,rfl,h,rs⟩:=v1.sq s1;refine⟨!vs.isEmpty,?_,?_⟩
 ·exact h.elim (fun h=>.inl ⟨_,h,rfl⟩) fun h=>.inr (.inl ⟨_,h,rfl⟩)
 ·rw [<- lI rs];exact q1 H1 g1 s1) q⟩⟩
variable {R:Type}{ks:List AK}{B:(List PV->W R)->W R}
def ao:AF X K fs [] [] (R:=R) (fun k=>k []):=⟨.ret [],PA.imp cE fun σ H Q ⟨sr,q⟩=>q [] H .refl sr .nil,fun k=>rfl⟩
def af (ha:EF X K fs e w) (hr:AF X K fs es ks B) (hs:starEach (e::es) X.env=(false,eval e X.env)::starEach es X.env:=by rfl):AF X K fs (e::es) (.v::ks) (fun k=>.bind w fun x=>B fun l=>k (x::l)):=by
 obtain⟨wr,hp,hB⟩:=hr.p;refine⟨.bind w fun x=>.bind wr fun l=>.ret (x::l),PA.imp (bc ha.p hp hs) fun σ H Q ⟨sr,q⟩=>?_,fun k=>?_⟩
 ·exact⟨sr,w.mono (fun x q1 u1 H1 g1 s1 v1=>⟨s1,wr.mono (fun l q2 vs H2 g2 s2 v2=>q2 _ H2 (g1.trans g2) s2 (.v (g2.vr s1 v1) v2)) q1⟩) q⟩
 ·have:(fun x=>B fun l=>k (x::l))=fun x=>W.bind wr fun l=>k (x::l):=funext fun x=>hB _;rw [this];rfl
def a9 (i:Nat) {x:Str}{φ:List V->Prop} (hr:AF X K fs es ks B) (hs:fs[i]?=some (some (.gF φ)):=by rfl) (hN:X.N[i]?=some x:=by rfl) (hv:xw X.env.scope x:=by first | exact Ck rfl | exact Cd (Ck rfl) | exact Cd (Cd rfl)) (hd:(x==("__debug__":Str))=false:=by decide) (iW:(x==("__classdict__":Str))=false:=by decide)
  (xc:starEach (.Name x pos::es) X.env=(false,eval (.Name x pos) X.env)::starEach es X.env:=by rfl):AF X K fs (.Name x pos::es) (.p φ::ks) B:=by
 obtain⟨wr,hp,hB⟩:=hr.p;refine⟨wr,PA.imp (bc (dg hN hv hd iW) hp xc) fun σ H Q ⟨sr,q⟩=>?_,hB⟩;obtain⟨u,e1,r⟩:=sr.at' i _ hs;rcases r with⟨v,e,_⟩ | ⟨a,e,r⟩
 ·cases e
 ·subst e;exact⟨_,e1,sr,wr.mono (fun l q2 vs H2 g2 s2 v2=>q2 _ H2 g2 s2 (.p ⟨i,hs,e1⟩ v2)) q⟩
theorem gr.MD {σ:L2.St}{H:Hp}:∀{vs:List V}{n:Nat}{l:List PV},gr K σ fs H vs (Al n .v) l->aH K [] H vs l/\l.length=n
 | _,0,_,.nil=>⟨.nil,rfl⟩
 | _,n+1,_,.v r t=>⟨.cons r (gr.MD t).1,by rw [Aq,(gr.MD t).2]⟩
def aaD {x1}{n:Nat}{B:(List PV->W PV)->W PV} (h:AF X K fs es (Al n .v) B) (hn:n<=1000:=by decide):EF X K fs (.Tuple es x1 pos) (B fun l=>.ret (.tup l)):=by
 obtain⟨w,hp,hB⟩:=h.p;rw [hB];refine⟨PE.imp (RE hp) fun σ H Q ⟨sr,q⟩=>⟨sr,w.mono (fun l q1 vs H1 g1 s1 v1=>?_) q⟩⟩;obtain⟨v2,hl⟩:=v1.MD;refine⟨by rw [v2.length,hl];exact bb hn,fun p H2 s2 e2 n2=>?_⟩;exact q1 _ H2 (g1.trans (cU.same s2)) (s1.same s2) (.tup e2 (aH.tk s2.fv v2))
def Uk {n:Nat}{B:(List PV->W (List PV))->W (List PV)} (h:AF X K fs es (Al n .v) B) (hn:n<=1000:=by decide):LF X K fs (.List es pos) (B fun l=>.ret l):=by
 obtain⟨w,hp,hB⟩:=h.p;rw [hB];refine⟨PE.imp (JU hp) fun σ H Q ⟨sr,q⟩=>⟨sr,w.mono (fun l q1 vs H1 g1 s1 v1=>?_) q⟩⟩;obtain⟨v2,hl⟩:=v1.MD;refine⟨by rw [v2.length,hl];exact bb hn,fun p H2 s2 e2 n2=>?_⟩;exact q1 _ _ H2 (g1.trans (cU.same s2)) (s1.same s2) (g1.there p n2) e2 (aH.tk s2.fv v2)
end
end
end FL
namespace L2
open PySem PySem.Spec PyProof.Rows
def Inv.sG {X:Cx}{pins:List (Addr×Obj)}{σ:St}{H:Hp}{s:Shared}{a:Addr}{vs:List V} (I:Inv X pins σ H s) (e:H a=some (.lst vs)):∃o,Inv X pins σ (upd H a (.c7 o (.lst vs))) s:=by
 obtain⟨z,ar,n,r,h1⟩:=(show bh X.prog X.w H s.heap a (.lst vs) from I.bD a _ e);exact⟨_,I.write (x:=a) (e:=a) (o:=.c7 _ (.lst vs)) (h':=s.heap) (t':=s.toks) (by rw [e];exact BK) (.inl rfl) (fun b u _ z=>z) ⟨_,h1⟩ ⟨h1,z,ar,n,r,h1⟩⟩
def xf {P:Program}{w:World}{H:Hp}{h:Heap}{a:Addr}{vs:List V}{o:Obj} (ok:mH P w H h) (e:H a=some (.c7 o (.lst vs))):mH P w (upd H a (.lst vs)) h:=fun b u q=>by
 have ne:∀c v,H c=some v->v≠.c7 o (.lst vs)->upd H a (.lst vs) c=some v:=fun c v z n=>by
  rw [av (fun y=>by subst y;rw [e] at z;cases z;exact n rfl)];exact z
 by_cases hb:b=a
 ·subst hb;rw [aM] at q;cases q;exact bh.xX (ok b _ e).2 (fun _ _ _ z=>z) (fun c z=>ne c _ z (by simp)) fun c xs z=>ne c _ z (by simp)
 ·rw [av hb] at q;exact bh.xX (ok b _ q) (fun _ _ _ z=>z) (fun c z=>ne c _ z (by simp)) fun c xs z=>ne c _ z (by simp)
end L2
namespace FL
section
open PySem PySem.Spec PyProof.Rows L2 PL
variable {K:Aa}
section
variable {σ:L2.St}{fs:aV}{H H1:Hp}{a:Addr}{vs:List V}
def mi (o':HO) (e:H a=some (.lst vs)):bq K H (upd H a o'):=⟨fun b ws q=>by rw [av (J4 q e (by intro z;cases z))];exact q,fun b o u q=>by rw [av (J4 q e (by intro z;cases z))];exact q⟩
def aQ.side (s:aQ K H σ fs) (n:¬da σ fs a) (e:H a=some (.lst vs)) (o':HO):aQ K (upd H a o') σ fs:=⟨s.len,fun i t q=>by
 obtain⟨u,h1,h2⟩:=s.at' i t q;exact⟨u,h1,h2.mono (mi o' e) (fun x b o eb ow hb z=>by subst eb;rw [av (fun y:b=a=>n ⟨i,t,x,q,ow,h1,y▸hb⟩)];exact z)⟩,s.nd⟩
def cU.side (g:cU σ fs H H1) (h0:H a=none) (o':HO):cU σ fs H (upd H1 a o'):=⟨fun b o e n=>by rw [av (bK e h0)];exact g.keep b o e n,fun b e=>by
 by_cases c:b=a
 ·subst c;exact h0
 ·rw [av c] at e;exact g.there b e⟩
end
section
variable {X:Cx}{a b e:Expr}{es:List Expr}{pos p:Pos}{fs:aV}{w wa wb:W PV}{wl:W (List PV)}
def xj (h:LF X K fs e wl):EF X K fs e (.bind wl fun l=>.ret (.cl l)):=⟨fun pins s σ H Q I ⟨sr,q⟩=>by
 refine bM (h.p pins s σ H (fun u H1=>∃a vs l,u=.ref a/\cU σ fs H H1/\aQ K H1 σ fs/\H a=none/\H1 a=some (.lst vs)/\aH K [] H1 vs l/\∀u H',cU σ fs H H'->aQ K H' σ fs->VR K [] H' u (.cl l)->Q u H') I ⟨sr,wl.mono (fun l q1 a vs H1 g1 s1 n e v=>⟨a,vs,l,rfl,g1,s1,n,e,v,q1⟩) q⟩) fun u s1 ⟨v,H1,I1,r1,a,vs,l,e,g1,Rl,n,ea,vr,q1⟩=>?_;subst e;obtain⟨ob,I2⟩:=I1.sG ea;exact⟨.ref a,_,I2,r1,q1 _ _ (g1.side n _) (Rl.side (fun z=>sr.noOwn n z) ea _) (.cl (.inl ⟨ob,aM⟩) (aH.tk (mi _ ea) vr))⟩⟩
def ax:PV->W (List PV)
 | .tup l=>.ret l
 | .cl l=>.ret l
 | _=>.fail
def cB (h:EF X K fs e w):IF X K fs e (.bind w ax):=⟨PE.imp h.p fun σ H Q ⟨sr,q⟩=>⟨sr,w.mono (fun x q1 u1 H1 g1 s1 v1=>by
 cases v1 with
 | tup e r=>exact q1 _ H1 g1 s1 ⟨_,_,rfl,.inr e,r⟩
 | cl e r=>exact q1 _ H1 g1 s1 ⟨_,_,rfl,.inl e,r⟩
 | _=>exact q1.elim) q⟩⟩
def GK (h:LF X K fs e wl):IF X K fs e wl:=cB (xj h)
theorem IF.q (h:IF X K fs e wl):QF X K fs e wl:=⟨PE.imp h.p fun σ H Q ⟨sr,q⟩=>⟨sr,wl.mono (fun l q1 u1 H1 g1 s1 v1=>q1 u1 H1 g1 s1 (.inl v1)) q⟩⟩
def au (h:EF X K fs e w):QF X K fs e (.bind w ax):=(cB h).q
def fx (h:LF X K fs e wl):QF X K fs e wl:=⟨PE.imp h.p fun σ H Q ⟨sr,q⟩=>⟨sr,wl.mono (fun l q1 a vs H1 g1 s1 n e v=>q1 _ H1 g1 s1 (.inr ⟨a,rfl,.inl ⟨sr.noOwn n,vs,e,v⟩⟩)) q⟩⟩
def bZ (i:Nat) {x:Str}{q0:Option Addr}{l:List PV} (hs:fs[i]?=some (some (.ol q0 l)):=by rfl) (hN:X.N[i]?=some x:=by rfl) (hv:xw X.env.scope x:=by first | exact Ck rfl | exact Cd (Ck rfl) | exact Cd (Cd rfl)) (hd:(x==("__debug__":Str))=false:=by decide) (iW:(x==("__classdict__":Str))=false:=by decide):QF X K fs (.Name x pos) (.ret l):=
 ⟨PE.imp (dg hN hv hd iW) fun σ H Q ⟨sr,q⟩=>by
  obtain⟨u,e1,r⟩:=sr.at' i _ hs;rcases r with⟨w,e,r⟩ | ⟨a,e,r⟩
  ·cases e
  ·subst e;exact⟨_,e1,q _ H .refl sr (.inr ⟨a,rfl,.inr ⟨i,q0,hs,e1⟩⟩)⟩⟩
def MJ (l:List PV):PV->W PV
 | .int i=>.yt (cI l i)
 | _=>.fail
def aE (hK:X.K=K) (ha:QF X K fs a wl) (hb:EF X K fs b wb) (hs:sP b):EF X K fs (.Subscript a b pos) (.bind wl fun l=>.bind wb fun y=>MJ l y):=⟨PE.imp (NT (Kh K hK) ha.p hb.p hs) fun σ H Q ⟨sr,q⟩=>⟨sr,wl.mono (fun l q1 u1 H1 g1 s1 v1=>⟨s1,wb.mono (fun y q2 u2 H2 g2 s2 v2=>by
 cases v2 with
 | int i=>
  have q2:(W.yt (cI l i)).run _:=q2;cases z:cI l i with
  | none=>rw [z] at q2;exact q2.elim
  | some x=>
   rw [z] at q2;obtain⟨ad,vs,rfl,h,rs⟩:=(v1.go s1 g2).sq s2;obtain⟨v,e1,e2⟩:=aH.cI rs z;have q3:=q2 v H2 (g1.trans g2) s2 e2;exact h.elim (fun h=>.inl ⟨ad,vs,i,v,rfl,rfl,h,e1,q3⟩) fun h=>.inr (.inl ⟨ad,vs,i,v,rfl,rfl,h,e1,q3⟩)
 | _=>exact q2.elim) q1⟩) q⟩⟩
def aaK (ha:EF X K fs a wa) (hb:EF X K fs b wb) (hs:sP b):EF X K fs (.Subscript a b pos) (.bind wa fun x=>.bind wb fun y=>of2 N4 x y):=⟨PE.imp (NT OI ha.p hb.p hs) (Kr RU)⟩
def rH (m:xB) (l:List PV):W PV:=⟨fun Q=>m.f l [] fun z h=>h=[]/\Q z,fun f q=>m.mono (fun _ _ q=>⟨q.1,f _ q.2⟩) q⟩
section
variable {x:Str}{id:String}{r:List V->Hp->VK->Prop}{B:(List PV->W PV)->W PV}{n:Nat}
def N3 {m:xB} (hm:xB.Ok K r m) {σ:L2.St}{H:Hp}{Q:VK}{us:List V}{l:List PV} (sr:aQ K H σ fs) (hu:aH K [] H us l) (q:(rH m l).run fun z=>∀u H',cU σ fs H H'->aQ K H' σ fs->VR K [] H' u z->Q u H'):r us H Q:=hm (hr0 H) hu (m.mono (fun z h q=>pq0 sr q) q)
def sN {m:xB} (hc:bL X (.builtin id) r) (hB:xB.Ok K r m) (hg:Gl X x) (hm:X.mg x=none) (hv:bootBuiltins x=some (.builtin id)) (ha:AF X K fs (e::es) (Al n .v) B) (hn:x≠"__name__":=by decide) (oU:(x==("__debug__":Str))=false:=by decide)
  (he:starEach (e::es) X.env=(false,eval e X.env)::starEach es X.env:=by rfl) (ef:(backTo pos (starEach es X.env)).any (·.1)=false:=by rfl):EF X K fs (.Call (.Name x p) (e::es) [] pos) (B (rH m)):=by
 obtain⟨w,hp,hB2⟩:=ha.p;rw [hB2];exact⟨PE.imp (e7 hc hg hm hv hp hn oU he ef) fun σ H Q ⟨sr,q⟩=>⟨sr,w.mono (fun l q1 vs H1 g1 s1 v1=>N3 hB s1 v1.MD.1 ((rH m l).mono (fun z q u H' g s v=>q u H' (g1.trans g) s v) q1)) q⟩⟩
def PK {m:xB} (hc:bL X (.type id) r) (hB:xB.Ok K r m) (hg:Gl X x) (hm:X.mg x=none) (hv:bootBuiltins x=some (.type id)) (ha:AF X K fs (e::es) (Al n .v) B) (hn:x≠"__name__":=by decide) (oU:(x==("__debug__":Str))=false:=by decide)
  (he:starEach (e::es) X.env=(false,eval e X.env)::starEach es X.env:=by rfl) (ef:(backTo pos (starEach es X.env)).any (·.1)=false:=by rfl):EF X K fs (.Call (.Name x p) (e::es) [] pos) (B (rH m)):=by
 obtain⟨w,hp,hB2⟩:=ha.p;rw [hB2];exact⟨PE.imp (ml hc hg hm hv hp hn oU he ef) fun σ H Q ⟨sr,q⟩=>⟨sr,w.mono (fun l q1 vs H1 g1 s1 v1=>N3 hB s1 v1.MD.1 ((rH m l).mono (fun z q u H' g s v=>q u H' (g1.trans g) s v) q1)) q⟩⟩
def CQ (K:Aa) (r:List V->Hp->VK->Prop) (m:List PV->W PV):Prop:=∀{fs:aV}{σ:L2.St}{H:Hp}{Q:VK}{u:V}{l:List PV},aQ K H σ fs->Tx K σ fs H u l->((m l).run fun z=>∀u H',cU σ fs H H'->aQ K H' σ fs->VR K [] H' u z->Q u H')->r [u] H Q
def CL (K:Aa) (r:List V->Hp->VK->Prop) (m:List PV->W (List PV)):Prop:=∀{fs:aV}{σ:L2.St}{H:Hp}{Q:VK}{u:V}{l:List PV},aQ K H σ fs->Tx K σ fs H u l->((m l).run fun z=>∀a vs H',cU σ fs H H'->aQ K H' σ fs->H a=none->H' a=some (.lst vs)->aH K [] H' vs z->Q (.ref a) H')->r [u] H Q
def PM {m:List PV->W PV} (hc:bL X (.builtin id) r) (hB:CQ K r m) (hg:Gl X x) (hm:X.mg x=none) (hv:bootBuiltins x=some (.builtin id)) (ha:QF X K fs e wl) (hn:x≠"__name__":=by decide) (oU:(x==("__debug__":Str))=false:=by decide)
  (he:starEach [e] X.env=(false,eval e X.env)::starEach [] X.env:=by rfl) (ef:(backTo pos (starEach [] X.env)).any (·.1)=false:=by rfl):EF X K fs (.Call (.Name x p) [e] [] pos) (.bind wl m):=⟨PE.imp (e7 hc hg hm hv (bc ha.p cE he) hn oU he ef) fun σ H Q ⟨sr,q⟩=>⟨sr,wl.mono (fun l q1 u H1 g1 s1 v1=>hB s1 v1 ((m l).mono (fun z q u H' g s v=>q u H' (g1.trans g) s v) q1)) q⟩⟩
def Me {m:List PV->W PV} (hc:bL X (.type id) r) (hB:CQ K r m) (hg:Gl X x) (hm:X.mg x=none) (hv:bootBuiltins x=some (.type id)) (ha:QF X K fs e wl) (hn:x≠"__name__":=by decide) (oU:(x==("__debug__":Str))=false:=by decide)
  (he:starEach [e] X.env=(false,eval e X.env)::starEach [] X.env:=by rfl) (ef:(backTo pos (starEach [] X.env)).any (·.1)=false:=by rfl):EF X K fs (.Call (.Name x p) [e] [] pos) (.bind wl m):=⟨PE.imp (ml hc hg hm hv (bc ha.p cE he) hn oU he ef) fun σ H Q ⟨sr,q⟩=>⟨sr,wl.mono (fun l q1 u H1 g1 s1 v1=>hB s1 v1 ((m l).mono (fun z q u H' g s v=>q u H' (g1.trans g) s v) q1)) q⟩⟩
def abB {m:List PV->W (List PV)} (hc:bL X (.builtin id) r) (hB:CL K r m) (hg:Gl X x) (hm:X.mg x=none) (hv:bootBuiltins x=some (.builtin id)) (ha:QF X K fs e wl) (hn:x≠"__name__":=by decide) (oU:(x==("__debug__":Str))=false:=by decide)
  (he:starEach [e] X.env=(false,eval e X.env)::starEach [] X.env:=by rfl) (ef:(backTo pos (starEach [] X.env)).any (·.1)=false:=by rfl):LF X K fs (.Call (.Name x p) [e] [] pos) (.bind wl m):=⟨PE.imp (e7 hc hg hm hv (bc ha.p cE he) hn oU he ef) fun σ H Q ⟨sr,q⟩=>⟨sr,wl.mono (fun l q1 u H1 g1 s1 v1=>hB s1 v1 ((m l).mono (fun z q a vs H' g s n e v=>q a vs H' (g1.trans g) s (g1.there a n) e v) q1)) q⟩⟩
def Ov {m:List PV->W (List PV)} (hc:bL X (.type id) r) (hB:CL K r m) (hg:Gl X x) (hm:X.mg x=none) (hv:bootBuiltins x=some (.type id)) (ha:QF X K fs e wl) (hn:x≠"__name__":=by decide) (oU:(x==("__debug__":Str))=false:=by decide)
  (he:starEach [e] X.env=(false,eval e X.env)::starEach [] X.env:=by rfl) (ef:(backTo pos (starEach [] X.env)).any (·.1)=false:=by rfl):LF X K fs (.Call (.Name x p) [e] [] pos) (.bind wl m):=⟨PE.imp (ml hc hg hm hv (bc ha.p cE he) hn oU he ef) fun σ H Q ⟨sr,q⟩=>⟨sr,wl.mono (fun l q1 u H1 g1 s1 v1=>hB s1 v1 ((m l).mono (fun z q a vs H' g s n e v=>q a vs H' (g1.trans g) s (g1.there a n) e v) q1)) q⟩⟩
end
def oC (l:List PV):W PV:=.ret (.int l.length)
def R8 (K:Aa):CQ K (Vj K) oC:=fun {fs σ H Q u l} s v q=>by
 obtain⟨a,vs,rfl,h,rs⟩:=v.sq s;refine⟨_,vs.length,rfl,?_,?_⟩
 ·exact h.elim (fun h=>.inl ⟨_,h,rfl⟩) fun h=>.inr ⟨_,h,rfl⟩
 ·rw [rs.length];exact q _ H .refl s (.int _)
def ng (l:List PV):W PV:=.ret (.tup l)
def Q1 (K:Aa):CQ K (Nv K) ng:=fun {fs σ H Q u l} s v q=>by
 have fresh:∀{a:Addr}{vs:List V},cT K H a vs->aH K [] H vs l->Nv K [.ref a] H Q:=fun {a vs} h rs=>⟨a,vs,rfl,.inl ⟨h,fun p H2 s2 e2 n2=>q _ H2 (cU.same s2) (s.same s2) (.tup e2 (aH.tk s2.fv rs))⟩⟩;rcases v with⟨a,vs,rfl,h | h,rs⟩ | ⟨a,rfl,⟨n,vs,h,rs⟩ | ⟨i,_,q1,q2⟩⟩
 ·exact fresh h.sq rs
 ·exact⟨a,vs,rfl,.inr ⟨dc.of h,q _ H .refl s (.tup h rs)⟩⟩
 ·exact fresh (cT.of h) rs
 ·obtain⟨_,vs,h,rs⟩:=s.ownAt q1 rfl q2;exact fresh (cT.of h) rs
end
end
section
open PySem PySem.Spec PyProof.Rows L2 PL
variable {K:Aa}
def vg (vs:List V) (ks:List AK) (φ:List V->Prop) (a:Addr):Prop:=∃i:Nat,ks[i]?=some (.p φ)/\vs[i]?=some (.ref a)
structure GoC (vs:List V) (ks:List AK) (H H':Hp):Prop where
 keep:∀a o,H a=some o->(∀φ,¬vg vs ks φ a)->H' a=some o
 there:∀a,H' a=none->H a=none
 Vt:∀a φ,vg vs ks φ a->∃ws,H' a=some (.lst ws)/\φ ws
inductive jg (K:Aa) (H:Hp):List V->List AK->List PV->Prop
 | nil:jg K H [] [] []
 | v {u:V}{x:PV}{vs:List V}{ks:List AK}{l:List PV} (r:VR K [] H u x) (t:jg K H vs ks l):jg K H (u::vs) (.v::ks) (x::l)
 | p {a:Addr}{φ:List V->Prop}{ws vs:List V}{ks:List AK}{l:List PV} (e:H a=some (.lst ws)) (r:φ ws) (t:jg K H vs ks l):jg K H (.ref a::vs) (.p φ::ks) l
 | f {a:Addr}{vs:List V}{ks:List AK}{l:List PV} (t:jg K H vs ks l):jg K H (.ref a::vs) (.f a::ks) l
def kU (K:Aa) (ks:List AK) (m:List PV->W PV):Sp:=fun vs H Q _=>∃l,jg K H vs ks l/\(m l).run fun v=>∀u H',GoC vs ks H H'->VR K [] H' u v->Q u H'
def jh (K:Aa) (ks:List AK) (m:List PV->W (List PV)):Sp:=fun vs H Q _=>∃l,jg K H vs ks l/\(m l).run fun z=>∀a ws H',GoC vs ks H H'->H a=none->H' a=some (.lst ws)->aH K [] H' ws z->Q (.ref a) H'
def QQ (R:Type):Nat->Type
 | 0=>W R
 | n+1=>PV->QQ R n
def dU {R:Type}:(n:Nat)->QQ R n->List PV->W R
 | 0,m,[]=>m
 | n+1,m,x::l=>dU n (m x) l
 | 0,_,_::_=>.fail
 | _+1,_,[]=>.fail
section
variable {σ:L2.St}{fs:aV}{H H':Hp}{vs:List V}{ks:List AK}{l:List PV}
def gr.gF (h:gr K σ fs H vs ks l) {φ:List V->Prop}{a:Addr} (p:vg vs ks φ a):fq σ fs φ a:=by
 obtain⟨i,e1,e2⟩:=p
 induction h generalizing i with
 | nil=>simp at e1
 | v r t ih=>cases i with | zero=>simp at e1 | succ i=>exact ih i (by simpa using e1) (by simpa using e2)
 | p r t ih=>
  cases i with
  | zero=>simp at e1 e2;subst e1;subst e2;exact r
  | succ i=>exact ih i (by simpa using e1) (by simpa using e2)
 | f t ih=>cases i with | zero=>simp at e1 | succ i=>exact ih i (by simpa using e1) (by simpa using e2)
def gr.c (h:gr K σ fs H vs ks l) (s:aQ K H σ fs):jg K H vs ks l:=by
 induction h with
 | nil=>exact .nil
 | v r t ih=>exact .v r ih
 | p r t ih=>
  obtain⟨i,e1,e2⟩:=r;obtain⟨ws,q,x⟩:=s.ownAt e1 rfl e2;exact .p q x ih
 | f t ih=>exact .f ih
def GoC.caller (g:GoC vs ks H H') (h:gr K σ fs H vs ks l) (s:aQ K H σ fs):aQ K H' σ fs/\cU σ fs H H':=by
 have po:∀{φ:List V->Prop}{a:Addr},vg vs ks φ a->da σ fs a:=fun {φ a} p=>let ⟨i,e1,e2⟩:=h.gF p;⟨i,_,_,e1,rfl,e2,.inl rfl⟩;have gf:cU σ fs H H':=⟨fun a o e n=>g.keep a o e fun φ p=>n φ (h.gF p),g.there⟩;have tk:=gf.eT s;refine⟨⟨s.len,fun i t e=>?_,s.nd⟩,gf⟩;obtain⟨u,h1,h2⟩:=s.at' i t e;refine⟨u,h1,?_⟩;rcases h2 with⟨v,q,r⟩ | ⟨a,q,r⟩
 ·exact .inl ⟨v,q,VR.tk tk r⟩
 ·subst q;refine .inr ⟨a,rfl,?_⟩;by_cases c:(∃φ,vg vs ks φ a)/\t.own=true
  ·obtain⟨⟨φ,p⟩,ow⟩:=c;obtain⟨j,e1,e2⟩:=h.gF p;have ij:=s.nd i j t _ a a a e e1 ow rfl h1 e2 (.inl rfl) (.inl rfl);subst ij;rw [e] at e1;cases e1;exact g.Vt a φ p
  ·refine r.mono tk (fun b o ow hb z=>g.keep b o z fun φ p=>?_);obtain⟨j,e1,e2⟩:=h.gF p;have ij:=s.nd i j t _ a b b e e1 ow rfl h1 e2 hb (.inl rfl);subst ij;rw [h1] at e2;cases e2;exact c ⟨⟨φ,p⟩,ow⟩
end
section
variable {X:Cx}{e:Expr}{es:List Expr}{pos p:Pos}{fs:aV}{k k':Nat}{ps:List Str}{x:Str}{ks:List AK}
def W8 {m:List PV->W PV}{B:(List PV->W PV)->W PV} (G:TR X.prog X.w X.K X.mg X.base x k ps (kU K ks m)) (hr:fY k' X.A) (hk:k<=k') (hg:Gl X x) (ha:AF X K fs (e::es) ks B) (oU:(x==("__debug__":Str))=false:=by decide)
  (he:starEach (e::es) X.env=(false,eval e X.env)::starEach es X.env:=by rfl) (ef:(backTo pos (starEach es X.env)).any (·.1)=false:=by rfl):EF X K fs (.Call (.Name x p) (e::es) [] pos) (B m):=by
 obtain⟨w,hp,hB⟩:=ha.p;rw [hB];exact⟨PE.imp (NV G hr hk hg hp oU he ef) fun σ H Q ⟨sr,q⟩=>⟨sr,w.mono (fun l q1 vs H1 g1 s1 v1=>⟨l,v1.c s1,(m l).mono (fun z q2 u H2 g2 r2=>let ⟨s2,g3⟩:=g2.caller v1 s1;q2 u H2 (g1.trans g3) s2 r2) q1⟩) q⟩⟩
def V9 {m:List PV->W (List PV)}{B:(List PV->W (List PV))->W (List PV)} (G:TR X.prog X.w X.K X.mg X.base x k ps (jh K ks m)) (hr:fY k' X.A) (hk:k<=k') (hg:Gl X x) (ha:AF X K fs (e::es) ks B) (oU:(x==("__debug__":Str))=false:=by decide)
  (he:starEach (e::es) X.env=(false,eval e X.env)::starEach es X.env:=by rfl) (ef:(backTo pos (starEach es X.env)).any (·.1)=false:=by rfl):LF X K fs (.Call (.Name x p) (e::es) [] pos) (B m):=by
 obtain⟨w,hp,hB⟩:=ha.p;rw [hB];exact⟨PE.imp (NV G hr hk hg hp oU he ef) fun σ H Q ⟨sr,q⟩=>⟨sr,w.mono (fun l q1 vs H1 g1 s1 v1=>⟨l,v1.c s1,(m l).mono (fun z q2 a ws H2 g2 n2 e2 r2=>let ⟨s2,g3⟩:=g2.caller v1 s1;q2 a ws H2 (g1.trans g3) s2 (g1.there a n2) e2 r2) q1⟩) q⟩⟩
end
end
section
open PySem PySem.Spec PyProof.Rows L2 PL
variable {K:Aa}
inductive End where
 | nx (fs:aV) | nc (fs:aV) | ct (fs:aV) | rt (v:PV) | rl (l:List PV) | bk (fs:aV) | ro (v:PV) (a:Addr) (l:List PV)
def Fl (σ:L2.St) (fs:aV) (H:Hp) (a:Addr):Prop:=H a=none\/∃(i:Nat) (s:SL) (x:Addr),fs[i]?=some (some s)/\s.own=true/\(∀φ,s≠.gF φ)/\σ[i]?=some (some (.ref x))/\s.has x a
def bX (K:Aa) (x:Bool) (σ:L2.St) (fs:aV) (H:Hp) (D:Ends):End->Prop
 | .nx bE=>x=false->∀σ' H',cK σ fs H σ' bE H'->aQ K H' σ' bE->D.nx σ' H'
 | .nc bE=>∀σ' H',cK σ fs H σ' bE H'->aQ K H' σ' bE->(x=false->D.nx σ' H')/\D.ct σ' H'
 | .ct bE=>∀σ' H',cK σ fs H σ' bE H'->aQ K H' σ' bE->D.ct σ' H'
 | .bk bE=>∀σ' H',cK σ fs H σ' bE H'->aQ K H' σ' bE->D.bk σ' H'
 | .rt v=>∀u σ' bE H',cK σ fs H σ' bE H'->aQ K H' σ' bE->VR K [] H' u v->D.rt u H'
 | .ro v a l=>∀u σ' bE H',cK σ fs H σ' bE H'->aQ K H' σ' bE->(∃i:Nat,bE[i]?=some (some (.ol (some a) l)))->VR K [] H' u v->D.rt u H'
 | .rl l=>∀a ws σ' bE H',cK σ fs H σ' bE H'->aQ K H' σ' bE->Fl σ fs H a->H' a=some (.lst ws)->aH K [] H' ws l->D.rt (.ref a) H'
def fS (K:Aa) (x:Bool) (fs:aV) {T:Type} (w:W T) (out:T->End):TS:=fun D σ H=>aQ K H σ fs/\w.run fun t=>bX K x σ fs H D (out t)
structure SF (X:Cx) (K:Aa) (x:Bool) (fs:aV) (QE:List Stmt) {T:Type} (w:W T) (out:T->End):Prop where p:sQ X QE (fS K x fs w out)
section
variable {σ σ1:L2.St}{fs SN:aV}{H H1:Hp}{D:Ends}{x:Bool}
def Fl.go {a:Addr} (g:cK σ fs H σ1 SN H1) (s:aQ K H σ fs) (s1:aQ K H1 σ1 SN) (h:Fl σ1 SN H1 a):Fl σ fs H a:=by
 rcases h with h | ⟨i,t,x,e1,e2,np,e3,e4⟩
 ·exact .inl (g.there a h)
 ·cases z:H a with
  | none=>exact .inl z
  | some o=>
   by_cases c:da σ fs a
   ·obtain⟨j,t',y,c1,c2,c3,c4⟩:=c;by_cases d:∃φ,t'=.gF φ
    ·obtain⟨φ,rfl⟩:=d;rcases c4 with rfl | c4
     ·rcases g.pk a φ ⟨j,c1,c3⟩ with⟨k,k1,k2⟩ | ⟨n,_⟩
      ·have:=s1.nd i k t _ x a a e1 k1 e2 rfl e3 k2 e4 (.inl rfl);subst this;rw [e1] at k1;cases k1;exact absurd rfl (np φ)
      ·exact absurd ⟨i,t,x,e1,e2,e3,e4⟩ n
     ·cases c4
    ·exact .inr ⟨j,t',y,c1,c2,fun φ e=>d ⟨φ,e⟩,c3,c4⟩
   ·exact absurd ⟨i,t,x,e1,e2,e3,e4⟩ (g.keep a o z c).2
def bX.go (g:cK σ fs H σ1 SN H1) (s:aQ K H σ fs) (s1:aQ K H1 σ1 SN) {E:End} (h:bX K x σ fs H D E):bX K x σ1 SN H1 D E:=by
 cases E with
 | nx bE=>exact fun hx σ' H' g' s'=>h hx σ' H' (g.trans g') s'
 | nc bE=>exact fun σ' H' g' s'=>h σ' H' (g.trans g') s'
 | bk bE=>exact fun σ' H' g' s'=>h σ' H' (g.trans g') s'
 | ct bE=>exact fun σ' H' g' s'=>h σ' H' (g.trans g') s'
 | rt v=>exact fun u σ' bE H' g' s' r=>h u σ' bE H' (g.trans g') s' r
 | ro v a l=>exact fun u σ' bE H' g' s' o r=>h u σ' bE H' (g.trans g') s' o r
 | rl l=>exact fun a ws σ' bE H' g' s' f e r=>h a ws σ' bE H' (g.trans g') s' (f.go g s s1) e r
def bX.exit {D':Ends} (h1:D'.rt=D.rt) (h2:D'.ct=D.ct) (h3:D'.bk=D.bk) {E:End} (h:bX K x σ fs H D E):bX K true σ fs H D' E:=by
 cases E with
 | nx bE=>exact fun hx=>nomatch hx
 | nc bE=>exact fun σ' H' g' s'=>⟨fun hx=>(nomatch hx),h2▸(h σ' H' g' s').2⟩
 | bk bE=>exact fun σ' H' g' s'=>h3▸h σ' H' g' s'
 | ct bE=>exact fun σ' H' g' s'=>h2▸h σ' H' g' s'
 | rt v=>exact fun u σ' bE H' g' s' r=>h1▸h u σ' bE H' g' s' r
 | ro v a l=>exact fun u σ' bE H' g' s' o r=>h1▸h u σ' bE H' g' s' o r
 | rl l=>exact fun a ws σ' bE H' g' s' f e r=>h1▸h a ws σ' bE H' g' s' f e r
end
section
variable {X:Cx}{a b c e o:Expr}{pos p:Pos}{fs bE:aV}{st:Stmt}{QE rest sa sb:List Stmt}{T T1:Type}{w wk:W T}{out:T->End}{we:W PV}{wl:W (List PV)}{x:Bool}
def End.OK:End->Prop
 | .rt _=>True
 | .rl _=>True
 | .ro _ _ _=>True
 | _=>False
def bX.acW {σ:L2.St}{H:Hp}{D D':Ends}{y:Bool}{E:End} (ho:E.OK) (e:D'.rt=D.rt) (h:bX K x σ fs H D E):bX K y σ fs H D' E:=by
 cases E with
 | rt v=>exact fun u σ' bE H' g s r=>e▸h u σ' bE H' g s r
 | rl v=>exact fun a ws σ' bE H' g s f ea r=>e▸h a ws σ' bE H' g s f ea r
 | ro v a l=>exact fun u σ' bE H' g s o r=>e▸h u σ' bE H' g s o r
 | _=>exact ho.elim
def FJ (X:Cx) (K:Aa) (x:Bool) (rest:List Stmt) {T:Type} (out:T->End):TS:=fun D σ H=>∃bE w',SF X K x bE rest w' out/\fS K x bE w' out D σ H
def Rn:sQ X rest (FJ X K x rest out):=fun pins s σ H D I ⟨bE,w',h,q⟩=>h.p pins s σ H D I q
def N9:sQ X rest U1:=fun _ _ _ _ _ _ h=>h.elim
def SF.step {t:TS} (h:PS X st t) (hq:∀D σ H,fS K x fs w out D σ H->t {D with nx:=FJ X K x rest out D} σ H):SF X K x fs (st::rest) w out:=⟨sQ.imp (F4 h Rn) fun D σ H q=>hq D σ H q⟩
def SF.last {t:TS} (h:PS X st t) (hq:∀D σ H,fS K x fs w out D σ H->t {D with nx:=fun _ _=>False} σ H):SF X K x fs (st::rest) w out:=⟨sQ.imp (F4 h N9) fun D σ H q=>hq D σ H q⟩
def SF.nil {t:T} (h:out t=.nx bE) (hl:jH fs bE):SF X K false fs [] (.ret t) out:=⟨sQ.imp yg fun D σ H ⟨sr,q⟩=>by
 have q:bX K false σ fs H D (out t):=q;rw [h] at q;exact q rfl σ H (cK.le sr hl) (sr.le hl)⟩
def SF.gc {t:T} (h:out t=.nc bE) (hl:jH fs bE):SF X K false fs [] (.ret t) out:=⟨sQ.imp yg fun D σ H ⟨sr,q⟩=>by
 have q:bX K false σ fs H D (out t):=q;rw [h] at q;exact (q σ H (cK.le sr hl) (sr.le hl)).1 rfl⟩
def SF.cont {t:T} (h:out t=.nc bE\/out t=.ct bE) (hl:jH fs bE):SF X K x fs (.Continue pos::rest) (.ret t) out:=SF.last F6 fun D σ H ⟨sr,q⟩=>by
 have q:bX K x σ fs H D (out t):=q;rcases h with h | h
 ·rw [h] at q;exact (q σ H (cK.le sr hl) (sr.le hl)).2
 ·rw [h] at q;exact q σ H (cK.le sr hl) (sr.le hl)
def SF.ret {k:PV->T} (he:EF X K fs e we) (h:∀v,out (k v)=.rt v):SF X K x fs (.Return (some e) pos::rest) (.bind we fun v=>.ret (k v)) out:=SF.last (yh he.p) fun D σ H ⟨sr,q⟩=>⟨sr,we.mono (fun v q1 u H1 g1 s1 v1=>by
 have q1:bX K x σ fs H D (out (k v)):=q1;rw [h] at q1;exact q1 u σ fs H1 g1.f s1 v1) q⟩
def SF.eI {out:PV->End} (he:EF X K fs e we) (h:∀v,out v=.rt v):SF X K x fs (.Return (some e) pos::rest) we out:=SF.ret (k:=fun v=>v) he h
def SF.acP {k:List PV->T} (he:LF X K fs e wl) (h:∀l,out (k l)=.rl l):SF X K x fs (.Return (some e) pos::rest) (.bind wl fun l=>.ret (k l)) out:=SF.last (yh he.p) fun D σ H ⟨sr,q⟩=>⟨sr,wl.mono (fun l q1 a ws H1 g1 s1 n e v1=>by
 have q1:bX K x σ fs H D (out (k l)):=q1;rw [h] at q1;exact q1 a ws σ fs H1 g1.f s1 (.inl n) e v1) q⟩
def SF.mN {out:List PV->End} (he:LF X K fs e wl) (h:∀v,out v=.rl v):SF X K x fs (.Return (some e) pos::rest) wl out:=SF.acP (k:=fun v=>v) he h
def SF.Nr (i:Nat) {y:Str}{q0:Option Addr}{l:List PV}{t:T} (hs:fs[i]?=some (some (.ol q0 l))) (h:out t=.rl l) (hN:X.N[i]?=some y:=by rfl) (hv:xw X.env.scope y:=by first | exact Ck rfl | exact Cd (Ck rfl) | exact Cd (Cd rfl)) (hd:(y==("__debug__":Str))=false:=by decide) (iW:(y==("__classdict__":Str))=false:=by decide):SF X K x fs (.Return (some (.Name y p)) pos::rest) (.ret t) out:=SF.last (yh (dg hN hv hd iW)) fun D σ H ⟨sr,q⟩=>by
 have q:bX K x σ fs H D (out t):=q;rw [h] at q;obtain⟨u,e1,r⟩:=sr.at' i _ hs;rcases r with⟨v,e,_⟩ | ⟨a,e,r⟩
 ·cases e
 ·subst e;obtain⟨_,ws,q1,q2⟩:=r;exact⟨_,e1,q a ws σ fs H .refl sr (.inr ⟨i,_,_,hs,rfl,by simp,e1,.inl rfl⟩) q1 q2⟩
def SF.Y4 (i:Nat) {ad:Addr}{l:List PV}{k:PV->T} (hs:fs[i]?=some (some (.ol (some ad) l))) (he:EF X K fs e we) (h:∀v,out (k v)=.ro v ad l):SF X K x fs (.Return (some e) pos::rest) (.bind we fun v=>.ret (k v)) out:=SF.last (yh he.p) fun D σ H ⟨sr,q⟩=>⟨sr,we.mono (fun v q1 u H1 g1 s1 v1=>by
 have q1:bX K x σ fs H D (out (k v)):=q1;rw [h] at q1;exact q1 u σ fs H1 g1.f s1 ⟨i,hs⟩ v1) q⟩
def SF.expr {k:PV->W T} (he:EF X K fs e we) (hr:∀v,SF X K x fs rest (k v) out) (hs:swapsWith e none pos.line X.env=pure false:=by rfl):SF X K x fs (.Expr e pos::rest) (.bind we k) out:=SF.step (oo he.p hs) fun D σ H ⟨sr,q⟩=>
 ⟨sr,we.mono (fun v q1 u H1 g1 s1 v1=>⟨fs,k v,hr v,s1,(k v).mono (fun t q2=>q2.go g1.f sr s1) q1⟩) q⟩
def SF.set {i:Nat}{y:Str}{p':Pos}{k:PV->W T} (hN:X.N.Nodup) (hi:X.N[i]?=some y) (hx:Loc X.env.scope y) (he:EF X K fs e we) (hr:∀v,SF X K x (fs.set i (some (.val v))) rest (k v) out) (hs:swapsWith e (some (.Name y p')) pos.line X.env=pure false:=by rfl)
  (hf:X.fn y=true\/X.env.scope.names.lookup y=some .local:=by first | exact .inl rfl | exact .inr rfl | assumption):SF X K x fs (.Assign [.Name y p'] e pos::rest) (.bind we k) out:=SF.step (tN hN hi hx he.p hs hf) fun D σ H ⟨sr,q⟩=>
 ⟨sr,we.mono (fun v q1 u H1 g1 s1 v1=>⟨_,k v,hr v,s1.eZ v1 i,(k v).mono (fun t q2=>q2.go (g1.f.trans (cK.eZ s1 u v i)) sr (s1.eZ v1 i)) q1⟩) q⟩
def SF.acN {i:Nat}{y:Str}{p':Pos}{k:List PV->W T} (hN:X.N.Nodup) (hi:X.N[i]?=some y) (hx:Loc X.env.scope y) (he:LF X K fs e wl) (hr:∀l,SF X K x (fs.set i (some (.ol none l))) rest (k l) out) (hs:swapsWith e (some (.Name y p')) pos.line X.env=pure false:=by rfl)
  (hf:X.fn y=true\/X.env.scope.names.lookup y=some .local:=by first | exact .inl rfl | exact .inr rfl | assumption):SF X K x fs (.Assign [.Name y p'] e pos::rest) (.bind wl k) out:=SF.step (tN hN hi hx he.p hs hf) fun D σ H ⟨sr,q⟩=>by
 refine⟨sr,wl.mono (fun l q1 a ws H1 g1 s1 n e v1=>?_) q⟩;have no:=sr.noOwn n;have s2:=s1.tM (t:=.ol none l) ⟨by simp,ws,e,v1⟩ no i;exact⟨_,k l,hr l,s2,(k l).mono (fun t q2=>q2.go (cK.tM s1 g1.f no n i) sr s2) q1⟩
def SF.c7 (i:Nat) {q0:Option Addr}{l:List PV} (hs:fs[i]?=some (some (.ol q0 l))) (hr:SF X K x (fs.set i (some (.val (.cl l)))) QE w out):SF X K x fs QE w out:=⟨fun pins s σ H D I ⟨sr,q⟩=>by
 obtain⟨u,e1,r⟩:=sr.at' i _ hs;rcases r with⟨v,e,_⟩ | ⟨a,e,_,ws,q1,q2⟩
 ·cases e
 ·subst e;obtain⟨ob,I2⟩:=I.sG q1;have tk:=mi (K:=K) (.c7 ob (.lst ws)) q1;have sS:σ.set i (some (.ref a))=σ:=BE fun j=>by
   by_cases c:j=i
   ·subst c;rw [cm ((Aj.mp e1).1),e1]
   ·rw [aF c]
  have ow:∀b,da σ (fs.set i (some (.val (.cl l)))) b->da σ fs b:=fun b z=>by
   obtain⟨j,t,x,z1,z2,z3,z4⟩:=z;rcases aY z1 with⟨rfl,rfl⟩ | ⟨n,z1⟩
   ·cases z2
   ·exact⟨j,t,x,z1,z2,z3,z4⟩
  have na:¬da σ (fs.set i (some (.val (.cl l)))) a:=fun z=>by
   obtain⟨j,t,x,z1,z2,z3,z4⟩:=z;rcases aY z1 with⟨rfl,rfl⟩ | ⟨n,z1⟩
   ·cases z2
   ·exact n (sr.nd j i t _ x a a z1 hs z2 rfl z3 e1 z4 (.inl rfl))
  have s2:aQ K (upd H a (.c7 ob (.lst ws))) σ (fs.set i (some (.val (.cl l)))):=by
   refine⟨by simp [sr.len],fun j t z=>?_,fun j k t u b1 b2 b z1 z2 o1 o2=>?_⟩
   ·rcases aY z with⟨rfl,rfl⟩ | ⟨n,z⟩
    ·exact⟨_,e1,.inl ⟨_,rfl,.cl (.inl ⟨ob,aM⟩) (aH.tk tk q2)⟩⟩
    ·obtain⟨u,h1,h2⟩:=sr.at' j t z;exact⟨u,h1,h2.mono tk (fun x b o eb ow hb zz=>by
      subst eb;rw [av (fun y=>by subst y;exact n (sr.nd j i t _ x b b z hs ow rfl h1 e1 hb (.inl rfl)))];exact zz)⟩
   ·rcases aY z1 with⟨rfl,rfl⟩ | ⟨n1,z1⟩
    ·cases o1
    ·rcases aY z2 with⟨rfl,rfl⟩ | ⟨n2,z2⟩
     ·cases o2
     ·exact sr.nd j k t u b1 b2 b z1 z2 o1 o2
  have g2:cK σ fs H σ (fs.set i (some (.val (.cl l)))) (upd H a (.c7 ob (.lst ws))):=by
   refine⟨fun b o z n=>⟨?_,fun y=>n (ow b y)⟩,fun b z=>?_,fun b φ z=>?_⟩
   ·rw [av (fun y=>by subst y;exact n ⟨i,_,_,hs,rfl,e1,.inl rfl⟩)];exact z
   ·by_cases c:b=a
    ·subst c;rw [aM] at z;cases z
    ·rw [av c] at z;exact z
   ·obtain⟨j,z1,z2⟩:=z;have:j≠i:=fun y=>by subst y;rw [hs] at z1;cases z1
    exact .inl ⟨j,by rw [aF this];exact z1,z2⟩
  exact hr.p pins s σ _ D I2 ⟨s2,w.mono (fun t q3=>q3.go g2 sr s2) q⟩⟩
variable {tc:W Bool}
def SF.ifT (hc:TF X K fs c tc) (ha:SF X K x fs sa w out) (hb:SF X K x fs sb wk out):SF X K x fs [.If c sa sb pos] (.bind tc fun b=>if b=true then w else wk) out:=⟨sQ.imp (Ru (NK hc.p ha.p hb.p)) fun D σ H ⟨sr,q⟩=>⟨sr,tc.mono (fun k q1 H1 g1 s1=>by
 cases k with
 | true=>exact GI ⟨s1,w.mono (fun t q2=>q2.go g1.f sr s1) q1⟩
 | false=>exact GJ ⟨s1,wk.mono (fun t q2=>q2.go g1.f sr s1) q1⟩) q⟩⟩
def SF.MK (hc:TF X K fs c tc) (ha:SF X K true fs sa w out) (hb:SF X K x fs rest wk out):SF X K x fs (.If c sa [] pos::rest) (.bind tc fun b=>if b=true then w else wk) out:=SF.step (NK hc.p ha.p yg) fun D σ H ⟨sr,q⟩=>⟨sr,tc.mono (fun k q1 H1 g1 s1=>by
 cases k with
 | true=>exact GI ⟨s1,w.mono (fun t q2=>bX.exit (D:=D) (D':={D with nx:=FJ X K x rest out D}) rfl rfl rfl (q2.go g1.f sr s1)) q1⟩
 | false=>exact GJ ⟨fs,wk,hb,s1,wk.mono (fun t q2=>q2.go g1.f sr s1) q1⟩) q⟩
def Xz (X:Cx) (K:Aa) (x:Bool) (rest:List Stmt) {T:Type} (w:W T) (out:T->End):End->Prop
 | .nx bE=>SF X K x bE rest w out
 | .nc bE=>False
 | .bk bE=>∃t,w=.ret t/\out t=.bk bE
 | .ct bE=>∃t,w=.ret t/\(out t=.ct bE\/out t=.nc bE)
 | .rt v=>∃t,w=.ret t/\out t=.rt v
 | .rl l=>∃t,w=.ret t/\out t=.rl l
 | .ro v a l=>∃t,w=.ret t/\out t=.ro v a l
def Xz.r {σ:L2.St}{H:Hp}{D:Ends}{E:End} (sr:aQ K H σ fs) (h:Xz X K x rest w out E) (q:w.run fun t=>bX K x σ fs H D (out t)):bX K false σ fs H {D with nx:=FJ X K x rest out D} E:=by
 cases E with
 | nx bE=>exact fun _ σ' H' g' s'=>⟨bE,w,h,s',w.mono (fun t q2=>q2.go g' sr s') q⟩
 | nc bE=>exact h.elim
 | bk bE=>
  obtain⟨t,rfl,h⟩:=h;have q:bX K x σ fs H D (out t):=q;rw [h] at q;exact q
 | ct bE=>
  obtain⟨t,rfl,h⟩:=h;have q:bX K x σ fs H D (out t):=q;rcases h with h | h
  ·rw [h] at q;exact q
  ·rw [h] at q;exact fun σ' H' g s=>(q σ' H' g s).2
 | rt v=>
  obtain⟨t,rfl,h⟩:=h;have q:bX K x σ fs H D (out t):=q;rw [h] at q;exact q
 | rl v=>
  obtain⟨t,rfl,h⟩:=h;have q:bX K x σ fs H D (out t):=q;rw [h] at q;exact q
 | ro v a l=>
  obtain⟨t,rfl,h⟩:=h;have q:bX K x σ fs H D (out t):=q;rw [h] at q;exact q
variable {w1 w2:W T1}{out1:T1->End}{k:T1->W T}
def SF.ifS (hc:TF X K fs c tc) (ha:SF X K false fs sa w1 out1) (hb:SF X K false fs sb w2 out1) (hr:∀t,Xz X K x rest (k t) out (out1 t)):SF X K x fs (.If c sa sb pos::rest) (.bind tc fun b=>.bind (if b=true then w1 else w2) k) out:=SF.step (NK hc.p ha.p hb.p) fun D σ H ⟨sr,q⟩=>⟨sr,tc.mono (fun b q1 H1 g1 s1=>by
 have fin:∀t,(k t).run (fun t=>bX K x σ fs H D (out t))->bX K false σ fs H {D with nx:=FJ X K x rest out D} (out1 t):=fun t q=>(hr t).r sr q;cases b with
 | true=>exact GI ⟨s1,w1.mono (fun t q2=>(fin t q2).go g1.f sr s1) q1⟩
 | false=>exact GJ ⟨s1,w2.mono (fun t q2=>(fin t q2).go g1.f sr s1) q1⟩) q⟩
end
end
section
open PySem PySem.Spec PyProof.Rows L2 PL
variable {K:Aa}
def JF (K:Aa) (H:Hp) (J:It) (l:List PV):Prop:=l.length<=sizeLine/\∀H',bq K H H'->(∀(i:Nat) (p:PV),l[i]?=some p->J.go i H'/\∀x H2,J.TV i H' x H2->kG H' H2/\VR K [] H2 x p)/\J.stop l.length H'
def JF.tk {H H':Hp}{J:It}{l:List PV} (t:bq K H H') (h:JF K H J l):JF K H' J l:=⟨h.1,fun H2 t2=>h.2 H2 (bq.trans t t2)⟩
def fIt (K:Aa) (fs:aV) (w:W (List PV)):TI:=fun σ H R=>aQ K H σ fs/\w.run fun l=>∀J H',cU σ fs H H'->aQ K H' σ fs->JF K H' J l->R J H'
structure sR (X:Cx) (K:Aa) (fs:aV) (tg e:Expr) (w:W (List PV)):Prop where p:PI X tg e (fIt K fs w)
section
variable {X:Cx}{a b c e tg:Expr}{pos p p1 p2:Pos}{fs:aV}{wa wb wc:W PV}{wl:W (List PV)}
def TH {H:Hp}{ad:Addr}{vs:List V}{l:List PV} (h:TK K H ad vs) (r:aH K [] H vs l) (hz:l.length<=sizeLine):JF K H (Itl K ad) l:=⟨hz,fun H' t=>by
 have e1:=(t.f _ _ h).sq;have e2:=aH.tk t r;refine⟨fun i p hp=>?_,vs,e1,by rw [e2.length];exact Am _⟩;obtain⟨v,h3,h4⟩:=e2.get hp;refine⟨⟨vs,v,e1,h3⟩,fun x H3 y=>?_⟩;obtain⟨rfl,y⟩:=y;have:=y vs e1;rw [h3] at this;cases this;exact⟨kG.refl _,h4⟩⟩
def Xx {H:Hp}{ad:Addr}{vs:List V}{l:List PV} (h:H ad=some (.tup vs)) (r:aH K [] H vs l) (hz:l.length<=sizeLine):JF K H (Itt K ad) l:=⟨hz,fun H' t=>by
 have e1:=dc.of (K:=K) (t.t _ _ h);have e2:=aH.tk t r;refine⟨fun i p hp=>?_,vs,e1,by rw [e2.length];exact Am _⟩;obtain⟨v,h3,h4⟩:=e2.get hp;refine⟨⟨vs,v,e1,h3⟩,fun x H3 y=>?_⟩;obtain⟨rfl,y⟩:=y;have:=y vs e1;rw [h3] at this;cases this;exact⟨kG.refl _,h4⟩⟩
def cS (hK:X.K=K) (h:IF X K fs e wl):sR X K fs tg e wl:=⟨by
 subst hK;intro pins s σ H R I ⟨sr,q⟩;refine bM (h.p pins s σ H (fun u H1=>∃l,Xu X.K H1 u l/\∀J,JF X.K H1 J l->R J H1) I ⟨sr,wl.mono (fun l q1 u H1 g1 s1 v1=>⟨l,v1,fun J j=>q1 J H1 g1 s1 j⟩) q⟩) fun v s1 ⟨x,H1,I1,r1,l,⟨ad,vs,e,hh,rs⟩,q1⟩=>?_;subst e;cases r1;rcases hh with hh | hh
 ·obtain⟨ar,rv,pl,hz⟩:=I1.list hh.sq;refine Cr pl.isList ?_;refine⟨s1.heap.objs.size,[s1.heap.objs.size],_,_,H1,rfl,I1.kept (t':=s1.toks) fun b o e=>Ak _ e,K3 ad _,⟨_,An _ rfl,rfl,rfl⟩,fun b hb=>?_,q1 _ (TH hh rs (by rw [<- rs.length];exact hz))⟩;have e:b=s1.heap.objs.size:=by simpa using hb
  subst e;exact I1.zb (Am _) (I1.bD.fresh (Am _))
 ·obtain⟨ar,rv,pl,hz⟩:=I1.tuple (dc.of hh);refine Cj (show s1.heap.IsTuple ad ar.toArray from pl) ?_;refine⟨s1.heap.objs.size,[s1.heap.objs.size],_,_,H1,rfl,I1.kept (t':=s1.toks) fun b o e=>Ak _ e,tj ad _,⟨_,An _ rfl,rfl,rfl⟩,fun b hb=>?_,q1 _ (Xx hh rs (by rw [<- rs.length];exact hz))⟩;have e:b=s1.heap.objs.size:=by simpa using hb
  subst e;exact I1.zb (Am _) (I1.bD.fresh (Am _))⟩
def okN (i j:Int):Prop:=-(2 ^ 62)<=i/\i < 2 ^ 62/\-(2 ^ 62)<=j/\j < 2 ^ 62/\(j-i).toNat<=sizeLine
def hV:PV->W (List PV)
 | .int j=>.gs (okN 0 j) (.ret (iE 0 j.toNat))
 | _=>.fail
def Nq:PV->PV->PV->W (List PV)
 | .int i,.int j,.int k=>.gs (k = -1/\okN j i) (.ret (qZ i (i-j).toNat))
 | _,_,_=>.fail
def Xy {H:Hp} (lo:Int) (n:Nat) (hz:n<=sizeLine):JF K H (Itr lo n) (iE lo n):=⟨by rw [jx];exact hz,fun H' t=>⟨fun i p hp=>by
  obtain⟨h1,rfl⟩:=qr hp;refine⟨h1,fun x H2 y=>?_⟩;obtain⟨rfl,rfl⟩:=y;exact⟨kG.refl _,.int _⟩,by show n<=(iE lo n).length;rw [jx];exact Am _⟩⟩
def dG (hg:Gl X "range") (hm:X.mg "range"=none) (ha:EF X K fs a wa) (hs:starEach [a] X.env=[(false,eval a X.env)]:=by rfl):sR X K fs tg (.Call (.Name "range" p) [a] [] pos) (.bind wa hV):=
 ⟨PI.imp (Lw hg hm (bc ha.p cE hs) hs) fun σ H R ⟨sr,q⟩=>⟨sr,wa.mono (fun x q1 u1 H1 g1 s1 v1=>by
  cases v1 with
  | int j=>exact⟨_,rfl,q1.1.2.2.1,q1.1.2.2.2.1,q1.2 _ H1 g1 s1 (Xy _ _ (by have:=q1.1.2.2.2.2;omega))⟩
  | _=>exact q1.elim) q⟩⟩
def Sq (hg:Gl X "range") (hm:X.mg "range"=none) (ha:EF X K fs a wa) (hb:EF X K fs b wb) (hc:EF X K fs c wc) (hs:starEach [a,b,c] X.env=[(false,eval a X.env),(false,eval b X.env),(false,eval c X.env)]:=by rfl) (sF:starEach [b,c] X.env=[(false,eval b X.env),(false,eval c X.env)]:=by rfl) (hs3:starEach [c] X.env=[(false,eval c X.env)]:=by rfl):sR X K fs tg (.Call (.Name "range" p) [a,b,c] [] pos) (.bind wa fun x=>.bind wb fun y=>.bind wc fun z=>Nq x y z):=
 ⟨PI.imp (Lv hg hm (bc ha.p (bc hb.p (bc hc.p cE hs3) (by rw [sF,hs3])) (by rw [hs,sF])) hs sF) fun σ H R ⟨sr,q⟩=>⟨sr,wa.mono (fun x q1 u1 H1 g1 s1 v1=>⟨s1,wb.mono (fun y q2 u2 H2 g2 s2 v2=>⟨s2,wc.mono (fun z q3 u3 H3 g3 s3 v3=>by
  cases v1 with
  | int i=>
   cases v2 with
   | int j=>
    cases v3 with
    | int k=>
     obtain⟨⟨rfl,k1,k2,k3,k4,k5⟩,q3⟩:=q3;refine⟨_,_,rfl,⟨k3,k4,k1,k2⟩,q3 _ H3 ((g1.trans g2).trans g3) s3 ⟨by rw [xk];exact k5,fun H' t=>⟨fun i p hp=>?_,?_⟩⟩⟩
     ·obtain⟨h1,rfl⟩:=xl hp;refine⟨h1,fun x H2 y=>?_⟩;obtain⟨rfl,rfl⟩:=y;exact⟨kG.refl _,.int _⟩
     ·exact Nat.le_of_eq (xk _ _).symm
    | _=>exact q3.elim
   | _=>exact q3.elim
  | _=>exact q3.elim) q2⟩) q1⟩) q⟩⟩
def oQ (hK:X.K=K) {elts:List Expr}{kk:Nat}{tp:Pos} (hg:Gl X "enumerate") (hm:X.mg "enumerate"=none) (h:IF X K fs e wl) (GL:starEach [e] X.env=(false,eval e X.env)::starEach [] X.env:=by rfl):sR X K fs (.Tuple elts kk tp) (.Call (.Name "enumerate" p1) [e] [] p2) (.bind wl fun l=>.gs (l.length<=sizeLine) (.ret (dZ 0 l))):=
 ⟨PI.imp (NN K hK hg hm h.p GL) fun σ H R ⟨sr,q⟩=>⟨sr,wl.mono (fun l q1 u1 H1 g1 s1 v1=>by
  obtain⟨ad,vs,rfl,hh,rs⟩:=v1;have yl:∀{H':Hp}{i:Nat}{x v:V}{y:PV}{pp:Addr},H' pp=none->VR K [] H' v y->kG H' (upd H' pp (.tup [.int (i:Int),v]))/\VR K [] (upd H' pp (.tup [.int (i:Int),v])) (.ref pp) (.tup [.int ((0+i:Nat):Int),y]):=fun {H' i x v y pp} hn h4=>
   have sm:=lj hn (.tup [.int (i:Int),v])
   ⟨sm,.tup aM (.cons (by rw [AU];exact .int _) (.cons (VR.tk sm.fv h4) .nil))⟩
  refine⟨ad,rfl,?_⟩;rcases hh with hh | hh
  ·refine .inl ⟨⟨vs,hh.sq⟩,q1.2 _ H1 g1 s1 ⟨by rw [cH];exact q1.1,fun H' t=>⟨fun i p hp=>?_,vs,(t.f _ _ hh).sq,by rw [rs.length,cH];exact Am _⟩⟩⟩;obtain⟨y,hy,rfl⟩:=g8 hp;obtain⟨v,h3,h4⟩:=(aH.tk t rs).get hy;refine⟨⟨vs,v,(t.f _ _ hh).sq,h3⟩,fun x H3 z=>?_⟩;obtain⟨pp,x0,rfl,hn,rfl,hz⟩:=z;have:=hz vs (t.f _ _ hh).sq;rw [h3] at this;cases this;exact yl (x:=.aU) hn h4
  ·refine .inr ⟨⟨vs,dc.of hh⟩,q1.2 _ H1 g1 s1 ⟨by rw [cH];exact q1.1,fun H' t=>⟨fun i p hp=>?_,vs,dc.of (t.t _ _ hh),by rw [rs.length,cH];exact Am _⟩⟩⟩;obtain⟨y,hy,rfl⟩:=g8 hp;obtain⟨v,h3,h4⟩:=(aH.tk t rs).get hy;refine⟨⟨vs,v,dc.of (t.t _ _ hh),h3⟩,fun x H3 z=>?_⟩;obtain⟨pp,x0,rfl,hn,rfl,hz⟩:=z;have:=hz vs (dc.of (t.t _ _ hh));rw [h3] at this;cases this;exact yl (x:=.aU) hn h4) q⟩⟩
end
def tH:List Nat->List V->L2.St->L2.St
 | i::is,u::us,σ=>tH is us (σ.set i (some u))
 | _,_,σ=>σ
def fG (K:Aa) (fs:aV) (is:List Nat) {T:Type} (wt:PV->W T) (dR:T->aV):TG:=fun v σ H Q=>∃p,aQ K H σ fs/\VR K [] H v p/\(wt p).run fun t=>∀us,cK σ fs H (tH is us σ) (dR t) H->aQ K H (tH is us σ) (dR t)->Q (tH is us σ) H
structure GF (X:Cx) (K:Aa) (fs:aV) (tg:Expr) (is:List Nat) {T:Type} (wt:PV->W T) (dR:T->aV):Prop where p:PG X tg (fG K fs is wt dR)
def wI:PV->W (PV×PV)
 | .tup [a,b]=>.ret (a,b)
 | _=>.fail
def un3:PV->W (PV×PV×PV)
 | .tup [a,b,c]=>.ret (a,b,c)
 | _=>.fail
def Yy:PV->W (PV×PV×PV×PV)
 | .tup [a,b,c,d]=>.ret (a,b,c,d)
 | _=>.fail
section
variable {X:Cx}{fs:aV}{tg:Expr}
def WK {i:Nat} (h:PG X tg (dN i)):GF X K fs tg [i] .ret (fun p=>fs.set i (some (.val p))):=⟨PG.imp h fun v σ H Q ⟨p,sr,r,q⟩=>q [v] (cK.eZ sr v p i) (sr.eZ r i)⟩
def Ux {i j:Nat} (hK:X.K=K) (h:PG X tg (SK X.K 2 (mS (dN i) (mS (dN j) SM)))):GF X K fs tg [i,j] wI (fun t=>(fs.set i (some (.val t.1))).set j (some (.val t.2))):=⟨PG.imp h fun v σ H Q ⟨p,sr,r,q⟩=>by
 subst hK;unfold wI at q
 split at q
 ·rename_i a b;cases r with
  | tup e rs=>
   cases rs with
   | cons ra t=>
   cases t with
   | cons rb t=>
   cases t;have s1:=sr.eZ ra i;exact⟨_,_,rfl,dc.of e,rfl,_,_,rfl,_,_,rfl,rfl,q [_,_] ((cK.eZ sr _ _ i).trans (cK.eZ s1 _ _ j)) (s1.eZ rb j)⟩
 ·exact q.elim⟩
def g_3 {i j k:Nat} (hK:X.K=K) (h:PG X tg (SK X.K 3 (mS (dN i) (mS (dN j) (mS (dN k) SM))))):GF X K fs tg [i,j,k] un3 (fun t=>((fs.set i (some (.val t.1))).set j (some (.val t.2.1))).set k (some (.val t.2.2))):=⟨PG.imp h fun v σ H Q ⟨p,sr,r,q⟩=>by
 subst hK;unfold un3 at q
 split at q
 ·rename_i a b;cases r with
  | tup e rs=>
   cases rs with
   | cons ra t=>
   cases t with
   | cons rb t=>
   cases t with
   | cons rc t=>
   cases t;have s1:=sr.eZ ra i;have s2:=s1.eZ rb j;exact⟨_,_,rfl,dc.of e,rfl,_,_,rfl,_,_,rfl,_,_,rfl,rfl,q [_,_,_] (((cK.eZ sr _ _ i).trans (cK.eZ s1 _ _ j)).trans (cK.eZ s2 _ _ k)) (s2.eZ rc k)⟩
 ·exact q.elim⟩
def g_4 {i j k l:Nat} (hK:X.K=K) (h:PG X tg (SK X.K 4 (mS (dN i) (mS (dN j) (mS (dN k) (mS (dN l) SM)))))):GF X K fs tg [i,j,k,l] Yy (fun t=>(((fs.set i (some (.val t.1))).set j (some (.val t.2.1))).set k (some (.val t.2.2.1))).set l (some (.val t.2.2.2))):=⟨PG.imp h fun v σ H Q ⟨p,sr,r,q⟩=>by
 subst hK;unfold Yy at q
 split at q
 ·rename_i a b;cases r with
  | tup e rs=>
   cases rs with
   | cons ra t=>
   cases t with
   | cons rb t=>
   cases t with
   | cons rc t=>
   cases t with
   | cons rd t=>
   cases t;have s1:=sr.eZ ra i;have s2:=s1.eZ rb j;have s3:=s2.eZ rc k;exact⟨_,_,rfl,dc.of e,rfl,_,_,rfl,_,_,rfl,_,_,rfl,_,_,rfl,rfl,q [_,_,_,_] ((((cK.eZ sr _ _ i).trans (cK.eZ s1 _ _ j)).trans (cK.eZ s2 _ _ k)).trans (cK.eZ s3 _ _ l)) (s3.eZ rd l)⟩
 ·exact q.elim⟩
end
section
variable {S T:Type}
def dQ:List PV->S->(PV->S->W S)->W S
 | [],s,_=>.ret s
 | x::r,s,f=>.bind (f x s) fun s'=>dQ r s' f
inductive Lp (S T:Type) where
 | go (s:S) | out (t:T)
def nC:List PV->S->(PV->S->W (Lp S T))->W (Lp S T)
 | [],s,_=>.ret (.go s)
 | x::r,s,f=>.bind (f x s) fun o=>match o with
  | .go s'=>nC r s' f
  | .out t=>.ret (.out t)
def O7 {R:Type} (k:S->W T) (inj:R->T):Lp S R->W T
 | .go s=>k s
 | .out r=>.ret (inj r)
@[simp] theorem O6 {R:Type} (k:S->W T) (inj:R->T) (s:S):O7 k inj (.go s)=k s:=(rfl)
@[simp] theorem abQ {R:Type} (k:S->W T) (inj:R->T) (r:R):O7 k inj (.out r)=.ret (inj r):=(rfl)
def lpE {R:Type} (hd:S->aV) (out:R->End):Lp S R->End
 | .go s=>.nc (hd s)
 | .out r=>out r
def m8 (c:S->W Bool) (b:S->W S):Nat->S->W S
 | 0,_=>.fail
 | n+1,s=>.bind (c s) fun k=>if k=true then .bind (b s) (m8 c b n) else .ret s
def kY (c:S->W Bool) (b:S->W S) (s:S):W S:=⟨fun Q=>∃n,(m8 c b n s).run Q,fun h ⟨n,q⟩=>⟨n,(m8 c b n s).mono h q⟩⟩
end
section
variable {X:Cx}{c iter tg:Expr}{body rest:List Stmt}{pos:Pos}{fs:aV}{S T T2:Type}{hd:S->aV}{s0:S}{wl:W (List PV)}{wt:PV->W T2}{is:List Nat}{dR:S->T2->aV}{k:S->W T}{out:T->End}{x:Bool}{R:Type}{inj:R->T}
def SF.for {f:PV->S->W S}{wb:T2->S->W S} (hp:PassesOwn (model X.prog X.w) X.A X.env X.xe) (hc:X.calm=true) (hi:sR X K fs tg iter wl) (hl:jH fs (hd s0)) (hg:∀s,GF X K (hd s) tg is wt (dR s)) (hf:∀p s,f p s=.bind (wt p) fun t=>wb t s)
  (hb:∀s t,SF X K false (dR s t) body (wb t s) fun s'=>.nc (hd s')) (hr:∀s,SF X K x (hd s) rest (k s) out) (hs:∀x,foldedSetIterable iter X.env x=pure x:=by intro _;rfl) :
  SF X K x fs (.For tg iter body [] pos::rest) (.bind wl fun l=>.bind (dQ l s0 f) k) out:=by
 refine SF.step (NL (g:=fun v σ H Q=>∃s,fG K (hd s) is wt (dR s) v σ H Q) (tb:=fun D σ H=>∃s t,fS K false (dR s t) (wb t s) (fun s'=>.nc (hd s')) D σ H) hp hc hi.p (fun pins s σ H v u Q I r ⟨s1,q⟩=>(hg s1).p pins s σ H v u Q I r q) (fun pins s σ H D I ⟨s1,t1,q⟩=>(hb s1 t1).p pins s σ H D I q) hs) fun D σ H ⟨sr,q⟩=>?_;refine⟨sr,wl.mono (fun l q1 J H1 g1 s1 jf=>?_) q⟩;refine⟨fun i m σ' H'=>∃s,aQ K H' σ' (hd s)/\cK σ fs H σ' (hd s) H'/\JF K H' J l/\m=l.length-i/\i<=l.length/\(dQ (l.drop i) s f).run fun s'=>(k s').run fun t=>bX K x σ fs H D (out t),⟨l.length,s0,s1.le hl,g1.f.trans (cK.le s1 hl),jf,by simp,Bd _,by simpa using q1⟩,?_⟩;rintro i m σ2 H2 ⟨s,s2,g2,Sl,rfl,hi,q2⟩;obtain⟨j1,j2⟩:=Sl.2 H2 (bq.refl H2);by_cases my:i < l.length
 ·obtain⟨go,yl⟩:=j1 i _ (Ae my);have ed:l.drop i=l[i]::l.drop (i+1):=Bj my;rw [ed] at q2;refine .inr ⟨go,fun σ3 H3=>∃s',aQ K H3 σ3 (hd s')/\cK σ fs H σ3 (hd s') H3/\JF K H3 J l/\(dQ (l.drop (i+1)) s' f).run fun s'=>(k s').run fun t=>bX K x σ fs H D (out t),fun σ3 H3 ⟨s',a1,a2,a3,a4⟩=>⟨l.length-(i+1),by omega,s',a1,a2,a3,rfl,my,a4⟩,fun v H3 y=>?_⟩;obtain⟨sm,vx⟩:=yl v H3 y;have q2:(f l[i] s).run fun s'=>(dQ (l.drop (i+1)) s' f).run fun s'=>(k s').run fun t=>bX K x σ fs H D (out t):=q2;rw [hf] at q2;have s3:=s2.same sm;have g3:=g2.trans (cK.same sm s2);refine⟨s,_,s3,vx,(wt l[i]).mono (fun t q4 us g4 s4=>?_) q2⟩;refine⟨s,t,s4,(wb t s).mono (fun s' q5 σ5 H5 g5 s5=>?_) q4⟩;have fin:∃s',aQ K H5 σ5 (hd s')/\cK σ fs H σ5 (hd s') H5/\JF K H5 J l/\(dQ (l.drop (i+1)) s' f).run fun s'=>(k s').run fun t=>bX K x σ fs H D (out t):=⟨s',s5,(g3.trans g4).trans g5,Sl.tk (bq.trans sm.fv (bq.trans (g4.eT s3) (g5.eT s4))),q5⟩;exact⟨fun _=>fin,fin⟩
 ·have e:i=l.length:=by omega
  subst e;rw [Ek] at q2;have q2:(k s).run fun t=>bX K x σ fs H D (out t):=q2;exact .inl ⟨j2,hd s,k s,hr s,s2,(k s).mono (fun t q3=>q3.go g2 sr s2) q2⟩
def SF.nC {f:PV->S->W (Lp S R)}{wb:T2->S->W (Lp S R)} (hp:PassesOwn (model X.prog X.w) X.A X.env X.xe) (hc:X.calm=true) (hi:sR X K fs tg iter wl) (hl:jH fs (hd s0)) (hg:∀s,GF X K (hd s) tg is wt (dR s)) (hf:∀p s,f p s=.bind (wt p) fun t=>wb t s)
  (ho:∀t,(out (inj t)).OK)
  (hb:∀s t,SF X K false (dR s t) body (wb t s) (lpE hd fun r=>out (inj r))) (hr:∀s,SF X K x (hd s) rest (k s) out) (hs:∀x,foldedSetIterable iter X.env x=pure x:=by intro _;rfl) :
  SF X K x fs (.For tg iter body [] pos::rest) (.bind wl fun l=>.bind (FL.nC l s0 f) (O7 k inj)) out:=by
 refine SF.step (NL (g:=fun v σ H Q=>∃s,fG K (hd s) is wt (dR s) v σ H Q) (tb:=fun D σ H=>∃s t,fS K false (dR s t) (wb t s) (lpE hd fun r=>out (inj r)) D σ H) hp hc hi.p (fun pins s σ H v u Q I r ⟨s1,q⟩=>(hg s1).p pins s σ H v u Q I r q) (fun pins s σ H D I ⟨s1,t1,q⟩=>(hb s1 t1).p pins s σ H D I q) hs) fun D σ H ⟨sr,q⟩=>?_;refine⟨sr,wl.mono (fun l q1 J H1 g1 s1 jf=>?_) q⟩;have lo:∀(D':Ends) (y:Bool) (t:R),D'.rt=D.rt->bX K x σ fs H D (out (inj t))->bX K y σ fs H D' (out (inj t)):=fun D' y t e h=>bX.acW (ho t) e h;refine⟨fun i m σ' H'=>∃s,aQ K H' σ' (hd s)/\cK σ fs H σ' (hd s) H'/\JF K H' J l/\m=l.length-i/\i<=l.length/\(FL.nC (l.drop i) s f).run fun o=>(O7 k inj o).run fun t=>bX K x σ fs H D (out t),⟨l.length,s0,s1.le hl,g1.f.trans (cK.le s1 hl),jf,by simp,Bd _,by simpa using q1⟩,?_⟩;rintro i m σ2 H2 ⟨s,s2,g2,Sl,rfl,hi,q2⟩;obtain⟨j1,j2⟩:=Sl.2 H2 (bq.refl H2);by_cases my:i < l.length
 ·obtain⟨go,yl⟩:=j1 i _ (Ae my);have ed:l.drop i=l[i]::l.drop (i+1):=Bj my;rw [ed] at q2;refine .inr ⟨go,fun σ3 H3=>∃s',aQ K H3 σ3 (hd s')/\cK σ fs H σ3 (hd s') H3/\JF K H3 J l/\(FL.nC (l.drop (i+1)) s' f).run fun o=>(O7 k inj o).run fun t=>bX K x σ fs H D (out t),fun σ3 H3 ⟨s',a1,a2,a3,a4⟩=>⟨l.length-(i+1),by omega,s',a1,a2,a3,rfl,my,a4⟩,fun v H3 y=>?_⟩;obtain⟨sm,vx⟩:=yl v H3 y;have q2:(f l[i] s).run fun o=>(match o with | .go s'=>FL.nC (l.drop (i+1)) s' f | .out t=>W.ret (.out t)).run fun o=>(O7 k inj o).run fun t=>bX K x σ fs H D (out t):=q2;rw [hf] at q2;have s3:=s2.same sm;have g3:=g2.trans (cK.same sm s2);refine⟨s,_,s3,vx,(wt l[i]).mono (fun t q4 us g4 s4=>?_) q2⟩;refine⟨s,t,s4,(wb t s).mono (fun o q5=>?_) q4⟩;cases o with
  | out t5=>
   refine bX.go (g3.trans g4) sr s4 (lo _ false t5 ?_ q5);rfl
  | go s'=>
   intro σ5 H5 g5 s5;have fin:∃s',aQ K H5 σ5 (hd s')/\cK σ fs H σ5 (hd s') H5/\JF K H5 J l/\(FL.nC (l.drop (i+1)) s' f).run fun o=>(O7 k inj o).run fun t=>bX K x σ fs H D (out t):=⟨s',s5,(g3.trans g4).trans g5,Sl.tk (bq.trans sm.fv (bq.trans (g4.eT s3) (g5.eT s4))),q5⟩;exact⟨fun _=>fin,fin⟩
 ·have e:i=l.length:=by omega
  subst e;rw [Ek] at q2;have q2:(k s).run fun t=>bX K x σ fs H D (out t):=q2;exact .inl ⟨j2,hd s,k s,hr s,s2,(k s).mono (fun t q3=>q3.go g2 sr s2) q2⟩
def SF.FG {cw:S->W Bool}{b:S->W S} (hp:PassesOwn (model X.prog X.w) X.A X.env X.xe) (hl:jH fs (hd s0)) (hc:∀s,TF X K (hd s) c (cw s)) (hb:∀s,SF X K false (hd s) body (b s) fun s'=>.nc (hd s')) (hr:∀s,SF X K x (hd s) rest (k s) out) :
  SF X K x fs (.While c body [] pos::rest) (.bind (kY cw b s0) k) out:=by
 refine SF.step (NJ (tc:=fun σ H Q=>∃s,fT K (hd s) (cw s) σ H Q) (tb:=fun D σ H=>∃s,fS K false (hd s) (b s) (fun s'=>.nc (hd s')) D σ H) hp (fun pins s σ H Q I ⟨s1,q⟩=>(hc s1).p pins s σ H Q I q) (fun pins s σ H D I ⟨s1,q⟩=>(hb s1).p pins s σ H D I q)) fun D σ H ⟨sr,n,q⟩=>?_;refine⟨fun m σ' H'=>∃s,aQ K H' σ' (hd s)/\cK σ fs H σ' (hd s) H'/\(m8 cw b m s).run fun s'=>(k s').run fun t=>bX K x σ fs H D (out t),⟨n,s0,sr.le hl,cK.le sr hl,q⟩,?_⟩;rintro m σ1 H1 ⟨s,s1,g1,q1⟩;cases m with
 | zero=>exact q1.elim
 | succ m=>
  refine⟨s,s1,(cw s).mono (fun kk q2 H2 g2 s2=>?_) q1⟩;cases kk with
  | false=>
   refine GJ ?_;have q2:(k s).run fun t=>bX K x σ fs H D (out t):=q2;exact⟨hd s,k s,hr s,s2,(k s).mono (fun t q3=>q3.go (g1.trans g2.f) sr s2) q2⟩
  | true=>
   refine GI ?_;refine⟨fun σ3 H3=>∃s,aQ K H3 σ3 (hd s)/\cK σ fs H σ3 (hd s) H3/\(m8 cw b m s).run fun s'=>(k s').run fun t=>bX K x σ fs H D (out t),fun σ3 H3 a=>⟨m,C6 m,a⟩,s,s2,(b s).mono (fun s' q5 σ5 H5 g5 s5=>?_) q2⟩;have fin:∃s,aQ K H5 σ5 (hd s)/\cK σ fs H σ5 (hd s) H5/\(m8 cw b m s).run fun s'=>(k s').run fun t=>bX K x σ fs H D (out t):=⟨s',s5,(g1.trans g2.f).trans g5,q5⟩;exact⟨fun _=>fin,fin⟩
end
end
section
open PySem PySem.Spec PyProof.Rows L2 PL
variable {K:Aa}
def kW:List PV->(PV->W (Option PV))->W (List PV)
 | [],_=>.ret []
 | x::r,f=>.bind (f x) fun o=>.bind (kW r f) fun l=>.ret (o.toList++l)
def cG:List PV->(PV->W PV)->W (List PV)
 | [],_=>.ret []
 | x::r,f=>.bind (f x) fun y=>.bind (cG r f) fun l=>.ret (y::l)
theorem yB (f:PV->W PV):∀l,cG l f=kW l fun p=>.bind (f p) fun v=>.ret (some v)
 | []=>rfl
 | x::r=>by
  show W.bind (f x) (fun y=>W.bind (cG r f) fun l=>W.ret (y::l))=W.bind (f x) fun y=>W.bind (kW r _) fun l=>W.ret (y::l);rw [yB f r]
def bS (ix:List (Option Nat)) (fs:aV):aV:=ix.map fun o=>match o with | some j=>(fs[j]?).getD none | none=>none
section
variable {σ:L2.St}{fs:aV}{H:Hp}{ix:List (Option Nat)}
def pq {i:Nat}{s:SL} (h:(bS ix fs)[i]?=some (some s)):∃j,ix[i]?=some (some j)/\fs[j]?=some (some s):=by
 unfold bS at h;rw [Ai] at h;cases q:ix[i]? with
 | none=>rw [q] at h;cases h
 | some o=>
  rw [q] at h;cases o with
  | none=>cases h
  | some j=>
   refine⟨j,rfl,?_⟩;have h:(fs[j]?).getD none=some s:=Option.some.inj h;cases z:fs[j]? with
   | none=>rw [z] at h;cases h
   | some y=>rw [z] at h;exact congrArg some h
def mF {i j:Nat}{u:V} (h:ix[i]?=some (some j)) (e:σ[j]?=some (some u)):(pj ix σ)[i]?=some (some u):=by
 unfold pj;rw [Ai,h];show some ((σ[j]?).getD none)=_;rw [e];rfl
def aQ.gI (s:aQ K H σ fs) (inj:∀i i' j:Nat,ix[i]?=some (some j)->ix[i']?=some (some j)->i=i'):aQ K H (pj ix σ) (bS ix fs):=by
 refine⟨by unfold pj bS;simp,fun i t e=>?_,fun i i' t u x y a e1 e2 o1 o2 q1 q2 z1 z2=>?_⟩
 ·obtain⟨j,h1,h2⟩:=pq e;obtain⟨u,h3,h4⟩:=s.at' j t h2;exact⟨u,mF h1 h3,h4⟩
 ·obtain⟨j,h1,h2⟩:=pq e1;obtain⟨j',iX,Fz⟩:=pq e2;obtain⟨u1,h3,_⟩:=s.at' j t h2;obtain⟨u2,L5,_⟩:=s.at' j' u Fz;rw [mF h1 h3] at q1;rw [mF iX L5] at q2;cases q1;cases q2;have:=s.nd j j' t u x y a h2 Fz o1 o2 h3 L5 z1 z2;subst this;exact inj i i' j h1 iX
structure TJ (ix:List (Option Nat)) (σ:L2.St) (fs:aV) (σ':L2.St) (bE:aV):Prop where
 own:∀(i:Nat) (t:SL),bE[i]?=some (some t)->t.own=true->∃j,ix[i]?=some (some j)/\fs[j]?=some (some t)/\σ'[i]?=σ[j]?
def TJ.yr {σ':L2.St}{bE:aV} (h:TJ ix σ fs σ' bE) {a:Addr} (o:da σ' bE a):da σ fs a:=by
 obtain⟨i,t,x,e1,e2,e3,e4⟩:=o;obtain⟨j,h1,h2,h3⟩:=h.own i t e1 e2;exact⟨j,t,x,h2,e2,h3▸e3,e4⟩
def TJ.gF {σ':L2.St}{bE:aV} (h:TJ ix σ fs σ' bE) {φ:List V->Prop}{a:Addr} (o:fq σ' bE φ a):fq σ fs φ a:=by
 obtain⟨i,e1,e3⟩:=o;obtain⟨j,h1,h2,h3⟩:=h.own i _ e1 rfl;exact⟨j,h2,h3▸e3⟩
def TJ.out {σ':L2.St}{bE:aV}{H1 H2:Hp} (h:TJ ix σ fs σ' bE) (s:aQ K H1 σ fs) (g:cU σ' bE H1 H2) (s2:aQ K H2 σ' bE):aQ K H2 σ fs/\cU σ fs H1 H2:=by
 have gf:cU σ fs H1 H2:=⟨fun a o e n=>g.keep a o e fun φ z=>n φ (h.gF z),g.there⟩;refine⟨⟨s.len,fun j t e=>?_,s.nd⟩,gf⟩;obtain⟨u,h1,h2⟩:=s.at' j t e;refine⟨u,h1,?_⟩;have tk:=gf.eT s;rcases h2 with⟨v,q,r⟩ | ⟨a,q,r⟩
 ·exact .inl ⟨v,q,VR.tk tk r⟩
 ·subst q;refine .inr ⟨a,rfl,?_⟩;by_cases c:∃b,t.own=true/\t.has a b/\da σ' bE b
  ·obtain⟨b,ow,hb,i,t',x,c1,c2,c3,c4⟩:=c;obtain⟨j',k1,k2,k3⟩:=h.own i t' c1 c2;have jj:=s.nd j j' t t' a x b e k2 ow c2 h1 (k3▸c3) hb c4;subst jj;rw [e] at k2;cases k2;exact s2.ownAt c1 c2 (k3.trans h1)
  ·exact r.mono tk (fun b o ow hb z=>g.qT z fun y=>c ⟨b,ow,hb,y⟩)
theorem tG:∀{is:List Nat}{us:List V}{σ:L2.St}{i:Nat},i∉is->(tH is us σ)[i]?=σ[i]?
 | [],us,σ,i,_=>by cases us <;> rfl
 | j::is,[],σ,i,_=>rfl
 | j::is,u::us,σ,i,h=>by
  rw [tH,tG (fun z=>h (AW _ z))];exact aF (fun z=>h (by rw [z];exact Bp))
end
section
variable {X:Cx}{ifs:List Expr}{sc:Scope}{N':List Str}{ix:List (Option Nat)}{fs:aV}{wl:W (List PV)}{T2:Type}{wt:PV->W T2}{is:List Nat}{mJ:aV}{dR:T2->aV}{tf:T2->W Bool}{te:T2->W PV}{f:PV->W (Option PV)}
structure FF (X:Cx) (K:Aa) (fs:aV) (ifs:List Expr) (w:W Bool):Prop where p:X9 X ifs (fT K fs w)
def Pe:FF X K fs [] (.ret true):=⟨fun pins s σ H Q I ⟨sr,q⟩=>RD pins s σ H Q I (q H .refl sr)⟩
def zd {c:Expr}{w:W Bool} (h:TF X K fs c w):FF X K fs [c] w:=⟨RC h.p⟩
def wG (is:List Nat) (mJ:aV) (dR:T2->aV):Prop:=∀t,(dR t).length=mJ.length/\∀(i:Nat) (s:SL),(dR t)[i]?=some (some s)->(i∈is/\s.own=false)\/(i∉is/\mJ[i]?=some (some s))
def Pj (S:aD X.env.scope X.N sc N' ix) (hb:mJ=bS ix fs) (hf:∀p,f p=.bind (wt p) fun t=>.bind (tf t) fun k=>if k=true then .bind (te t) fun v=>.ret (some v) else .ret none) (hl:wG is mJ dR) (hr:∀t,jH (dR t) mJ) (v9:∀j∈is,ix[j]?=some none) :
  ∀σ H Q,fL K fs (.bind wl fun l=>kW l f) σ H Q->tLc ix (fIt K fs wl) (fun v σ H Q=>fG K mJ is wt dR v σ H Q) (fun σ H Q=>∃t,fT K (dR t) (tf t) σ H Q) (fun σ H Q=>∃t,fE K (dR t) (te t) σ H Q) σ H Q:=by
 subst hb;rintro σ H Q ⟨sr,q⟩;refine⟨sr,wl.mono (fun l q1 J H1 g1 s1 jf D hD=>?_) q⟩;have inj:∀i i' j:Nat,ix[i]?=some (some j)->ix[i']?=some (some j)->i=i':=fun i i' j h1 h2=>by
  have hi:i < N'.length:=by rw [<- S.len];exact (Aj.mp h1).1
  have IE:i' < N'.length:=by rw [<- S.len];exact (Aj.mp h2).1
  have e1:=(S.at h1 (Ae hi)).1;have e2:=(S.at h2 (Ae IE)).1;rw [e1] at e2;exact (Ej S.nd).mp (Option.some.inj e2)
 have nD:¬da σ fs D:=s1.noOwn hD;refine⟨fun i m σ' ys H'=>∃acc,aQ K H' σ fs/\cU σ fs H H'/\aQ K H' σ' (bS ix fs)/\TJ ix σ fs σ' (bS ix fs)/\JF K H' J l/\H' D=some (.lst ys)/\aH K [] H' ys acc/\acc.length<=i/\m=l.length-i/\i<=l.length/\
  (kW (l.drop i) f).run fun r=>∀a vs H',cU σ fs H H'->aQ K H' σ fs->H a=none->H' a=some (.lst vs)->aH K [] H' vs (acc++r)->Q (.ref a) H',⟨l.length,[],?_⟩,?_⟩
 ·have sm:=lj hD (.lst []);refine⟨s1.same sm,g1.trans (cU.same sm),(s1.same sm).gI inj,⟨fun i t e o=>?_⟩,jf.tk sm.fv,aM,.nil,Bd _,by simp,Bd _,by simpa using q1⟩;obtain⟨j,h1,h2⟩:=pq e;obtain⟨u,h3,_⟩:=s1.at' j t h2;exact⟨j,h1,h2,by rw [mF h1 h3,h3]⟩
 rintro i m σ2 ys H2 ⟨acc,sO,gO,s2,qX,Sl,hy,vy,aan,rfl,hi,q2⟩;refine⟨hy,?_⟩;obtain⟨j1,j2⟩:=Sl.2 H2 (bq.refl H2);by_cases my:i < l.length
 ·obtain⟨go,yl⟩:=j1 i _ (Ae my);have ed:l.drop i=l[i]::l.drop (i+1):=Bj my;rw [ed] at q2;refine .inr ⟨go,fun v H3 y=>?_⟩;obtain⟨sm,vx⟩:=yl v H3 y;have q2:(f l[i]).run fun o=>(kW (l.drop (i+1)) f).run fun r=>∀a vs H',cU σ fs H H'->aQ K H' σ fs->H a=none->H' a=some (.lst vs)->aH K [] H' vs (acc++(o.toList++r))->Q (.ref a) H':=q2;rw [hf] at q2;have s3:=s2.same sm;have sO3:=sO.same sm;have gO3:=gO.trans (cU.same sm);have hy3:=sm _ _ hy;have vy3:=aH.tk sm.fv vy;have jf3:=Sl.tk sm.fv;refine⟨_,s3,vx,(wt l[i]).mono (fun t q4 us g4 s4=>?_) q2⟩;have Sv:TJ ix σ fs (tH is us σ2) (dR t):=⟨fun j u e o=>by
   rcases (hl t).2 j u e with⟨_,z⟩ | ⟨n,z⟩
   ·rw [z] at o;cases o
   ·obtain⟨j',k1,k2,k3⟩:=qX.own j u z o;exact⟨j',k1,k2,by rw [tG n];exact k3⟩⟩
  refine⟨t,s4,(tf t).mono (fun kk q5 H5 g5 s5=>?_) q4⟩;obtain⟨sO5,ad0⟩:=Sv.out sO3 g5 s5;have gO5:=gO3.trans ad0;have tk5:=g5.eT s4;have nD4:¬da (tH is us σ2) (dR t) D:=fun z=>nD (Sv.yr z);have hy5:=g5.qT hy3 nD4;have vy5:=aH.tk tk5 vy3;have jf5:=jf3.tk (g5.eT s4);have back:∀{H6:Hp},aQ K H6 (tH is us σ2) (dR t)->aQ K H6 (tH is us σ2) (bS ix fs)/\TJ ix σ fs (tH is us σ2) (bS ix fs):=fun {H6} z=>⟨z.le (hr t),⟨fun j u e o=>Sv.own j u ((hr t).at j u e) o⟩⟩;cases kk with
  | false=>
   refine GJ ⟨l.length-(i+1),by omega,acc,sO5,gO5,(back s5).1,(back s5).2,jf5,hy5,vy5,by omega,rfl,my,?_⟩;exact q5
  | true=>
   refine GI ⟨t,s5,(te t).mono (fun v6 q6 u6 H6 g6 s6 v6'=>?_) q5⟩;obtain⟨sO6,adZ⟩:=Sv.out sO5 g6 s6;have gO6:=gO5.trans adZ;have tk6:=g6.eT s5;have Z0:=g6.qT hy5 nD4;have vy6:=aH.tk tk6 vy5;have tkD:=mi (K:=K) (.lst (ys++[u6])) Z0;have hD0:H D=none:=g1.there D hD;refine⟨Z0,by rw [vy6.length];have:=Sl.1;omega,l.length-(i+1),by omega,acc++[v6],sO6.side nD Z0 _,gO6.side hD0 _,((back s6).1).side (fun z=>nD ((back s6).2.yr z)) Z0 _,(back s6).2,(jf5.tk (g6.eT s5)).tk (mi _ Z0),aM,aH.tk tkD (vy6.append (.cons v6' .nil)),by rw [Ad];simp;omega,rfl,my,?_⟩;refine (kW (l.drop (i+1)) f).mono (fun r q7 a vs H7 g7 s7 n e v7=>q7 a vs H7 g7 s7 n e ?_) q6;simpa using v7
 ·have e:i=l.length:=by omega
  subst e;rw [Ek] at q2;have q2:∀a vs H',cU σ fs H H'->aQ K H' σ fs->H a=none->H' a=some (.lst vs)->aH K [] H' vs (acc++[])->Q (.ref a) H':=q2;exact .inl ⟨j2,q2 D ys H2 gO sO (g1.there D hD) hy (by simpa using vy)⟩
end
end
end FL
namespace L2
section
open PySem PySem.Spec PyProof.Rows
variable {X:Cx}
def rQ (l:Addr) (items:Array Value) (n:Nat) (b:Addr) (ip:Array Value) (n2:Nat) (sl:Array (Option Value)) (hc0:¬(!items.isEmpty&&Builtin.List.listTooLong (items.size+ip.size))=true) (hc1:items.size<=sizeLine) (sF:items.size+ip.size<=sizeLine+1) :
  Meets (Builtin.«list.extend» ⟨[.ref l,.ref b],[]⟩) (fun _ R s=>s.heap.get? l=some {cls:=.type "list",dict:=none,data:=.seq items n,slots:=#[]}/\s.heap.get? b=some {cls:=.type "list",dict:=none,data:=.seq ip n2,slots:=sl}/\R (.ok (.ret Be)) {s with heap:=s.heap.update l (Cb fun x=>x++ip),toks:=s.toks}):=
 .of_wp fun prog w A R s h=>by
  obtain⟨hp,g,d,tk,os⟩:=s;obtain⟨hl,hb,h⟩:=h;have f1:=Es;have f2:=C4;have f3:=Dp;have f4:=Df;have f5:=Dg;have ID:(items++ip).size<=sizeLine+1:=by rw [D3];exact sF
  wp_walk using (Dq hl rfl (hz:=hc1) (_hz':=ID)),BM hl,BM hb;exact⟨_,rfl,h⟩
def Zc (K:Aa):V->List V->Hp->VK->Prop:=fun x vs H Q=>∃l b xs zs,x=.ref l/\vs=[.ref b]/\H l=some (.lst xs)/\(cT K H b zs\/dc K H b zs)/\xs.length+zs.length<=sizeLine/\xK H l (.lst (xs++zs)) (Q .aU)
def R3 (K:Aa) (hK:X.K=K):MB X "list.extend" (Zc K):=by
 subst hK;intro pins s σ H x vs v us Q I rx rv h;obtain⟨l,b,xs,zs,rfl,rfl,hH,hB | hB,hz,q⟩:=h
 ·cases rx;obtain⟨u,rfl,ru⟩:=rv.one;cases ru;obtain⟨z,ar,n,r,hl,e⟩:=I.qa hH;obtain⟨bN,r2,⟨⟨cls,dd,data,sl⟩,n2,e2,hc,hd,lK⟩,z2⟩:=I.list hB;simp only at hc hd lK;subst hc hd lK;have QK:=r2.length;have hsz:ar.toArray.size+bN.toArray.size<=sizeLine:=by rw [Ag,Ag];omega
  have uB:¬(!ar.toArray.isEmpty&&Builtin.List.listTooLong (ar.toArray.size+bN.toArray.size))=true:=by
   rw [jt hsz,DS];exact AI
  refine call_meets DH ⟨_,e,rfl⟩ Dx (De _ _)
   (rQ l ar.toArray n b bN.toArray n2 sl uB (by rw [Ag];omega) (by omega)) ⟨e,e2,?_⟩
  refine⟨.aU,_,I.Ic (its':=ar++bN) hH e (by simp) (r.append r2) ?_,rfl,q.at⟩;rw [Ad];omega
 ·exact Gk pins s σ H _ _ v us Q I rx rv ⟨l,b,xs,zs,rfl,rfl,hH,hB,hz,q⟩
end
end L2
namespace FL
section
open PySem PySem.Spec PyProof.Rows L2 PL
variable {K:Aa}
section
variable {X:Cx}{elt tg iter:Expr}{ifs:List Expr}{sc:Scope}{N':List Str}{ix:List (Option Nat)}{pos:Pos}{fs:aV}{wl:W (List PV)}{T2:Type}{wt:PV->W T2}{is:List Nat}{dR:T2->aV}{tf:T2->W Bool}{te:T2->W PV}
def V8 {f:PV->W (Option PV)} (hc:X.calm=true) (S:aD X.env.scope X.N sc N' ix) (hi:sR X K fs tg iter wl) (hg:∀cl C s2 H2 fp,GF (gI X sc N' cl C s2 H2 fp) K (bS ix fs) tg is wt dR) (hfs:∀cl C s2 H2 fp t,FF (gI X sc N' cl C s2 H2 fp) K (dR t) ifs (tf t)) (he:∀cl C s2 H2 fp t,EF (gI X sc N' cl C s2 H2 fp) K (dR t) elt (te t))
  (hf:∀p,f p=.bind (wt p) fun t=>.bind (tf t) fun k=>if k=true then .bind (te t) fun v=>.ret (some v) else .ret none) (hl:wG is (bS ix fs) dR/\∀t,jH (dR t) (bS ix fs)) (v9:∀j∈is,ix[j]?=some none) (hs:∀x,foldedSetIterable iter X.env x=pure x:=by intro _;rfl) :
  LF X K fs (.ListComp elt [⟨tg,iter,ifs,0⟩] sc pos) (.bind wl fun l=>kW l f):=
 ⟨PE.imp (Zm hc S hi.p (fun cl C s2 H2 fp=>(hg cl C s2 H2 fp).p) (fun cl C s2 H2 fp pins s σ H Q I ⟨t,q⟩=>(hfs cl C s2 H2 fp t).p pins s σ H Q I q) (fun cl C s2 H2 fp pins s σ H Q I ⟨t,q⟩=>(he cl C s2 H2 fp t).p pins s σ H Q I q) hs) (Pj S rfl hf hl.1 hl.2 v9)⟩
def Uj {f:PV->W PV} (hc:X.calm=true) (S:aD X.env.scope X.N sc N' ix) (hi:sR X K fs tg iter wl) (hg:∀cl C s2 H2 fp,GF (gI X sc N' cl C s2 H2 fp) K (bS ix fs) tg is wt dR) (he:∀cl C s2 H2 fp t,EF (gI X sc N' cl C s2 H2 fp) K (dR t) elt (te t))
  (hf:∀p,f p=.bind (wt p) te) (hl:wG is (bS ix fs) dR/\∀t,jH (dR t) (bS ix fs)) (v9:∀j∈is,ix[j]?=some none) (hs:∀x,foldedSetIterable iter X.env x=pure x:=by intro _;rfl) :
  LF X K fs (.ListComp elt [⟨tg,iter,[],0⟩] sc pos) (.bind wl fun l=>cG l f):=by
 have:(fun l=>cG l f)=fun l=>kW l fun p=>.bind (wt p) fun t=>.bind (.ret true) fun k=>if k=true then .bind (te t) fun v=>.ret (some v) else .ret none:=funext fun l=>by
  rw [yB];congr 1;funext p;rw [hf];rfl
 rw [this];exact V8 (tf:=fun _=>.ret true) hc S hi hg (fun _ _ _ _ _ _=>Pe) he (fun p=>rfl) hl v9 hs
def SF.T7 {rest:List Stmt}{T:Type}{out:T->End}{x:Bool}{k:List PV->W T}{f:PV->W (Option PV)}{i:Nat}{y:Str}{px kT:Pos} (hc:X.calm=true) (hN:X.N.Nodup) (IE:X.N[i]?=some y) (hx:X.env.scope.names.lookup y=some .local) (S:aD X.env.scope X.N sc N' ix) (hi:sR X K fs tg iter wl) (hg:∀cl C s2 H2 fp,GF (gI X sc N' cl C s2 H2 fp) K (bS ix fs) tg is wt dR) (hfs:∀cl C s2 H2 fp t,FF (gI X sc N' cl C s2 H2 fp) K (dR t) ifs (tf t)) (he:∀cl C s2 H2 fp t,EF (gI X sc N' cl C s2 H2 fp) K (dR t) elt (te t))
  (hf:∀p,f p=.bind (wt p) fun t=>.bind (tf t) fun k=>if k=true then .bind (te t) fun v=>.ret (some v) else .ret none) (hl:wG is (bS ix fs) dR/\∀t,jH (dR t) (bS ix fs)) (v9:∀j∈is,ix[j]?=some none) (hr:∀l,SF X K x (fs.set i (some (.ol none l))) rest (k l) out)
  (uy:swapsWith (.ListComp elt [⟨tg,iter,ifs,0⟩] sc pos) (some (.Name y px)) kT.line X.env=pure true:=by rfl) (hs:∀x,foldedSetIterable iter X.env x=pure x:=by intro _;rfl) :
  SF X K x fs (.Assign [.Name y px] (.ListComp elt [⟨tg,iter,ifs,0⟩] sc pos) kT::rest) (.bind (.bind wl fun l=>kW l f) k) out:=
 SF.step (F5 hc hN IE hx S hi.p (fun cl C s2 H2 fp=>(hg cl C s2 H2 fp).p) (fun cl C s2 H2 fp pins s σ H Q I ⟨t,q⟩=>(hfs cl C s2 H2 fp t).p pins s σ H Q I q) (fun cl C s2 H2 fp pins s σ H Q I ⟨t,q⟩=>(he cl C s2 H2 fp t).p pins s σ H Q I q) uy hs) fun D σ H ⟨sr,q⟩=>
  Pj (K:=K) S rfl hf hl.1 hl.2 v9 σ H _ ⟨sr,(W.bind wl fun l=>kW l f).mono (fun l q1 a ws H1 g1 s1 n e v1=>by
   have no:=sr.noOwn n;have s2:=s1.tM (t:=.ol none l) ⟨by simp,ws,e,v1⟩ no i;exact⟨_,k l,hr l,s2,(k l).mono (fun t q2=>q2.go (cK.tM s1 g1.f no n i) sr s2) q1⟩) q⟩
theorem yG:∀{l:aV}{i:Nat} (s:Option SL),l[i]?=some none->jH (l.set i s) l
 | [],_,_,h=>by simp at h
 | x::l,0,s,h=>by
  simp at h;subst h;exact .drop (jH.refl l)
 | x::l,i+1,s,h=>by
  rw [List.set_cons_succ];exact .keep (yG s (by simpa using h))
def jH.trans {a b c:aV} (h1:jH a b) (h2:jH b c):jH a c:=by
 induction h1 generalizing c with
 | nil=>exact h2
 | drop h ih=>cases h2 with | drop h2=>exact .drop (ih h2) | keep h2=>exact .drop (ih h2)
 | keep h ih=>cases h2 with | drop h2=>exact .drop (ih h2) | keep h2=>exact .keep (ih h2)
def uo {mJ l:aV}{is:List Nat}{i:Nat}{v:PV} (hl:l.length=mJ.length/\∀(j:Nat) (s:SL),l[j]?=some (some s)->(j∈is/\s.own=false)\/(j∉is/\mJ[j]?=some (some s))) (hi:mJ[i]?=some none) :
  (l.set i (some (.val v))).length=mJ.length/\∀(j:Nat) (s:SL),(l.set i (some (.val v)))[j]?=some (some s)->(j∈is++[i]/\s.own=false)\/(j∉is++[i]/\mJ[j]?=some (some s)):=by
 refine⟨by rw [BV];exact hl.1,fun j s e=>?_⟩;rcases aY e with⟨rfl,rfl⟩ | ⟨n,e⟩
 ·exact .inl ⟨by simp,rfl⟩
 ·rcases hl.2 j s e with⟨h1,h2⟩ | ⟨h1,h2⟩
  ·exact .inl ⟨by simp [h1],h2⟩
  ·exact .inr ⟨by simp [h1,n],h2⟩
def Uh (mJ:aV):mJ.length=mJ.length/\∀(j:Nat) (s:SL),mJ[j]?=some (some s)->(j∈([]:List Nat)/\s.own=false)\/(j∉([]:List Nat)/\mJ[j]?=some (some s)):=⟨rfl,fun j s e=>.inr ⟨by simp,e⟩⟩
def Oo {mJ:aV}{i:Nat} (hi:mJ[i]?=some none):wG [i] mJ (fun p=>mJ.set i (some (.val p)))/\∀t,jH (mJ.set i (some (.val t))) mJ:=⟨fun t=>uo (is:=[]) (Uh mJ) hi,fun t=>yG _ hi⟩
def Nl {l:aV}{i j:Nat}{s:Option SL} (h:l[j]?=some none) (n:j≠i):(l.set i s)[j]?=some none:=by rw [aF n];exact h
def Om {mJ:aV}{i j:Nat} (hi:mJ[i]?=some none) (hj:mJ[j]?=some none) (n:j≠i):wG [i,j] mJ (fun t:PV×PV=>(mJ.set i (some (.val t.1))).set j (some (.val t.2)))/\∀t:PV×PV,jH ((mJ.set i (some (.val t.1))).set j (some (.val t.2))) mJ:=
 ⟨fun t=>uo (is:=[i]) (uo (is:=[]) (Uh mJ) hi) hj,fun t=>(yG _ (Nl hj n)).trans (yG _ hi)⟩
end
section
variable {X:Cx}{e:Expr}{rest:List Stmt}{pos p apos bo ft:Pos}{fs:aV}{T:Type}{out:T->End}{x:Bool}{we wi:W PV}{wl:W (List PV)}{q0:Option Addr}{l:List PV}{y:Str}
def c8 {σ:L2.St}{H:Hp}{i:Nat} (sr:aQ K H σ fs) (hs:fs[i]?=some (some (.ol q0 l))):∃a ws,σ[i]?=some (some (.ref a))/\H a=some (.lst ws)/\aH K [] H ws l:=by
 obtain⟨u,e1,r⟩:=sr.at' i _ hs;rcases r with⟨v,e,_⟩ | ⟨a,e,z,ws,q1,q2⟩
 ·cases e
 ·subst e;exact⟨a,ws,e1,q1,q2⟩
def jS {σ:L2.St}{H H':Hp}{i:Nat}{a:Addr}{sY:List V}{l':List PV} (sr:aQ K H σ fs) (hs:fs[i]?=some (some (.ol q0 l))) (e1:σ[i]?=some (some (.ref a))) (sx:rg a H H') (h':H' a=some (.lst sY)) (r:aH K [] H sY l'):aQ K H' σ (fs.set i (some (.ol q0 l')))/\cK σ fs H σ (fs.set i (some (.ol q0 l'))) H':=
 nk (t':=.ol q0 l') sr hs rfl (by simp) e1 sx fun tk=>⟨(sr.ownAt hs rfl e1).1,sY,h',aH.tk tk r⟩
def jC (l:List PV) (v:PV):W (List PV):=.gs (l.length < sizeLine) (.ret (l++[v]))
theorem SF.append (i:Nat) {k:List PV->W T} (hs:fs[i]?=some (some (.ol q0 l))) (hK:X.K=K) (hN:X.N[i]?=some y) (hv:xw X.env.scope y) (he:EF X K fs e we) (hr:∀l',SF X K x (fs.set i (some (.ol q0 l'))) rest (k l') out)
  (hd:(y==("__debug__":Str))=false:=by decide) (iW:(y==("__classdict__":Str))=false:=by decide) (fg:attributeBase (.Name y p) "append" X.env (eval (.Name y p) X.env)=eval (.Name y p) X.env:=by rfl)
  (qt:((backTo bo (starEach [e] X.env)).all (fun x=>!x.1)&&(backToKw bo (keywordEach [] X.env)).all (fun x=>x.1.isSome)
   && decide ([e].length+([]:List Keyword).length+(if ([]:List Keyword).isEmpty then 0 else 1) < 30))=true:=by rfl)
  (fe:(apos.endLine==bo.line)=true:=by rfl) (xc:starEach [e] X.env=(false,eval e X.env)::starEach [] X.env:=by rfl) (fP:(backTo bo (starEach [] X.env)).any (·.1)=false:=by rfl)
  (uy:swapsWith (.Call (.Attribute (.Name y p) "append" apos) [e] [] bo) none pos.line X.env=pure false:=by rfl) :
  SF X K x fs (.Expr (.Call (.Attribute (.Name y p) "append" apos) [e] [] bo) pos::rest) (.bind we fun v=>.bind (jC l v) k) out:=
 SF.step (oo (tS K hK Bz D7 D6 ub (dg hN hv hd iW) (bc he.p cE xc) fg qt fe xc fP) uy) fun D σ H ⟨sr,q⟩=>by
  obtain⟨a,ws,e1,h1,r1⟩:=c8 sr hs;refine⟨_,e1,.inl ⟨rfl,_,cT.of h1⟩,sr,we.mono (fun v q1 u H1 g1 s1 v1=>?_) q⟩;obtain⟨a',sY,mK,iX,Fx⟩:=c8 s1 hs;rw [e1] at mK;cases mK;refine⟨a,sY,u,rfl,rfl,iX,by rw [Fx.length];exact q1.1,fun H2 sx h2=>?_⟩;obtain⟨s2,g2⟩:=jS s1 hs e1 sx h2 (Fx.append (.one v1));exact⟨_,k _,hr _,s2,(k _).mono (fun t q2=>q2.go (g1.f.trans g2) sr s2) q1.2⟩
def zf (l m:List PV):W (List PV):=.gs (l.length+m.length<=sizeLine) (.ret (l++m))
theorem SF.extend (i:Nat) {k:List PV->W T} (hs:fs[i]?=some (some (.ol q0 l))) (hK:X.K=K) (hN:X.N[i]?=some y) (hv:xw X.env.scope y) (he:QF X K fs e wl) (hr:∀l',SF X K x (fs.set i (some (.ol q0 l'))) rest (k l') out)
  (hd:(y==("__debug__":Str))=false:=by decide) (iW:(y==("__classdict__":Str))=false:=by decide) (fg:attributeBase (.Name y p) "extend" X.env (eval (.Name y p) X.env)=eval (.Name y p) X.env:=by rfl)
  (qt:((backTo bo (starEach [e] X.env)).all (fun x=>!x.1)&&(backToKw bo (keywordEach [] X.env)).all (fun x=>x.1.isSome)
   && decide ([e].length+([]:List Keyword).length+(if ([]:List Keyword).isEmpty then 0 else 1) < 30))=true:=by rfl)
  (fe:(apos.endLine==bo.line)=true:=by rfl) (xc:starEach [e] X.env=(false,eval e X.env)::starEach [] X.env:=by rfl) (fP:(backTo bo (starEach [] X.env)).any (·.1)=false:=by rfl)
  (uy:swapsWith (.Call (.Attribute (.Name y p) "extend" apos) [e] [] bo) none pos.line X.env=pure false:=by rfl) :
  SF X K x fs (.Expr (.Call (.Attribute (.Name y p) "extend" apos) [e] [] bo) pos::rest) (.bind wl fun m=>.bind (zf l m) k) out:=
 SF.step (oo (tS K hK Bz PySem.F.slot_list_extend PySem.F.type_list_extend (R3 K hK) (dg hN hv hd iW) (bc he.p cE xc) fg qt fe xc fP) uy) fun D σ H ⟨sr,q⟩=>by
  obtain⟨a,ws,e1,h1,r1⟩:=c8 sr hs;refine⟨_,e1,.inl ⟨rfl,_,cT.of h1⟩,sr,wl.mono (fun m q1 u H1 g1 s1 v1=>?_) q⟩;obtain⟨a',sY,mK,iX,Fx⟩:=c8 s1 hs;rw [e1] at mK;cases mK;obtain⟨b,zs,rfl,hb,rb⟩:=v1.sq s1;refine⟨a,b,sY,zs,rfl,rfl,iX,hb,by rw [Fx.length,rb.length];exact q1.1,fun H2 sx h2=>?_⟩;obtain⟨s2,g2⟩:=jS s1 hs e1 sx h2 (Fx.append rb);exact⟨_,k _,hr _,s2,(k _).mono (fun t q2=>q2.go (g1.f.trans g2) sr s2) q1.2⟩
def yj (l:List PV):W (List PV×PV):=match l.getLast? with
 | some v=>.ret (l.dropLast,v)
 | none=>.fail
def Ni {l:List PV}{v:PV} (h:l.getLast?=some v):l=l.dropLast++[v]:=by
 rw [List.getLast?_eq_some_iff] at h;obtain⟨ys,rfl⟩:=h;simp
theorem aH.snoc {H:Hp}:∀{ws:List V}{l:List PV}{v:PV},aH K [] H ws (l++[v])->∃XA u,ws=XA++[u]/\aH K [] H XA l/\VR K [] H u v
 | _,[],_,.cons r .nil=>⟨[],_,rfl,.nil,r⟩
 | _,x::l,v,.cons r t=>by
  obtain⟨XA,u,rfl,h1,h2⟩:=aH.snoc t;exact⟨_::XA,u,rfl,.cons r h1,h2⟩
def SF.yk (i j:Nat) {z:Str}{p':Pos}{k:List PV×PV->W T} (hs:fs[i]?=some (some (.ol q0 l))) (hij:j≠i) (hK:X.K=K) (hN:X.N[i]?=some y) (hv:xw X.env.scope y) (hNd:X.N.Nodup) (hj:X.N[j]?=some z) (hx:Loc X.env.scope z) (hr:∀t:List PV×PV,SF X K x ((fs.set i (some (.ol q0 t.1))).set j (some (.val t.2))) rest (k t) out)
  (hd:(y==("__debug__":Str))=false:=by decide) (iW:(y==("__classdict__":Str))=false:=by decide) (fg:attributeBase (.Name y p) "pop" X.env (eval (.Name y p) X.env)=eval (.Name y p) X.env:=by rfl) (fe:(apos.endLine==bo.line)=true:=by rfl)
  (uy:swapsWith (.Call (.Attribute (.Name y p) "pop" apos) [] [] bo) (some (.Name z p')) pos.line X.env=pure false:=by rfl) (hf:X.fn z=true\/X.env.scope.names.lookup z=some .local:=by first | exact .inl rfl | exact .inr rfl | assumption) :
  SF X K x fs (.Assign [.Name z p'] (.Call (.Attribute (.Name y p) "pop" apos) [] [] bo) pos::rest) (.bind (yj l) k) out:=
 SF.step (tN hNd hj hx (RG K hK Bz PySem.F.slot_list_pop PySem.F.type_list_pop R1 (dg hN hv hd iW) fg fe) uy hf) fun D σ H ⟨sr,q⟩=>by
  obtain⟨a,ws,e1,h1,r1⟩:=c8 sr hs;have q:(yj l).run fun t=>(k t).run fun t=>bX K x σ fs H D (out t):=q;unfold yj at q;cases hl:l.getLast? with
  | none=>rw [hl] at q;exact q.elim
  | some v=>
   rw [hl] at q;have el:=Ni hl;rw [el] at r1;obtain⟨XA,u,rfl,r0,ru⟩:=aH.snoc r1;refine⟨_,e1,.inl ⟨rfl,_,cT.of h1⟩,a,XA,u,rfl,rfl,h1,fun H2 sx h2=>?_⟩;obtain⟨s2,g2⟩:=jS sr hs e1 sx h2 r0;have ru2:VR K [] H2 u v:=g2.vr sr ru;have s3:=s2.eZ ru2 j;exact⟨_,k _,hr (l.dropLast,v),s3,(k _).mono (fun t q2=>q2.go (g2.trans (cK.eZ s2 _ _ j)) sr s3) q⟩
def jm (l:List PV) (i v:PV):W (List PV):=match i with
 | .int k=>match qV l.length k with
  | some j=>.ret (l.set j v)
  | none=>.fail
 | _=>.fail
def SF.Nm (i:Nat) {ei:Expr}{k:List PV->W T} (hs:fs[i]?=some (some (.ol q0 l))) (hN:X.N[i]?=some y) (hv:xw X.env.scope y) (he:EF X K fs e we) (hi:EF X K fs ei wi) (hr:∀l',SF X K x (fs.set i (some (.ol q0 l'))) rest (k l') out)
  (ha:∀v,assign (.Subscript (.Name y p) ei ft) X.env v=(do
   let ov <- holding [v] (eval (.Name y p) X.env)
   let iv <- holding [v,ov] (eval ei X.env)
   standAt ft
   holding [v,ov,iv] (setItem ov iv v)
   release [v,ov,iv] []):=by intro _;rfl)
  (hd:(y==("__debug__":Str))=false:=by decide) (iW:(y==("__classdict__":Str))=false:=by decide) (Z4:swapsWithSole [.Subscript (.Name y p) ei ft] e pos.line X.env=pure false:=by rfl) (hw:swappedStores [.Subscript (.Name y p) ei ft] e X.env=pure none:=by rfl)
  (h1:(assignEach [.Subscript (.Name y p) ei ft] X.env).map (·.2)=[assign (.Subscript (.Name y p) ei ft) X.env]:=by rfl) :
  SF X K x fs (.Assign [.Subscript (.Name y p) ei ft] e pos::rest) (.bind we fun v=>.bind wi fun n=>.bind (jm l n v) k) out:=
 SF.step (yi he.p (NQ (dg hN hv hd iW) hi.p pT ha) Z4 hw h1) fun D σ H ⟨sr,q⟩=>by
  refine⟨sr,we.mono (fun v q1 u H1 g1 s1 v1=>?_) q⟩;obtain⟨a,ws,e1,h1,r1⟩:=c8 s1 hs;refine⟨_,e1,s1,wi.mono (fun n q2 u2 H2 g2 s2 v2=>?_) q1⟩;obtain⟨a',sY,mK,iX,Fx⟩:=c8 s2 hs;rw [e1] at mK;cases mK;cases v2 with
  | int kk=>
   have q2:(match qV l.length kk with | some j=>W.ret (l.set j v) | none=>W.fail).run _:=q2;cases hj:qV l.length kk with
   | none=>rw [hj] at q2;exact q2.elim
   | some j=>
    rw [hj] at q2;refine⟨a,sY,kk,j,rfl,rfl,iX,by rw [Fx.length];exact hj,fun H3 sx h3=>?_⟩;obtain⟨s3,g3⟩:=jS s2 hs e1 sx h3 (Fx.set (g2.vr s1 v1) j);exact⟨_,k _,hr _,s3,(k _).mono (fun t q3=>q3.go ((g1.trans g2).f.trans g3) sr s3) q2⟩
  | _=>exact q2.elim
def SF.aug {i:Nat}{op:Operator}{ti:Tw}{M:M2}{v0:PV}{p':Pos}{k:PV->W T} (hs:fs[i]?=some (some (.val v0))) (hN:X.N.Nodup) (hi:X.N[i]?=some y) (hx:Loc X.env.scope y) (he:EF X K fs e we) (ho:X8 X op ti) (hM:M2.Ok K ti M) (hr:∀v,SF X K x (fs.set i (some (.val v))) rest (k v) out)
  (hf:X.fn y=true\/X.env.scope.names.lookup y=some .local:=by first | exact .inl rfl | exact .inr rfl | assumption):SF X K x fs (.AugAssign (.Name y p') op e pos::rest) (.bind we fun v=>.bind (of2 M v0 v) k) out:=
 SF.step (Vs hN hi hx he.p ho hf) fun D σ H ⟨sr,q⟩=>by
  obtain⟨u0,e0,r0⟩:=sr.at' i _ hs;rcases r0 with⟨v,e,r0⟩ | ⟨a,_,r0⟩
  ·cases e;refine⟨u0,e0,sr,we.mono (fun v q1 u H1 g1 s1 v1=>?_) q⟩;refine yu hM s1 (g1.vr sr r0) v1 ((of2 M v0 v).mono (fun z q2 u2 H2 g2 s2 v2=>?_) q1);exact⟨_,k z,hr z,s2.eZ v2 i,(k z).mono (fun t q3=>q3.go ((g1.trans g2).f.trans (cK.eZ s2 u2 z i)) sr (s2.eZ v2 i)) q2⟩
  ·exact r0.elim
end
end
section
open PySem PySem.Spec PyProof.Rows L2 PL
variable {K:Aa}
def ir:List AK->List PV->aV
 | [],_=>[]
 | .v::ks,x::l=>some (.val x)::ir ks l
 | .v::_,[]=>[]
 | .p φ::ks,l=>some (.gF φ)::ir ks l
 | .f a::ks,l=>some (.adr a)::ir ks l
def u9 (ks:List AK) (l:List PV) (n:Nat):aV:=ir ks l++Al (n-ks.length) none
def zY (ks:List AK):Prop:=∀i j:Nat,(∃φ,ks[i]?=some (.p φ))->(∃φ,ks[j]?=some (.p φ))->i=j
theorem jI {R:Type}:∀{n:Nat}{m:QQ R n}{l:List PV}{Q:R->Prop},(dU n m l).run Q->l.length=n
 | 0,_,[],_,_=>rfl
 | 0,_,_::_,_,h=>h.elim
 | n+1,_,[],_,h=>h.elim
 | n+1,m,x::l,Q,h=>by rw [Aq,jI (n:=n) (m:=m x) h]
section
variable {H H':Hp}{vs:List V}{ks:List AK}{l:List PV}
def jg.len (h:jg K H vs ks l):vs.length=ks.length:=by induction h <;> simp_all
def jg.slot (h:jg K H vs ks l):(ir ks l).length=vs.length/\∀(i:Nat) (s:SL),(ir ks l)[i]?=some (some s)->∃u,vs[i]?=some u/\xy K H u s/\(s.own=true->∃φ,s=.gF φ/\ks[i]?=some (.p φ)):=by
 induction h with
 | nil=>exact⟨rfl,fun i s e=>by simp [ir] at e⟩
 | @v u x vs ks l r t ih=>
  refine⟨by simp [ir,ih.1],fun i s e=>?_⟩;cases i with
  | zero=>simp [ir] at e;subst e;exact⟨u,rfl,.inl ⟨x,rfl,r⟩,fun z=>by cases z⟩
  | succ i=>simp [ir] at e;obtain⟨w,h1,h2,h3⟩:=ih.2 i s e;exact⟨w,by simpa using h1,h2,by simpa using h3⟩
 | @p a φ ws vs ks l e0 r t ih=>
  refine⟨by simp [ir,ih.1],fun i s e=>?_⟩;cases i with
  | zero=>simp [ir] at e;subst e;exact⟨_,rfl,.inr ⟨a,rfl,ws,e0,r⟩,fun _=>⟨φ,rfl,rfl⟩⟩
  | succ i=>simp [ir] at e;obtain⟨w,h1,h2,h3⟩:=ih.2 i s e;exact⟨w,by simpa using h1,h2,by simpa using h3⟩
 | @f a vs ks l t ih=>
  refine⟨by simp [ir,ih.1],fun i s e=>?_⟩;cases i with
  | zero=>simp [ir] at e;subst e;exact⟨_,rfl,.inr ⟨a,rfl,rfl⟩,fun z=>by cases z⟩
  | succ i=>simp [ir] at e;obtain⟨w,h1,h2,h3⟩:=ih.2 i s e;exact⟨w,by simpa using h1,h2,by simpa using h3⟩
def jg.Vt (h:jg K H vs ks l) {i:Nat}{φ:List V->Prop} (e:ks[i]?=some (.p φ)):(ir ks l)[i]?=some (some (.gF φ)):=by
 induction h generalizing i with
 | nil=>simp at e
 | v r t ih=>cases i with | zero=>simp at e | succ i=>simp [ir];exact ih (by simpa using e)
 | p e0 r t ih=>cases i with | zero=>simp at e;subst e;rfl | succ i=>simp [ir];exact ih (by simpa using e)
 | f t ih=>cases i with | zero=>simp at e | succ i=>simp [ir];exact ih (by simpa using e)
def pw {n i:Nat}{s:SL} (h:(u9 ks l n)[i]?=some (some s)):(ir ks l)[i]?=some (some s):=by
 unfold u9 at h;by_cases c:i < (ir ks l).length
 ·rw [Az c] at h;exact h
 ·rw [Ay (by omega),Bn] at h
  split at h <;> cases h
def mj {N:List Str}{i:Nat}{u:V} (h:vs[i]?=some u):(L2.start N vs)[i]?=some (some u):=by
 unfold L2.start;rw [Az (by rw [Af];exact (Aj.mp h).1),Ai,h];rfl
def wM {N:List Str}{i:Nat}{u:V} (h:(L2.start N vs)[i]?=some (some u)):vs[i]?=some u:=by
 unfold L2.start at h;by_cases c:i < vs.length
 ·rw [Az (by simpa using c),Ai] at h;cases z:vs[i]? with
  | none=>rw [z] at h;cases h
  | some q=>rw [z] at h;cases h;rfl
 ·rw [Ay (by simpa using c),Bn] at h
  split at h <;> cases h
def jg.beg (h:jg K H vs ks l) (one:zY ks) (N:List Str):aQ K H (L2.start N vs) (u9 ks l N.length):=by
 obtain⟨hl,hs⟩:=h.slot;refine⟨?_,fun i s e=>?_,fun i j s t x y a e1 e2 o1 o2 q1 q2 z1 z2=>?_⟩
 ·unfold L2.start u9;rw [Ad,Ad,Af,hl,A3,A3,h.len]
 ·obtain⟨u,h1,h2,_⟩:=hs i s (pw e);exact⟨u,mj h1,h2⟩
 ·obtain⟨_,_,_,h3⟩:=hs i s (pw e1);obtain⟨_,_,_,h4⟩:=hs j t (pw e2);obtain⟨φ,_,k1⟩:=h3 o1;obtain⟨ψ,_,k2⟩:=h4 o2;exact one i j ⟨φ,k1⟩ ⟨ψ,k2⟩
def jg.go (h:jg K H vs ks l) {N:List Str}{σ':L2.St}{bE:aV} (g:cK (L2.start N vs) (u9 ks l N.length) H σ' bE H') (s':aQ K H' σ' bE):GoC vs ks H H':=by
 obtain⟨hl,hs⟩:=h.slot;refine⟨fun a o e n=>(g.keep a o e fun z=>?_).1,g.there,fun a φ p=>?_⟩
 ·obtain⟨i,s,x,e1,e2,e3,e4⟩:=z;obtain⟨u,h1,h2,h3⟩:=hs i s (pw e1);obtain⟨φ,rfl,k⟩:=h3 e2;rcases e4 with rfl | e4
  ·exact n φ ⟨i,k,wM e3⟩
  ·cases e4
 ·obtain⟨i,e1,e2⟩:=p;have e3:=h.Vt e1;have hi:i < (ir ks l).length:=(Aj.mp e3).1;have e4:(u9 ks l N.length)[i]?=some (some (.gF φ)):=by unfold u9;rw [Az hi];exact e3
  rcases g.pk a φ ⟨i,e4,mj e2⟩ with⟨j,k1,k2⟩ | ⟨_,k⟩
  ·exact s'.ownAt k1 rfl k2
  ·exact k
end
section
variable {P:Program}{w:World}{mg:Str->Option Value}{base:Heap}{x qual:Str}{st:Stmt}{f:Addr}{fd:FuncData}{N ps:List Str}{k n:Nat}{ks:List AK}
def fnV {m:QQ PV n} (Fn:QP K x qual st f fd) (S:ay N ps (aj st)) (WA:ks.length=ps.length) (one:zY ks)
  (cert:∀l:List PV,l.length=n->∀(gw:Value) (A:Around) (outer:List Env) (s:Shared) (H:Hp) (E:XK),fY k (A.deeper (envOfC qual (aj st) s.heap.objs.size f gw))->SF (uX sT P w K mg base N qual (aj st) f gw A outer s H E).RZ K false (u9 ks l N.length) (dI st) (dU n m l) .rt) :
  iu P w K mg base sT (k+1) f fd ps (kU K ks (dU n m)):=by
 refine Fn.ok S (fun vs H Q E h=>?_) (fun gw A outer s H vs Q E hr h=>?_)
 ·obtain⟨l,h,_⟩:=h;rw [h.len];exact WA
 obtain⟨l,h,q⟩:=h;refine⟨_,(cert l (jI q) gw A outer s H E hr).p,h.beg one N,(dU n m l).mono (fun v q1 u σ' bE H' g s' r=>q1 u H' (h.go g s') r) q⟩
def fnL {m:QQ (List PV) n} (Fn:QP K x qual st f fd) (S:ay N ps (aj st)) (WA:ks.length=ps.length) (one:zY ks)
  (cert:∀l:List PV,l.length=n->∀(gw:Value) (A:Around) (outer:List Env) (s:Shared) (H:Hp) (E:XK),fY k (A.deeper (envOfC qual (aj st) s.heap.objs.size f gw))->SF (uX sT P w K mg base N qual (aj st) f gw A outer s H E).RZ K false (u9 ks l N.length) (dI st) (dU n m l) .rl) :
  iu P w K mg base sT (k+1) f fd ps (jh K ks (dU n m)):=by
 refine Fn.ok S (fun vs H Q E h=>?_) (fun gw A outer s H vs Q E hr h=>?_)
 ·obtain⟨l,h,_⟩:=h;rw [h.len];exact WA
 obtain⟨l,h,q⟩:=h;have sr:=h.beg one N;refine⟨_,(cert l (jI q) gw A outer s H E hr).p,sr,(dU n m l).mono (fun z q1 a ws σ' bE H' g s' fr e r=>q1 a ws H' (h.go g s') ?_ e r) q⟩;rcases fr with fr | ⟨i,t,x,e1,e2,np,e3,e4⟩
 ·exact fr
 ·obtain⟨_,_,_,h3⟩:=h.slot.2 i t (pw e1);obtain⟨φ,e,_⟩:=h3 e2;exact absurd e (np φ)
end
def ox:zY []:=fun i j ⟨_,h⟩=>by simp at h
def wU {ks:List AK} (h:zY ks):zY (.v::ks):=fun i j ⟨φ,a⟩ ⟨ψ,b⟩=>by
 cases i with
 | zero=>simp at a
 | succ i=>
  cases j with
  | zero=>simp at b
  | succ j=>rw [h i j ⟨φ,by simpa using a⟩ ⟨ψ,by simpa using b⟩]
def ib {n:Nat}{φ:List V->Prop}:zY (.p φ::Al n .v):=fun i j ⟨χ,a⟩ ⟨ψ,b⟩=>by
 have z:∀{i:Nat}{χ:List V->Prop},(AK.p φ::Al n .v)[i]?=some (.p χ)->i=0:=fun {i χ} a=>by
  cases i with
  | zero=>rfl
  | succ i=>
   have a:(Al n AK.v)[i]?=some (.p χ):=by simpa using a
   rw [Bn] at a
   split at a <;> simp at a
 rw [z a,z b]
end
end FL
namespace L2
section
open PySem PySem.Spec PyProof.Rows
variable {X:Cx}
def Zf (K:Aa):R2:=fun x y H Q=>∃a b xs zs,x=.ref a/\y=.ref b/\cT K H a xs/\cT K H b zs/\xs.length+zs.length<=sizeLine/\nu H (.lst (xs++zs)) Q
def RN (K:Aa) (hK:X.K=K):jE X (binaryOp .Add) (Zf K):=by
 subst hK;intro pins s σ H x y v u Q I rx ry h;obtain⟨l,b,xs,zs,rfl,rfl,hH,hB,hz,q⟩:=h;cases rx;cases ry;obtain⟨ar,r,⟨⟨cls,dd,data,sl⟩,n,ho,hc,hd,lK⟩,_⟩:=I.list hH;obtain⟨bN,r2,⟨⟨aaT,dd2,data2,XC⟩,n2,QJ,Uv,hd2,Ut⟩,_⟩:=I.list hB;simp only at hc hd lK Uv hd2 Ut;subst hc hd lK Uv hd2 Ut;have e:ar.toArray++bN.toArray=(ar++bN).toArray:=by simp
 have hl:=r.length;have QK:=r2.length;refine concat_meets ⟨_,ho,rfl⟩ ⟨_,QJ,rfl⟩ noFill_list_add seq_list_add PySem.F.slot_list_add PySem.F.entry_list_add (PySem.F.args_list_add_2 _ _) (list_addW l b ar.toArray bN.toArray n n2 none none sl XC (by simp;omega)) ⟨ho,QJ,?_⟩;rw [e];exact⟨.ref _,_,I.V4 (t':=s.toks) (r.append r2) (by rw [Ad];omega),rfl,q.at _ I.fresh⟩
end
end L2
namespace FL
section
open PySem PySem.Spec PyProof.Rows L2 PL
variable {K:Aa}
section
variable {X:Cx}{a b c e o:Expr}{pos p p1 p2 p3 p4:Pos}{fs:aV}{w wa wb:W PV}{wl wm:W (List PV)}
def G4 (l m:List PV):W (List PV):=.gs (l.length+m.length<=sizeLine) (.ret (l++m))
def fQL (K:Aa) (fs:aV) (w:W (List PV)):TE:=fun σ H Q=>aQ K H σ fs/\w.run fun l=>∀u H',cU σ fs H H'->aQ K H' σ fs->Tx K σ fs H' u l->(∀H'',cU σ fs H' H''->aQ K H'' σ fs->∃a vs,u=.ref a/\cT K H'' a vs/\aH K [] H'' vs l)->Q u H'
structure Hh (X:Cx) (K:Aa) (fs:aV) (e:Expr) (w:W (List PV)):Prop where p:PE X e (fQL K fs w)
def cO (h:LF X K fs e wl):Hh X K fs e wl:=⟨PE.imp h.p fun σ H Q ⟨sr,q⟩=>⟨sr,wl.mono (fun l q1 a vs H1 g1 s1 n e v=>q1 _ H1 g1 s1 (.inr ⟨a,rfl,.inl ⟨sr.noOwn n,vs,e,v⟩⟩) fun H2 g2 s2=>⟨a,vs,rfl,cT.of (g2.qT e (sr.noOwn n)),g2.MD s1 v⟩) q⟩⟩
def yf (i:Nat) {x:Str}{q0:Option Addr}{l:List PV} (hs:fs[i]?=some (some (.ol q0 l)):=by rfl) (hN:X.N[i]?=some x:=by rfl) (hv:xw X.env.scope x:=by first | exact Ck rfl | exact Cd (Ck rfl) | exact Cd (Cd rfl)) (hd:(x==("__debug__":Str))=false:=by decide) (iW:(x==("__classdict__":Str))=false:=by decide):Hh X K fs (.Name x pos) (.ret l):=
 ⟨PE.imp (dg hN hv hd iW) fun σ H Q ⟨sr,q⟩=>by
  obtain⟨a,ws,e1,h1,r1⟩:=c8 sr hs;refine⟨_,e1,q _ H .refl sr (.inr ⟨a,rfl,.inr ⟨i,q0,hs,e1⟩⟩) fun H2 g2 s2=>?_⟩;obtain⟨a',sY,mK,iX,Fx⟩:=c8 s2 hs;rw [e1] at mK;cases mK;exact⟨a,sY,rfl,cT.of iX,Fx⟩⟩
def Og:PV->W (List PV)
 | .cl l=>.ret l
 | _=>.fail
def NG (h:EF X K fs e w):Hh X K fs e (.bind w Og):=⟨PE.imp h.p fun σ H Q ⟨sr,q⟩=>⟨sr,w.mono (fun x q1 u1 H1 g1 s1 v1=>by
 cases v1 with
 | cl e r=>exact q1 _ H1 g1 s1 (.inl ⟨_,_,rfl,.inl e,r⟩) fun H2 g2 s2=>⟨_,_,rfl,((g2.eT s1).f _ _ e).sq,g2.MD s1 r⟩
 | _=>exact q1.elim) q⟩⟩
def Gx (hK:X.K=K) (ha:Hh X K fs a wl) (hb:Hh X K fs b wm):LF X K fs (.BinOp a .Add b pos) (.bind wl fun l=>.bind wm fun m=>G4 l m):=⟨PE.imp (JT (RN K hK) ha.p hb.p) fun σ H Q ⟨sr,q⟩=>⟨sr,wl.mono (fun l q1 u1 H1 g1 s1 _ v1=>⟨s1,wm.mono (fun m q2 u2 H2 g2 s2 _ v2=>by
 obtain⟨a,vs,rfl,h1,r1⟩:=v1 H2 g2 s2;obtain⟨b,ws,rfl,h2,r2⟩:=v2 H2 .refl s2;refine⟨a,b,vs,ws,rfl,rfl,h1,h2,by rw [r1.length,r2.length];exact q2.1,fun p H3 s3 h3 n3=>?_⟩;have gg:=g1.trans g2;exact q2.2 p _ H3 (gg.trans (cU.same s3)) (s2.same s3) (gg.there p n3) h3 (aH.tk s3.fv (r1.append r2))) q1⟩) q⟩⟩
def N8 {σ:L2.St}{H H1:Hp}{Q:VK}{vs:List V}{l:List PV} (g1:cU σ fs H H1) (s1:aQ K H1 σ fs) (r:aH K [] H1 vs l) (q:∀a vs H',cU σ fs H H'->aQ K H' σ fs->H a=none->H' a=some (.lst vs)->aH K [] H' vs l->Q (.ref a) H'):nu H1 (.lst vs) Q:=fun p H2 s2 h2 n2=>q p vs H2 (g1.trans (cU.same s2)) (s1.same s2) (g1.there p n2) h2 (aH.tk s2.fv r)
def Oj (K:Aa):CL K (Ny K) .ret:=fun {fs σ H Q u l} s v q=>by
 obtain⟨a,vs,rfl,h,rs⟩:=v.sq s;exact⟨a,vs,rfl,h,N8 .refl s rs q⟩
def V7 (hK:X.K=K) (hg:Gl X "list") (hm:X.mg "list"=none) (ha:QF X K fs e wl) (he:starEach [e] X.env=(false,eval e X.env)::starEach [] X.env:=by rfl) (ef:(backTo pos (starEach [] X.env)).any (·.1)=false:=by rfl):LF X K fs (.Call (.Name "list" p) [e] [] pos) wl:=Ov (m:=.ret) (I0 K hK) (Oj K) hg hm boot_list ha (by decide) (by decide) he ef
def eg (hK:X.K=K) (hg:Gl X "tuple") (hm:X.mg "tuple"=none) (ha:QF X K fs e wl) (he:starEach [e] X.env=(false,eval e X.env)::starEach [] X.env:=by rfl) (ef:(backTo pos (starEach [] X.env)).any (·.1)=false:=by rfl):EF X K fs (.Call (.Name "tuple" p) [e] [] pos) (.bind wl ng):=Me (Mm K hK) (Q1 K) hg hm boot_tuple ha (by decide) (by decide) he ef
def lT (hK:X.K=K) (hg:Gl X "len") (hm:X.mg "len"=none) (ha:QF X K fs e wl) (he:starEach [e] X.env=(false,eval e X.env)::starEach [] X.env:=by rfl) (ef:(backTo pos (starEach [] X.env)).any (·.1)=false:=by rfl):EF X K fs (.Call (.Name "len" p) [e] [] pos) (.bind wl oC):=PM (xo K hK) (R8 K) hg hm boot_len ha (by decide) (by decide) he ef
def Qx {R:Type} (ha:EF X K fs e w) (he:starEach [e] X.env=(false,eval e X.env)::starEach [] X.env):AF X K fs [e] (Al 1 .v) (R:=R) (fun k=>.bind w fun x=>k [x]):=af ha ao he
def fi (hK:X.K=K) (hg:Gl X "len") (hm:X.mg "len"=none) (ha:EF X K fs e w) (he:starEach [e] X.env=(false,eval e X.env)::starEach [] X.env:=by rfl) (ef:(backTo pos (starEach [] X.env)).any (·.1)=false:=by rfl):EF X K fs (.Call (.Name "len" p) [e] [] pos) (.bind w fun x=>rH fu [x]):=sN (n:=1) (xo K hK) (Tf K) hg hm boot_len (Qx ha he) (by decide) (by decide) he ef
def aaO (hg:Gl X "abs") (hm:X.mg "abs"=none) (ha:EF X K fs e w) (he:starEach [e] X.env=(false,eval e X.env)::starEach [] X.env:=by rfl) (ef:(backTo pos (starEach [] X.env)).any (·.1)=false:=by rfl):EF X K fs (.Call (.Name "abs" p) [e] [] pos) (.bind w fun x=>rH Qn [x]):=sN (n:=1) Qi Th hg hm boot_abs (Qx ha he) (by decide) (by decide) he ef
def mD (hg:Gl X "int") (hm:X.mg "int"=none) (ha:EF X K fs e w) (he:starEach [e] X.env=(false,eval e X.env)::starEach [] X.env:=by rfl) (ef:(backTo pos (starEach [] X.env)).any (·.1)=false:=by rfl):EF X K fs (.Call (.Name "int" p) [e] [] pos) (.bind w fun x=>rH pz [x]):=PK (n:=1) Mt Tg hg hm boot_int (Qx ha he) (by decide) (by decide) he ef
def aaI (hc:X.calm=true) (hg:Gl X "max") (hm:X.mg "max"=none) (ha:EF X K fs a wa) (hb:EF X K fs b wb) (he:starEach [a,b] X.env=(false,eval a X.env)::starEach [b] X.env:=by rfl) (he2:starEach [b] X.env=(false,eval b X.env)::starEach [] X.env:=by rfl) (ef:(backTo pos (starEach [b] X.env)).any (·.1)=false:=by rfl):EF X K fs (.Call (.Name "max" p) [a,b] [] pos) (.bind wa fun x=>.bind wb fun y=>rH Qm [x,y]):=sN (n:=2) (Mp hc) Te hg hm boot_max (af ha (af hb ao he2) he) (by decide) (by decide) he ef
def aaH (hc:X.calm=true) (hg:Gl X "min") (hm:X.mg "min"=none) (ha:EF X K fs a wa) (hb:EF X K fs b wb) (he:starEach [a,b] X.env=(false,eval a X.env)::starEach [b] X.env:=by rfl) (he2:starEach [b] X.env=(false,eval b X.env)::starEach [] X.env:=by rfl) (ef:(backTo pos (starEach [b] X.env)).any (·.1)=false:=by rfl):EF X K fs (.Call (.Name "min" p) [a,b] [] pos) (.bind wa fun x=>.bind wb fun y=>rH Ql [x,y]):=sN (n:=2) (Mo hc) Td hg hm boot_min (af ha (af hb ao he2) he) (by decide) (by decide) he ef
def Ui (hK:X.K=K) (hc:X.calm=true) (hg1:Gl X "list") (hm1:X.mg "list"=none) (hg2:Gl X "reversed") (XN:X.mg "reversed"=none) (he:Hh X K fs e wl)
  (GL:starEach [.Call (.Name "reversed" p3) [e] [] p4] X.env=(false,eval (.Call (.Name "reversed" p3) [e] [] p4) X.env)::starEach [] X.env:=by rfl) (sF:starEach [e] X.env=(false,eval e X.env)::starEach [] X.env:=by rfl) :
  LF X K fs (.Call (.Name "list" p1) [.Call (.Name "reversed" p3) [e] [] p4] [] p2) (.bind wl fun l=>.ret l.reverse):=⟨PE.imp (HQ K hK hc hg1 hm1 hg2 XN he.p GL sF) fun σ H Q ⟨sr,q⟩=>⟨sr,wl.mono (fun l q1 u1 H1 g1 s1 _ v1=>by
 obtain⟨a,vs,rfl,h1,r1⟩:=v1 H1 .refl s1;exact⟨a,vs,rfl,h1,N8 g1 s1 r1.reverse q1⟩) q⟩⟩
def X5:List PV->W (List Bool)
 | []=>.ret []
 | .bl b::r=>.bind (X5 r) fun l=>.ret (b::l)
 | _=>.fail
theorem zG:∀{l:List PV}{Q:List Bool->Prop},(X5 l).run Q->∃bs:List Bool,l=bs.map PV.bl/\Q bs
 | [],Q,h=>⟨[],rfl,h⟩
 | .bl b::r,Q,h=>by
  obtain⟨bs,e,q⟩:=zG (l:=r) h;exact⟨b::bs,by rw [e];rfl,q⟩
 | .aU::r,Q,h=>h.elim
 | .int _::r,Q,h=>h.elim
 | .str _::r,Q,h=>h.elim
 | .tup _::r,Q,h=>h.elim
 | .ref _::r,Q,h=>h.elim
 | .ty _::r,Q,h=>h.elim
 | .cl _::r,Q,h=>h.elim
@[simp] theorem zH:∀bs:List Bool,X5 (bs.map PV.bl)=.ret bs
 | []=>rfl
 | b::bs=>by
  show W.bind (X5 (bs.map PV.bl)) _=_;rw [zH bs];rfl
def Tq (l:List PV):W PV:=.bind (X5 l) fun bs=>.ret (.bl (bs.all id))
def Qt (l:List PV):W PV:=.bind (X5 l) fun bs=>.ret (.bl (bs.any id))
def aaN (hK:X.K=K) (hc:X.calm=true) (hg:Gl X "all") (hm:X.mg "all"=none) (ha:Hh X K fs e wl) (he:starEach [e] X.env=(false,eval e X.env)::starEach [] X.env:=by rfl) (ef:(backTo pos (starEach [] X.env)).any (·.1)=false:=by rfl):EF X K fs (.Call (.Name "all" p) [e] [] pos) (.bind wl Tq):=⟨PE.imp (e7 (Mv K hK hc) hg hm boot_all (bc ha.p cE he) (by decide) (by decide) he ef) fun σ H Q ⟨sr,q⟩=>⟨sr,wl.mono (fun l q1 u1 H1 g1 s1 _ v1=>by
 obtain⟨bs,e,q2⟩:=zG (l:=l) q1;obtain⟨a,vs,rfl,h1,r1⟩:=v1 H1 .refl s1;rw [e] at r1;have:=qL r1;subst this;exact⟨a,bs,rfl,h1,q2 _ H1 g1 s1 (.bl _)⟩) q⟩⟩
def aaM (hK:X.K=K) (hc:X.calm=true) (hg:Gl X "any") (hm:X.mg "any"=none) (ha:Hh X K fs e wl) (he:starEach [e] X.env=(false,eval e X.env)::starEach [] X.env:=by rfl) (ef:(backTo pos (starEach [] X.env)).any (·.1)=false:=by rfl):EF X K fs (.Call (.Name "any" p) [e] [] pos) (.bind wl Qt):=⟨PE.imp (e7 (Mu K hK hc) hg hm boot_any (bc ha.p cE he) (by decide) (by decide) he ef) fun σ H Q ⟨sr,q⟩=>⟨sr,wl.mono (fun l q1 u1 H1 g1 s1 _ v1=>by
 obtain⟨bs,e,q2⟩:=zG (l:=l) q1;obtain⟨a,vs,rfl,h1,r1⟩:=v1 H1 .refl s1;rw [e] at r1;have:=qL r1;subst this;exact⟨a,bs,rfl,h1,q2 _ H1 g1 s1 (.bl _)⟩) q⟩⟩
def gM (k:Kd) (x:PV):W PV:=match x with
 | .ref _=>.fail
 | .ty _=>.fail
 | x=>.ret (.bl (k.is x))
def Nz (K:Aa):List V->Hp->VK->Prop:=fun xs H Q=>∃x c t b,xs=[x,.ty c]/\(mM K H x t\/(t=.type "tuple"/\∃a vs,x=.ref a/\dc K H a vs)\/(t=.type "list"/\∃a vs,x=.ref a/\cT K H a vs)\/(t=.type "dict"/\∃a,x=.ref a/\IsD H a))/\Bo K t (.type c)=some b/\Q (.bl b) H
def Mr (hK:X.K=K):bL X (.builtin "isinstance") (Nz K):=by
 subst hK;intro pins s σ H xs us Q I r h;obtain⟨x,c,t,b,rfl,ty | ty | ⟨rfl,a,vs,rfl,hL⟩ | ⟨rfl,a,rfl,hD⟩,e,q⟩:=h
 ·exact q9 pins s σ H _ us Q I r ⟨x,c,t,b,rfl,ty,e,q⟩
 ·exact Mq X.K rfl pins s σ H _ us Q I r ⟨x,c,t,b,rfl,.inr ty,e,q⟩
 ·obtain⟨u,w,rfl,r1,r2⟩:=vals2 r;cases r1;cases r2;obtain⟨ar,_,⟨o,n,h1,h2,_⟩,_⟩:=I.list hL;exact A4 DU I.xa ⟨o,h1,h2⟩ e (fun z=>nomatch z) fun tk=>⟨.bl b,H,I.tok _,rfl,q⟩
 ·obtain⟨u,w,rfl,r1,r2⟩:=vals2 r;cases r1;cases r2;have:∃o,s.heap.get? a=some o/\o.cls=.type "dict":=by
   rcases hD with⟨kvs,e⟩ | ⟨kvs,e⟩
   ·obtain⟨_,_,vs,_,o,_,_,h1,h2,_⟩:=uU I.bD e;exact⟨o,h1,h2.1⟩
   ·obtain⟨_,_,xs,_,o,_,_,h1,h2,_⟩:=uT I.bD e;exact⟨o,h1,h2.1⟩
  obtain⟨o,h1,h2⟩:=this;exact A4 DV I.xa ⟨o,h1,h2⟩ e (fun z=>nomatch z) fun tk=>⟨.bl b,H,I.tok _,rfl,q⟩
def gn (hK:X.K=K) (k:Kd) {x:Str} (hg:Gl X "isinstance") (hm:X.mg "isinstance"=none) (ha:EF X K fs a wa) (hgx:Gl X x) (hmx:X.mg x=none) (hv:bootBuiltins x=some (.type k.name)) (hn:x≠"__name__":=by decide) (hd:(x==("__debug__":Str))=false:=by decide)
  (he:starEach [a,.Name x p2] X.env=(false,eval a X.env)::starEach [.Name x p2] X.env:=by rfl) (he2:starEach [Expr.Name x p2] X.env=(false,eval (.Name x p2) X.env)::starEach [] X.env:=by rfl)
  (ef:(backTo pos (starEach [Expr.Name x p2] X.env)).any (·.1)=false:=by rfl):EF X K fs (.Call (.Name "isinstance" p) [a,.Name x p2] [] pos) (.bind wa (gM k)):=
 ⟨PE.imp (e7 (Mr hK) hg hm boot_isinstance (bc ha.p (bc (RH (v:=.ty k.name) hgx hmx hv rfl hn hd) cE he2) he) (by decide) (by decide) he ef) fun σ H Q ⟨sr,q⟩=>⟨sr,wa.mono (fun x q1 u1 H1 g1 s1 v1=>by
  have fin:∀{t:Value}{y:PV},mM K H1 u1 t->Bo K t (.type k.name)=some (k.is y)->Q (.bl (k.is y)) H1->Nz K [u1,.ty k.name] H1 Q:=fun ty e q=>⟨_,_,_,_,rfl,.inl ty,e,q⟩;show Nz K [u1,.ty k.name] H1 Q;cases v1 with
  | aU=>exact fin (y:=.aU) .aU (by rw [(sE K).1 k];cases k <;> rfl) (q1 _ H1 g1 s1 (.bl _))
  | bl b=>exact fin (.bl b) (We K b k) (q1 _ H1 g1 s1 (.bl _))
  | int b=>exact fin (.int b) (Si K b k) (q1 _ H1 g1 s1 (.bl _))
  | str b=>exact fin (.str b) (Sh K b k) (q1 _ H1 g1 s1 (.bl _))
  | ty n=>exact q1.elim
  | ref n=>exact q1.elim
  | @dk a o kvs ks l e k1 r=>exact⟨_,_,_,_,rfl,.inr (.inr (.inr ⟨rfl,_,rfl,.inl ⟨_,.inr ⟨_,e⟩⟩⟩)),(show _=some (k.is (.dv ks l)) by rw [(sE K).2.2 k];cases k <;> rfl),q1 _ H1 g1 s1 (.bl _)⟩
  | @dt a o kvs ks l e k1 r=>exact⟨_,_,_,_,rfl,.inr (.inr (.inr ⟨rfl,_,rfl,.inr ⟨_,.inr ⟨_,e⟩⟩⟩)),(show _=some (k.is (.dv ks l)) by rw [(sE K).2.2 k];cases k <;> rfl),q1 _ H1 g1 s1 (.bl _)⟩
  | @cl p vs l e r=>exact⟨_,_,_,_,rfl,.inr (.inr (.inl ⟨rfl,_,_,rfl,e.sq⟩)),(show _=some (k.is (.cl l)) by rw [(sE K).2.1 k];cases k <;> rfl),q1 _ H1 g1 s1 (.bl _)⟩
  | @tup p vs l e r=>exact⟨_,_,_,_,rfl,.inr (.inl ⟨rfl,_,_,rfl,dc.of e⟩),Sg K _ k,q1 _ H1 g1 s1 (.bl _)⟩) q⟩⟩
def F0 (l:List PV):PV->W (List PV)
 | .int k=>.gs (-(2 ^ 63)<=k/\k < 2 ^ 63/\l.length*k.toNat<=sizeLine) (.ret (Al k.toNat l).flatten)
 | _=>.fail
def Ou (ha:LF X K fs a wl) (hb:EF X K fs b wb):LF X K fs (.BinOp a .Mult b pos) (.bind wl fun l=>.bind wb fun y=>F0 l y):=⟨PE.imp (JT VC ha.p hb.p) fun σ H Q ⟨sr,q⟩=>⟨sr,wl.mono (fun l q1 a vs H1 g1 s1 n e v=>⟨s1,wb.mono (fun y q2 u2 H2 g2 s2 v2=>by
 cases v2 with
 | int k=>
  have no:=sr.noOwn n;have e2:=(g2.qT e no);have r2:=g2.MD s1 v;refine⟨a,k,vs,rfl,rfl,e2,q2.1.1,q2.1.2.1,by rw [r2.length];exact q2.1.2.2,fun p hp=>?_⟩;have sm:=lj hp (.lst (Al k.toNat vs).flatten);have gg:=g1.trans g2;exact q2.2 p _ _ (gg.trans (cU.same sm)) (s2.same sm) (gg.there p hp) aM (aH.tk sm.fv (r2.rep k.toNat))
 | _=>exact q2.elim) q1⟩) q⟩⟩
def part:PV->W (Option Int)
 | .int i=>.ret (some i)
 | _=>.fail
def yx:OF X K fs none (.ret none):=⟨PO.imp Rz fun σ H Q ⟨sr,q⟩=>q H .refl sr⟩
def yw (h:EF X K fs e w):OF X K fs (some e) (.bind w part):=⟨PO.imp (Ry h.p) fun σ H Q ⟨sr,q⟩=>⟨sr,w.mono (fun x q1 u1 H1 g1 s1 v1=>by
 cases v1 with
 | int i=>exact⟨_,rfl,q1 H1 g1 s1⟩
 | _=>exact q1.elim) q⟩⟩
def iH (h:Hh X K fs e wl) {neg:Bool}:∀σ H Q,fE K fs (.bind wl fun l=>.ret (.bl (if neg then !l.isEmpty else l.isEmpty))) σ H Q->U0 (fun x y H Q=>∃p q xs,x=.ref p/\y=.ref q/\cT K H p xs/\cT K H q []/\Q (.bl (if neg then !xs.isEmpty else xs.isEmpty)) H) (fQL K fs wl) (fL K fs (.ret [])) σ H Q:=fun σ H Q ⟨sr,q⟩=>
 ⟨sr,wl.mono (fun l q1 u1 H1 g1 s1 _ v1=>⟨s1,fun a2 vs2 H2 g2 s2 n2 e2 r2=>by
  cases r2;obtain⟨a,vs,rfl,h1,r1⟩:=v1 H2 g2 s2;refine⟨a,a2,vs,rfl,rfl,h1,cT.of e2,?_⟩;rw [Pw r1];exact q1 _ H2 (g1.trans g2) s2 (.bl _)⟩) q⟩
def Ke:LF X K fs (.List [] pos) (.ret []):=Uk (n:=0) ao
def aaL (hK:X.K=K) (hu:X.A.units+200 < cLine) (h:Hh X K fs e wl) (hk:behindInMarks .Eq (.List [] p2)=false:=by rfl):EF X K fs (.Compare e [.Eq] [.List [] p2] pos) (.bind wl fun l=>.ret (.bl l.isEmpty)):=⟨PE.imp (ym (tU K hK (by omega)) h.p Ke.p hk) (iH (neg:=false) h)⟩
def aaG (hK:X.K=K) (hu:X.A.units+200 < cLine) (h:Hh X K fs e wl) (hk:behindInMarks .NotEq (.List [] p2)=false:=by rfl):EF X K fs (.Compare e [.NotEq] [.List [] p2] pos) (.bind wl fun l=>.ret (.bl (!l.isEmpty))):=⟨PE.imp (ym (tT K hK (by omega)) h.p Ke.p hk) (iH (neg:=true) h)⟩
def YA (hK:X.K=K) (hu:X.A.units+200 < cLine) (h:Hh X K fs e wl) (hk:behindInMarks .Eq (.List [] p2)=false:=by rfl):TF X K fs (.Compare e [.Eq] [.List [] p2] pos) (.bind wl fun l=>.ret l.isEmpty):=⟨PT.imp (sg (tU K hK (by omega)) h.p Ke.p hk) fun σ H Q q=>iH (neg:=false) h σ H _ (WU (w:=.bind wl fun l=>.ret (.bl l.isEmpty)) σ H Q q)⟩
def M6 (hK:X.K=K) (hu:X.A.units+200 < cLine) (h:Hh X K fs e wl) (hk:behindInMarks .NotEq (.List [] p2)=false:=by rfl):TF X K fs (.Compare e [.NotEq] [.List [] p2] pos) (.bind wl fun l=>.ret (!l.isEmpty)):=⟨PT.imp (sg (tT K hK (by omega)) h.p Ke.p hk) fun σ H Q q=>iH (neg:=true) h σ H _ (WU (w:=.bind wl fun l=>.ret (.bl (!l.isEmpty))) σ H Q q)⟩
def qW:List PV->W (List Int)
 | []=>.ret []
 | .int i::r=>.bind (qW r) fun l=>.ret (i::l)
 | _=>.fail
theorem mw:∀{l:List PV}{Q:List Int->Prop},(qW l).run Q->∃ns:List Int,l=ns.map PV.int/\Q ns
 | [],Q,h=>⟨[],rfl,h⟩
 | .int b::r,Q,h=>by
  obtain⟨bs,e,q⟩:=mw (l:=r) h;exact⟨b::bs,by rw [e];rfl,q⟩
 | .aU::r,Q,h=>h.elim
 | .bl _::r,Q,h=>h.elim
 | .str _::r,Q,h=>h.elim
 | .tup _::r,Q,h=>h.elim
 | .ref _::r,Q,h=>h.elim
 | .ty _::r,Q,h=>h.elim
 | .cl _::r,Q,h=>h.elim
@[simp] theorem gZ:∀bs:List Int,qW (bs.map PV.int)=.ret bs
 | []=>rfl
 | b::bs=>by
  show W.bind (qW (bs.map PV.int)) _=_;rw [gZ bs];rfl
end
end
section
open PySem PySem.Spec PyProof.Rows L2 PL
variable {K:Aa}
abbrev b2 (m:M2) (wa wb:W PV):W PV:=.bind wa fun x=>.bind wb fun y=>of2 m x y
abbrev t2 (m:M2) (wa wb:W PV):W Bool:=.bind wa fun x=>.bind wb fun y=>.bind (of2 m x y) asB
abbrev c1 (m:xB) (w:W PV):W PV:=.bind w fun x=>rH m [x]
abbrev ba (wl:W (List PV)) (wb:W PV):W PV:=.bind wl fun l=>.bind wb fun y=>MJ l y
abbrev xR (a b:W Bool):W Bool:=.bind a fun k=>if k=true then b else .ret false
abbrev tor (a b:W Bool):W Bool:=.bind a fun k=>if k=true then .ret true else b
abbrev FO (a:W Bool):W Bool:=.bind a fun k=>.ret (!k)
abbrev iw {α:Type} (t:W Bool) (a b:W α):W α:=.bind t fun k=>if k=true then a else b
section
variable {X:Cx}{a b c e o iter tg:Expr}{body rest:List Stmt}{pos p:Pos}{fs:aV}{S T T2:Type}{hd:S->aV}{s0:S}{w we:W PV}{wl:W (List PV)}{wt:PV->W T2}{is:List Nat}{dR:S->T2->aV}{k:S->W T}{out:T->End}{x:Bool}
def SF.rV {i:Nat}{f:PV->S->W S} (hp:PassesOwn (model X.prog X.w) X.A X.env X.xe) (hc:X.calm=true) (hi:sR X K fs tg iter wl) (hl:jH fs (hd s0)) (hg:PG X tg (dN i)) (hb:∀s p,SF X K false ((hd s).set i (some (.val p))) body (f p s) fun s'=>.nc (hd s')) (hr:∀s,SF X K x (hd s) rest (k s) out) (hs:∀x,foldedSetIterable iter X.env x=pure x:=by intro _;rfl) :
  SF X K x fs (.For tg iter body [] pos::rest) (.bind wl fun l=>.bind (dQ l s0 f) k) out:=SF.for (wt:=.ret) (wb:=fun p s=>f p s) hp hc hi hl (fun s=>WK hg) (fun _ _=>rfl) hb hr hs
def SF.WO {wb:T2->S->W S} (hp:PassesOwn (model X.prog X.w) X.A X.env X.xe) (hc:X.calm=true) (hi:sR X K fs tg iter wl) (hl:jH fs (hd s0)) (hg:∀s,GF X K (hd s) tg is wt (dR s)) (hb:∀s t,SF X K false (dR s t) body (wb t s) fun s'=>.nc (hd s')) (hr:∀s,SF X K x (hd s) rest (k s) out) (hs:∀x,foldedSetIterable iter X.env x=pure x:=by intro _;rfl) :
  SF X K x fs (.For tg iter body [] pos::rest) (.bind wl fun l=>.bind (dQ l s0 fun p s=>.bind (wt p) fun t=>wb t s) k) out:=SF.for hp hc hi hl hg (fun _ _=>rfl) hb hr hs
def SF.Pd {i:Nat}{R:Type}{inj:R->T}{f:PV->S->W (Lp S R)} (hp:PassesOwn (model X.prog X.w) X.A X.env X.xe) (hc:X.calm=true) (hi:sR X K fs tg iter wl) (hl:jH fs (hd s0)) (hg:PG X tg (dN i)) (ho:∀t,(out (inj t)).OK) (hb:∀s p,SF X K false ((hd s).set i (some (.val p))) body (f p s) (lpE hd fun r=>out (inj r))) (hr:∀s,SF X K x (hd s) rest (k s) out) (hs:∀x,foldedSetIterable iter X.env x=pure x:=by intro _;rfl) :
  SF X K x fs (.For tg iter body [] pos::rest) (.bind wl fun l=>.bind (FL.nC l s0 f) (O7 k inj)) out:=SF.nC (wt:=.ret) (wb:=fun p s=>f p s) hp hc hi hl (fun s=>WK hg) (fun _ _=>rfl) ho hb hr hs
def SF.U7 {fs3:T2->aV}{k:T2->W T} (he:EF X K fs e we) (hg:GF X K fs tg is wt fs3) (hr:∀t,SF X K x (fs3 t) rest (k t) out) (hs:swapsWithSole [tg] e pos.line X.env=pure false:=by rfl) (hw:swappedStores [tg] e X.env=pure none:=by rfl)
  (h1:(assignEach [tg] X.env).map (·.2)=[assign tg X.env]:=by rfl):SF X K x fs (.Assign [tg] e pos::rest) (.bind we fun v=>.bind (wt v) k) out:=SF.step (yi he.p hg.p hs hw h1) fun D σ H ⟨sr,q⟩=>
 ⟨sr,we.mono (fun v q1 u H1 g1 s1 v1=>⟨v,s1,v1,(wt v).mono (fun t q2 us g2 s2=>⟨_,k t,hr t,s2,(k t).mono (fun t' q3=>q3.go (g1.f.trans g2) sr s2) q2⟩) q1⟩) q⟩
def tu (v:PV):W PV:=.gs (v.dat=true) (.ret v)
def M4 (l:List PV):W (List PV):=.gs (wy l=true) (.ret l)
mutual
theorem VR.km {ι:List Addr}{H H':Hp} (t:∀p vs,H p=some (.tup vs)->H' p=some (.tup vs)):∀{v:V}{q:PV},VR K ι H v q->q.dat=true->VR K [] H' v q
 | _,_,.aU,_=>.aU
 | _,_,.bl b,_=>.bl b
 | _,_,.int i,_=>.int i
 | _,_,.str x,_=>.str x
 | _,_,.ty n,h=>by rw [PV.dat] at h;cases h
 | _,_,.tup e r,h=>.tup (t _ _ e) (aH.km t r (by rw [PV.dat] at h;exact h))
 | _,_,.cl e r,h=>by rw [PV.dat] at h;cases h
 | _,_,.dk _ _ _,h=>by rw [PV.dat] at h;cases h
 | _,_,.dt _ _ _,h=>by rw [PV.dat] at h;cases h
 | _,_,.ref e,h=>by rw [PV.dat] at h;cases h
theorem aH.km {ι:List Addr}{H H':Hp} (t:∀p vs,H p=some (.tup vs)->H' p=some (.tup vs)):∀{v:List V}{q:List PV},aH K ι H v q->wy q=true->aH K [] H' v q
 | _,_,.nil,_=>.nil
 | _,_,.cons r s,h=>by
  rw [wy,AE] at h;exact .cons (VR.km t r h.1) (aH.km t s h.2)
end
def bor {pins:List (Addr×Obj)}{s:Shared}{σ:L2.St}{H:Hp}{i:Nat}{q0:Option Addr}{l:List PV} (I:Inv X pins σ H s) (sr:aQ K H σ fs) (hs:fs[i]?=some (some (.ol q0 l))):∃a ws ob,Inv X pins σ (upd H a (.c7 ob (.lst ws))) s/\aQ K (upd H a (.c7 ob (.lst ws))) σ (fs.set i (some (.val (.cl l))))/\
  ∀σ' s' H1,Inv X pins σ' H1 s'->cU σ (fs.set i (some (.val (.cl l)))) (upd H a (.c7 ob (.lst ws))) H1->aQ K H1 σ (fs.set i (some (.val (.cl l))))->Inv X pins σ' (upd H1 a (.lst ws)) s'/\cU σ fs H (upd H1 a (.lst ws))/\aQ K (upd H1 a (.lst ws)) σ fs/\(∀p vs,H1 p=some (.tup vs)->upd H1 a (.lst ws) p=some (.tup vs))/\∀p vs,p≠a->H1 p=some (.lst vs)->upd H1 a (.lst ws) p=some (.lst vs):=by
 obtain⟨a,ws,e1,h1,r1⟩:=c8 sr hs;obtain⟨ob,I2⟩:=I.sG h1;have tk:=mi (K:=K) (.c7 ob (.lst ws)) h1;have h0:∀o u,X.H₀ a≠some (.c7 o u):=fun o u z=>by
  have:=I.base.rT a o u z;rw [h1] at this;cases this
 refine⟨a,ws,ob,I2,⟨by simp [sr.len],fun j t z=>?_,fun j k t u b1 b2 b z1 z2 o1 o2=>?_⟩,fun σ' s' H1 J g s1=>?_⟩
 ·rcases aY z with⟨rfl,rfl⟩ | ⟨n,z⟩
  ·exact⟨_,e1,.inl ⟨_,rfl,.cl (.inl ⟨ob,aM⟩) (aH.tk tk r1)⟩⟩
  ·obtain⟨u,k1,k2⟩:=sr.at' j t z;exact⟨u,k1,k2.mono tk (fun x b o eb ow hb zz=>by
    subst eb;rw [av (fun y=>by subst y;exact n (sr.nd j i t _ x b b z hs ow rfl k1 e1 hb (.inl rfl)))];exact zz)⟩
 ·rcases aY z1 with⟨rfl,rfl⟩ | ⟨n1,z1⟩
  ·cases o1
  ·rcases aY z2 with⟨rfl,rfl⟩ | ⟨n2,z2⟩
   ·cases o2
   ·exact sr.nd j k t u b1 b2 b z1 z2 o1 o2
 ·have pf:∀φ b,fq σ (fs.set i (some (.val (.cl l)))) φ b->fq σ fs φ b:=fun φ b ⟨j,z1,z3⟩=>by
   rcases aY z1 with⟨_,z⟩ | ⟨n,z1⟩
   ·cases z
   ·exact⟨j,z1,z3⟩
  have npa:∀φ,¬fq σ fs φ a:=fun φ ⟨j,z1,z3⟩=>by
   have:=sr.nd j i _ _ a a a z1 hs rfl rfl z3 e1 (.inl rfl) (.inl rfl);subst this;rw [hs] at z1;cases z1
  have e2:=g.keep a _ aM fun φ p=>npa φ (pf φ a p);have hk:=xf J.bD e2;have ge:cU σ fs H (upd H1 a (.lst ws)):=by
   refine⟨fun b o z n=>?_,fun b z=>?_⟩
   ·by_cases c:b=a
    ·subst c;rw [h1] at z;cases z;exact aM
    ·rw [av c];exact g.keep b o (by rw [av c];exact z) fun φ p=>n φ (pf φ b p)
   ·by_cases c:b=a
    ·subst c;rw [aM] at z;cases z
    ·rw [av c] at z;have:=g.there b z;rw [av c] at this;exact this
  refine⟨J.Yz e2 h0 (hk a _ aM) hk,ge,⟨sr.len,fun j t z=>?_,sr.nd⟩,fun p vs z=>?_,fun p vs n z=>by rw [av n];exact z⟩
  ·obtain⟨u,k1,k2⟩:=sr.at' j t z;refine⟨u,k1,?_⟩;by_cases c:∃φ,t=.gF φ
   ·obtain⟨φ,rfl⟩:=c;have ji:j≠i:=fun y=>by subst y;rw [hs] at z;cases z
    rcases k2 with⟨v,y,_⟩ | ⟨b,rfl,_⟩
    ·cases y
    ·obtain⟨vs,y1,y2⟩:=s1.ownAt (t:=.gF φ) (i:=j) (by rw [aF ji];exact z) rfl k1;refine .inr ⟨b,rfl,vs,?_,y2⟩;rw [av (fun y=>by subst y;exact npa φ ⟨j,z,k1⟩)];exact y1
   ·refine k2.mono (ge.eT sr) (fun x b o eb ow hb zz=>ge.keep b o zz fun φ ⟨j',p1,p3⟩=>?_);subst eb;have:=sr.nd j j' t _ x b b z p1 ow rfl k1 p3 hb (.inl rfl);subst this;rw [z] at p1;cases p1;exact c ⟨φ,rfl⟩
  ·rw [av (fun y=>by subst y;rw [e2] at z;cases z)];exact z
def UD (i:Nat) {q0:Option Addr}{l:List PV} (hs:fs[i]?=some (some (.ol q0 l))) (h:EF X K (fs.set i (some (.val (.cl l)))) e w):EF X K fs e (.bind w tu):=⟨fun pins s σ H Q I ⟨sr,q⟩=>by
 obtain⟨a,ws,ob,I2,s2,back⟩:=bor I sr hs;refine bM (h.p pins s σ _ (fun u H1=>∃v,cU σ (fs.set i (some (.val (.cl l)))) (upd H a (.c7 ob (.lst ws))) H1/\aQ K H1 σ (fs.set i (some (.val (.cl l))))/\VR K [] H1 u v/\v.dat=true/\∀u H',cU σ fs H H'->aQ K H' σ fs->VR K [] H' u v->Q u H') I2 ⟨s2,w.mono (fun v q1 u H1 g1 s1 v1=>⟨v,g1,s1,v1,q1.1,q1.2⟩) q⟩) fun u s1 ⟨x,H1,I1,r1,v,g1,Rl,v1,d,q1⟩=>?_;obtain⟨I3,g3,s3,t3,_⟩:=back σ s1 H1 I1 g1 Rl;exact⟨x,_,I3,r1,q1 x _ g3 s3 (VR.km t3 v1 d)⟩⟩
end
end
section
open PySem PySem.Spec PyProof.Rows L2 PL
variable {K:Aa}
def YU (K:Aa) (m:List PV->List PV->W (PV×List PV)):Sp:=fun vs H Q _=>∃a QX ws lo l,vs=.ref a::QX/\H a=some (.lst ws)/\aH K [] H ws lo/\aH K [] H QX l/\(m lo l).run fun t=>∀u sY H',rg a H H'->(∀b,H' b=none->H b=none)->H' a=some (.lst sY)->aH K [] H' sY t.2->VR K [] H' u t.1->Q u H'
section
variable {P:Program}{w:World}{mg:Str->Option Value}{base:Heap}{x qual:Str}{st:Stmt}{f:Addr}{fd:FuncData}{N ps:List Str}{k n:Nat}{ks:List AK}
def Qj (a:Addr) (lo l:List PV) (n:Nat):aV:=some (.ol (some a) lo)::(l.map fun v=>some (SL.val v))++Al (n-1-l.length) none
def aH.slot {H:Hp}{vs:List V}{l:List PV} (r:aH K [] H vs l) {i:Nat}{s:SL} (h:(l.map fun v=>some (SL.val v))[i]?=some (some s)):∃u v,vs[i]?=some u/\s=.val v/\VR K [] H u v:=by
 rw [Ai] at h;cases e:l[i]? with
 | none=>rw [e] at h;cases h
 | some v=>
  rw [e] at h;obtain⟨u,h1,h2⟩:=r.get e;cases h;exact⟨u,v,h1,rfl,h2⟩
def fnO {m:List PV->QQ (PV×List PV) n} (Fn:QP K x qual st f fd) (S:ay N ps (aj st)) (hn:n+1=ps.length)
  (cert:∀(a:Addr) (lo l:List PV),l.length=n->∀(gw:Value) (A:Around) (outer:List Env) (s:Shared) (H:Hp) (E:XK),fY k (A.deeper (envOfC qual (aj st) s.heap.objs.size f gw))->SF (uX sT P w K mg base N qual (aj st) f gw A outer s H E).RZ K false (Qj a lo l N.length) (dI st) (dU n (m lo) l) fun t=>.ro t.1 a t.2) :
  iu P w K mg base sT (k+1) f fd ps (YU K fun lo l=>dU n (m lo) l):=by
 refine Fn.ok S (fun vs H Q E h=>?_) (fun gw A outer s H vs Q E hr h=>?_)
 ·obtain⟨a,QX,ws,lo,l,rfl,_,_,r,q⟩:=h;rw [Aq,r.length,jI q];exact hn
 obtain⟨a,QX,ws,lo,l,rfl,ha,iU,r,q⟩:=h;have hl:=jI q;have hr2:=r.length;have SI:∀{i:Nat}{s:SL},(Qj a lo l N.length)[i]?=some (some s)->(i=0/\s=.ol (some a) lo)\/∃j u v,i=j+1/\QX[j]?=some u/\s=.val v/\VR K [] H u v:=fun {i s} e=>by
  unfold Qj at e;cases i with
  | zero=>simp at e;exact .inl ⟨rfl,e.symm⟩
  | succ j=>
   rw [List.cons_append,List.getElem?_cons_succ] at e;by_cases c:j < l.length
   ·rw [Az (by simpa using c)] at e;obtain⟨u,v,h1,h2,h3⟩:=aH.slot r e;exact .inr ⟨j,u,v,rfl,h1,h2,h3⟩
   ·rw [Ay (by simpa using c),Bn] at e
    split at e <;> cases e
 have sr:aQ K H (L2.start N (.ref a::QX)) (Qj a lo l N.length):=by
  refine⟨?_,fun i s e=>?_,fun i j s t x y b e1 e2 o1 o2 q1 q2 _ _=>?_⟩
  ·unfold L2.start Qj;rw [Ad,Af,A3,Ad,Aq,Aq,Af,A3];omega
  ·rcases SI e with⟨rfl,rfl⟩ | ⟨j,u,v,rfl,h1,rfl,h3⟩
   ·exact⟨.ref a,mj rfl,.inr ⟨a,rfl,fun b z=>Option.some.inj z,ws,ha,iU⟩⟩
   ·exact⟨u,mj (by simpa using h1),.inl ⟨v,rfl,h3⟩⟩
  ·rcases SI e1 with⟨rfl,rfl⟩ | ⟨j1,u,v,rfl,h1,rfl,h3⟩
   ·rcases SI e2 with⟨rfl,rfl⟩ | ⟨j1,u,v,rfl,h1,rfl,h3⟩
    ·rfl
    ·cases o2
   ·cases o1
 refine⟨_,(cert a lo l hl gw A outer s H E hr).p,sr,(dU n (m lo) l).mono (fun t q1 u σ' bE H' g s' ho rv=>?_) q⟩;obtain⟨i,e⟩:=ho;obtain⟨u',e',r'⟩:=s'.at' i _ e;rcases r' with⟨v,z,_⟩ | ⟨b,rfl,hb,sY,h1,h2⟩
 ·cases z
 have hba:=hb a rfl;subst hba;refine q1 u sY H' (fun c o nc e=>(g.keep c o e fun z=>?_).1) g.there h1 h2 rv;obtain⟨j,t',x,z1,z2,z3,z4⟩:=z;rcases SI z1 with⟨rfl,rfl⟩ | ⟨j1,u,v,rfl,_,rfl,_⟩
 ·have:=wM z3;simp at this;rcases z4 with rfl | z4
  ·exact nc this.symm
  ·cases z4
 ·cases z2
def cV (G:List Int->Prop):List V->Prop:=fun ws=>∃ns:List Int,ws=ns.map V.int/\G ns
def Vu {G:List Int->Prop}{m:List PV->List PV->W (PV×List PV)}{mp:List PV->W PV} (F:iu P w K mg base sT k f fd ps (YU K m)) (hm:∀ns l Q,G ns->(mp l).run Q->(m (ns.map PV.int) l).run fun t=>Q t.1/\∃VP:List Int,t.2=VP.map PV.int/\G VP) :
  iu P w K mg base sT k f fd ps (kU K (.p (cV G)::Al n .v) mp):=F.imp fun vs H Q E h=>by
 obtain⟨l,ha,q⟩:=h;cases ha with
 | @p a φ ws vs ks l e r t=>
  obtain⟨ns,rfl,hG⟩:=r;have tv:∀{n:Nat}{vs:List V}{l:List PV},jg K H vs (Al n .v) l->aH K [] H vs l:=by
   intro n
   induction n with
   | zero=>intro vs l h;cases h;exact .nil
   | succ n ih=>intro vs l h;cases h with | v r t=>exact .cons r (ih t)
  refine⟨a,vs,ns.map V.int,ns.map PV.int,l,rfl,e,oT _ _ ns,tv t,(m _ _).mono (fun t q1 u sY H' sx hth e' r' rv=>?_) (hm ns l _ hG q)⟩;obtain⟨q1,VP,et,hG'⟩:=q1;rw [et] at r';have:=j5 r';subst this;refine q1 u H' ⟨fun b o eb nb=>sx b o (fun z=>?_) eb,hth,fun b φ p=>?_⟩ rv
  ·subst z;exact nb _ ⟨0,rfl,rfl⟩
  ·obtain⟨i,e1,e2⟩:=p;cases i with
   | zero=>simp at e1 e2;subst e1;subst e2;exact⟨_,e',VP,rfl,hG'⟩
   | succ i=>
    simp at e1;rw [Bn] at e1
    split at e1 <;> simp at e1
end
section
variable {X:Cx}{QE:List Stmt}{fs:aV}{T:Type}{w:W T}{out:T->End}{x:Bool}
def Zj (G:List Int->Prop) (l:List PV) (w:W T):W T:=.gs (∃ns:List Int,l=ns.map PV.int/\G ns) w
def SF.gF (i:Nat) {l:List PV}{G:List Int->Prop} (hs:fs[i]?=some (some (.ol none l))) (hr:SF X K x (fs.set i (some (.gF (cV G)))) QE w out):SF X K x fs QE (Zj G l w) out:=⟨fun pins s σ H D I ⟨sr,q⟩=>by
 obtain⟨⟨ns,el,hG⟩,q⟩:=q;obtain⟨a,ws,e1,h1,r1⟩:=c8 sr hs;subst el;have:=j5 r1;subst this;obtain⟨s2,g2⟩:=nk (t':=.gF (cV G)) sr hs rfl (by simp) e1 (fun _ _ _ z=>z:rg a H H) fun tk=>⟨_,h1,ns,rfl,hG⟩;exact hr.p pins s σ H D I ⟨s2,w.mono (fun t q2=>q2.go g2 sr s2) q⟩⟩
end
end
section
open PySem PySem.Spec PyProof.Rows L2 PL
variable {K:Aa}
abbrev Qu (wa wb:W PV):W PV:=.bind wa fun x=>Tn x wb
abbrev orB (wa wb:W PV):W PV:=.bind wa fun x=>orW x wb
abbrev Mc (wl:W (List PV)):W PV:=.bind wl fun l=>.ret (.cl l)
abbrev Hs (t:W Bool) (w:W PV):W (Option PV):=.bind t fun k=>if k=true then .bind w fun v=>.ret (some v) else .ret none
section
variable {X:Cx}{c e elt tg iter:Expr}{es:List Expr}{pos p:Pos}{fs:aV}{k k' n:Nat}{ps:List Str}{x:Str}{ks:List AK}{W':W PV}{WL:W (List PV)}
def S7 {m:List PV->W PV}{B:(List PV->W PV)->W PV} (G:TR X.prog X.w X.K X.mg X.base x k ps (kU K ks m)) (hr:fY k' X.A) (hk:k<=k') (hg:Gl X x) (ha:AF X K fs (e::es) ks B) (hW:W'=B m) (oU:(x==("__debug__":Str))=false:=by decide)
  (he:starEach (e::es) X.env=(false,eval e X.env)::starEach es X.env:=by rfl) (ef:(backTo pos (starEach es X.env)).any (·.1)=false:=by rfl):EF X K fs (.Call (.Name x p) (e::es) [] pos) W':=hW▸W8 G hr hk hg ha oU he ef
def Sd {m:List PV->W (List PV)}{B:(List PV->W (List PV))->W (List PV)} (G:TR X.prog X.w X.K X.mg X.base x k ps (jh K ks m)) (hr:fY k' X.A) (hk:k<=k') (hg:Gl X x) (ha:AF X K fs (e::es) ks B) (hW:WL=B m) (oU:(x==("__debug__":Str))=false:=by decide)
  (he:starEach (e::es) X.env=(false,eval e X.env)::starEach es X.env:=by rfl) (ef:(backTo pos (starEach es X.env)).any (·.1)=false:=by rfl):LF X K fs (.Call (.Name x p) (e::es) [] pos) WL:=hW▸V9 G hr hk hg ha oU he ef
def a7 {x1}{B:(List PV->W PV)->W PV} (h:AF X K fs es (Al n .v) B) (hW:W'=B fun l=>.ret (.tup l)) (hn:n<=1000:=by decide):EF X K fs (.Tuple es x1 pos) W':=hW▸aaD h hn
def a6 {B:(List PV->W (List PV))->W (List PV)} (h:AF X K fs es (Al n .v) B) (hW:WL=B fun l=>.ret l) (hn:n<=1000:=by decide):LF X K fs (.List es pos) WL:=hW▸Uk h hn
variable {sc:Scope}{N':List Str}{ix:List (Option Nat)}{wl:W (List PV)}{T2:Type}{wt:PV->W T2}{is:List Nat}{dR:T2->aV}{tf:T2->W Bool}{te:T2->W PV}
def jZ {i:Nat}{f:PV->W PV} (hc:X.calm=true) (S:aD X.env.scope X.N sc N' ix) (hi:sR X K fs tg iter wl) (hg:∀cl C s2 H2 fp,PG (gI X sc N' cl C s2 H2 fp) tg (dN i)) (he:∀cl C s2 H2 fp t,EF (gI X sc N' cl C s2 H2 fp) K ((bS ix fs).set i (some (.val t))) elt (f t)) (h0:ix[i]?=some none) (hs:∀x,foldedSetIterable iter X.env x=pure x:=by intro _;rfl) :
  LF X K fs (.ListComp elt [⟨tg,iter,[],0⟩] sc pos) (.bind wl fun l=>cG l f):=
 have h1:(bS ix fs)[i]?=some none:=by unfold bS;rw [Ai,h0];rfl
 Uj hc S hi (fun cl C s2 H2 fp=>WK (hg cl C s2 H2 fp)) he (fun _=>rfl) (Oo h1) (fun j hj=>by rw [Ba] at hj;subst hj;exact h0) hs
def w6 {i:Nat}{tf:PV->W Bool}{te:PV->W PV} (hc:X.calm=true) (S:aD X.env.scope X.N sc N' ix) (hi:sR X K fs tg iter wl) (hg:∀cl C s2 H2 fp,PG (gI X sc N' cl C s2 H2 fp) tg (dN i)) (hf:∀cl C s2 H2 fp t,TF (gI X sc N' cl C s2 H2 fp) K ((bS ix fs).set i (some (.val t))) c (tf t)) (he:∀cl C s2 H2 fp t,EF (gI X sc N' cl C s2 H2 fp) K ((bS ix fs).set i (some (.val t))) elt (te t)) (h0:ix[i]?=some none) (hs:∀x,foldedSetIterable iter X.env x=pure x:=by intro _;rfl) :
  LF X K fs (.ListComp elt [⟨tg,iter,[c],0⟩] sc pos) (.bind wl fun l=>kW l fun p=>Hs (tf p) (te p)):=
 have h1:(bS ix fs)[i]?=some none:=by unfold bS;rw [Ai,h0];rfl
 V8 (wt:=.ret) (tf:=tf) (te:=te) hc S hi (fun cl C s2 H2 fp=>WK (hg cl C s2 H2 fp)) (fun cl C s2 H2 fp t=>zd (hf cl C s2 H2 fp t)) he (fun _=>rfl) (Oo h1) (fun j hj=>by rw [Ba] at hj;subst hj;exact h0) hs
def Im (hc:X.calm=true) (S:aD X.env.scope X.N sc N' ix) (hi:sR X K fs tg iter wl) (hg:∀cl C s2 H2 fp,GF (gI X sc N' cl C s2 H2 fp) K (bS ix fs) tg is wt dR) (he:∀cl C s2 H2 fp t,EF (gI X sc N' cl C s2 H2 fp) K (dR t) elt (te t))
  (hl:wG is (bS ix fs) dR/\∀t,jH (dR t) (bS ix fs)) (v9:∀j∈is,ix[j]?=some none) (hs:∀x,foldedSetIterable iter X.env x=pure x:=by intro _;rfl) :
  LF X K fs (.ListComp elt [⟨tg,iter,[],0⟩] sc pos) (.bind wl fun l=>cG l fun p=>.bind (wt p) te):=Uj hc S hi hg he (fun _=>rfl) hl v9 hs
def Ul (hc:X.calm=true) (S:aD X.env.scope X.N sc N' ix) (hi:sR X K fs tg iter wl) (hg:∀cl C s2 H2 fp,GF (gI X sc N' cl C s2 H2 fp) K (bS ix fs) tg is wt dR) (hf:∀cl C s2 H2 fp t,TF (gI X sc N' cl C s2 H2 fp) K (dR t) c (tf t)) (he:∀cl C s2 H2 fp t,EF (gI X sc N' cl C s2 H2 fp) K (dR t) elt (te t))
  (hl:wG is (bS ix fs) dR/\∀t,jH (dR t) (bS ix fs)) (v9:∀j∈is,ix[j]?=some none) (hs:∀x,foldedSetIterable iter X.env x=pure x:=by intro _;rfl) :
  LF X K fs (.ListComp elt [⟨tg,iter,[c],0⟩] sc pos) (.bind wl fun l=>kW l fun p=>.bind (wt p) fun t=>Hs (tf t) (te t)):=V8 hc S hi hg (fun cl C s2 H2 fp t=>zd (hf cl C s2 H2 fp t)) he (fun _=>rfl) hl v9 hs
variable {rest:List Stmt}{T:Type}{out:T->End}{x0:Bool}{kk:List PV->W T}{i:Nat}{y:Str}{px kT:Pos}
def SF.Nk {j:Nat}{tf:PV->W Bool}{te:PV->W PV} (hc:X.calm=true) (hN:X.N.Nodup) (IE:X.N[i]?=some y) (hx:X.env.scope.names.lookup y=some .local) (S:aD X.env.scope X.N sc N' ix) (hi:sR X K fs tg iter wl) (hg:∀cl C s2 H2 fp,PG (gI X sc N' cl C s2 H2 fp) tg (dN j)) (hf:∀cl C s2 H2 fp t,TF (gI X sc N' cl C s2 H2 fp) K ((bS ix fs).set j (some (.val t))) c (tf t)) (he:∀cl C s2 H2 fp t,EF (gI X sc N' cl C s2 H2 fp) K ((bS ix fs).set j (some (.val t))) elt (te t)) (h0:ix[j]?=some none) (hr:∀l,SF X K x0 (fs.set i (some (.ol none l))) rest (kk l) out)
  (uy:swapsWith (.ListComp elt [⟨tg,iter,[c],0⟩] sc pos) (some (.Name y px)) kT.line X.env=pure true:=by rfl) (hs:∀x,foldedSetIterable iter X.env x=pure x:=by intro _;rfl) :
  SF X K x0 fs (.Assign [.Name y px] (.ListComp elt [⟨tg,iter,[c],0⟩] sc pos) kT::rest) (.bind (.bind wl fun l=>kW l fun p=>Hs (tf p) (te p)) kk) out:=
 have h1:(bS ix fs)[j]?=some none:=by unfold bS;rw [Ai,h0];rfl
 SF.T7 (wt:=.ret) (tf:=tf) (te:=te) hc hN IE hx S hi (fun cl C s2 H2 fp=>WK (hg cl C s2 H2 fp)) (fun cl C s2 H2 fp t=>zd (hf cl C s2 H2 fp t)) he (fun _=>rfl) (Oo h1) (fun m hj=>by rw [Ba] at hj;subst hj;exact h0) hr uy hs
def R5 {wt:PV->W T2}{te:T2->W PV}:(fun l=>cG l fun p=>.bind (wt p) te)=fun l=>kW l fun p=>.bind (wt p) fun t=>.bind (.ret true) fun k=>if k=true then .bind (te t) fun v=>.ret (some v) else .ret none:=funext fun l=>by
 rw [yB];rfl
def SF.Ri (hc:X.calm=true) (hN:X.N.Nodup) (IE:X.N[i]?=some y) (hx:X.env.scope.names.lookup y=some .local) (S:aD X.env.scope X.N sc N' ix) (hi:sR X K fs tg iter wl) (hg:∀cl C s2 H2 fp,GF (gI X sc N' cl C s2 H2 fp) K (bS ix fs) tg is wt dR) (he:∀cl C s2 H2 fp t,EF (gI X sc N' cl C s2 H2 fp) K (dR t) elt (te t))
  (hl:wG is (bS ix fs) dR/\∀t,jH (dR t) (bS ix fs)) (v9:∀j∈is,ix[j]?=some none) (hr:∀l,SF X K x0 (fs.set i (some (.ol none l))) rest (kk l) out)
  (uy:swapsWith (.ListComp elt [⟨tg,iter,[],0⟩] sc pos) (some (.Name y px)) kT.line X.env=pure true:=by rfl) (hs:∀x,foldedSetIterable iter X.env x=pure x:=by intro _;rfl) :
  SF X K x0 fs (.Assign [.Name y px] (.ListComp elt [⟨tg,iter,[],0⟩] sc pos) kT::rest) (.bind (.bind wl fun l=>cG l fun p=>.bind (wt p) te) kk) out:=by
 rw [R5];exact SF.T7 (tf:=fun _=>.ret true) hc hN IE hx S hi hg (fun _ _ _ _ _ _=>Pe) he (fun p=>rfl) hl v9 hr uy hs
def SF.JO {j:Nat}{f:PV->W PV} (hc:X.calm=true) (hN:X.N.Nodup) (IE:X.N[i]?=some y) (hx:X.env.scope.names.lookup y=some .local) (S:aD X.env.scope X.N sc N' ix) (hi:sR X K fs tg iter wl) (hg:∀cl C s2 H2 fp,PG (gI X sc N' cl C s2 H2 fp) tg (dN j)) (he:∀cl C s2 H2 fp t,EF (gI X sc N' cl C s2 H2 fp) K ((bS ix fs).set j (some (.val t))) elt (f t)) (h0:ix[j]?=some none) (hr:∀l,SF X K x0 (fs.set i (some (.ol none l))) rest (kk l) out)
  (uy:swapsWith (.ListComp elt [⟨tg,iter,[],0⟩] sc pos) (some (.Name y px)) kT.line X.env=pure true:=by rfl) (hs:∀x,foldedSetIterable iter X.env x=pure x:=by intro _;rfl) :
  SF X K x0 fs (.Assign [.Name y px] (.ListComp elt [⟨tg,iter,[],0⟩] sc pos) kT::rest) (.bind (.bind wl fun l=>cG l f) kk) out:=
 have h1:(bS ix fs)[j]?=some none:=by unfold bS;rw [Ai,h0];rfl
 SF.Ri (wt:=.ret) hc hN IE hx S hi (fun cl C s2 H2 fp=>WK (hg cl C s2 H2 fp)) he (Oo h1) (fun m hj=>by rw [Ba] at hj;subst hj;exact h0) hr uy hs
end
def Kp {P:Program}{w:World}{mg:Str->Option Value}{base:Heap}{f:Addr}{fd:FuncData}{ps:List Str}{k:Nat}{sp:Sp} (h:∀vs H Q E,¬sp vs H Q E):iu P w K mg base sT k f fd ps sp:=⟨fun vs H Q E q=>(h _ _ _ _ q).elim,fun A outer s H args us vs Q E _ _ _ _ q=>(h _ _ _ _ q).elim⟩
def Nc {ks:List AK}{n:Nat}{m:QQ PV n} (h:∀l Q,l.length=n->¬(dU n m l).run Q):∀vs H Q E,¬kU K ks (dU n m) vs H Q E:=fun vs H Q E ⟨l,_,q⟩=>h l _ (jI q) q
def JK {ks:List AK}{n:Nat}{m:QQ (List PV) n} (h:∀l Q,l.length=n->¬(dU n m l).run Q):∀vs H Q E,¬jh K ks (dU n m) vs H Q E:=fun vs H Q E ⟨l,_,q⟩=>h l _ (jI q) q
def aO {k:Nat}{A:Around} (hr:fY k A):A.units+200 < cLine:=by have:=hr.un;omega
end
section
open PySem PySem.Spec PyProof.Rows L2 PL
variable {K:Aa}
mutual
def PV.eM:PV->Bool
 | .tup l=>fU l
 | .cl l=>fU l
 | .ref _=>false
 | .ty _=>false
 | .dv _ _=>false
 | _=>true
def fU:List PV->Bool
 | []=>true
 | x::l=>PV.eM x&&fU l
end
mutual
def PV.gk:PV->Nat
 | .tup l=>dY l+1
 | .cl l=>dY l+1
 | _=>0
def dY:List PV->Nat
 | []=>0
 | x::l=>max (PV.gk x) (dY l)
end
mutual
def dr:PV->PV->Bool
 | .aU,.aU=>true
 | .bl a,.bl b=>a==b
 | .bl a,.int b=>(if a then 1 else 0)==b
 | .int a,.bl b=>a==(if b then 1 else 0)
 | .int a,.int b=>a==b
 | .str a,.str b=>a==b
 | .tup l,.tup m=>gT l m
 | .cl l,.cl m=>gT l m
 | _,_=>false
def gT:List PV->List PV->Bool
 | [],[]=>true
 | x::l,y::m=>dr x y&&gT l m
 | _,_=>false
end
theorem lQ:∀{l:List PV}{j:Nat}{x:PV},fU l=true->l[j]?=some x->PV.eM x=true
 | [],_,_,_,e=>by simp at e
 | y::l,0,x,h,e=>by
  simp at e;subst e;rw [fU,AE] at h;exact h.1
 | y::l,j+1,x,h,e=>by
  rw [fU,AE] at h;exact lQ h.2 (by simpa using e)
theorem qx:∀{l:List PV}{j:Nat}{x:PV},l[j]?=some x->PV.gk x<=dY l
 | [],_,_,e=>by simp at e
 | y::l,0,x,e=>by
  simp at e;subst e;rw [dY];omega
 | y::l,j+1,x,e=>by
  have:=qx (l:=l) (j:=j) (x:=x) (by simpa using e);rw [dY];omega
mutual
theorem Pf:∀(x:PV),PV.eM x=true->dr x x=true
 | .aU,_=>by rw [dr]
 | .bl b,_=>by rw [dr];simp
 | .int i,_=>by rw [dr];simp
 | .str i,_=>by rw [dr];simp
 | .tup l,h=>by rw [dr];exact jz l (by rw [PV.eM] at h;exact h)
 | .cl l,h=>by rw [dr];exact jz l (by rw [PV.eM] at h;exact h)
 | .ref _,h=>by rw [PV.eM] at h;cases h
 | .ty _,h=>by rw [PV.eM] at h;cases h
 | .dv _ _,h=>by rw [PV.eM] at h;cases h
theorem jz:∀(l:List PV),fU l=true->gT l l=true
 | [],_=>by rw [gT]
 | x::l,h=>by
  rw [fU,AE] at h;rw [gT,Pf x h.1,jz l h.2];rfl
end
def W5 (l m:List PV) (j:Nat):Bool:=match l[j]?,m[j]? with | some x,some y=>dr x y | _,_=>true
theorem lR:∀(l m:List PV),((AH (min l.length m.length)).all (W5 l m)&&l.length==m.length)=gT l m
 | [],[]=>by rw [gT];rfl
 | [],_::_=>by
  rw [gT]
  ·simp
  ·intros;simp_all
  ·intros;simp_all
 | _::_,[]=>by
  rw [gT]
  ·simp
  ·intros;simp_all
  ·intros;simp_all
 | x::l,y::m=>by
  rw [gT,<- lR l m];have e:min (x::l).length (y::m).length=min l.length m.length+1:=by simp only [Aq];omega
  rw [e,List.range_succ_eq_map,List.all_cons,List.all_map];have e2:((x::l).length==(y::m).length)=(l.length==m.length):=by simp
  rw [e2,Bool.and_assoc];rfl
def GV {l m:List PV} (h:l.length≠m.length):gT l m=false:=by
 rw [<- lR];have:(l.length==m.length)=false:=by simpa using h
 rw [this,DS]
section
variable {X:Cx}{pins:List (Addr×Obj)}{σ:L2.St}{H:Hp}{s:Shared}
mutual
theorem VR.QN (I:Inv X pins σ H s):∀{v:V}{x y:PV},VR X.K [] H v x->VR X.K [] H v y->x=y
 | _,_,_,.aU,h=>by cases h;rfl
 | _,_,_,.bl b,h=>by cases h;rfl
 | _,_,_,.int b,h=>by cases h;rfl
 | _,_,_,.str b,h=>by cases h;rfl
 | _,_,_,.ty b,h=>by cases h;rfl
 | _,_,_,.ref e,h=>by simp at e
 | _,_,_,.tup e r,h=>by
  cases h with
  | tup e' r'=>
   have ee:=I.mh (dc.of e) (dc.of e');subst ee;rw [aH.QN I r r']
  | ref e=>simp at e
  | cl e' r'=>
   obtain⟨ar,_,⟨o,n,h1,h2,_⟩,_⟩:=I.list e'.sq;obtain⟨its',_,⟨o',iX,Fz,_⟩,_⟩:=I.tuple (dc.of e);rw [h1] at iX;cases iX;rw [h2] at Fz;simp at Fz
  | dk e' _ _=>rw [e] at e';cases e'
  | dt e' _ _=>rw [e] at e';cases e'
 | _,_,_,.dk e k r,h=>by
  cases h with
  | dk e' k' r'=>rw [e] at e';cases e';rw [k,k',aH.QN I r r']
  | dt e' _ _=>rw [e] at e';cases e'
  | ref e=>simp at e
  | tup e' _=>rw [e] at e';cases e'
  | cl e' r'=>
   obtain⟨ar,_,⟨o,n,h1,h2,_⟩,_⟩:=I.list e'.sq;obtain⟨_,_,vs,_,o',_,_,iX,Fz,_⟩:=uU I.bD (.inr ⟨_,e⟩);rw [h1] at iX;cases iX;have h3:=Fz.1;rw [h2] at h3;simp at h3
 | _,_,_,.dt e k r,h=>by
  cases h with
  | dt e' k' r'=>rw [e] at e';cases e';rw [k,k',aH.QN I r r']
  | dk e' _ _=>rw [e] at e';cases e'
  | ref e=>simp at e
  | tup e' _=>rw [e] at e';cases e'
  | cl e' r'=>
   obtain⟨ar,_,⟨o,n,h1,h2,_⟩,_⟩:=I.list e'.sq;obtain⟨_,_,vs,_,o',_,_,iX,Fz,_⟩:=uT I.bD (.inr ⟨_,e⟩);rw [h1] at iX;cases iX;have h3:=Fz.1;rw [h2] at h3;simp at h3
 | _,_,_,.cl e r,h=>by
  cases h with
  | dk e' _ _=>
   obtain⟨ar,_,⟨o,n,h1,h2,_⟩,_⟩:=I.list e.sq;obtain⟨_,_,vs,_,o',_,_,iX,Fz,_⟩:=uU I.bD (.inr ⟨_,e'⟩);rw [h1] at iX;cases iX;have h3:=Fz.1;rw [h2] at h3;simp at h3
  | dt e' _ _=>
   obtain⟨ar,_,⟨o,n,h1,h2,_⟩,_⟩:=I.list e.sq;obtain⟨_,_,vs,_,o',_,_,iX,Fz,_⟩:=uT I.bD (.inr ⟨_,e'⟩);rw [h1] at iX;cases iX;have h3:=Fz.1;rw [h2] at h3;simp at h3
  | cl e' r'=>
   obtain⟨ar,k,⟨o,n,h1,h2,h3,h4⟩,_⟩:=I.list e.sq;obtain⟨its',k',⟨o',n',iX,Fz,L5,WH⟩,_⟩:=I.list e'.sq;rw [h1] at iX;cases iX;rw [h4] at WH;have:ar=its':=by injection WH with a b;simpa using a
   subst this;have ee:=Vals.inj k k';subst ee;rw [aH.QN I r r']
  | ref e=>simp at e
  | tup e' r'=>
   obtain⟨ar,_,⟨o,n,h1,h2,_⟩,_⟩:=I.list e.sq;obtain⟨its',_,⟨o',iX,Fz,_⟩,_⟩:=I.tuple (dc.of e');rw [h1] at iX;cases iX;rw [h2] at Fz;simp at Fz
theorem aH.QN (I:Inv X pins σ H s):∀{v:List V}{x y:List PV},aH X.K [] H v x->aH X.K [] H v y->x=y
 | _,_,_,.nil,h=>by cases h;rfl
 | _,_,_,.cons r t,h=>by
  cases h with
  | cons r' t'=>rw [VR.QN I r r',aH.QN I t t']
end
structure Cmp (A:Around) (s:Shared) (w w':Value) (b:Bool):Prop where
 rc:SeqAt.RcAt A s w w' b
 ne:SeqAt.RcNeAt A s w w' (!b)
 eq:Fh A s w w' b
def UC (I:Inv X pins σ H s) {A:Around}{vs ws:List V}{l m:List PV}{ar its':List Value} (r:Vals vs ar) (r':Vals ws its') (r1:aH X.K [] H vs l) (r2:aH X.K [] H ws m)
  (ih:∀(j:Nat) (x y:PV) (v v':V) (w w':Value),l[j]?=some x->m[j]?=some y->VR X.K [] H v x->VR X.K [] H v' y->RelV v w->RelV v' w'->Fh A s w w' (dr x y)) :
  ∀j (g1:j < ar.toArray.size) (g2:j < its'.toArray.size),Fh A s ar.toArray[j] its'.toArray[j] (W5 l m j):=fun j g1 g2=>by
 have h1:j < ar.length:=by simpa using g1
 have h2:j < its'.length:=by simpa using g2
 have hl:j < l.length:=by rw [<- r1.length,r.length];exact h1
 have hm:j < m.length:=by rw [<- r2.length,r'.length];exact h2
 obtain⟨v,v1,v2⟩:=r1.get (Ae hl);obtain⟨v',Yw,v2'⟩:=r2.get (Ae hm);obtain⟨u,u1,u2⟩:=r.get v1;obtain⟨u',u1',u2'⟩:=r'.get Yw;rw [Ae h1] at u1;rw [Ae h2] at u1';cases u1;cases u1';unfold W5;rw [Ae hl,Ae hm];have:=ih j _ _ v v' _ _ (Ae hl) (Ae hm) v2 v2' u2 u2';simpa using this
def Xi (hK:X.K=K) (I:Inv X pins σ H s):∀(n:Nat) (x y:PV) (A:Around) (v v':V) (w w':Value),PV.gk x<=n->PV.eM x=true->PV.eM y=true->VR K [] H v x->VR K [] H v' y->RelV v w->RelV v' w'->A.units+n+1 < cLine->Cmp A s w w' (dr x y):=by
 subst hK;intro n
 induction n with
 | zero=>
  intro x y A v v' w w' hd dx dy hv OT r1 r2 hu;cases hv with
  | ref e=>simp at e
  | ty e=>rw [PV.eM] at dx;cases dx
  | dk _ _ _=>rw [PV.eM] at dx;cases dx
  | dt _ _ _=>rw [PV.eM] at dx;cases dx
  | aU=>
   cases r1;cases OT with
   | ref e=>simp at e
   | ty e=>rw [PV.eM] at dy;cases dy
   | dk _ _ _=>rw [PV.eM] at dy;cases dy
   | dt _ _ _=>rw [PV.eM] at dy;cases dy
   | aU=>
    cases r2;rw [dr];exact⟨SeqAt.RcAt.none_none ,SeqAt.RcNeAt.none_none ,ED _⟩
   | bl b=>
    cases r2;rw [dr] <;> try (intros;simp_all;done)
    exact⟨SeqAt.RcAt.none_bool b,SeqAt.RcNeAt.none_bool b,Fh.none_bool b⟩
   | int b=>
    obtain⟨t,rfl⟩:=r2;rw [dr] <;> try (intros;simp_all;done)
    exact⟨SeqAt.RcAt.none_int b t,SeqAt.RcNeAt.none_int b t,Fh.none_int b t⟩
   | str b=>
    obtain⟨t,rfl⟩:=r2;rw [dr] <;> try (intros;simp_all;done)
    exact⟨SeqAt.RcAt.none_str b t,SeqAt.RcNeAt.none_str b t,Fh.none_str b t⟩
   | @tup pb ws m e2 F2=>
    cases r2;obtain⟨bN,k2,fN,_⟩:=I.tuple (dc.of e2);rw [dr] <;> try (intros;simp_all;done)
    exact⟨SeqAt.RcAt.none_tuple fN (by omega),SeqAt.RcNeAt.none_tuple fN (by omega),Fh.none_tuple fN (by omega)⟩
   | @cl pb ws m e2 F2=>
    cases r2;obtain⟨bN,k2,F7,_⟩:=I.list e2.sq;have fN:=F7.isList;rw [dr] <;> try (intros;simp_all;done)
    exact⟨SeqAt.RcAt.none_list fN (by omega),SeqAt.RcNeAt.none_list fN (by omega),Fh.none_list fN (by omega)⟩
  | bl a=>
   cases r1;cases OT with
   | ref e=>simp at e
   | ty e=>rw [PV.eM] at dy;cases dy
   | dk _ _ _=>rw [PV.eM] at dy;cases dy
   | dt _ _ _=>rw [PV.eM] at dy;cases dy
   | aU=>
    cases r2;rw [dr] <;> try (intros;simp_all;done)
    exact⟨SeqAt.RcAt.bool_none a,SeqAt.RcNeAt.bool_none a,Fh.bool_none a⟩
   | bl b=>
    cases r2;rw [dr];exact⟨SeqAt.RcAt.bool_bool a b,SeqAt.RcNeAt.bool_bool a b,Fh.bool_bool a b⟩
   | int b=>
    obtain⟨t,rfl⟩:=r2;rw [dr];exact⟨SeqAt.RcAt.bool_int a b t,SeqAt.RcNeAt.bool_int a b t,Fh.bool_int a b t⟩
   | str b=>
    obtain⟨t,rfl⟩:=r2;rw [dr] <;> try (intros;simp_all;done)
    exact⟨SeqAt.RcAt.bool_str a b t,SeqAt.RcNeAt.bool_str a b t,Fh.bool_str a b t⟩
   | @tup pb ws m e2 F2=>
    cases r2;obtain⟨bN,k2,fN,_⟩:=I.tuple (dc.of e2);rw [dr] <;> try (intros;simp_all;done)
    exact⟨SeqAt.RcAt.bool_tuple a fN (by omega),SeqAt.RcNeAt.bool_tuple a fN (by omega),Fh.bool_tuple a fN (by omega)⟩
   | @cl pb ws m e2 F2=>
    cases r2;obtain⟨bN,k2,F7,_⟩:=I.list e2.sq;have fN:=F7.isList;rw [dr] <;> try (intros;simp_all;done)
    exact⟨SeqAt.RcAt.bool_list a fN (by omega),SeqAt.RcNeAt.bool_list a fN (by omega),Fh.bool_list a fN (by omega)⟩
  | int a=>
   obtain⟨t',rfl⟩:=r1;cases OT with
   | ref e=>simp at e
   | ty e=>rw [PV.eM] at dy;cases dy
   | dk _ _ _=>rw [PV.eM] at dy;cases dy
   | dt _ _ _=>rw [PV.eM] at dy;cases dy
   | aU=>
    cases r2;rw [dr] <;> try (intros;simp_all;done)
    exact⟨SeqAt.RcAt.int_none a t',SeqAt.RcNeAt.int_none a t',Fh.int_none a t'⟩
   | bl b=>
    cases r2;rw [dr];exact⟨SeqAt.RcAt.int_bool a t' b,SeqAt.RcNeAt.int_bool a t' b,Fh.int_bool a t' b⟩
   | int b=>
    obtain⟨t,rfl⟩:=r2;rw [dr];exact⟨SeqAt.RcAt.int_int a t' b t,SeqAt.RcNeAt.int_int a t' b t,Fh.int_int a t' b t⟩
   | str b=>
    obtain⟨t,rfl⟩:=r2;rw [dr] <;> try (intros;simp_all;done)
    exact⟨SeqAt.RcAt.int_str a t' b t,SeqAt.RcNeAt.int_str a t' b t,Fg a t' b t⟩
   | @tup pb ws m e2 F2=>
    cases r2;obtain⟨bN,k2,fN,_⟩:=I.tuple (dc.of e2);rw [dr] <;> try (intros;simp_all;done)
    exact⟨SeqAt.RcAt.int_tuple a t' fN (by omega),SeqAt.RcNeAt.int_tuple a t' fN (by omega),Fh.int_tuple a t' fN (by omega)⟩
   | @cl pb ws m e2 F2=>
    cases r2;obtain⟨bN,k2,F7,_⟩:=I.list e2.sq;have fN:=F7.isList;rw [dr] <;> try (intros;simp_all;done)
    exact⟨SeqAt.RcAt.int_list a t' fN (by omega),SeqAt.RcNeAt.int_list a t' fN (by omega),Fh.int_list a t' fN (by omega)⟩
  | str a=>
   obtain⟨t',rfl⟩:=r1;cases OT with
   | ref e=>simp at e
   | ty e=>rw [PV.eM] at dy;cases dy
   | dk _ _ _=>rw [PV.eM] at dy;cases dy
   | dt _ _ _=>rw [PV.eM] at dy;cases dy
   | aU=>
    cases r2;rw [dr] <;> try (intros;simp_all;done)
    exact⟨SeqAt.RcAt.str_none a t',SeqAt.RcNeAt.str_none a t',Fh.str_none a t'⟩
   | bl b=>
    cases r2;rw [dr] <;> try (intros;simp_all;done)
    exact⟨SeqAt.RcAt.str_bool a t' b,SeqAt.RcNeAt.str_bool a t' b,Fh.str_bool a t' b⟩
   | int b=>
    obtain⟨t,rfl⟩:=r2;rw [dr] <;> try (intros;simp_all;done)
    exact⟨SeqAt.RcAt.str_int a t' b t,SeqAt.RcNeAt.str_int a t' b t,Fe a t' b t⟩
   | str b=>
    obtain⟨t,rfl⟩:=r2;rw [dr];exact⟨SeqAt.RcAt.str_str a t' b t,SeqAt.RcNeAt.str_str a t' b t,Fh.str_str a t' b t⟩
   | @tup pb ws m e2 F2=>
    cases r2;obtain⟨bN,k2,fN,_⟩:=I.tuple (dc.of e2);rw [dr] <;> try (intros;simp_all;done)
    exact⟨SeqAt.RcAt.str_tuple a t' fN (by omega),SeqAt.RcNeAt.str_tuple a t' fN (by omega),Fh.str_tuple a t' fN (by omega)⟩
   | @cl pb ws m e2 F2=>
    cases r2;obtain⟨bN,k2,F7,_⟩:=I.list e2.sq;have fN:=F7.isList;rw [dr] <;> try (intros;simp_all;done)
    exact⟨SeqAt.RcAt.str_list a t' fN (by omega),SeqAt.RcNeAt.str_list a t' fN (by omega),Fh.str_list a t' fN (by omega)⟩
  | tup e r=>rw [PV.gk] at hd;omega
  | cl e r=>rw [PV.gk] at hd;omega
 | succ n ih=>
  intro x y A v v' w w' hd dx dy hv OT r1 r2 hu;cases hv with
  | ref e=>simp at e
  | ty e=>rw [PV.eM] at dx;cases dx
  | dk _ _ _=>rw [PV.eM] at dx;cases dx
  | dt _ _ _=>rw [PV.eM] at dx;cases dx
  | aU=>exact ih _ y A _ v' _ w' (by simp [PV.gk]) dx dy (.aU) OT r1 r2 (by omega)
  | bl a=>exact ih _ y A _ v' _ w' (by simp [PV.gk]) dx dy (.bl a) OT r1 r2 (by omega)
  | int a=>exact ih _ y A _ v' _ w' (by simp [PV.gk]) dx dy (.int a) OT r1 r2 (by omega)
  | str a=>exact ih _ y A _ v' _ w' (by simp [PV.gk]) dx dy (.str a) OT r1 r2 (by omega)
  | @tup pa vs l e r=>
   cases r1;obtain⟨ar,k1,ht,_⟩:=I.tuple (dc.of e);cases OT with
   | ref e=>simp at e
   | ty e=>rw [PV.eM] at dy;cases dy
   | dk _ _ _=>rw [PV.eM] at dy;cases dy
   | dt _ _ _=>rw [PV.eM] at dy;cases dy
   | aU=>
    cases r2;rw [dr] <;> try (intros;simp_all;done)
    exact⟨SeqAt.RcAt.tuple_none ht (by omega),SeqAt.RcNeAt.tuple_none ht (by omega),Fh.tuple_none ht (by omega)⟩
   | bl b=>
    cases r2;rw [dr] <;> try (intros;simp_all;done)
    exact⟨SeqAt.RcAt.tuple_bool b ht (by omega),SeqAt.RcNeAt.tuple_bool b ht (by omega),Fh.tuple_bool b ht (by omega)⟩
   | int b=>
    obtain⟨t,rfl⟩:=r2;rw [dr] <;> try (intros;simp_all;done)
    exact⟨SeqAt.RcAt.tuple_int b t ht (by omega),SeqAt.RcNeAt.tuple_int b t ht (by omega),Fh.tuple_int b t ht (by omega)⟩
   | str b=>
    obtain⟨t,rfl⟩:=r2;rw [dr] <;> try (intros;simp_all;done)
    exact⟨SeqAt.RcAt.tuple_str b t ht (by omega),SeqAt.RcNeAt.tuple_str b t ht (by omega),Fh.tuple_str b t ht (by omega)⟩
   | @tup pb ws m e2 F2=>
    cases r2;obtain⟨bN,k2,fN,_⟩:=I.tuple (dc.of e2);have d1:fU l=true:=by rw [PV.eM] at dx;exact dx
    have d2:fU m=true:=by rw [PV.eM] at dy;exact dy
    have hd':dY l<=n:=by rw [PV.gk] at hd;omega
    have ie:=UC I (A:=A.in1) k1 k2 r F2 fun j x y v v' w w' hx hy vx vy rx ry=>(ih x y A.in1 v v' w w' (by have:=qx hx;omega) (lQ d1 hx) (lQ d2 hy) vx vy rx ry (by show A.units+1+n+1 < _;omega)).eq;have z1:ar.toArray.size=l.length:=by rw [Ag,<- k1.length,r.length]
    have z2:bN.toArray.size=m.length:=by rw [Ag,<- k2.length,F2.length]
    have same:pa=pb->gT l m=true:=fun z=>by
     subst z;have:=VR.QN I (VR.tup (K:=X.K) e r) (VR.tup (K:=X.K) e2 F2);injection this with this;subst this;exact jz _ d1
    have q1:=SeqAt.RcAt.tuples ht fN (A:=A) (by omega) ie;have q2:=SeqAt.RcNeAt.tuples ht fN (A:=A) (by omega) ie;rw [z1,z2,lR] at q1 q2;rw [dr];refine⟨q1,q2,?_⟩;by_cases Uw:pa=pb
    ·rw [same Uw,Uw];exact ED _
    ·exact Ff Uw q1
   | @cl pb ws m e2 F2=>
    cases r2;obtain⟨bN,k2,F7,_⟩:=I.list e2.sq;have fN:=F7.isList;rw [dr] <;> try (intros;simp_all;done)
    exact⟨SeqAt.RcAt.tuple_list ht fN (by omega),SeqAt.RcNeAt.tuple_list ht fN (by omega),Fh.tuple_list ht fN (by omega)⟩
  | @cl pa vs l e r=>
   cases r1;obtain⟨ar,k1,pl,_⟩:=I.list e.sq;have ht:=pl.isList;cases OT with
   | ref e=>simp at e
   | ty e=>rw [PV.eM] at dy;cases dy
   | dk _ _ _=>rw [PV.eM] at dy;cases dy
   | dt _ _ _=>rw [PV.eM] at dy;cases dy
   | aU=>
    cases r2;rw [dr] <;> try (intros;simp_all;done)
    exact⟨SeqAt.RcAt.list_none ht (by omega),SeqAt.RcNeAt.list_none ht (by omega),Fh.list_none ht (by omega)⟩
   | bl b=>
    cases r2;rw [dr] <;> try (intros;simp_all;done)
    exact⟨SeqAt.RcAt.list_bool b ht (by omega),SeqAt.RcNeAt.list_bool b ht (by omega),Fh.list_bool b ht (by omega)⟩
   | int b=>
    obtain⟨t,rfl⟩:=r2;rw [dr] <;> try (intros;simp_all;done)
    exact⟨SeqAt.RcAt.list_int b t ht (by omega),SeqAt.RcNeAt.list_int b t ht (by omega),Fh.list_int b t ht (by omega)⟩
   | str b=>
    obtain⟨t,rfl⟩:=r2;rw [dr] <;> try (intros;simp_all;done)
    exact⟨SeqAt.RcAt.list_str b t ht (by omega),SeqAt.RcNeAt.list_str b t ht (by omega),Fh.list_str b t ht (by omega)⟩
   | @tup pb ws m e2 F2=>
    cases r2;obtain⟨bN,k2,fN,_⟩:=I.tuple (dc.of e2);rw [dr] <;> try (intros;simp_all;done)
    exact⟨SeqAt.RcAt.list_tuple ht fN (by omega),SeqAt.RcNeAt.list_tuple ht fN (by omega),Fh.list_tuple ht fN (by omega)⟩
   | @cl pb ws m e2 F2=>
    cases r2;obtain⟨bN,k2,F7,_⟩:=I.list e2.sq;have fN:=F7.isList;have d1:fU l=true:=by rw [PV.eM] at dx;exact dx
    have d2:fU m=true:=by rw [PV.eM] at dy;exact dy
    have hd':dY l<=n:=by rw [PV.gk] at hd;omega
    have ie:=UC I (A:=A.in1) k1 k2 r F2 fun j x y v v' w w' hx hy vx vy rx ry=>(ih x y A.in1 v v' w w' (by have:=qx hx;omega) (lQ d1 hx) (lQ d2 hy) vx vy rx ry (by show A.units+1+n+1 < _;omega)).eq;have z1:ar.toArray.size=l.length:=by rw [Ag,<- k1.length,r.length]
    have z2:bN.toArray.size=m.length:=by rw [Ag,<- k2.length,F2.length]
    have same:pa=pb->gT l m=true:=fun z=>by
     subst z;have:=VR.QN I (VR.cl (K:=X.K) e r) (VR.cl (K:=X.K) e2 F2);injection this with this;subst this;exact jz _ d1
    have q1:SeqAt.RcAt A s (.ref pa) (.ref pb) (gT l m):=by
     by_cases hz:l.length=m.length
     ·have q:=Fq ht fN (by rw [z1,z2];exact hz) (A:=A) (by omega) ie;rw [z1] at q;rw [<- lR,hz,Nat.min_self,beq_self_eq_true,Bool.and_true];rw [hz] at q;exact q
     ·rw [GV hz];exact D5 ht fN (by rw [z1,z2];simpa using hz) (by omega)
    have q2:SeqAt.RcNeAt A s (.ref pa) (.ref pb) (!gT l m):=by
     by_cases hz:l.length=m.length
     ·have q:=Fd ht fN (by rw [z1,z2];exact hz) (A:=A) (by omega) ie;rw [z1] at q;rw [<- lR,hz,Nat.min_self,beq_self_eq_true,Bool.and_true];rw [hz] at q;exact q
     ·rw [GV hz];exact DG ht fN (by rw [z1,z2];simpa using hz) (by omega)
    rw [dr];refine⟨q1,q2,?_⟩;by_cases Uw:pa=pb
    ·rw [same Uw,Uw];exact ED _
    ·exact Ff Uw q1
end
end
section
open PySem PySem.Spec PyProof.Rows L2 PL
variable {K:Aa}
mutual
theorem VR.oy {ι:List Addr}{H:Hp}:∀{v:V}{q:PV},VR K ι H v q->PV.eM q=true->VR K [] H v q
 | _,_,.aU,_=>.aU
 | _,_,.bl b,_=>.bl b
 | _,_,.int i,_=>.int i
 | _,_,.str x,_=>.str x
 | _,_,.ty n,h=>by rw [PV.eM] at h;cases h
 | _,_,.dk _ _ _,h=>by rw [PV.eM] at h;cases h
 | _,_,.dt _ _ _,h=>by rw [PV.eM] at h;cases h
 | _,_,.tup e r,h=>.tup e (aH.oy r (by rw [PV.eM] at h;exact h))
 | _,_,.cl e r,h=>.cl e (aH.oy r (by rw [PV.eM] at h;exact h))
 | _,_,.ref e,h=>by rw [PV.eM] at h;cases h
theorem aH.oy {ι:List Addr}{H:Hp}:∀{v:List V}{q:List PV},aH K ι H v q->fU q=true->aH K [] H v q
 | _,_,.nil,_=>.nil
 | _,_,.cons r s,h=>by
  rw [fU,AE] at h;exact .cons (VR.oy r h.1) (aH.oy s h.2)
end
def Md (x y:PV):Prop:=PV.eM x=true/\PV.eM y=true/\PV.gk x<=150
def dP:M2:=⟨fun x y h Q=>Md x y/\Q (.bl (dr x y)) h,fun f q=>⟨q.1,f _ _ q.2⟩⟩
def Gg:M2:=⟨fun x y h Q=>Md x y/\Q (.bl (!dr x y)) h,fun f q=>⟨q.1,f _ _ q.2⟩⟩
def Rq (K:Aa) (neg:Bool):R2:=fun u v H Q=>∃x y,VR K [] H u x/\VR K [] H v y/\Md x y/\Q (.bl (if neg then !dr x y else dr x y)) H
section
variable {X:Cx}{b:Expr}
def VH (hK:X.K=K) (hu:X.A.units+200 < cLine):jE X (compareOp .Eq) (Rq K false):=fun pins s σ H u v w w' Q I r1 r2 ⟨x,y,h1,h2,⟨o1,o2,o3⟩,q⟩=>by
 exact EE (Xi hK I 150 x y X.A u v w w' o3 o1 o2 h1 h2 r1 r2 (by omega)).rc ⟨.bl _,H,I,rfl,q⟩
def VE (hK:X.K=K) (hu:X.A.units+200 < cLine):jE X (compareOp .NotEq) (Rq K true):=fun pins s σ H u v w w' Q I r1 r2 ⟨x,y,h1,h2,⟨o1,o2,o3⟩,q⟩=>by
 exact DW (Xi hK I 150 x y X.A u v w w' o3 o1 o2 h1 h2 r1 r2 (by omega)).ne ⟨.bl _,H,I,rfl,q⟩
def RX:M2.Ok K (Rq K false) dP:=fun {ι H h u v x y Q} hr hu hv q=>⟨x,y,VR.oy hu q.1.1,VR.oy hv q.1.2.1,q.1,q.2 ι _ H (Go.refl _ _) hr (.bl _)⟩
def RT:M2.Ok K (Rq K true) Gg:=fun {ι H h u v x y Q} hr hu hv q=>⟨x,y,VR.oy hu q.1.1,VR.oy hv q.1.2.1,q.1,q.2 ι _ H (Go.refl _ _) hr (.bl _)⟩
def fy (hK:X.K=K) (hu:X.A.units+200 < cLine):JC X K .Eq b dP:=⟨⟨_,VH hK hu,RX⟩,nt _⟩
def OG (hK:X.K=K) (hu:X.A.units+200 < cLine):JC X K .NotEq b Gg:=⟨⟨_,VE hK hu,RT⟩,nt _⟩
end
end
end FL
namespace L2
open PySem PySem.Spec PyProof.Rows
def ve (b:Bool) (h:Heap) (it a:Addr) (k:Nat):Prop:=match b with
 | true=>h.IsListIter it a k
 | false=>h.IsTupleIter it a k
def je (b:Bool) (h:Heap) (a:Addr) (xs:Array Value):Prop:=match b with
 | true=>h.IsList a xs
 | false=>h.IsTuple a xs
def ve.move {b:Bool}{h h':Heap}{it a:Addr}{k:Nat} (x:ve b h it a k) (g:∀o,h.get? it=some o->h'.get? it=some o):ve b h' it a k:=by
 cases b with
 | true=>obtain⟨o,e,p⟩:=(show h.IsListIter it a k from x);exact (show h'.IsListIter it a k from⟨o,g o e,p⟩)
 | false=>obtain⟨o,e,p⟩:=(show h.IsTupleIter it a k from x);exact (show h'.IsTupleIter it a k from⟨o,g o e,p⟩)
def je.move {b:Bool}{h h':Heap}{a:Addr}{xs:Array Value} (x:je b h a xs) (g:∀o,h.get? a=some o->h'.get? a=some o):je b h' a xs:=by
 cases b with
 | true=>obtain⟨o,e,p⟩:=(show h.IsList a xs from x);exact (show h'.IsList a xs from⟨o,g o e,p⟩)
 | false=>obtain⟨o,e,p⟩:=(show h.IsTuple a xs from x);exact (show h'.IsTuple a xs from⟨o,g o e,p⟩)
def ve.obj {b:Bool}{h:Heap}{it a:Addr}{k:Nat} (x:ve b h it a k):∃o,h.get? it=some o/\∀v,o.data≠.cell v:=by
 cases b with
 | true=>obtain⟨o,e,_,d⟩:=(show h.IsListIter it a k from x);exact⟨o,e,fun v z=>by rw [d] at z;cases z⟩
 | false=>obtain⟨o,e,_,d⟩:=(show h.IsTupleIter it a k from x);exact⟨o,e,fun v z=>by rw [d] at z;cases z⟩
def je.lt {b:Bool}{h:Heap}{a:Addr}{xs:Array Value} (x:je b h a xs):a < h.objs.size:=by
 cases b with
 | true=>obtain⟨o,e,p⟩:=(show h.IsList a xs from x);exact Ao e
 | false=>obtain⟨o,e,p⟩:=(show h.IsTuple a xs from x);exact Ao e
section
variable {prog:Program}{w:World}{A:Around}{E:Value->Shared->Prop}{s:Shared}
def lu {b:Bool}{it t:Addr}{i:Nat}{items:Array Value}{x:Value}{Q:Value->Shared->Prop} (h:ve b s.heap it t i) (ht:je b s.heap t items) (hx:items[i]?=some x)
  (q:∀h':Heap,ve b h' it t (i+1)->BZ it s.heap h'->Q x {s with heap:=h'}):wpAny (model prog w) A (Builtin.SmallTypes.nextOf (.ref it)) Q E s:=by
 cases b with
 | true=>exact wpAny_nextOf_list_item h ht hx fun h' a b=>q h' a b
 | false=>exact iC h ht hx q
def t4 {b:Bool}{it t:Addr}{i:Nat}{items:Array Value}{Q:Value->Shared->Prop} (hA:A.handled=none) (h:ve b s.heap it t i) (ht:je b s.heap t items) (hx:items[i]?=none)
  (q:∀(h':Heap) (e:Addr),Ft it s.heap h'->(∃o,h'.get? e=some o/\o.cls=.type "StopIteration")->E (.ref e) {s with heap:=h'}):wpAny (model prog w) A (Builtin.SmallTypes.nextOf (.ref it)) Q E s:=by
 cases b with
 | true=>exact wpAny_nextOf_list_end hA h ht hx fun h' e a b=>q h' e a b
 | false=>exact ju hA h ht hx q
def LS:Bool->String
 | true=>"list_iterator"
 | false=>"tuple_iterator"
def wN {b:Bool}{a:Addr}{xs:Array Value}{Q:Value->Shared->Prop} (h:je b s.heap a xs) (q:Q (.ref s.heap.objs.size) {s with heap:=s.heap.push {cls:=.type (LS b),data:=.fields #[.ref a,.int 0 0]}}):wpAny (model prog w) A (pyIter (.ref a)) Q E s:=by
 cases b with
 | true=>exact Cr h q
 | false=>exact Cj h q
def JH {b:Bool}{h:Heap}{it a:Addr} (e:h.get? it=some {cls:=.type (LS b),data:=.fields #[.ref a,.int 0 0]}):ve b h it a 0:=by
 cases b with
 | true=>exact (show h.IsListIter it a 0 from⟨_,e,rfl,rfl⟩)
 | false=>exact (show h.IsTupleIter it a 0 from⟨_,e,rfl,rfl⟩)
end
structure kF (b1 b2:Bool) (h:Heap) (z TI TO i1 i2 a1 a2:Addr) (f0:Value) (k1 k2:Nat):Prop where
 zip:IsZip h z TI TO f0
 ti:IsPair h TI (.ref i1) (.ref i2)
 to:∃a b,IsPair h TO a b
 it1:ve b1 h i1 a1 k1
 it2:ve b2 h i2 a2 k2
def sU {prog:Program}{w:World}{A:Around}{E:Value->Shared->Prop}{s:Shared}{b1 b2:Bool}{z TI TO i1 i2 a1 a2:Addr}{k1 k2:Nat}{xs ys:Array Value}{x y:Value}{Q:Value->Shared->Prop} (hA:ZipApart z TI TO i1 i2 a1 a2)
  (hz:kF b1 b2 s.heap z TI TO i1 i2 a1 a2 .none k1 k2) (Uq:je b1 s.heap a1 xs) (fN:je b2 s.heap a2 ys) (hx:xs[k1]?=some x) (hy:ys[k2]?=some y)
  (q:∀h':Heap,kF b1 b2 h' z TI TO i1 i2 a1 a2 (rawInt s.heap.objs.size) (k1+1) (k2+1)->IsPair h' s.heap.objs.size x y->(∀c o,c≠z->c≠TO->c≠i1->c≠i2->s.heap.get? c=some o->h'.get? c=some o)->Q (.ref s.heap.objs.size) {s with heap:=h'}) :
  wpAny (model prog w) A (Builtin.«zip.__next__» {pos:=[.ref z]}) (fun fin s'=>∃v,fin=Fv (Fu v)/\Q v s') E s:=by
 obtain⟨hz,Sz,⟨ta,tb,hto⟩,hi1,hi2⟩:=hz;show wpAny _ _ (field (.ref z) 2 >>= fun r=>_) _ _ s;refine Ab (AV hz rfl rfl ?_);show wpAny _ _ (field (.ref z) 3 >>= fun r=>_) _ _ s;refine Ab (AV hz rfl rfl ?_);show wpAny _ _ (seqItems? (.ref TI) >>= fun r=>_) _ _ s;refine Ab (Bu Sz rfl ?_);show wpAny _ _ (Builtin.SmallTypes.ownedTupleIsFree (.ref z) >>= fun r=>_) _ _ s;refine Ab ?_;unfold Builtin.SmallTypes.ownedTupleIsFree;refine Ab (AV hz rfl rfl ?_);refine Ah ?_;show wpAny _ _ (rule "zip.__next__.owned-tuple-again" >>= fun r=>_) _ _ s;refine Ab (CF ?_);refine Ab (AV hz rfl rfl ?_);show wpAny _ _ (setField (.ref z) 0 .ellipsis >>= fun r=>_) _ _ s;refine Ab (AZ hz (show 0 < 5 by decide) fun h1 z1 b1=>?_);show wpAny _ _ ((forIn [(Aw i1,0),(Aw i2,1)] _ _) >>= fun r=>_) _ _ _;refine Ab ?_;rw [BI];have wj:∀b,b≠z->h1.get? b=s.heap.get? b:=b1.2;refine Ab ?_;refine Ab (D9 ?_);show wpAny _ _ (Builtin.SmallTypes.nextOf (.ref i1) >>= fun v=>pure (some v)) _ _ _;refine Ab (lu (hi1.move fun o e=>(wj _ hA.i1z).trans e) (Uq.move fun o e=>(wj _ hA.l1z).trans e) hx fun h2 j2 b2=>Ah ?_);have O9:∀b,b≠z->b≠i1->h2.get? b=s.heap.get? b:=fun b n1 n2=>(b2.2 b n2).trans (wj b n1);have to2:IsPair h2 TO ta tb:=(O9 _ hA.TOz hA.TOi1).trans hto;show wpAny _ _ (seqItems? (.ref TO) >>= fun r=>_) _ _ _;refine Ab (Bu to2 rfl ?_);refine Ab (Dh to2 fun h3 t3 b3=>?_);have get3:∀b,b≠z->b≠i1->b≠TO->h3.get? b=s.heap.get? b:=fun b n1 n2 n3=>(b3.2 b n3).trans (O9 b n1 n2);refine Ab (Di (Ah ?_));show wpAny _ _ (forIn [(Aw i2,1)] _ _) _ _ _;rw [BI];refine Ab ?_;refine Ab (D9 ?_);show wpAny _ _ (Builtin.SmallTypes.nextOf (.ref i2) >>= fun v=>pure (some v)) _ _ _;refine Ab (lu (hi2.move fun o e=>(get3 _ hA.i2z hA.i12.symm hA.TOi2.symm).trans e) (fN.move fun o e=>(get3 _ hA.l2z hA.l2i1 hA.l2TO).trans e) hy fun h4 j4 b4=>Ah ?_);have to4:IsPair h4 TO x tb:=(b4.2 _ hA.TOi2).trans t3;show wpAny _ _ (seqItems? (.ref TO) >>= fun r=>_) _ _ _;refine Ab (Bu to4 rfl ?_);refine Ab (Dh to4 fun h5 t5 b5=>?_);have to5:IsPair h5 TO x y:=t5;refine Ab (Di (Ah ?_));show wpAny _ _ (forIn [] _ _) _ _ _;rw [DP];refine Ah ?_;show wpAny _ _ (seqItems? (.ref TO) >>= fun r=>_) _ _ _;refine Ab (Bu to5 rfl ?_);show wpAny _ _ (newTuple [x,y] >>= fun r=>_) _ _ _;have sz5:h5.objs.size=s.heap.objs.size:=b5.1.trans (b4.1.trans (b3.1.trans (b2.1.trans b1.1)));refine Ab (CS ?_ (by show 2<=sizeLine;decide));have aao:∀b,b≠z->b≠i1->b≠TO->b≠i2->h5.get? b=s.heap.get? b:=fun b n1 n2 n3 n4=>(b5.2 b n3).trans ((b4.2 b n4).trans (get3 b n1 n2 n3));have z5:h5.get? z=some {cls:=.type "zip",data:=.fields #[.ellipsis,.bool false,.bool false,.ref TI,.ref TO]}:=(b5.2 _ hA.TOz.symm).trans ((b4.2 _ hA.i2z.symm).trans ((b3.2 _ hA.TOz.symm).trans ((b2.2 _ hA.i1z.symm).trans z1)));have kp:∀b o,h5.get? b=some o->(h5.push {cls:=.type "tuple",data:=.seq #[x,y]}).get? b=some o:=fun b o e=>Ak _ e;have ac5:(h5.push {cls:=.type "tuple",data:=.seq #[x,y]}).get? h5.objs.size=some {cls:=.type "tuple",data:=.seq #[x,y]}:=An _ rfl;refine Ab ?_;show wpAny _ _ (setField (.ref z) 0 (rawInt h5.objs.size) >>= fun _=>setField (.ref z) 1 (.bool false)) _ _ _;refine Ab (AZ (kp _ _ z5) (show 0 < 5 by decide) fun h7 z7 b7=>?_);refine AZ z7 (show 1 < 5 by decide) fun h8 z8 b8=>?_;have L8:∀b,b≠z->h8.get? b=(h5.push {cls:=.type "tuple",data:=.seq #[x,y]}).get? b:=fun b n=>(b8.2 b n).trans (b7.2 b n);have nz:s.heap.objs.size≠z:=fun e=>by have:=Ao hz;rw [<- e] at this;exact AX _ this
 refine Ah ⟨.ref h5.objs.size,rfl,?_⟩;rw [sz5];refine q h8 ⟨?_,?_,?_,?_,?_⟩ ?_ ?_
 ·rw [<- sz5];exact z8
 ·rw [IsPair,L8 _ hA.TIz];exact kp _ _ ((aao _ hA.TIz hA.TIi1 hA.TITO hA.TIi2).trans Sz)
 ·exact⟨x,y,by rw [IsPair,L8 _ hA.TOz];exact kp _ _ to5⟩
 ·refine j2.move fun o e=>?_;rw [L8 _ hA.i1z];exact kp _ _ ((b5.2 _ hA.TOi1.symm).trans ((b4.2 _ hA.i12).trans ((b3.2 _ hA.TOi1.symm).trans e)))
 ·refine j4.move fun o e=>?_;rw [L8 _ hA.i2z];exact kp _ _ ((b5.2 _ hA.TOi2.symm).trans e)
 ·rw [IsPair,L8 _ nz,<- sz5];exact ac5
 ·intro c o n1 n2 n3 n4 e;rw [L8 _ n1];exact kp _ _ ((aao _ n1 n3 n2 n4).trans e)
def vD {prog:Program}{w:World}{A:Around}{E:Value->Shared->Prop}{s:Shared}{b1 b2:Bool}{z TI TO i1 i2 a1 a2:Addr}{k1 k2:Nat}{xs ys:Array Value}{Q:PySem.Fin->Shared->Prop} (hh:A.handled=none) (hA:ZipApart z TI TO i1 i2 a1 a2)
  (hz:kF b1 b2 s.heap z TI TO i1 i2 a1 a2 .none k1 k2) (Uq:je b1 s.heap a1 xs) (fN:je b2 s.heap a2 ys) (hx:xs[k1]?=none\/ys[k2]?=none)
  (q:∀(h':Heap) (e:Addr),(∀c o,c≠z->c≠TO->c≠i1->c≠i2->s.heap.get? c=some o->h'.get? c=some o)->(∃o,h'.get? e=some o/\o.cls=.type "StopIteration")->E (.ref e) {s with heap:=h'}) :
  wpAny (model prog w) A (Builtin.«zip.__next__» {pos:=[.ref z]}) Q E s:=by
 obtain⟨hz,Sz,⟨ta,tb,hto⟩,hi1,hi2⟩:=hz;show wpAny _ _ (field (.ref z) 2 >>= fun r=>_) _ _ s;refine Ab (AV hz rfl rfl ?_);show wpAny _ _ (field (.ref z) 3 >>= fun r=>_) _ _ s;refine Ab (AV hz rfl rfl ?_);show wpAny _ _ (seqItems? (.ref TI) >>= fun r=>_) _ _ s;refine Ab (Bu Sz rfl ?_);show wpAny _ _ (Builtin.SmallTypes.ownedTupleIsFree (.ref z) >>= fun r=>_) _ _ s;refine Ab ?_;unfold Builtin.SmallTypes.ownedTupleIsFree;refine Ab (AV hz rfl rfl ?_);refine Ah ?_;show wpAny _ _ (rule "zip.__next__.owned-tuple-again" >>= fun r=>_) _ _ s;refine Ab (CF ?_);refine Ab (AV hz rfl rfl ?_);show wpAny _ _ (setField (.ref z) 0 .ellipsis >>= fun r=>_) _ _ s;refine Ab (AZ hz (show 0 < 5 by decide) fun h1 z1 b1'=>?_);show wpAny _ _ ((forIn [(Aw i1,0),(Aw i2,1)] _ _) >>= fun r=>_) _ _ _;refine Ab ?_;rw [BI];have wj:∀b,b≠z->h1.get? b=s.heap.get? b:=b1'.2;refine Ab ?_;refine Ab (D9 ?_);show wpAny _ _ (Builtin.SmallTypes.nextOf (.ref i1) >>= fun v=>pure (some v)) _ _ _;have fin:∀{h2:Heap}{e:Addr},h2.get? z=some {cls:=.type "zip",data:=.fields #[.ellipsis,.bool false,.bool false,.ref TI,.ref TO]}->(∃o,h2.get? e=some o/\o.cls=.type "StopIteration")->(∀c o,c≠z->c≠TO->c≠i1->c≠i2->s.heap.get? c=some o->h2.get? c=some o)->wpAny (model prog w) A (setField (.ref z) 0 .none) (fun _ s'=>E (.ref e) s') (fun _ _=>True) {s with heap:=h2}:=fun {h2 e} z2 ex k=>by
  refine AZ z2 (show 0 < 5 by decide) fun h3 z3 b3=>?_;refine q h3 e (fun c o n1 n2 n3 n4 ec=>?_) ?_
  ·rw [b3.2 _ n1];exact k c o n1 n2 n3 n4 ec
  ·obtain⟨o,eo,hc⟩:=ex;by_cases he:e=z
   ·subst he;rw [z2] at eo;cases eo;exact absurd (show BL "zip"=BL "StopIteration" from hc) (by decide)
   ·exact⟨o,(b3.2 _ he).trans eo,hc⟩
 cases hx1:xs[k1]? with
 | none=>
  refine Ab (t4 hh (hi1.move fun o e=>(wj _ hA.i1z).trans e) (Uq.move fun o e=>(wj _ hA.l1z).trans e) hx1 fun h2 e k ex=>?_);have z2:h2.get? z=some {cls:=.type "zip",data:=.fields #[.ellipsis,.bool false,.bool false,.ref TI,.ref TO]}:=k _ _ hA.i1z.symm z1;refine AZ z2 (show 0 < 5 by decide) fun h3 z3 b3=>?_;refine q h3 e (fun c o n1 n2 n3 n4 ec=>?_) ?_
  ·rw [b3.2 _ n1];exact k _ _ n3 ((wj _ n1).trans ec)
  ·obtain⟨o,eo,hc⟩:=ex;by_cases he:e=z
   ·subst he;rw [z2] at eo;cases eo;exact absurd (show BL "zip"=BL "StopIteration" from hc) (by decide)
   ·exact⟨o,(b3.2 _ he).trans eo,hc⟩
 | some x=>
  have hy:ys[k2]?=none:=by
   rcases hx with h | h
   ·rw [hx1] at h;cases h
   ·exact h
  refine Ab (lu (hi1.move fun o e=>(wj _ hA.i1z).trans e) (Uq.move fun o e=>(wj _ hA.l1z).trans e) hx1 fun h2 j2 b2'=>Ah ?_);have O9:∀b,b≠z->b≠i1->h2.get? b=s.heap.get? b:=fun b n1 n2=>(b2'.2 b n2).trans (wj b n1);have to2:IsPair h2 TO ta tb:=(O9 _ hA.TOz hA.TOi1).trans hto;show wpAny _ _ (seqItems? (.ref TO) >>= fun r=>_) _ _ _;refine Ab (Bu to2 rfl ?_);refine Ab (Dh to2 fun h3 t3 b3=>?_);have get3:∀b,b≠z->b≠i1->b≠TO->h3.get? b=s.heap.get? b:=fun b n1 n2 n3=>(b3.2 b n3).trans (O9 b n1 n2);refine Ab (Di (Ah ?_));show wpAny _ _ (forIn [(Aw i2,1)] _ _) _ _ _;rw [BI];refine Ab ?_;refine Ab (D9 ?_);show wpAny _ _ (Builtin.SmallTypes.nextOf (.ref i2) >>= fun v=>pure (some v)) _ _ _;refine Ab (t4 hh (hi2.move fun o e=>(get3 _ hA.i2z hA.i12.symm hA.TOi2.symm).trans e) (fN.move fun o e=>(get3 _ hA.l2z hA.l2i1 hA.l2TO).trans e) hy fun h4 e k ex=>?_);have z4:h4.get? z=some {cls:=.type "zip",data:=.fields #[.ellipsis,.bool false,.bool false,.ref TI,.ref TO]}:=k _ _ hA.i2z.symm ((b3.2 _ hA.TOz.symm).trans ((b2'.2 _ hA.i1z.symm).trans z1));refine AZ z4 (show 0 < 5 by decide) fun h5 z5 b5=>?_;refine q h5 e (fun c o n1 n2 n3 n4 ec=>?_) ?_
  ·rw [b5.2 _ n1];exact k _ _ n4 ((get3 _ n1 n3 n2).trans ec)
  ·obtain⟨o,eo,hc⟩:=ex;by_cases he:e=z
   ·subst he;rw [z4] at eo;cases eo;exact absurd (show BL "zip"=BL "StopIteration" from hc) (by decide)
   ·exact⟨o,(b5.2 _ he).trans eo,hc⟩
def pV {prog:Program}{w:World}{A:Around}{E:Value->Shared->Prop}{s:Shared}{b1 b2:Bool}{z TI TO i1 i2 a1 a2:Addr}{k1 k2:Nat}{xs ys:Array Value}{x y:Value}{Q:Option Value->Shared->Prop} (hA:ZipApart z TI TO i1 i2 a1 a2)
  (hz:kF b1 b2 s.heap z TI TO i1 i2 a1 a2 .none k1 k2) (Uq:je b1 s.heap a1 xs) (fN:je b2 s.heap a2 ys) (hx:xs[k1]?=some x) (hy:ys[k2]?=some y)
  (q:∀h':Heap,kF b1 b2 h' z TI TO i1 i2 a1 a2 (rawInt s.heap.objs.size) (k1+1) (k2+1)->IsPair h' s.heap.objs.size x y->(∀c o,c≠z->c≠TO->c≠i1->c≠i2->s.heap.get? c=some o->h'.get? c=some o)->Q (some (.ref s.heap.objs.size)) {s with heap:=h'}) :
  wpAny (model prog w) A (pyNext (.ref z)) Q E s:=by
 have ty:s.TypeIs (.ref z) "zip":=⟨_,hz.zip,rfl⟩;unfold pyNext;refine Ab (CB (AM ty Dm (Bf Dm ty F.entry_zip_next ?_ (F.args_zip_next_1 _))));exact sU hA hz Uq fN hx hy fun h' a b c=>Ah (q h' a b c)
def rG {prog:Program}{w:World}{A:Around}{E:Value->Shared->Prop}{s:Shared}{b1 b2:Bool}{z TI TO i1 i2 a1 a2:Addr}{k1 k2:Nat}{xs ys:Array Value}{Q:Option Value->Shared->Prop} (hh:A.handled=none) (hA:ZipApart z TI TO i1 i2 a1 a2)
  (hz:kF b1 b2 s.heap z TI TO i1 i2 a1 a2 .none k1 k2) (Uq:je b1 s.heap a1 xs) (fN:je b2 s.heap a2 ys) (hx:xs[k1]?=none\/ys[k2]?=none)
  (q:∀h':Heap,(∀c o,c≠z->c≠TO->c≠i1->c≠i2->s.heap.get? c=some o->h'.get? c=some o)->Q none {s with heap:=h'}) :
  wpAny (model prog w) A (pyNext (.ref z)) Q E s:=by
 have ty:s.TypeIs (.ref z) "zip":=⟨_,hz.zip,rfl⟩;unfold pyNext;refine Ab (CB (AM ty Dm (Bf Dm ty F.entry_zip_next ?_ (F.args_zip_next_1 _))));refine vD (A:=A.in1) hh hA hz Uq fN hx fun h' e k ex=>?_;obtain⟨o,eo,hc⟩:=ex;refine Ab (C5 (T:="StopIteration") ⟨o,eo,hc⟩ isSubtype_stop ?_);rw [if_pos rfl];exact Ah (q h' k)
def ud (b1 b2:Bool) (a1 a2:Addr) (xs ys:Array Value):Meets (Builtin.«zip.__new__» {pos:=[.type "zip",.ref a1,.ref a2]}) (fun _ R s=>je b1 s.heap a1 xs/\je b2 s.heap a2 ys/\
  ∀h':Heap,kF b1 b2 h' (s.heap.objs.size+4) (s.heap.objs.size+2) (s.heap.objs.size+3) s.heap.objs.size (s.heap.objs.size+1) a1 a2 .none 0 0->(∀b o,s.heap.get? b=some o->h'.get? b=some o)->R (.ok (.ret (.ref (s.heap.objs.size+4)))) {s with heap:=h'}):=
 .of_wp fun prog w A R s h=>by
  obtain⟨h1,h2,q⟩:=h;unfold Builtin.«zip.__new__»;refine Ab ?_;unfold Builtin.SmallTypes.newClass;refine Ab (Ci (a:=true) rfl ?_);rw [if_neg (by decide)];refine Ab (Ci sub_zip ?_);rw [if_neg (by decide)];refine Ah ?_;show wpAny _ _ (Builtin.SmallTypes.iterAll [.ref a1,.ref a2] >>= fun r=>_) _ _ s;refine Ab ?_;unfold Builtin.SmallTypes.iterAll;refine Ab ?_;rw [BI];refine Ab ?_;refine Ab (Bi (wN h1 (Ah ?_)));have k1:∀b o,s.heap.get? b=some o->(s.heap.push {cls:=.type (LS b1),data:=.fields #[.ref a1,.int 0 0]}).get? b=some o:=fun b o e=>Ak _ e;have g1:(s.heap.push {cls:=.type (LS b1),data:=.fields #[.ref a1,.int 0 0]}).get? s.heap.objs.size=some {cls:=.type (LS b1),data:=.fields #[.ref a1,.int 0 0]}:=An _ rfl;have z1:(s.heap.push {cls:=.type (LS b1),data:=.fields #[.ref a1,.int 0 0]}).objs.size=s.heap.objs.size+1:=Cg ..;generalize s.heap.push {cls:=.type (LS b1),data:=.fields #[.ref a1,.int 0 0]}=vC at k1 g1 z1 ⊢;show wpAny _ _ (forIn [Aw a2] _ _) _ _ _;rw [BI];refine Ab ?_;refine Ab (Bi (wN (xs:=ys) (h2.move fun o e=>k1 _ _ e) (Ah ?_)));show wpAny _ _ (forIn [] _ _) _ _ _;rw [DP];refine Ah (Ah ?_);have k2:∀b o,vC.get? b=some o->(vC.push {cls:=.type (LS b2),data:=.fields #[.ref a2,.int 0 0]}).get? b=some o:=fun b o e=>Ak _ e;have g2:(vC.push {cls:=.type (LS b2),data:=.fields #[.ref a2,.int 0 0]}).get? vC.objs.size=some {cls:=.type (LS b2),data:=.fields #[.ref a2,.int 0 0]}:=An _ rfl;have z2:(vC.push {cls:=.type (LS b2),data:=.fields #[.ref a2,.int 0 0]}).objs.size=vC.objs.size+1:=Cg ..;show wpAny _ _ (newTuple [.ref s.heap.objs.size,.ref vC.objs.size] >>= fun r=>_) _ _ {s with heap:=vC.push {cls:=.type (LS b2),data:=.fields #[.ref a2,.int 0 0]}};generalize vC.push {cls:=.type (LS b2),data:=.fields #[.ref a2,.int 0 0]}=yU at k2 g2 z2 ⊢;refine Ab (CS ?_ (by show 2<=sizeLine;decide));have k3:∀b o,yU.get? b=some o->(yU.push {cls:=.type "tuple",data:=.seq [Aw s.heap.objs.size,Aw vC.objs.size].toArray}).get? b=some o:=fun b o e=>Ak _ e;have g3:(yU.push {cls:=.type "tuple",data:=.seq [Aw s.heap.objs.size,Aw vC.objs.size].toArray}).get? yU.objs.size=some {cls:=.type "tuple",data:=.seq #[.ref s.heap.objs.size,.ref vC.objs.size]}:=An _ rfl;have z3:(yU.push {cls:=.type "tuple",data:=.seq [Aw s.heap.objs.size,Aw vC.objs.size].toArray}).objs.size=yU.objs.size+1:=Cg ..;show wpAny _ _ (newTuple [.none,.none] >>= fun r=>_) _ _ {s with heap:=yU.push {cls:=.type "tuple",data:=.seq [Aw s.heap.objs.size,Aw vC.objs.size].toArray}};generalize yU.push {cls:=.type "tuple",data:=.seq [Aw s.heap.objs.size,Aw vC.objs.size].toArray}=LZ at k3 g3 z3 ⊢;refine Ab (CS ?_ (by show 2<=sizeLine;decide));have k4:∀b o,LZ.get? b=some o->(LZ.push {cls:=.type "tuple",data:=.seq [Be,Be].toArray}).get? b=some o:=fun b o e=>Ak _ e;have g4:(LZ.push {cls:=.type "tuple",data:=.seq [Be,Be].toArray}).get? LZ.objs.size=some {cls:=.type "tuple",data:=.seq #[.none,.none]}:=An _ rfl;have z4:(LZ.push {cls:=.type "tuple",data:=.seq [Be,Be].toArray}).objs.size=LZ.objs.size+1:=Cg ..;show wpAny _ _ (newObj (.type "zip") (.fields #[.none,.bool false,.bool false,.ref yU.objs.size,.ref LZ.objs.size]) >>= fun r=>_) _ _ {s with heap:=LZ.push {cls:=.type "tuple",data:=.seq [Be,Be].toArray}};generalize LZ.push {cls:=.type "tuple",data:=.seq [Be,Be].toArray}=XJ at k4 g4 z4 ⊢;refine Ab (Bh ?_ (by simp [sizeOk];decide));have k5:∀b o,XJ.get? b=some o->(XJ.push {cls:=.type "zip",data:=.fields #[.none,.bool false,.bool false,.ref yU.objs.size,.ref LZ.objs.size]}).get? b=some o:=fun b o e=>Ak _ e;have g5:(XJ.push {cls:=.type "zip",data:=.fields #[.none,.bool false,.bool false,.ref yU.objs.size,.ref LZ.objs.size]}).get? XJ.objs.size=some {cls:=.type "zip",data:=.fields #[.none,.bool false,.bool false,.ref yU.objs.size,.ref LZ.objs.size]}:=An _ rfl;have e1:vC.objs.size=s.heap.objs.size+1:=z1;have e2:yU.objs.size=s.heap.objs.size+2:=by rw [z2,e1]
  have e3:LZ.objs.size=s.heap.objs.size+3:=by rw [z3,e2]
  have e4:XJ.objs.size=s.heap.objs.size+4:=by rw [z4,e3]
  refine Ah ⟨.ref XJ.objs.size,rfl,?_⟩;rw [e2,e3] at g5 k5 ⊢;rw [e4] at g5 ⊢;rw [e3] at g4;rw [e1,e2] at g3;rw [e1] at g2;refine q _ ⟨g5,k5 _ _ (k4 _ _ g3),⟨_,_,k5 _ _ g4⟩,JH (k5 _ _ (k4 _ _ (k3 _ _ (k2 _ _ g1)))),JH (k5 _ _ (k4 _ _ (k3 _ _ g2)))⟩ fun b o e=>k5 _ _ (k4 _ _ (k3 _ _ (k2 _ _ (k1 _ _ e))))
def Ml {prog:Program}{w:World}{A:Around}{E:Value->Shared->Prop}{s:Shared}{b1 b2:Bool}{a1 a2:Addr}{xs ys:Array Value}{Q:Value->Shared->Prop} (h1:je b1 s.heap a1 xs) (h2:je b2 s.heap a2 ys)
  (q:∀h':Heap,kF b1 b2 h' (s.heap.objs.size+4) (s.heap.objs.size+2) (s.heap.objs.size+3) s.heap.objs.size (s.heap.objs.size+1) a1 a2 .none 0 0->(∀b o,s.heap.get? b=some o->h'.get? b=some o)->Q (.ref (s.heap.objs.size+4)) {s with heap:=h'}) :
  wpAny (model prog w) A (call (.type "zip") [.ref a1,.ref a2]) Q E s:=
 callType_new F.called_zip (by decide) (F.typeCall_zip_2 _ _) (F.newCall_zip_2 _ _) (fun o=>F.args_object_init_3 o _ _) F.entry_zip_new (ud b1 b2 a1 a2 xs ys) ⟨h1,h2,fun h' z k=>⟨⟨_,z.zip,rfl⟩,q h' z k⟩⟩
def MR (b:Bool) (K:Aa) (H:Hp) (a:Addr) (xs:List V):Prop:=match b with
 | true=>cT K H a xs
 | false=>dc K H a xs
def Inv.XB {X:Cx}{pins:List (Addr×Obj)}{σ:L2.St}{H:Hp}{s:Shared}{b:Bool}{a:Addr}{xs:List V} (I:Inv X pins σ H s) (h:MR b X.K H a xs):∃ar:List Value,Vals xs ar/\je b s.heap a ar.toArray/\xs.length<=sizeLine:=by
 cases b with
 | true=>obtain⟨ar,r,p,z⟩:=I.list (show cT X.K H a xs from h);exact⟨ar,r,p.isList,z⟩
 | false=>obtain⟨ar,r,p,z⟩:=I.tuple (show dc X.K H a xs from h);exact⟨ar,r,p,z⟩
def Inv.JG {X:Cx}{pins:List (Addr×Obj)}{σ:L2.St}{H:Hp}{s:Shared}{b:Bool}{a:Addr}{xs ys:List V} (I:Inv X pins σ H s) (h:MR b X.K H a xs) (h':MR b X.K H a ys):xs=ys:=by
 cases b with
 | true=>
  obtain⟨ar,k,⟨o,n,h1,h2,h3,h4⟩,_⟩:=I.list (show cT X.K H a xs from h);obtain⟨its',k',⟨o',n',iX,Fz,L5,WH⟩,_⟩:=I.list (show cT X.K H a ys from h');rw [h1] at iX;cases iX;rw [h4] at WH;have:ar=its':=by injection WH with a b;simpa using a
  subst this;exact Vals.inj k k'
 | false=>exact I.mh h h'
def aa6 (b1 b2:Bool) (K:Aa) (a1 a2:Addr):It where
 go:=fun i H=>∃xs ys x y,MR b1 K H a1 xs/\MR b2 K H a2 ys/\xs[i]?=some x/\ys[i]?=some y
 TV:=fun i H v H'=>∃p x y,v=.ref p/\H p=none/\H'=upd H p (.tup [x,y])/\(∀xs,MR b1 K H a1 xs->xs[i]?=some x)/\∀ys,MR b2 K H a2 ys->ys[i]?=some y
 stop:=fun i H=>∃xs ys,MR b1 K H a1 xs/\MR b2 K H a2 ys/\(xs.length<=i\/ys.length<=i)
def K2 {P:Program}{w:World}{K:Aa}{b1 b2:Bool}{elts:List Expr}{kk:Nat}{pos:Pos}{z TI TO i1 i2 a1 a2:Addr} (hA:ZipApart z TI TO i1 i2 a1 a2):Turn P w K (.Tuple elts kk pos) (aa6 b1 b2 K a1 a2) [z,TI,TO,i1,i2] z (fun i h=>kF b1 b2 h z TI TO i1 i2 a1 a2 .none i i) where
 mem:=by simp
 obj:=fun i h st b hb=>by
  simp only [Av,Bs,or_false] at hb;rcases hb with rfl | rfl | rfl | rfl | rfl
  ·exact⟨_,st.zip,fun v z=>by cases z⟩
  ·exact⟨_,st.ti,fun v z=>by cases z⟩
  ·obtain⟨_,_,e⟩:=st.to;exact⟨_,e,fun v z=>by cases z⟩
  ·exact st.it1.obj
  ·exact st.it2.obj
 keep:=fun i h h' st k=>⟨k z (by simp) _ st.zip,k TI (by simp) _ st.ti,let ⟨a,b,e⟩:=st.to;⟨a,b,k TO (by simp) _ e⟩,st.it1.move fun o e=>k i1 (by simp) _ e,st.it2.move fun o e=>k i2 (by simp) _ e⟩
 item:=by
  intro X hP hw hK hc i pins s σ H E I hf st hg;subst hP hw hK;obtain⟨xs,ys,x,y,hx,hy,gx,gy⟩:=hg;obtain⟨ar,rx,tx,_⟩:=I.XB hx;obtain⟨bN,ry,ty,_⟩:=I.XB hy;obtain⟨u,gu,ru⟩:=kZ rx gx;obtain⟨v,gv,rv⟩:=kZ ry gy;refine pV hA st tx ty (by simpa using gu) (by simpa using gv) fun h' zt np k=>?_;refine⟨_,rfl,?_⟩;show wpAny _ _ (load z >>= fun o=>_) _ _ _;refine Ab (wpAny_load zt.zip ?_);show wpAny _ _ (if ((["enumerate","zip","dict_itemiterator","dict_reverseitemiterator","odict_iterator","itertools.zip_longest","itertools.pairwise"].contains "zip"&&(some (rawInt s.heap.objs.size)==some (rawInt s.heap.objs.size)))=true) then (do rule "for.unpacks-the-owned-tuple";setField (.ref z) 0 .none) else pure ()) _ _ _;rw [if_pos (by rw [beq_self_eq_true];decide)];refine Ab (CF ?_);refine AZ zt.zip (show 0 < 5 by decide) fun h2 z2 b2=>?_;have lt:∀b∈[z,TI,TO,i1,i2],b < s.heap.objs.size:=fun b hb=>by
   simp only [Av,Bs,or_false] at hb;rcases hb with rfl | rfl | rfl | rfl | rfl
   ·exact Ao st.zip
   ·exact Ao st.ti
   ·obtain⟨_,_,e⟩:=st.to;exact Ao e
   ·obtain⟨o,e,_⟩:=st.it1.obj;exact Ao e
   ·obtain⟨o,e,_⟩:=st.it2.obj;exact Ao e
  have nz:s.heap.objs.size≠z:=fun e=>AX _ (by have:=lt z (by simp);rw [<- e] at this;exact this);have ZL:∀b o,b∉[z,TI,TO,i1,i2]->s.heap.get? b=some o->h2.get? b=some o:=fun b o hb e=>by
   have ID:b≠z:=fun q=>hb (by simp [q]);rw [b2.2 b ID];exact k b o ID (fun q=>hb (by simp [q])) (fun q=>hb (by simp [q])) (fun q=>hb (by simp [q])) e
  have ZD:h2.get? s.heap.objs.size=some {cls:=.type "tuple",data:=.seq #[u,v]}:=(b2.2 _ nz).trans np;have hfr:=I.bD.fresh (Am s.heap.objs.size);refine⟨.ref s.heap.objs.size,upd H s.heap.objs.size (.tup [x,y]),I.tm (t':=s.toks) hf ZL (Am _) ⟨by show 2<=sizeLine;decide,[u,v],.cons ru (.cons rv .nil),⟨_,ZD,rfl,_,rfl⟩⟩,rfl,⟨_,x,y,rfl,hfr,rfl,fun xs' h'=>?_,fun ys' h'=>?_⟩,⟨z2,(b2.2 _ hA.TIz).trans zt.ti,let ⟨p,q,e⟩:=zt.to;⟨p,q,(b2.2 _ hA.TOz).trans e⟩,zt.it1.move fun o e=>(b2.2 _ hA.i1z).trans e,zt.it2.move fun o e=>(b2.2 _ hA.i2z).trans e⟩,fun b hb=>?_⟩
  ·rw [I.JG h' hx];exact gx
  ·rw [I.JG h' hy];exact gy
  ·rw [av (AJ (lt b hb))];exact (hf b hb).1
 done:=by
  intro X hP hw hK hc i pins s σ H E I hf st hg;subst hP hw hK;obtain⟨xs,ys,hx,hy,hl⟩:=hg;obtain⟨ar,rx,tx,_⟩:=I.XB hx;obtain⟨bN,ry,ty,_⟩:=I.XB hy;have el:=rx.length;have el2:=ry.length;refine rG (I.ok.hd hc) hA st tx ty ?_ fun h' k=>⟨rfl,I.xN (t':=s.toks) hf fun b o hb e=>k b o (fun z=>hb (by simp [z])) (fun z=>hb (by simp [z])) (fun z=>hb (by simp [z])) (fun z=>hb (by simp [z])) e⟩;rcases hl with hl | hl
  ·exact .inl (by simp;omega)
  ·exact .inr (by simp;omega)
 self:=fun A i s Q E st h=>wpAny_pyIter_zip st.zip h
def ZU (K:Aa) (t1 t2:TE):TI:=fun σ H R=>t1 σ H fun x H1=>t2 σ H1 fun y H2=>∃b1 b2 a b,x=.ref a/\y=.ref b/\(∃xs,MR b1 K H2 a xs)/\(∃ys,MR b2 K H2 b ys)/\R (aa6 b1 b2 K a b) H2
def RA {X:Cx} (K:Aa) (hK:X.K=K) {e1 e2:Expr}{t1 t2:TE}{elts:List Expr}{kk:Nat}{tp p1 p2:Pos} (hg:Gl X "zip") (hm:X.mg "zip"=none) (h1:PE X e1 t1) (h2:PE X e2 t2)
  (GL:starEach [e1,e2] X.env=(false,eval e1 X.env)::starEach [e2] X.env:=by rfl) (sF:starEach [e2] X.env=(false,eval e2 X.env)::starEach [] X.env:=by rfl) (ef:(backTo p2 (starEach [e2] X.env)).any (·.1)=false:=by rfl) :
  PI X (.Tuple elts kk tp) (.Call (.Name "zip" p1) [e1,e2] [] p2) (ZU K t1 t2):=by
 subst hK;intro pins s σ H R I h;refine BN (jY I hg hm boot_zip ?_ (by decide) (by decide));refine Bb ?_ GL ef;rw [GL,sF];show wpAny _ _ (spliced ((false,eval e1 X.env)::(false,eval e2 X.env)::backTo p2 (starEach [] X.env))) _ _ s;refine B4 (bM (h1 pins s σ H _ I h) fun u1 s1 ⟨x,H1,I1,r1,q1⟩=>?_);refine B4 (bM (h2 pins s1 σ H1 _ I1 q1) fun u2 s2 ⟨y,H2,I2,r2,b1,b2,a,b,ex,ey,⟨xs,hx⟩,⟨ys,hy⟩,q⟩=>Cq ?_);subst ex;subst ey;cases r1;cases r2;obtain⟨ar,rx,tx,_⟩:=I2.XB hx;obtain⟨bN,ry,ty,_⟩:=I2.XB hy;have l1:a < s2.heap.objs.size:=tx.lt;have l2:b < s2.heap.objs.size:=ty.lt;refine Ml tx ty fun h' zt k=>?_;refine wpAny_pyIter_zip zt.zip ?_;have dd:∀i j:Nat,i≠j->s2.heap.objs.size+i≠s2.heap.objs.size+j:=fun i j n e=>n (Nat.add_left_cancel e);have na:∀i:Nat,a≠s2.heap.objs.size+i:=fun i=>AJ (Ax l1 (Br _ _));have nb:∀i:Nat,b≠s2.heap.objs.size+i:=fun i=>AJ (Ax l2 (Br _ _));have hA:ZipApart (s2.heap.objs.size+4) (s2.heap.objs.size+2) (s2.heap.objs.size+3) s2.heap.objs.size (s2.heap.objs.size+1) a b:=
  ⟨dd 2 4 (by decide),dd 3 4 (by decide),dd 0 4 (by decide),dd 1 4 (by decide),dd 2 3 (by decide),dd 2 0 (by decide),dd 2 1 (by decide),dd 3 0 (by decide),dd 3 1 (by decide),dd 0 1 (by decide),na 4,na 3,na 0,na 1,nb 4,nb 3,nb 0,nb 1⟩
 refine⟨_,_,_,_,H2,rfl,I2.kept (t':=s2.toks) k,K2 hA,zt,fun c hc=>?_,q⟩;have hle:s2.heap.objs.size<=c:=by
  simp only [Av,Bs,or_false] at hc;rcases hc with rfl | rfl | rfl | rfl | rfl
  ·exact Br _ _
  ·exact Br _ _
  ·exact Br _ _
  ·exact Am _
  ·exact Br _ _
 exact I2.zb hle (I2.bD.fresh hle)
section
variable {X:Cx}
def Y5 (K:Aa):V->Option Int->Option Int->Hp->VK->Prop:=fun x lo hi H Q=>∃a xs,x=.ref a/\dc K H a xs/\
 ((HT.dz xs.length 0 lo=0/\HT.dz xs.length xs.length hi=xs.length)->Q x H)/\(¬(HT.dz xs.length 0 lo=0/\HT.dz xs.length xs.length hi=xs.length)->nu H (.tup (zA xs lo hi)) Q)
def Rh (K:Aa) (hK:X.K=K):SlR X (Y5 K):=by
 subst hK;intro pins s σ H x v vl vu lo hi sl Q I rx hs pl pu h;obtain⟨a,xs,rfl,hT,qw,qn⟩:=h;by_cases c:HT.dz xs.length 0 lo=0/\HT.dz xs.length xs.length hi=xs.length
 ·have q:=qw c;cases rx;obtain⟨ar,r,ht,hz⟩:=I.tuple hT;have hlen:ar.toArray.size=xs.length:=by rw [Ag];exact r.length.symm
  refine⟨"tuple",_,Bc.lookup,ht.typeIs,?_⟩;obtain⟨os,MM,XQ,SH⟩:=id hs;have XT:s.TypeIs (.ref sl) "slice":=⟨os,MM,XQ⟩;unfold getItem
  try with_reducible refine Bi ?_
  first | refine Ab (Ah ?_) | skip
  refine Ab (DY ht.typeIs (by decide) ?_);refine Ab (AM (name:=B8 "__getitem__") ht.typeIs Bc
   (Bf Bc ht.typeIs entry_tuple_getitem ?_ (args_tuple_getitem _ _)))
  show wpAny _ _ (Builtin.Tuple.tupleItemsOf (.ref a) >>= _) _ _ s;refine Ab (tupleItemsOf_ ht ?_);refine Ab (B9 XT ?_);rw [if_pos (by decide)];refine Ab (HT.jk hs pl pu ?_);show wpAny _ _ (if (((HT.dz ar.toArray.size 0 lo:Nat):Int)==0&&(1:Int)==1&&(HT.dz ar.toArray.size ar.toArray.size hi-HT.dz ar.toArray.size 0 lo)==ar.toArray.size)=true then _ else _) _ _ s;rw [if_pos (by rw [hlen,c.1,c.2];simp)];refine Ab ?_;unfold Builtin.Tuple.tupleIsExact
  first
   | refine Ab (B9 ht.typeIs (Ah ?_))
   | refine B9 ht.typeIs (Ah ?_)
  first
   | rw [if_pos (by decide)]
   | rw [if_pos rfl]
  refine Ab (CF (Ah ⟨_,rfl,?_⟩));exact Ah ⟨.ref a,H,I,rfl,q⟩
 ·exact U5 pins s σ H _ v vl vu lo hi sl Q I rx hs pl pu ⟨a,xs,rfl,hT,c,fun p hp=>(qn c).at p hp⟩
def Ze (K:Aa):R2:=fun x y H Q=>∃a b xs ys,x=.ref a/\y=.ref b/\dc K H a xs/\dc K H b ys/\xs.length+ys.length<=sizeLine/\
 (xs=[]->Q (.ref b) H)/\(xs≠[]->ys=[]->Q (.ref a) H)/\(xs≠[]->ys≠[]->nu H (.tup (xs++ys)) Q)
def RM (K:Aa) (hK:X.K=K):jE X (binaryOp .Add) (Ze K):=by
 subst hK;intro pins s σ H x y v u Q I rx ry h;obtain⟨a,b,xs,ys,rfl,rfl,ha,hb,hz,q0,q1,q2⟩:=h;by_cases c:xs=[]
 ·cases rx;cases ry;obtain⟨ar,r1,p1,_⟩:=I.tuple ha;obtain⟨bN,r2,p2,_⟩:=I.tuple hb;obtain⟨⟨cls,dd,data,sl⟩,ho,hc,n,hd⟩:=id p1;obtain⟨⟨aaT,dd2,data2,XC⟩,QJ,Uv,n2,hd2⟩:=id p2;simp only at hc hd Uv hd2;subst hc hd Uv hd2;exact concat_meets ⟨_,ho,rfl⟩ ⟨_,QJ,rfl⟩ noFill_tuple_add seq_tuple_add CO CI (Cz _ _)
   (tuple_addW0 a b ar.toArray bN.toArray n n2 dd dd2 sl XC (by rw [r1.jU.mpr c];rfl)) ⟨ho,QJ,.ref b,H,I,rfl,q0 c⟩
 ·exact J0 pins s σ H _ _ v u Q I rx ry ⟨a,b,xs,ys,rfl,rfl,ha,hb,c,hz,q1 c,fun n p hp=>(q2 c n).at p hp⟩
end
end L2
namespace FL
section
open PySem PySem.Spec PyProof.Rows L2 PL
variable {K:Aa}
section
variable {X:Cx}{a b c e:Expr}{pos p p1 p2:Pos}{fs:aV}{w wa wb:W PV}{wl wm:W (List PV)}
def addW:PV->PV->W PV
 | .int i,.int j=>.ret (.int (i+j))
 | .str a,.str b=>.gs (a.length+b.length<=sizeLine) (.ret (.str (a++b)))
 | .tup a,.tup b=>.gs (a.length+b.length<=sizeLine) (.ret (.tup (a++b)))
 | _,_=>.fail
def bV (hK:X.K=K) (ha:EF X K fs a wa) (hb:EF X K fs b wb):EF X K fs (.BinOp a .Add b pos) (.bind wa fun x=>.bind wb fun y=>addW x y):=
 ⟨PE.imp (JT ((RO K hK).or (RM K hK)) ha.p hb.p) fun σ H Q ⟨sr,q⟩=>⟨sr,wa.mono (fun x q1 u1 H1 g1 s1 v1=>⟨s1,wb.mono (fun y q2 u2 H2 g2 s2 v2=>by
  have Yw:=g2.vr s1 v1;cases Yw with
  | int i=>
   cases v2 with
   | int j=>exact .inl ⟨_,rfl,q2 _ H2 (g1.trans g2) s2 (.int _)⟩
   | _=>exact q2.elim
  | str i=>
   cases v2 with
   | str j=>exact .inl ⟨_,rfl,q2.1,q2.2 _ H2 (g1.trans g2) s2 (.str _)⟩
   | _=>exact q2.elim
  | @tup p vs l e r=>
   cases v2 with
   | @tup p' QX l' e' r'=>
    have q2:(W.gs (l.length+l'.length<=sizeLine) (W.ret (PV.tup (l++l')))).run _:=q2;refine .inr ⟨p,p',vs,QX,rfl,rfl,dc.of e,dc.of e',by rw [r.length,r'.length];exact q2.1,fun z=>?_,fun _ z=>?_,fun _ _ q H3 s3 h3 n3=>?_⟩
    ·have z':=(PL.aH.jU r).mp z;subst z';exact q2.2 _ H2 (g1.trans g2) s2 (.tup e' r')
    ·have z':=(PL.aH.jU r').mp z;subst z';have q2:=q2.2;rw [Dv] at q2;exact q2 _ H2 (g1.trans g2) s2 (.tup e r)
    ·exact q2.2 _ H3 ((g1.trans g2).trans (cU.same s3)) (s2.same s3) (.tup h3 (aH.tk s3.fv (r.append r')))
   | _=>exact q2.elim
  | _=>exact q2.elim) q1⟩) q⟩⟩
theorem n5:∀(l m:List PV),(kS l m).length=min l.length m.length
 | [],m=>by rw [kS];simp;intros;simp_all
 | x::l,[]=>by rw [kS];simp;intros;simp_all
 | x::l,y::m=>by rw [kS,Aq,n5 l m];simp only [Aq];omega
def Hv (l m:List PV):W (List PV):=.gs (l.length<=sizeLine) (.ret (kS l m))
def T6 {H:Hp}{u:V}{l:List PV} (h:Xu K H u l):∃(b:Bool) (a:Addr) (vs:List V),u=.ref a/\aH K [] H vs l/\∀H',bq K H H'->MR b K H' a vs:=by
 obtain⟨a,vs,e,h | h,r⟩:=h
 ·exact⟨true,a,vs,e,r,fun H' t=>(t.f _ _ h).sq⟩
 ·exact⟨false,a,vs,e,r,fun H' t=>dc.of (t.t _ _ h)⟩
def Iz (hK:X.K=K) {elts:List Expr}{kk:Nat}{tp:Pos} (hg:Gl X "zip") (hm:X.mg "zip"=none) (ha:IF X K fs a wl) (hb:IF X K fs b wm)
  (GL:starEach [a,b] X.env=(false,eval a X.env)::starEach [b] X.env:=by rfl) (sF:starEach [b] X.env=(false,eval b X.env)::starEach [] X.env:=by rfl) (ef:(backTo p2 (starEach [b] X.env)).any (·.1)=false:=by rfl) :
  sR X K fs (.Tuple elts kk tp) (.Call (.Name "zip" p1) [a,b] [] p2) (.bind wl fun l=>.bind wm fun m=>Hv l m):=
 ⟨PI.imp (RA K hK hg hm ha.p hb.p GL sF ef) fun σ H R ⟨sr,q⟩=>⟨sr,wl.mono (fun l q1 u1 H1 g1 s1 v1=>⟨s1,wm.mono (fun m q2 u2 H2 g2 s2 v2=>by
  obtain⟨b1,a1,vs,rfl,r1,x1⟩:=T6 (v1.tk (g2.eT s1));obtain⟨b2,a2,ws,rfl,r2,x2⟩:=T6 v2;have tr:bq K H2 H2:=bq.refl H2;refine⟨b1,b2,a1,a2,rfl,rfl,⟨vs,x1 H2 tr⟩,⟨ws,x2 H2 tr⟩,q2.2 _ H2 (g1.trans g2) s2 ⟨by rw [n5];have:=q2.1;omega,fun H' t=>⟨fun i pp hp=>?_,vs,ws,x1 H' t,x2 H' t,?_⟩⟩⟩
  ·obtain⟨x,y,hx,hy,rfl⟩:=sV hp;obtain⟨v,h3,h4⟩:=(aH.tk t r1).get hx;obtain⟨v',L5,WH⟩:=(aH.tk t r2).get hy;refine⟨⟨vs,ws,v,v',x1 H' t,x2 H' t,h3,L5⟩,fun z H3 yl=>?_⟩;obtain⟨p,x',y',rfl,hn,rfl,e1,e2⟩:=yl;have e1:=e1 vs (x1 H' t);have e2:=e2 ws (x2 H' t);rw [h3] at e1;rw [L5] at e2;cases e1;cases e2;have sm:=lj hn (.tup [v,v']);exact⟨sm,.tup aM (.cons (VR.tk sm.fv h4) (.cons (VR.tk sm.fv WH) .nil))⟩
  ·rw [n5,r1.length,r2.length];omega) q1⟩) q⟩⟩
variable {el eh:Option Expr}{lo hi:W (Option Int)}
def Lb (x:PV) (i j:Option Int):W PV:=match x with
 | .tup l=>.ret (.tup (ph l i j))
 | _=>.fail
def Mk {l:List PV}{i j:Option Int} (h:HT.dz l.length 0 i=0/\HT.dz l.length l.length j=l.length):ph l i j=l:=by
 unfold ph;rw [h.1,h.2];simp
def Kw (hK:X.K=K) (he:EF X K fs e w) (hl:OF X K fs el lo) (hh:OF X K fs eh hi):EF X K fs (.Subscript e (.Slice el eh none p2) pos) (.bind w fun x=>.bind lo fun i=>.bind hi fun j=>Lb x i j):=⟨PE.imp (NS (Rh K hK) he.p hl.p hh.p) fun σ H Q ⟨sr,q⟩=>⟨sr,w.mono (fun x q1 u1 H1 g1 s1 v1=>⟨s1,lo.mono (fun i q2 H2 g2 s2=>⟨s2,hi.mono (fun j q3 H3 g3 s3=>by
 have Yw:=g3.vr s2 (g2.vr s1 v1);have gg:=(g1.trans g2).trans g3;cases Yw with
 | @tup p vs l e r=>
  have hlen:=r.length;refine⟨p,vs,rfl,dc.of e,fun c=>?_,fun c q H4 s4 h4 n4=>?_⟩
  ·rw [hlen] at c;have q3:(W.ret (PV.tup (ph l i j))).run _:=q3;rw [Mk c] at q3;exact q3 _ H3 gg s3 (.tup e r)
  ·exact q3 _ H4 (gg.trans (cU.same s4)) (s3.same s4) (.tup h4 (aH.tk s4.fv (r.cut i j)))
 | _=>exact q3.elim) q2⟩) q1⟩) q⟩⟩
end
end
end FL
namespace L2
section
open PySem PySem.Spec PyProof.Rows
variable {X:Cx}
def NA (K:Aa) (C:List Int->Prop) (g:List Int->Int):List V->Hp->VK->Prop:=fun xs H Q=>∃(p:Addr) (ns:List Int),xs=[.ref p]/\cT K H p (ns.map V.int)/\C ns/\Q (.int (g ns)) H
section
variable {prog:Program}{w:World}{A:Around}{E:Value->Shared->Prop}{s:Shared}
def wJ {l:Addr}{vs:List Value}{ns:List Int}{Q:Value->Shared->Prop} (hh:A.handled=none) (hl:s.heap.IsList l vs.toArray) (hi:IntsAre vs ns)
  (h:∀(h':Heap) (t:Tok) tk,(∀b o,s.heap.get? b=some o->h'.get? b=some o)->Q (.int ns.sum t) {s with heap:=h',toks:=tk}):wpAny (model prog w) A (call (.builtin "sum") [.ref l]) Q E s:=by
 obtain⟨xs,e⟩:=hi.allInts.items;have XM:ns=xs.toList.map (·.1):=by rw [<- hi.numsOf,<- nums_intItems,<- e]
 rw [e] at hl;refine sum_intListG hh hl fun h' tk t' hk=>?_;have:=h h' t' tk hk;rw [preSum_eq,BC (by simp),<- XM];exact this
end
def Ms {b:String}{C:List Int->Prop}{g:List Int->Int} (K:Aa) (hK:X.K=K) (hc:X.calm=true)
  (core:∀{s:Shared}{l:Addr}{vs:List Value}{ns:List Int}{Q:Value->Shared->Prop},X.A.handled=none->s.heap.IsList l vs.toArray->IntsAre vs ns->C ns->(∀(h':Heap) (t:Tok) tk,(∀b o,s.heap.get? b=some o->h'.get? b=some o)->Q (.int (g ns) t) {s with heap:=h',toks:=tk})->wpAny (model X.prog X.w) X.A (call (.builtin b) [.ref l]) Q X.xe s):bL X (.builtin b) (NA K C g):=by
 subst hK;intro pins s σ H xs us Q I r h;obtain⟨p,ns,rfl,hq,hC,q⟩:=h;obtain⟨u,rfl,rx⟩:=vals1 r;cases rx;obtain⟨ar,r',pl,hz⟩:=I.list hq;exact core (I.ok.hd hc) pl.isList (intsAre_of r') hC fun h' t tk hk=>⟨.int _,H,I.kept (t':=tk) hk,⟨t,rfl⟩,q⟩
end
end L2
namespace FL
section
open PySem PySem.Spec PyProof.Rows L2 PL
variable {K:Aa}
section
variable {X:Cx}{pins:List (Addr×Obj)}{σ:L2.St}{H:Hp}{s:Shared}
open Classical in
noncomputable def Hu (K:Aa) (H:Hp) (x:PV) (w:Value):Bool:=decide (∃p v,RelV v w/\VR K [] H v p/\dr p x=true)
open Classical in
def Pr (hK:X.K=K) (I:Inv X pins σ H s) {x p:PV}{v:V}{w:Value} (r:RelV v w) (h:VR K [] H v p):Hu K H x w=dr p x:=by
 subst hK;unfold Hu;cases e:dr p x with
 | true=>exact decide_eq_true ⟨p,v,r,h,e⟩
 | false=>
  refine decide_eq_false ?_;rintro⟨p',v',r',h',e'⟩;have:=Nt r r';subst this;rw [VR.QN I h h',e'] at e;cases e
theorem sL (hK:X.K=K) (I:Inv X pins σ H s) {x:PV}:∀{vs:List V}{ar:List Value}{l:List PV},Vals vs ar->aH K [] H vs l->ar.map (Hu K H x)=l.map fun y=>dr y x
 | _,_,_,.nil,.nil=>rfl
 | _,_,_,.cons r t,.cons q z=>by rw [Au,Au,Pr hK I r q,sL hK I t z]
def OQ (x:PV) (l:List PV):Prop:=PV.eM x=true/\fU l=true/\dY l<=150
theorem qD (hK:X.K=K) (I:Inv X pins σ H s) {A:Around}{x:PV}{v:V}{w:Value} (hx:VR K [] H v x) (rx:RelV v w) (dx:PV.eM x=true) (hu:A.units+150+1 < cLine) :
  ∀{vs:List V}{ar:List Value}{l:List PV},Vals vs ar->aH K [] H vs l->fU l=true->dY l<=150->∀u∈ar,Fh A s u w (Hu K H x u)
 | _,_,_,.nil,.nil,_,_,u,hu=>by cases hu
 | _,_,_,.cons r t,.cons q z,d,dd,u,hm=>by
  rw [fU,AE] at d;rw [dY] at dd;rcases Av.mp hm with rfl | hm
  ·rw [Pr hK I r q];exact (Xi hK I 150 _ x A _ v _ w (by omega) d.1 dx q hx r rx hu).eq
  ·exact qD hK I hx rx dx hu t z d.2 (by omega) u hm
end
def wg (x:PV) (l:List PV):Bool:=l.any fun y=>dr y x
def Vl (K:Aa) (neg:Bool):R2:=fun x y H Q=>∃p vs l xp,y=.ref p/\(cT K H p vs\/dc K H p vs)/\aH K [] H vs l/\VR K [] H x xp/\OQ xp l/\Q (.bl (if neg then !wg xp l else wg xp l)) H
section
variable {X:Cx}
theorem any_map' {α:Type} (f:α->Bool):∀l:List α,l.any f=(l.map f).any id
 | []=>rfl
 | x::l=>by rw [Ce,Au,Ce,any_map' f l];rfl
def acX (K:Aa) (hK:X.K=K) (hu:X.A.units+200 < cLine):jE X (compareOp .In) (Vl K false):=by
 intro pins s σ H x y v u Q I rx ry h;obtain⟨p,vs,l,xp,rfl,hq,hl,hx,ok,q⟩:=h;cases ry;have Ww:X.A.in1.units+150+1 < cLine:=by show X.A.units+1+150+1 < _;omega
 have q:Q (.bl (wg xp l)) H:=q;have fin:∀{ar:List Value},Vals vs ar->ar.toArray.any (Hu K H xp)=wg xp l:=fun {ar} r=>by
  rw [show ar.toArray.any (Hu K H xp)=ar.any (Hu K H xp) by simp,any_map',sL hK I r hl,<- any_map'];rfl
 rcases hq with hq | hq
 ·obtain⟨ar,r,pl,hz⟩:=I.list (show cT X.K H p vs by rw [hK];exact hq);refine SeqAt.in_listAt (Hu K H xp) pl.isList (fun w hw=>qD hK I hx rx ok.1 Ww r hl ok.2.1 ok.2.2 w (by simpa using hw)) ⟨.bl _,H,I,rfl,?_⟩;rw [fin r];exact q
 ·obtain⟨ar,r,pl,hz⟩:=I.tuple (show dc X.K H p vs by rw [hK];exact hq);refine SeqAt.in_tupleAt (Hu K H xp) pl (fun w hw=>qD hK I hx rx ok.1 Ww r hl ok.2.1 ok.2.2 w (by simpa using hw)) ⟨.bl _,H,I,rfl,?_⟩;rw [fin r];exact q
def RJ (K:Aa) (hK:X.K=K) (hu:X.A.units+200 < cLine):jE X (compareOp .NotIn) (Vl K true):=by
 intro pins s σ H x y v u Q I rx ry h;obtain⟨p,vs,l,xp,rfl,hq,hl,hx,ok,q⟩:=h;cases ry;have Ww:X.A.in1.units+150+1 < cLine:=by show X.A.units+1+150+1 < _;omega
 have q:Q (.bl (!wg xp l)) H:=q;have fin:∀{ar:List Value},Vals vs ar->ar.toArray.any (Hu K H xp)=wg xp l:=fun {ar} r=>by
  rw [show ar.toArray.any (Hu K H xp)=ar.any (Hu K H xp) by simp,any_map',sL hK I r hl,<- any_map'];rfl
 rcases hq with hq | hq
 ·obtain⟨ar,r,pl,hz⟩:=I.list (show cT X.K H p vs by rw [hK];exact hq);refine SeqAt.notIn_listAt (Hu K H xp) pl.isList (fun w hw=>qD hK I hx rx ok.1 Ww r hl ok.2.1 ok.2.2 w (by simpa using hw)) ⟨.bl _,H,I,rfl,?_⟩;rw [fin r];exact q
 ·obtain⟨ar,r,pl,hz⟩:=I.tuple (show dc X.K H p vs by rw [hK];exact hq);refine SeqAt.notIn_tupleAt (Hu K H xp) pl (fun w hw=>qD hK I hx rx ok.1 Ww r hl ok.2.1 ok.2.2 w (by simpa using hw)) ⟨.bl _,H,I,rfl,?_⟩;rw [fin r];exact q
def Xg (x:PV) (l:List PV):Nat:=l.countP fun y=>dr y x
theorem countP_map {α:Type} (f:α->Bool):∀l:List α,l.countP f=(l.map f).countP id
 | []=>rfl
 | x::l=>by rw [Au,C9,C9,countP_map f l];rfl
def Zd (K:Aa):V->List V->Hp->VK->Prop:=fun x us H Q=>∃p vs l y q,x=.ref p/\us=[y]/\cT K H p vs/\aH K [] H vs l/\VR K [] H y q/\OQ q l/\Q (.int (Xg q l)) H
def R4 (K:Aa) (hK:X.K=K) (hu:X.A.units+200 < cLine):MB X "list.count" (Zd K):=by
 intro pins s σ H x vs v us Q I rx rv h;obtain⟨p,ws,l,y,q,rfl,rfl,hq,hl,hy,ok,qq⟩:=h;cases rx;obtain⟨u,rfl,ru⟩:=rv.one;have Ww:X.A.in1.units+150+1 < cLine:=by show X.A.units+1+150+1 < _;omega
 obtain⟨ar,r,⟨⟨cls,dd,data,sl⟩,n,ho,hc,hd,lK⟩,hz⟩:=I.list (show cT X.K H p ws by rw [hK];exact hq);simp only at hc hd lK;subst hc hd lK;refine call_meets F.slot_list_count ⟨_,ho,rfl⟩ F.entry_list_count (F.args_list_count_2 _ _) (SeqAt.list_countAt p ar.toArray n none sl u (Hu K H q)) ⟨ho,?_,?_⟩
 ·intro w hw;exact qD hK I hy ru ok.1 Ww r hl ok.2.1 ok.2.2 w (by simpa using hw)
 ·refine⟨.int _,H,I.tok _,⟨s.toks,?_⟩,qq⟩;show C2 ((ar.toArray.toList.countP (Hu K H q):Nat):Int) s.toks=_;rw [show ar.toArray.toList=ar from rfl,countP_map,sL hK I r hl,<- countP_map];rfl
end
end
section
open PySem PySem.Spec PyProof.Rows L2 PL
variable {K:Aa}
section
variable {X:Cx}{a b c e o:Expr}{pos p apos bo:Pos}{fs:aV}{w wa:W PV}{wl:W (List PV)}
def OP (neg:Bool) (x:PV) (l:List PV):W Bool:=.gs (OQ x l) (.ret (if neg then !wg x l else wg x l))
def WS {neg:Bool}:∀σ H Q,fT K fs (.bind wa fun x=>.bind wl fun l=>OP neg x l) σ H Q->U0 (Vl K neg) (fE K fs wa) (fQ K fs wl) σ H fun x H'=>∃k,x=.bl k/\Q k H':=fun σ H Q ⟨sr,q⟩=>
 ⟨sr,wa.mono (fun x q1 u1 H1 g1 s1 v1=>⟨s1,wl.mono (fun l q2 u2 H2 g2 s2 v2=>by
  obtain⟨ad,vs,rfl,h,rs⟩:=v2.sq s2;exact⟨ad,vs,l,x,rfl,h,rs,g2.vr s1 v1,q2.1,_,rfl,q2.2 H2 (g1.trans g2) s2⟩) q1⟩) q⟩
def xT (hK:X.K=K) (hu:X.A.units+200 < cLine) (ha:EF X K fs a wa) (hb:QF X K fs b wl) (hk:behindInMarks .NotIn b=false:=by rfl):TF X K fs (.Compare a [.NotIn] [b] pos) (.bind wa fun x=>.bind wl fun l=>OP true x l):=⟨PT.imp (sg (RJ K hK hu) ha.p hb.p hk) (WS (neg:=true))⟩
abbrev Sx (neg:Bool) (wa:W PV) (wl:W (List PV)):W Bool:=.bind wa fun x=>.bind wl fun l=>OP neg x l
def og (l:List PV):W PV:=.bind (qW l) fun ns=>.ret (.int ns.sum)
def LY {C:List Int->Prop}{g:List Int->Int}{f:List PV->W PV} (hf:∀{l:List PV}{Q:PV->Prop},(f l).run Q->∃ns:List Int,l=ns.map PV.int/\C ns/\Q (.int (g ns))):∀σ H Q,fE K fs (.bind wl f) σ H Q->tCB (NA K C g) (T4 (fQL K fs wl) YG) σ H Q:=fun σ H Q ⟨sr,q⟩=>⟨sr,wl.mono (fun l q1 u1 H1 g1 s1 _ v1=>by
 obtain⟨ns,el,hC,q2⟩:=hf q1;obtain⟨a,vs,rfl,h1,r1⟩:=v1 H1 .refl s1;rw [el] at r1;have:=j5 r1;subst this;exact⟨a,ns,rfl,h1,hC,q2 _ H1 g1 s1 (.int _)⟩) q⟩
def wK {l:List PV}{Q:PV->Prop} (h:(og l).run Q):∃ns:List Int,l=ns.map PV.int/\True/\Q (.int ns.sum):=let ⟨ns,e,q⟩:=mw h;⟨ns,e,trivial,q⟩
def Px (hK:X.K=K) (hc:X.calm=true) (hg:Gl X "sum") (hm:X.mg "sum"=none) (ha:Hh X K fs e wl) (he:starEach [e] X.env=(false,eval e X.env)::starEach [] X.env:=by rfl) (ef:(backTo pos (starEach [] X.env)).any (·.1)=false:=by rfl):EF X K fs (.Call (.Name "sum" p) [e] [] pos) (.bind wl og):=⟨PE.imp (e7 (Ms (C:=fun _=>True) (g:=fun ns=>ns.sum) K hK hc fun a b c _ q=>wJ a b c q) hg hm (show bootBuiltins "sum"=some (.builtin "sum") by rfl) (bc ha.p cE he) (by decide) (by decide) he ef) (LY wK)⟩
def sortI (ns:List Int):List Int:=ns.mergeSort (fun a b=>decide (a<=b))
def Nf {ms ns:List Int} (h1:ms.Perm ns) (h2:ms.Pairwise (·<=·)):ms=sortI ns:=by
 have h3:(sortI ns).Perm ns:=Cy ns _;have h4:(sortI ns).Pairwise (fun a b=>decide (a<=b)=true):=Ee (fun a b c=>by simp;omega) (fun a b=>by simp;omega) ns;exact List.Perm.eq_of_pairwise (le:=fun a b=>a<=b) (fun a b _ _ h h'=>Int.le_antisymm h h') h2 (h4.imp (by simp)) (h1.trans h3.symm)
def xZ (l:List PV):W (List PV):=.bind (qW l) fun ns=>.gs (ns.length < 64) (.ret ((sortI ns).map PV.int))
def Sb (hK:X.K=K) (hg:Gl X "sorted") (hm:X.mg "sorted"=none) (ha:Hh X K fs e wl) (he:starEach [e] X.env=(false,eval e X.env)::starEach [] X.env:=by rfl) (ef:(backTo pos (starEach [] X.env)).any (·.1)=false:=by rfl):LF X K fs (.Call (.Name "sorted" p) [e] [] pos) (.bind wl xZ):=⟨PE.imp (e7 (IZ K hK) hg hm boot_sorted (bc ha.p cE he) (by decide) (by decide) he ef) fun σ H Q ⟨sr,q⟩=>⟨sr,wl.mono (fun l q1 u1 H1 g1 s1 _ v1=>by
 obtain⟨ns,el,hC,q2⟩:=mw (l:=l) q1;obtain⟨a,vs,rfl,h1,r1⟩:=v1 H1 .refl s1;rw [el] at r1;have:=j5 r1;subst this;refine⟨a,ns,rfl,h1,hC,fun ms a2 a3=>?_⟩;rw [Nf a2 a3];exact N8 g1 s1 (oT _ _ _) q2) q⟩⟩
def Tb (l:List PV) (x:PV):W PV:=.gs (OQ x l) (.ret (.int (Xg x l)))
def S6 (hK:X.K=K) (hu:X.A.units+200 < cLine) (ho:Hh X K fs o wl) (he:EF X K fs e w)
  (fg:attributeBase o "count" X.env (eval o X.env)=eval o X.env:=by rfl)
  (qt:((backTo bo (starEach [e] X.env)).all (fun x=>!x.1)&&(backToKw bo (keywordEach [] X.env)).all (fun x=>x.1.isSome)
   && decide ([e].length+([]:List Keyword).length+(if ([]:List Keyword).isEmpty then 0 else 1) < 30))=true:=by rfl)
  (fe:(apos.endLine==bo.line)=true:=by rfl) (xc:starEach [e] X.env=(false,eval e X.env)::starEach [] X.env:=by rfl) (fP:(backTo bo (starEach [] X.env)).any (·.1)=false:=by rfl) :
  EF X K fs (.Call (.Attribute o "count" apos) [e] [] bo) (.bind wl fun l=>.bind w fun x=>Tb l x):=
 ⟨PE.imp (tS K hK Bz PySem.F.slot_list_count PySem.F.type_list_count (R4 K hK hu) ho.p (bc he.p cE xc) fg qt fe xc fP) fun σ H Q ⟨sr,q⟩=>⟨sr,wl.mono (fun l q1 u1 H1 g1 s1 _ v1=>by
  obtain⟨a,vs,eu,h1,_⟩:=v1 H1 .refl s1;subst eu;refine⟨.inl ⟨rfl,_,h1⟩,s1,w.mono (fun x q2 u2 H2 g2 s2 v2=>?_) q1⟩
  ·obtain⟨a',vs,ea,h2,r2⟩:=v1 H2 g2 s2;cases ea;exact⟨a,vs,l,u2,x,rfl,rfl,h2,r2,v2,q2.1,q2.2 _ H2 (g1.trans g2) s2 (.int _)⟩) q⟩⟩
end
end
section
open PySem PySem.Spec PyProof.Rows L2 PL
variable {K:Aa}
section
variable {X:Cx}{e:Expr}{rest:List Stmt}{pos p apos bo ft:Pos}{fs:aV}{T:Type}{out:T->End}{x:Bool}{we wi wa wb:W PV}{wl:W (List PV)}{q0:Option Addr}{l:List PV}{y:Str}
def Wo (l:List PV):PV->W PV
 | .int k=>.gs (0<=k/\k < 1000) (.yt l[k.toNat]?)
 | _=>.fail
def SF.aei (i:Nat) {ei:Expr}{op:Operator}{ti:Tw}{M:M2}{k:List PV->W T} (hs:fs[i]?=some (some (.ol q0 l))) (hK:X.K=K) (hN:X.N[i]?=some y) (hv:xw X.env.scope y) (hi:EF X K fs ei wi) (he:EF X K fs e we) (ho:X8 X op ti) (hM:M2.Ok K ti M) (hr:∀l',SF X K x (fs.set i (some (.ol q0 l'))) rest (k l') out)
  (hd:(y==("__debug__":Str))=false:=by decide) (iW:(y==("__classdict__":Str))=false:=by decide)
  (ha:∀ov iv new,augStore ei ov iv new=(do holding [new,ov,iv] (setItem ov iv new);release [new,ov,iv] [];pure .next):=by intros;rfl) :
  SF X K x fs (.AugAssign (.Subscript (.Name y p) ei ft) op e pos::rest) (.bind wi fun n=>.bind (Wo l n) fun g=>.bind we fun v=>.bind (of2 M g v) fun r=>.bind (jm l n r) k) out:=
 SF.step (JQ (dg hN hv hd iW) hi.p (O8 K hK) he.p ho pT ha) fun D σ H ⟨sr,q⟩=>by
  obtain⟨a,ws,e1,h1,r1⟩:=c8 sr hs;refine⟨_,e1,sr,wi.mono (fun n q1 u1 H1 g1 s1 v1=>?_) q⟩;obtain⟨a',ws1,mK,iX,Fx⟩:=c8 s1 hs;rw [e1] at mK;cases mK;cases v1 with
  | int kk=>
   have q1:(0<=kk/\kk < 1000)/\(W.yt l[kk.toNat]?).run _:=q1;obtain⟨⟨b1,b2⟩,q1⟩:=q1;cases hg:l[kk.toNat]? with
   | none=>rw [hg] at q1;exact q1.elim
   | some g=>
    rw [hg] at q1;obtain⟨u,hu,ru⟩:=Fx.get hg;refine⟨a,ws1,kk,u,rfl,rfl,cT.of iX,b1,b2,hu,s1,we.mono (fun v q2 u2 H2 g2 s2 v2=>?_) q1⟩;refine yu hM s2 (g2.vr s1 ru) v2 ((of2 M g v).mono (fun r q3 u3 H3 g3 s3 v3=>?_) q2);obtain⟨a',Yu,PN,L5,NF⟩:=c8 s3 hs;rw [e1] at PN;cases PN;have q3:(match qV l.length kk with | some j=>W.ret (l.set j r) | none=>W.fail).run _:=q3;cases hj:qV l.length kk with
    | none=>rw [hj] at q3;exact q3.elim
    | some j=>
     rw [hj] at q3;refine⟨a,Yu,kk,j,rfl,rfl,L5,by rw [NF.length];exact hj,fun H4 sx h4=>?_⟩;obtain⟨s4,g4⟩:=jS s3 hs e1 sx h4 (NF.set v3 j);exact⟨_,k _,hr _,s4,(k _).mono (fun t q4=>q4.go (((g1.trans g2).trans g3).f.trans g4) sr s4) q3⟩
  | _=>exact q1.elim
def Rg (l:List PV) (i j:PV) (m:List PV):W (List PV):=match i,j with
 | .int a,.int c=>.gs (0<=a/\a<=c/\c<=l.length/\l.length+m.length<=sizeLine) (.ret (l.take a.toNat++m++l.drop c.toNat))
 | _,_=>.fail
def SF.YV (i:Nat) {lo hi:Expr}{p2:Pos}{k:List PV->W T} (hs:fs[i]?=some (some (.ol q0 l))) (hN:X.N[i]?=some y) (hv:xw X.env.scope y) (he:LF X K fs e wl) (hl:EF X K fs lo wa) (hh:EF X K fs hi wb) (hr:∀l',SF X K x (fs.set i (some (.ol q0 l'))) rest (k l') out)
  (ha:∀v,assign (.Subscript (.Name y p) (.Slice (some lo) (some hi) none p2) ft) X.env v=(do
   let ov <- holding [v] (eval (.Name y p) X.env)
   let iv <- holding [v,ov] (eval (.Slice (some lo) (some hi) none p2) X.env)
   standAt ft
   holding [v,ov,iv] (setItem ov iv v)
   release [iv,v,ov] []):=by intro _;rfl)
  (hd:(y==("__debug__":Str))=false:=by decide) (iW:(y==("__classdict__":Str))=false:=by decide)
  (Z4:swapsWithSole [.Subscript (.Name y p) (.Slice (some lo) (some hi) none p2) ft] e pos.line X.env=pure false:=by rfl) (hw:swappedStores [.Subscript (.Name y p) (.Slice (some lo) (some hi) none p2) ft] e X.env=pure none:=by rfl)
  (h1:(assignEach [.Subscript (.Name y p) (.Slice (some lo) (some hi) none p2) ft] X.env).map (·.2)=[assign (.Subscript (.Name y p) (.Slice (some lo) (some hi) none p2) ft) X.env]:=by rfl) :
  SF X K x fs (.Assign [.Subscript (.Name y p) (.Slice (some lo) (some hi) none p2) ft] e pos::rest) (.bind wl fun m=>.bind wa fun a=>.bind wb fun b=>.bind (Rg l a b m) k) out:=
 SF.step (yi he.p (NR (dg hN hv hd iW) hl.p hh.p ha) Z4 hw h1) fun D σ H ⟨sr,q⟩=>by
  refine⟨sr,wl.mono (fun m q1 b vb H1 g1 s1 nb eb rb=>?_) q⟩;obtain⟨a,ws,e1,h1,r1⟩:=c8 s1 hs;refine⟨_,e1,s1,wa.mono (fun i1 q2 u2 H2 g2 s2 v2=>⟨s2,wb.mono (fun j1 q3 u3 H3 g3 s3 v3=>?_) q2⟩) q1⟩;obtain⟨a',Yu,PN,L5,NF⟩:=c8 s3 hs;rw [e1] at PN;cases PN;have v2':=g3.vr s2 v2;have no:¬da σ fs b:=sr.noOwn nb;have eb3:=(g2.trans g3).qT eb no;have rb3:=(g2.trans g3).MD s1 rb;have ne:a≠b:=fun z=>no ⟨i,_,a,hs,rfl,e1,.inl z.symm⟩;cases v2' with
  | int aa=>
   cases v3 with
   | int cc=>
    have q3:(0<=aa/\aa<=cc/\cc<=l.length/\l.length+m.length<=sizeLine)/\(k (l.take aa.toNat++m++l.drop cc.toNat)).run _:=q3;obtain⟨⟨c1,c2,c3,c4⟩,q3⟩:=q3;refine⟨a,b,Yu,vb,aa,cc,rfl,rfl,rfl,rfl,L5,eb3,ne,c1,c2,by rw [NF.length];exact c3,by rw [NF.length,rb3.length];exact c4,?_⟩;have sx:rg a H3 (upd H3 a (.lst (Yu.take aa.toNat++vb++Yu.drop cc.toNat))):=fun z o n hz=>by rw [av n];exact hz
    obtain⟨s4,g4⟩:=jS s3 hs e1 sx aM (((NF.take aa.toNat).append rb3).append (NF.drop cc.toNat));exact⟨_,k _,hr _,s4,(k _).mono (fun t q4=>q4.go (((g1.trans g2).trans g3).f.trans g4) sr s4) q3⟩
   | _=>exact q3.elim
  | _=>exact q3.elim
def Ve (l:List PV) (v:PV):W (List PV):=match v with
 | .int k=>.bind (qW l) fun ns=>.gs (k∈ns) (.ret ((ns.erase k).map PV.int))
 | _=>.fail
theorem SF.remove (i:Nat) {k:List PV->W T} (hs:fs[i]?=some (some (.ol q0 l))) (hK:X.K=K) (hN:X.N[i]?=some y) (hv:xw X.env.scope y) (he:EF X K fs e we) (hr:∀l',SF X K x (fs.set i (some (.ol q0 l'))) rest (k l') out)
  (hd:(y==("__debug__":Str))=false:=by decide) (iW:(y==("__classdict__":Str))=false:=by decide) (fg:attributeBase (.Name y p) "remove" X.env (eval (.Name y p) X.env)=eval (.Name y p) X.env:=by rfl)
  (qt:((backTo bo (starEach [e] X.env)).all (fun x=>!x.1)&&(backToKw bo (keywordEach [] X.env)).all (fun x=>x.1.isSome)
   && decide ([e].length+([]:List Keyword).length+(if ([]:List Keyword).isEmpty then 0 else 1) < 30))=true:=by rfl)
  (fe:(apos.endLine==bo.line)=true:=by rfl) (xc:starEach [e] X.env=(false,eval e X.env)::starEach [] X.env:=by rfl) (fP:(backTo bo (starEach [] X.env)).any (·.1)=false:=by rfl)
  (uy:swapsWith (.Call (.Attribute (.Name y p) "remove" apos) [e] [] bo) none pos.line X.env=pure false:=by rfl) :
  SF X K x fs (.Expr (.Call (.Attribute (.Name y p) "remove" apos) [e] [] bo) pos::rest) (.bind we fun v=>.bind (Ve l v) k) out:=
 SF.step (oo (tS K hK Bz PySem.F.slot_list_remove PySem.F.type_list_remove HY (dg hN hv hd iW) (bc he.p cE xc) fg qt fe xc fP) uy) fun D σ H ⟨sr,q⟩=>by
  obtain⟨a,ws,e1,h1,r1⟩:=c8 sr hs;refine⟨_,e1,.inl ⟨rfl,_,cT.of h1⟩,sr,we.mono (fun v q1 u H1 g1 s1 v1=>?_) q⟩;obtain⟨a',sY,mK,iX,Fx⟩:=c8 s1 hs;rw [e1] at mK;cases mK;cases v1 with
  | int kk=>
   obtain⟨ns,el,hk,q2⟩:=mw (l:=l) q1;subst el;have:=j5 Fx;subst this;refine⟨a,ns,kk,rfl,rfl,iX,hk,fun H2 sx h2=>?_⟩;obtain⟨s2,g2⟩:=jS s1 hs e1 sx h2 (oT _ _ (ns.erase kk));exact⟨_,k _,hr _,s2,(k _).mono (fun t q3=>q3.go (g1.f.trans g2) sr s2) q2⟩
  | _=>exact q1.elim
end
end
section
open PySem PySem.Spec PyProof.Rows L2 PL
variable {K:Aa}
abbrev w2 (f:PV->PV->W PV) (wa wb:W PV):W PV:=.bind wa fun x=>.bind wb fun y=>f x y
def ur:PV->W Key
 | .int i=>.ret (.inl i)
 | .str s=>.ret (.inr s)
 | _=>.fail
def wd (kvs:List (Key×PV)) (k:Key):Bool:=kvs.any fun kv=>decide (kv.1=k)
def eU (kvs:List (Key×PV)) (k:Key):Option PV:=(kvs.find? fun kv=>decide (kv.1=k)).map (·.2)
def HL (kvs:List (Key×PV)) (k:Key) (v:PV):List (Key×PV):=if wd kvs k=true then kvs.map (fun kv=>if kv.1=k then (kv.1,v) else kv) else kvs++[(k,v)]
def cW (K:Aa) (H:Hp) (vs:List (Key×V)) (kvs:List (Key×PV)):Prop:=vs.map (·.1)=kvs.map (·.1)/\aH K [] H (vs.map (·.2)) (kvs.map (·.2))
section
variable {H:Hp}
def cW.cons_inv {p:Key×V}{vs:List (Key×V)}{q:Key×PV}{kvs:List (Key×PV)} (h:cW K H (p::vs) (q::kvs)):p.1=q.1/\VR K [] H p.2 q.2/\cW K H vs kvs:=by
 obtain⟨h1,h2⟩:=h;rw [Au,Au] at h1 h2;injection h1 with a b;cases h2 with
 | cons r t=>exact⟨a,r,b,t⟩
def cW.mk {p:Key×V}{vs:List (Key×V)}{q:Key×PV}{kvs:List (Key×PV)} (e:p.1=q.1) (r:VR K [] H p.2 q.2) (h:cW K H vs kvs):cW K H (p::vs) (q::kvs):=⟨by rw [Au,Au,e,h.1],.cons r h.2⟩
theorem cW.ind {C:List (Key×V)->List (Key×PV)->Prop} (h0:C [] []) (h1:∀p q vs kvs,p.1=q.1->VR K [] H p.2 q.2->cW K H vs kvs->C vs kvs->C (p::vs) (q::kvs)):∀{vs kvs},cW K H vs kvs->C vs kvs
 | [],[],_=>h0
 | [],_::_,h=>by simp [cW] at h
 | _::_,[],h=>by simp [cW] at h
 | p::vs,q::kvs,h=>let ⟨a,b,c⟩:=h.cons_inv;h1 p q vs kvs a b c (cW.ind h0 h1 c)
def cW.has {vs:List (Key×V)}{kvs:List (Key×PV)} (h:cW K H vs kvs) (k:Key):(iP vs k).isSome=wd kvs k:=by
 rw [<- n8];unfold wd;refine cW.ind (C:=fun vs kvs=>(vs.any fun kv=>decide (kv.1=k))=kvs.any fun kv=>decide (kv.1=k)) rfl (fun p q vs kvs e _ _ ih=>?_) h;rw [Ce,Ce,ih,e]
def cW.get {vs:List (Key×V)}{kvs:List (Key×PV)} (h:cW K H vs kvs) (k:Key) {v:PV} (g:eU kvs k=some v):∃u,iP vs k=some u/\VR K [] H u v:=by
 refine cW.ind (C:=fun vs kvs=>eU kvs k=some v->∃u,iP vs k=some u/\VR K [] H u v) (fun g=>by simp [eU] at g) (fun p q vs kvs e r _ ih g=>?_) h g;by_cases c:p.1=k
 ·rw [k6 c];have c':q.1=k:=e▸c;have:eU (q::kvs) k=some q.2:=by simp [eU,Bx,c']
  rw [this] at g;cases g;exact⟨_,rfl,r⟩
 ·rw [k7 c];have c':¬q.1=k:=e▸c;have:eU (q::kvs) k=eU kvs k:=by simp [eU,Bx,c']
  exact ih (this▸g)
def cW.put {vs:List (Key×V)}{kvs:List (Key×PV)} (h:cW K H vs kvs) (k:Key) {u:V}{v:PV} (r:VR K [] H u v):cW K H (putK vs k u) (HL kvs k v):=by
 have hh:(vs.any fun kv=>decide (kv.1=k))=wd kvs k:=by rw [n8];exact h.has k
 unfold putK HL;rw [hh]
 split
 ·refine cW.ind (C:=fun vs kvs=>cW K H (vs.map fun kv=>if kv.1=k then (kv.1,u) else kv) (kvs.map fun kv=>if kv.1=k then (kv.1,v) else kv)) ⟨rfl,.nil⟩ (fun p q vs kvs e rr _ ih=>?_) h;rw [Au,Au];by_cases c:p.1=k
  ·rw [if_pos c,if_pos (e▸c)];exact cW.mk e r ih
  ·rw [if_neg c,if_neg (e▸c)];exact cW.mk e rr ih
 ·refine cW.ind (C:=fun vs kvs=>cW K H (vs++[(k,u)]) (kvs++[(k,v)])) ⟨rfl,.cons r .nil⟩ (fun p q vs kvs e rr _ ih=>cW.mk e rr ih) h
def cW.length {vs:List (Key×V)}{kvs:List (Key×PV)} (h:cW K H vs kvs):vs.length=kvs.length:=by
 have:=congrArg BH h.1;simpa using this
end
section
variable {X:Cx}{a e:Expr}{pos p:Pos}{fs:aV}{x:Bool}{wa:W PV}{kvs:List (Key×PV)}{y:Str}
def mm {σ:L2.St}{H:Hp}{i:Nat} (sr:aQ K H σ fs) (hs:fs[i]?=some (some (.od kvs))):∃a vs,σ[i]?=some (some (.ref a))/\H a=some (.dK vs)/\cW K H vs kvs:=by
 obtain⟨u,e1,r⟩:=sr.at' i _ hs;rcases r with⟨v,e,_⟩ | ⟨a,e,vs,q1,q2,q3⟩
 ·cases e
 ·subst e;exact⟨a,vs,e1,q1,q2,q3⟩
def Oz {H:Hp}{u:V}{v:PV}{Q:Key->Prop} (r:VR K [] H u v) (q:(ur v).run Q):∃k,u=kV k/\Q k:=by
 cases r with
 | int i=>exact⟨.inl i,rfl,q⟩
 | str s=>exact⟨.inr s,rfl,q⟩
 | _=>exact q.elim
def Sw (i:Nat) (hs:fs[i]?=some (some (.od kvs))) (hN:X.N[i]?=some y) {neg:Bool}:∀σ H Q,fT K fs (.bind wa fun x=>.bind (ur x) fun k=>.ret (if neg then !wd kvs k else wd kvs k)) σ H Q->(fE K fs wa) σ H fun u H1=>(YB i) σ H1 fun z H2=>∃a o,z=.ref a/\qN H2 a u o/\(∃b,(V.bl (if neg then !o.isSome else o.isSome))=.bl b/\Q b H2):=fun σ H Q ⟨sr,q⟩=>
 ⟨sr,wa.mono (fun v q1 u H1 g1 s1 v1=>by
  obtain⟨k,rfl,q2⟩:=Oz v1 q1;obtain⟨a,vs,e1,h1,r1⟩:=mm s1 hs;refine⟨_,e1,a,_,rfl,qN.k h1,_,rfl,?_⟩;rw [r1.has k];exact q2 H1 g1 s1) q⟩
def aeC (i:Nat) (hs:fs[i]?=some (some (.od kvs))) (hu:X.A.units+200 < cLine) (ha:EF X K fs a wa) (hN:X.N[i]?=some y:=by rfl) (hv:xw X.env.scope y:=by first | exact Ck rfl | exact Cd (Ck rfl) | exact Cd (Cd rfl)) (hd:(y==("__debug__":Str))=false:=by decide) (iW:(y==("__classdict__":Str))=false:=by decide) (hk:behindInMarks .In (.Name y p)=false:=by rfl) :
  TF X K fs (.Compare a [.In] [.Name y p] pos) (.bind wa fun x=>.bind (ur x) fun k=>.ret (wd kvs k)):=⟨PT.imp (Vr (VA (by omega) ha.p (dg hN hv hd iW)) hk) (Sw (neg:=false) i hs hN)⟩
def IV (i:Nat) (hs:fs[i]?=some (some (.od kvs))) (hu:X.A.units+200 < cLine) (ha:EF X K fs a wa) (hN:X.N[i]?=some y:=by rfl) (hv:xw X.env.scope y:=by first | exact Ck rfl | exact Cd (Ck rfl) | exact Cd (Cd rfl)) (hd:(y==("__debug__":Str))=false:=by decide) (iW:(y==("__classdict__":Str))=false:=by decide) (hsl:TC a) :
  EF X K fs (.Subscript (.Name y p) a pos) (.bind wa fun x=>.bind (ur x) fun k=>.yt (eU kvs k)):=⟨PE.imp (JW (by omega) (dg hN hv hd iW) ha.p hsl) fun σ H Q ⟨sr,q⟩=>by
 obtain⟨a,vs,e1,h1,r1⟩:=mm sr hs;refine⟨_,e1,sr,wa.mono (fun v q1 u H1 g1 s1 v1=>?_) q⟩;obtain⟨k,rfl,q2⟩:=Oz v1 q1;have q2:(W.yt (eU kvs k)).run _:=q2;obtain⟨a',QX,mK,iX,Fx⟩:=mm s1 hs;rw [e1] at mK;cases mK;cases hg:eU kvs k with
 | none=>rw [hg] at q2;exact q2.elim
 | some z=>
  rw [hg] at q2;obtain⟨u,k1,k2⟩:=Fx.get k hg;exact⟨a,u,rfl,by rw [<- k1];exact qN.k iX,q2 u H1 g1 s1 k2⟩⟩
end
end
section
open PySem PySem.Spec PyProof.Rows L2 PL
variable {K:Aa}
def fAs (K:Aa) (fs:aV) (i:Nat) (w:W (List PV)):TS:=fun D σ H=>aQ K H σ fs/\w.run fun l=>∀a vs H',cU σ fs H H'->aQ K H' σ fs->H a=none->H' a=some (.lst vs)->aH K [] H' vs l->D.nx (σ.set i (some (.ref a))) H'
structure AS (X:Cx) (K:Aa) (fs:aV) (st:Stmt) (i:Nat) (w:W (List PV)):Prop where p:PS X st (fAs K fs i w)
section
variable {X:Cx}{st:Stmt}{rest:List Stmt}{fs:aV}{i:Nat}{wl:W (List PV)}{T:Type}{out:T->End}{x:Bool}{k:List PV->W T}
def SF.as (h:AS X K fs st i wl) (hr:∀l,SF X K x (fs.set i (some (.ol none l))) rest (k l) out):SF X K x fs (st::rest) (.bind wl k) out:=SF.step h.p fun D σ H ⟨sr,q⟩=>⟨sr,wl.mono (fun l q1 a ws H1 g1 s1 n e v1=>by
 have no:=sr.noOwn n;have s2:=s1.tM (t:=.ol none l) ⟨by simp,ws,e,v1⟩ no i;exact⟨_,k l,hr l,s2,(k l).mono (fun t q2=>q2.go (cK.tM s1 g1.f no n i) sr s2) q1⟩) q⟩
def Xn (b:Nat) {q0:Option Addr}{l:List PV} (hs:fs[b]?=some (some (.ol q0 l))) (h:AS X K (fs.set b (some (.val (.cl l)))) st i wl):AS X K fs st i (.bind wl M4):=⟨fun pins s σ H D I ⟨sr,q⟩=>by
 obtain⟨a,ws,ob,I2,s2,back⟩:=bor I sr hs;refine bM (h.p pins s σ _ {nx:=fun σ' H1=>∃b vs l',σ'=σ.set i (some (.ref b))/\cU σ (fs.set _ (some (.val (.cl l)))) (upd H a (.c7 ob (.lst ws))) H1/\aQ K H1 σ (fs.set _ (some (.val (.cl l))))/\upd H a (.c7 ob (.lst ws)) b=none/\H1 b=some (.lst vs)/\aH K [] H1 vs l'/\wy l'=true/\∀a vs H',cU σ fs H H'->aQ K H' σ fs->H a=none->H' a=some (.lst vs)->aH K [] H' vs l'->D.nx (σ.set i (some (.ref a))) H',rt:=D.rt,bk:=D.bk,ct:=D.ct} I2 ⟨s2,wl.mono (fun l' q1 b vs H1 g1 s1 n e v1=>⟨b,vs,l',rfl,g1,s1,n,e,v1,q1.1,q1.2⟩) q⟩) fun f s1 q1=>?_;cases f with
 | next=>
  obtain⟨σ',H1,I1,b,vs,l',rfl,g1,Rl,n,eb,v1,d,q1⟩:=q1;obtain⟨I3,g3,s3,t3,k3⟩:=back _ s1 H1 I1 g1 Rl;have nb:b≠a:=fun y=>by subst y;rw [aM] at n;cases n
  exact⟨_,_,I3,q1 b vs _ g3 s3 (by rw [av nb] at n;exact n) (k3 b vs nb eb) (aH.km t3 v1 d)⟩
 | ret v=>exact q1
 | brk=>exact q1
 | cont=>exact q1⟩
end
section
variable {X:Cx}{elt tg iter c:Expr}{ifs:List Expr}{sc:Scope}{N':List Str}{ix:List (Option Nat)}{pos:Pos}{fs:aV}{wl:W (List PV)}{T2:Type}{wt:PV->W T2}{is:List Nat}{dR:T2->aV}{tf:T2->W Bool}{te:T2->W PV}
def aa1 {f:PV->W (Option PV)}{i:Nat}{y:Str}{px kT:Pos} (hc:X.calm=true) (hN:X.N.Nodup) (IE:X.N[i]?=some y) (hx:X.env.scope.names.lookup y=some .local) (S:aD X.env.scope X.N sc N' ix) (hi:sR X K fs tg iter wl) (hg:∀cl C s2 H2 fp,GF (gI X sc N' cl C s2 H2 fp) K (bS ix fs) tg is wt dR) (hfs:∀cl C s2 H2 fp t,FF (gI X sc N' cl C s2 H2 fp) K (dR t) ifs (tf t)) (he:∀cl C s2 H2 fp t,EF (gI X sc N' cl C s2 H2 fp) K (dR t) elt (te t))
  (hf:∀p,f p=.bind (wt p) fun t=>.bind (tf t) fun k=>if k=true then .bind (te t) fun v=>.ret (some v) else .ret none) (hl:wG is (bS ix fs) dR/\∀t,jH (dR t) (bS ix fs)) (v9:∀j∈is,ix[j]?=some none)
  (uy:swapsWith (.ListComp elt [⟨tg,iter,ifs,0⟩] sc pos) (some (.Name y px)) kT.line X.env=pure true:=by rfl) (hs:∀x,foldedSetIterable iter X.env x=pure x:=by intro _;rfl) :
  AS X K fs (.Assign [.Name y px] (.ListComp elt [⟨tg,iter,ifs,0⟩] sc pos) kT) i (.bind wl fun l=>kW l f):=
 ⟨PS.imp (F5 hc hN IE hx S hi.p (fun cl C s2 H2 fp=>(hg cl C s2 H2 fp).p) (fun cl C s2 H2 fp pins s σ H Q I ⟨t,q⟩=>(hfs cl C s2 H2 fp t).p pins s σ H Q I q) (fun cl C s2 H2 fp pins s σ H Q I ⟨t,q⟩=>(he cl C s2 H2 fp t).p pins s σ H Q I q) uy hs) fun D σ H ⟨sr,q⟩=>
  Pj (K:=K) S rfl hf hl.1 hl.2 v9 σ H _ ⟨sr,q⟩⟩
variable {i:Nat}{y:Str}{px kT:Pos}
def Xm {j:Nat}{tf:PV->W Bool}{te:PV->W PV} (hc:X.calm=true) (hN:X.N.Nodup) (IE:X.N[i]?=some y) (hx:X.env.scope.names.lookup y=some .local) (S:aD X.env.scope X.N sc N' ix) (hi:sR X K fs tg iter wl) (hg:∀cl C s2 H2 fp,PG (gI X sc N' cl C s2 H2 fp) tg (dN j)) (hf:∀cl C s2 H2 fp t,TF (gI X sc N' cl C s2 H2 fp) K ((bS ix fs).set j (some (.val t))) c (tf t)) (he:∀cl C s2 H2 fp t,EF (gI X sc N' cl C s2 H2 fp) K ((bS ix fs).set j (some (.val t))) elt (te t)) (h0:ix[j]?=some none)
  (uy:swapsWith (.ListComp elt [⟨tg,iter,[c],0⟩] sc pos) (some (.Name y px)) kT.line X.env=pure true:=by rfl) (hs:∀x,foldedSetIterable iter X.env x=pure x:=by intro _;rfl) :
  AS X K fs (.Assign [.Name y px] (.ListComp elt [⟨tg,iter,[c],0⟩] sc pos) kT) i (.bind wl fun l=>kW l fun p=>Hs (tf p) (te p)):=
 have h1:(bS ix fs)[j]?=some none:=by unfold bS;rw [Ai,h0];rfl
 aa1 (wt:=.ret) (tf:=tf) (te:=te) hc hN IE hx S hi (fun cl C s2 H2 fp=>WK (hg cl C s2 H2 fp)) (fun cl C s2 H2 fp t=>zd (hf cl C s2 H2 fp t)) he (fun _=>rfl) (Oo h1) (fun m hj=>by rw [Ba] at hj;subst hj;exact h0) uy hs
end
end
end FL
namespace L2
open PySem PySem.Spec PyProof.Rows
def Inv.SO {X:Cx}{pins:List (Addr×Obj)}{σ:St}{H:Hp}{s:Shared}{a:Addr}{kvs:List (Key×V)} (I:Inv X pins σ H s) (e:H a=some (.dK kvs)):∃o,Inv X pins σ (upd H a (.c7 o (.dK kvs))) s:=by
 obtain⟨z,hs,vs,r,o,es,ep,h1,h2⟩:=(show bh X.prog X.w H s.heap a (.dK kvs) from I.bD a _ e);exact⟨o,I.write (x:=a) (e:=a) (o:=.c7 o (.dK kvs)) (h':=s.heap) (t':=s.toks) (by rw [e];exact BK) (.inl rfl) (fun b u _ z=>z) ⟨o,h1⟩ ⟨h1,z,hs,vs,r,o,es,ep,h1,h2⟩⟩
end L2
namespace FL
section
open PySem PySem.Spec PyProof.Rows L2 PL
variable {K:Aa}
def dvK (kvs:List (Key×PV)):PV:=.dv (kvs.map fun kv=>kP kv.1) (kvs.map (·.2))
def PQ (kvs:List (List Key×PV)):PV:=.dv (kvs.map fun kv=>.tup (kv.1.map kP)) (kvs.map (·.2))
def pL (K:Aa) (H:Hp) (vs:List (List Key×V)) (kvs:List (List Key×PV)):Prop:=vs.map (·.1)=kvs.map (·.1)/\aH K [] H (vs.map (·.2)) (kvs.map (·.2))
def TN (K:Aa) (H:Hp) (ob:HO) (v:PV):Prop:=(∃vs kvs,ob=.dK vs/\v=dvK kvs/\cW K H vs kvs)\/∃vs kvs,ob=.dT vs/\v=PQ kvs/\pL K H vs kvs
def fDv (K:Aa) (fs:aV) (w:W PV):TE:=fun σ H Q=>aQ K H σ fs/\w.run fun v=>∀a ob H',cU σ fs H H'->aQ K H' σ fs->H a=none->H' a=some ob->TN K H' ob v->Q (.ref a) H'
structure DVF (X:Cx) (K:Aa) (fs:aV) (e:Expr) (w:W PV):Prop where p:PE X e (fDv K fs w)
section
variable {σ:L2.St}{fs:aV}{H:Hp}{a:Addr}{ob:HO}{v:PV}
def tq (o':HO) (e:H a=some ob) (n1:∀vs,ob≠.tup vs) (n2:∀o u,ob≠.c7 o u):bq K H (upd H a o'):=⟨fun b ws q=>by rw [av (fun z=>by subst z;rw [e] at q;cases q;exact n1 _ rfl)];exact q,fun b o u q=>by rw [av (fun z=>by subst z;rw [e] at q;cases q;exact n2 _ _ rfl)];exact q⟩
def aQ.YW (s:aQ K H σ fs) (n:¬da σ fs a) (e:H a=some ob) (n1:∀vs,ob≠.tup vs) (n2:∀o u,ob≠.c7 o u) (o':HO):aQ K (upd H a o') σ fs:=⟨s.len,fun i t q=>by
 obtain⟨u,h1,h2⟩:=s.at' i t q;exact⟨u,h1,h2.mono (tq o' e n1 n2) (fun x b o eb ow hb z=>by subst eb;rw [av (fun y:b=a=>n ⟨i,t,x,q,ow,h1,y▸hb⟩)];exact z)⟩,s.nd⟩
def ZM {vs:List (List Key×V)}{kvs:List (List Key×PV)} (h:vs.map (·.1)=kvs.map (·.1)):(kvs.map fun kv=>PV.tup (kv.1.map kP))=vs.map fun kv=>PV.tup (kv.1.map kP):=by
 have:=congrArg (E1 fun k:List Key=>PV.tup (k.map kP)) h;rw [A6,A6] at this;exact this.symm
def ZN {vs:List (Key×V)}{kvs:List (Key×PV)} (h:vs.map (·.1)=kvs.map (·.1)):(kvs.map fun kv=>kP kv.1)=vs.map fun kv=>kP kv.1:=by
 have:=congrArg (E1 kP) h;rw [A6,A6] at this;exact this.symm
def TN.c7 {X:Cx}{pins:List (Addr×Obj)}{s:Shared}{σ':L2.St} (I:Inv X pins σ' H s) (e:H a=some ob) (d:TN K H ob v):∃u,Inv X pins σ' (upd H a u) s/\VR K [] (upd H a u) (.ref a) v/\(∀vs,ob≠.tup vs)/\∀o u,ob≠.c7 o u:=by
 rcases d with⟨vs,kvs,rfl,rfl,d1,d2⟩ | ⟨vs,kvs,rfl,rfl,d1,d2⟩
 ·obtain⟨o,I2⟩:=I.SO e;exact⟨_,I2,.dk aM (ZN d1) (aH.tk (tq _ e (by simp) (by simp)) d2),by simp,by simp⟩
 ·obtain⟨o,I2⟩:=I.freeze e;exact⟨_,I2,.dt aM (ZM d1) (aH.tk (tq _ e (by simp) (by simp)) d2),by simp,by simp⟩
end
section
variable {X:Cx}{a b c e o:Expr}{pos p:Pos}{fs:aV}{w wa wb:W PV}{wl:W (List PV)}
def aed (h:DVF X K fs e w):EF X K fs e w:=⟨fun pins s σ H Q I ⟨sr,q⟩=>by
 refine bM (h.p pins s σ H (fun u H1=>∃a ob v,u=.ref a/\cU σ fs H H1/\aQ K H1 σ fs/\H a=none/\H1 a=some ob/\TN K H1 ob v/\∀u H',cU σ fs H H'->aQ K H' σ fs->VR K [] H' u v->Q u H') I ⟨sr,w.mono (fun v q1 a ob H1 g1 s1 n e d=>⟨a,ob,v,rfl,g1,s1,n,e,d,q1⟩) q⟩) fun u s1 ⟨v,H1,I1,r1,a,ob,v',e,g1,Rl,n,ea,d,q1⟩=>?_;subst e;obtain⟨o',I2,vr,n1,n2⟩:=d.c7 I1 ea;exact⟨.ref a,_,I2,r1,q1 _ _ (g1.side n _) (Rl.YW (fun z=>sr.noOwn n z) ea n1 n2 _) vr⟩⟩
def JZ (kv:List Key×PV):PV:=.tup [.tup (kv.1.map kP),kv.2]
theorem OE (H:Hp):∀k:List Key,aH K [] H (k.map kV) (k.map kP)
 | []=>.nil
 | .inl i::k=>.cons (.int i) (OE H k)
 | .inr i::k=>.cons (.str i) (OE H k)
theorem Kg {H:Hp}:∀{k:List Key}{vs:List V},aH K [] H vs (k.map kP)->vs=k.map kV
 | [],_,h=>by cases h;rfl
 | .inl i::k,_,h=>by
  cases h with
  | cons x t=>cases x;rw [Kg t];rfl
 | .inr i::k,_,h=>by
  cases h with
  | cons x t=>cases x;rw [Kg t];rfl
theorem Ga {H:Hp}:∀{kvs:List (List Key×PV)}{vs:List V},aH K [] H vs (kvs.map JZ)->∃zs:List Pz,vs=zs.map (fun z=>V.ref z.pa)/\(∀z∈zs,z.At H)/\zs.map (·.k)=kvs.map (·.1)/\aH K [] H (zs.map (·.v)) (kvs.map (·.2))
 | [],_,h=>by cases h;exact⟨[],rfl,by simp,rfl,.nil⟩
 | kv::kvs,_,h=>by
  cases h with
  | cons x t=>
  obtain⟨zs,z1,z2,z3,z4⟩:=Ga t;cases x with
  | @tup p ws _ e r=>
  cases r with
  | cons x1 t1=>
  cases t1 with
  | cons x2 t2=>
  cases t2;cases x1 with
  | @tup b us _ e1 r1=>
  have:=Kg r1;subst this;refine⟨⟨p,kv.1,b,_⟩::zs,by rw [Au,z1],fun z hz=>?_,by rw [Au,Au,z3],.cons x2 z4⟩;rcases Av.mp hz with rfl | hz
  ·exact⟨e,e1⟩
  ·exact z2 z hz
def IW (l:List PV):W PV:=⟨fun Q=>∃kvs:List (List Key×PV),l=kvs.map JZ/\(kvs.map (·.1)).Nodup/\kvs.length<=1000/\Q (PQ kvs),fun f q=>q.imp fun kvs h=>⟨h.1,h.2.1,h.2.2.1,f _ h.2.2.2⟩⟩
def S9 (hK:X.K=K) (hc:X.calm=true) (hu:X.A.units+200 < cLine) (hg:Gl X "dict") (hm:X.mg "dict"=none) (ha:Hh X K fs e wl) (he:starEach [e] X.env=(false,eval e X.env)::starEach [] X.env:=by rfl) (ef:(backTo pos (starEach [] X.env)).any (·.1)=false:=by rfl) :
  DVF X K fs (.Call (.Name "dict" p) [e] [] pos) (.bind wl IW):=⟨PE.imp (ml (Jc K hK hc (by omega)) hg hm boot_dict (bc ha.p cE he) (by decide) (by decide) he ef) fun σ H Q ⟨sr,q⟩=>⟨sr,wl.mono (fun l q1 u H1 g1 s1 v0 v1=>by
  obtain⟨kvs,rfl,nd,hl,q1⟩:=q1;obtain⟨a,vs,rfl,e3,e4⟩:=v1 H1 .refl s1;obtain⟨zs,rfl,z2,z3,z4⟩:=Ga e4;have hzl:zs.length=kvs.length:=by have:=congrArg BH z3;simpa using this
  refine⟨a,zs,rfl,e3,z2,by rw [z3];exact nd,by omega,fun p H2 s2 h2 n2=>?_⟩;exact q1 _ _ H2 (g1.trans (cU.same s2)) (s1.same s2) (g1.there _ n2) h2 (.inr ⟨_,_,rfl,rfl,by rw [A6,<- z3];rfl,by rw [A6];exact aH.tk s2.fv z4⟩)) q⟩⟩
def Mg {kvs:List (List Key×PV)}{Q:PV->Prop} (nd:(kvs.map (·.1)).Nodup) (hl:kvs.length<=1000) (q:Q (PQ kvs)):(IW (kvs.map JZ)).run Q:=⟨kvs,rfl,nd,hl,q⟩
def mI (kvs:List (List Key×PV)) (k:List Key):Option PV:=(kvs.find? fun kv=>decide (kv.1=k)).map (·.2)
theorem pL.get {H:Hp}{k:List Key}:∀{vs:List (List Key×V)}{kvs:List (List Key×PV)},pL K H vs kvs->(mI kvs k=none->iP vs k=none)/\∀{v},mI kvs k=some v->∃u,iP vs k=some u/\VR K [] H u v
 | [],[],_=>⟨fun _=>rfl,fun g=>by simp [mI] at g⟩
 | [],_::_,h=>by simp [pL] at h
 | _::_,[],h=>by simp [pL] at h
 | p::vs,q::kvs,h=>by
  obtain⟨h1,h2⟩:=h;rw [Au,Au] at h1 h2;injection h1 with e b;cases h2 with
  | cons r t=>
  have ih:=pL.get (k:=k) (vs:=vs) (kvs:=kvs) ⟨b,t⟩;by_cases c:p.1=k
  ·rw [k6 c];have c':q.1=k:=e▸c;have:mI (q::kvs) k=some q.2:=by simp [mI,Bx,c']
   rw [this];refine⟨fun z=>(by cases z),fun {v} z=>?_⟩;cases z;exact⟨_,rfl,r⟩
  ·rw [k7 c];have c':¬q.1=k:=e▸c;have:mI (q::kvs) k=mI kvs k:=by simp [mI,Bx,c']
   rw [this];exact ih
def cW.get' {H:Hp}{k:Key}:∀{vs:List (Key×V)}{kvs:List (Key×PV)},cW K H vs kvs->(eU kvs k=none->iP vs k=none)/\∀{v},eU kvs k=some v->∃u,iP vs k=some u/\VR K [] H u v:=fun {vs kvs} h=>⟨fun z=>by
 have:=h.has k;cases e:iP vs k with
 | none=>rfl
 | some u=>
  rw [e] at this;have h2:wd kvs k=true:=this.symm;unfold wd at h2;unfold eU at z;rw [Option.map_eq_none_iff,List.find?_eq_none] at z;obtain⟨x,hx,hx2⟩:=BO.mp h2;exact absurd hx2 (z x hx),fun z=>h.get k z⟩
def Um (k:Key) (l:List PV):kP k≠.tup l:=by cases k <;> exact PV.noConfusion
def Wl {a b:Key} (h:kP a=kP b):a=b:=by
 cases a <;> cases b <;> simp [kP] at h <;> rw [h]
theorem yR:∀{a b:List Key},a.map kP=b.map kP->a=b
 | [],[],_=>rfl
 | [],_::_,h=>by simp at h
 | _::_,[],h=>by simp at h
 | x::a,y::b,h=>by
  rw [Au,Au] at h;injection h with h1 h2;rw [Wl h1,yR h2]
inductive Hl:PV->PV->Option PV->Prop
 | k (kvs:List (Key×PV)) (k:Key):kvs≠[]->Hl (dvK kvs) (kP k) (eU kvs k)
 | t (kvs:List (List Key×PV)) (k:List Key):kvs≠[]->Hl (PQ kvs) (.tup (k.map kP)) (mI kvs k)
def UR {H:Hp}{u:V}{kvs:List (Key×PV)} (h0:kvs≠[]) (h:VR K [] H u (dvK kvs)):∃a o vs,u=.ref a/\H a=some (.c7 o (.dK vs))/\cW K H vs kvs:=by
 have keys:∀{vs:List (Key×V)}{kvs:List (Key×PV)},(kvs.map fun kv=>kP kv.1)=(vs.map fun kv=>kP kv.1)->vs.map (·.1)=kvs.map (·.1):=fun {vs kvs} e=>by
  have e:(kvs.map (·.1)).map kP=(vs.map (·.1)).map kP:=by rw [A6,A6];exact e
  exact (yR e).symm
 unfold dvK at h;cases h with
 | @dk a o vs _ _ e k r=>exact⟨a,o,vs,rfl,e,keys k,r⟩
 | @dt a o vs _ _ e k r=>
  cases kvs with
  | nil=>exact absurd rfl h0
  | cons x l=>cases vs with
   | nil=>simp at k
   | cons y m=>simp at k;exact absurd k.1 (Um _ _)
def MY {H:Hp}{u:V}{kvs:List (List Key×PV)} (h0:kvs≠[]) (h:VR K [] H u (PQ kvs)):∃a o vs,u=.ref a/\H a=some (.c7 o (.dT vs))/\pL K H vs kvs:=by
 have keys:∀{vs:List (List Key×V)}{kvs:List (List Key×PV)},(kvs.map fun kv=>PV.tup (kv.1.map kP))=(vs.map fun kv=>PV.tup (kv.1.map kP))->vs.map (·.1)=kvs.map (·.1):=fun {vs kvs} e=>by
  induction kvs generalizing vs with
  | nil=>cases vs with
   | nil=>rfl
   | cons y m=>simp at e
  | cons x l ih=>cases vs with
   | nil=>simp at e
   | cons y m=>
    rw [Au,Au] at e;injection e with e1 e2;injection e1 with e1;rw [Au,Au,yR e1,ih e2]
 unfold PQ at h;cases h with
 | @dt a o vs _ _ e k r=>exact⟨a,o,vs,rfl,e,keys k,r⟩
 | @dk a o vs _ _ e k r=>
  cases kvs with
  | nil=>exact absurd rfl h0
  | cons x l=>cases vs with
   | nil=>simp at k
   | cons y m=>simp at k;exact absurd k.1.symm (Um _ _)
def Hl.ok {H:Hp}{u z:V}{d y:PV}{r:Option PV} (h:Hl d y r) (hu:VR K [] H u d) (hz:VR K [] H z y):∃a o,u=.ref a/\IsD H a/\qN H a z o/\(r=none->o=none)/\∀v,r=some v->∃w,o=some w/\VR K [] H w v:=by
 cases h with
 | k kvs k h0=>
  obtain⟨a,o,vs,rfl,e,d⟩:=UR h0 hu;have ez:z=kV k:=by
   cases k with
   | inl i=>cases hz;rfl
   | inr i=>cases hz;rfl
  subst ez;exact⟨a,iP vs k,rfl,.inl ⟨vs,.inr ⟨o,e⟩⟩,.inl ⟨vs,k,.inr ⟨o,e⟩,rfl,rfl⟩,(cW.get' d).1,fun v=>(cW.get' d).2⟩
 | t kvs k h0=>
  obtain⟨a,o,vs,rfl,e,d⟩:=MY h0 hu;cases hz with
  | @tup b us _ e1 r1=>
  have:=Kg r1;subst this;exact⟨a,iP vs k,rfl,.inr ⟨vs,.inr ⟨o,e⟩⟩,.inr ⟨vs,k,b,.inr ⟨o,e⟩,rfl,e1,rfl⟩,(pL.get d).1,fun v=>(pL.get d).2⟩
def dgW (d y:PV):W PV:=⟨fun Q=>∃v,Hl d y (some v)/\Q v,fun f ⟨v,a,q⟩=>⟨v,a,f _ q⟩⟩
def dgB (a b:W PV):W PV:=.bind a fun x=>.bind b fun y=>dgW x y
def PJ (hu:X.A.units+200 < cLine) (ha:EF X K fs a wa) (hb:EF X K fs b wb) (hs:TC b):EF X K fs (.Subscript a b pos) (dgB wa wb):=⟨PE.imp (JW (by omega) ha.p hb.p hs) fun σ H Q ⟨sr,q⟩=>⟨sr,wa.mono (fun x q1 u1 H1 g1 s1 v1=>⟨s1,wb.mono (fun y q2 u2 H2 g2 s2 v2=>by
 obtain⟨v,g,q2⟩:=q2;obtain⟨a,o,rfl,_,g2',_,h⟩:=g.ok (g2.vr s1 v1) v2;obtain⟨w,rfl,vw⟩:=h v rfl;exact⟨a,w,rfl,g2',q2 _ H2 (g1.trans g2) s2 vw⟩) q1⟩) q⟩⟩
def KG {kvs:List (List Key×PV)}{k:List Key}{v:PV}{Q:PV->Prop} (h:mI kvs k=some v) (q:Q v):(dgW (PQ kvs) (.tup (k.map kP))).run Q:=⟨v,by rw [<- h];exact .t kvs k (fun z=>by subst z;simp [mI] at h),q⟩
def Oy (d:PV):W (List PV):=⟨fun Q=>∃kvs:List (List Key×PV),d=PQ kvs/\kvs≠[]/\kvs.length<=1000/\Q (kvs.map fun kv=>.tup (kv.1.map kP)),fun f q=>q.imp fun kvs h=>⟨h.1,h.2.1,h.2.2.1,f _ h.2.2.2⟩⟩
def Sr {tg:Expr} (h:EF X K fs e w):sR X K fs tg e (.bind w Oy):=⟨PI.imp (NP h.p) fun σ H R ⟨sr,q⟩=>⟨sr,w.mono (fun x q1 u1 H1 g1 s1 v1=>by
 obtain⟨kvs,rfl,h0,hl,q1⟩:=q1;obtain⟨a,o,vs,rfl,e,d1,d2⟩:=MY h0 v1;have len:vs.length=kvs.length:=by have:=congrArg BH d1;simpa using this
 refine⟨a,o,vs,rfl,e,q1 _ H1 g1 s1 ⟨bb (by simpa using hl),fun H' t=>?_⟩⟩;have e':=t.z _ _ _ e;refine⟨fun i p hp=>?_,vs,e',by simp [len]⟩;rw [Ai] at hp;cases z:kvs[i]? with
 | none=>rw [z] at hp;cases hp
 | some kv=>
  rw [z] at hp;have hp:=Option.some.inj hp;subst hp;have hi:=(Aj.mp z).1;refine⟨⟨vs,e',by omega⟩,fun y H2 yy=>?_⟩;obtain⟨rfl,yy⟩:=yy;obtain⟨b,k,v,rfl,k2,k3⟩:=yy vs e';have ek:k=kv.1:=by
   have h1:(vs.map (·.1))[i]?=some k:=by rw [Ai,k2];rfl
   rw [d1,Ai,z] at h1;exact (Option.some.inj h1).symm
  subst ek;exact⟨kG.refl _,.tup k3 (OE _ _)⟩) q⟩⟩
def LL {kvs:List (List Key×PV)}{Q:List PV->Prop} (h0:kvs≠[]) (hl:kvs.length<=1000) (q:Q (kvs.map fun kv=>.tup (kv.1.map kP))):(Oy (PQ kvs)).run Q:=⟨kvs,rfl,h0,hl,q⟩
end
end
end FL
namespace L2
open PySem PySem.Spec PyProof.Rows
section
variable {X:Cx}{pins:List (Addr×Obj)}{σ:St}{H:Hp}{s:Shared}
theorem Inv.GO (I:Inv X pins σ H s):∀bs:List Addr,(∀b∈bs,∃ws,H b=some (.lst ws))->∃H',Inv X pins σ H' s/\(∀c,c∉bs->H' c=H c)/\∀b∈bs,∃ob ws,H b=some (.lst ws)/\H' b=some (.c7 ob (.lst ws))
 | [],_=>⟨H,I,fun _ _=>rfl,fun b hb=>nomatch hb⟩
 | b::bs,h=>by
  obtain⟨H',I',h1,h2⟩:=Inv.GO I bs fun c hc=>h c (.tail _ hc);by_cases hb:b∈bs
  ·refine⟨H',I',fun c hc=>h1 c fun z=>hc (.tail _ z),fun c hc=>?_⟩;rcases Av.mp hc with rfl | hc
   ·exact h2 _ hb
   ·exact h2 c hc
  ·obtain⟨ws,e⟩:=h b (.head _);obtain⟨ob,I2⟩:=I'.sG ((h1 b hb).trans e);refine⟨_,I2,fun c hc=>?_,fun c hc=>?_⟩
   ·rw [av (fun z=>by subst z;exact hc (.head _))];exact h1 c fun z=>hc (.tail _ z)
   ·by_cases cb:c=b
    ·subst cb;exact⟨ob,ws,e,aM⟩
    ·rcases Av.mp hc with z | hc
     ·exact absurd z cb
     ·obtain⟨ob',sY,e1,e2⟩:=h2 c hc;exact⟨ob',sY,e1,by rw [av cb];exact e2⟩
open Classical in
theorem Inv.M3 {f:Addr->List V} (J:Inv X pins σ H s):∀bs:List Addr,(∀b∈bs,∃ob,H b=some (.c7 ob (.lst (f b))))->(∀b∈bs,∀o u,X.H₀ b≠some (.c7 o u))->Inv X pins σ (fun c=>if c∈bs then some (.lst (f c)) else H c) s
 | [],_,_=>by
  have:(fun c=>if c∈([]:List Addr) then some (HO.lst (f c)) else H c)=H:=funext fun c=>if_neg (by simp);rw [this];exact J
 | b::bs,h,h0=>by
  have J2:=Inv.M3 J bs (fun c hc=>h c (.tail _ hc)) fun c hc=>h0 c (.tail _ hc);by_cases hb:b∈bs
  ·have:(fun c=>if c∈b::bs then some (HO.lst (f c)) else H c)=fun c=>if c∈bs then some (.lst (f c)) else H c:=funext fun c=>by
    by_cases z:c=b
    ·subst z;rw [if_pos (.head _),if_pos hb]
    ·by_cases y:c∈bs
     ·rw [if_pos (.tail _ y),if_pos y]
     ·rw [if_neg (fun x=>(Av.mp x).elim z y),if_neg y]
   rw [this];exact J2
  ·obtain⟨ob,e⟩:=h b (.head _);have e2:(fun c=>if c∈bs then some (HO.lst (f c)) else H c) b=some (.c7 ob (.lst (f b))):=by show (if b∈bs then _ else _)=_;rw [if_neg hb];exact e
   have hk:=xf J2.bD e2;have J3:=J2.Yz e2 (h0 b (.head _)) (hk b _ aM) hk;have:(fun c=>if c∈b::bs then some (HO.lst (f c)) else H c)=upd (fun c=>if c∈bs then some (HO.lst (f c)) else H c) b (.lst (f b)):=funext fun c=>by
    by_cases z:c=b
    ·subst z;rw [if_pos (.head _),aM]
    ·rw [av z];show _=if c∈bs then _ else _
     by_cases y:c∈bs
     ·rw [if_pos (.tail _ y),if_pos y]
     ·rw [if_neg (fun x=>(Av.mp x).elim z y),if_neg y]
   rw [this];exact J3
end
end L2
namespace FL
section
open PySem PySem.Spec PyProof.Rows L2 PL
variable {K:Aa}
section
variable {σ:L2.St}{fs:aV}{H:Hp}{i:Nat}{bs:List Addr}{ls:List (List PV)}
def jo (sr:aQ K H σ fs) (hs:fs[i]?=some (some (.so bs ls))):∃a,σ[i]?=some (some (.ref a))/\iM K H a (.so bs ls):=by
 obtain⟨u,e1,r⟩:=sr.at' i _ hs;rcases r with⟨v,e,_⟩ | ⟨a,e,r⟩
 ·cases e
 ·subst e;exact⟨a,e1,r⟩
theorem P8 {H':Hp}:∀{bs:List Addr}{ls:List (List PV)},bs.length=ls.length->(∀(j:Nat) (b:Addr) (l:List PV),bs[j]?=some b->ls[j]?=some l->VR K [] H' (.ref b) (.cl l))->aH K [] H' (bs.map V.ref) (ls.map PV.cl)
 | [],[],_,_=>.nil
 | [],_::_,h,_=>by simp at h
 | _::_,[],h,_=>by simp at h
 | b::bs,l::ls,h,hv=>.cons (hv 0 b l rfl rfl) (P8 (by simpa using h) fun j b l h1 h2=>hv (j+1) b l (by simpa using h1) (by simpa using h2))
def aaY {X:Cx}{pins:List (Addr×Obj)}{s:Shared} (I:Inv X pins σ H s) (sr:aQ K H σ fs) (hs:fs[i]?=some (some (.so bs ls))):∃H',Inv X pins σ H' s/\aQ K H' σ (fs.set i (some (.ol none (ls.map PV.cl))))/\cK σ fs H σ (fs.set i (some (.ol none (ls.map PV.cl)))) H'/\(∀c,H c=none->H' c=none)/\
  ∀σ' s' H1,Inv X pins σ' H1 s'->cU σ (fs.set i (some (.ol none (ls.map PV.cl)))) H' H1->aQ K H1 σ (fs.set i (some (.ol none (ls.map PV.cl))))->∃H2,Inv X pins σ' H2 s'/\cU σ fs H H2/\aQ K H2 σ fs/\(∀p vs,H1 p=some (.tup vs)->H2 p=some (.tup vs))/\∀p vs,H p=none->H1 p=some (.lst vs)->H2 p=some (.lst vs):=by
 obtain⟨a,e1,q1,q2,q3,q4,q5⟩:=jo sr hs;have qX:∀b∈bs,∃ws,H b=some (.lst ws):=fun b hb=>by
  obtain⟨j,hj⟩:=Ct hb;have h1:=(Aj.mp hj).1;obtain⟨ws,e,_⟩:=q5 j b _ hj (Ae (by rw [<- q4];exact h1));exact⟨ws,e⟩
 obtain⟨H',I',k1,k2⟩:=I.GO bs qX;have tk:bq K H H':=⟨fun b vs z=>by
  by_cases c:b∈bs
  ·obtain⟨ws,e⟩:=qX b c;rw [e] at z;cases z
  ·rw [k1 b c];exact z,fun b o u z=>by
  by_cases c:b∈bs
  ·obtain⟨ws,e⟩:=qX b c;rw [e] at z;cases z
  ·rw [k1 b c];exact z⟩
 have aU:∀c,H c=none->H' c=none:=fun c z=>by
  by_cases y:c∈bs
  ·obtain⟨ws,e⟩:=qX c y;rw [e] at z;cases z
  ·rw [k1 c y];exact z
 have it:∀{t:SL},(some t:Option SL)=some (.ol none (ls.map PV.cl))->t=.ol none (ls.map PV.cl):=fun z=>by injection z
 have s2:aQ K H' σ (fs.set i (some (.ol none (ls.map PV.cl)))):=by
  refine⟨by simp [sr.len],fun j t z=>?_,fun j k t u b1 b2 b z1 z2 o1 o2=>?_⟩
  ·rcases aY z with⟨rfl,rfl⟩ | ⟨n,z⟩
   ·refine⟨_,e1,.inr ⟨a,rfl,by simp,bs.map V.ref,by rw [k1 a q2];exact q1,P8 q4 fun j b l h1 h2=>?_⟩⟩;obtain⟨ob,ws,f1,f2⟩:=k2 b (A5 h1);obtain⟨sY,f3,f4⟩:=q5 j b l h1 h2;rw [f1] at f3;cases f3;exact .cl (.inl ⟨ob,f2⟩) (aH.tk tk f4)
   ·obtain⟨u,h1,h2⟩:=sr.at' j t z;exact⟨u,h1,h2.mono tk (fun x b o eb ow hb zz=>by
     subst eb;rw [k1 b (fun y=>n (sr.nd j i t _ x a b z hs ow rfl h1 e1 hb (.inr y)))];exact zz)⟩
  ·intro y1 y2 w1 w2;have f:∀{j:Nat}{t:SL}{c:Addr},(fs.set i (some (.ol none (ls.map PV.cl))))[j]?=some (some t)->t.own=true->σ[j]?=some (some (.ref c))->t.has c b->∃t',fs[j]?=some (some t')/\t'.own=true/\t'.has c b:=fun {j t c} z ow y hb=>by
    rcases aY z with⟨rfl,rfl⟩ | ⟨n,z⟩
    ·refine⟨_,hs,rfl,?_⟩;rcases hb with hb | hb
     ·exact .inl hb
     ·cases hb
    ·exact⟨t,z,ow,hb⟩
   obtain⟨t',a1,a2,a3⟩:=f z1 o1 y1 w1;obtain⟨u',c1,c2,c3⟩:=f z2 o2 y2 w2;exact sr.nd j k t' u' b1 b2 b a1 c1 a2 c2 y1 y2 a3 c3
 have pf:∀φ b,fq σ (fs.set i (some (.ol none (ls.map PV.cl)))) φ b->fq σ fs φ b:=fun φ b ⟨j,z1,z3⟩=>by
  rcases aY z1 with⟨_,z⟩ | ⟨n,z1⟩
  ·cases z
  ·exact⟨j,z1,z3⟩
 have pb:∀φ b,fq σ fs φ b->fq σ (fs.set i (some (.ol none (ls.map PV.cl)))) φ b:=fun φ b ⟨j,z1,z3⟩=>by
  have ji:j≠i:=fun y=>by subst y;rw [hs] at z1;cases z1
  exact⟨j,by rw [aF ji];exact z1,z3⟩
 have npb:∀b∈bs,∀φ,¬fq σ fs φ b:=fun b hb φ ⟨j,z1,z3⟩=>by
  have:=sr.nd j i _ _ b a b z1 hs rfl rfl z3 e1 (.inl rfl) (.inr hb);subst this;rw [hs] at z1;cases z1
 have gf:cK σ fs H σ (fs.set i (some (.ol none (ls.map PV.cl)))) H':=by
  refine⟨fun b o z n=>⟨?_,fun y=>?_⟩,fun b z=>?_,fun b φ z=>.inl (pb φ b z)⟩
  ·rw [k1 b (fun y=>n ⟨i,_,a,hs,rfl,e1,.inr y⟩)];exact z
  ·obtain⟨j,t,x,z1,z2,z3,z4⟩:=y;rcases aY z1 with⟨rfl,rfl⟩ | ⟨m,z1⟩
   ·rcases z4 with z4 | z4
    ·exact n ⟨j,_,x,hs,rfl,z3,.inl z4⟩
    ·cases z4
   ·exact n ⟨j,t,x,z1,z2,z3,z4⟩
  ·by_cases c:b∈bs
   ·obtain⟨ob,ws,f1,f2⟩:=k2 b c;rw [f2] at z;cases z
   ·rw [k1 b c] at z;exact z
 refine⟨H',I',s2,gf,aU,fun σ' s' H1 J g s1=>?_⟩
 classical
 have fz:∀b∈bs,∃ob,H1 b=some (.c7 ob (.lst ((match H b with | some (.lst ws)=>ws | _=>[]):List V))):=fun b hb=>by
  obtain⟨ob,ws,f1,f2⟩:=k2 b hb;rw [f1];exact⟨ob,g.keep b _ f2 fun φ p=>npb b hb φ (pf φ b p)⟩
 have h0:∀b∈bs,∀o u,X.H₀ b≠some (.c7 o u):=fun b hb o u z=>by
  have:=I.base.rT b o u z;obtain⟨ws,e⟩:=qX b hb;rw [e] at this;cases this
 have J2:=Inv.M3 (f:=fun b=>match H b with | some (.lst ws)=>ws | _=>[]) J bs fz h0;have v9:∀b∈bs,(fun c=>if c∈bs then some (HO.lst (match H c with | some (.lst ws)=>ws | _=>[])) else H1 c) b=H b:=fun b hb=>by
  obtain⟨ws,e⟩:=qX b hb;show (if b∈bs then _ else _)=_;rw [if_pos hb,e]
 have L0:∀b,b∉bs->(fun c=>if c∈bs then some (HO.lst (match H c with | some (.lst ws)=>ws | _=>[])) else H1 c) b=H1 b:=fun b hb=>by
  show (if b∈bs then _ else _)=_;rw [if_neg hb]
 generalize (fun c=>if c∈bs then some (HO.lst (match H c with | some (.lst ws)=>ws | _=>[])) else H1 c)=H2 at J2 v9 L0;have ge:cU σ fs H H2:=by
  refine⟨fun b o z n=>?_,fun b z=>?_⟩
  ·by_cases c:b∈bs
   ·rw [v9 b c];exact z
   ·rw [L0 b c];exact g.keep b o (by rw [k1 b c];exact z) fun φ p=>n φ (pf φ b p)
  ·by_cases c:b∈bs
   ·rw [v9 b c] at z;exact z
   ·rw [L0 b c] at z;have:=g.there b z;rw [k1 b c] at this;exact this
 refine⟨H2,J2,ge,⟨sr.len,fun j t z=>?_,sr.nd⟩,fun p vs z=>?_,fun p vs n z=>?_⟩
 ·obtain⟨u,m1,m2⟩:=sr.at' j t z;refine⟨u,m1,?_⟩;by_cases c:∃φ,t=.gF φ
  ·obtain⟨φ,rfl⟩:=c;have ji:j≠i:=fun y=>by subst y;rw [hs] at z;cases z
   rcases m2 with⟨v,y,_⟩ | ⟨b,rfl,_⟩
   ·cases y
   ·obtain⟨vs,y1,y2⟩:=s1.ownAt (t:=.gF φ) (i:=j) (by rw [aF ji];exact z) rfl m1;refine .inr ⟨b,rfl,vs,?_,y2⟩;rw [L0 b (fun y=>npb b y φ ⟨j,z,m1⟩)];exact y1
  ·refine m2.mono (ge.eT sr) (fun x b o eb ow hb zz=>ge.keep b o zz fun φ ⟨j',p1,p3⟩=>?_);subst eb;have:=sr.nd j j' t _ x b b z p1 ow rfl m1 p3 hb (.inl rfl);subst this;rw [z] at p1;cases p1;exact c ⟨φ,rfl⟩
 ·rw [L0 p (fun y=>by obtain⟨ob,f⟩:=fz p y;rw [f] at z;cases z)];exact z
 ·rw [L0 p (fun y=>by obtain⟨ws,e⟩:=qX p y;rw [e] at n;cases n)];exact z
end
section
variable {X:Cx}{a e e1 e2:Expr}{rest:List Stmt}{pos p p' apos bo ft tw:Pos}{fs:aV}{T:Type}{out:T->End}{x:Bool}{w we w1 w2:W PV}{wl:W (List PV)}{bs:List Addr}{ls:List (List PV)}{y:Str}
def Kz (i:Nat) (hs:fs[i]?=some (some (.so bs ls))) (h:EF X K (fs.set i (some (.ol none (ls.map PV.cl)))) e w):EF X K fs e (.bind w tu):=⟨fun pins s σ H Q I ⟨sr,q⟩=>by
 obtain⟨H',I2,s2,_,_,back⟩:=aaY I sr hs;refine bM (h.p pins s σ _ (fun u H1=>∃v,cU σ (fs.set i (some (.ol none (ls.map PV.cl)))) H' H1/\aQ K H1 σ (fs.set i (some (.ol none (ls.map PV.cl))))/\VR K [] H1 u v/\v.dat=true/\∀u H',cU σ fs H H'->aQ K H' σ fs->VR K [] H' u v->Q u H') I2 ⟨s2,w.mono (fun v q1 u H1 g1 s1 v1=>⟨v,g1,s1,v1,q1.1,q1.2⟩) q⟩) fun u s1 ⟨x,H1,I1,r1,v,g1,Rl,v1,d,q1⟩=>?_;obtain⟨H2,I3,g3,s3,t3,_⟩:=back σ s1 H1 I1 g1 Rl;exact⟨x,_,I3,r1,q1 x _ g3 s3 (VR.km t3 v1 d)⟩⟩
def SF.aaq (i:Nat) {QE:List Stmt}{wt:W T} (hs:fs[i]?=some (some (.so bs ls))) (hr:SF X K x (fs.set i (some (.ol none (ls.map PV.cl)))) QE wt out):SF X K x fs QE wt out:=⟨fun pins s σ H D I ⟨sr,q⟩=>by
 obtain⟨H',I2,s2,gf,_,_⟩:=aaY I sr hs;exact hr.p pins s σ _ D I2 ⟨s2,wt.mono (fun t q3=>q3.go gf sr s2) q⟩⟩
def SF.YX {i:Nat}{k:W T}{p2:Pos} (hN:X.N.Nodup) (hi:X.N[i]?=some y) (hx:Loc X.env.scope y) (hr:SF X K x (fs.set i (some (.so [] []))) rest k out) (hs:swapsWith (.List [] p2) (some (.Name y p')) pos.line X.env=pure false:=by rfl)
  (hf:X.fn y=true\/X.env.scope.names.lookup y=some .local:=by first | exact .inl rfl | exact .inr rfl | assumption):SF X K x fs (.Assign [.Name y p'] (.List [] p2) pos::rest) k out:=SF.step (tN hN hi hx (JU cE) hs hf) fun D σ H ⟨sr,q⟩=>⟨Bd _,fun a H1 s1 e1 n1=>by
 have no:=sr.noOwn n1;have oa:iM K H1 a (.so [] []):=⟨e1,by simp,by simp,rfl,fun j b l h=>by simp at h⟩;have s2:=(sr.same s1).tM (t:=.so [] []) oa no i;exact⟨_,k,hr,s2,k.mono (fun t q2=>q2.go (cK.tM (sr.same s1) (cK.same s1 sr) no n1 i) sr s2) q⟩⟩
def So (ls:List (List PV)):PV->W (Nat×List PV)
 | .int k=>.yt ((qV ls.length k).bind fun j=>(ls[j]?).map fun l=>(j,l))
 | _=>.fail
def SF.Qr (i:Nat) {k:List Addr->List (List PV)->W T} (hs:fs[i]?=some (some (.so bs ls))) (hK:X.K=K) (hN:X.N[i]?=some y) (hv:xw X.env.scope y) (he:LF X K fs e wl) (hr:∀bs' V2,SF X K x (fs.set i (some (.so bs' V2))) rest (k bs' V2) out)
  (hd:(y==("__debug__":Str))=false:=by decide) (iW:(y==("__classdict__":Str))=false:=by decide) (fg:attributeBase (.Name y p) "append" X.env (eval (.Name y p) X.env)=eval (.Name y p) X.env:=by rfl)
  (qt:((backTo bo (starEach [e] X.env)).all (fun x=>!x.1)&&(backToKw bo (keywordEach [] X.env)).all (fun x=>x.1.isSome)
   && decide ([e].length+([]:List Keyword).length+(if ([]:List Keyword).isEmpty then 0 else 1) < 30))=true:=by rfl)
  (fe:(apos.endLine==bo.line)=true:=by rfl) (xc:starEach [e] X.env=(false,eval e X.env)::starEach [] X.env:=by rfl) (fP:(backTo bo (starEach [] X.env)).any (·.1)=false:=by rfl)
  (uy:swapsWith (.Call (.Attribute (.Name y p) "append" apos) [e] [] bo) none pos.line X.env=pure false:=by rfl) :
  SF X K x fs (.Expr (.Call (.Attribute (.Name y p) "append" apos) [e] [] bo) pos::rest) (.bind wl fun l=>.gs (ls.length < sizeLine) (.bind (.any fun _=>True) fun bs'=>.bind (.ret (ls++[l])) fun V2=>k bs' V2)) out:=
 SF.step (oo (tS K hK Bz D7 D6 ub (dg hN hv hd iW) (bc he.p cE xc) fg qt fe xc fP) uy) fun D σ H ⟨sr,q⟩=>by
  obtain⟨a,e1,q1,q2,q3,q4,q5⟩:=jo sr hs;refine⟨_,e1,.inl ⟨rfl,_,cT.of q1⟩,sr,wl.mono (fun l ql b vs H1 g1 s1 nb eb vl=>?_) q⟩;obtain⟨a',mK,r1,r2,r3,r4,r5⟩:=jo s1 hs;rw [e1] at mK;cases mK;refine⟨a,_,_,rfl,rfl,r1,by rw [Af,r4];exact ql.1,fun H2 sx h2=>?_⟩;have hq:=ql.2 (bs++[b]) trivial;have Ha:H a≠none:=fun z=>by rw [q1] at z;cases z
  have ab:a≠b:=fun z=>Ha (z▸nb);have bin:∀c∈bs,∃ws,H c=some (.lst ws):=fun c hc=>by
   obtain⟨j,hj⟩:=Ct hc;obtain⟨ws,e,_⟩:=q5 j c _ hj (Ae (by rw [<- q4];exact (Aj.mp hj).1));exact⟨ws,e⟩
  have bn:b∉bs:=fun z=>by obtain⟨ws,e⟩:=bin b z;rw [nb] at e;cases e
  have nbo:=sr.noOwn nb;have tk:bq K H1 H2:=⟨fun c us z=>sx c _ (fun w=>by subst w;rw [r1] at z;cases z) z,fun c o u z=>sx c _ (fun w=>by subst w;rw [r1] at z;cases z) z⟩;have oa:iM K H2 a (.so (bs++[b]) (ls++[l])):=by
   refine⟨by rw [h2,A1];rfl,fun z=>?_,?_,by simp [r4],fun j c l' h1 h3=>?_⟩
   ·rcases A2.mp z with z | z
    ·exact r2 z
    ·exact ab (by simpa using z)
   ·exact CZ.mpr ⟨r3,by simp,fun u hu v hv w=>by simp at hv;subst hv;subst w;exact bn hu⟩
   ·rcases iY h1 with h1 | ⟨rfl,rfl⟩
    ·rcases iY h3 with h3 | ⟨rfl,rfl⟩
     ·obtain⟨ws,f1,f2⟩:=r5 j c l' h1 h3;exact⟨ws,sx c _ (fun z=>by subst z;exact r2 (A5 h1)) f1,aH.tk tk f2⟩
     ·have:=(Aj.mp h1).1;omega
    ·rcases iY h3 with h3 | ⟨_,rfl⟩
     ·have:=(Aj.mp h3).1;omega
     ·exact⟨vs,sx c _ (Bw ab) eb,aH.tk tk vl⟩
  have WE:∀c,(SL.so (bs++[b]) (ls++[l])).has a c->(SL.so bs ls).has a c\/c=b:=fun c h=>by
   rcases h with h | h
   ·exact .inl (.inl h)
   ·rcases A2.mp (show c∈bs++[b] from h) with h | h
    ·exact .inl (.inr h)
    ·exact .inr (by simpa using h)
  have s2:aQ K H2 σ (fs.set i (some (.so (bs++[b]) (ls++[l])))):=by
   refine⟨by simp [s1.len],fun j t z=>?_,fun j k t u b1 b2 c z1 z2 o1 o2 y1 y2 w1 w2=>?_⟩
   ·rcases aY z with⟨rfl,rfl⟩ | ⟨n,z⟩
    ·exact⟨_,e1,.inr ⟨a,rfl,oa⟩⟩
    ·obtain⟨u,m1,m2⟩:=s1.at' j t z;exact⟨u,m1,m2.mono tk (fun x c o ec ow hc zz=>sx c o (fun w=>by subst ec;subst w;exact n (s1.nd j i t _ x c c z hs ow rfl m1 e1 hc (.inl rfl))) zz)⟩
   ·have N5:∀{j:Nat}{t:SL}{c':Addr},fs[j]?=some (some t)->t.own=true->σ[j]?=some (some (.ref c'))->¬t.has c' b:=fun {j t c'} m1 m2 m3 m4=>nbo ⟨j,t,c',m1,m2,m3,m4⟩;rcases aY z1 with⟨rfl,rfl⟩ | ⟨n1,v1⟩ <;> rcases aY z2 with⟨m,rfl⟩ | ⟨n2,v2⟩
    ·exact m.symm
    ·rw [e1] at y1;cases y1;rcases WE c w1 with w1 | w1
     ·exact s1.nd _ k _ u _ b2 c hs v2 rfl o2 e1 y2 w1 w2
     ·exact absurd (w1▸w2) (N5 v2 o2 y2)
    ·subst m;rw [e1] at y2;cases y2;rcases WE c w2 with w2 | w2
     ·exact s1.nd j _ t _ b1 _ c v1 hs o1 rfl y1 e1 w1 w2
     ·exact absurd (w2▸w1) (N5 v1 o1 y1)
    ·exact s1.nd j k t u b1 b2 c v1 v2 o1 o2 y1 y2 w1 w2
  have g2:cK σ fs H σ (fs.set i (some (.so (bs++[b]) (ls++[l])))) H2:=by
   refine⟨fun c o z n=>⟨sx c o (fun w=>by subst w;exact n ⟨i,_,c,hs,rfl,e1,.inl rfl⟩) (g1.qT z n),fun yy=>?_⟩,fun c z=>?_,fun c φ z=>?_⟩
   ·obtain⟨j,t,x,z1,z2,z3,z4⟩:=yy;rcases aY z1 with⟨rfl,rfl⟩ | ⟨m,z1⟩
    ·rw [e1] at z3;cases z3;rcases WE c z4 with z4 | rfl
     ·exact n ⟨j,_,_,hs,rfl,e1,z4⟩
     ·rw [nb] at z;cases z
    ·exact n ⟨j,t,x,z1,z2,z3,z4⟩
   ·refine g1.there c ?_;cases zz:H1 c with
    | none=>rfl
    | some o=>
     by_cases ca:c=a
     ·subst ca;rw [h2] at z;cases z
     ·rw [sx c o ca zz] at z;cases z
   ·obtain⟨j,p1,p2⟩:=z;have ji:j≠i:=fun w=>by subst w;rw [hs] at p1;cases p1
    exact .inl ⟨j,by rw [aF ji];exact p1,p2⟩
  exact⟨_,k _ _,hr _ _,s2,(k _ _).mono (fun t q2=>q2.go g2 sr s2) hq⟩
def SF.YY (i:Nat) {k:List (List PV)->W T} (hs:fs[i]?=some (some (.so bs ls))) (hK:X.K=K) (hN:X.N[i]?=some y) (hv:xw X.env.scope y) (he:EF X K fs e we) (h1:EF X K fs e1 w1) (h2:EF X K fs e2 w2) (vC:sP e1) (hr:∀V2,SF X K x (fs.set i (some (.so bs V2))) rest (k V2) out)
  (ha:∀v,assign (.Subscript (.Subscript (.Name y p) e1 tw) e2 ft) X.env v=(do
   let ov <- holding [v] (eval (.Subscript (.Name y p) e1 tw) X.env)
   let iv <- holding [v,ov] (eval e2 X.env)
   standAt ft
   holding [v,ov,iv] (setItem ov iv v)
   release [v,ov,iv] []):=by intro _;rfl)
  (hd:(y==("__debug__":Str))=false:=by decide) (iW:(y==("__classdict__":Str))=false:=by decide) (Z4:swapsWithSole [.Subscript (.Subscript (.Name y p) e1 tw) e2 ft] e pos.line X.env=pure false:=by rfl) (hw:swappedStores [.Subscript (.Subscript (.Name y p) e1 tw) e2 ft] e X.env=pure none:=by rfl)
  (hq1:(assignEach [.Subscript (.Subscript (.Name y p) e1 tw) e2 ft] X.env).map (·.2)=[assign (.Subscript (.Subscript (.Name y p) e1 tw) e2 ft) X.env]:=by rfl) :
  SF X K x fs (.Assign [.Subscript (.Subscript (.Name y p) e1 tw) e2 ft] e pos::rest) (.bind we fun v=>.bind w1 fun n=>.bind (So ls n) fun jl=>.bind w2 fun m=>.bind (jm jl.2 m v) fun l'=>.bind (.ret (ls.set jl.1 l')) k) out:=
 SF.step (yi he.p (NQ (NT (Kh K hK) (dg hN hv hd iW) h1.p vC) h2.p pT ha) Z4 hw hq1) fun D σ H ⟨sr,q⟩=>by
  refine⟨sr,we.mono (fun v qv u H1 g1 s1 v1=>?_) q⟩;obtain⟨a,mK,q1,q2,q3,q4,q5⟩:=jo s1 hs;refine⟨_,mK,s1,w1.mono (fun n qn u2 H2 g2 s2 v2=>?_) qv⟩;obtain⟨a2,W9,r1,r2,r3,r4,r5⟩:=jo s2 hs;rw [mK] at W9;cases W9;cases v2 with
  | int kk=>
   have qn:(W.yt ((qV ls.length kk).bind fun j=>(ls[j]?).map fun l=>(j,l))).run _:=qn;cases hj:qV ls.length kk with
   | none=>rw [hj] at qn;exact qn.elim
   | some j=>
    have jl:=(yS hj).2.1;have hl:ls[j]?=some ls[j]:=Ae jl;rw [hj] at qn;simp only [Option.bind_some] at qn;rw [hl] at qn;have qn:(W.bind w2 fun m=>.bind (jm ls[j] m v) fun l'=>.bind (.ret (ls.set j l')) k).run _:=qn;have hb:bs[j]?=some (bs[j]'(by omega)):=Ae (by omega);generalize bs[j]'(by omega)=b at hb;generalize ls[j]=l at hl qn;have hix:cI (bs.map V.ref) kk=some (.ref b):=by
     unfold cI;rw [Af,r4,hj];show (bs.map V.ref)[j]?=_;rw [Ai,hb];rfl
    refine .inl ⟨a,_,kk,.ref b,rfl,rfl,cT.of r1,hix,s2,w2.mono (fun m qm u3 H3 g3 s3 v3=>?_) qn⟩;obtain⟨a3,PN,p1,p2,p3,p4,p5⟩:=jo s3 hs;rw [mK] at PN;cases PN;cases v3 with
    | int k2=>
     have qm:(match qV l.length k2 with | some j2=>W.ret (l.set j2 v) | none=>W.fail).run _:=qm;cases OY:qV l.length k2 with
     | none=>rw [OY] at qm;exact qm.elim
     | some j2=>
      rw [OY] at qm;obtain⟨ws,f1,f2⟩:=p5 j b l hb hl;refine⟨b,ws,k2,j2,rfl,rfl,f1,by rw [f2.length];exact OY,fun H4 sx h4=>?_⟩;have hbm:=A5 hb;have ab:a≠b:=fun z=>p2 (z▸hbm);obtain⟨s4,g4⟩:=qR (t':=.so bs (ls.set j (l.set j2 v))) s3 hs rfl (by simp) mK (c:=b) (.inr hbm) (.inr hbm) (fun c h=>h) rfl sx fun tk=>by
       refine⟨sx a _ ab p1,p2,p3,by simp [p4],fun j' b' l' m1 m2=>?_⟩;by_cases c:j'=j
       ·subst c;rw [hb] at m1;cases m1;rw [BD (by omega)] at m2;cases m2;exact⟨_,h4,aH.tk tk (f2.set ((g2.trans g3).vr s1 v1) j2)⟩
       ·rw [Bq (Bw c)] at m2;obtain⟨sY,f3,f4⟩:=p5 j' b' l' m1 m2;refine⟨sY,sx b' _ (fun z=>?_) f3,aH.tk tk f4⟩;subst z;have h1:=Aj.mp hb;have h2:=Aj.mp m1;exact c ((Ej p3).mp (h2.2.trans h1.2.symm))
      exact⟨_,k _,hr _,s4,(k _).mono (fun t q3=>q3.go (((g1.trans g2).trans g3).f.trans g4) sr s4) qm⟩
    | _=>exact qm.elim
  | _=>exact qn.elim
end
end
section
open PySem PySem.Spec PyProof.Rows L2 PL
variable {K:Aa}
structure Qy (K:Aa) (a:Addr) (ts:List Str):Prop where
 ex:∃(o:Obj) (ar:Array Value) (n:Nat),K.lookup a=some o/\o.cls=.type "tuple"/\o.data=.seq ar n/\ar.size<=sizeLine/\Vals (ts.map V.str) ar.toList
def tup3K {a:Addr}{x y z:Str}{t1 t2 t3:Tok}{od:Option Addr}{n:Nat}{Lx:Array (Option Value)} (h:K.lookup a=some ⟨.type "tuple",od,.seq #[.str x t1,.str y t2,.str z t3] n,Lx⟩):Qy K a [x,y,z]:=⟨_,_,_,h,rfl,rfl,bb (by show 3<=_;decide),.cons ⟨_,rfl⟩ (.cons ⟨_,rfl⟩ (.cons ⟨_,rfl⟩ .nil))⟩
section
variable {X:Cx}{fs:aV}{tg:Expr}{pos:Pos}
theorem Jz (H:Hp):∀ts:List Str,aH K [] H (ts.map V.str) (ts.map PV.str)
 | []=>.nil
 | t::ts=>.cons (.str t) (Jz H ts)
def ZS (hK:X.K=K) {x:Str}{a:Addr}{ts:List Str} (hm:X.mg x=some (.ref a)) (T:Qy K a ts) (hg:Gl X x:=by rfl) (hd:(x==("__debug__":Str))=false:=by decide):sR X K fs tg (.Name x pos) (.ret (ts.map PV.str)):=⟨by
 subst hK;intro pins s σ H R I ⟨sr,q⟩;have sq:∀H',dc X.K H' a (ts.map V.str):=fun _=>.inr T.ex;refine bM (JV hg hm (v:=.ref a) rfl hd pins s σ H (fun u H1=>u=.ref a/\H1=H) I ⟨rfl,rfl⟩) fun v s1 ⟨x,H1,I1,r1,e1,e2⟩=>?_;subst e1;subst e2;cases r1;obtain⟨ar,rv,pl,hz⟩:=I1.tuple (sq _);have jf:JF X.K H1 (Itt X.K a) (ts.map PV.str):=⟨by rw [Af] at hz ⊢;exact hz,fun H' t=>by
  have e2:=Jz (K:=X.K) H' ts;refine⟨fun i p hp=>?_,_,sq H',by rw [e2.length];exact Am _⟩;obtain⟨v,h3,h4⟩:=e2.get hp;refine⟨⟨_,v,sq H',h3⟩,fun x H3 y=>?_⟩;obtain⟨rfl,y⟩:=y;have:=y _ (sq _);rw [h3] at this;cases this;exact⟨kG.refl _,h4⟩⟩
 refine Cj (show s1.heap.IsTuple a ar.toArray from pl) ?_;refine⟨s1.heap.objs.size,[s1.heap.objs.size],_,_,H1,rfl,I1.kept (t':=s1.toks) fun b o e=>Ak _ e,tj a _,⟨_,An _ rfl,rfl,rfl⟩,fun b hb=>?_,q _ H1 .refl sr jf⟩;have e:b=s1.heap.objs.size:=by simpa using hb
 subst e;exact I1.zb (Am _) (I1.bD.fresh (Am _))⟩
end
def M8 {prog:Program}{w:World}{A:Around}{E:Value->Shared->Prop}{s:Shared}{l:Addr}{vs:List Value}{ns:List Int}{Q:Value->Shared->Prop} (hh:A.handled=none) (hl:s.heap.IsTuple l vs.toArray) (hi:IntsAre vs ns)
  (h:∀(h':Heap) (t:Tok) tk,(∀b o,s.heap.get? b=some o->h'.get? b=some o)->Q (.int ns.sum t) {s with heap:=h',toks:=tk}):wpAny (model prog w) A (call (.builtin "sum") [.ref l]) Q E s:=by
 obtain⟨xs,e⟩:=hi.allInts.items;have XM:ns=xs.toList.map (·.1):=by rw [<- hi.numsOf,<- nums_intItems,<- e]
 rw [e] at hl;have my:l < s.heap.objs.size:=by obtain⟨_,e,_⟩:=hl;exact Ao e
 refine call_sum_walkG (Cj hl ?_);refine⟨_,_,_,_,_,_,numAt xs,rfl,Walks.tuple (A:=A.in1) hh _ l (AJ my) (intItems xs),⟨⟨_,An _ rfl,rfl,rfl⟩,hl.push _⟩,fun b hb=>?_,(fun _ _=>intItems_at),fun h' tk t' hk=>?_⟩
 ·show b < (s.heap.push _).objs.size;rw [Cg];rcases Av.mp hb with rfl | hb
  ·exact C6 _
  ·rcases Av.mp hb with rfl | hb
   ·exact D1 my
   ·cases hb
 ·have:=h h' t' tk fun b o e=>hk b o (fun hm=>by
   rcases Av.mp hm with e1 | hm
   ·exact absurd (e1▸Ao e) (AX _)
   ·cases hm) (Ak _ e)
  have e3:(intItems xs).size=xs.size:=by simp [intItems]
  rw [e3,preSum_eq,BC (by simp),<- XM];exact this
def Mn {X:Cx} (hK:X.K=K) (hc:X.calm=true):bL X (.builtin "sum") (fun xs H Q=>∃(p:Addr) (ns:List Int),xs=[.ref p]/\(cT K H p (ns.map V.int)\/dc K H p (ns.map V.int))/\Q (.int ns.sum) H):=by
 subst hK;intro pins s σ H xs us Q I r h;obtain⟨p,ns,rfl,hq,q⟩:=h;obtain⟨u,rfl,rx⟩:=vals1 r;cases rx;rcases hq with hq | hq
 ·obtain⟨ar,r',pl,hz⟩:=I.list hq;exact wJ (I.ok.hd hc) pl.isList (intsAre_of r') fun h' t tk hk=>⟨.int _,H,I.kept (t':=tk) hk,⟨t,rfl⟩,q⟩
 ·obtain⟨ar,r',pl,hz⟩:=I.tuple hq;exact M8 (I.ok.hd hc) (show s.heap.IsTuple p ar.toArray from pl) (intsAre_of r') fun h' t tk hk=>⟨.int _,H,I.kept (t':=tk) hk,⟨t,rfl⟩,q⟩
def W6 {X:Cx}{fs:aV}{e:Expr}{wl:W (List PV)}{p pos:Pos} (hK:X.K=K) (hc:X.calm=true) (hg:Gl X "sum") (hm:X.mg "sum"=none) (ha:IF X K fs e wl) (he:starEach [e] X.env=(false,eval e X.env)::starEach [] X.env:=by rfl) (ef:(backTo pos (starEach [] X.env)).any (·.1)=false:=by rfl):EF X K fs (.Call (.Name "sum" p) [e] [] pos) (.bind wl og):=⟨PE.imp (e7 (Mn hK hc) hg hm (show bootBuiltins "sum"=some (.builtin "sum") by rfl) (bc ha.p cE he) (by decide) (by decide) he ef) fun σ H Q ⟨sr,q⟩=>⟨sr,wl.mono (fun l q1 u1 H1 g1 s1 v1=>by
 obtain⟨ns,el,_,q2⟩:=wK q1;obtain⟨a,vs,rfl,h1,r1⟩:=v1;rw [el] at r1;have:=j5 r1;subst this;exact⟨a,ns,rfl,h1.imp TK.sq dc.of,q2 _ H1 g1 s1 (.int _)⟩) q⟩⟩
def get_dict {X:Cx} (hu:X.A.units+1 < cLine):Xv X (fun o i H Q=>∃a v,o=.ref a/\qN H a i (some v)/\Q v H):=fun pins s σ H o i ov iv Q I ro ri ⟨a,v,e,g,q⟩=>by
 subst e;cases ro;exact xn hu I g ri fun w' s' I' r=>⟨v,H,I',r,q⟩
section
variable {X:Cx}{a e ei:Expr}{rest:List Stmt}{pos p p' ft:Pos}{fs:aV}{T:Type}{out:T->End}{x:Bool}{we wi:W PV}{kvs:List (Key×PV)}{y:Str}
def SF.aej (i:Nat) {op:Operator}{ti:Tw}{M:M2}{k:List (Key×PV)->W T} (hs:fs[i]?=some (some (.od kvs))) (hu:X.A.units+200 < cLine) (hN:X.N[i]?=some y) (hv:xw X.env.scope y) (hi:EF X K fs ei wi) (he:EF X K fs e we) (ho:X8 X op ti) (hM:M2.Ok K ti M) (hr:∀l',SF X K x (fs.set i (some (.od l'))) rest (k l') out)
  (hd:(y==("__debug__":Str))=false:=by decide) (iW:(y==("__classdict__":Str))=false:=by decide)
  (ha:∀ov iv new,augStore ei ov iv new=(do holding [new,ov,iv] (setItem ov iv new);release [new,ov,iv] [];pure .next):=by intros;rfl) :
  SF X K x fs (.AugAssign (.Subscript (.Name y p) ei ft) op e pos::rest) (.bind wi fun n=>.bind (ur n) fun kk=>.bind (.yt (eU kvs kk)) fun g=>.bind we fun v=>.bind (of2 M g v) fun r=>.bind (.gs (kvs.length < sizeLine) (.ret (HL kvs kk r))) k) out:=
 SF.step (JQ (dg hN hv hd iW) hi.p (get_dict (by omega)) he.p ho (Lf (by omega)) ha) fun D σ H ⟨sr,q⟩=>by
  obtain⟨a,vs,e1,h1,r1⟩:=mm sr hs;refine⟨_,e1,sr,wi.mono (fun n q1 u1 H1 g1 s1 v1=>?_) q⟩;obtain⟨kk,rfl,q1⟩:=Oz v1 q1;have q1:(W.yt (eU kvs kk)).run _:=q1;obtain⟨a',vs1,mK,iX,Fx⟩:=mm s1 hs;rw [e1] at mK;cases mK;cases hg:eU kvs kk with
  | none=>rw [hg] at q1;exact q1.elim
  | some g=>
   rw [hg] at q1;obtain⟨u,k1,k2⟩:=Fx.get kk hg;refine⟨a,u,rfl,by rw [<- k1];exact qN.k iX,s1,we.mono (fun v q2 u2 H2 g2 s2 v2=>?_) q1⟩;refine yu hM s2 (g2.vr s1 k2) v2 ((of2 M g v).mono (fun r q3 u3 H3 g3 s3 v3=>?_) q2);obtain⟨a',vs3,PN,L5,NF⟩:=mm s3 hs;rw [e1] at PN;cases PN;obtain⟨hz,q3⟩:=q3;refine⟨a,vs3,kk,rfl,rfl,L5,by rw [NF.length];exact hz,fun H4 sx h4=>?_⟩;obtain⟨s4,g4⟩:=nk (t':=.od (HL kvs kk r)) s3 hs rfl (by simp) e1 sx fun tk=>⟨_,h4,(NF.put kk v3).1,aH.tk tk (NF.put kk v3).2⟩;exact⟨_,k _,hr _,s4,(k _).mono (fun t q4=>q4.go (((g1.trans g2).trans g3).f.trans g4) sr s4) q3⟩
def X4 (ts:List (Str×Int)):List (Key×PV):=ts.map fun t=>(.inr t.1,.int t.2)
def KH (ts:List (Str×Int)):List (Key×V):=ts.map fun t=>(.inr t.1,.int t.2)
theorem wW:∀(more acc:List (Key×V)),((acc++more).map (·.1)).Nodup->iV acc more=acc++more
 | [],acc,_=>by simp [iV]
 | kv::more,acc,h=>by
  have e:putK acc kv.1 kv.2=acc++[kv]:=by
   unfold putK;rw [if_neg];intro hc;obtain⟨z,hz,e⟩:=BO.mp hc;have e:=of_decide_eq_true e;rw [A1,CZ] at h;exact h.2.2 z.1 (AB.mpr ⟨z,hz,rfl⟩) kv.1 (by simp) e
  have h2:iV acc (kv::more)=iV (putK acc kv.1 kv.2) more:=rfl;rw [h2,e,wW more (acc++[kv]) (by simpa using h)];simp
theorem JY {σ:L2.St}{Q:List (V×V)->Hp->Prop}:∀(ts:List (Str×Int)) (H:Hp) (Q:List (V×V)->Hp->Prop),Q (ts.map fun t=>(V.str t.1,V.int t.2)) H->xU (ts.map fun t=>(tC (.str t.1),tC (.int t.2))) σ H Q
 | [],H,Q,q=>q
 | t::ts,H,Q,q=>JY (Q:=Q) ts H (fun ps H3=>Q ((V.str t.1,V.int t.2)::ps) H3) q
def P1 (H:Hp) (ts:List (Str×Int)):cW K H (KH ts) (X4 ts):=by
 refine⟨by simp [KH,X4],?_⟩
 induction ts with
 | nil=>exact .nil
 | cons t ts ih=>exact .cons (.int t.2) ih
def SF.YZ (ts:List (Str×Int)) {i:Nat}{k:W T}{p2:Pos}{keys:List (Option Expr)}{values:List Expr} (hN:X.N.Nodup) (hi:X.N[i]?=some y) (hx:Loc X.env.scope y) (hp:PPs X p2 keys values (ts.map fun t=>(tC (.str t.1),tC (.int t.2)))) (hr:SF X K x (fs.set i (some (.od (X4 ts)))) rest k out) (O4:keys.all (·.isSome)=true:=by rfl) (hl:keys.length=values.length:=by rfl) (h0:keys≠[]:=by simp) (h15:keys.length<=15:=by decide) (ht:ts.length<=15:=by decide) (hnd:(ts.map (·.1)).Nodup:=by decide +kernel) (hs:swapsWith (.Dict keys values p2) (some (.Name y p')) pos.line X.env=pure false:=by rfl)
  (hf:X.fn y=true\/X.env.scope.names.lookup y=some .local:=by first | exact .inl rfl | exact .inr rfl | assumption):SF X K x fs (.Assign [.Name y p'] (.Dict keys values p2) pos::rest) k out:=SF.step (tN hN hi hx (RF hp O4 hl h0 h15) hs hf) fun D σ H ⟨sr,q⟩=>fun a n1=>by
 refine JY (Q:=fun _ _=>True) ts _ _ ⟨aM,KH ts,by simp [KH,kV],by simpa [KH] using ht,?_⟩;have em:iV [] (KH ts)=KH ts:=wW _ [] (by
  have e:(KH ts).map (·.1)=(ts.map (·.1)).map En:=by simp [KH]
  rw [CC,e];exact List.Pairwise.map _ (fun a b h e=>h (En.inj e)) hnd)
 rw [em];have s1:kG H (upd (upd H a (.dK [])) a (.dK (KH ts))):=fun b u hb=>by
  have:b≠a:=fun e=>by rw [e,n1] at hb;cases hb
  rw [av this,av this];exact hb
 have e1:(upd (upd H a (.dK [])) a (.dK (KH ts))) a=some (.dK (KH ts)):=aM;generalize upd (upd H a (.dK [])) a (.dK (KH ts))=H1 at s1 e1;have no:=sr.noOwn n1;have s2:=(sr.same s1).tM (t:=.od (X4 ts)) ⟨KH ts,e1,(P1 (K:=K) H1 ts).1,(P1 (K:=K) H1 ts).2⟩ no i;exact⟨_,k,hr,s2,k.mono (fun t q2=>q2.go (cK.tM (sr.same s1) (cK.same s1 sr) no n1 i) sr s2) q⟩
end
end
open PySem PySem.Spec PyProof.Rows L2 PL
def cP (ns:List Int):Prop:=∃g s c:Int,ns=[g,s,c]/\0<=g/\0<=s/\s < 2305843009213693951/\0<=c
def drawn (m:Int):W PV:=.any fun v=>∃d:Int,v=.int d/\0<=d/\d < m
def aW:PV->W PV
 | .int m=>.gs (0 < m/\m<=2000) (drawn m)
 | _=>.fail
def pZ {g:Int->Int->PV}{i j:Int}:of2 (aI g) (.int i) (.int j)=.ret (g i j):=W.ext' fun Q=>⟨CK,fun q=>⟨rfl,q⟩⟩
def su {C:Int->Int->Prop}{g:Int->Int->PV}{i j:Int}:of2 (Xq C g) (.int i) (.int j)=.gs (C i j) (.ret (g i j)):=W.ext' fun Q=>⟨fun q=>⟨q.1,q.2.2⟩,fun q=>⟨q.1,rfl,q.2⟩⟩
section
variable (i j:Int) (a:Bool) (x y:PV) (l m:List PV) (s t:Str)
@[simp] theorem qA:of2 p0 (.int i) (.int j)=.ret (.int (i-j)):=pZ
@[simp] theorem IT:of2 jT (.int i) (.int j)=.gs (IntMulOk i j) (.ret (.int (i*j))):=su
@[simp] theorem W3:of2 oDiv (.int i) (.int j)=.gs (QD i j) (.ret (.int (i / j))):=su
@[simp] theorem Pq:of2 oMod (.int i) (.int j)=.gs (0 < j) (.ret (.int (i % j))):=su
@[simp] theorem Pm:of2 yz (.int i) (.int j)=.gs (MC i j) (.ret (.int (i ^ j.toNat))):=su
@[simp] theorem Ks:of2 oLt (.int i) (.int j)=.ret (.bl (decide (i < j))):=pZ
@[simp] theorem aaB:of2 oLe (.int i) (.int j)=.ret (.bl (decide (i<=j))):=pZ
@[simp] theorem UA:of2 ZC (.int i) (.int j)=.ret (.bl (decide (j < i))):=pZ
@[simp] theorem aaC:of2 oGe (.int i) (.int j)=.ret (.bl (decide (j<=i))):=pZ
@[simp] theorem GW:of2 Kj (.int i) (.int j)=.ret (.int (i+j)):=pZ
def uM:of2 dP x y=.gs (Md x y) (.ret (.bl (dr x y))):=W.ext' fun Q=>⟨fun q=>⟨q.1,q.2.2⟩,fun q=>⟨q.1,rfl,q.2⟩⟩
def Uz:of2 Gg x y=.gs (Md x y) (.ret (.bl (!dr x y))):=W.ext' fun Q=>⟨fun q=>⟨q.1,q.2.2⟩,fun q=>⟨q.1,rfl,q.2⟩⟩
@[simp] theorem uL:of2 LA x .aU=.ret (.bl x.oS):=W.ext' fun Q=>⟨CK,fun q=>⟨rfl,q⟩⟩
def WZ {c:Nat} (h:cI s.cps.toList i=some c):of2 N4 (.str s) (.int i)=.gs (s.length<=sizeLine) (.ret (.str ⟨#[c]⟩)):=W.ext' fun Q=>by
 show (s.length<=sizeLine/\match cI s.cps.toList i with | some c=>_/\_ | none=>False)↔_;rw [h];exact⟨fun q=>⟨q.1,q.2.2⟩,fun q=>⟨q.1,rfl,q.2⟩⟩
@[simp] theorem f7:addW (.int i) (.int j)=.ret (.int (i+j)):=(rfl)
@[simp] theorem S4:addW (.str s) (.str t)=.gs (s.length+t.length<=sizeLine) (.ret (.str (s++t))):=(rfl)
@[simp] theorem S3:addW (.tup l) (.tup m)=.gs (l.length+m.length<=sizeLine) (.ret (.tup (l++m))):=(rfl)
@[simp] theorem qB:t6 (.int i)=.ret (.int (-i)):=(rfl)
@[simp] theorem bU:asB (.bl a)=.ret a:=(rfl)
@[simp] theorem X1 (w:W PV):Qb (.bl true) w=w:=(rfl)
@[simp] theorem X2 (w:W PV):Qb (.bl false) w=.ret (.bl false):=(rfl)
@[simp] theorem sJ (w:W PV):Tn (.bl true) w=w:=(rfl)
@[simp] theorem S2 (w:W PV):Tn (.bl false) w=.ret (.bl false):=(rfl)
@[simp] theorem Po (w:W PV):orW (.bl true) w=.ret (.bl true):=(rfl)
@[simp] theorem Pp (w:W PV):orW (.bl false) w=w:=(rfl)
@[simp] theorem WW:VQ (.bl a)=.ret (.bl (!a)):=(rfl)
@[simp] theorem cp:eE (.bl a)=.ret a:=(rfl)
@[simp] theorem ab1:eE (.int i)=.ret (i != 0):=(rfl)
@[simp] theorem ab0:eE .aU=.ret false:=(rfl)
@[simp] theorem abZ:eE (.tup l)=.ret (!l.isEmpty):=(rfl)
@[simp] theorem ab2:eE (.cl l)=.ret (!l.isEmpty):=(rfl)
@[simp] theorem aG:ax (.tup l)=.ret l:=(rfl)
@[simp] theorem cq:ax (.cl l)=.ret l:=(rfl)
@[simp] theorem Kt:Og (.cl l)=.ret l:=(rfl)
@[simp] theorem bf:MJ l (.int i)=.yt (cI l i):=(rfl)
@[simp] theorem qC:oC l=.ret (.int l.length):=(rfl)
@[simp] theorem qz:ng l=.ret (.tup l):=(rfl)
@[simp] theorem sI:part (.int i)=.ret (some i):=(rfl)
@[simp] theorem zg:wI (.tup [x,y])=.ret (x,y):=(rfl)
@[simp] theorem WV (z:PV):un3 (.tup [x,y,z])=.ret (x,y,z):=(rfl)
@[simp] theorem Pl (z u:PV):Yy (.tup [x,y,z,u])=.ret (x,y,z,u):=(rfl)
@[simp] theorem S1 (k:Kd):gM k (.int i)=.ret (.bl (k.is (.int i))):=(rfl)
@[simp] theorem zk (k:Kd):gM k (.str s)=.ret (.bl (k.is (.str s))):=(rfl)
@[simp] theorem mB (k:Kd):gM k (.tup l)=.ret (.bl (k.is (.tup l))):=(rfl)
@[simp] theorem ab9 (k:Kd):gM k (.cl l)=.ret (.bl (k.is (.cl l))):=(rfl)
@[simp] theorem aca (k:Kd):gM k (.bl a)=.ret (.bl (k.is (.bl a))):=(rfl)
@[simp] theorem ab8 (k:Kd):gM k .aU=.ret (.bl (k.is .aU)):=(rfl)
@[simp] theorem fh:rH fu [.tup l]=.ret (.int l.length):=W.ext' fun Q=>⟨CK,fun q=>⟨rfl,q⟩⟩
@[simp] theorem iG:rH fu [.cl l]=.ret (.int l.length):=W.ext' fun Q=>⟨CK,fun q=>⟨rfl,q⟩⟩
@[simp] theorem ab3:rH fu [.str s]=.gs (s.length<=sizeLine) (.ret (.int s.length)):=W.ext' fun Q=>⟨fun q=>⟨q.1,q.2.2⟩,fun q=>⟨q.1,rfl,q.2⟩⟩
@[simp] theorem W4:rH Qn [.int i]=.ret (.int (if i < 0 then -i else i)):=W.ext' fun Q=>⟨CK,fun q=>⟨rfl,q⟩⟩
@[simp] theorem acb:rH pz [.int i]=.ret (.int i):=W.ext' fun Q=>⟨CK,fun q=>⟨rfl,q⟩⟩
@[simp] theorem mC:rH pz [.bl a]=.ret (.int (if a then 1 else 0)):=W.ext' fun Q=>⟨CK,fun q=>⟨rfl,q⟩⟩
@[simp] theorem WY:rH Qm [.int i,.int j]=.ret (.int (if j > i then j else i)):=W.ext' fun Q=>⟨CK,fun q=>⟨rfl,q⟩⟩
@[simp] theorem WX:rH Ql [.int i,.int j]=.ret (.int (if j < i then j else i)):=W.ext' fun Q=>⟨CK,fun q=>⟨rfl,q⟩⟩
@[simp] theorem zh (p q:Option Int):Lb (.tup l) p q=.ret (.tup (ph l p q)):=(rfl)
@[simp] theorem ab4:ur (.int i)=.ret (.inl i):=(rfl)
@[simp] theorem Ku:ur (.str s)=.ret (.inr s):=(rfl)
@[simp] theorem dH:hV (.int j)=.gs (okN 0 j) (.ret (iE 0 j.toNat)):=(rfl)
@[simp] theorem SS (k:Int):Nq (.int i) (.int j) (.int k)=.gs (k = -1/\okN j i) (.ret (qZ i (i-j).toNat)):=(rfl)
@[simp] theorem Pn:yj (l++[x])=.ret (l,x):=by unfold yj;simp
@[simp] theorem zi:F0 l (.int i)=.gs (-(2 ^ 63)<=i/\i < 2 ^ 63/\l.length*i.toNat<=sizeLine) (.ret (Al i.toNat l).flatten):=(rfl)
@[simp] theorem SY:Kd.is .int (.int i)=true:=(rfl)
@[simp] theorem ab6:Kd.is .int (.bl a)=true:=(rfl)
@[simp] theorem ab7:Kd.is .bool (.bl a)=true:=(rfl)
@[simp] theorem S0:Kd.is .bool (.int i)=false:=(rfl)
@[simp] theorem zj:Kd.is .str (.str s)=true:=(rfl)
@[simp] theorem o4:Kd.is .str (.tup l)=false:=(rfl)
@[simp] theorem SX:Kd.is .str (.int i)=false:=(rfl)
@[simp] theorem SU:Kd.is .tup (.tup l)=true:=(rfl)
@[simp] theorem SV:Kd.is .tup (.str s)=false:=(rfl)
@[simp] theorem SW:Kd.is .tup (.int i)=false:=(rfl)
@[simp] theorem ab5:Kd.is .tup (.bl a)=false:=(rfl)
@[simp] theorem bW (h0:0 < i) (h1:i<=2000):aW (.int i)=drawn i:=W.aq ⟨h0,h1⟩
def aZ {m:Int}{Q:PV->Prop} (h:∀d:Int,0<=d->d < m->Q (.int d)):(drawn m).run Q:=fun v ⟨d,e,h0,h1⟩=>e▸h d h0 h1
end
namespace W
variable {α β:Type}
def le (a b:W α):Prop:=∀Q,b.run Q->a.run Q
def le.refl (a:W α):a.le a:=fun _ h=>h
def le.of_eq {a b:W α} (h:a=b):a.le b:=h▸le.refl a
def le.ret {a:W α}{v:α}{f:α->W β}{b:W β} (h:a.le (.ret v)) (hf:(f v).le b):(a.bind f).le b:=fun Q q=>h _ (hf Q q)
def le.use {a:W α}{v:α}{Q:α->Prop} (h:a.le (.ret v)) (q:Q v):a.run Q:=h _ q
end W
section
variable {S R:Type}
@[simp] theorem aas (s:S) (f:PV->S->W S):dQ [] s f=.ret s:=(rfl)
@[simp] theorem XW (x:PV) (r:List PV) (s:S) (f:PV->S->W S):dQ (x::r) s f=.bind (f x s) fun s'=>dQ r s' f:=(rfl)
theorem uI {f:PV->S->W S}{Q:S->Prop} (I:List PV->S->Prop):∀{l:List PV}{s:S},I l s->(∀x r s,I (x::r) s->(f x s).run (I r))->(∀s,I [] s->Q s)->(dQ l s f).run Q
 | [],s,h0,_,he=>he s h0
 | x::r,s,h0,hs,he=>(f x s).mono (fun s' h=>uI I h hs he) (hs x r s h0)
theorem GS {f:PV->S->W (Lp S R)}{Q:Lp S R->Prop} (I:List PV->S->Prop):∀{l:List PV}{s:S},I l s->(∀x r s,I (x::r) s->(f x s).run fun o=>match o with | .go s'=>I r s' | .out t=>Q (.out t))->(∀s,I [] s->Q (.go s))->(FL.nC l s f).run Q
 | [],s,h0,_,he=>he s h0
 | x::r,s,h0,hs,he=>(f x s).mono (fun o h=>match o,h with
  | .go s',h=>GS I h hs he
  | .out t,h=>h) (hs x r s h0)
def gR {f:PV->S->W S}{Q:S->Prop}{l:List PV} (I:Nat->S->Prop) {s:S} (h0:I 0 s) (hs:∀(i:Nat) (x:PV) s,l[i]?=some x->I i s->(f x s).run (I (i+1))) (he:∀s,I l.length s->Q s):(dQ l s f).run Q:=by
 refine uI (fun r s=>∃i,i<=l.length/\r=l.drop i/\I i s) ⟨0,Bd _,rfl,h0⟩ (fun x r s ⟨i,hi,e,h⟩=>?_) (fun s ⟨i,hi,e,h⟩=>?_)
 ·have my:i < l.length:=by
   rcases CU i l.length with h | h
   ·exact h
   ·rw [Ey h] at e;cases e
  rw [Bj my] at e;injection e with e1 e2;subst e1;exact (f _ s).mono (fun s' h'=>⟨i+1,my,e2,h'⟩) (hs i _ s (Ae my) h)
 ·have:i=l.length:=by
   have:=congrArg BH e;rw [Cv] at this;simp at this;omega
  subst this;exact he s h
def SQ {f:PV->S->W (Lp S R)}{Q:Lp S R->Prop}{l:List PV} (I:Nat->S->Prop) {s:S} (h0:I 0 s) (hs:∀(i:Nat) (x:PV) s,l[i]?=some x->I i s->(f x s).run fun o=>match o with | .go s'=>I (i+1) s' | .out t=>Q (.out t)) (he:∀s,I l.length s->Q (.go s)):(FL.nC l s f).run Q:=by
 refine GS (fun r s=>∃i,i<=l.length/\r=l.drop i/\I i s) ⟨0,Bd _,rfl,h0⟩ (fun x r s ⟨i,hi,e,h⟩=>?_) (fun s ⟨i,hi,e,h⟩=>?_)
 ·have my:i < l.length:=by
   rcases CU i l.length with h | h
   ·exact h
   ·rw [Ey h] at e;cases e
  rw [Bj my] at e;injection e with e1 e2;subst e1;exact (f _ s).mono (fun o h'=>match o,h' with
   | .go s',h'=>⟨i+1,my,e2,h'⟩
   | .out t,h'=>h') (hs i _ s (Ae my) h)
 ·have:i=l.length:=by
   have:=congrArg BH e;rw [Cv] at this;simp at this;omega
  subst this;exact he s h
def lO {f:PV->S->W S}{Q:S->Prop}{n:Nat} (I:Nat->S->Prop) {s:S} (h0:I 0 s) (hs:∀(i:Nat) s,i < n->I i s->(f (.int (i:Int)) s).run (I (i+1))) (he:∀s,I n s->Q s):(dQ (iE 0 n) s f).run Q:=
 gR I h0 (fun i x s hx h=>by obtain⟨hi,rfl⟩:=qr hx;rw [Ez];exact hs i s hi h) (fun s h=>he s (by rw [jx] at h;exact h))
def uJ {f:PV->S->W (Lp S R)}{Q:Lp S R->Prop}{n:Nat} (I:Nat->S->Prop) {s:S} (h0:I 0 s) (hs:∀(i:Nat) s,i < n->I i s->(f (.int (i:Int)) s).run fun o=>match o with | .go s'=>I (i+1) s' | .out t=>Q (.out t)) (he:∀s,I n s->Q (.go s)):(FL.nC (iE 0 n) s f).run Q:=
 SQ I h0 (fun i x s hx h=>by obtain⟨hi,rfl⟩:=qr hx;rw [Ez];exact hs i s hi h) (fun s h=>he s (by rw [jx] at h;exact h))
def g9 {c:S->W Bool}{b:S->W S}{Q:S->Prop} (I:Nat->S->Prop) {n:Nat}{s:S} (h0:I n s) (hs:∀n s,I n s->(c s).run fun k=>if k=true then (b s).run (fun s'=>∃m,m < n/\I m s') else Q s):(kY c b s).run Q:=by
 refine⟨n+1,?_⟩;have:∀k n s,n < k->I n s->(m8 c b k s).run Q:=by
  intro k
  induction k with
  | zero=>intro n s h;omega
  | succ k ih=>
   intro n s hn h;refine (c s).mono (fun z q=>?_) (hs n s h);cases z with
   | true=>exact (b s).mono (fun s' ⟨m,hm,h'⟩=>ih m s' (by omega) h') (show (b s).run _ from q)
   | false=>exact q
 exact this (n+1) n s (by omega) h0
theorem J7 {f:PV->W PV}{g:PV->PV}:∀{l:List PV},(∀x∈l,f x=.ret (g x))->cG l f=.ret (l.map g)
 | [],_=>rfl
 | x::r,h=>by
  show W.bind (f x) (fun y=>W.bind (cG r f) fun l=>W.ret (y::l))=_;rw [h x (.head _),J7 fun y hy=>h y (.tail _ hy)];rfl
theorem Ik {f:PV->W (Option PV)}{g:PV->Option PV}:∀{l:List PV},(∀x∈l,f x=.ret (g x))->kW l f=.ret (l.filterMap g)
 | [],_=>rfl
 | x::r,h=>by
  show W.bind (f x) (fun o=>W.bind (kW r f) fun l=>W.ret (o.toList++l))=_;rw [h x (.head _),Ik fun y hy=>h y (.tail _ hy),Bt];cases g x <;> rfl
@[simp] theorem Tp (bs:List Bool):Tq (bs.map PV.bl)=.ret (.bl (bs.all id)):=by unfold Tq;rw [zH];rfl
@[simp] theorem Tj (bs:List Bool):Qt (bs.map PV.bl)=.ret (.bl (bs.any id)):=by unfold Qt;rw [zH];rfl
end
section
variable (i j:Int) (a b:Bool) (x y:PV) (l m:List PV) (s t:Str)
@[simp] theorem Ph:dr (.int i) (.int j)=(i==j):=by rw [dr]
@[simp] theorem Pg:dr (.str s) (.str t)=(s==t):=by rw [dr]
@[simp] theorem Uy:dr (.bl a) (.bl b)=(a==b):=by rw [dr]
@[simp] theorem afr:dr (.tup l) (.tup m)=gT l m:=by rw [dr]
@[simp] theorem afs:dr (.cl l) (.cl m)=gT l m:=by rw [dr]
@[simp] theorem ad9:gT [] []=true:=by rw [gT]
@[simp] theorem ad8:gT (x::l) (y::m)=(dr x y&&gT l m):=by rw [gT]
@[simp] theorem abV:PV.eM (.int i)=true:=by rw [PV.eM] <;> simp
@[simp] theorem ad5:PV.eM (.bl a)=true:=by rw [PV.eM] <;> simp
@[simp] theorem abT:PV.eM (.str s)=true:=by rw [PV.eM] <;> simp
@[simp] theorem abU:PV.eM .aU=true:=by rw [PV.eM] <;> simp
@[simp] theorem abR:PV.eM (.tup l)=fU l:=by rw [PV.eM]
@[simp] theorem ad4:PV.eM (.cl l)=fU l:=by rw [PV.eM]
@[simp] theorem aat:fU []=true:=by rw [fU]
@[simp] theorem XX:fU (x::l)=(PV.eM x&&fU l):=by rw [fU]
@[simp] theorem aay:PV.gk (.int i)=0:=by rw [PV.gk] <;> simp
@[simp] theorem abY:PV.gk (.bl a)=0:=by rw [PV.gk] <;> simp
@[simp] theorem aaw:PV.gk (.str s)=0:=by rw [PV.gk] <;> simp
@[simp] theorem aax:PV.gk .aU=0:=by rw [PV.gk] <;> simp
@[simp] theorem aav:PV.gk (.tup l)=dY l+1:=by rw [PV.gk]
@[simp] theorem abX:PV.gk (.cl l)=dY l+1:=by rw [PV.gk]
@[simp] theorem XZ:dY []=0:=by rw [dY]
@[simp] theorem WR:dY (x::l)=max (PV.gk x) (dY l):=by rw [dY]
def GX:Md (.int i) (.int j):=⟨by simp,by simp,by simp⟩
@[simp] theorem eN:of2 dP (.int i) (.int j)=.ret (.bl (i==j)):=by rw [uM,W.aq (GX i j),Ph]
@[simp] theorem IQ:of2 Gg (.int i) (.int j)=.ret (.bl (!(i==j))):=by rw [Uz,W.aq (GX i j),Ph]
@[simp] theorem W2:of2 dP (.bl a) (.bl b)=.ret (.bl (a==b)):=by rw [uM,W.aq ⟨by simp,by simp,by simp⟩,Uy]
@[simp] theorem aeb:of2 Gg (.bl a) (.bl b)=.ret (.bl (!(a==b))):=by rw [Uz,W.aq ⟨by simp,by simp,by simp⟩,Uy]
end
theorem lP:∀{l:List PV},fU l=true↔∀x∈l,PV.eM x=true
 | []=>by simp
 | x::l=>by rw [fU,AE,lP (l:=l)];simp
theorem lS {n:Nat}:∀{l:List PV},(∀x∈l,PV.gk x<=n)->dY l<=n
 | [],_=>by simp
 | x::l,h=>by
  have h1:=h x (.head _);have h2:=lS (l:=l) fun y hy=>h y (.tail _ hy);rw [dY];omega
structure EV where
 P:Program
 w:World
 K:Aa
 mg:Str->Option Value
 base:Heap
structure DF where
 x:Str
 s:Stmt
 ps:List Str
 k:Nat
 sp:Aa->Sp
abbrev DF.C (d:DF) (v:EV):=TR v.P v.w v.K v.mg v.base d.x d.k d.ps (d.sp v.K)
structure DI (v:EV) (d:DF) where
 f:Addr
 fd:FuncData
 fn:QP v.K d.x d.x d.s f fd
 bi:Binds v.K fd d.ps []
 at':v.mg d.x=some (.ref f)
abbrev DI.O {v:EV}{d:DF} (D:DI v d):Prop:=iu v.P v.w v.K v.mg v.base sT d.k D.f D.fd d.ps (d.sp v.K)
def DI.c {v:EV}{d:DF} (D:DI v d) (h:D.O):d.C v:=⟨D.f,D.fd,h,D.bi,D.fn.kp,D.at'⟩
def DI.cN {v:EV}{d:DF}{k:Nat}{sp:Sp} (D:DI v d) (h:iu v.P v.w v.K v.mg v.base sT k D.f D.fd d.ps sp):TR v.P v.w v.K v.mg v.base d.x k d.ps sp:=⟨D.f,D.fd,h,D.bi,D.fn.kp,D.at'⟩
structure DX (K:Aa) (x:Str) (st:Stmt):Prop where
 ex:∃f fd,AN K mainGlobals x=some (some (.ref f))/\QP K x x st f fd
def dx {K:Aa}{x:Str}{st:Stmt}{f:Addr}{oc:Value}{od an:Option Addr}{Lx:Array (Option Value)}{kV doc pm gw ct:Value} (a:AN K mainGlobals x=some (some (.ref f))) (l:K.lookup f=some ⟨oc,od,.func (B7 x x (kj st) (dI st) (aj st) .none kV doc pm an gw ct),Lx⟩)
  (c:DE K gw x=true) (k:DC K (.ref f)=true):DX K x st:=⟨f,_,a,WN l c k⟩
def j8 {N P:List Str}{sc:Scope} (h1:sc.kind=.function:=by rfl) (h2:sc.isCoroutine=false:=by rfl) (h3:sc.isGenerator=false:=by rfl) (h4:N.Nodup:=by decide +kernel) (h5:N.take P.length=P:=by rfl) (h6:∀x∈P,sc.names.lookup x=some .local\/sc.names.lookup x=some .cell:=by decide +kernel) (h7:∀y∈sc.names,y.2≠.free:=by decide +kernel):ay N P sc:=⟨h1,h2,h3,h4,h5,h6,h7⟩
def lcs {Xs:Scope}{N:List Str}{sc:Scope}{N':List Str}{ix:List (Option Nat)} (h1:sc.kind=.function:=by rfl) (h2:∀y∈sc.names,y.2≠.cell:=by decide +kernel) (h3:∀y∈sc.names,y.2=.local->sc.names.lookup y.1=some .local:=by decide +kernel) (h4:∀y∈sc.names,y.2=.free->(Xs.names.lookup y.1=some .cell\/Xs.names.lookup y.1=some .free):=by decide +kernel) (h5:N'.Nodup:=by decide +kernel) (h6:ix.length=N'.length:=by rfl)
  (h7:((ix.zip N').all fun p=>match p.1 with | none=>true | some j=>decide (N[j]?=some p.2)&&decide (sc.names.lookup p.2=some .free))=true:=by decide +kernel):aD Xs N sc N' ix:=⟨h1,h2,h3,h4,h5,h6,h7⟩
abbrev rO (l:List (Str×NameKind)):Scope:={kind:=.function,names:=(B8 ".0",.local)::l,isGenerator:=false,isCoroutine:=false,more:=[]}
abbrev lo:NameKind:=.local
abbrev gi:NameKind:=.globalImplicit
abbrev fr:NameKind:=.free
section
variable {v:EV}{x:Str}{st:Stmt}{ps N:List Str}{k n:Nat}{ks:List AK}
def sA {m:QQ PV n} (D:DI v ⟨x,st,ps,k+1,fun K=>kU K ks (dU n m)⟩) (S:ay N ps (aj st)) (cert:∀l:List PV,l.length=n->∀(gw:Value) (A:Around) (outer:List Env) (s:Shared) (H:Hp) (E:XK),fY k (A.deeper (envOfC x (aj st) s.heap.objs.size D.f gw))->SF (uX sT v.P v.w v.K v.mg v.base N x (aj st) D.f gw A outer s H E).RZ v.K false (u9 ks l N.length) (dI st) (dU n m l) .rt)
  (WA:ks.length=ps.length:=by rfl) (one:zY ks:=by repeat' first | exact ox | exact ib (n:=0) | exact ib (n:=1) | exact ib (n:=2) | exact ib (n:=3) | exact ib (n:=4) | exact ib (n:=5) | exact ib (n:=6) | apply wU | apply Zy):D.O:=fnV D.fn S WA one cert
def QH {m:QQ (List PV) n} (D:DI v ⟨x,st,ps,k+1,fun K=>jh K ks (dU n m)⟩) (S:ay N ps (aj st)) (cert:∀l:List PV,l.length=n->∀(gw:Value) (A:Around) (outer:List Env) (s:Shared) (H:Hp) (E:XK),fY k (A.deeper (envOfC x (aj st) s.heap.objs.size D.f gw))->SF (uX sT v.P v.w v.K v.mg v.base N x (aj st) D.f gw A outer s H E).RZ v.K false (u9 ks l N.length) (dI st) (dU n m l) .rl)
  (WA:ks.length=ps.length:=by rfl) (one:zY ks:=by repeat' first | exact ox | exact ib (n:=0) | exact ib (n:=1) | exact ib (n:=2) | exact ib (n:=3) | exact ib (n:=4) | exact ib (n:=5) | exact ib (n:=6) | apply wU | apply Zy):D.O:=fnL D.fn S WA one cert
end
section
variable {X:Cx}{K:Aa}{fs:aV}{x:Str}{k k':Nat}{ps:List Str}{ks:List AK}{e:Expr}{es:List Expr}{W':W PV}{WL:W (List PV)}{pos p:Pos}
def eC {m:List PV->W PV}{B:(List PV->W PV)->W PV} (G:TR X.prog X.w X.K X.mg X.base x k ps (kU K ks m)) (hr:fY k' X.A) (ha:AF X K fs (e::es) ks B) (hk:k<=k':=by first | exact EL rfl | exact Am _ | omega) (hg:Gl X x:=by rfl) (hW:W'=B m:=by rfl) (oU:(x==("__debug__":Str))=false:=by decide)
  (he:starEach (e::es) X.env=(false,eval e X.env)::starEach es X.env:=by rfl) (ef:(backTo pos (starEach es X.env)).any (·.1)=false:=by rfl):EF X K fs (.Call (.Name x p) (e::es) [] pos) W':=S7 G hr hk hg ha hW oU he ef
def lC {m:List PV->W (List PV)}{B:(List PV->W (List PV))->W (List PV)} (G:TR X.prog X.w X.K X.mg X.base x k ps (jh K ks m)) (hr:fY k' X.A) (ha:AF X K fs (e::es) ks B) (hk:k<=k':=by first | exact EL rfl | exact Am _ | omega) (hg:Gl X x:=by rfl) (hW:WL=B m:=by rfl) (oU:(x==("__debug__":Str))=false:=by decide)
  (he:starEach (e::es) X.env=(false,eval e X.env)::starEach es X.env:=by rfl) (ef:(backTo pos (starEach es X.env)).any (·.1)=false:=by rfl):LF X K fs (.Call (.Name x p) (e::es) [] pos) WL:=Sd G hr hk hg ha hW oU he ef
def eR (i:Nat) (hN:X.N.Nodup) (hi:X.N[i]?=some x:=by rfl) (hx:Loc X.env.scope x:=by first | exact .inl rfl | exact .inr rfl) (hf:X.fn x=true\/X.env.scope.names.lookup x=some .local:=by first | exact .inl rfl | exact .inr rfl | assumption):PG X (.Name x pos) (dN i):=RB hN hi hx hf
variable {T:Type}{out:T->End}{b:Bool}{rest:List Stmt}{y:Str}{p':Pos}
def sv (i:Nat) {we:W PV}{k:PV->W T} (hN:X.N.Nodup) (he:EF X K fs e we) (hr:∀v,SF X K b (fs.set i (some (.val v))) rest (k v) out) (hi:X.N[i]?=some y:=by rfl) (hx:Loc X.env.scope y:=by first | exact .inl rfl | exact .inr rfl) (hs:swapsWith e (some (.Name y p')) pos.line X.env=pure false:=by rfl)
  (hf:X.fn y=true\/X.env.scope.names.lookup y=some .local:=by first | exact .inl rfl | exact .inr rfl | assumption):SF X K b fs (.Assign [.Name y p'] e pos::rest) (.bind we k) out:=SF.set hN hi hx he hr hs hf
def sl (i:Nat) {wl:W (List PV)}{k:List PV->W T} (hN:X.N.Nodup) (he:LF X K fs e wl) (hr:∀l,SF X K b (fs.set i (some (.ol none l))) rest (k l) out) (hi:X.N[i]?=some y:=by rfl) (hx:Loc X.env.scope y:=by first | exact .inl rfl | exact .inr rfl) (hs:swapsWith e (some (.Name y p')) pos.line X.env=pure false:=by rfl)
  (hf:X.fn y=true\/X.env.scope.names.lookup y=some .local:=by first | exact .inl rfl | exact .inr rfl | assumption):SF X K b fs (.Assign [.Name y p'] e pos::rest) (.bind wl k) out:=SF.acN hN hi hx he hr hs hf
end
def us1 {P:List Value->Prop} (h:∀a,P [a]):∀us:List Value,us.length=1->P us
 | [_],_=>h _
def us2 {P:List Value->Prop} (h:∀a b,P [a,b]):∀us:List Value,us.length=2->P us
 | a::_,e=>us1 (P:=fun l=>P (a::l)) (h _) _ (Fm.inj e)
def us3 {P:List Value->Prop} (h:∀a b c,P [a,b,c]):∀us:List Value,us.length=3->P us
 | a::_,e=>us2 (P:=fun l=>P (a::l)) (h _) _ (Fm.inj e)
def us4 {P:List Value->Prop} (h:∀a b c d,P [a,b,c,d]):∀us:List Value,us.length=4->P us
 | a::_,e=>us3 (P:=fun l=>P (a::l)) (h _) _ (Fm.inj e)
def us5 {P:List Value->Prop} (h:∀a b c d e,P [a,b,c,d,e]):∀us:List Value,us.length=5->P us
 | a::_,e=>us4 (P:=fun l=>P (a::l)) (h _) _ (Fm.inj e)
def us6 {P:List Value->Prop} (h:∀a b c d e f,P [a,b,c,d,e,f]):∀us:List Value,us.length=6->P us
 | a::_,e=>us5 (P:=fun l=>P (a::l)) (h _) _ (Fm.inj e)
def DX.kJ {v:EV}{h:Heap}{d:DF} (D:DX v.K d.x d.s) (X:v.K.In h) (G:h.Ns mainGlobals v.mg)
  (hb:∀(kV doc pm:Value) (an:Option Addr) (gw ct:Value) (us:List Value),us.length=d.ps.length->bindArgs (B7 d.x d.x (kj d.s) (dI d.s) (aj d.s) .none kV doc pm an gw ct) ⟨us,[]⟩=pure (d.ps.zip us):=by
   first
    | exact fun _ _ _ _ _ _=>us1 fun _=>rfl
    | exact fun _ _ _ _ _ _=>us2 fun _ _=>rfl
    | exact fun _ _ _ _ _ _=>us3 fun _ _ _=>rfl
    | exact fun _ _ _ _ _ _=>us4 fun _ _ _ _=>rfl
    | exact fun _ _ _ _ _ _=>us5 fun _ _ _ _ _=>rfl
    | exact fun _ _ _ _ _ _=>us6 fun _ _ _ _ _ _=>rfl
    | exact fun _ _ _ _ _ _=>us7 fun _ _ _ _ _ _ _=>rfl
    | exact fun _ _ _ _ _ _=>us8 fun _ _ _ _ _ _ _ _=>rfl):Nonempty (DI v d):=by
 obtain⟨f,fd,a,F⟩:=D.ex;exact⟨⟨f,fd,F,F.binds hb,D4 X G a⟩⟩
end FL
namespace My
open PySem PySem.Spec PyProof.Rows L2 PL FL
def fF (eV:PV):W (List PV):=
 W.bind (W.ret []) fun eO=>
 W.bind (W.bind (W.ret eV) fun x3=>W.ret [x3]) fun fB=>
 W.bind (kY (fun s4=>(W.bind (W.ret s4.2) fun l5=>W.ret (!l5.isEmpty))) (fun s4=>(
 W.bind (yj s4.2) fun t7=>
 W.bind (W.ret t7.2) fun x9=>W.bind (jC s4.1 x9) fun fX=>
 iw (FO (W.bind (W.bind (W.ret t7.2) (gM .str)) eE)) (
 W.bind (W.bind (W.ret t7.2) ax) fun ZK=>W.bind (zf t7.1 ZK) fun hJ=>
 W.ret (fX,hJ)) (
 W.ret (fX,t7.1)))) (eO,fB)) fun s4=>
 (W.bind (W.ret s4.1) fun l12=>W.ret l12.reverse)
def iD (eV:PV):W PV:=
 W.bind (W.ret []) fun jK=>
 W.bind (W.ret []) fun yE=>
 W.bind (W.bind (W.ret eV) fun x3=>fF x3) fun l30=>W.bind (dQ l30 (jK,yE) fun yo s4=>(
 W.bind (W.bind (W.bind (W.ret yo) (gM .str)) eE) fun b=>W.bind (if b=true then (
 W.bind (W.ret yo) fun Hy=>W.bind (jC s4.1 Hy) fun Jx=>
 W.ret (Jx,s4.2)) else (
 W.bind (yj s4.2) fun t20=>
 W.bind (yj t20.1) fun t22=>
 W.bind (W.bind (W.ret t22.2) fun KU=>W.bind (W.ret t20.2) fun Hx=>W.ret (.tup [KU,Hx])) fun xH=>W.bind (jC s4.1 xH) fun Jw=>
 W.ret (Jw,t22.1))) fun Va=>
 W.bind (b2 p0 (W.bind (W.ret Va.1) oC) (W.ret (.int 1))) fun QT=>W.bind (jC Va.2 QT) fun Gs=>
 W.ret (Va.1,Gs))) fun s4=>
 (W.bind (W.ret s4.1) ng)
def dh (cF:PV):W PV:=
 (iw (W.bind (W.bind (W.ret cF) (gM .str)) eE) (W.ret (.tup [])) (W.ret cF))
def eL (eV:PV):W PV:=
 W.bind (W.bind (W.ret eV) fun x2=>iD x2) fun jK=>
 W.bind (W.bind (W.bind (W.ret jK) ax) fun l4=>cG l4 fun p5=>(W.ret .aU)) fun zK=>
 W.bind (W.bind (W.bind (W.ret jK) ax) fun l6=>.gs (l6.length<=sizeLine) (.ret (dZ 0 l6))) fun l19=>W.bind (dQ l19 zK fun p8 s7=>W.bind (wI p8) fun t9=>(
 W.bind (W.bind (W.bind (W.ret t9.2) fun m7=>dh m7) ax) fun Ow=>W.bind (dQ Ow s7 fun Ko rF=>(
 W.bind (W.ret t9.1) fun m6=>W.bind (W.ret Ko) fun sX=>W.bind (jm rF sX m6) fun Hb=>
 W.ret Hb)) fun rF=>
 W.ret rF)) fun s7=>
 (W.bind (W.ret s7) ng)
def dB (cC:PV) (gB:PV):W PV:=
 (iw (W.bind (W.bind (ba (W.bind (W.ret cC) ax) (W.ret gB)) (gM .str)) eE) (ba (W.bind (W.ret cC) ax) (W.ret gB)) (W.ret gB))
def fH (bO:PV):W (List PV):=
 W.bind (W.bind (W.ret bO) fun x2=>eL x2) fun eD=>
 W.bind (W.bind (W.bind (W.ret eD) ax) fun l4=>cG l4 fun p5=>(W.ret (.tup []))) fun mr=>
 W.bind (W.bind (b2 p0 (c1 fu (W.ret eD)) (W.ret (.int 1))) fun x6=>W.bind (W.bind (W.ret (.int 1)) t6) fun x7=>W.bind (W.bind (W.ret (.int 1)) t6) fun x8=>Nq x6 x7 x8) fun Ow=>W.bind (dQ Ow mr fun lJ s9=>(
 W.bind (iw (t2 LA (ba (W.bind (W.ret eD) ax) (W.ret lJ)) (W.ret .aU)) (W.ret (.tup [])) (ba (W.ret s9) (ba (W.bind (W.ret eD) ax) (W.ret lJ)))) fun Hc=>
 W.bind (w2 addW (W.bind (W.ret lJ) fun pM=>W.ret (.tup [pM])) (W.ret Hc)) fun m6=>W.bind (W.ret lJ) fun sX=>W.bind (jm s9 sX m6) fun Gv=>
 W.ret Gv)) fun s9=>
 W.ret s9
def dC (qh:PV) (gB:PV):W PV:=
 (W.bind (W.bind (W.bind (c1 fu (W.ret qh)) hV) fun l2=>kW l2 fun p3=>Hs (xR (Sx true (W.ret p3) (W.bind (ba (W.bind (W.ret qh) ax) (W.ret gB)) ax)) (Sx true (W.ret gB) (W.bind (ba (W.bind (W.ret qh) ax) (W.ret p3)) ax))) (W.ret p3)) ng)
def jv (bO:PV):W PV:=
 W.bind (W.bind (W.ret bO) fun x2=>iD x2) fun gj=>
 W.bind (W.bind (W.ret bO) fun x4=>fH x4) fun mr=>
 (W.bind (W.bind (W.bind (c1 fu (W.ret gj)) hV) fun l6=>cG l6 fun p7=>(W.bind (W.bind (W.ret gj) fun x8=>W.bind (W.ret p7) fun x9=>dB x8 x9) fun m7=>W.bind (W.ret (.int 0)) fun xJ=>W.bind (W.bind (ba (W.bind (W.ret gj) ax) (W.ret p7)) fun HA=>dh HA) fun pM=>W.bind (W.bind (W.ret (.cl mr)) fun m6=>W.bind (W.ret p7) fun sX=>dC m6 sX) fun Yt=>W.ret (.tup [m7,xJ,pM,Yt]))) ng)
def fJ (cM:PV) (k_:PV):W (List PV):=
 W.bind (W.ret (.int 0)) fun Qe=>
 W.bind (t2 oLt (W.ret k_) (c1 fu (W.ret cM))) fun b=>W.bind (if b=true then (
 W.bind (c1 Qn (ba (W.bind (W.ret cM) ax) (W.ret k_))) fun Qd=>
 W.ret Qd) else (
 W.ret Qe)) fun s3=>
 W.bind (b2 jT (b2 oMod (W.ret s3) (b2 jT (b2 yz (W.ret (.int 10)) (W.ret (.int 60))) (b2 yz (W.ret (.int 10)) (W.ret (.int 60))))) (c1 pz (b2 oGe (W.ret s3) (b2 yz (W.ret (.int 10)) (W.ret (.int 18)))))) fun o8=>
 (W.bind (W.ret o8) fun x6=>W.bind (b2 oMod (w2 addW (w2 addW (W.ret s3) (b2 jT (W.ret (.int 104729)) (W.ret k_))) (W.ret (.int 7))) (W.ret (.int 2305843009213693951))) fun x7=>W.bind (W.ret (.int 0)) fun x8=>W.ret [x6,x7,x8])
def gh (dA:List PV) (kK:PV):W (PV×List PV):=
 iw (t2 ZC (ba (W.ret dA) (W.ret (.int 0))) (W.ret (.int 0))) (
 W.bind (b2 oMod (ba (W.ret dA) (W.ret (.int 0))) (W.ret kK)) fun KD=>
 W.bind (b2 oDiv (ba (W.ret dA) (W.ret (.int 0))) (W.ret kK)) fun x3=>W.bind (W.ret (.int 0)) fun x4=>W.bind (jm dA x4 x3) fun nj=>
 W.bind (W.ret KD) fun x5=>W.ret (x5,nj)) (
 W.bind (W.ret (.int 2)) fun x6=>W.bind (Wo dA x6) fun x7=>W.bind (W.ret (.int 1)) fun x8=>W.bind (of2 Kj x7 x8) fun m7=>W.bind (jm dA x6 m7) fun hX=>
 W.bind (b2 oMod (w2 addW (w2 addW (b2 jT (ba (W.ret hX) (W.ret (.int 1))) (W.ret (.int 69069))) (b2 jT (W.ret (.int 9973)) (ba (W.ret hX) (W.ret (.int 2))))) (W.ret (.int 5))) (W.ret (.int 2305843009213693921))) fun uc=>
 W.bind (b2 oMod (b2 jT (W.ret uc) (w2 addW (w2 addW (b2 oMod (W.ret uc) (W.ret (.int 999983))) (b2 jT (W.ret (.int 2)) (ba (W.ret hX) (W.ret (.int 2))))) (W.ret (.int 3)))) (W.ret (.int 2305843009213693907))) fun pM=>W.bind (W.ret (.int 1)) fun m6=>W.bind (jm hX m6 pM) fun iB=>
 W.bind (b2 oMod (b2 oDiv (ba (W.ret iB) (W.ret (.int 1))) (W.ret (.int 65537))) (W.ret kK)) fun sX=>W.ret (sX,iB))
def cQ (kK:PV):W (List PV):=
 W.bind (W.ret (.str "abcdefghijklmnopqrstuvwxyz")) fun qj=>
 W.bind (W.bind (W.ret (.int 26)) fun x3=>aW x3) fun sH=>
 W.bind (ba (W.bind (W.ret (.int 1)) fun x5=>W.bind (W.ret (.int 3)) fun x6=>W.bind (W.ret (.int 5)) fun x7=>W.bind (W.ret (.int 7)) fun x8=>W.bind (W.ret (.int 9)) fun x9=>W.bind (W.ret (.int 11)) fun m7=>W.ret [x5,x6,x7,x8,x9,m7]) (W.bind (W.ret (.int 6)) fun xJ=>aW xJ)) fun HE=>
 W.bind (ba (W.bind (W.ret (.str "")) fun pM=>W.bind (W.ret (.str "k")) fun m6=>W.ret [pM,m6]) (W.bind (W.ret (.int 2)) fun sX=>aW sX)) fun xV=>
 W.bind (W.bind (W.ret (.str "")) fun Hz=>W.bind (W.ret (.str "q")) fun Hy=>W.bind (W.ret (.str "zz")) fun xI=>W.bind (W.ret (.str "abcdef")) fun vE=>W.ret [Hz,Hy,xI,vE]) fun zl=>
 W.bind (W.ret []) fun uF=>
 W.bind (W.bind (W.ret kK) hV) fun ZI=>W.bind (dQ ZI uF fun Wk U9=>(
 W.bind (b2 N4 (W.ret qj) (b2 oMod (w2 addW (W.ret sH) (b2 jT (W.ret HE) (W.ret Wk))) (W.ret (.int 26)))) fun w4=>
 W.bind (w2 addW (w2 addW (W.ret xV) (W.ret w4)) (ba (W.bind (W.ret (.cl zl)) ax) (b2 oMod (w2 addW (W.ret sH) (W.ret Wk)) (W.ret (.int 4))))) fun QU=>W.bind (jC U9 QU) fun GQ=>
 W.ret GQ)) fun U9=>
 W.ret U9
def aR:Nat->PV->PV->W PV
 | 0,_,_=>W.fail
 | n+1,gC,rY=>
 iw (W.bind (W.bind (W.ret rY) (gM .tup)) eE) (
 iw (tor (FO (W.bind (W.bind (W.ret gC) (gM .tup)) eE)) (t2 Gg (c1 fu (W.ret gC)) (c1 fu (W.ret rY)))) (
 (W.ret (.bl false))) (
 (W.bind (W.bind (W.bind (W.bind (W.ret gC) ax) fun l1=>W.bind (W.bind (W.ret rY) ax) fun l2=>Hv l1 l2) fun l3=>cG l3 fun p4=>W.bind (wI p4) fun t5=>(W.bind (W.ret t5.1) fun x6=>W.bind (W.ret t5.2) fun x7=>aR n x6 x7)) Tq))) (
 iw (tor (W.bind (W.bind (W.ret rY) (gM .str)) eE) (t2 LA (W.ret rY) (W.ret .aU))) (
 (Qu (b2 dP (W.bind (W.ret gC) (gM .str)) (W.bind (W.ret rY) (gM .str))) (b2 dP (W.ret gC) (W.ret rY)))) (
 (Qu (W.bind (W.ret gC) (gM .int)) (Qu (W.bind (W.bind (W.ret gC) (gM .bool)) VQ) (b2 dP (W.ret gC) (W.ret rY))))))
def cY (cC:PV) (bP:PV):W (List PV):=
 (W.bind (W.bind (W.bind (W.ret cC) ax) fun l1=>W.bind (W.bind (W.ret bP) ax) fun l2=>Hv l1 l2) fun l3=>kW l3 fun p4=>W.bind (wI p4) fun t5=>Hs (FO (W.bind (W.bind (W.ret t5.1) (gM .str)) eE)) (W.ret t5.2))
def bp (FT:PV):W PV:=
 (ba (W.bind (W.ret FT) ax) (W.bind (c1 fu (W.ret FT)) fun x1=>aW x1))
def lx (cJ:PV):W PV:=
 W.bind (W.bind (W.ret cJ) ax) fun jN=>
 W.bind (W.bind (W.ret (.int 4)) fun x3=>aW x3) fun TX=>
 W.bind (kY (fun s4=>(t2 ZC (W.bind (W.ret s4) oC) (W.ret (.int 1)))) (fun s4=>(
 W.bind (ba (W.bind (W.bind (b2 p0 (W.bind (W.ret s4) oC) (W.ret (.int 1))) fun x6=>aW x6) fun x7=>W.bind (b2 p0 (W.bind (W.ret s4) oC) (W.ret (.int 2))) fun x8=>W.bind (W.ret (.int 0)) fun x9=>W.bind (W.ret (.int 0)) fun m7=>W.ret [x7,x8,x9,m7]) (W.ret TX)) fun nY=>
 W.bind (W.bind (ba (W.ret s4) (W.ret nY)) fun HA=>W.bind (ba (W.ret s4) (w2 addW (W.ret nY) (W.ret (.int 1)))) fun pM=>W.ret (.tup [HA,pM])) fun sk=>
 W.bind (xR (t2 dP (W.ret TX) (W.ret (.int 3))) (t2 dP (W.bind (W.ret (.int 2)) fun m6=>aW m6) (W.ret (.int 0)))) fun b=>W.bind (if b=true then (
 W.bind (W.bind (ba (W.ret s4) (w2 addW (W.ret nY) (W.ret (.int 1)))) fun vE=>W.bind (ba (W.ret s4) (W.ret nY)) fun FE=>W.ret (.tup [vE,FE])) fun sj=>
 W.ret sj) else (
 W.ret sk)) fun XD=>
 W.bind (W.bind (W.ret XD) fun sW=>W.ret [sW]) fun l24=>W.bind (W.ret nY) fun Hx=>W.bind (w2 addW (W.ret nY) (W.ret (.int 2))) fun xH=>W.bind (Rg s4 Hx xH l24) fun sf=>
 W.ret sf)) jN) fun s4=>
 (ba (W.ret s4) (W.ret (.int 0)))
def oA:W PV:=
 (W.bind (Mc (W.bind (w2 addW (W.ret (.int 1)) (W.bind (ba (W.bind (W.ret (.int 5)) fun x1=>W.bind (W.ret (.int 8)) fun x2=>W.ret [x1,x2]) (c1 pz (b2 dP (W.bind (W.ret (.int 8)) fun x3=>aW x3) (W.ret (.int 0))))) fun x4=>aW x4)) fun x5=>cQ x5)) fun x6=>lx x6)
def aX:Nat->PV->W (List PV)
 | 0,_=>W.fail
 | n+1,cL=>
 iw (W.bind (W.bind (W.ret cL) (gM .str)) eE) (
 (W.bind (W.ret cL) fun x1=>W.ret [x1])) (
 W.bind (W.bind (ba (W.bind (W.ret cL) ax) (W.ret (.int 0))) fun x3=>aX n x3) fun ye=>
 W.bind (W.bind (W.ret ye) oC) fun ue=>
 W.bind (W.bind (ba (W.bind (W.ret cL) ax) (W.ret (.int 1))) fun x5=>aX n x5) fun l18=>W.bind (dQ l18 ye fun FX s6=>(
 W.bind (iw (W.bind (W.bind (W.ret FX) (gM .str)) eE) (W.ret FX) (W.bind (w2 addW (ba (W.bind (W.ret FX) ax) (W.ret (.int 0))) (W.ret ue)) fun x9=>W.bind (w2 addW (ba (W.bind (W.ret FX) ax) (W.ret (.int 1))) (W.ret ue)) fun m7=>W.ret (.tup [x9,m7]))) fun xJ=>W.bind (jC s6 xJ) fun Np=>
 W.ret Np)) fun s6=>
 (W.bind (W.ret s6) fun Wc=>W.bind (W.bind (W.bind (b2 p0 (W.ret ue) (W.ret (.int 1))) fun HA=>W.bind (b2 p0 (W.bind (W.ret s6) oC) (W.ret (.int 1))) fun pM=>W.ret (.tup [HA,pM])) fun m6=>W.ret [m6]) fun Se=>G4 Wc Se))
def dF (a8:PV):W PV:=
 W.bind (W.bind (W.bind (W.ret (.int 0)) fun x2=>W.ret [x2]) fun l3=>W.bind (c1 fu (W.ret a8)) fun x4=>F0 l3 x4) fun kl=>
 W.bind (W.bind (W.bind (W.bind (W.ret a8) ax) fun l6=>.gs (l6.length<=sizeLine) (.ret (dZ 0 l6))) fun l7=>kW l7 fun p8=>W.bind (wI p8) fun t9=>Hs (FO (W.bind (W.bind (W.ret t9.2) (gM .str)) eE)) (W.ret t9.1)) fun Ih=>
 W.bind (W.ret (.int 0)) fun zw=>
 W.bind (kY (fun rF=>(W.bind (W.ret rF.2.1) fun l12=>W.ret (!l12.isEmpty))) (fun rF=>(
 W.bind (W.bind (W.bind (W.bind (W.ret (.cl rF.2.1)) ax) fun XH=>kW XH fun Zq=>Hs (xR (Sx true (ba (W.bind (ba (W.bind (W.ret a8) ax) (W.ret Zq)) ax) (W.ret (.int 0))) (W.bind (W.ret (.cl rF.2.1)) ax)) (Sx true (ba (W.bind (ba (W.bind (W.ret a8) ax) (W.ret Zq)) ax) (W.ret (.int 1))) (W.bind (W.ret (.cl rF.2.1)) ax))) (W.ret Zq)) M4) fun F1=>
 W.bind (W.bind (W.ret (.cl F1)) fun Hz=>bp Hz) fun uA=>
 W.bind (w2 addW (w2 addW (W.ret rF.2.2) (W.ret (.int 1))) (W.bind (ba (W.bind (W.ret (.int 1)) fun xI=>W.bind (W.ret (.int 3)) fun vE=>W.bind (W.ret (.int 13)) fun FE=>W.ret [xI,vE,FE]) (W.bind (W.ret (.int 3)) fun KW=>aW KW)) fun sW=>aW sW)) fun zu=>
 W.bind (W.ret zu) fun Hx=>W.bind (W.ret uA) fun xH=>W.bind (jm rF.1 xH Hx) fun mT=>
 W.bind (W.ret uA) fun QT=>W.bind (Ve rF.2.1 QT) fun Ka=>
 W.ret (mT,Ka,zu))) (kl,Ih,zw)) fun rF=>
 (W.bind (W.ret rF.1) ng)
def fD (bO:PV) (bP:PV) (fo:PV):W (List PV):=
 W.bind (W.bind (W.ret bO) fun x2=>eL x2) fun eD=>
 W.bind (W.ret []) fun yq=>
 W.bind (W.bind (W.bind (W.ret fo) ax) fun l4=>.gs (l4.length<=sizeLine) (.ret (dZ 0 l4))) fun l19=>W.bind (dQ l19 yq fun p6 s5=>W.bind (wI p6) fun t7=>(
 W.bind (W.bind (W.bind (W.ret bP) ax) fun l8=>.gs (l8.length<=sizeLine) (.ret (dZ 0 l8))) fun Ow=>W.bind (dQ Ow s5 fun XE s9=>W.bind (wI XE) fun YS=>(
 iw (xR (t2 oLe (W.ret YS.2) (W.ret t7.2)) (tor (t2 LA (ba (W.bind (W.ret eD) ax) (W.ret YS.1)) (W.ret .aU)) (t2 oLt (W.ret t7.2) (ba (W.bind (W.ret bP) ax) (ba (W.bind (W.ret eD) ax) (W.ret YS.1)))))) (
 W.bind (W.bind (W.ret YS.1) fun pM=>W.bind (W.ret t7.1) fun m6=>W.ret (.tup [pM,m6])) fun sX=>W.bind (jC s9 sX) fun Gb=>
 W.ret Gb) (
 W.ret s9))) fun s9=>
 W.ret s9)) fun s5=>
 W.ret s5
def gV (cC:PV) (bP:PV) (fo:PV) (jr:PV) (Gd:PV):W PV:=
 W.bind (ba (W.bind (W.ret Gd) ax) (W.ret (.int 0))) fun mx=>
 W.bind (ba (W.bind (W.ret Gd) ax) (W.ret (.int 1))) fun oK=>
 W.bind (b2 oLt (ba (W.bind (W.ret bP) ax) (W.ret mx)) (ba (W.bind (W.ret fo) ax) (W.ret oK))) fun xg=>
 W.bind (iw (W.bind (W.ret xg) eE) (W.bind (W.ret mx) fun x5=>W.ret (.tup [x5])) (W.bind (ba (W.bind (W.ret cC) ax) (W.ret mx)) fun x6=>dh x6)) fun below_4=>
 W.bind (W.bind (W.bind (W.bind (W.ret below_4) ax) fun l8=>cG l8 fun p9=>(dgB (W.ret jr) (W.bind (W.ret p9) fun m7=>W.bind (b2 p0 (W.ret oK) (W.ret (.int 1))) fun xJ=>W.ret (.tup [m7,xJ])))) ng) fun Jt=>
 W.bind (W.bind (W.bind (W.bind (W.ret jr) Oy) fun l13=>kW l13 fun Zr=>Hs (xR (t2 dP (ba (W.bind (W.ret Zr) ax) (W.ret (.int 1))) (W.ret oK)) (t2 Gg (ba (W.bind (W.ret Zr) ax) (W.ret (.int 0))) (W.ret mx))) (dgB (W.ret jr) (W.ret Zr))) ng) fun xv=>
 (W.bind (W.bind (W.ret cC) fun sX=>W.bind (W.ret mx) fun Yt=>dB sX Yt) fun Hz=>W.bind (W.ret oK) fun Hy=>W.bind (W.ret Jt) fun xI=>W.bind (W.ret xv) fun vE=>W.ret (.tup [Hz,Hy,xI,vE]))
def jX (bO:PV) (bP:PV):W PV:=
 W.bind (W.bind (W.ret bO) fun x2=>iD x2) fun gj=>
 W.bind (W.bind (W.bind (W.ret (.int 0)) fun x4=>W.ret [x4]) fun l7=>W.bind (W.bind (W.bind (W.ret gj) fun x5=>W.bind (W.ret bP) fun x6=>cY x5 x6) xZ) fun l8=>G4 l7 l8) fun u7=>
 W.bind (W.bind (W.ret bO) fun m7=>W.bind (W.ret bP) fun xJ=>W.bind (W.ret (.cl u7)) fun HA=>fD m7 xJ HA) fun yp=>
 W.bind (W.bind (W.bind (W.bind (W.bind (W.ret (.cl yp)) ax) fun XH=>.gs (XH.length<=sizeLine) (.ret (dZ 0 XH))) fun Wc=>cG Wc fun p16=>W.bind (wI p16) fun t17=>(W.bind (W.ret t17.2) fun Hy=>W.bind (W.ret t17.1) fun xI=>W.ret (.tup [Hy,xI]))) IW) fun tV=>
 (W.bind (W.bind (W.bind (W.ret (.cl yp)) ax) fun l20=>cG l20 fun p21=>(W.bind (W.ret gj) fun KW=>W.bind (W.ret bP) fun sW=>W.bind (W.ret (.cl u7)) fun KU=>W.bind (W.ret tV) fun Hx=>W.bind (W.ret p21) fun xH=>gV KW sW KU Hx xH)) ng)
def eK (aw:PV) (bF:PV):W PV:=
 (ba (W.bind (ba (W.bind (W.ret aw) ax) (W.ret bF)) ax) (W.ret (.int 2)))
def wY (aw:PV) (bF:PV) (Yv:PV):W PV:=
 (Qu (b2 dP (W.bind (W.ret aw) fun x1=>W.bind (W.ret bF) fun x2=>eK x1 x2) (W.ret (.tup []))) (b2 dP (ba (W.bind (ba (W.bind (W.ret aw) ax) (W.ret bF)) ax) (W.ret (.int 0))) (W.ret Yv)))
def dX (cJ:PV):W PV:=
 W.bind (W.bind (W.ret cJ) ax) fun jN=>
 W.bind (W.bind (W.ret (.int 4)) fun x3=>aW x3) fun hE=>
 W.bind (kY (fun s4=>(t2 ZC (W.bind (W.ret s4) oC) (W.ret (.int 1)))) (fun s4=>(
 W.bind (ba (W.bind (W.bind (b2 p0 (W.bind (W.ret s4) oC) (W.ret (.int 1))) fun x6=>aW x6) fun x7=>W.bind (b2 p0 (W.bind (W.ret s4) oC) (W.ret (.int 2))) fun x8=>W.bind (W.ret (.int 0)) fun x9=>W.bind (W.ret (.int 0)) fun m7=>W.ret [x7,x8,x9,m7]) (W.ret hE)) fun nY=>
 W.bind (W.bind (ba (W.ret s4) (W.ret nY)) fun HA=>W.bind (ba (W.ret s4) (w2 addW (W.ret nY) (W.ret (.int 1)))) fun pM=>W.ret (.tup [HA,pM])) fun sk=>
 W.bind (xR (t2 dP (W.ret hE) (W.ret (.int 3))) (t2 dP (W.bind (W.ret (.int 2)) fun m6=>aW m6) (W.ret (.int 0)))) fun b=>W.bind (if b=true then (
 W.bind (W.bind (ba (W.ret s4) (w2 addW (W.ret nY) (W.ret (.int 1)))) fun vE=>W.bind (ba (W.ret s4) (W.ret nY)) fun FE=>W.ret (.tup [vE,FE])) fun sj=>
 W.ret sj) else (
 W.ret sk)) fun XD=>
 W.bind (W.bind (W.ret XD) fun sW=>W.ret [sW]) fun l24=>W.bind (W.ret nY) fun Hx=>W.bind (w2 addW (W.ret nY) (W.ret (.int 2))) fun xH=>W.bind (Rg s4 Hx xH l24) fun sf=>
 W.ret sf)) jN) fun s4=>
 (ba (W.ret s4) (W.ret (.int 0)))
def dj:W PV:=
 (W.bind (Mc (W.bind (w2 addW (W.ret (.int 1)) (W.bind (ba (W.bind (W.ret (.int 5)) fun x1=>W.bind (W.ret (.int 8)) fun x2=>W.ret [x1,x2]) (c1 pz (b2 dP (W.bind (W.ret (.int 8)) fun x3=>aW x3) (W.ret (.int 0))))) fun x4=>aW x4)) fun x5=>cQ x5)) fun x6=>dX x6)
def dD (bA:PV):W PV:=
 W.bind (W.bind (W.bind (W.ret bA) fun x2=>aX 12 x2) fun l3=>kW l3 fun p4=>Hs (W.bind (W.bind (W.ret p4) (gM .str)) eE) (W.ret p4)) fun n6=>
 W.bind (w2 addW (W.ret (.int 1)) (W.bind (ba (W.bind (W.ret (.int 6)) fun x6=>W.bind (W.ret (.int 10)) fun x7=>W.ret [x6,x7]) (c1 pz (b2 dP (W.bind (W.ret (.int 8)) fun x8=>aW x8) (W.ret (.int 0))))) fun x9=>aW x9)) fun Oe=>
 (W.bind (Mc (W.bind (W.bind (W.ret Oe) hV) fun ZK=>cG ZK fun p12=>(W.bind (W.ret (.cl n6)) fun pM=>bp pM))) fun m6=>dX m6)
def bJ (bA:PV):W PV:=
 iw (t2 dP (W.bind (W.ret (.int 2)) fun x1=>aW x1) (W.ret (.int 0))) (
 (W.bind (W.ret bA) fun x2=>jv x2)) (
 (W.bind (W.ret bA) fun x3=>W.bind (W.bind (Mc (W.bind (W.ret bA) fun x4=>aX 12 x4)) fun x5=>dF x5) fun x6=>jX x3 x6))
def dE (aw:PV) (bF:PV):W (List PV):=
 W.bind (ba (W.bind (W.ret aw) ax) (W.ret bF)) fun x1=>W.bind (Yy x1) fun t3=>
 W.bind (W.bind (W.bind (W.ret (.str "doubled")) fun x5=>W.bind (W.ret bF) fun x6=>W.bind (W.ret bF) fun x7=>W.ret (.tup [x5,x6,x7])) fun x8=>W.ret [x8]) fun zc=>
 W.bind (t2 dP (c1 fu (W.ret t3.2.2.1)) (W.ret (.int 2))) fun b=>W.bind (if b=true then (
 W.bind (W.bind (W.bind (W.ret (.str "split")) fun FE=>W.bind (ba (W.bind (W.ret t3.2.2.1) ax) (W.ret (.int 0))) fun KW=>W.bind (ba (W.bind (W.ret t3.2.2.1) ax) (W.ret (.int 1))) fun sW=>W.ret (.tup [FE,KW,sW])) fun KU=>W.bind (W.bind (W.ret (.str "split")) fun Hx=>W.bind (ba (W.bind (W.ret t3.2.2.1) ax) (W.ret (.int 1))) fun xH=>W.bind (ba (W.bind (W.ret t3.2.2.1) ax) (W.ret (.int 0))) fun QU=>W.ret (.tup [Hx,xH,QU])) fun QT=>W.ret [KU,QT]) fun ZI=>W.bind (zf zc ZI) fun GR=>
 W.ret GR) else (
 W.ret zc)) fun Y0=>
 W.bind (W.bind (W.ret t3.2.2.2) ax) fun l43=>W.bind (dQ l43 Y0 fun jq Rk=>(
 W.bind (W.bind (W.bind (W.ret (.str "over")) fun Yo=>W.bind (W.ret bF) fun Yn=>W.bind (W.ret jq) fun Ym=>W.ret (.tup [Yo,Yn,Ym])) fun Yl=>W.bind (W.bind (W.ret (.str "over")) fun x37=>W.bind (W.ret jq) fun x38=>W.bind (W.ret bF) fun Yk=>W.ret (.tup [x37,x38,Yk])) fun x40=>W.ret [Yl,x40]) fun l41=>W.bind (zf Rk l41) fun oZ=>
 W.ret oZ)) fun Rk=>
 W.ret Rk
def bQ (aw:PV) (a8:PV) (aJ:PV) (cF:PV) (bF:PV):W (List PV):=
 W.bind (ba (W.bind (W.ret a8) ax) (W.ret cF)) fun FY=>
 iw (W.bind (W.bind (W.ret FY) (gM .str)) eE) (
 (W.bind (W.bind (W.bind (W.ret (.str "found")) fun x2=>W.bind (W.ret bF) fun x3=>W.bind (W.ret bF) fun x4=>W.ret (.tup [x2,x3,x4])) fun x5=>W.ret [x5]) fun l6=>W.bind (c1 pz (Qu (b2 dP (ba (W.bind (ba (W.bind (W.ret aw) ax) (W.ret bF)) ax) (W.ret (.int 2))) (W.ret (.tup []))) (b2 dP (ba (W.bind (ba (W.bind (W.ret aw) ax) (W.ret bF)) ax) (W.ret (.int 0))) (W.ret FY)))) fun x7=>F0 l6 x7)) (
 (W.bind (W.bind (W.ret aw) fun x8=>W.bind (W.ret bF) fun x9=>dE x8 x9) fun l10=>kW l10 fun Zs=>Hs (xR (W.bind (ba (W.bind (ba (W.bind (W.ret aJ) ax) (ba (W.bind (W.ret FY) ax) (W.ret (.int 0)))) ax) (ba (W.bind (W.ret Zs) ax) (W.ret (.int 1)))) eE) (W.bind (ba (W.bind (ba (W.bind (W.ret aJ) ax) (ba (W.bind (W.ret FY) ax) (W.ret (.int 1)))) ax) (ba (W.bind (W.ret Zs) ax) (W.ret (.int 2)))) eE)) (W.ret Zs)))
def fK (aw:PV) (a8:PV):W (List PV):=
 W.bind (W.bind (c1 fu (W.ret a8)) hV) fun l32=>W.bind (dQ l32 (([]:List Addr),([]:List (List PV))) fun tZ s3=>(
 W.bind (W.bind (W.bind (W.ret (.bl false)) fun x5=>W.ret [x5]) fun l6=>W.bind (c1 fu (W.ret aw)) fun x7=>F0 l6 x7) fun l8=>W.gs (s3.2.length < sizeLine) (W.bind (W.any fun _=>True) fun b9=>W.bind (W.ret (s3.2++[l8])) fun uH=>
 W.bind (W.bind (c1 fu (W.ret aw)) hV) fun l30=>W.bind (dQ l30 (b9,uH) fun se MF=>(
 W.bind (W.bind (W.bind (W.bind (W.bind (W.bind (ba (W.bind (ba (W.bind (W.ret aw) ax) (W.ret se)) ax) (W.ret (.int 2))) ax) fun Wc=>cG Wc fun p16=>(ba (W.bind (ba (W.bind (W.ret (.cl (MF.2.map PV.cl))) ax) (W.ret tZ)) ax) (W.ret p16))) Qt) tu) tu) fun Ub=>
 W.bind (W.bind (W.bind (orB (W.ret Ub) (W.bind (W.bind (W.ret aw) fun Hz=>W.bind (W.ret a8) fun Hy=>W.bind (W.ret (.cl (MF.2.map PV.cl))) fun xI=>W.bind (W.ret tZ) fun vE=>W.bind (W.ret se) fun FE=>bQ Hz Hy xI vE FE) fun l22=>W.ret (.bl (!l22.isEmpty)))) tu) tu) fun sW=>W.bind (W.ret tZ) fun KU=>W.bind (So MF.2 KU) fun ZR=>W.bind (W.ret se) fun xH=>W.bind (jm ZR.2 xH sW) fun ZJ=>W.bind (W.ret (MF.2.set ZR.1 ZJ)) fun GP=>
 W.ret (MF.1,GP))) fun MF=>
 W.ret MF))) fun s3=>
 W.ret (s3.2.map PV.cl)
def di (aw:PV) (a8:PV) (aJ:PV) (cF:PV) (bF:PV):W PV:=
 W.bind (W.bind (W.ret bF) fun x2=>W.ret [x2]) fun lq=>
 W.bind (W.bind (c1 fu (W.ret aw)) hV) fun l35=>W.bind (dQ l35 lq fun UU s4=>(
 W.bind (W.bind (W.bind (ba (W.bind (ba (W.bind (W.ret aw) ax) (ba (W.ret s4) (W.bind (W.ret (.int 1)) t6))) ax) (W.ret (.int 2))) ax) fun l7=>kW l7 fun p8=>Hs (W.bind (ba (W.bind (ba (W.bind (W.ret aJ) ax) (W.ret cF)) ax) (W.ret p8)) eE) (W.ret p8)) fun VL=>
 W.bind (orB (W.bind (W.bind (W.ret aw) fun xJ=>W.bind (W.ret a8) fun HA=>W.bind (W.ret aJ) fun pM=>W.bind (W.ret cF) fun m6=>W.bind (ba (W.ret s4) (W.bind (W.ret (.int 1)) t6)) fun sX=>bQ xJ HA pM m6 sX) fun Se=>W.ret (.bl (Se.isEmpty))) (b2 dP (W.bind (W.ret (.int 3)) fun m7=>aW m7) (W.ret (.int 0)))) fun Pu=>
 iw (xR (W.bind (W.bind (W.ret (.cl VL)) Og) fun Ow=>W.ret (!Ow.isEmpty)) (W.bind (W.ret Pu) eE)) (
 W.bind (W.bind (W.ret (.cl VL)) fun xI=>bp xI) fun vE=>W.bind (jC s4 vE) fun gL=>
 W.ret gL) (
 W.ret s4))) fun s4=>
 W.bind (kY (fun Nn=>(W.bind (W.bind (W.ret aw) fun KW=>W.bind (W.ret a8) fun sW=>W.bind (W.ret aJ) fun KU=>W.bind (W.ret cF) fun Hx=>W.bind (ba (W.ret Nn) (W.bind (W.ret (.int 1)) t6)) fun xH=>bQ KW sW KU Hx xH) fun ZJ=>W.ret (ZJ.isEmpty))) (fun Nn=>(
 W.bind (W.bind (Mc (W.bind (W.bind (ba (W.bind (ba (W.bind (W.ret aw) ax) (ba (W.ret Nn) (W.bind (W.ret (.int 1)) t6))) ax) (W.ret (.int 2))) ax) fun ZI=>kW ZI fun p30=>Hs (W.bind (ba (W.bind (ba (W.bind (W.ret aJ) ax) (W.ret cF)) ax) (W.ret p30)) eE) (W.ret p30))) fun Yq=>bp Yq) fun Yp=>W.bind (jC Nn Yp) fun ou=>
 W.ret ou)) s4) fun Nn=>
 (W.bind (W.ret Nn) ng)
def cR:Nat->PV->PV->PV->PV->PV->W PV
 | 0,_,_,_,_,_=>W.fail
 | n+1,aw,a8,aJ,cF,eJ=>
 W.bind (W.bind (Mc (W.bind (W.ret aw) fun x1=>W.bind (W.ret a8) fun x2=>W.bind (W.ret aJ) fun x3=>W.bind (W.ret cF) fun x4=>W.bind (ba (W.bind (W.ret eJ) ax) (W.bind (W.ret (.int 1)) t6)) fun x5=>bQ x1 x2 x3 x4 x5)) fun x6=>bp x6) fun x7=>W.bind (un3 x7) fun t8=>
 iw (t2 dP (W.ret t8.1) (W.ret (.str "found"))) (
 (W.bind (W.ret eJ) fun x9=>W.bind (W.ret t8.1) fun m7=>W.ret (.tup [x9,m7]))) (
 W.bind (ba (W.bind (W.ret a8) ax) (W.ret cF)) fun tL=>
 W.bind (W.bind (W.ret aw) fun pM=>W.bind (W.ret a8) fun m6=>W.bind (W.ret aJ) fun sX=>W.bind (ba (W.bind (W.ret tL) ax) (W.ret (.int 0))) fun Yt=>W.bind (W.bind (W.ret aw) fun Hz=>W.bind (W.ret a8) fun Hy=>W.bind (W.ret aJ) fun xI=>W.bind (ba (W.bind (W.ret tL) ax) (W.ret (.int 0))) fun vE=>W.bind (W.ret t8.2.1) fun FE=>di Hz Hy xI vE FE) fun KW=>cR n pM m6 sX Yt KW) fun GU=>
 (W.bind (W.ret eJ) fun sW=>W.bind (W.ret t8.1) fun KU=>W.bind (W.ret GU) fun Hx=>W.bind (W.bind (W.ret aw) fun xH=>W.bind (W.ret a8) fun QU=>W.bind (W.ret aJ) fun QT=>W.bind (ba (W.bind (W.ret tL) ax) (W.ret (.int 1))) fun Ys=>W.bind (W.bind (W.ret aw) fun Yr=>W.bind (W.ret a8) fun Yq=>W.bind (W.ret aJ) fun Yp=>W.bind (ba (W.bind (W.ret tL) ax) (W.ret (.int 1))) fun Yo=>W.bind (W.ret t8.2.2) fun Yn=>di Yr Yq Yp Yo Yn) fun Ym=>cR n xH QU QT Ys Ym) fun Yl=>W.ret (.tup [sW,KU,Hx,Yl])))
def bt (aw:PV) (iy:PV):W PV:=
 W.bind (W.bind (W.ret iy) fun x2=>aX 12 x2) fun tK=>
 W.bind (W.bind (W.ret aw) fun x4=>W.bind (W.ret (.cl tK)) fun x5=>fK x4 x5) fun nX=>
 W.bind (b2 p0 (c1 fu (W.ret (.cl tK))) (W.ret (.int 1))) fun Il=>
 W.bind (W.bind (W.bind (c1 fu (W.ret aw)) hV) fun l9=>kW l9 fun XE=>Hs (W.bind (W.bind (W.ret aw) fun xJ=>W.bind (W.ret (.cl tK)) fun HA=>W.bind (W.ret (.cl nX)) fun pM=>W.bind (W.ret Il) fun m6=>W.bind (W.ret XE) fun sX=>bQ xJ HA pM m6 sX) fun Se=>W.ret (!Se.isEmpty)) (W.ret XE)) fun Ng=>
 (W.bind (W.ret aw) fun Hz=>W.bind (W.ret (.cl tK)) fun Hy=>W.bind (W.ret (.cl nX)) fun xI=>W.bind (W.ret Il) fun vE=>W.bind (W.bind (W.bind (W.ret (.cl Ng)) fun FE=>bp FE) fun KW=>W.ret (.tup [KW])) fun sW=>cR 12 Hz Hy xI vE sW)
def fc:W PV:=
 W.bind (dj) fun gP=>
 W.bind (W.bind (W.ret gP) fun x3=>bJ x3) fun xW=>
 W.bind (W.bind (W.ret gP) fun x5=>dD x5) fun jO=>
 (W.bind (W.ret gP) fun x6=>W.bind (W.ret xW) fun x7=>W.bind (W.ret jO) fun x8=>W.bind (W.bind (W.ret xW) fun x9=>W.bind (W.ret jO) fun m7=>bt x9 m7) fun xJ=>W.ret (.tup [x6,x7,x8,xJ]))
def cX (vG:PV):W (List PV):=
 W.bind (W.ret []) fun eO=>
 W.bind (W.bind (W.ret vG) fun x3=>W.ret [x3]) fun fB=>
 W.bind (kY (fun s4=>(W.bind (W.ret s4.2) fun l5=>W.ret (!l5.isEmpty))) (fun s4=>(
 W.bind (yj s4.2) fun t7=>
 W.bind (W.ret t7.2) fun x9=>W.bind (jC s4.1 x9) fun fX=>
 W.bind (W.bind (W.bind (W.ret t7.2) fun pM=>W.bind (W.bind (W.ret (.int 2)) part) fun i11=>W.bind (W.ret none) fun j12=>Lb pM i11 j12) ax) fun XH=>W.bind (zf t7.1 XH) fun hJ=>
 W.ret (fX,hJ))) (eO,fB)) fun s4=>
 (W.bind (W.ret s4.1) fun Wc=>W.ret Wc.reverse)
def bx:Nat->PV->W (List PV)
 | 0,_=>W.fail
 | n+1,bj=>
 iw (t2 dP (c1 fu (W.ret bj)) (W.ret (.int 2))) (
 (W.bind (W.ret bj) fun x1=>W.ret [x1])) (
 (W.bind (W.bind (W.bind (ba (W.bind (W.ret bj) ax) (W.ret (.int 2))) fun x2=>bx n x2) fun l4=>W.bind (W.bind (ba (W.bind (W.ret bj) ax) (W.ret (.int 3))) fun x3=>bx n x3) fun l5=>G4 l4 l5) fun l7=>W.bind (W.bind (W.ret bj) fun x6=>W.ret [x6]) fun l8=>G4 l7 l8))
def gW (gN:PV) (JX:PV):W PV:=
 (W.bind (W.bind (W.bind (W.bind (W.ret JX) fun x3=>W.bind (W.ret none) fun i1=>W.bind (W.bind (W.bind (W.ret (.int 1)) t6) part) fun j2=>Lb x3 i1 j2) ax) fun l4=>kW l4 fun p5=>Hs (t2 dP (c1 fu (W.bind (W.ret gN) fun x6=>W.bind (W.ret p5) fun x7=>eK x6 x7)) (W.ret (.int 2))) (W.ret p5)) oC)
def gX (gN:PV) (vG:PV):W PV:=
 W.bind (W.bind (W.ret vG) fun x2=>cX x2) fun yn=>
 W.bind (W.bind (W.bind (W.ret (.cl yn)) ax) fun l4=>cG l4 fun p5=>(ba (W.bind (W.ret p5) ax) (W.ret (.int 1)))) fun PU=>
 W.bind (W.bind (W.bind (W.bind (W.ret (.cl yn)) ax) fun l7=>cG l7 fun p8=>(W.bind (W.ret gN) fun x9=>W.bind (ba (W.bind (W.ret p8) ax) (W.ret (.int 0))) fun m7=>gW x9 m7)) og) fun Oi=>
 (W.bind (W.bind (W.bind (W.ret ([("split":Str),("doubled":Str),("over":Str)].map PV.str)) fun ZK=>cG ZK fun p12=>(W.bind (W.bind (W.ret (.cl PU)) Og) fun l13=>W.bind (W.ret p12) fun m6=>Tb l13 m6)) fun Se=>W.bind (W.bind (W.ret Oi) fun sX=>W.ret [sX]) fun Ow=>G4 Se Ow) ng)
def dW (sh:PV) (zB:PV):W PV:=
 (W.bind (W.bind (W.bind (W.bind (W.ret sh) ax) fun l1=>W.bind (W.bind (W.ret zB) ax) fun l2=>Hv l1 l2) fun l3=>cG l3 fun p4=>W.bind (wI p4) fun t5=>(b2 jT (W.ret t5.1) (W.ret t5.2))) og)
def c6 (aw:PV) (bj:PV):W PV:=
 W.bind (W.ret (.int 0)) fun Ie=>
 W.bind (W.bind (W.ret bj) fun x3=>bx 12 x3) fun l32=>W.bind (dQ l32 ((X4 [("split",0),("doubled",0),("over",0),("found",0)]),Ie) fun J1 s4=>(
 W.bind (ba (W.bind (W.ret J1) ax) (W.ret (.int 1))) fun x6=>W.bind (ur x6) fun k9=>W.bind (.yt (eU s4.1 k9)) fun x7=>W.bind (W.ret (.int 1)) fun x8=>W.bind (of2 Kj x7 x8) fun m7=>W.bind (.gs (s4.1.length < sizeLine) (.ret (HL s4.1 k9 m7))) fun uG=>
 W.bind (W.bind (W.bind (ba (W.bind (W.ret J1) ax) (W.ret (.int 0))) fun m6=>W.bind (W.ret none) fun i12=>W.bind (W.bind (W.bind (W.ret (.int 1)) t6) part) fun j13=>Lb m6 i12 j13) ax) fun l20=>W.bind (dQ l20 s4.2 fun JD Vb=>(
 W.bind (c1 pz (b2 dP (c1 fu (ba (W.bind (ba (W.bind (W.ret aw) ax) (W.ret JD)) ax) (W.ret (.int 2)))) (W.ret (.int 2)))) fun Hz=>W.bind (of2 Kj Vb Hz) fun J9=>
 W.ret J9)) fun Vb=>
 W.ret (uG,Vb))) fun s4=>
 (W.bind (W.bind (W.ret (.str "split")) fun FE=>W.bind (ur FE) fun k22=>W.yt (eU s4.1 k22)) fun sW=>W.bind (W.bind (W.ret (.str "doubled")) fun KU=>W.bind (ur KU) fun k25=>W.yt (eU s4.1 k25)) fun xH=>W.bind (W.bind (W.ret (.str "over")) fun QU=>W.bind (ur QU) fun k28=>W.yt (eU s4.1 k28)) fun Ys=>W.bind (W.ret s4.2) fun Yr=>W.ret (.tup [sW,xH,Ys,Yr]))
def cZ:W PV:=
 W.bind (W.ret []) fun jN=>
 W.bind (W.bind (W.ret (.int 4)) hV) fun Se=>W.bind (dQ Se jN fun k_4 s3=>(
 W.bind (ba (W.bind (W.bind (W.ret (.int 4)) fun x6=>aW x6) fun x7=>W.bind (W.bind (W.ret (.int 1001)) fun x8=>aW x8) fun x9=>W.bind (W.ret (.int 0)) fun m7=>W.bind (b2 p0 (b2 yz (W.ret (.int 10)) (W.ret (.int 30))) (W.ret (.int 1))) fun xJ=>W.bind (W.ret (.int 1000)) fun HA=>W.ret [x7,x9,m7,xJ,HA]) (W.bind (W.ret (.int 5)) fun pM=>aW pM)) fun m6=>W.bind (jC s3 m6) fun Nh=>
 W.ret Nh)) fun s3=>
 (W.bind (W.ret s3) ng)
def jW (cM:PV):W PV:=
 W.bind (W.bind (W.bind (W.ret (.int 1)) fun x3=>W.bind (W.bind (c1 fu (W.ret cM)) fun x1=>W.bind (W.ret (.int 6)) fun x2=>rH Ql [x1,x2]) fun x4=>rH Qm [x3,x4]) hV) fun l77=>W.bind (nC l77 () fun k_7 s6=>(
 W.bind (W.bind (W.ret cM) fun x9=>W.bind (W.ret k_7) fun m7=>fJ x9 m7) fun tP=>Zj cP tP (
 W.bind (fc) fun xJ=>W.bind (Yy xJ) fun Jy=>
 W.bind (W.bind (W.ret (.int 3)) hV) fun l63=>W.bind (nC l63 Jy.2.2.2 fun Jv T8=>(
 W.bind (W.bind (W.ret Jy.2.1) fun Hz=>W.bind (W.ret T8) fun Hy=>c6 Hz Hy) fun gD=>
 iw (FO (W.bind (W.bind (W.bind (W.ret Jy.2.1) fun xI=>W.bind (W.ret T8) fun vE=>gX xI vE) fun FE=>W.bind (W.ret gD) fun KW=>aR 4 FE KW) eE)) (
 W.bind (W.ret (.bl false)) fun sW=>W.ret (Lp.out sW)) (
 W.bind (cZ) fun bT=>
 W.bind (w2 addW (b2 jT (ba (W.bind (W.ret bT) ax) (W.ret (.int 0))) (ba (W.bind (W.ret gD) ax) (W.ret (.int 0)))) (b2 jT (ba (W.bind (W.ret bT) ax) (W.ret (.int 1))) (ba (W.bind (W.ret gD) ax) (W.ret (.int 1))))) fun KI=>
 W.bind (w2 addW (w2 addW (W.ret KI) (b2 jT (ba (W.bind (W.ret bT) ax) (W.ret (.int 2))) (ba (W.bind (W.ret gD) ax) (W.ret (.int 2))))) (b2 jT (ba (W.bind (W.ret bT) ax) (W.ret (.int 3))) (ba (W.bind (W.ret gD) ax) (W.ret (.int 3))))) fun zC=>
 iw (tor (FO (W.bind (W.bind (W.bind (W.ret bT) fun Ym=>W.bind (W.ret gD) fun Yl=>dW Ym Yl) fun x37=>W.bind (W.ret zC) fun x38=>aR 4 x37 x38) eE)) (FO (W.bind (W.bind (W.bind (W.bind (W.ret (.int 0)) fun QU=>W.bind (W.ret (.int 0)) fun QT=>W.bind (W.ret (.int 0)) fun Ys=>W.bind (W.ret (.int 0)) fun Yr=>W.ret (.tup [QU,QT,Ys,Yr])) fun Yq=>W.bind (W.ret gD) fun Yp=>dW Yq Yp) fun Yo=>W.bind (W.ret (.int 0)) fun Yn=>aR 4 Yo Yn) eE))) (
 W.bind (W.ret (.bl false)) fun Yk=>W.ret (Lp.out Yk)) (
 W.bind (W.bind (W.ret (.int 4)) hV) fun l61=>W.bind (nC l61 () fun Qo s41=>(
 W.bind (W.bind (W.bind (W.bind (W.ret (.int 4)) hV) fun l45=>cG l45 fun p46=>(c1 pz (b2 dP (W.ret p46) (W.ret Qo)))) ng) fun G8=>
 iw (FO (W.bind (W.bind (W.bind (W.ret G8) fun x47=>W.bind (W.ret gD) fun x48=>dW x47 x48) fun x49=>W.bind (ba (W.bind (W.ret gD) ax) (W.ret Qo)) fun x50=>aR 4 x49 x50) eE)) (
 W.bind (W.ret (.bl false)) fun x51=>W.ret (Lp.out x51)) (
 W.ret (.go ())))) (O7 (fun s41=>
 iw (t2 Gg (W.bind (W.bind (W.bind (W.ret gD) fun x54=>W.bind (W.ret none) fun i52=>W.bind (W.bind (W.ret (.int 3)) part) fun j53=>Lb x54 i52 j53) ax) og) (b2 oDiv (W.bind (W.bind (W.ret Jy.2.2.1) fun x55=>aX 12 x55) oC) (W.ret (.int 2)))) (
 W.bind (W.ret (.bl false)) fun x56=>W.ret (Lp.out x56)) (
 W.bind (W.bind (W.ret Jy.2.1) fun x58=>W.bind (W.ret Jy.2.2.1) fun x59=>bt x58 x59) fun qO=>
 W.ret (.go qO))) Lp.out))))) (O7 (fun T8=>
 W.ret (.go ())) Lp.out)))) (O7 (fun s6=>
 (W.bind (W.bind (W.bind (W.ret (.int 1000)) fun x64=>W.bind (W.ret (.int 1000)) fun x65=>W.bind (W.ret (.int 1000)) fun x66=>W.bind (W.ret (.int 1000)) fun x67=>W.ret (.tup [x64,x65,x66,x67])) fun x68=>W.bind (W.bind (W.ret (.int 9)) fun x69=>W.bind (W.ret (.int 9)) fun x70=>W.bind (W.ret (.int 9)) fun x71=>W.bind (W.ret (.int 70)) fun x72=>W.ret (.tup [x69,x70,x71,x72])) fun x73=>dW x68 x73) fun x74=>W.bind (W.ret (.int 97000)) fun x75=>aR 4 x74 x75)) id)
def Tr.pv:Tr->PV
 | .leaf x=>.str x
 | .node l r=>.tup [l.pv,r.pv]
def Ent.pv:Ent->PV
 | .word x=>.str x
 | .pair a b=>.tup [.int (a:Int),.int (b:Int)]
def JN {α:Type}{l:List α} (h:l≠[]):∃a x,l=a++[x]:=⟨l.dropLast,l.getLast h,(List.dropLast_concat_getLast h).symm⟩
def Nj {a b:List Tr}{t:Tr} (h:cz a++b=t.post):bG a+b.length=t.size:=by
 have h1:=congrArg BH h;rw [Ad,t.cg] at h1;have h2:∀l:List Tr,(cz l).length=bG l:=by
  intro l
  induction l with
  | nil=>rfl
  | cons x l ih=>
   have e1:cz (x::l)=x.post++cz l:=rfl;have e2:bG (x::l)=x.size+bG l:=rfl;rw [e1,e2,Ad,ih,x.cg]
 rw [h2] at h1;exact h1
def gE {l:List PV}{x:PV} (h:l.length < 1000):jC l x=.ret (l++[x]):=W.aq (by have:=bb (n:=1000) (Am _);omega)
def NX (t:Tr) (hz:t.size<=900):(fF t.pv).le (.ret (t.post.map Tr.pv)):=fun Q q=>by
 unfold fF;simp only [W.ag,W.run_bind];refine g9 (fun n s=>∃ts bs:List Tr,n=bG ts/\s=(bs.map Tr.pv,ts.map Tr.pv)/\cz ts++bs.reverse=t.post) ⟨[t],[],rfl,rfl,by rw [pX];simp⟩ ?_;rintro n s ⟨ts,bs,rfl,rfl,hp⟩;have hs:=Nj hp;rw [Cf] at hs;by_cases he:ts=[]
 ·subst he;have hp':bs.reverse=t.post:=hp;simp;rw [<- List.map_reverse,hp'];exact q
 ·obtain⟨us,u,rfl⟩:=JN he;have QK:=jw us;have hsu:=u.size_pos;rw [gK,pR] at hs;simp;rw [gE (by rw [Af];omega)];cases u with
  | leaf x=>
   simp [Tr.pv];refine⟨_,?_,us,rfl,bs++[.leaf x],⟨by simp [Tr.pv],rfl⟩,?_⟩
   ·rw [gK,pR];show bG us < bG us+1;omega
   ·rw [jR,pX] at hp;rw [Dy,<- hp];simp [Tr.post]
  | node c d=>
   have e1:zf (us.map Tr.pv) [c.pv,d.pv]=.ret (us.map Tr.pv++[c.pv,d.pv]):=W.aq (bb (by
    have:(Tr.node c d).size=c.size+d.size+1:=rfl;simp;omega))
   simp [Tr.pv,e1];refine⟨_,?_,us++[c,d],rfl,bs++[.node c d],⟨by simp [Tr.pv],by simp⟩,?_⟩
   ·have e2:bG [Tr.node c d]=c.size+d.size+1:=by rw [pR];rfl
    have e3:bG [c,d]=c.size+d.size:=by simp [bG]
    rw [gK,gK,e2,e3];omega
   ·rw [jR,pX] at hp;rw [Dy,<- hp,jR,Lr];simp [Tr.post]
def aB (l:List Nat):List PV:=l.map fun (n:Nat)=>.int (n:Int)
@[simp] theorem cj (l:List Nat):(aB l).length=l.length:=Af _
@[simp] theorem Gj (a b:List Nat):aB (a++b)=aB a++aB b:=A1
@[simp] theorem LB (a:Nat) (l:List Nat):aB (a::l)=.int (a:Int)::aB l:=rfl
@[simp] theorem Ob:aB []=[]:=rfl
def qp (n:Nat):iE 0 n=aB (AH n):=by
 unfold iE aB;refine E5 fun i _=>?_;rw [Ez]
theorem Ij {f:PV->W (Option PV)}{p:Nat->Bool}:∀{l:List Nat},(∀k∈l,f (.int ((k:Nat):Int))=.ret (if p k=true then some (.int ((k:Nat):Int)) else none))->kW (aB l) f=.ret (aB (l.filter p))
 | [],_=>rfl
 | k::l,h=>by
  show W.bind (f _) (fun o=>W.bind (kW (aB l) f) fun m=>W.ret (o.toList++m))=_;rw [h k (.head _),Ij fun y hy=>h y (.tail _ hy),C8];cases p k <;> rfl
theorem J6 {f:PV->W PV}{g:Nat->PV}:∀{l:List Nat},(∀k∈l,f (.int ((k:Nat):Int))=.ret (g k))->cG (aB l) f=.ret (l.map g)
 | [],_=>rfl
 | k::l,h=>by
  show W.bind (f _) (fun y=>W.bind (cG (aB l) f) fun m=>W.ret (y::m))=_;rw [h k (.head _),J6 fun y hy=>h y (.tail _ hy)];rfl
def ZH {l:List PV}{f:PV->W (Option PV)}{Q:List PV->Prop} (g:PV->Option PV) (h:∀x∈l,f x=.ret (g x)) (q:Q (l.filterMap g)):(kW l f).run Q:=by rw [Ik h];exact q
def Od {l:List PV}{f:PV->W PV}{Q:List PV->Prop} (g:PV->PV) (h:∀x∈l,f x=.ret (g x)) (q:Q (l.map g)):(cG l f).run Q:=by rw [J7 h];exact q
def uk {l:List Nat}{f:PV->W (Option PV)}{Q:List PV->Prop} (p:Nat->Bool) (h:∀k∈l,f (.int ((k:Nat):Int))=.ret (if p k=true then some (.int ((k:Nat):Int)) else none)) (q:Q (aB (l.filter p))):(kW (aB l) f).run Q:=by rw [Ij h];exact q
def LD {l:List Nat}{f:PV->W PV}{Q:List PV->Prop} (g:Nat->PV) (h:∀k∈l,f (.int ((k:Nat):Int))=.ret (g k)) (q:Q (l.map g)):(cG (aB l) f).run Q:=by rw [J6 h];exact q
def tY (t:Tr) (hz:t.size<=900):(iD t.pv).le (.ret (.tup ((t.nd 0).map Ent.pv))):=fun Q q=>by
 unfold iD;simp only [W.ag,W.run_bind];refine W.le.use (NX t hz) ?_;refine uI (fun r s=>∃(k:List Tr) (told:List Ent) (ls:List Nat),r=k.map Tr.pv/\s=(told.map Ent.pv,aB ls.reverse)/\run k told ls=some (t.nd 0,[t.size-1])/\told.length+k.length<=900/\ls.length<=told.length) ⟨t.post,[],[],rfl,rfl,Lk t,by simp [t.cg];omega,Am _⟩ ?_ ?_
 ·rintro x r s ⟨k,told,ls,e,rfl,h,hl,hll⟩;cases k with
  | nil=>cases e
  | cons p k=>
   injection e with e1 e2;subst e1;subst e2;rw [Aq] at hl;cases p with
   | leaf x=>
    have a1:∀y,jC (aB ls.reverse) y=.ret (aB ls.reverse++[y]):=fun y=>gE (by simp;omega);simp [Tr.pv,gE (l:=told.map Ent.pv) (by simp;omega),a1];refine⟨k,rfl,told++[Ent.word x],told.length::ls,⟨by simp [Ent.pv],by simp⟩,h,by simp;omega,by simp;omega⟩
   | node c d=>
    match ls,h,hll with
    | b::a::ls,h,hll=>
     rw [Aq,Aq] at hll;have a0:aB (b::a::ls).reverse=(aB ls.reverse++[.int (a:Int)])++[.int (b:Int)]:=by simp
     have a1:∀y,jC (aB ls.reverse) y=.ret (aB ls.reverse++[y]):=fun y=>gE (by simp;omega);rw [a0];simp only [Tr.pv,W.ag,mB,o4,cp,Ap,if_false,Pn];simp [gE (l:=told.map Ent.pv) (by simp;omega),a1];refine⟨k,rfl,told++[Ent.pair a b],told.length::ls,⟨by simp [Ent.pv],by simp⟩,h,by simp;omega,by simp;omega⟩
 ·rintro s ⟨k,told,ls,e,rfl,h,hl,hll⟩;cases k with
  | nil=>
   cases h;simpa using q
  | cons p k=>cases e
def mulL {a b:Int} (h:-1000000000<=a/\a<=1000000000):IntMulOk a b:=Ue (by omega) (by omega)
def mulR {a b:Int} (h:-1000000000<=b/\b<=1000000000):IntMulOk a b:=mul_r (by omega) (by omega)
def Q5:∀ns l Q,cP ns->((dU 1 aW) l).run Q->((fun lo l=>dU 1 (gh lo) l) (ns.map PV.int) l).run fun t=>Q t.1/\∃VP:List Int,t.2=VP.map PV.int/\cP VP:=by
 rintro ns l Q ⟨g,s,c,rfl,g0,s0,s1,c0⟩ q
 match l,q with
 | [],q=>exact q.elim
 | _::_::_,q=>exact q.elim
 | [x],q=>
  show (gh _ x).run _;have q:(aW x).run Q:=q;cases x with
  | int m=>
   obtain⟨⟨m0,m1⟩,q⟩:=q;have q:∀d:Int,0<=d->d < m->Q (.int d):=fun d h0 h1=>q _ ⟨d,rfl,h0,h1⟩;unfold gh;generalize hA:(2305843009213693921:Int)=A;generalize hB:(2305843009213693907:Int)=B;generalize hC:(65537:Int)=C;generalize hD:(999983:Int)=D;have A0:0 < A:=by omega
   have B0:0 < B:=by omega
   have C0:0 < C:=by omega
   have D0:0 < D:=by omega
   by_cases hg:0 < g
   ·simp [cI,qV,hg,m0,jm,QD];refine⟨by omega,q _ (BW _ (by omega)) (BP _ m0),[g / m,s,c],rfl,_,_,_,rfl,Int.ediv_nonneg g0 (by omega),s0,s1,c0⟩
   ·have e1:IntMulOk s 69069:=mulR (by omega);have e2:IntMulOk 9973 (c+1):=mulL (by omega);have e3:IntMulOk 2 (c+1):=mulL (by omega);simp [cI,qV,hg,m0,jm,Wo,e1,e2,e3,A0,B0,C0,D0];generalize hM:(s*69069+9973*(c+1)+5) % A=M;have M0:0<=M:=by rw [<- hM];exact BW _ (by omega)
    have M1:M < A:=by rw [<- hM];exact BP _ A0
    have e4:∀y,IntMulOk M y:=fun y=>Ue (by omega) (by omega);generalize hN:M*(M % D+2*(c+1)+3) % B=N;have N0:0<=N:=by rw [<- hN];exact BW _ (by omega)
    have N1:N < B:=by rw [<- hN];exact BP _ B0
    refine⟨e4 _,⟨C0,by omega⟩,q _ (BW _ (by omega)) (BP _ m0),[g,N,c+1],rfl,_,_,_,rfl,g0,N0,by omega,by omega⟩
  | _=>exact q.elim
def Xp (i:Int):0<=(if i < 0 then -i else i):=by split <;> omega
def Rx {ns:List Int}{k:Int} (k0:0<=k) {Q:List PV->Prop} (q:∀l,(∃ms:List Int,l=ms.map PV.int/\cP ms)->Q l):(fJ (.cl (ns.map PV.int)) (.int k)).run Q:=by
 unfold fJ;generalize hA:(2305843009213693951:Int)=A;have A0:0 < A:=by omega
 have fin:∀x:Int,0<=x->(W.bind (b2 jT (b2 oMod (W.ret (.int x)) (b2 jT (b2 yz (W.ret (.int 10)) (W.ret (.int 60))) (b2 yz (W.ret (.int 10)) (W.ret (.int 60))))) (c1 pz (b2 oGe (W.ret (.int x)) (b2 yz (W.ret (.int 10)) (W.ret (.int 18)))))) fun o8=>
 (W.bind (W.ret o8) fun x6=>W.bind (b2 oMod (w2 addW (w2 addW (W.ret (.int x)) (b2 jT (W.ret (.int 104729)) (W.ret (.int k)))) (W.ret (.int 7))) (W.ret (.int A))) fun x7=>W.bind (W.ret (.int 0)) fun x8=>W.ret [x6,x7,x8])).run Q:=by
  intro x x0;have p1:MC 10 60:=⟨by decide,by decide,by decide⟩;have p2:MC 10 18:=⟨by decide,by decide,by decide⟩;simp only [W.ag,Pm,W.aq p1,W.aq p2,IT,Pq,aaC,mC,f7,W.Qa,W.Rm,W.ai,W.aq (mulL (show -1000000000<=(104729:Int)/\(104729:Int)<=1000000000 by decide)),W.aq A0];refine⟨IntMulOk.of_bits (by decide +kernel) (by decide +kernel),by decide +kernel,?_,?_⟩
  ·split
   ·exact mulR (by omega)
   ·exact mulR (by omega)
  ·refine q _ ⟨[_,_,_],rfl,_,_,_,rfl,Int.mul_nonneg (BW _ (by decide +kernel)) ?_,BW _ (by omega),by rw [hA];exact BP _ A0,Dl _⟩
   split <;> decide
 by_cases my:k < (ns.length:Int)
 ·obtain⟨v,e,e2⟩:=Qp (xs:=ns.map PV.int) k0 (by rw [Af];exact my);rw [Ai] at e2;obtain⟨c,rfl⟩:∃c,v=.int c:=by
   cases z:ns[k.toNat]? with
   | none=>rw [z] at e2;cases e2
   | some c=>rw [z] at e2;exact⟨c,(Option.some.inj e2).symm⟩
  simp only [W.ag,iG,Ks,Af,my,decide_true,bU,if_true,cq,bf,e,W.aA,W4];exact fin _ (Xp _)
 ·simp only [W.ag,iG,Ks,Af,my,decide_false,bU,Ap,if_false];exact fin 0 (Dl _)
def H0 {d:Int} (h0:0<=d) (h1:d < 6):∃st:Int,cI [PV.int 1,PV.int 3,PV.int 5,PV.int 7,PV.int 9,PV.int 11] d=some (.int st)/\(st=1\/st=3\/st=5\/st=7\/st=9\/st=11):=by
 have:d=0\/d=1\/d=2\/d=3\/d=4\/d=5:=by omega
 rcases this with rfl | rfl | rfl | rfl | rfl | rfl
 ·exact⟨1,rfl,by decide⟩
 ·exact⟨3,rfl,by decide⟩
 ·exact⟨5,rfl,by decide⟩
 ·exact⟨7,rfl,by decide⟩
 ·exact⟨9,rfl,by decide⟩
 ·exact⟨11,rfl,by decide⟩
def H9 {d:Int} (h0:0<=d) (h1:d < 2):∃bg:Str,cI [PV.str "",PV.str "k"] d=some (.str bg)/\Part bg 1:=by
 have:d=0\/d=1:=by omega
 rcases this with rfl | rfl
 ·exact⟨"",rfl,by decide +kernel,by decide +kernel⟩
 ·exact⟨"k",rfl,by decide +kernel,by decide +kernel⟩
def Ia {d:Int} (h0:0<=d) (h1:d < 4):∃bg:Str,cI [PV.str "",PV.str "q",PV.str "zz",PV.str "abcdef"] d=some (.str bg)/\Part bg 6:=by
 have:d=0\/d=1\/d=2\/d=3:=by omega
 rcases this with rfl | rfl | rfl | rfl
 ·exact⟨"",rfl,by decide +kernel,by decide +kernel⟩
 ·exact⟨"q",rfl,by decide +kernel,by decide +kernel⟩
 ·exact⟨"zz",rfl,by decide +kernel,by decide +kernel⟩
 ·exact⟨"abcdef",rfl,by decide +kernel,by decide +kernel⟩
def bH {i j:Int} (h:-1000<=i/\i<=1000/\-1000<=j/\j<=1000) (h2:j-i<=1000):okN i j:=⟨by omega,by omega,by omega,by omega,bb (by omega)⟩
def KY {m:Int} (m0:0<=m) (m1:m<=26) {Q:List PV->Prop} (q:∀ws:List Str,ws.length=m.toNat->(∀x∈ws,Wd x)->ws.Nodup->Q (ws.map PV.str)):(cQ (.int m)).run Q:=by
 unfold cQ;simp only [W.ag,W.run_bind,bW 26 (by decide) (by decide),bW 6 (by decide) (by decide),bW 2 (by decide) (by decide)];refine aZ fun d1 a1 b1=>aZ fun d3 a3 b3=>?_;obtain⟨st,xc,kst⟩:=H0 a3 b3;simp only [bf,xc,W.aA,W.ai];refine aZ fun d5 a5 b5=>?_;obtain⟨bg,hbg,kbg⟩:=H9 a5 b5;simp only [bf,hbg,W.aA,W.ai,dH,W.aq (bH (i:=0) (j:=m) (by omega) (by omega))];have ae3:1<=st/\st<=11:=by omega
 have lb:=kbg.1;refine lO (fun i s=>∃ws:List Str,s=ws.map PV.str/\ws.length=i/\(∀x∈ws,Wd x)/\(ws.map fun x=>x.cps[bg.length]?)=(AH i).map fun k:Nat=>some (97+((d1+st*(0+(k:Int))) % 26).toNat)) ⟨[],rfl,rfl,by simp,rfl⟩ ?_ ?_
 ·rintro i s hi ⟨ws,rfl,hl,hw,hs⟩;have e0:0<=(d1+st*(0+(i:Int))) % 26:=BW _ (by decide);have e1:(d1+st*(0+(i:Int))) % 26 < 26:=BP _ (by decide);have e2:(d1+st*(i:Int))=d1+st*(0+(i:Int)):=by rw [Ez]
  obtain⟨en,hen,ken⟩:=Ia (d:=(d1+(i:Int)) % 4) (BW _ (by decide)) (BP _ (by decide));have le:=ken.1;have c1:IntMulOk st (i:Int):=mulL (by omega);have c2:("abcdefghijklmnopqrstuvwxyz":Str).length<=sizeLine:=by decide +kernel
  have c3:bg.length+(⟨#[97+((d1+st*(0+(i:Int))) % 26).toNat]⟩:Str).length<=sizeLine:=bb (by show bg.length+1<=1000;omega);have c4:(bg++(⟨#[97+((d1+st*(0+(i:Int))) % 26).toNat]⟩:Str)).length+en.length<=sizeLine:=bb (by rw [CM];show bg.length+1+en.length<=1000;omega);simp only [W.ag,W.run_bind,IT,W.aq c1,f7,Pq,W.aq (show (0:Int) < 26 by decide),W.aq (show (0:Int) < 4 by decide),e2,WZ _ _ (LJ e0 e1),W.aq c2,S4,W.aq c3,cq,bf,hen,W.aA,W.aq c4,gE (l:=ws.map PV.str) (by rw [Af];omega),W.ai];refine⟨ws++[bg++⟨#[97+((d1+st*(0+(i:Int))) % 26).toNat]⟩++en],by rw [A1];rfl,by rw [Ad,hl];rfl,?_,by rw [A1,hs,List.range_succ,A1,List.map_singleton,List.map_singleton,KZ]⟩;intro x hx;rcases A2.mp hx with z | z
  ·exact hw x z
  ·rw [Ba.mp z];exact MV kbg ken (by omega) (by omega)
 ·rintro s ⟨ws,rfl,hl,hw,hs⟩;refine q ws hl hw ?_;refine yA (g:=fun x:Str=>x.cps[bg.length]?) ?_;rw [hs];exact vX kst (by omega)
def Xl {α:Type}{l:List α}{k:Nat} (h:k+1 < l.length):∃a x y b,l=a++x::y::b/\a.length=k:=by
 refine⟨l.take k,l[k],l[k+1],l.drop (k+2),?_,by rw [B1];omega⟩;have e1:l.drop k=l[k]::l.drop (k+1):=Bj (by omega);have e2:l.drop (k+1)=l[k+1]::l.drop (k+2):=Bj (by omega);rw [<- e2,<- e1,List.take_append_drop]
def FN {ws:List Str} (hw:ws≠[]) (h8:ws.length<=100) {Q:PV->Prop} (q:∀t:Tr,t.aL.Perm ws->Q t.pv):(lx (.cl (ws.map PV.str))).run Q:=by
 unfold lx;simp only [W.ag,W.run_bind,cq,W.ai,bW 4 (by decide) (by decide)];refine aZ fun w w0 w1=>?_;refine g9 (fun n s=>∃ts:List Tr,s=ts.map Tr.pv/\n=ts.length/\ts≠[]/\(ts.flatMap Tr.aL).Perm ws/\ts.length<=100) (n:=ws.length) ⟨ws.map Tr.leaf,by simp [Tr.pv],by simp,by simpa using hw,?_,by simpa using h8⟩ ?_
 ·rw [List.flatMap_map];have:ws.flatMap (fun x=>(Tr.leaf x).aL)=ws:=by
   simp [Tr.aL,List.flatMap_singleton']
  rw [this]
 ·rintro n s ⟨ts,rfl,rfl,OX,hp,hl⟩;by_cases h1:1 < ts.length
  ·have c0:(1:Int) < (ts.length:Int):=by omega
   simp only [W.ag,W.run_bind,qC,Af,UA,c0,decide_true,bU,W.ai,if_true,qA,bW ((ts.length:Int)-1) (by omega) (by omega)];refine aZ fun d d0 d1=>?_;obtain⟨a,ha,a0,a1⟩:∃a:Nat,cI [PV.int d,PV.int ((ts.length:Int)-2),PV.int 0,PV.int 0] w=some (.int (a:Int))/\0<=a/\a+1 < ts.length:=by
    have:w=0\/w=1\/w=2\/w=3:=by omega
    rcases this with rfl | rfl | rfl | rfl
    ·exact⟨d.toNat,by show some (PV.int d)=_;rw [Int.toNat_of_nonneg d0],by omega,by omega⟩
    ·exact⟨ts.length-2,by show some (PV.int ((ts.length:Int)-2))=_;congr 2;omega,by omega,by omega⟩
    ·exact⟨0,rfl,by omega,by omega⟩
    ·exact⟨0,rfl,by omega,by omega⟩
   obtain⟨as,x,y,bs,rfl,hk⟩:=Xl a1;have i0:cI ((as++x::y::bs).map Tr.pv) (a:Int)=some x.pv:=eB (by rw [Ai,Ay (by omega)];simp [hk]);have i1:cI ((as++x::y::bs).map Tr.pv) ((a:Int)+1)=some y.pv:=by
    have:((a:Int)+1)=((a+1:Nat):Int):=by push_cast;rfl
    rw [this];exact eB (by rw [Ai,Ay (by omega)];simp [hk])
   simp only [bf,ha,W.aA,W.ai,i0,i1,f7,W.ag];have fin:∀p:Tr,p.aL.Perm (x.aL++y.aL)->(Rg ((as++x::y::bs).map Tr.pv) (.int (a:Int)) (.int ((a:Int)+2)) [p.pv]).run fun a=>∃m,m < (as++x::y::bs).length/\∃ts:List Tr,a=ts.map Tr.pv/\m=ts.length/\ts≠[]/\(ts.flatMap Tr.aL).Perm ws/\ts.length<=100:=by
    intro p hpp;rw [Ad,Aq,Aq] at hl;refine⟨⟨by omega,by omega,?_,bb ?_⟩,?_⟩
    ·rw [Af,Ad,Aq,Aq];push_cast;omega
    ·rw [Af,Ad,Aq,Aq];simp;omega
    ·have e:((as++x::y::bs).map Tr.pv).take (a:Int).toNat++[p.pv]++((as++x::y::bs).map Tr.pv).drop ((a:Int)+2).toNat=(as++p::bs).map Tr.pv:=by
      have t1:(a:Int).toNat=as.length:=by omega
      have t2:((a:Int)+2).toNat=as.length+2:=by omega
      rw [t1,t2,<- List.map_take,<- List.map_drop,List.take_left' rfl];have:(as++x::y::bs).drop (as.length+2)=bs:=by
       rw [show as++x::y::bs=(as++[x,y])++bs by simp,List.drop_left' (by simp)]
      rw [this];simp
     show ∃m,_/\∃ts:List Tr,_;rw [e];refine⟨(as++p::bs).length,by simp,as++p::bs,rfl,rfl,by simp,?_,by simp;omega⟩;refine List.Perm.trans ?_ hp;simp only [E8,List.flatMap_cons];refine List.Perm.append_left _ ?_;rw [<- A7];exact hpp.append_right _
   by_cases h3:w=3
   ·subst h3;simp only [eN,bU,beq_self_eq_true,W.ai,W.ag,if_true,W.run_bind,bW 2 (by decide) (by decide)];refine aZ fun d2 d20 d21=>?_;by_cases h4:d2=0
    ·subst h4;simp only [eN,bU,beq_self_eq_true,W.ai,W.ag,if_true,W.run_bind,i0,i1,bf,f7,W.aA];exact fin (.node y x) List.perm_append_comm
    ·have e4:(d2==0)=false:=by simpa using h4
     simp only [eN,bU,e4,W.ai,W.ag,W.run_bind,Ap,if_false];exact fin (.node x y) (List.Perm.refl _)
   ·have e3:(w==3)=false:=by simpa using h3
    simp only [eN,bU,e3,W.ai,W.ag,W.run_bind,Ap,if_false];exact fin (.node x y) (List.Perm.refl _)
  ·have c0:¬(1:Int) < (ts.length:Int):=by omega
   simp only [W.ag,W.run_bind,qC,Af,UA,c0,decide_false,bU,W.ai,Ap,if_false]
   match ts,OX,h1,hp with
   | [t],_,_,hp=>
    have:t.aL.Perm ws:=by simpa using hp
    exact q t this
   | _::_::_,_,h1,_=>simp at h1
structure rm (t:Tr):Prop where
 ws:t.Ws
 nd:t.aL.Nodup
 few:t.aL.length<=8
def L7 {Q:PV->Prop} (q:∀t:Tr,rm t->Q t.pv):oA.run Q:=by
 unfold oA;simp only [W.ag,W.run_bind,bW 8 (by decide) (by decide)];refine aZ fun d d0 d1=>?_;obtain⟨n,hn,n0,n1⟩:∃n:Int,cI [PV.int 5,PV.int 8] (if (d==0)=true then 1 else 0)=some (.int n)/\0 < n/\n<=8:=by
  by_cases h:d=0
  ·subst h;exact⟨8,rfl,by decide,by decide⟩
  ·have e:(d==0)=false:=by simpa using h
   rw [e];exact⟨5,rfl,by decide,by decide⟩
 simp only [eN,W.ai,mC,bf,hn,W.aA,bW n n0 (by omega)];refine aZ fun k k0 k1=>?_;simp only [f7,W.ai];refine KY (by omega) (by omega) fun ws hl hw hd=>?_;refine FN (fun z=>by rw [z] at hl;simp at hl;omega) (by omega) fun t ht=>q t ⟨fun x hx=>hw x (ht.mem_iff.mp hx),ht.nodup_iff.mpr hd,by rw [ht.length_eq,hl];omega⟩
def uv:Ent->Bool
 | .word _=>false
 | .pair _ _=>true
structure Dt (t:Tr) (ds:List Int) (left:List Nat) (d:Int):Prop where
 len:ds.length=t.size
 zero:∀j,j < t.size->(uv (en t 0 j)=false\/j∈left)->ds.getD j 0=0
 up:∀j,j < t.size->j∉left->∀a b,en t 0 j=.pair a b->a∉left/\b∉left/\ds.getD a 0 < ds.getD j 0/\ds.getD b 0 < ds.getD j 0/\1<=ds.getD j 0/\ds.getD j 0<=d
 inj:∀i j,i < t.size->j < t.size->i∉left->j∉left->uv (en t 0 i)=true->uv (en t 0 j)=true->ds.getD i 0=ds.getD j 0->i=j
 pos:0<=d
 XG:∀j∈left,j < t.size/\uv (en t 0 j)=true
 ris:left.Pairwise (· < ·)
def iZ {l:List Int}{i:Nat}{v:Int} (h:i < l.length):(l.set i v).getD i 0=v:=by rw [Ar,BD h];rfl
def bR {l:List Int}{i j:Nat}{v:Int} (h:i≠j):(l.set i v).getD j 0=l.getD j 0:=by rw [Ar,Bq h,<- Ar]
def vP {l:List Nat} (h:l.Pairwise (· < ·)) {x y:Nat}:y∈l.erase x↔y∈l/\y≠x:=by
 have nd:l.Nodup:=h.imp (fun z=>AJ z);rw [nd.mem_erase_iff];exact⟨fun z=>⟨z.2,z.1⟩,fun z=>⟨z.2,z.1⟩⟩
def fV (t:Tr) {j a b:Nat} (h:j < t.size) (e:en t 0 j=.pair a b):a < j/\b < j:=by
 rcases Qk t 0 j h with⟨x,e1,_⟩ | ⟨a',b',e1,e2,e3,_⟩
 ·rw [e1] at e;cases e
 ·rw [e1] at e;injection e with h1 h2;omega
def Dt.next {t:Tr}{ds:List Int}{left:List Nat}{d x:Int}{j a b:Nat} (D:Dt t ds left d) (hj:j∈left) (e:en t 0 j=.pair a b) (ha:a∉left) (hb:b∉left) (hx:0<=x):Dt t (ds.set j (d+1+x)) (left.erase j) (d+1+x):=by
 obtain⟨hjs,hjp⟩:=D.XG j hj;obtain⟨haj,hbj⟩:=fV t hjs e;have QL:j < ds.length:=by rw [D.len];exact hjs
 have hm:∀y,y∈left.erase j↔y∈left/\y≠j:=fun y=>vP D.ris;have low:∀y,y < t.size->y∉left->ds.getD y 0<=d:=fun y hy hyl=>by
  cases ey:en t 0 y with
  | word w=>rw [D.zero y hy (.inl (by rw [ey];rfl))];exact D.pos
  | pair p q=>exact (D.up y hy hyl p q ey).2.2.2.2.2
 refine⟨by rw [BV];exact D.len,fun y hy hc=>?_,fun y hy hyl p q ey=>?_,fun u v hu hv hul hvl pu pv Up=>?_,by have:=D.pos;omega,fun y hy=>D.XG y ((hm y).mp hy).1,List.Pairwise.sublist List.erase_sublist D.ris⟩
 ·have ZZ:j≠y:=fun z=>by
   subst z;rcases hc with hc | hc
   ·rw [hjp] at hc;cases hc
   ·exact ((hm j).mp hc).2 rfl
  rw [bR ZZ];exact D.zero y hy (hc.imp id fun z=>((hm y).mp z).1)
 ·by_cases ZZ:j=y
  ·subst ZZ;rw [e] at ey;injection ey with h1 h2;subst h1 h2;have la:=low a (by omega) ha;have lb:=low b (by omega) hb;rw [iZ QL,bR (by omega),bR (by omega)];have:=D.pos;exact⟨fun z=>ha ((hm a).mp z).1,fun z=>hb ((hm b).mp z).1,by omega,by omega,by omega,by omega⟩
  ·have adk:y∉left:=fun z=>hyl ((hm y).mpr ⟨z,Bw ZZ⟩);obtain⟨p1,p2,p3,p4,p5,p6⟩:=D.up y hy adk p q ey;have np:j≠p:=fun z=>p1 (z▸hj);have nq:j≠q:=fun z=>p2 (z▸hj);rw [bR ZZ,bR np,bR nq];exact⟨fun z=>p1 ((hm p).mp z).1,fun z=>p2 ((hm q).mp z).1,p3,p4,p5,by omega⟩
 ·by_cases c1:j=u
  ·by_cases c2:j=v
   ·exact c1.symm.trans c2
   ·exfalso;subst c1;have Wu:v∉left:=fun z=>hvl ((hm v).mpr ⟨z,Bw c2⟩);rw [iZ QL,bR c2] at Up;have:=low v hv Wu;omega
  ·have Z2:u∉left:=fun z=>hul ((hm u).mpr ⟨z,Bw c1⟩);by_cases c2:j=v
   ·exfalso;subst c2;rw [iZ QL,bR c1] at Up;have:=low u hu Z2;omega
   ·have Wu:v∉left:=fun z=>hvl ((hm v).mpr ⟨z,Bw c2⟩);rw [bR c1,bR c2] at Up;exact D.inj u v hu hv Z2 Wu pu pv Up
def splits (t:Tr):List Nat:=(AH t.size).filter fun j=>uv (en t 0 j)
def Dt.first (t:Tr):Dt t (Al t.size 0) (splits t) 0:=by
 have z:∀j,(Al t.size (0:Int)).getD j 0=0:=fun j=>by
  rw [Ar,Bn]
  split <;> rfl
 have mem:∀j,j∈splits t↔j < t.size/\uv (en t 0 j)=true:=fun j=>by unfold splits;rw [AG,AL]
 refine⟨A3,fun j _ _=>z j,fun j hj hn a b e=>absurd ((mem j).mpr ⟨hj,by rw [e];rfl⟩) hn,fun i j hi hj hni _ pi _ _=>absurd ((mem i).mpr ⟨hi,pi⟩) hni,Dl _,fun j hj=>(mem j).mp hj,?_⟩;unfold splits;exact List.Pairwise.filter _ CY
def Kv (t:Tr):dZ 0 ((t.nd 0).map Ent.pv)=(AH t.size).map fun j=>PV.tup [.int ((j:Nat):Int),(en t 0 j).pv]:=by
 have hl:(dZ 0 ((t.nd 0).map Ent.pv)).length=t.size:=by rw [cH,Af,t.br]
 apply BE;intro i;by_cases hi:i < t.size
 ·have h1:(dZ 0 ((t.nd 0).map Ent.pv))[i]?=some ((dZ 0 ((t.nd 0).map Ent.pv))[i]'(by omega)):=Ae _;obtain⟨y,hy,e⟩:=g8 h1;rw [Ai,gG t 0 i hi] at hy;have Wt:(en t 0 i).pv=y:=Option.some.inj hy;rw [h1,e,<- Wt,Ai,BX hi,AU];rfl
 ·rw [AQ (by omega),AQ (by rw [Af,BR];omega)]
def R7:PV->Option PV
 | .tup [_,.str _]=>none
 | .tup [k,_]=>some k
 | _=>none
def V6 (t:Tr):(dZ 0 ((t.nd 0).map Ent.pv)).filterMap R7=aB (splits t):=by
 rw [Kv];unfold splits;generalize AH t.size=l
 induction l with
 | nil=>rfl
 | cons j l ih=>
  rw [Au,Bt,C8];cases e:en t 0 j with
  | word w=>exact ih
  | pair a b=>
   show PV.int ((j:Nat):Int)::_=_;rw [ih];rfl
def wV (l:List Nat):aB l=(l.map fun n=>((n:Nat):Int)).map PV.int:=by unfold aB;rw [A6];rfl
theorem uN (y:Nat):∀l:List Nat,(l.map fun n=>((n:Nat):Int)).erase (y:Int)=(l.erase y).map fun n=>((n:Nat):Int)
 | []=>rfl
 | a::l=>by
  rw [Au,List.erase_cons,List.erase_cons,uN y l];by_cases c:a=y
  ·subst c;simp
  ·have c1:(((a:Nat):Int)==(y:Int))=false:=by simp;omega
   have c2:(a==y)=false:=by simpa using c
   rw [c1,c2];simp
def VZ {d:Int} (h0:0<=d) (h1:d < 3):∃m:Int,cI [PV.int 1,PV.int 3,PV.int 13] d=some (.int m)/\0 < m/\m<=13:=by
 have:d=0\/d=1\/d=2:=by omega
 rcases this with rfl | rfl | rfl
 ·exact⟨1,rfl,by decide,by decide⟩
 ·exact⟨3,rfl,by decide,by decide⟩
 ·exact⟨13,rfl,by decide,by decide⟩
theorem JP:∀(l:List Nat) (k n:Nat),l.Pairwise (· < ·)->(∀x∈l,k<=x/\x < n)->l.length<=n-k
 | [],_,_,_,_=>Bd _
 | a::l,k,n,h,hb=>by
  have h1:=(DN.mp h);have h2:=hb a Bp;have ih:=JP l (a+1) n h1.2 fun x hx=>⟨h1.1 x hx,(hb x (AW _ hx)).2⟩;rw [Aq];omega
def U6 (s:Nat):Ent->Ent
 | .word x=>.word x
 | .pair p q=>.pair (p+s) (q+s)
theorem HW:∀(t:Tr) (o s:Nat),t.nd (o+s)=(t.nd o).map (U6 s)
 | .leaf _,_,_=>rfl
 | .node a b,o,s=>by
  have ha:=a.size_pos;rw [Tr.nd,Tr.nd,HW a o s,show o+s+a.size=o+a.size+s by omega,HW b (o+a.size) s,A1,A1];congr 2;show Ent.pair _ _=Ent.pair _ _;congr 1 <;> omega
def u4 {l m:List PV} (h:l.length+m.length<=1000):G4 l m=.ret (l++m):=W.aq (bb h)
theorem gY:∀(n:Nat) (t:Tr),t.depth < n->t.size<=900->(aX n t.pv).le (.ret ((t.nd 0).map Ent.pv))
 | 0,_,h,_=>by omega
 | n+1,.leaf w,_,_=>fun Q q=>by
  unfold aX;simp [Tr.pv];exact q
 | n+1,.node a b,h,hz=>fun Q q=>by
  have hs:(Tr.node a b).size=a.size+b.size+1:=rfl;have hpa:=a.size_pos;have hpb:=b.size_pos;have hd:a.depth < n/\b.depth < n:=by simp [Tr.depth] at h;omega
  unfold aX;have i0:cI [a.pv,b.pv] 0=some a.pv:=rfl;have i1:cI [a.pv,b.pv] 1=some b.pv:=rfl;simp only [Tr.pv,W.ag,W.run_bind,mB,o4,cp,Ap,if_false,aG,bf,i0,i1,W.aA];refine W.le.use (gY n a hd.1 (by omega)) ?_;simp only [qC,Af,a.br,W.ai];refine W.le.use (gY n b hd.2 (by omega)) ?_;refine gR (fun i s=>s=(a.nd 0++((b.nd 0).take i).map (U6 a.size)).map Ent.pv) (by simp) (fun i x s hx hs=>?_) (fun s hs=>?_)
  ·subst hs;rw [Ai] at hx;cases e:(b.nd 0)[i]? with
   | none=>rw [e] at hx;cases hx
   | some en=>
    rw [e] at hx;have ex:en.pv=x:=Option.some.inj hx;subst ex;have hi:i < b.size:=by have:=(Aj.mp e).1;rw [b.br] at this;exact this
    have et:(b.nd 0).take (i+1)=(b.nd 0).take i++[en]:=by rw [CV,e];rfl
    have al:∀y,jC ((a.nd 0++((b.nd 0).take i).map (U6 a.size)).map Ent.pv) y=.ret ((a.nd 0++((b.nd 0).take i).map (U6 a.size)).map Ent.pv++[y]):=fun y=>gE (by simp [a.br];omega);cases en with
    | word w=>
     simp only [Ent.pv,W.ag,W.run_bind,zk,zj,cp,if_true,al,W.ai,et];simp [U6,Ent.pv]
    | pair u v=>
     have j0:cI [PV.int (u:Int),PV.int (v:Int)] 0=some (.int u):=rfl;have j1:cI [PV.int (u:Int),PV.int (v:Int)] 1=some (.int v):=rfl;simp only [Ent.pv,W.ag,W.run_bind,mB,o4,cp,Ap,if_false,aG,bf,j0,j1,W.aA,f7,al,W.ai,et];simp [U6,Ent.pv]
  ·subst hs;rw [BC (by rw [Af];exact Am _)];have es:(b.nd 0).map (U6 a.size)=b.nd a.size:=by rw [<- HW b 0 a.size,AU]
   rw [es];simp only [W.ag,W.run_bind,qA,qC,Af,Ad,a.br,b.br,W.ai];rw [u4 (by simp [a.br,b.br];omega)];have e:(Tr.node a b).nd 0=a.nd 0++b.nd a.size++[.pair (a.size-1) (a.size+b.size-1)]:=by rw [Tr.nd];simp
   rw [e] at q;have e1:((a.size:Int)-1)=((a.size-1:Nat):Int):=by omega
   have e2:(((a.size+b.size:Nat):Int)-1)=((a.size+b.size-1:Nat):Int):=by omega
   rw [e1,e2];simpa [Ent.pv] using q
def pick_run {l:List PV} (h0:l≠[]) (h1:l.length<=1000) {Q:PV->Prop} (q:∀x∈l,Q x):(bp (.cl l)).run Q:=by
 unfold bp;have hp:0 < l.length:=E6.mpr h0;simp only [W.ag,W.run_bind,cq,iG,bW (l.length:Int) (by omega) (by omega),W.ai];refine aZ fun d d0 d1=>?_;obtain⟨v,hv,hv2⟩:=Qp (xs:=l) d0 d1;simp only [bf,hv,W.aA,W.ai];exact q v (A5 hv2)
def OO (k:Nat) (l:List Nat) (b:Bool):OP b (.int (k:Int)) (aB l)=.ret (if b then !decide (k∈l) else decide (k∈l)):=by
 have h1:OQ (.int (k:Int)) (aB l):=⟨by simp,lP.mpr fun x hx=>by
  obtain⟨n,_,rfl⟩:=AB.mp hx;simp,lS fun x hx=>by
  obtain⟨n,_,rfl⟩:=AB.mp hx;simp⟩
 have h2:wg (.int (k:Int)) (aB l)=decide (k∈l):=by
  unfold wg aB;rw [List.any_map]
  induction l with
  | nil=>simp
  | cons a l ih=>
   have ih:=ih ⟨by simp,lP.mpr fun x hx=>by
    obtain⟨n,_,rfl⟩:=AB.mp hx;simp,lS fun x hx=>by
    obtain⟨n,_,rfl⟩:=AB.mp hx;simp⟩
   rw [Ce,ih];simp only [Function.comp,Ph,Av];by_cases c:a=k
   ·subst c;simp
   ·have c1:(((a:Nat):Int)==(k:Int))=false:=by simp;omega
    have c2:¬k=a:=fun z=>c z.symm;simp [c1,c2]
 unfold OP;rw [W.aq h1,h2]
def P6 (l:List Nat):wy (aB l)=true:=G1.mpr fun x hx=>by
 obtain⟨n,_,rfl⟩:=AB.mp hx;rw [PV.dat] <;> simp
def dm (ds:List Int):List PV:=ds.map PV.int
@[simp] theorem iq (ds:List Int):(dm ds).length=ds.length:=Af _
def OM (ds:List Int) (y:Nat) (v:Int):(dm ds).set y (.int v)=dm (ds.set y v):=by unfold dm;rw [Eu]
def QG (t:Tr) (left:List Nat) (j:Nat):Bool:=match en t 0 j with
 | .pair a b=>!decide (a∈left)&&!decide (b∈left)
 | _=>false
def Ki {n k:Nat} (h:k < n):qV n (k:Int)=some k:=by
 unfold qV;rw [if_pos (by omega),if_pos (by omega)];simp
def oh {l:List PV}{k:Nat}{v:PV} (h:k < l.length):jm l (.int (k:Int)) v=.ret (l.set k v):=by
 unfold jm;simp [Ki h]
def Oa (t:Tr) {j:Nat} (h:j < t.size):cI ((t.nd 0).map Ent.pv) (j:Int)=some (en t 0 j).pv:=eB (by rw [Ai,gG t 0 j h];rfl)
def Mi (t:Tr) (hz:t.size<=900) {Q:PV->Prop} (q:∀ds d,Dt t ds [] d->d<=13*((splits t).length:Int)->Q (.tup (dm ds))):(dF (.cl ((t.nd 0).map Ent.pv))).run Q:=by
 unfold dF;have hs:(splits t).length<=t.size:=by
  unfold splits;have:=AO (fun j=>uv (en t 0 j)) (AH t.size);rw [BR] at this;exact this
 have e1:F0 [PV.int 0] (.int ((t.nd 0).map Ent.pv).length)=.ret (dm (Al t.size 0)):=by
  rw [zi,W.aq ⟨by omega,by rw [Af,t.br];omega,bb (by simp [t.br];omega)⟩];congr 1;rw [Af,t.br,AR];unfold dm;rw [List.map_replicate]
  induction t.size with
  | zero=>rfl
  | succ n ih=>rw [Bl,BS,ih];rfl
 have e3:((t.nd 0).map Ent.pv).length<=sizeLine:=bb (by rw [Af,t.br];omega);simp only [W.ag,iG,e1,cq,W.aq e3,W.run_bind];refine ZH R7 (fun x hx=>?_) ?_
 ·rw [Kv] at hx;obtain⟨j,hj,rfl⟩:=AB.mp hx;cases en t 0 j with
  | word w=>simp [Ent.pv,R7]
  | pair u v=>simp [Ent.pv,R7]
 rw [V6 t];refine g9 (fun n s=>∃(ds:List Int) (left:List Nat) (d:Int),s=(dm ds,aB left,PV.int d)/\n=left.length/\Dt t ds left d/\d+13*(left.length:Int)<=13*((splits t).length:Int)) ⟨_,_,0,rfl,rfl,Dt.first t,by omega⟩ ?_;rintro n s ⟨ds,left,d,rfl,rfl,D,hd⟩;by_cases he:left=[]
 ·subst he;simp;exact q ds d D (by simpa using hd)
 ·have ee:(!(aB left).isEmpty)=true:=by cases left with | nil=>exact absurd rfl he | cons a l=>rfl
  have hll:left.length<=t.size:=by
   have:=JP left 0 t.size D.ris fun x hx=>⟨Bd _,(D.XG x hx).1⟩;omega
  obtain⟨r,hr,hr2⟩:∃r∈left,QG t left r=true:=by
   obtain⟨l0,l1,rfl⟩:∃l0 l1,left=l0::l1:=by cases left with | nil=>exact absurd rfl he | cons a l=>exact⟨a,l,rfl⟩
   refine⟨l0,.head _,?_⟩;obtain⟨h1,h2⟩:=D.XG l0 (.head _);unfold QG;cases e:en t 0 l0 with
   | word w=>rw [e] at h2;cases h2
   | pair a b=>
    obtain⟨g1,g2⟩:=fV t h1 e;have low:∀y∈l0::l1,l0<=y:=fun y hy=>by
     rcases Av.mp hy with rfl | hy
     ·exact Am _
     ·exact DB ((DN.mp D.ris).1 y hy)
    have na:a∉l0::l1:=fun z=>by have:=low a z;omega
    have nb:b∉l0::l1:=fun z=>by have:=low b z;omega
    show (!decide _&&!decide _)=true;rw [decide_eq_false na,decide_eq_false nb];rfl
  have ne:aB (left.filter (QG t left))≠[]:=by
   intro z;have:=congrArg BH z;rw [cj] at this;have m:r∈left.filter (QG t left):=AG.mpr ⟨hr,hr2⟩;rw [Eg.mp this] at m;cases m
  have e5:M4 (aB (left.filter (QG t left)))=.ret (aB (left.filter (QG t left))):=W.aq (P6 _);simp only [W.ai,ee,if_true,W.ag,W.run_bind];refine uk (QG t left) (fun k hk=>?_) ?_
  ·obtain⟨h1,h2⟩:=D.XG k hk;unfold QG;cases e:en t 0 k with
   | word w=>rw [e] at h2;cases h2
   | pair a b=>
    have j0:cI [PV.int (a:Int),PV.int (b:Int)] 0=some (.int a):=rfl;have j1:cI [PV.int (a:Int),PV.int (b:Int)] 1=some (.int b):=rfl;simp only [W.ag,cq,bf,Oa t h1,e,Ent.pv,W.aA,aG,j0,j1,OO,if_true];by_cases ca:a∈left
    ·simp [ca]
    ·simp [ca];by_cases cb:b∈left
     ·simp [cb]
     ·simp [cb]
  rw [e5];simp only [W.ai];refine pick_run ne (by rw [cj];have:=AO (QG t left) left;omega) fun x hx=>?_;obtain⟨j,hj,rfl⟩:=AB.mp hx;obtain⟨WC,OY⟩:=AG.mp hj;obtain⟨js,jp⟩:=D.XG j WC;cases ej:en t 0 j with
  | word w=>rw [ej] at jp;cases jp
  | pair a b=>
  unfold QG at OY;rw [ej] at OY;simp at OY;simp only [f7,W.ai,bW 3 (by decide) (by decide)];refine aZ fun z z0 z1=>?_;obtain⟨m,hm,m0,m1⟩:=VZ z0 z1;simp only [bf,hm,W.aA,W.ai,bW m m0 (by omega)];refine aZ fun y y0 y1=>?_;have hx2:Ve (aB left) (.int (j:Int))=.ret (aB (left.erase j)):=by
   show W.bind (qW (aB left)) _=_;rw [wV,gZ];show W.gs _ _=_;rw [W.aq (AB.mpr ⟨j,WC,rfl⟩),uN,<- wV]
  simp only [f7,W.ai,oh (l:=dm ds) (k:=j) (by rw [iq,D.len];exact js),hx2,OM];refine⟨(left.erase j).length,by rw [Eb WC];have:=Ew WC;omega,_,_,_,rfl,rfl,D.next WC ej OY.1 OY.2 y0,?_⟩;rw [Eb WC];have:=Ew WC;omega
def rm.size {t:Tr} (g:rm t):t.size<=15:=by have:=t.size_eq;have:=g.few;omega
def rm.depth {t:Tr} (g:rm t):t.depth < 8:=by have:=t.o9;have:=g.few;omega
def Zz (t:Tr) (ds:List Int) (j:Nat):Bool:=match en t 0 j with
 | .word _=>ds.getD j 0==0
 | .pair a b=>decide (ds.getD a 0 < ds.getD j 0)&&decide (ds.getD b 0 < ds.getD j 0)&&decide (1<=ds.getD j 0)&&decide (ds.getD j 0<=99)
def JM (t:Tr) (ds:List Int):List Int:=(splits t).map (ds.getD · 0)
def Ss (t:Tr) (ds:List Int):Bool:=decide (ds.length=t.size)&&(decide (JM t ds).Nodup&&(AH t.size).all (Zz t ds))
def int_at {ds:List Int}{j:Nat} (h:j < ds.length):cI (dm ds) (j:Int)=some (.int (ds.getD j 0)):=eB (by
 unfold dm;rw [Ai,Ae h,Ar,Ae h];rfl)
def UN (t:Tr) (ds:List Int) (h:ds.length=t.size):kS ((t.nd 0).map Ent.pv) (dm ds)=(AH t.size).map fun j=>PV.tup [(en t 0 j).pv,.int (ds.getD j 0)]:=by
 refine BE fun j=>?_;by_cases hj:j < t.size
 ·have hl:j < (kS ((t.nd 0).map Ent.pv) (dm ds)).length:=by rw [n5];simp [t.br,h];exact hj
  obtain⟨x,y,hx,hy,e⟩:=sV (Ae hl);rw [Ai,gG t 0 j hj] at hx;have Fy:(en t 0 j).pv=x:=Option.some.inj hx;have QL:j < ds.length:=by omega
  unfold dm at hy;rw [Ai,Ae QL] at hy;have Wt:PV.int ds[j]=y:=Option.some.inj hy;rw [Ae hl,e,<- Fy,<- Wt,Ai,BX hj];show _=some (PV.tup [_,.int (ds.getD j 0)]);rw [Ar,Ae QL];rfl
 ·rw [AQ (by rw [n5];simp [t.br,h];omega),AQ (by simp;omega)]
def split_le (t:Tr) (ds:List Int) (h:ds.length=t.size) (hz:t.size<=900):cY (.tup ((t.nd 0).map Ent.pv)) (.tup (dm ds))=.ret (dm (JM t ds)):=by
 unfold cY;have c:((t.nd 0).map Ent.pv).length<=sizeLine:=bb (by rw [Af,t.br];omega);simp only [W.ag,aG,Hv,W.aq c,UN t ds h];rw [Ik (g:=fun x=>match x with | .tup [.str _,_]=>none | .tup [_,y]=>some y | _=>none) fun x hx=>?_]
 ·congr 1;unfold JM splits dm;generalize AH t.size=l
  induction l with
  | nil=>rfl
  | cons j l ih=>
   rw [Au,Bt,C8,ih];cases e:en t 0 j with
   | word w=>rfl
   | pair a b=>rfl
 ·obtain⟨j,hj,rfl⟩:=AB.mp hx;cases en t 0 j with
  | word w=>simp [Ent.pv]
  | pair a b=>simp [Ent.pv]
section
variable {α β:Type}
theorem Oc {c:α->PV}{f:PV->W PV}{g:α->PV}:∀{l:List α},(∀x∈l,(f (c x)).le (.ret (g x)))->(cG (l.map c) f).le (.ret (l.map g))
 | [],_=>W.le.refl _
 | x::r,h=>W.le.ret (h x (.head _)) (W.le.ret (Oc fun y hy=>h y (.tail _ hy)) (W.le.refl _))
theorem Ug {c:α->PV}{f:PV->W (Option PV)}{g:α->Option PV}:∀{l:List α},(∀x∈l,(f (c x)).le (.ret (g x)))->(kW (l.map c) f).le (.ret (l.filterMap g))
 | [],_=>W.le.refl _
 | x::r,h=>W.le.ret (h x (.head _)) (W.le.ret (Ug fun y hy=>h y (.tail _ hy)) (W.le.of_eq (by rw [Bt];cases g x <;> rfl)))
def oz {c:α->PV}{f:PV->W PV}{Q:List PV->Prop} (g:α->PV) {l:List α} (h:∀x∈l,(f (c x)).le (.ret (g x))) (q:Q (l.map g)):(cG (l.map c) f).run Q:=Oc h Q q
def yH {c:α->PV}{f:PV->W (Option PV)}{Q:List PV->Prop} (g:α->Option PV) {l:List α} (h:∀x∈l,(f (c x)).le (.ret (g x))) (q:Q (l.filterMap g)):(kW (l.map c) f).run Q:=Ug h Q q
theorem Kq {p:α->Bool}{g:α->β}:∀l:List α,l.filterMap (fun x=>if p x=true then some (g x) else none)=(l.filter p).map g
 | []=>rfl
 | x::l=>by
  rw [Bt,C8,Kq l];cases p x <;> rfl
end
def Pt {α:Type} (c:α->PV) (l:List α) (k:Nat):dZ k (l.map c)=(l.zipIdx k).map fun p=>PV.tup [.int ((p.2:Nat):Int),c p.1]:=by
 induction l generalizing k with
 | nil=>rfl
 | cons a l ih=>rw [Au,dZ,ih,List.zipIdx_cons,Au]
def vp:V->PV
 | .int i=>.int i
 | .str x=>.str x
 | .bl b=>.bl b
 | _=>.aU
def X7 (t:Tr):List PV:=(ah (t.nd 0) 0 (Al t.size V.aU)).map vp
@[simp] theorem KP (t:Tr):(X7 t).length=t.size:=by unfold X7;rw [Af,Jh,A3]
def KQ (t:Tr) {j:Nat} (h:j < t.size):(X7 t)[j]?=some (vp (kX t 0 j .aU)):=by unfold X7;rw [Ai,Xo t h];rfl
def fC (t:Tr):((t.nd 0).map Ent.pv).length=t.size:=by rw [Af,t.br]
def G9 (t:Tr) (hz:t.size<=900):(eL t.pv).le (.ret (.tup (X7 t))):=fun Q q=>by
 unfold eL;have c:((t.nd 0).map Ent.pv).length<=sizeLine:=bb (by rw [fC];omega);simp only [W.ag,W.run_bind];refine W.le.use (tY t hz) ?_;simp only [aG,W.ai];refine Od (fun _=>.aU) (fun x hx=>rfl) ?_;simp only [W.aq c,W.ai];have e0:((t.nd 0).map Ent.pv).map (fun _=>PV.aU)=(ah ((t.nd 0).take 0) 0 (Al t.size V.aU)).map vp:=by
  rw [List.take_zero,ah,List.map_replicate,List.map_const',fC];rfl
 rw [e0];refine gR (fun i s=>s=(ah ((t.nd 0).take i) 0 (Al t.size V.aU)).map vp) rfl (fun i x s hx hs=>?_) (fun s hs=>?_)
 ·subst hs;have hi:i < t.size:=by have:=(Aj.mp hx).1;rw [cH,fC] at this;exact this
  obtain⟨y,hy,rfl⟩:=g8 hx;have e:=gG t 0 i hi;rw [Ai,e] at hy;have hy:(en t 0 i).pv=y:=Option.some.inj hy;subst hy;have et:(t.nd 0).take (i+1)=(t.nd 0).take i++[en t 0 i]:=by rw [CV,e];rfl
  have ea:ah ((t.nd 0).take (i+1)) 0 (Al t.size V.aU)=Qw (ah ((t.nd 0).take i) 0 (Al t.size V.aU)) (0+i) (en t 0 i):=by
   rw [et,zL,B1,t.br];congr 1;omega
  have hal:(ah ((t.nd 0).take i) 0 (Al t.size V.aU)).length=t.size:=by rw [Jh,A3]
  rw [ea];generalize hA:ah ((t.nd 0).take i) 0 (Al t.size V.aU)=A at hal ⊢;unfold dh;cases en':en t 0 i with
  | word w=>simp [Ent.pv,dQ,Qw]
  | pair a b=>
   obtain⟨ha,hb⟩:=fV t hi en';have s1:jm (A.map vp) (.int (a:Int)) (.int ((0+i:Nat):Int))=.ret ((A.map vp).set a (.int ((0+i:Nat):Int))):=oh (by rw [Af];omega);have s2:jm ((A.map vp).set a (.int ((0+i:Nat):Int))) (.int (b:Int)) (.int ((0+i:Nat):Int))=.ret (((A.map vp).set a (.int ((0+i:Nat):Int))).set b (.int ((0+i:Nat):Int))):=oh (by rw [BV,Af];omega);simp only [Ent.pv,zg,W.ai,mB,o4,cp,W.run_bind,Ap,if_false,aG,dQ,W.ag,s1,s2];show _=E1 vp ((A.set a _).set b _);rw [Eu,Eu];rfl
 ·subst hs;simp only [cH,Af];rw [C7];simp only [W.ag,W.run_bind,qz,W.ai];exact q
def HV (e:Ent) (j:Nat):PV:=match e with | .word x=>.str x | .pair _ _=>.int (j:Int)
def Hr (t:Tr) (ds:List Int) (b:Int) (j:Nat):Bool:=decide (ds.getD j 0<=b)&&(match kX t 0 j .aU with | .int a=>decide (b < ds.getD a.toNat 0) | _=>true)
def vB (t:Tr) (ds:List Int) (b:Int) (n j:Nat):List (Nat×Nat):=((AH j).filter (Hr t ds b)).map fun k=>(k,n)
def aK (t:Tr) (ds bs:List Int):Nat->List (Nat×Nat)
 | 0=>[]
 | i+1=>aK t ds bs i++vB t ds (bs.getD i 0) i t.size
def MH (l:List (Nat×Nat)):List PV:=l.map fun p=>.tup [.int (p.1:Int),.int (p.2:Int)]
def xY (t:Tr) (ds:List Int) (b:Int) (n j:Nat):(vB t ds b n j).length<=j:=by
 unfold vB;rw [Af];refine Bm (AO _ _) ?_;rw [BR];exact Am _
theorem jM (t:Tr) (ds bs:List Int):∀i,(aK t ds bs i).length<=i*t.size
 | 0=>Bd _
 | i+1=>by
  rw [aK,Ad];have h1:=jM t ds bs i;have h2:=xY t ds (bs.getD i 0) i t.size;rw [Fj];omega
def Na (t:Tr) (ds:List Int) (b:Int) (n j:Nat):vB t ds b n (j+1)=vB t ds b n j++(if Hr t ds b j then [(j,n)] else []):=by
 unfold vB;rw [List.range_succ,DQ,A1];congr 1;by_cases c:Hr t ds b j <;> simp [c]
def rR (p:Nat×Nat):List Key:=[.inl (p.1:Int),.inl (p.2:Int)]
def Gz {p q:Nat×Nat} (h:rR p=rR q):p=q:=by
 obtain⟨a,b⟩:=p;obtain⟨c,d⟩:=q;simp [rR] at h;obtain⟨h1,h2⟩:=h;exact Prod.ext (by show a=c;omega) (by show b=d;omega)
def nr:Nat->List (Nat×Nat)->List (List Key×PV)
 | _,[]=>[]
 | k,p::l=>(rR p,.int (k:Int))::nr (k+1) l
theorem mn:∀(k:Nat) (l:List (Nat×Nat)),(nr k l).map (·.1)=l.map rR
 | _,[]=>rfl
 | k,p::l=>by rw [nr,Au,Au,mn (k+1) l]
def Gh (k:Nat) (l:List (Nat×Nat)):(nr k l).length=l.length:=by have:=congrArg BH (mn k l);simpa using this
theorem tW:∀(k:Nat) (l:List (Nat×Nat)) (p:Nat×Nat),p∈l->mI (nr k l) (rR p)=some (.int ((k+l.idxOf p:Nat):Int))
 | k,q::l,p,h=>by
  rw [List.idxOf_cons];by_cases c:q=p
  ·subst c;simp [nr,mI]
  ·have hp:p∈l:=(Av.mp h).elim (fun z=>absurd z.symm c) id;have ih:=tW (k+1) l p hp;have c2:rR q≠rR p:=fun z=>c (Gz z);have c3:(q==p)=false:=by simpa using c
   have e:mI (nr k (q::l)) (rR p)=mI (nr (k+1) l) (rR p):=by simp [nr,mI,c2]
   rw [e,ih,c3];congr 2;show ((k+1+l.idxOf p:Nat):Int)=((k+(l.idxOf p+1):Nat):Int);omega
def G6 (e:Ent) (j:Nat) (d b:Int):List Nat:=if d < b then [j] else match e with | .word _=>[] | .pair x y=>[x,y]
def UK (l:List (Nat×Nat)) (j n:Nat):List Nat:=(l.filter fun p=>decide (p.2=n)&&!decide (p.1=j)).map fun p=>l.idxOf p
def KC (e:Ent) (l:List (Nat×Nat)) (j n:Nat) (d b:Int):PV:=.tup [HV e j,.int (n:Int),.tup (aB ((G6 e j d b).map fun x=>l.idxOf (x,n-1))),.tup (aB (UK l j n))]
def J5 {α β:Type}{f:α->β} (hf:∀x y,f x=f y->x=y) {l:List α} (h:l.Nodup):(l.map f).Nodup:=List.Pairwise.map f (fun a b n z=>n (hf a b z)) h
def K6 (t:Tr) (ds:List Int) (b:Int) (n j:Nat):(vB t ds b n j).Nodup:=by
 unfold vB;exact J5 (fun x y h=>(Prod.mk.inj h).1) (List.Pairwise.filter _ List.nodup_range)
theorem hR {t:Tr}{ds bs:List Int}:∀{i:Nat}{p:Nat×Nat},p∈aK t ds bs i->p.2 < i/\p.1 < t.size
 | 0,_,h=>by simp [aK] at h
 | i+1,p,h=>by
  rw [aK] at h;rcases A2.mp h with h | h
  ·have:=hR h;omega
  ·unfold vB at h;obtain⟨k,hk,rfl⟩:=AB.mp h;have:=AL.mp (AG.mp hk).1;exact⟨C6 _,this⟩
theorem jL (t:Tr) (ds bs:List Int):∀i,(aK t ds bs i).Nodup
 | 0=>EZ
 | i+1=>by
  rw [aK];refine CZ.mpr ⟨jL t ds bs i,K6 _ _ _ _ _,fun a ha b hb z=>?_⟩;subst z;have h1:=(hR ha).1;unfold vB at hb;obtain⟨k,_,rfl⟩:=AB.mp hb;exact AX _ h1
def ik {l:List PV}{k:Nat}{v:PV} (h:l[k]?=some v):MJ l (.int (k:Int))=.ret v:=by
 rw [bf,eB h];rfl
def GY (ds:List Int) {i:Nat}{x:PV} (h:(dZ 0 (dm ds))[i]?=some x):i < ds.length/\x=.tup [.int (i:Int),.int (ds.getD i 0)]:=by
 have hi:i < ds.length:=by have:=(Aj.mp h).1;rw [cH,iq] at this;exact this
 obtain⟨y,hy,rfl⟩:=g8 h;unfold dm at hy;rw [Ai,Ae hi] at hy;have hy:=Option.some.inj hy;subst hy;refine⟨hi,?_⟩;rw [AU,Ar,Ae hi];rfl
def FR (t:Tr) (ds bs:List Int) (hd:ds.length=t.size) (hz:t.size<=100) (hb:bs.length*t.size<=900) (hb2:bs.length<=900):(fD t.pv (.tup (dm ds)) (.cl (dm bs))).le (.ret (MH (aK t ds bs bs.length))):=fun Q q=>by
 unfold fD;have c1:(dm bs).length<=sizeLine:=bb (by rw [iq];omega);have c2:(dm ds).length<=sizeLine:=bb (by rw [iq];omega);simp only [W.ag,W.run_bind];refine W.le.use (G9 t (by omega)) ?_;simp only [cq,W.ai,W.aq c1];refine gR (fun i s=>s=MH (aK t ds bs i)) rfl (fun i x s hx hs=>?_) (fun s hs=>?_)
 ·subst hs;obtain⟨hi,rfl⟩:=GY bs hx;simp only [zg,W.ai,W.run_bind,aG,W.aq c2];have hl:=jM t ds bs i;have hm:i*t.size+t.size<=900:=by
   have:(i+1)*t.size<=bs.length*t.size:=Nat.mul_le_mul_right _ hi;rw [Fj] at this;omega
  refine gR (fun j s=>s=MH (aK t ds bs i++vB t ds (bs.getD i 0) i j)) (by simp [vB]) (fun j x s hx hs=>?_) (fun s hs=>?_)
  ·subst hs;obtain⟨hj,rfl⟩:=GY ds hx;have QK:=xY t ds (bs.getD i 0) i j;simp only [zg,W.ai,W.run_bind];rw [Na];have WB:j < t.size:=by omega
   have yes:Hr t ds (bs.getD i 0) j=true->(jC (MH (aK t ds bs i++vB t ds (bs.getD i 0) i j)) (PV.tup [.int (j:Int),.int (i:Int)])).run fun s=>s=MH (aK t ds bs i++(vB t ds (bs.getD i 0) i j++if Hr t ds (bs.getD i 0) j=true then [(j,i)] else [])):=fun c=>by
    rw [gE (by unfold MH;rw [Af,Ad];omega),if_pos c];simp only [W.ai];unfold MH;rw [<- A7,A1 (l₂:=[(j,i)])];rfl
   have no:Hr t ds (bs.getD i 0) j=false->MH (aK t ds bs i++vB t ds (bs.getD i 0) i j)=MH (aK t ds bs i++(vB t ds (bs.getD i 0) i j++if Hr t ds (bs.getD i 0) j=true then [(j,i)] else [])):=fun c=>by rw [c];simp
   generalize eb:bs.getD i 0=b at yes no ⊢;generalize ed:ds.getD j 0=d at *;simp only [W.ag,W.run_bind,aaB,W.ai,bU,aG,ik (KQ t WB)];by_cases c:d<=b
   ·simp only [c,decide_true,if_true,W.run_bind,W.ai];rcases sZ t 0 j .aU [] WB with⟨_,e,_⟩ | ⟨a,_,ha,e,_⟩
    ·have sb:Hr t ds b j=true:=by unfold Hr;rw [e,ed];simp [c]
     rw [e];simp only [vp,uL,W.ai,bU,PV.oS,if_true];exact yes sb
    ·rw [AU] at e;have sb:Hr t ds b j=decide (b < ds.getD a 0):=by unfold Hr;rw [e,ed];simp [c]
     rw [e];have i2:cI (dm ds) (a:Int)=some (.int (ds.getD a 0)):=int_at (by omega);simp only [vp,uL,W.ai,bU,PV.oS,Ap,if_false,bf,i2,W.aA,Ks,W.ag];by_cases c2:b < ds.getD a 0
     ·rw [decide_eq_true c2] at sb ⊢;simp only [if_true];exact yes sb
     ·rw [decide_eq_false c2] at sb ⊢;simp only [Ap,if_false,W.ai];exact no sb
   ·have sb:Hr t ds b j=false:=by unfold Hr;rw [ed];simp [c]
    simp only [c,decide_false,Ap,if_false,W.ai];exact no sb
  ·subst hs;rw [cH,iq,hd];rfl
 ·subst hs;rw [cH,iq];exact q
def RY {l:List (Nat×Nat)} (h:l≠[]) (k:Nat):nr k l≠[]:=by cases l with | nil=>exact absurd rfl h | cons a l=>simp [nr]
def HU (k:Nat) (l:List (Nat×Nat)):((nr k l).map fun kv=>PV.tup (kv.1.map kP))=l.map fun p=>PV.tup [.int (p.1:Int),.int (p.2:Int)]:=by
 have:=congrArg (E1 fun x:List Key=>PV.tup (x.map kP)) (mn k l);rw [A6,A6] at this;exact this
def Rb {es:List Ent}{ds bs:List Int}{l:List (Nat×Nat)}{j n:Nat}{e:Ent} (h1:es[j]?=some e) (h2:j < ds.length) (h3:n < bs.length) (hl:l.length<=1000) (h0:l≠[])
  (hb:∀x∈G6 e j (ds.getD j 0) (bs.getD n 0),1<=n/\(x,n-1)∈l) :
  (gV (.tup (es.map Ent.pv)) (.tup (dm ds)) (.cl (dm bs)) (PQ (nr 0 l)) (.tup [.int (j:Int),.int (n:Int)])).le (.ret (KC e l j n (ds.getD j 0) (bs.getD n 0))):=fun Q q=>by
 unfold gV;have i0:cI [PV.int (j:Int),PV.int (n:Int)] 0=some (.int j):=rfl;have i1:cI [PV.int (j:Int),PV.int (n:Int)] 1=some (.int n):=rfl;have i2:cI (dm ds) (j:Int)=some (.int (ds.getD j 0)):=int_at h2;have i3:cI (dm bs) (n:Int)=some (.int (bs.getD n 0)):=int_at h3;have i4:cI (es.map Ent.pv) (j:Int)=some e.pv:=eB (by rw [Ai,h1];rfl);simp only [W.ag,W.run_bind,aG,cq,bf,i0,i1,i2,i3,i4,W.aA,W.ai,Ks,cp];generalize hdj:ds.getD j 0=d at *;generalize hbn:bs.getD n 0=b at *;have below:∀{R:PV->Prop},R (.tup (aB (G6 e j d b)))->(if decide (d < b)=true then W.ret (PV.tup [PV.int (j:Int)]) else dh e.pv).run R:=fun {R} r=>by
  unfold G6 at r;unfold dh;by_cases c:d < b
  ·rw [if_pos c] at r;simpa [c] using r
  ·rw [if_neg c] at r;cases e with
   | word w=>simpa [c,Ent.pv] using r
   | pair a b=>simpa [c,Ent.pv] using r
 refine below ?_;simp only [W.run_bind,aG,W.ai];refine oz (fun x=>.int ((l.idxOf (x,n-1):Nat):Int)) (fun k hk=>?_) ?_
 ·obtain⟨g1,g2⟩:=hb k hk;intro R r;have en1:(n:Int)-1=((n-1:Nat):Int):=by omega
  simp only [dgB,W.ag,W.run_bind,qA,W.ai,en1];rw [show PV.tup [.int (k:Int),.int ((n-1:Nat):Int)]=.tup ((rR (k,n-1)).map kP) from rfl];refine KG (tW 0 l (k,n-1) g2) ?_;rw [AU];exact r
 simp only [W.run_bind,qz,W.ai];refine LL (RY h0 0) (by rw [Gh];exact hl) ?_;rw [HU];refine yH (fun p=>if (decide (p.2=n)&&!decide (p.1=j))=true then some (.int ((l.idxOf p:Nat):Int)) else none) (fun p hp=>?_) ?_
 ·intro R r;obtain⟨u,v⟩:=p;have j0:cI [PV.int (u:Int),PV.int (v:Int)] 0=some (.int u):=rfl;have j1:cI [PV.int (u:Int),PV.int (v:Int)] 1=some (.int v):=rfl;simp only [dgB,W.ag,W.run_bind,aG,bf,j0,j1,W.aA,W.ai,eN,IQ,bU];have get:∀{R:PV->Prop},R (.int ((l.idxOf (u,v):Nat):Int))->(dgW (PQ (nr 0 l)) (PV.tup [.int (u:Int),.int (v:Int)])).run R:=fun {R} r=>by
   rw [show PV.tup [.int (u:Int),.int (v:Int)]=.tup ((rR (u,v)).map kP) from rfl];refine KG (tW 0 l (u,v) hp) ?_;rw [AU];exact r
  by_cases c1:v=n
  ·subst c1;by_cases c2:u=j
   ·subst c2;simp only [beq_self_eq_true,Cn,if_true,W.ai,Ap,if_false];simpa using r
   ·have c3:((u:Int)==(j:Int))=false:=by simp;omega
    simp only [beq_self_eq_true,c3,DR,if_true,W.ai,W.run_bind];refine get ?_;simpa [c2] using r
  ·have c3:((v:Int)==(n:Int))=false:=by simp;omega
   simp only [c3,Ap,if_false,W.ai];simpa [c1] using r
 rw [Kq];have nm:∀{R:PV->Prop},R (HV e j)->(dB (.tup (es.map Ent.pv)) (.int (j:Int))).run R:=fun {R} r=>by
  unfold dB;simp only [W.ag,W.run_bind,aG,bf,i4,W.aA,W.ai];cases e with
  | word w=>simpa [Ent.pv,HV] using r
  | pair a b=>simpa [Ent.pv,HV] using r
 refine nm ?_;have e1:(l.filter fun p=>decide (p.2=n)&&!decide (p.1=j)).map (fun p=>PV.int ((l.idxOf p:Nat):Int))=aB (UK l j n):=by
  unfold aB UK;rw [A6];rfl
 have e2:(G6 e j d b).map (fun x=>PV.int ((l.idxOf (x,n-1):Nat):Int))=aB ((G6 e j d b).map fun x=>l.idxOf (x,n-1)):=by
  unfold aB;rw [A6];rfl
 rw [e1,e2];exact q
def X3 (t:Tr) (ds bs:List Int):List PV:=(aK t ds bs bs.length).map fun p=>KC (en t 0 p.1) (aK t ds bs bs.length) p.1 p.2 (ds.getD p.1 0) (bs.getD p.2 0)
def okD (t:Tr) (ds bs:List Int):Prop:=∀p∈aK t ds bs bs.length,∀x∈G6 (en t 0 p.1) p.1 (ds.getD p.1 0) (bs.getD p.2 0),1<=p.2/\(x,p.2-1)∈aK t ds bs bs.length
theorem tX:∀(k:Nat) (l:List (Nat×Nat)),(l.zipIdx k).map (fun p=>PV.tup [PV.tup [.int (p.1.1:Int),.int (p.1.2:Int)],.int ((p.2:Nat):Int)])=(nr k l).map JZ
 | _,[]=>rfl
 | k,p::l=>by rw [List.zipIdx_cons,Au,tX (k+1) l];rfl
def aP (t:Tr) (ds:List Int):List Int:=0::sortI (JM t ds)
def JL (t:Tr) (ds:List Int):(JM t ds).length<=t.size:=by
 unfold JM splits;rw [Af];have:=AO (fun j=>uv (en t 0 j)) (AH t.size);rw [BR] at this;exact this
def wX {x:Int}{l:List Int}:x∈sortI l↔x∈l:=(Cy l _).mem_iff
def pP (l:List Int):(sortI l).length=l.length:=(Cy l _).length_eq
def P5 (t:Tr) (ds:List Int) (hd:ds.length=t.size) (hz:t.size<=25) (h0:aK t ds (aP t ds) (aP t ds).length≠[]) (ok:okD t ds (aP t ds)):(jX t.pv (.tup (dm ds))).le (.ret (.tup (X3 t ds (aP t ds)))):=fun Q q=>by
 unfold jX;simp only [W.ag,W.run_bind];refine W.le.use (tY t (by omega)) ?_;have hs:=JL t ds;have hl:(aP t ds).length<=t.size+1:=by unfold aP;rw [Aq,pP];omega
 have e2:xZ (dm (JM t ds))=.ret (dm (sortI (JM t ds))):=by
  unfold xZ dm;rw [gZ];show W.gs _ _=_;rw [W.aq (by omega)]
 have e3:G4 [PV.int 0] (dm (sortI (JM t ds)))=.ret (dm (aP t ds)):=by
  rw [u4 (by rw [iq,pP];simp;omega)];rfl
 simp only [split_le t ds hd (by omega),W.ai,e2,e3];have hb:(aP t ds).length*t.size<=900:=by
  have:(aP t ds).length*t.size<=26*25:=Nat.mul_le_mul (by omega) hz;omega
 refine W.le.use (FR t ds (aP t ds) hd (by omega) hb (by omega)) ?_;generalize hL:aK t ds (aP t ds) (aP t ds).length=L at *;have hLl:L.length<=900:=by rw [<- hL];exact Bm (jM _ _ _ _) hb
 have hLm:∀p∈L,p.2 < (aP t ds).length/\p.1 < t.size:=fun p hp=>hR (hL▸hp);have c:(MH L).length<=sizeLine:=bb (by unfold MH;rw [Af];omega);simp only [cq,W.ai,W.aq c,W.ag];unfold MH;rw [Pt];refine oz (fun p:(Nat×Nat)×Nat=>PV.tup [PV.tup [.int (p.1.1:Int),.int (p.1.2:Int)],.int ((p.2:Nat):Int)]) (fun p _ R r=>by simpa using r) ?_;rw [tX];refine Mg ?_ (by rw [Gh];omega) ?_
 ·rw [mn];exact J5 (fun _ _ h=>Gz h) (hL▸jL t ds _ _)
 refine oz (fun p:Nat×Nat=>KC (en t 0 p.1) L p.1 p.2 (ds.getD p.1 0) ((aP t ds).getD p.2 0)) (fun p hp=>?_) ?_
 ·obtain⟨g1,g2⟩:=hLm p hp;refine Rb (gG t 0 p.1 g2) (by omega) g1 (by omega) h0 fun x hx=>?_;have:=ok p (by rw [hL];exact hp) x hx;rw [hL] at this;exact this
 ·simp only [qz,W.ai];have:X3 t ds (aP t ds)=L.map fun p:Nat×Nat=>KC (en t 0 p.1) L p.1 p.2 (ds.getD p.1 0) ((aP t ds).getD p.2 0):=by unfold X3;rw [hL]
  rw [<- this];exact q
theorem kE:∀(t:Tr) (o x:Nat) (p:V),x < t.size->(x=t.size-1/\kX t o x p=p)\/∃a u v,x < a/\a < t.size/\kX t o x p=.int ((o+a:Nat):Int)/\en t o a=.pair u v/\(u=o+x\/v=o+x)
 | .leaf _,o,x,p,h=>.inl ⟨by have:x < 1:=h;show x=0;omega,rfl⟩
 | .node l r,o,x,p,h=>by
  have es:(Tr.node l r).size=l.size+r.size+1:=rfl;have lp:=l.size_pos;have rp:=r.size_pos;have top:en (.node l r) o (l.size+r.size)=.pair (o+l.size-1) (o+l.size+r.size-1):=by rw [en,if_neg (by omega),if_neg (by omega)]
  by_cases c1:x < l.size
  ·rw [show kX (.node l r) o x p=kX l o x (.int (o+l.size+r.size:Nat)) by rw [kX,if_pos c1]];rcases kE l o x (.int (o+l.size+r.size:Nat)) c1 with⟨h1,h2⟩ | ⟨a,u,v,h1,h2,h3,h4,h5⟩
   ·exact .inr ⟨l.size+r.size,_,_,by omega,by omega,by rw [h2,A9],top,.inl (by omega)⟩
   ·exact .inr ⟨a,u,v,h1,by omega,h3,by rw [en,if_pos h2];exact h4,h5⟩
  ·by_cases c2:x < l.size+r.size
   ·rw [show kX (.node l r) o x p=kX r (o+l.size) (x-l.size) (.int (o+l.size+r.size:Nat)) by rw [kX,if_neg c1,if_pos c2]];rcases kE r (o+l.size) (x-l.size) (.int (o+l.size+r.size:Nat)) (by omega) with⟨h1,h2⟩ | ⟨a,u,v,h1,h2,h3,h4,h5⟩
    ·exact .inr ⟨l.size+r.size,_,_,by omega,by omega,by rw [h2,A9],top,.inr (by omega)⟩
    ·refine .inr ⟨l.size+a,u,v,by omega,by omega,by rw [h3,A9],?_,by omega⟩;rw [en,if_neg (by omega),if_pos (by omega),CJ];exact h4
   ·exact .inl ⟨by omega,by rw [kX,if_neg c1,if_neg c2]⟩
theorem uP:∀(t:Tr) (o j:Nat) (p:V) (a b:Nat),j < t.size->en t o j=.pair a b->o<=a/\o<=b/\a < o+j/\b < o+j/\a < b/\kX t o (a-o) p=.int ((o+j:Nat):Int)/\kX t o (b-o) p=.int ((o+j:Nat):Int)
 | .leaf _,o,j,p,a,b,h,e=>by rw [en] at e;cases e
 | .node l r,o,j,p,a,b,h,e=>by
  have es:(Tr.node l r).size=l.size+r.size+1:=rfl;have lp:=l.size_pos;have rp:=r.size_pos;by_cases c1:j < l.size
  ·rw [en,if_pos c1] at e;obtain⟨h1,h2,h3,h4,h5,h6,h7⟩:=uP l o j (.int (o+l.size+r.size:Nat)) a b c1 e;refine⟨h1,h2,h3,h4,h5,?_,?_⟩
   ·rw [kX,if_pos (by omega)];exact h6
   ·rw [kX,if_pos (by omega)];exact h7
  ·by_cases c2:j < l.size+r.size
   ·rw [en,if_neg c1,if_pos c2] at e;obtain⟨h1,h2,h3,h4,h5,h6,h7⟩:=uP r (o+l.size) (j-l.size) (.int (o+l.size+r.size:Nat)) a b (by omega) e;refine⟨by omega,by omega,by omega,by omega,h5,?_,?_⟩
    ·rw [kX,if_neg (by omega),if_pos (by omega),EY,h6,show o+l.size+(j-l.size)=o+j by omega]
    ·rw [kX,if_neg (by omega),if_pos (by omega),EY,h7,show o+l.size+(j-l.size)=o+j by omega]
   ·rw [en,if_neg c1,if_neg c2] at e;injection e with e1 e2;subst e1;subst e2;have hj:j=l.size+r.size:=by omega
    subst hj;have root:∀(t:Tr) (o:Nat) (p:V),kX t o (t.size-1) p=p:=fun t o p=>by
     have tp:=t.size_pos;rcases kE t o (t.size-1) p (by omega) with⟨_,h⟩ | ⟨a,_,_,h1,h2,_⟩
     ·exact h
     ·omega
    refine⟨by omega,by omega,by omega,by omega,by omega,?_,?_⟩
    ·rw [kX,if_pos (by omega),show o+l.size-1-o=l.size-1 by omega,root,A9]
    ·rw [kX,if_neg (by omega),if_pos (by omega),show o+l.size+r.size-1-o-l.size=r.size-1 by omega,root,A9]
structure DD (t:Tr) (ds:List Int):Prop where
 len:ds.length=t.size
 leaf:∀j w,j < t.size->en t 0 j=.word w->ds.getD j 0=0
 pair:∀j a b,j < t.size->en t 0 j=.pair a b->ds.getD a 0 < ds.getD j 0/\ds.getD b 0 < ds.getD j 0/\1<=ds.getD j 0
 nd:(JM t ds).Nodup
def DD.of {t:Tr}{ds:List Int} (h:Ss t ds=true):DD t ds:=by
 unfold Ss at h;rw [AE,AE,decide_eq_true_iff,decide_eq_true_iff] at h;obtain⟨h1,h2,h3⟩:=h;have h4:∀j,j < t.size->Zz t ds j=true:=fun j hj=>El.mp h3 j (AL.mpr hj);refine⟨h1,fun j w hj e=>?_,fun j a b hj e=>?_,h2⟩
 ·have:=h4 j hj;unfold Zz at this;rw [e] at this;exact eq_of_beq this
 ·have:=h4 j hj;unfold Zz at this;rw [e] at this;have this:(decide (ds.getD a 0 < ds.getD j 0)&&decide (ds.getD b 0 < ds.getD j 0)&&decide (1<=ds.getD j 0)&&decide (ds.getD j 0<=99))=true:=this;rw [AE,AE,AE,decide_eq_true_iff,decide_eq_true_iff,decide_eq_true_iff,decide_eq_true_iff] at this;exact⟨this.1.1.1,this.1.1.2,this.1.2⟩
def DD.mem {t:Tr}{ds:List Int} (D:DD t ds) {j:Nat} (hj:j < t.size):ds.getD j 0∈aP t ds:=by
 unfold aP;cases e:en t 0 j with
 | word w=>rw [D.leaf j w hj e];exact .head _
 | pair a b=>
  refine AW _ (wX.mpr ?_);unfold JM splits;exact AB.mpr ⟨j,AG.mpr ⟨AL.mpr hj,by rw [e];rfl⟩,rfl⟩
def Nd (l:List Int):(sortI l).Pairwise (·<=·):=(Ee (le:=fun a b=>decide (a<=b)) (fun a b c=>by simp;omega) (fun a b=>by simp;omega) l).imp (by simp)
def DD.inc {t:Tr}{ds:List Int} (D:DD t ds):(aP t ds).Pairwise (· < ·):=by
 unfold aP;refine DN.mpr ⟨fun x hx=>?_,?_⟩
 ·have hx:=wX.mp hx;unfold JM splits at hx;obtain⟨j,hj,rfl⟩:=AB.mp hx;obtain⟨h1,h2⟩:=AG.mp hj;cases e:en t 0 j with
  | word w=>rw [e] at h2;cases h2
  | pair a b=>have:=(D.pair j a b (AL.mp h1) e).2.2;omega
 ·have nd:(sortI (JM t ds)).Nodup:=(Cy _ _).nodup_iff.mpr D.nd;exact (List.Pairwise.and (Nd _) nd).imp fun ⟨h1,h2⟩=>Int.lt_iff_le_and_ne.mpr ⟨h1,h2⟩
def ux {l:List Int} (h:l.Pairwise (· < ·)) {n:Nat} (hn:n < l.length) {x:Int} (hx:x∈l) (lt:x < l.getD n 0):1<=n/\x<=l.getD (n-1) 0:=by
 obtain⟨i,hi,rfl⟩:=E7 hx;have gd:∀{k} (hk:k < l.length),l.getD k 0=l[k]:=fun {k} hk=>by rw [Ar,Ae hk];rfl
 rw [gd hn] at lt;have c:i < n:=by
  rcases CU i n with c | c
  ·exact c
  ·rcases DM c with c | c
   ·subst c;omega
   ·have:=BJ.mp h _ _ hn hi c;omega
 refine⟨by omega,?_⟩;rw [gd (by omega)];rcases DM (show i<=n-1 by omega) with c2 | c2
 ·subst c2;exact Dl _
 ·have:=BJ.mp h _ _ hi (by omega) c2;omega
def yT {l:List Int} (h:l.Pairwise (· < ·)) {i n:Nat} (hn:n < l.length) (hi:i < n):l.getD i 0 < l.getD n 0:=by
 have gd:∀{k} (hk:k < l.length),l.getD k 0=l[k]:=fun {k} hk=>by rw [Ar,Ae hk];rfl
 rw [gd hn,gd (by omega)];exact BJ.mp h _ _ (by omega) hn hi
theorem cv {t:Tr}{ds bs:List Int}:∀{m:Nat}{j n:Nat},(j,n)∈aK t ds bs m↔n < m/\j < t.size/\Hr t ds (bs.getD n 0) j=true
 | 0,j,n=>by simp [aK]
 | m+1,j,n=>by
  rw [aK,A2,cv];unfold vB;rw [AB]
  constructor
  ·rintro (⟨h1,h2,h3⟩ | ⟨k,hk,e⟩)
   ·exact⟨by omega,h2,h3⟩
   ·obtain⟨h1,h2⟩:=AG.mp hk;injection e with e1 e2;subst e1;subst e2;exact⟨by omega,AL.mp h1,h2⟩
  ·rintro⟨h1,h2,h3⟩;by_cases c:n=m
   ·subst c;exact .inr ⟨j,AG.mpr ⟨AL.mpr h2,h3⟩,rfl⟩
   ·exact .inl ⟨by omega,h2,h3⟩
def gJ {t:Tr}{ds:List Int}{b:Int}{j:Nat} (hj:j < t.size):Hr t ds b j=true↔ds.getD j 0<=b/\∀a,kX t 0 j .aU=.int ((a:Nat):Int)->b < ds.getD a 0:=by
 unfold Hr;rw [AE,decide_eq_true_iff];rcases kE t 0 j .aU hj with⟨_,e⟩ | ⟨a,u,v,_,ha,e,_,_⟩
 ·rw [e];exact⟨fun h=>⟨h.1,fun a z=>by cases z⟩,fun h=>⟨h.1,rfl⟩⟩
 ·rw [AU] at e;rw [e];refine⟨fun h=>⟨h.1,fun a' z=>?_⟩,fun h=>⟨h.1,?_⟩⟩
  ·injection z with z;have:a=a':=by omega
   subst this;simpa using h.2
  ·simpa using h.2 a rfl
def DD.ok {t:Tr}{ds:List Int} (D:DD t ds):okD t ds (aP t ds):=by
 rintro⟨j,n⟩ hp x hx;obtain⟨hn,hj,hs⟩:=cv.mp hp;obtain⟨GL,sF⟩:=(gJ hj).mp hs;have inc:=D.inc;show 1<=n/\(x,n-1)∈_;unfold G6 at hx;by_cases c:ds.getD j 0 < (aP t ds).getD n 0
 ·rw [if_pos c] at hx;have:x=j:=by simpa using hx
  subst this;obtain⟨g1,g2⟩:=ux inc hn (D.mem hj) c;have lt:=yT inc hn (show n-1 < n by omega);exact⟨g1,cv.mpr ⟨by omega,hj,(gJ hj).mpr ⟨g2,fun a e=>by have:=sF a e;omega⟩⟩⟩
 ·rw [if_neg c] at hx;cases e:en t 0 j with
  | word w=>rw [e] at hx;cases hx
  | pair a b=>
   rw [e] at hx;obtain⟨p1,p2,p3⟩:=D.pair j a b hj e;obtain⟨_,_,a1,a2,_,a3,a4⟩:=uP t 0 j .aU a b hj e;rw [AU,Et] at *;have hx:x=a\/x=b:=by simpa using hx
   have eq:ds.getD j 0=(aP t ds).getD n 0:=by omega
   have key:x < t.size/\ds.getD x 0 < ds.getD j 0/\kX t 0 x .aU=.int ((j:Nat):Int):=by
    rcases hx with rfl | rfl
    ·exact⟨by omega,p1,a3⟩
    ·exact⟨by omega,p2,a4⟩
   obtain⟨k1,k2,k3⟩:=key;obtain⟨g1,g2⟩:=ux inc hn (D.mem k1) (by omega);have lt:=yT inc hn (show n-1 < n by omega);refine⟨g1,cv.mpr ⟨by omega,k1,(gJ k1).mpr ⟨g2,fun a' e'=>?_⟩⟩⟩;rw [k3] at e';injection e' with e';have:j=a':=by omega
   subst this;omega
theorem zm:∀(t:Tr) (o:Nat),∃w,en t o 0=.word w
 | .leaf w,o=>⟨w,rfl⟩
 | .node l r,o=>by rw [en,if_pos (show 0 < l.size from l.size_pos)];exact zm l o
def DD.ne {t:Tr}{ds:List Int} (D:DD t ds):aK t ds (aP t ds) (aP t ds).length≠[]:=by
 intro z;have:(0,0)∈aK t ds (aP t ds) (aP t ds).length:=by
  obtain⟨w,e⟩:=zm t 0;refine cv.mpr ⟨by simp [aP],t.size_pos,(gJ t.size_pos).mpr ⟨?_,fun a ea=>?_⟩⟩
  ·rw [D.leaf 0 w t.size_pos e];exact Dl _
  ·rcases kE t 0 0 .aU t.size_pos with⟨_,e⟩ | ⟨a',u,v,_,ha,e,ep,_⟩
   ·rw [e] at ea;cases ea
   ·rw [e,AU] at ea;injection ea with ea;have:a'=a:=by omega
    subst this;have:=(D.pair a' u v ha ep).2.2;show (0:Int) < _;omega
 rw [z] at this;cases this
def P4 {t:Tr}{ds:List Int} (D:DD t ds) (hz:t.size<=25):(jX t.pv (.tup (dm ds))).le (.ret (.tup (X3 t ds (aP t ds)))):=P5 t ds D.len hz D.ne D.ok
def TZ (t:Tr):List PV:=(AH t.size).map fun j=>.tup (aB (up t 0 j []))
@[simp] theorem Q0 (t:Tr):(TZ t).length=t.size:=by unfold TZ;simp
def Js (t:Tr) {j:Nat} (h:j < t.size):(TZ t)[j]?=some (.tup (aB (up t 0 j []))):=by unfold TZ;simp [h]
def US (t:Tr):∀(k j:Nat),j+k+1=t.size->(up t 0 j []).length<=k+1:=fun k=>by
 induction k using EH with
 | ind k ih=>
  intro j hj;rcases sZ t 0 j .aU [] (by omega) with⟨q1,q2,q3⟩ | ⟨a,q1,q2,q3,q4⟩
  ·rw [q3];show 1<=k+1;omega
  ·rw [q4,Aq];have:=ih (t.size-a-1) (by omega) a (by omega);omega
def TY (t:Tr) {j:Nat} (h:j < t.size):(up t 0 j []).length<=t.size:=by
 have:=US t (t.size-j-1) j (by omega);omega
def Hq (t:Tr) (i:Nat):List PV:=(AH t.size).map fun j=>if j+i < t.size then .tup [] else .tup (aB (up t 0 j []))
def sd (t:Tr) (i:Nat):(Hq t i).length=t.size:=by unfold Hq;simp
def Jr (t:Tr) (i:Nat) {j:Nat} (h:j < t.size) (c:¬j+i < t.size):(Hq t i)[j]?=some (.tup (aB (up t 0 j []))):=by unfold Hq;simp [h,c]
def QY (t:Tr) (i j:Nat) (h:j+i+1=t.size):(Hq t i).set j (.tup (aB (up t 0 j [])))=Hq t (i+1):=by
 apply BE;intro k;by_cases hk:k < t.size
 ·by_cases e:j=k
  ·subst e;rw [BD (by rw [sd];exact hk),Jr t (i+1) hk (by omega)]
  ·rw [Bq e];unfold Hq;simp only [Ai,BX hk,Cm];by_cases c:k+i < t.size
   ·rw [if_pos c,if_pos (by omega)]
   ·rw [if_neg c,if_neg (by omega)]
 ·rw [AQ (by rw [BV,sd];omega),AQ (by rw [sd];omega)]
def Yx (t:Tr):Hq t 0=Al t.size (.tup []):=by
 apply BE;intro k;unfold Hq;by_cases hk:k < t.size
 ·simp [hk]
 ·simp [hk]
def QZ (t:Tr):Hq t t.size=TZ t:=by
 unfold Hq TZ;apply E5;intro j _;rw [if_neg (by omega)]
def Ol (t:Tr) (hz:t.size<=900):(fH t.pv).le (.ret (TZ t)):=fun Q q=>by
 have sp:=t.size_pos;unfold fH;simp only [W.ag,W.run_bind];refine W.le.use (G9 t hz) ?_;simp only [aG,W.ai];refine Od (fun _=>.tup []) (fun x hx=>rfl) ?_;have e0:(X7 t).map (fun _=>PV.tup [])=Hq t 0:=by rw [List.map_const',KP,Yx]
 have en:(((t.size:Nat):Int)-1 - -1).toNat=t.size:=by omega
 rw [e0];simp only [fh,KP,W.ag,qA,W.ai,qB,SS,en];refine⟨⟨trivial,bH (by omega) (by omega)⟩,?_⟩;show (dQ _ _ _).run _;refine gR (fun i s=>s=Hq t i) rfl (fun i x s hx hs=>?_) (fun s hs=>?_)
 ·subst hs;obtain⟨hi,rfl⟩:=xl hx;obtain⟨j,hj⟩:∃j:Nat,j=t.size-1-i:=⟨_,rfl⟩;have ej:(((t.size:Nat):Int)-1-(i:Int))=(j:Int):=by omega
  rw [ej];have WB:j < t.size:=by omega
  have ul:=TY t WB;have fin:∀l:List PV,l.length<=900->.int (j:Int)::l=aB (up t 0 j [])->(W.bind (addW (.tup [.int (j:Int)]) (.tup l)) fun x=>jm (Hq t i) (.int (j:Int)) x).run fun s=>s=Hq t (i+1):=fun l hl he=>by
   rw [S3,W.aq (bb (by simp;omega))];show (jm _ _ (.tup (.int (j:Int)::l))).run _;rw [he,oh (by rw [sd];exact WB),QY t i j (by omega)];rfl
  simp only [W.ag,W.run_bind,ik (KQ t WB),W.ai];rcases sZ t 0 j .aU [] WB with⟨_,e,e2⟩ | ⟨a,ha1,ha,e,e2⟩
  ·rw [e];simp only [vp,uL,PV.oS,bU,W.ai,if_true];have:=fin [] (by simp) (by rw [e2,AU];rfl);simpa using this
  ·rw [AU] at e;rw [e];have i2:MJ (Hq t i) (.int (a:Int))=.ret (.tup (aB (up t 0 a []))):=ik (Jr t i ha (by omega));simp only [vp,uL,PV.oS,bU,W.ai,Ap,if_false,i2,W.ag];have ua:=TY t ha;have:=fin (aB (up t 0 a [])) (by rw [cj];omega) (by rw [e2];simp);simpa using this
 ·subst hs;have el:(qZ (((t.size:Nat):Int)-1) t.size).length=t.size:=by unfold qZ;simp
  rw [el,QZ];exact q
def X6 (t:Tr) (j:Nat):List Nat:=(AH t.size).filter fun k=>!decide (k∈up t 0 j [])&&!decide (j∈up t 0 k [])
def Qs (t:Tr) (hz:t.size<=900) {j:Nat} (hj:j < t.size):(dC (.cl (TZ t)) (.int (j:Int))).le (.ret (.tup (aB (X6 t j)))):=fun Q q=>by
 unfold dC;simp only [W.ag,W.run_bind,iG,Q0,dH,W.aq (bH (i:=0) (j:=(t.size:Int)) (by omega) (by omega)),W.ai,AR,qp];refine uk (fun k=>!decide (k∈up t 0 j [])&&!decide (j∈up t 0 k [])) (fun k hk=>?_) q;have hk:=AL.mp hk;simp only [W.ag,cq,ik (Js t hj),ik (Js t hk),aG,OO,if_true];by_cases c1:k∈up t 0 j []
 ·simp [c1]
 ·by_cases c2:j∈up t 0 k []
  ·simp [c1,c2]
  ·simp [c1,c2]
def QI:Ent->List Nat
 | .word _=>[]
 | .pair a b=>[a,b]
def L4 (e:Ent):dh e.pv=.ret (.tup (aB (QI e))):=by
 unfold dh;cases e with
 | word w=>simp [Ent.pv,QI]
 | pair a b=>simp [Ent.pv,QI]
def R0 {es:List Ent}{j:Nat}{e:Ent} (h:es[j]?=some e):dB (.tup (es.map Ent.pv)) (.int (j:Int))=.ret (HV e j):=by
 have i1:MJ (es.map Ent.pv) (.int (j:Int))=.ret e.pv:=ik (by rw [Ai,h];rfl);unfold dB;cases e with
 | word w=>simp only [W.ag,aG,i1];rfl
 | pair a b=>simp only [W.ag,aG,i1];rfl
def grS (t:Tr) (j:Nat):PV:=.tup [HV (en t 0 j) j,.int 0,.tup (aB (QI (en t 0 j))),.tup (aB (X6 t j))]
def grL (t:Tr):List PV:=(AH t.size).map (grS t)
def L6 (t:Tr) (hz:t.size<=900):(jv t.pv).le (.ret (.tup (grL t))):=fun Q q=>by
 unfold jv;simp only [W.ag,W.run_bind];refine W.le.use (tY t hz) ?_;refine W.le.use (Ol t hz) ?_;simp only [fh,fC,W.ai,dH,W.aq (bH (i:=0) (j:=(t.size:Int)) (by omega) (by omega)),AR,qp];unfold aB;refine oz (grS t) (fun j hj R r=>?_) q;have hj:=AL.mp hj;have i1:MJ ((t.nd 0).map Ent.pv) (.int (j:Int))=.ret (en t 0 j).pv:=ik (by rw [Ai,gG t 0 j hj];rfl);simp only [R0 (gG t 0 j hj),W.ag,aG,i1,L4,W.run_bind,W.ai];exact W.le.use (Qs t hz hj) r
structure Sy where
 nm:PV
 lv:Nat
 un:List Nat
 be:List Nat
def Sy.pv (s:Sy):PV:=.tup [s.nm,.int (s.lv:Int),.tup (aB s.un),.tup (aB s.be)]
def nZ (g:List Sy):PV:=.tup (g.map Sy.pv)
def sy (g:List Sy) (i:Nat):Sy:=g.getD i ⟨.aU,0,[],[]⟩
def M7 {g:List Sy}{i:Nat} (h:i < g.length):g[i]?=some (sy g i):=by
 unfold sy;rw [Ar,Ae h];rfl
def Pa {g:List Sy}{i:Nat} (h:i < g.length):MJ (g.map Sy.pv) (.int (i:Int))=.ret (sy g i).pv:=ik (by rw [Ai,M7 h];rfl)
def LV (w:Str):PV->Bool
 | .str s=>s==w
 | _=>false
def hm (g:List Sy) (i:Nat) (w:Str):Bool:=(sy g i).un.isEmpty&&LV w (sy g i).nm
inductive QB (g:List Sy):Nat->Nat->Prop
 | refl (i):QB g i i
 | step {i u j}:u∈(sy g i).un->QB g u j->QB g i j
structure WG (g:List Sy) (ws:List Str):Prop where
 pos:0 < g.length
 len:g.length<=300
 dn:∀i,i < g.length->∀u∈(sy g i).un,u < i
 wI:∀i,i < g.length->(sy g i).un.length<=2
 be:∀i,i < g.length->∀u∈(sy g i).be,u < g.length
 aa0:∀i,i < g.length->(sy g i).be.length<=30
 nm:∀i,i < g.length->(∃s,(sy g i).nm=.str s)\/∃n,(sy g i).nm=.int n
 adx:∀w∈ws,∃i,i < g.length/\QB g (g.length-1) i/\hm g i w=true
def FI {g:List Sy}{i:Nat} (h:i < g.length):eK (nZ g) (.int (i:Int))=.ret (.tup (aB (sy g i).un)):=by
 unfold eK nZ;simp only [W.ag,aG,Pa h];rfl
def eq_nil (l:List Nat) (h:l.length<=1000):of2 dP (.tup (aB l)) (.tup [])=.ret (.bl l.isEmpty):=by
 have fk:fU (aB l)=true:=lP.mpr fun x hx=>by
  obtain⟨n,_,rfl⟩:=AB.mp hx;simp
 have fd:dY (aB l)<=1:=lS fun x hx=>by
  obtain⟨n,_,rfl⟩:=AB.mp hx;simp
 rw [uM,W.aq ⟨by simp [fk],by simp,by simp;omega⟩];cases l with
 | nil=>simp
 | cons a l=>simp [gT]
def UB {x:PV} (h:(∃s,x=.str s)\/∃n,x=.int n) (w:Str):of2 dP x (.str w)=.ret (.bl (LV w x)):=by
 rcases h with⟨s,rfl⟩ | ⟨n,rfl⟩
 ·rw [uM,W.aq ⟨by simp,by simp,by simp⟩,Pg];rfl
 ·rw [uM,W.aq ⟨by simp,by simp,by simp⟩];simp [dr,LV]
def abN {g:List Sy}{ws:List Str} (G:WG g ws) {i:Nat} (h:i < g.length) (w:Str):wY (nZ g) (.int (i:Int)) (.str w)=.ret (.bl (hm g i w)):=by
 unfold wY;have l2:=G.wI i h;have i0:cI [(sy g i).nm,PV.int ((sy g i).lv:Int),.tup (aB (sy g i).un),.tup (aB (sy g i).be)] 0=some (sy g i).nm:=rfl;simp only [W.ag,FI h,eq_nil _ (show (sy g i).un.length<=1000 by omega)];unfold nZ hm;cases e:(sy g i).un.isEmpty with
 | false=>simp
 | true=>simp only [sJ,aG,W.ag,Pa h,Sy.pv,bf,i0,W.aA,UB (G.nm i h) w,Fb]
abbrev Dd:=Str×Nat×Nat
def d3 (d:Dd):PV:=.tup [.str d.1,.int (d.2.1:Int),.int (d.2.2:Int)]
abbrev dbl (i:Nat):Dd:=("doubled",i,i)
abbrev ovr (i o:Nat):List Dd:=[("over",i,o),("over",o,i)]
def Nb:List Nat->List Dd
 | [a,b]=>[("split",a,b),("split",b,a)]
 | _=>[]
def Mh (g:List Sy) (i:Nat):List Dd:=dbl i::(Nb (sy g i).un++(sy g i).be.flatMap (ovr i))
theorem uK (i:Nat):∀l:List Nat,(l.flatMap (ovr i)).length=2*l.length
 | []=>rfl
 | a::l=>by rw [List.flatMap_cons,Ad,uK i l];simp;omega
def JI (l:List Nat):(Nb l).length<=2:=by unfold Nb;split <;> simp
def S8 {g:List Sy}{ws:List Str} (G:WG g ws) {i:Nat} (h:i < g.length):(Mh g i).length<=63:=by
 unfold Mh;rw [Aq,Ad,uK];have:=JI (sy g i).un;have:=G.aa0 i h;omega
def PZ {g:List Sy}{ws:List Str} (G:WG g ws) {i:Nat} (h:i < g.length) {d:Dd} (hd:d∈Mh g i):d.2.1 < g.length/\d.2.2 < g.length:=by
 unfold Mh at hd;rcases Av.mp hd with rfl | hd
 ·exact⟨h,h⟩
 rcases A2.mp hd with hd | hd
 ·have hu:=G.dn i h;revert hu hd;generalize (sy g i).un=l;intro hd hu
  match l with
  | [a,b]=>
   have h1:=hu a (by simp);have h2:=hu b (by simp);simp [Nb] at hd;rcases hd with rfl | rfl
   ·exact⟨by show a < _;omega,by show b < _;omega⟩
   ·exact⟨by show b < _;omega,by show a < _;omega⟩
  | []=>simp [Nb] at hd
  | [_]=>simp [Nb] at hd
  | _::_::_::_=>simp [Nb] at hd
 ·obtain⟨o,ho,hd⟩:=Ef.mp hd;have:=G.be i h o ho;simp at hd;rcases hd with rfl | rfl
  ·exact⟨h,this⟩
  ·exact⟨this,h⟩
def LK {g:List Sy}{ws:List Str} (G:WG g ws) {i:Nat} (h:i < g.length):(dE (nZ g) (.int (i:Int))).le (.ret ((Mh g i).map d3)):=fun Q q=>by
 unfold dE nZ;have l1:=JI (sy g i).un;have l3:=G.aa0 i h;have i0:∀a b:Nat,cI [PV.int (a:Int),PV.int (b:Int)] 0=some (.int (a:Int)):=fun _ _=>rfl;have i1:∀a b:Nat,cI [PV.int (a:Int),PV.int (b:Int)] 1=some (.int (b:Int)):=fun _ _=>rfl;simp only [W.ag,W.run_bind,aG,Pa h,W.ai,Sy.pv,Pl,fh,cj,eN,bU];have fin:∀s:List PV,s=(dbl i::Nb (sy g i).un).map d3->(dQ (aB (sy g i).be) s fun jq Rk=>W.bind (zf Rk [.tup [.str "over",.int (i:Int),jq],.tup [.str "over",jq,.int (i:Int)]]) fun oZ=>W.ret oZ).run Q:=fun s hs=>by
  refine gR (fun k s=>s=(dbl i::(Nb (sy g i).un++((sy g i).be.take k).flatMap (ovr i))).map d3) (by rw [hs];simp) (fun k x s hx hs=>?_) (fun s hs=>?_)
  ·subst hs;unfold aB at hx;rw [Ai] at hx;cases eo:(sy g i).be[k]? with
   | none=>rw [eo] at hx;cases hx
   | some o=>
   rw [eo] at hx;have ex:PV.int (o:Int)=x:=Option.some.inj hx;subst ex;have et:(sy g i).be.take (k+1)=(sy g i).be.take k++[o]:=by rw [CV,eo];rfl
   have lk:((sy g i).be.take k).length<=30:=by rw [B1];omega
   unfold zf;rw [W.aq (bb (by simp only [Af,Aq,Ad,uK];simp;omega))];simp only [W.ag,W.ai];rw [et,E8];simp [d3]
  ·subst hs;rw [cj,C7];exact q
 have hu:=G.wI i h;revert fin hu;generalize (sy g i).un=l;intro fin hu
 match l,hu with
 | [],_=>
  simp only [BG];exact fin _ rfl
 | [a],_=>
  simp only [Aq,BG];exact fin _ rfl
 | [a,b],_=>
  simp only [LB,Ob,bf,i0,i1,W.aA,W.ag,W.run_bind,W.ai,Aq,BG];refine⟨bb (by simp),?_⟩;exact fin _ rfl
def vJ (F:List (List Bool)):List PV:=F.map fun r=>.cl (r.map PV.bl)
def fa (F:List (List Bool)) (j i:Nat):Bool:=(F.getD j []).getD i false
structure FW (g:List Sy) (F:List (List Bool)) (n:Nat):Prop where
 len:n<=F.length
 row:∀j,j < n->(F.getD j []).length=g.length
def xS {g:List Sy}{F:List (List Bool)}{n j i:Nat} (fw:FW g F n) (hj:j < n) (hi:i < g.length):(ba (W.bind (ba (W.ret (vJ F)) (W.ret (.int (j:Int)))) ax) (W.ret (.int (i:Int))))=.ret (.bl (fa F j i)):=by
 have QL:j < F.length:=Ax hj fw.len;have e1:F[j]?=some (F.getD j []):=by rw [Ar,Ae QL];rfl
 have i1:MJ (vJ F) (.int (j:Int))=.ret (.cl ((F.getD j []).map PV.bl)):=ik (by unfold vJ;rw [Ai,e1];rfl);have hl:=fw.row j hj;have e2:(F.getD j [])[i]?=some (fa F j i):=by unfold fa;generalize F.getD j []=r at hl;rw [Ar,Ae (by omega)];rfl
 have i2:MJ ((F.getD j []).map PV.bl) (.int (i:Int))=.ret (.bl (fa F j i)):=ik (by rw [Ai,e2];rfl);simp only [W.ag,i1,cq,i2]
def lD (g:List Sy) (F:List (List Bool)) (e:Ent) (i:Nat):List Dd:=match e with
 | .word w=>if hm g i w=true then [("found",i,i)] else []
 | .pair a b=>(Mh g i).filter fun d=>fa F a d.2.1&&fa F b d.2.2
def rq (n:Nat):Ent->Prop
 | .word _=>True
 | .pair a b=>a < n/\b < n
def lB {g:List Sy}{ws:List Str} (G:WG g ws) {F:List (List Bool)}{es:List Ent}{j i n:Nat}{e:Ent} (he:es[j]?=some e) (hi:i < g.length) (fw:FW g F n) (hn:rq n e) :
  (bQ (nZ g) (.cl (es.map Ent.pv)) (.cl (vJ F)) (.int (j:Int)) (.int (i:Int))).le (.ret ((lD g F e i).map d3)):=fun Q q=>by
 unfold bQ;have ie:MJ (es.map Ent.pv) (.int (j:Int))=.ret e.pv:=ik (by rw [Ai,he];rfl);simp only [W.ag,W.run_bind,cq,ie,W.ai];cases e with
 | word w=>
  have l2:=G.wI i hi;have i0:cI [(sy g i).nm,PV.int ((sy g i).lv:Int),.tup (aB (sy g i).un),.tup (aB (sy g i).be)] 0=some (sy g i).nm:=rfl;have i2:cI [(sy g i).nm,PV.int ((sy g i).lv:Int),.tup (aB (sy g i).un),.tup (aB (sy g i).be)] 2=some (.tup (aB (sy g i).un)):=rfl;have fin:∀b:Bool,hm g i w=b->(F0 [PV.tup [.str "found",.int (i:Int),.int (i:Int)]] (.int (if b then 1 else 0))).run Q:=fun b hb=>by
   have q:Q ((if hm g i w=true then [(("found",i,i):Dd)] else []).map d3):=q;rw [hb] at q;cases b with
   | true=>
    rw [zi];exact⟨⟨by decide,by decide,bb (by simp)⟩,q⟩
   | false=>
    rw [zi];exact⟨⟨by decide,by decide,bb (by simp)⟩,q⟩
  simp only [Ent.pv,zk,zj,cp,W.ai,if_true,nZ,aG,W.ag,Pa hi,Sy.pv,bf,i0,i2,W.aA,W.run_bind,eq_nil _ (show (sy g i).un.length<=1000 by omega),UB (G.nm i hi) w];cases c:(sy g i).un.isEmpty with
  | false=>
   simp only [S2,W.ai,mC];exact fin false (by unfold hm;rw [c];rfl)
  | true=>
   simp only [sJ,W.ai,mC];exact fin _ (by unfold hm;rw [c];rfl)
 | pair a b=>
  obtain⟨ha,hb⟩:=hn;have j0:cI [PV.int (a:Int),PV.int (b:Int)] 0=some (.int a):=rfl;have j1:cI [PV.int (a:Int),PV.int (b:Int)] 1=some (.int b):=rfl;simp only [Ent.pv,mB,o4,cp,W.ai,Ap,if_false,aG,bf,j0,j1,W.aA,W.ag,W.run_bind];refine W.le.use (LK G hi) ?_;refine yH (fun d:Dd=>if (fa F a d.2.1&&fa F b d.2.2)=true then some (d3 d) else none) (fun d hd R r=>?_) ?_
  ·obtain⟨h1,h2⟩:=PZ G hi hd;have k1:cI [PV.str d.1,PV.int (d.2.1:Int),PV.int (d.2.2:Int)] 1=some (.int (d.2.1:Int)):=rfl;have k2:cI [PV.str d.1,PV.int (d.2.1:Int),PV.int (d.2.2:Int)] 2=some (.int (d.2.2:Int)):=rfl;have t1:=xS fw ha h1;have t2:=xS fw hb h2;simp only [W.ag,bf] at t1 t2;simp only [d3,aG,W.ag,bf,k1,k2,W.aA,t1,t2,cp];cases c1:fa F a d.2.1 with
   | false=>simpa [c1] using r
   | true=>
    cases c2:fa F b d.2.2 with
    | false=>simpa [c1,c2] using r
    | true=>simpa [c1,c2,d3] using r
  ·rw [Kq];exact q
def iU (g:List Sy) (f:Nat->Bool):Nat->List Bool
 | 0=>[]
 | k+1=>iU g f k++[(sy g k).un.any (fun l=>(iU g f k).getD l false)||f k]
@[simp] theorem iT (g:List Sy) (f:Nat->Bool):∀k,(iU g f k).length=k
 | 0=>rfl
 | k+1=>by rw [iU,Ad,iT g f k];rfl
def jy {α:Type}{l m:List α}{i:Nat}{d:α} (h:i < l.length):(l++m).getD i d=l.getD i d:=by
 rw [Ar,Az h,<- Ar]
def mz {α:Type}{l m:List α}{i:Nat}{d:α} (h:l.length<=i):(l++m).getD i d=m.getD (i-l.length) d:=by
 rw [Ar,Ay h,<- Ar]
theorem yd (g:List Sy) (f:Nat->Bool) {i:Nat}:∀{k:Nat},i < k->(iU g f k).getD i false=(iU g f (i+1)).getD i false
 | 0,h=>by omega
 | k+1,h=>by
  by_cases c:i=k
  ·subst c;rfl
  ·rw [iU,jy (by rw [iT];omega)];exact yd g f (by omega)
def Y2 (g:List Sy) (f:Nat->Bool) (dn:∀i,i < g.length->∀u∈(sy g i).un,u < i) {i:Nat} (h:i < g.length):(iU g f g.length).getD i false=((sy g i).un.any (fun l=>(iU g f g.length).getD l false)||f i):=by
 rw [yd g f h,iU,mz (by rw [iT];exact Am _),iT,Ca];show (_||_)=_;congr 1;rw [Dw,BO,BO];have key:∀l∈(sy g i).un,(iU g f i).getD l false=(iU g f g.length).getD l false:=fun l hl=>by
  have:=dn i h l hl;rw [yd g f this,yd g f (show l < g.length by omega)]
 exact⟨fun ⟨l,h1,h2⟩=>⟨l,h1,by rw [<- key l h1];exact h2⟩,fun ⟨l,h1,h2⟩=>⟨l,h1,by rw [key l h1];exact h2⟩⟩
def Ht (es:List Ent) (j:Nat):Ent:=es.getD j (.word "")
def tab (g:List Sy) (es:List Ent):Nat->List (List Bool)
 | 0=>[]
 | j+1=>tab g es j++[iU g (fun i=>!(lD g (tab g es j) (Ht es j) i).isEmpty) g.length]
@[simp] theorem bu (g:List Sy) (es:List Ent):∀j,(tab g es j).length=j
 | 0=>rfl
 | j+1=>by rw [tab,Ad,bu g es j];rfl
theorem n9 (g:List Sy) (es:List Ent) {i:Nat}:∀{k:Nat},i < k->(tab g es k).getD i []=iU g (fun x=>!(lD g (tab g es i) (Ht es i) x).isEmpty) g.length
 | 0,h=>by omega
 | k+1,h=>by
  by_cases c:i=k
  ·subst c;rw [tab,mz (by rw [bu];exact Am _),bu,Ca];rfl
  ·rw [tab,jy (by rw [bu];omega)];exact n9 g es (by omega)
def HF (g:List Sy) (es:List Ent) (n:Nat):FW g (tab g es n) n:=⟨by rw [bu];exact Am _,fun j hj=>by rw [n9 g es hj,iT]⟩
def Gy {g:List Sy}{F F':List (List Bool)}{e:Ent}{i n:Nat} (h:rq n e) (hf:∀j,j < n->F.getD j []=F'.getD j []):lD g F e i=lD g F' e i:=by
 cases e with
 | word w=>rfl
 | pair a b=>
  dsimp only [lD,fa];rw [hf a h.1,hf b h.2]
def Q6 (g:List Sy) (es:List Ent) {j k:Nat} (h:j<=k):∀x,x < j->(tab g es j).getD x []=(tab g es k).getD x []:=fun x hx=>by rw [n9 g es hx,n9 g es (show x < k by omega)]
def aaz {g:List Sy}{ws:List Str} (G:WG g ws) {es:List Ent}{n j i:Nat} (hj:j < n) (hi:i < g.length) (he:rq j (Ht es j)):fa (tab g es n) j i=((sy g i).un.any (fun l=>fa (tab g es n) j l)||!(lD g (tab g es n) (Ht es j) i).isEmpty):=by
 have e1:∀x,fa (tab g es n) j x=(iU g (fun x=>!(lD g (tab g es j) (Ht es j) x).isEmpty) g.length).getD x false:=fun x=>by unfold fa;rw [n9 g es hj]
 have e2:(fun l=>fa (tab g es n) j l)=fun l=>(iU g (fun x=>!(lD g (tab g es j) (Ht es j) x).isEmpty) g.length).getD l false:=funext e1;rw [e2,e1,Y2 g _ G.dn hi,Gy (F':=tab g es n) he (Q6 g es (by omega))]
def xP (b:Bool):tu (.bl b)=.ret (.bl b):=W.aq (by rw [PV.dat] <;> simp)
def any_map' (f:Nat->Bool) (l:List Nat):Qt (l.map fun x=>.bl (f x))=.ret (.bl (l.any f)):=by
 have:(l.map fun x=>PV.bl (f x))=(l.map f).map PV.bl:=by rw [A6];rfl
 rw [this,Tj,List.any_map];rfl
def iQ (F:List (List Bool)):List (List PV):=F.map fun r=>r.map PV.bl
def M5 (F:List (List Bool)):(iQ F).map PV.cl=vJ F:=by unfold iQ vJ;rw [A6];rfl
def R9 {g:List Sy}{ws:List Str} (G:WG g ws) {es:List Ent} (hz:es.length<=900) (hes:∀j,j < es.length->rq j (Ht es j)):(fK (nZ g) (.cl (es.map Ent.pv))).le (.ret (vJ (tab g es es.length))):=fun Q q=>by
 have gl:=G.len;unfold fK;simp only [W.ag,W.run_bind,iG,Af,dH,W.aq (bH (i:=0) (j:=(es.length:Int)) (by omega) (by omega)),W.ai,AR];refine lO (fun j s=>s.2=iQ (tab g es j)) rfl (fun j s hj hs=>?_) (fun s hs=>?_)
 ·obtain⟨s1,s2⟩:=s;replace hs:s2=iQ (tab g es j):=hs;subst hs;have e1:rH fu [nZ g]=.ret (.int (g.length:Int)):=by unfold nZ;rw [fh,Af]
  have e2:F0 [PV.bl false] (.int (g.length:Int))=.ret ((Al g.length false).map PV.bl):=by
   rw [zi,W.aq ⟨by omega,by omega,bb (by simp;omega)⟩,AR];congr 1;simp
  have adL:es[j]?=some (Ht es j):=by unfold Ht;rw [Ar,Ae hj];rfl
  simp only [W.ag,e1,e2,W.run_bind,W.ai];refine⟨by show (iQ (tab g es j)).length < sizeLine;unfold iQ;rw [Af,bu];have:=bb (n:=901) (by omega);omega,?_⟩;show ((W.any fun _=>True).bind _:W _).run _;simp only [W.run_bind];intro b9 _;simp only [dH,W.aq (bH (i:=0) (j:=(g.length:Int)) (by omega) (by omega)),W.ai,AR,W.run_bind]
  let f:Nat->Bool:=fun x=>!(lD g (tab g es j) (Ht es j) x).isEmpty
  refine lO (fun i s=>s.2=iQ (tab g es j++[iU g f i++Al (g.length-i) false])) (by show _++_=_;simp [iQ,iU]) (fun i s hi hs=>?_) (fun s hs=>?_)
  ·obtain⟨s1,s2⟩:=s;replace hs:s2=_:=hs;subst hs;generalize hF:tab g es j++[iU g f i++Al (g.length-i) false]=F;have fw:FW g F (j+1):=by
    subst hF;refine⟨by simp,fun x hx=>?_⟩;by_cases c:x=j
    ·subst c;rw [mz (by rw [bu];exact Am _),bu,Ca];show (iU g f i++_).length=_;rw [Ad,iT,A3];omega
    ·rw [jy (by rw [bu];omega)];exact (HF g es j).row x (by omega)
   have ff:∀l,l < i->fa F j l=(iU g f i).getD l false:=fun l hl=>by
    subst hF;unfold fa;rw [mz (by rw [bu];exact Am _),bu,Ca];show (iU g f i++_).getD l false=_;rw [jy (by rw [iT];exact hl)]
   have fd:lD g F (Ht es j) i=lD g (tab g es j) (Ht es j) i:=Gy (hes j hj) fun x hx=>by
    subst hF;rw [jy (by rw [bu];exact hx)]
   have un:MJ (g.map Sy.pv) (.int (i:Int))=.ret (sy g i).pv:=Pa hi;have i2:cI [(sy g i).nm,PV.int ((sy g i).lv:Int),.tup (aB (sy g i).un),.tup (aB (sy g i).be)] 2=some (.tup (aB (sy g i).un)):=rfl;simp only [M5,nZ,aG,W.ag,un,Sy.pv,bf,i2,W.aA,W.run_bind,W.ai,cq];refine LD (fun l=>.bl (fa F j l)) (fun l hl=>?_) ?_
   ·have:=G.dn i hi l hl;have:=xS fw (show j < j+1 by omega) (show l < g.length by omega);simpa using this
   ·rw [any_map'];have eA:(sy g i).un.any (fa F j)=(sy g i).un.any fun l=>(iU g f i).getD l false:=by
     rw [Dw,BO,BO];exact⟨fun ⟨l,h1,h2⟩=>⟨l,h1,by rw [<- ff l (G.dn i hi l h1)];exact h2⟩,fun ⟨l,h1,h2⟩=>⟨l,h1,by rw [ff l (G.dn i hi l h1)];exact h2⟩⟩
    have fin:(W.bind (So (iQ F) (.int (j:Int))) fun ZR=>W.bind (jm ZR.2 (.int (i:Int)) (.bl ((sy g i).un.any (fa F j)||f i))) fun ZJ=>W.ret ((s1,(iQ F).set ZR.1 ZJ):List Addr×List (List PV))).run fun s=>s.2=iQ (tab g es j++[iU g f (i+1)++Al (g.length-(i+1)) false]):=by
     have QL:j < (iQ F).length:=by unfold iQ;rw [Af];have:=fw.len;omega
     have e3:(iQ F)[j]?=some ((iU g f i++Al (g.length-i) false).map PV.bl):=by
      subst hF;unfold iQ;rw [Ai,Ay (by rw [bu];exact Am _),bu,Ca];rfl
     have e4:So (iQ F) (.int (j:Int))=.ret (j,(iU g f i++Al (g.length-i) false).map PV.bl):=by
      show W.yt ((qV (iQ F).length (j:Int)).bind fun j=>(iQ F)[j]?.map fun l=>(j,l))=_;rw [Ki QL];show W.yt ((iQ F)[j]?.map _)=_;rw [e3];rfl
     rw [e4];simp only [W.ag];rw [oh (by rw [Af,Ad,iT,A3];omega)];simp only [W.ag,W.ai];subst hF;unfold iQ;rw [eA];apply BE;intro x;have er:g.length-i=(g.length-(i+1))+1:=by omega
     by_cases c:x=j
     ·subst c;rw [BD (by rw [Af,Ad,bu];simp),Ai,Ay (by rw [bu];exact Am _),bu,Ca];show some _=some _;congr 1;rw [iU,er,Bl,<- Eu,EM _ _ (by rw [iT];exact Am _),iT,Ca];simp
     ·rw [Bq (Bw c),Ai,Ai];by_cases c2:x < j
      ·rw [Az (by rw [bu];exact c2),Az (by rw [bu];exact c2)]
      ·rw [AQ (by rw [Ad,bu];simp;omega),AQ (by rw [Ad,bu];simp;omega)]
    simp only [W.ai,xP];cases cA:(sy g i).un.any (fa F j) with
    | true=>
     rw [cA] at fin;simp only [Po,W.ai,xP];simpa using fin
    | false=>
     rw [cA] at fin;simp only [Pp,W.run_bind];refine W.le.use (lB G (F:=F) adL hi fw (by have:=hes j hj;revert this;cases Ht es j with | word w=>exact id | pair a b=>exact fun z=>⟨D1 z.1,D1 z.2⟩)) ?_;have e5:(!((lD g F (Ht es j) i).map d3).isEmpty)=f i:=by rw [fd,Eh]
     simp only [W.ai,e5,xP];simpa using fin
  ·show s.2=iQ (tab g es (j+1));rw [hs,tab,Ca];simp [f]
 ·show Q (s.2.map PV.cl);rw [hs,M5];exact q
def Ch (g:List Sy):List Nat->Prop
 | []=>False
 | [i]=>i < g.length
 | i::k::r=>i < g.length/\k∈(sy g i).un/\Ch g (k::r)
theorem Ch.snoc {g:List Sy}{i u:Nat} (hu:u∈(sy g i).un) (hg:u < g.length):∀{p:List Nat},Ch g (p++[i])->Ch g (p++[i]++[u])
 | [],h=>⟨h,hu,hg⟩
 | [a],h=>⟨h.1,h.2.1,h.2.2,hu,hg⟩
 | a::b::p,h=>⟨h.1,h.2.1,Ch.snoc hu hg (p:=b::p) h.2.2⟩
theorem Ch.last {g:List Sy}{i:Nat}:∀{p:List Nat},Ch g (p++[i])->i < g.length
 | [],h=>h
 | [a],h=>h.2.2
 | a::b::p,h=>Ch.last (p:=b::p) h.2.2
theorem Ch.lt {g:List Sy}:∀{p:List Nat},Ch g p->∀x∈p,x < g.length
 | [i],h,x,hx=>by rw [Ba.mp hx];exact h
 | i::k::r,h,x,hx=>by
  rcases Av.mp hx with rfl | hx
  ·exact h.1
  ·exact Ch.lt (p:=k::r) h.2.2 x hx
theorem Ch.len {g:List Sy}{ws:List Str} (G:WG g ws):∀{p:List Nat}{i:Nat},Ch g (i::p)->p.length<=i
 | [],i,_=>Bd _
 | k::r,i,h=>by
  have h1:=G.dn i h.1 k h.2.1;have h2:=Ch.len G (p:=r) (i:=k) h.2.2;rw [Aq];omega
def WJ {g:List Sy}{i:Nat} (h:i < g.length):cI (g.map Sy.pv) (i:Int)=some (sy g i).pv:=eB (by rw [Ai,M7 h];rfl)
def HG (s:Sy):cI [s.nm,PV.int (s.lv:Int),.tup (aB s.un),.tup (aB s.be)] 2=some (.tup (aB s.un)):=(rfl)
def yI (q:List Nat) (l:Nat):cI (aB (q++[l])) (-1)=some (.int (l:Int)):=by rw [Gj];exact Qq _ _
structure PI (g:List Sy) (F:List (List Bool)) (j i0:Nat) (q:List Nat) (l:Nat):Prop where
 ch:Ch g (q++[l])
 hd:(q++[l]).head?=some i0
 f:fa F j l=true
 m:q.length+l<=i0
def PI.next {g:List Sy}{ws:List Str} (G:WG g ws) {F:List (List Bool)}{j i0 l u:Nat}{q:List Nat} (P:PI g F j i0 q l) (hu:u∈(sy g l).un) (hf:fa F j u=true):PI g F j i0 (q++[l]) u:=by
 have hl:=P.ch.last;have:=G.dn l hl u hu;have:=P.m;refine⟨P.ch.snoc hu (by omega),?_,hf,by rw [Ad];simp;omega⟩;rw [List.head?_append,P.hd];rfl
section
variable {g:List Sy}{ws:List Str}{F:List (List Bool)}{es:List Ent}{j n:Nat}{e:Ent}
def NZ (G:WG g ws) (fw:FW g F n) (hj:j < n) {l:Nat} (hl:l < g.length) {Q:List PV->Prop} (q:Q (aB ((sy g l).un.filter fun u=>fa F j u))) :
  (kW (aB (sy g l).un) fun p8=>Hs (W.bind (ba (W.bind (ba (W.ret (vJ F)) (W.ret (.int (j:Int)))) ax) (W.ret p8)) eE) (W.ret p8)).run Q:=by
 refine uk (fun u=>fa F j u) (fun u hu=>?_) q;have:=G.dn l hl u hu;rw [xS fw hj (show u < g.length by omega)];cases fa F j u <;> simp
def wZ (G:WG g ws) (he:es[j]?=some e) (fw:FW g F n) (hj:j < n) (hn:rq n e) (hc:∀i,i < g.length->fa F j i=((sy g i).un.any (fun l=>fa F j l)||!(lD g F e i).isEmpty)) {i0:Nat} (h0:i0 < g.length) (f0:fa F j i0=true) {Q:PV->Prop}
  (q:∀p l,Ch g (p++[l])->(p++[l]).head?=some i0->lD g F e l≠[]->Q (.tup (aB (p++[l])))) :
  (di (nZ g) (.cl (es.map Ent.pv)) (.cl (vJ F)) (.int (j:Int)) (.int (i0:Int))).run Q:=by
 have gl:=G.len;have e1:rH fu [nZ g]=.ret (.int (g.length:Int)):=by unfold nZ;rw [fh,Af]
 unfold di;simp only [W.ag,W.run_bind,e1,W.ai,dH,W.aq (bH (i:=0) (j:=(g.length:Int)) (by omega) (by omega)),AR];refine lO (fun _ s=>∃p l,s=aB (p++[l])/\PI g F j i0 p l) ⟨[],i0,rfl,h0,rfl,f0,by simp⟩ (fun k s hk hs=>?_) (fun s hs=>?_)
 ·obtain⟨p,l,rfl,P⟩:=hs;have hl:=P.ch.last;have wI:=G.wI l hl;have pm:=P.m;have step:∀x∈aB ((sy g l).un.filter fun u=>fa F j u),(jC (aB (p++[l])) x).run fun s=>∃p l,s=aB (p++[l])/\PI g F j i0 p l:=fun x hx=>by
   obtain⟨u,hu,rfl⟩:=AB.mp hx;obtain⟨hu1,hu2⟩:=AG.mp hu;rw [gE (by rw [cj,Ad];simp;omega)];exact⟨p++[l],u,by simp,P.next G hu1 hu2⟩
  simp only [qB,bf,yI,W.aA,W.ag,W.run_bind,W.ai];simp only [nZ,aG,cq,WJ hl,W.aA,W.ag,W.ai,Sy.pv,HG];have on:=@NZ g ws F j n G fw hj l hl;simp only [W.ag,bf] at on;refine on ?_;refine W.le.use (lB G he hl fw hn) ?_;have stop:∃p' l',aB (p++[l])=aB (p'++[l'])/\PI g F j i0 p' l':=⟨p,l,rfl,P⟩;have go:∀b:Bool,(iw (xR (W.bind (W.bind (W.ret (.cl (aB ((sy g l).un.filter fun u=>fa F j u)))) Og) fun Ow=>W.ret (!Ow.isEmpty)) (W.bind (W.ret (.bl b)) eE)) (W.bind (W.bind (W.ret (.cl (aB ((sy g l).un.filter fun u=>fa F j u)))) fun xI=>bp xI) fun vE=>W.bind (jC (aB (p++[l])) vE) fun gL=>W.ret gL) (W.ret (aB (p++[l])))).run fun s=>∃p l,s=aB (p++[l])/\PI g F j i0 p l:=fun b=>by
   generalize hon:aB ((sy g l).un.filter fun u=>fa F j u)=on at step;have onl:on.length<=1000:=by
    rw [<- hon,cj];have:=AO (fun u=>fa F j u) (sy g l).un;omega
   simp only [W.ag,Kt,cp,W.run_bind,W.ai];cases on with
   | nil=>simpa using stop
   | cons x r=>
    cases b with
    | false=>simpa using stop
    | true=>
     simp only [List.isEmpty_cons,DR,if_true,W.run_bind,W.ai];refine pick_run (by simp) onl fun y hy=>?_;simpa using step y hy
  cases cd:((lD g F e l).map d3).isEmpty with
  | true=>
   simp only [W.ai,Po];simpa using go true
  | false=>
   simp only [W.ai,Pp,W.run_bind,bW 3 (by decide) (by decide)];refine aZ fun d _ _=>?_;simp only [eN,W.ai];simpa using go (d==0)
 ·obtain⟨p,l,rfl,P⟩:=hs;refine g9 (fun m s=>∃p,s=aB (p++[m])/\PI g F j i0 p m) ⟨p,rfl,P⟩ ?_;rintro l s ⟨p,rfl,P⟩;have hl:=P.ch.last;have wI:=G.wI l hl;have pm:=P.m;simp only [qB,bf,yI,W.aA,W.ag,W.run_bind,W.ai];refine W.le.use (lB G he hl fw hn) ?_;cases cd:((lD g F e l).map d3).isEmpty with
  | false=>
   simp only [Ap,if_false,qz,W.ai];refine q p l P.ch P.hd fun z=>?_;rw [z] at cd;cases cd
  | true=>
   simp only [if_true,W.run_bind];have on:=@NZ g ws F j n G fw hj l hl;simp only [W.ag,bf] at on;simp only [nZ,aG,cq,WJ hl,W.aA,W.ag,W.ai,Sy.pv,HG];refine on ?_;have hcl:=hc l hl;rw [P.f] at hcl;have lz:(lD g F e l).isEmpty=true:=by rw [Eh] at cd;exact cd
   rw [lz] at hcl;have ha:(sy g l).un.any (fun u=>fa F j u)=true:=by simpa using hcl.symm
   obtain⟨u,hu,hfu⟩:=BO.mp ha;have mem:u∈(sy g l).un.filter fun u=>fa F j u:=AG.mpr ⟨hu,hfu⟩;refine pick_run (fun z=>?_) (by rw [cj];have:=AO (fun u=>fa F j u) (sy g l).un;omega) fun x hx=>?_
   ·have:=congrArg BH z;rw [cj] at this;rw [Eg.mp this] at mem;cases mem
   ·obtain⟨v,hv,rfl⟩:=AB.mp hx;obtain⟨hv1,hv2⟩:=AG.mp hv;rw [gE (by rw [cj,Ad];simp;omega)];exact⟨v,G.dn l hl v hv1,p++[l],by simp,P.next G hv1 hv2⟩
end
def ht:Tr->Nat->Nat
 | .leaf _,_=>0
 | .node l r,j=>if j < l.size then ht l j else if j < l.size+r.size then ht r (j-l.size) else (Tr.node l r).depth
theorem OU:∀(t:Tr) (j:Nat),ht t j<=t.depth
 | .leaf _,_=>Am _
 | .node l r,j=>by
  have e:(Tr.node l r).depth=max l.depth r.depth+1:=rfl;have h1:=OU l j;have h2:=OU r (j-l.size);rw [ht]
  split
  ·omega
  ·split <;> omega
def Kl (t:Tr):ht t (t.size-1)=t.depth:=by
 cases t with
 | leaf _=>rfl
 | node l r=>
  have es:(Tr.node l r).size=l.size+r.size+1:=rfl;rw [ht,if_neg (by omega),if_neg (by omega)]
theorem OV:∀(t:Tr) (o j a b:Nat),j < t.size->en t o j=.pair a b->ht t (a-o) < ht t j/\ht t (b-o) < ht t j
 | .leaf _,o,j,a,b,h,e=>by rw [en] at e;cases e
 | .node l r,o,j,a,b,h,e=>by
  have es:(Tr.node l r).size=l.size+r.size+1:=rfl;have lp:=l.size_pos;have rp:=r.size_pos;by_cases c1:j < l.size
  ·rw [en,if_pos c1] at e;obtain⟨h1,h2,h3,h4,_⟩:=uP l o j .aU a b c1 e;have:=OV l o j a b c1 e;have q1:∀x,x < l.size->ht (.node l r) x=ht l x:=fun x hx=>by rw [ht,if_pos hx]
   rw [q1 (a-o) (by omega),q1 (b-o) (by omega),q1 j c1];exact this
  ·by_cases c2:j < l.size+r.size
   ·rw [en,if_neg c1,if_pos c2] at e;obtain⟨h1,h2,h3,h4,_⟩:=uP r (o+l.size) (j-l.size) .aU a b (by omega) e;have:=OV r (o+l.size) (j-l.size) a b (by omega) e;have q1:∀x,¬x < l.size->x < l.size+r.size->ht (.node l r) x=ht r (x-l.size):=fun x h1 h2=>by rw [ht,if_neg h1,if_pos h2]
    rw [q1 (a-o) (by omega) (by omega),q1 (b-o) (by omega) (by omega),q1 j c1 c2,EY,EY];exact this
   ·rw [en,if_neg c1,if_neg c2] at e;injection e with e1 e2;subst e1;subst e2;have er:(Tr.node l r).depth=max l.depth r.depth+1:=rfl;have ej:ht (.node l r) j=(Tr.node l r).depth:=by rw [ht,if_neg c1,if_neg c2]
    have e3:ht (.node l r) (o+l.size-1-o)=l.depth:=by rw [ht,if_pos (by omega),show o+l.size-1-o=l.size-1 by omega,Kl]
    have e4:ht (.node l r) (o+l.size+r.size-1-o)=r.depth:=by rw [ht,if_neg (by omega),if_pos (by omega),show o+l.size+r.size-1-o-l.size=r.size-1 by omega,Kl]
    rw [ej,e3,e4,er];omega
theorem sM:∀(t:Tr) (o j:Nat) (w:Str),j < t.size->en t o j=.word w->w∈t.aL
 | .leaf x,o,j,w,h,e=>by
  rw [en] at e;injection e with e;subst e;simp [Tr.aL]
 | .node l r,o,j,w,h,e=>by
  have es:(Tr.node l r).size=l.size+r.size+1:=rfl;by_cases c1:j < l.size
  ·rw [en,if_pos c1] at e;exact Cs _ (sM l o j w c1 e)
  ·by_cases c2:j < l.size+r.size
   ·rw [en,if_neg c1,if_pos c2] at e;exact AY _ (sM r _ (j-l.size) w (by omega) e)
   ·rw [en,if_neg c1,if_neg c2] at e;cases e
inductive Tu (g:List Sy) (t:Tr):Nat->List Nat->PV->Prop
 | leaf {j p i w}:en t 0 j=.word w->Ch g (p++[i])->hm g i w=true->Tu g t j (p++[i]) (.tup [.tup (aB (p++[i])),.str "found"])
 | node {j p i a b nm x y p1 p2 wa wb}:en t 0 j=.pair a b->Ch g (p++[i])->(nm,x,y)∈Mh g i->Tu g t a (x::p1) wa->Tu g t b (y::p2) wb->Tu g t j (p++[i]) (.tup [.tup (aB (p++[i])),.str nm,wa,wb])
def Xa {g:List Sy}{i:Nat}{d:Dd} (h:d∈Mh g i):(d.1==("found":Str))=false:=by
 have k1:(("doubled":Str)==("found":Str))=false:=by decide +kernel
 have k2:(("split":Str)==("found":Str))=false:=by decide +kernel
 have k3:(("over":Str)==("found":Str))=false:=by decide +kernel
 unfold Mh at h;rcases Av.mp h with rfl | h
 ·exact k1
 rcases A2.mp h with h | h
 ·revert h;generalize (sy g i).un=l;intro h;unfold Nb at h
  split at h
  ·simp at h;rcases h with rfl | rfl <;> exact k2
  ·cases h
 ·obtain⟨o,_,h⟩:=Ef.mp h;simp at h;rcases h with rfl | rfl <;> exact k3
def HX (t:Tr) {j:Nat} (h:j < t.size):Ht (t.nd 0) j=en t 0 j:=by unfold Ht;rw [Ar,gG t 0 j h];rfl
def xi (t:Tr) {j:Nat} (h:j < t.size):rq j (en t 0 j):=by
 cases e:en t 0 j with
 | word w=>trivial
 | pair a b=>exact fV t h e
section
variable {g:List Sy}{ws:List Str}{t:Tr}
abbrev gz (g:List Sy) (t:Tr):List (List Bool):=tab g (t.nd 0) t.size
def SR (G:WG g ws) {j i:Nat} (hj:j < t.size) (hi:i < g.length):fa (gz g t) j i=((sy g i).un.any (fun l=>fa (gz g t) j l)||!(lD g (gz g t) (en t 0 j) i).isEmpty):=by
 have:=aaz G (es:=t.nd 0) (n:=t.size) hj hi (by rw [HX t hj];exact xi t hj);rw [HX t hj] at this;exact this
def sC {m n:Nat}{e:Ent} (h:rq m e) (hm:m<=n):rq n e:=by
 cases e with
 | word w=>trivial
 | pair a b=>exact⟨Ax h.1 hm,Ax h.2 hm⟩
theorem uf (G:WG g ws):∀(n j:Nat),ht t j < n->j < t.size->∀(p:List Nat) (i:Nat),Ch g (p++[i])->lD g (gz g t) (en t 0 j) i≠[]->∀{Q:PV->Prop},(∀w,Tu g t j (p++[i]) w->Q w)->
  (cR n (nZ g) (.cl ((t.nd 0).map Ent.pv)) (.cl (vJ (gz g t))) (.int (j:Int)) (.tup (aB (p++[i])))).run Q
 | 0,j,h,_,_,_,_,_,_,_=>by omega
 | n+1,j,h,hj,p,i,hc,hd,Q,q=>by
  have hi:=hc.last;have fw:=HF g (t.nd 0) t.size;have ej:=gG t 0 j hj;unfold cR;simp only [W.ag,W.run_bind,qB,aG,bf,yI,W.aA,W.ai];refine W.le.use (lB G ej hi fw (sC (xi t hj) (by omega))) ?_;have ll:(lD g (gz g t) (en t 0 j) i).length<=63:=by
   cases e:en t 0 j with
   | word w=>unfold lD;simp only;split <;> simp
   | pair a b=>unfold lD;exact Bm (AO _ _) (S8 G hi)
  refine pick_run (fun z=>hd (E4.mp z)) (by rw [Af];omega) fun x hx=>?_;obtain⟨d,O1,rfl⟩:=AB.mp hx;have e1:∀s:Str,of2 dP (.str s) (.str "found")=.ret (.bl (s==("found":Str))):=fun s=>by rw [uM,W.aq ⟨by simp,by simp,by simp⟩,Pg]
  simp only [d3,WV,W.ai,e1,W.ag,bU];cases e:en t 0 j with
  | word w=>
   rw [e] at O1 hd;have O1:d∈(if hm g i w=true then [(("found",i,i):Dd)] else []):=O1;have hh:hm g i w=true:=by
    cases c:hm g i w with
    | true=>rfl
    | false=>rw [c] at O1;cases O1
   rw [if_pos hh] at O1;have:=Ba.mp O1;subst this;simp only [beq_self_eq_true,if_true,W.ai];exact q _ (.leaf e hc hh)
  | pair a b=>
   rw [e] at O1 hd;have O1:d∈(Mh g i).filter (fun d=>fa (gz g t) a d.2.1&&fa (gz g t) b d.2.2):=O1;obtain⟨hd1,hd2⟩:=AG.mp O1;rw [AE] at hd2;obtain⟨l1,l2⟩:=PZ G hi hd1;obtain⟨a1,b1⟩:=fV t hj e;obtain⟨t1,t2⟩:=OV t 0 j a b hj e;rw [Et] at t1 t2;have ha:a < t.size:=by omega
   have hb:b < t.size:=by omega
   have j0:cI [PV.int (a:Int),PV.int (b:Int)] 0=some (.int a):=rfl;have j1:cI [PV.int (a:Int),PV.int (b:Int)] 1=some (.int b):=rfl;simp only [Xa hd1,Ap,if_false,cq,W.ag,W.run_bind,bf,Oa t hj,e,Ent.pv,W.aA,W.ai,aG,j0,j1];have Uu:∀(k:Nat),k < t.size->∀i,i < g.length->fa (gz g t) k i=((sy g i).un.any (fun l=>fa (gz g t) k l)||!(lD g (gz g t) (en t 0 k) i).isEmpty):=fun k hk i hi=>SR G hk hi;refine wZ G (gG t 0 a ha) fw ha (sC (xi t ha) (by omega)) (Uu a ha) l1 hd2.1 fun p1 m1 c1 h1 k1=>?_;refine uf G n a (by omega) ha p1 m1 c1 k1 fun wa Wa=>?_;refine wZ G (gG t 0 b hb) fw hb (sC (xi t hb) (by omega)) (Uu b hb) l2 hd2.2 fun p2 m2 c2 h2 k2=>?_;refine uf G n b (by omega) hb p2 m2 c2 k2 fun wb Wb=>?_;obtain⟨r1,e1⟩:∃r,p1++[m1]=d.2.1::r:=by
    cases hx:p1++[m1] with
    | nil=>rw [hx] at h1;cases h1
    | cons y r=>rw [hx] at h1;cases h1;exact⟨r,rfl⟩
   obtain⟨r2,e2⟩:∃r,p2++[m2]=d.2.2::r:=by
    cases hx:p2++[m2] with
    | nil=>rw [hx] at h2;cases h2
    | cons y r=>rw [hx] at h2;cases h2;exact⟨r,rfl⟩
   rw [e1] at Wa;rw [e2] at Wb;exact q _ (.node e hc hd1 Wa Wb)
def QB.fa (G:WG g ws) {j:Nat} (hj:j < t.size) {i k:Nat} (r:QB g i k):i < g.length->My.fa (gz g t) j k=true->My.fa (gz g t) j i=true:=by
 induction r with
 | refl i=>intro _ h;exact h
 | @step i u k hu _ ih=>
  intro hi h;have:=G.dn i hi u hu;have h1:=ih (by omega) h;rw [SR G hj hi,EJ];exact .inl (BO.mpr ⟨u,hu,h1⟩)
def UX (G:WG g ws) (hw:∀w∈t.aL,w∈ws):∀j,j < t.size->fa (gz g t) j (g.length-1)=true/\∃i,i < g.length/\lD g (gz g t) (en t 0 j) i≠[]:=fun j=>by
 have gp:=G.pos
 induction j using EH with
 | ind j ih=>
  intro hj;cases e:en t 0 j with
  | word w=>
   obtain⟨i,hi,r,hh⟩:=G.adx w (hw w (sM t 0 j w hj e));have ne:lD g (gz g t) (.word w) i≠[]:=by
    show (if hm g i w=true then _ else _)≠[];rw [if_pos hh];simp
   refine⟨r.fa G hj (by omega) ?_,i,hi,ne⟩;rw [SR G hj hi,e,EJ];refine .inr ?_;cases c:lD g (gz g t) (.word w) i with
   | nil=>exact absurd c ne
   | cons _ _=>rfl
  | pair a b=>
   obtain⟨ha,hb⟩:=fV t hj e;have h1:=(ih a ha (by omega)).1;have h2:=(ih b hb (by omega)).1;have mem:dbl (g.length-1)∈lD g (gz g t) (.pair a b) (g.length-1):=AG.mpr ⟨.head _,by show (My.fa _ _ _&&My.fa _ _ _)=true;rw [h1,h2];rfl⟩;have ne:lD g (gz g t) (.pair a b) (g.length-1)≠[]:=fun z=>by rw [z] at mem;cases mem
   refine⟨?_,g.length-1,by omega,ne⟩;rw [SR G hj (by omega),e,EJ];refine .inr ?_;cases c:lD g (gz g t) (.pair a b) (g.length-1) with
   | nil=>exact absurd c ne
   | cons _ _=>rfl
def whole_run (G:WG g ws) (hw:∀w∈t.aL,w∈ws) (hd:t.depth < 12) (hz:t.size<=900) {Q:PV->Prop} (q:∀i w,Tu g t (t.size-1) [i] w->Q w):(bt (nZ g) t.pv).run Q:=by
 have tp:=t.size_pos;have gl:=G.len;have nl:(t.nd 0).length=t.size:=t.br 0;have fw:=HF g (t.nd 0) t.size;have e1:rH fu [nZ g]=.ret (.int (g.length:Int)):=by unfold nZ;rw [fh,Af]
 have hr:t.size-1 < t.size:=by omega
 unfold bt;simp only [W.ag,W.run_bind];refine W.le.use (gY 12 t hd hz) ?_;refine W.le.use (R9 G (es:=t.nd 0) (by omega) fun j hj=>by rw [nl] at hj;rw [HX t hj];exact xi t hj) ?_;rw [nl];have el:((t.size:Int)-1)=((t.size-1:Nat):Int):=by omega
 simp only [iG,fC,W.ai,qA,el,e1,dH,W.aq (bH (i:=0) (j:=(g.length:Int)) (by omega) (by omega)),AR,qp];have ej:=gG t 0 (t.size-1) hr;unfold aB;refine yH (fun i:Nat=>if (!(lD g (gz g t) (en t 0 (t.size-1)) i).isEmpty)=true then some (PV.int (i:Int)) else none) (fun i hi R r=>?_) ?_
 ·have hi:=AL.mp hi;simp only [W.run_bind];refine W.le.use (lB G ej hi fw (sC (xi t hr) (by omega))) ?_;rw [Eh];cases c:(lD g (gz g t) (en t 0 (t.size-1)) i).isEmpty with
  | false=>simpa [c] using r
  | true=>simpa [c] using r
 ·rw [Kq];obtain⟨_,i,hi,ne⟩:=UX G hw (t.size-1) hr;refine pick_run (fun z=>?_) ?_ fun x hx=>?_
  ·have mem:i∈(AH g.length).filter fun i=>!(lD g (gz g t) (en t 0 (t.size-1)) i).isEmpty:=AG.mpr ⟨AL.mpr hi,by cases c:lD g (gz g t) (en t 0 (t.size-1)) i with | nil=>exact absurd c ne | cons _ _=>rfl⟩;rw [E4.mp z] at mem;cases mem
  ·rw [Af];have:=AO (fun i=>!(lD g (gz g t) (en t 0 (t.size-1)) i).isEmpty) (AH g.length);rw [BR] at this;omega
  ·obtain⟨k,hk,rfl⟩:=AB.mp hx;obtain⟨hk1,hk2⟩:=AG.mp hk;have hk1:=AL.mp hk1;refine uf G 12 (t.size-1) (by have:=OU t (t.size-1);omega) hr [] k hk1 (fun z=>?_) fun w h=>q k w h;rw [z] at hk2;cases hk2
end
def Xe (l:List PV) {a:Nat} (h:a<=l.length):ph l (some (a:Int)) none=l.drop a:=by
 unfold ph;rw [HT.FV,HT.Rj,Nat.min_eq_left h,BC (by simp)]
def Dt.isD {t:Tr}{ds:List Int}{d:Int} (D:Dt t ds [] d) (h:d<=99):Ss t ds=true:=by
 unfold Ss;rw [AE,AE,decide_eq_true_iff,decide_eq_true_iff];refine⟨D.len,?_,El.mpr fun j hj=>?_⟩
 ·unfold JM;have hp:(splits t).Pairwise (· < ·):=by unfold splits;exact List.Pairwise.filter _ CY
  rw [List.nodup_iff_pairwise_ne,D2];refine List.Pairwise.imp_of_mem (fun {x y} hx hy lt e=>?_) hp;obtain⟨x1,x2⟩:=AG.mp hx;obtain⟨y1,y2⟩:=AG.mp hy;have:=D.inj x y (AL.mp x1) (AL.mp y1) (by simp) (by simp) x2 y2 e;omega
 ·have hj':=AL.mp hj;unfold Zz;cases e:en t 0 j with
  | word w=>
   show (ds.getD j 0==0)=true;rw [D.zero j hj' (.inl (by rw [e];rfl))];rfl
  | pair a b=>
   obtain⟨_,_,h1,h2,h3,h4⟩:=D.up j hj' (by simp) a b e;show (decide (ds.getD a 0 < ds.getD j 0)&&decide (ds.getD b 0 < ds.getD j 0)&&decide (1<=ds.getD j 0)&&decide (ds.getD j 0<=99))=true;rw [decide_eq_true h1,decide_eq_true h2,decide_eq_true h3,decide_eq_true (by omega)];rfl
theorem uY:∀(t:Tr) (o:Nat),(t.nd o).countP uv+1=t.aL.length
 | .leaf _,_=>rfl
 | .node l r,o=>by
  have h1:=uY l o;have h2:=uY r (o+l.size);rw [Tr.nd,CH,CH];show _+(List.countP uv [Ent.pair _ _])+1=(l.aL++r.aL).length;rw [Ad];simp [uv];omega
def VX (t:Tr):t.nd 0=(AH t.size).map (en t 0):=by
 refine BE fun j=>?_;by_cases h:j < t.size
 ·rw [gG t 0 j h,Ai,BX h];rfl
 ·rw [AQ (by rw [t.br];omega),AQ (by simp;omega)]
def HI (t:Tr):(splits t).length+1=t.aL.length:=by
 rw [<- uY t 0,VX t,List.countP_map];unfold splits;rw [<- List.countP_eq_length_filter];rfl
def QB.snoc {g:List Sy}{i j u:Nat} (r:QB g i j) (hu:u∈(sy g j).un):QB g i u:=by
 induction r with
 | refl i=>exact .step hu (.refl _)
 | step h _ ih=>exact .step h (ih hu)
def gS (t:Tr):List Sy:=(AH t.size).map fun j=>⟨HV (en t 0 j) j,0,QI (en t 0 j),X6 t j⟩
def uD (t:Tr) {j:Nat} (h:j < t.size):sy (gS t) j=⟨HV (en t 0 j) j,0,QI (en t 0 j),X6 t j⟩:=by
 unfold sy gS;rw [Ar,Ai,BX h];rfl
@[simp] theorem j7 (t:Tr):(gS t).length=t.size:=by unfold gS;simp
def aap (t:Tr):nZ (gS t)=.tup (grL t):=by
 unfold nZ gS grL;rw [A6];congr 1
def Uc (e:Ent) (j:Nat):(∃s,HV e j=.str s)\/∃n,HV e j=.int n:=by
 cases e with
 | word w=>exact .inl ⟨w,rfl⟩
 | pair a b=>exact .inr ⟨_,rfl⟩
def Wv (e:Ent):(QI e).length<=2:=by cases e <;> simp [QI]
theorem sD:∀(s:Tr) (t:Tr) (o:Nat) (w:Str),(∀k,k < s.size->en t 0 (o+k)=en s o k)->o+s.size<=t.size->w∈s.aL->∃i,i < t.size/\QB (gS t) (o+s.size-1) i/\en t 0 i=.word w
 | .leaf x,t,o,w,hs,hz,hw=>by
  have e0:en t 0 o=.word x:=hs 0 (by show 0 < 1;decide);have hz:o+1<=t.size:=hz;have:w=x:=by simpa [Tr.aL] using hw
  subst this;exact⟨o,by omega,.refl _,e0⟩
 | .node l r,t,o,w,hs,hz,hw=>by
  have es:(Tr.node l r).size=l.size+r.size+1:=rfl;have lp:=l.size_pos;have rp:=r.size_pos;have er:en t 0 (o+(l.size+r.size))=.pair (o+l.size-1) (o+l.size+r.size-1):=by rw [hs _ (by omega),en,if_neg (by omega),if_neg (by omega)]
  have ei:o+(Tr.node l r).size-1=o+(l.size+r.size):=by omega
  have hl:∀k,k < l.size->en t 0 (o+k)=en l o k:=fun k hk=>by rw [hs k (by omega),en,if_pos hk]
  have hr:∀k,k < r.size->en t 0 (o+l.size+k)=en r (o+l.size) k:=fun k hk=>by rw [A9,hs _ (by omega),en,if_neg (by omega),if_pos (by omega),CJ]
  have un:(sy (gS t) (o+(l.size+r.size))).un=[o+l.size-1,o+l.size+r.size-1]:=by rw [uD t (by omega),er];rfl
  rw [ei];rcases A2.mp (show w∈l.aL++r.aL from hw) with hw | hw
  ·obtain⟨i,h1,h2,h3⟩:=sD l t o w hl (by omega) hw;exact⟨i,h1,.step (by rw [un];simp) h2,h3⟩
  ·obtain⟨i,h1,h2,h3⟩:=sD r t (o+l.size) w hr (by omega) hw;exact⟨i,h1,.step (by rw [un];simp) h2,h3⟩
def K1 {t:Tr} (hz:t.size<=30):WG (gS t) t.aL:=by
 have tp:=t.size_pos;refine⟨by rw [j7];omega,by rw [j7];omega,fun i hi u hu=>?_,fun i hi=>?_,fun i hi u hu=>?_,fun i hi=>?_,fun i hi=>?_,fun w hw=>?_⟩
 ·rw [j7] at hi;rw [uD t hi] at hu;cases e:en t 0 i with
  | word w=>rw [e] at hu;cases hu
  | pair a b=>
   rw [e] at hu;have:=fV t hi e;have hu:u=a\/u=b:=by simpa [QI] using hu
   omega
 ·rw [j7] at hi;rw [uD t hi];exact Wv _
 ·rw [j7] at hi ⊢;rw [uD t hi] at hu;exact AL.mp (AG.mp hu).1
 ·rw [j7] at hi;rw [uD t hi];have:=AO (fun k=>!decide (k∈up t 0 i [])&&!decide (i∈up t 0 k [])) (AH t.size);rw [BR] at this;show (X6 t i).length<=30;unfold X6;omega
 ·rw [j7] at hi;rw [uD t hi];exact Uc _ _
 ·obtain⟨i,h1,h2,h3⟩:=sD t t 0 w (fun k hk=>by rw [AU]) (by omega) hw;rw [AU] at h2;refine⟨i,by rw [j7];exact h1,by rw [j7];exact h2,?_⟩;unfold hm;rw [uD t h1,h3];simp [QI,HV,LV]
def dS (t:Tr) (ds bs:List Int):List Sy:=(aK t ds bs bs.length).map fun p=>⟨HV (en t 0 p.1) p.1,p.2,(G6 (en t 0 p.1) p.1 (ds.getD p.1 0) (bs.getD p.2 0)).map fun x=>(aK t ds bs bs.length).idxOf (x,p.2-1),UK (aK t ds bs bs.length) p.1 p.2⟩
def aaS (t:Tr) (ds bs:List Int):nZ (dS t ds bs)=.tup (X3 t ds bs):=by
 unfold nZ dS X3;rw [A6];congr 1
@[simp] theorem Xc (t:Tr) (ds bs:List Int):(dS t ds bs).length=(aK t ds bs bs.length).length:=by unfold dS;rw [Af]
theorem qQ (t:Tr) (ds bs:List Int):∀m,(aK t ds bs m).Pairwise fun p q=>p.2<=q.2
 | 0=>.nil
 | m+1=>by
  rw [aK];have K7:∀p∈vB t ds (bs.getD m 0) m t.size,p.2=m:=fun p hp=>by
   unfold vB at hp;obtain⟨k,_,rfl⟩:=AB.mp hp;rfl
  refine List.pairwise_append.mpr ⟨qQ t ds bs m,?_,fun a ha b hb=>?_⟩
  ·exact BJ.mpr fun i j hi hj _=>by rw [K7 _ (Ei hi),K7 _ (Ei hj)];exact Am _
  ·have h1:=(hR ha).1;rw [K7 b hb];omega
theorem w5 (t:Tr) (ds bs:List Int) (n:Nat):∀m,((aK t ds bs m).filter fun p=>decide (p.2=n)).length<=t.size
 | 0=>Bd _
 | m+1=>by
  rw [aK,DQ,Ad];have ih:=w5 t ds bs n m;by_cases c:n=m
  ·subst c;have z:(aK t ds bs n).filter (fun p=>decide (p.2=n))=[]:=by
    rw [Ex];intro p hp;have:=(hR hp).1;simp;omega
   rw [z];have h1:=AO (fun p:Nat×Nat=>decide (p.2=n)) (vB t ds (bs.getD n 0) n t.size);have h2:=xY t ds (bs.getD n 0) n t.size;simp only [BG];omega
  ·have z:(vB t ds (bs.getD m 0) m t.size).filter (fun p=>decide (p.2=n))=[]:=by
    rw [Ex];intro p hp;unfold vB at hp;obtain⟨k,_,rfl⟩:=AB.mp hp;simp;omega
   rw [z];simpa using ih
section
variable {t:Tr}{ds:List Int}
def DD.above (D:DD t ds) {j n:Nat} (h:(j,n)∈aK t ds (aP t ds) (aP t ds).length) (hn:n+1 < (aP t ds).length):∃a,(a,n+1)∈aK t ds (aP t ds) (aP t ds).length/\j∈G6 (en t 0 a) a (ds.getD a 0) ((aP t ds).getD (n+1) 0):=by
 obtain⟨hnl,hj,hs⟩:=cv.mp h;obtain⟨s1,s2⟩:=(gJ hj).mp hs;have inc:=D.inc;have lt:=yT inc hn (show n < n+1 by omega);have stays:(∀a,kX t 0 j .aU=.int ((a:Nat):Int)->(aP t ds).getD (n+1) 0 < ds.getD a 0)->∃a,(a,n+1)∈aK t ds (aP t ds) (aP t ds).length/\j∈G6 (en t 0 a) a (ds.getD a 0) ((aP t ds).getD (n+1) 0):=fun hx=>
  ⟨j,cv.mpr ⟨hn,hj,(gJ hj).mpr ⟨by omega,hx⟩⟩,by unfold G6;rw [if_pos (by omega)];exact .head _⟩
 rcases kE t 0 j .aU hj with⟨_,e⟩ | ⟨a,u,v,ja,ha,e,ep,Up⟩
 ·exact stays fun a z=>by rw [e] at z;cases z
 ·rw [AU] at e Up;by_cases c:(aP t ds).getD (n+1) 0 < ds.getD a 0
  ·refine stays fun a' z=>?_;rw [e] at z;injection z with z;have:a=a':=by omega
   subst this;exact c
  ·have sa:=s2 a e;have eq:ds.getD a 0=(aP t ds).getD (n+1) 0:=by
    rcases Int.lt_or_eq_of_le (show ds.getD a 0<=(aP t ds).getD (n+1) 0 by omega) with c2 | c2
    ·have:=(ux inc hn (D.mem ha) c2).2;rw [Nat.add_sub_cancel] at this;omega
    ·exact c2
   refine⟨a,cv.mpr ⟨hn,ha,(gJ ha).mpr ⟨by omega,fun a2 e2=>?_⟩⟩,?_⟩
   ·rcases kE t 0 a .aU ha with⟨_,e3⟩ | ⟨a3,u3,v3,_,h3,e3,ep3,Z1⟩
    ·rw [e3] at e2;cases e2
    ·rw [e3] at e2;injection e2 with e2;rw [AU] at e2 Z1;have:a3=a2:=by omega
     subst this;have:=D.pair a3 u3 v3 h3 ep3;rcases Z1 with rfl | rfl <;> omega
   ·unfold G6;rw [if_neg (by omega),ep];rcases Up with rfl | rfl <;> simp
def DD.last (D:DD t ds) {j n:Nat} (h:(j,n)∈aK t ds (aP t ds) (aP t ds).length) (hn:n+1=(aP t ds).length):j=t.size-1:=by
 obtain⟨hnl,hj,hs⟩:=cv.mp h;obtain⟨s1,s2⟩:=(gJ hj).mp hs;rcases kE t 0 j .aU hj with⟨e,_⟩ | ⟨a,u,v,ja,ha,e,ep,Up⟩
 ·exact e
 ·exfalso;rw [AU] at e;have sa:=s2 a e;have inc:=D.inc;obtain⟨i,hi,ei⟩:=E7 (D.mem ha);have gd:(aP t ds).getD i 0=ds.getD a 0:=by rw [Ar,Ae hi];exact ei
  rcases CU i n with c | c
  ·have:=yT inc hnl c;omega
  ·have:i=n:=by omega
   subst this;omega
def IC {α:Type} [BEq α] [LawfulBEq α] {l:List α} (nd:l.Nodup) {i:Nat}{x:α} (h:l[i]?=some x):l.idxOf x=i:=by
 obtain⟨hi,e⟩:=Aj.mp h;rw [<- e];exact nd.idxOf_getElem i hi
def Jg {α:Type} [BEq α] [LawfulBEq α] {l:List α}{x:α} (h:x∈l):l[l.idxOf x]?=some x:=by
 have:=BA h;rw [Ae this,List.getElem_idxOf this]
def MX (D:DD t ds) (hz:t.size<=15) (hb:(aP t ds).length<=16):WG (dS t ds (aP t ds)) t.aL:=by
 have tp:=t.size_pos;have nd:=jL t ds (aP t ds) (aP t ds).length;have rise:=qQ t ds (aP t ds) (aP t ds).length;have lay:=fun n=>w5 t ds (aP t ds) n (aP t ds).length;have ok:=D.ok;have ne:=D.ne;have ll:=jM t ds (aP t ds) (aP t ds).length;have above:=fun j n=>D.above (j:=j) (n:=n);have last:=fun j n=>D.last (j:=j) (n:=n);have iff:=@cv t ds (aP t ds) (aP t ds).length;unfold okD at ok;have hS:∀i p,(aK t ds (aP t ds) (aP t ds).length)[i]?=some p->sy (dS t ds (aP t ds)) i=⟨HV (en t 0 p.1) p.1,p.2,(G6 (en t 0 p.1) p.1 (ds.getD p.1 0) ((aP t ds).getD p.2 0)).map fun x=>(aK t ds (aP t ds) (aP t ds).length).idxOf (x,p.2-1),UK (aK t ds (aP t ds) (aP t ds).length) p.1 p.2⟩:=fun i p hp=>by
  unfold sy dS;rw [Ar,Ai,hp];rfl
 have hL:(dS t ds (aP t ds)).length=(aK t ds (aP t ds) (aP t ds).length).length:=Xc t ds _;have hmul:(aP t ds).length*t.size<=16*15:=Nat.mul_le_mul hb hz;generalize aK t ds (aP t ds) (aP t ds).length=L at *;have get:∀i,i < (dS t ds (aP t ds)).length->∃p,L[i]?=some p/\p∈L:=fun i hi=>by
  rw [hL] at hi;exact⟨L[i],Ae hi,Ei hi⟩
 have pos:0 < L.length:=E6.mpr ne;have low:∀(i a:Nat) (p r:Nat×Nat),L[i]?=some p->L[a]?=some r->r.2 < p.2->a < i:=fun i a p r h1 h2 lt=>by
  rcases CU a i with c | c
  ·exact c
  ·exfalso;obtain⟨g1,e1⟩:=Aj.mp h1;obtain⟨g2,e2⟩:=Aj.mp h2;rcases DM c with c | c
   ·subst c;rw [h1] at h2;cases h2;omega
   ·have:=BJ.mp rise i a g1 g2 c;rw [e1,e2] at this;omega
 refine⟨by rw [hL];exact pos,by rw [hL];omega,fun i hi u hu=>?_,fun i hi=>?_,fun i hi u hu=>?_,fun i hi=>?_,fun i hi=>?_,fun w hw=>?_⟩
 ·obtain⟨p,hp,hm⟩:=get i hi;rw [hS i p hp] at hu;obtain⟨x,hx,rfl⟩:=AB.mp hu;obtain⟨n1,xm⟩:=ok p hm x hx;exact low i _ p (x,p.2-1) hp (Jg xm) (by show p.2-1 < p.2;omega)
 ·obtain⟨p,hp,hm⟩:=get i hi;rw [hS i p hp];show (E1 _ _).length<=2;rw [Af];unfold G6
  split
  ·simp
  ·cases en t 0 p.1 <;> simp
 ·obtain⟨p,hp,hm⟩:=get i hi;rw [hS i p hp] at hu;unfold UK at hu;obtain⟨x,hx,rfl⟩:=AB.mp hu;rw [hL];exact BA (AG.mp hx).1
 ·obtain⟨p,hp,hm⟩:=get i hi;rw [hS i p hp];show (UK L p.1 p.2).length<=30;unfold UK;rw [Af];have h1:=lay p.2;have h2:(L.filter fun q=>decide (q.2=p.2)&&!decide (q.1=p.1)).length<=(L.filter fun q=>decide (q.2=p.2)).length:=by
   have e:L.filter (fun q=>decide (q.2=p.2)&&!decide (q.1=p.1))=(L.filter fun q=>decide (q.2=p.2)).filter fun q=>!decide (q.1=p.1):=by
    rw [List.filter_filter];refine congrArg (fun f=>L.filter f) (funext fun q=>Bool.and_comm _ _)
   rw [e];exact AO _ _
  omega
 ·obtain⟨p,hp,hm⟩:=get i hi;rw [hS i p hp];exact Uc _ _
 ·
  have reach:∀k i,i+k+1=L.length->QB (dS t ds (aP t ds)) (L.length-1) i:=fun k=>by
   induction k using EH with
   | ind k ih=>
    intro i hk;obtain⟨⟨j,n⟩,hp,hm⟩:=get i (by rw [hL];omega);have nl:=(iff.mp hm).1;by_cases c:n+1 < (aP t ds).length
    ·obtain⟨a,ha,hb⟩:=above j n hm c;have ia:=Jg ha;have lt:=low _ i (a,n+1) (j,n) ia hp (by show n < n+1;omega);have il:=BA ha;have r:=ih (L.length-L.idxOf (a,n+1)-1) (by omega) (L.idxOf (a,n+1)) (by omega);refine r.snoc ?_;rw [hS _ _ ia];refine AB.mpr ⟨j,hb,?_⟩;show L.idxOf (j,n+1-1)=i;rw [Nat.add_sub_cancel];exact IC nd hp
    ·have hj:=last j n hm (by omega);have:i=L.length-1:=by
      obtain⟨⟨j2,n2⟩,yU,XN⟩:=get (L.length-1) (by rw [hL];omega);have n2l:=(iff.mp XN).1;rcases CU n2 n with c2 | c2
      ·have:=low i (L.length-1) _ _ hp yU c2;omega
      ·have en2:n2=n:=by omega
       have OY:=last j2 n2 XN (by omega);subst en2;rw [OY,<- hj] at yU;exact (IC nd hp).symm.trans (IC nd yU)
     rw [this];exact .refl _
  obtain⟨j,hj,_,ej⟩:=sD t t 0 w (fun k hk=>by rw [AU]) (by omega) hw;have b0:(aP t ds).getD 0 0=0:=rfl;have mem:(j,0)∈L:=iff.mpr ⟨by simp [aP],hj,(gJ hj).mpr ⟨by rw [D.leaf j w hj ej,b0];exact Dl _,fun a ea=>by
   rcases kE t 0 j .aU hj with⟨_,e⟩ | ⟨a',u,v,_,ha,e,ep,_⟩
   ·rw [e] at ea;cases ea
   ·rw [e,AU] at ea;injection ea with ea;have:a'=a:=by omega
    subst this;have:=(D.pair a' u v ha ep).2.2;rw [b0];omega⟩⟩
  have il:=BA mem;refine⟨L.idxOf (j,0),by rw [hL];exact il,by rw [hL];exact reach (L.length-L.idxOf (j,0)-1) _ (by omega),?_⟩;unfold hm;rw [hS _ _ (Jg mem)];show ((E1 _ (G6 (en t 0 j) j _ _)).isEmpty&&LV w (HV (en t 0 j) j))=true;unfold G6;rw [b0,D.leaf j w hj ej,if_neg (by omega),ej];simp [HV,LV]
end
def IH {Q:PV->Prop} (q:∀t:Tr,rm t->Q t.pv):dj.run Q:=L7 q
def Ti {t:Tr} (g:rm t) {Q:PV->Prop} (q:∀s,WG s t.aL->Q (nZ s)):(bJ t.pv).run Q:=by
 have hz:=g.size;have hdp:=g.depth;unfold bJ;simp only [W.ag,W.run_bind,bW 2 (by decide) (by decide)];refine aZ fun d _ _=>?_;simp only [eN,bU,W.ai];cases c:d==0 with
 | true=>
  simp only [if_true];refine L6 t (by omega) Q ?_;rw [<- aap];exact q _ (K1 (by omega))
 | false=>
  simp only [Ap,if_false,W.run_bind];refine W.le.use (gY 12 t (by omega) (by omega)) ?_;simp only [W.ai];refine Mi t (by omega) fun ds d D aht=>?_;have SA:(splits t).length<=7:=by have:=HI t;have:=g.few;omega
  have DDt:=DD.of (D.isD (by omega));have hb:(aP t ds).length<=16:=by unfold aP;rw [Aq,pP];have:=JL t ds;omega
  refine P4 DDt (by omega) Q ?_;rw [<- aaS];exact q _ (MX DDt hz hb)
theorem Gp {f:PV->W PV}{S:PV->Prop}:∀{l:List PV},(∀x∈l,∀R:PV->Prop,(∀v,S v->R v)->(f x).run R)->∀{Q:List PV->Prop},(∀m,m.length=l.length->(∀v∈m,S v)->Q m)->(cG l f).run Q
 | [],_,Q,q=>q [] rfl (fun _ h=>nomatch h)
 | x::l,h,Q,q=>by
  show (W.bind (f x) fun y=>W.bind (cG l f) fun m=>W.ret (y::m)).run Q;simp only [W.run_bind];refine h x (.head _) _ fun v hv=>?_;refine Gp (fun y hy=>h y (.tail _ hy)) fun m hm hs=>?_;exact q (v::m) (by simp [hm]) fun u hu=>by
   rcases Av.mp hu with rfl | hu
   ·exact hv
   ·exact hs u hu
theorem JA:∀{m:List PV}{ls:List Str},(∀v∈m,∃w∈ls,v=PV.str w)->∃ws:List Str,m=ws.map PV.str/\∀w∈ws,w∈ls
 | [],_,_=>⟨[],rfl,fun _ h=>nomatch h⟩
 | v::m,ls,h=>by
  obtain⟨w,hw,rfl⟩:=h v (.head _);obtain⟨ws,rfl,h2⟩:=JA (m:=m) (ls:=ls) fun u hu=>h u (.tail _ hu);exact⟨w::ws,rfl,fun x hx=>by
   rcases Av.mp hx with rfl | hx
   ·exact hw
   ·exact h2 x hx⟩
def K9 {t:Tr} (g:rm t) {Q:PV->Prop} (q:∀s:Tr,(∀w∈s.aL,w∈t.aL)->s.aL.length<=10->Q s.pv):(dD t.pv).run Q:=by
 have hz:=g.size;have hdp:=g.depth;unfold dD;simp only [W.ag,W.run_bind];refine W.le.use (gY 12 t (by omega) (by omega)) ?_
 let f:PV->Option PV:=fun x=>match x with | .str w=>some (.str w) | _=>none
 have el:(t.nd 0).map Ent.pv=(AH t.size).map fun j=>(en t 0 j).pv:=by
  apply BE;intro i;by_cases hi:i < t.size
  ·rw [Ai,gG t 0 i hi,Ai,BX hi];rfl
  ·rw [AQ (by rw [fC];omega),AQ (by simp;omega)]
 rw [el];refine yH (fun j=>match en t 0 j with | .word w=>some (PV.str w) | .pair _ _=>none) (fun j hj R r=>?_) ?_
 ·cases e:en t 0 j with
  | word w=>rw [e] at r;simpa [Ent.pv] using r
  | pair a b=>rw [e] at r;simpa [Ent.pv] using r
 generalize hL:(AH t.size).filterMap (fun j=>match en t 0 j with | .word w=>some (PV.str w) | .pair _ _=>none)=L;have Lm:∀v∈L,∃w∈t.aL,v=PV.str w:=fun v hv=>by
  rw [<- hL] at hv;obtain⟨j,hj,e⟩:=CG.mp hv;have hj:=AL.mp hj;cases e2:en t 0 j with
  | word w=>
   rw [e2] at e;exact⟨w,sM t 0 j w hj e2,(Option.some.inj e).symm⟩
  | pair a b=>rw [e2] at e;cases e
 have Ll:L.length<=1000:=by
  rw [<- hL];have:=List.length_filterMap_le (fun j=>match en t 0 j with | .word w=>some (PV.str w) | .pair _ _=>none) (AH t.size);rw [BR] at this;omega
 have Ln:L≠[]:=fun z=>by
  obtain⟨w,e⟩:=zm t 0;have:PV.str w∈L:=by
   rw [<- hL];exact CG.mpr ⟨0,AL.mpr t.size_pos,by rw [e]⟩
  rw [z] at this;cases this
 simp only [bW 8 (by decide) (by decide)];refine aZ fun d d0 d1=>?_;obtain⟨n,hn,n0,n1⟩:∃n:Int,cI [PV.int 6,PV.int 10] (if (d==0)=true then 1 else 0)=some (.int n)/\0 < n/\n<=10:=by
  by_cases h:d=0
  ·subst h;exact⟨10,rfl,by decide,by decide⟩
  ·have e:(d==0)=false:=by simpa using h
   rw [e];exact⟨6,rfl,by decide,by decide⟩
 simp only [eN,W.ai,mC,bf,hn,W.aA,bW n n0 (by omega)];refine aZ fun k k0 k1=>?_;obtain⟨m,hm⟩:∃m:Nat,1+k=(m:Int):=⟨(1+k).toNat,by omega⟩;simp only [f7,W.ai,hm,dH,W.aq (bH (i:=0) (j:=(m:Int)) (by omega) (by omega)),AR];refine Gp (S:=fun v=>∃w∈t.aL,v=PV.str w) (fun x _ R r=>pick_run Ln Ll fun v hv=>r v (Lm v hv)) fun ms hl hs=>?_;obtain⟨ws,rfl,hw⟩:=JA hs;rw [jx,Af] at hl;refine FN (fun z=>by rw [z] at hl;simp at hl;omega) (by omega) fun s hp=>q s (fun w h=>hw w (hp.mem_iff.mp h)) (by rw [hp.length_eq];omega)
inductive WT where
 | lf (p:List Nat) (i:Nat)
 | nd (p:List Nat) (i:Nat) (nm:Str) (a b:WT)
namespace WT
def path:WT->List Nat
 | .lf p i=>p++[i]
 | .nd p i _ _ _=>p++[i]
def at':WT->Nat
 | .lf _ i=>i
 | .nd _ i _ _ _=>i
def jB:WT->Str
 | .lf _ _=>"found"
 | .nd _ _ nm _ _=>nm
def kids:WT->List WT
 | .lf _ _=>[]
 | .nd _ _ _ a b=>[a,b]
def pv:WT->PV
 | .lf p i=>.tup [.tup (aB (p++[i])),.str "found"]
 | .nd p i nm a b=>.tup [.tup (aB (p++[i])),.str nm,a.pv,b.pv]
def size:WT->Nat
 | .lf _ _=>1
 | .nd _ _ _ a b=>a.size+b.size+1
def depth:WT->Nat
 | .lf _ _=>0
 | .nd _ _ _ a b=>max a.depth b.depth+1
def post:WT->List WT
 | .lf p i=>[.lf p i]
 | .nd p i nm a b=>a.post++b.post++[.nd p i nm a b]
def Ok (g:List Sy):WT->Tr->Prop
 | .lf p i,.leaf w=>Ch g (p++[i])/\hm g i w=true
 | .nd p i nm a b,.node l r=>Ch g (p++[i])/\(∃x y r1 r2,(nm,x,y)∈Mh g i/\a.path=x::r1/\b.path=y::r2)/\a.Ok g l/\b.Ok g r
 | _,_=>False
def F3 (u:WT):u.pv=.tup (.tup (aB u.path)::.str u.jB::u.kids.map pv):=by cases u <;> rfl
def size_pos (u:WT):0 < u.size:=by cases u <;> simp [size]
theorem cg:∀u:WT,u.post.length=u.size
 | .lf _ _=>rfl
 | .nd _ _ _ a b=>by simp [post,size,cg a,cg b];omega
def cz (l:List WT):List WT:=l.flatMap post
def bG (l:List WT):Nat:=(l.map size).sum
def HN (u:WT):u.post=cz u.kids++[u]:=by cases u <;> simp [post,cz,kids]
def Lc (u:WT):u.size=bG u.kids+1:=by cases u <;> simp [size,bG,kids]
def Ls (l:List WT):(cz l).length=bG l:=by
 induction l with
 | nil=>rfl
 | cons x l ih=>
  have e:cz (x::l)=x.post++cz l:=rfl;have e2:bG (x::l)=x.size+bG l:=rfl;rw [e,e2,Ad,ih,cg]
def jw (l:List WT):l.length<=bG l:=by
 induction l with
 | nil=>exact Am _
 | cons x l ih=>
  have e2:bG (x::l)=x.size+bG l:=rfl;have:=x.size_pos;rw [Aq,e2];omega
def wR (l m:List WT):cz (l++m)=cz l++cz m:=by simp [cz]
def pS (l m:List WT):bG (l++m)=bG l+bG m:=by simp [bG]
def Ox (u:WT):u.kids.length<=2:=by cases u <;> simp [kids]
def aeg (u:WT):ph (.tup (aB u.path)::.str u.jB::u.kids.map pv) (some 2) none=u.kids.map pv:=by
 have:=Xe (.tup (aB u.path)::.str u.jB::u.kids.map pv) (a:=2) (by simp);rw [show ((2:Nat):Int)=2 from rfl] at this;rw [this];rfl
end WT
theorem HB {g:List Sy}{t:Tr}:∀(s:Tr) (o:Nat),(∀k,k < s.size->en t 0 (o+k)=en s o k)->∀p w,Tu g t (o+s.size-1) p w->∃u:WT,u.pv=w/\u.path=p/\u.Ok g s
 | .leaf x,o,hs,p,w,h=>by
  have e0:en t 0 o=.word x:=hs 0 (by show 0 < 1;decide);have ei:o+(Tr.leaf x).size-1=o:=by show o+1-1=o;omega
  rw [ei] at h;cases h with
  | @leaf _ q i w e c hh=>
   rw [e0] at e;cases e;exact⟨.lf q i,rfl,rfl,c,hh⟩
  | node e _ _ _ _=>rw [e0] at e;cases e
 | .node l r,o,hs,p,w,h=>by
  have es:(Tr.node l r).size=l.size+r.size+1:=rfl;have er:en t 0 (o+(l.size+r.size))=.pair (o+l.size-1) (o+l.size+r.size-1):=by rw [hs _ (by omega),en,if_neg (by omega),if_neg (by omega)]
  have ei:o+(Tr.node l r).size-1=o+(l.size+r.size):=by omega
  rw [ei] at h;have hl:∀k,k < l.size->en t 0 (o+k)=en l o k:=fun k hk=>by rw [hs k (by omega),en,if_pos hk]
  have hr:∀k,k < r.size->en t 0 (o+l.size+k)=en r (o+l.size) k:=fun k hk=>by rw [A9,hs _ (by omega),en,if_neg (by omega),if_pos (by omega),CJ]
  cases h with
  | leaf e _ _=>rw [er] at e;cases e
  | @node _ q i a b nm x y p1 p2 wa wb e c hd h1 h2=>
  rw [er] at e;injection e with ea eb;subst ea;subst eb;obtain⟨u1,a1,a2,a3⟩:=HB l o hl _ _ h1;obtain⟨u2,b1,b2,b3⟩:=HB r (o+l.size) hr _ _ h2;exact⟨.nd q i nm u1 u2,by rw [WT.pv,a1,b1],rfl,c,⟨x,y,p1,p2,hd,a2,b2⟩,a3,b3⟩
def MW {g:List Sy}{t:Tr}{p:List Nat}{w:PV} (h:Tu g t (t.size-1) p w):∃u:WT,u.pv=w/\u.path=p/\u.Ok g t:=
 HB t 0 (fun k _=>by rw [AU]) p w (by rw [AU];exact h)
def WT.Ok.size {g:List Sy}:∀{u:WT}{s:Tr},u.Ok g s->u.size=s.size
 | .lf _ _,.leaf _,_=>rfl
 | .nd _ _ _ a b,.node l r,h=>by
  show a.size+b.size+1=l.size+r.size+1;rw [h.2.2.1.size,h.2.2.2.size]
def WT.Ok.depth {g:List Sy}:∀{u:WT}{s:Tr},u.Ok g s->u.depth=s.depth
 | .lf _ _,.leaf _,_=>rfl
 | .nd _ _ _ a b,.node l r,h=>by
  show max a.depth b.depth+1=max l.depth r.depth+1;rw [h.2.2.1.depth,h.2.2.2.depth]
def K0 (t:WT) (hz:t.size<=900):(cX t.pv).le (.ret (t.post.map WT.pv)):=fun Q q=>by
 unfold cX;simp only [W.ag,W.run_bind];refine g9 (fun n s=>∃ts bs:List WT,n=WT.bG ts/\s=(bs.map WT.pv,ts.map WT.pv)/\WT.cz ts++bs.reverse=t.post) ⟨[t],[],rfl,rfl,by simp [WT.cz]⟩ ?_;rintro n s ⟨ts,bs,rfl,rfl,hp⟩;have hs:=congrArg BH hp;rw [Ad,WT.Ls,Cf,t.cg] at hs;by_cases he:ts=[]
 ·subst he;have hp':bs.reverse=t.post:=hp;simp;rw [<- List.map_reverse,hp'];exact q
 ·obtain⟨us,u,rfl⟩:=JN he;have QK:=WT.jw us;have hk:=u.Ox;have hsu:=u.Lc;have hkl:=WT.jw u.kids;have e0:WT.bG [u]=u.size:=by simp [WT.bG]
  rw [WT.pS,e0] at hs;have ea:jC (bs.map WT.pv) u.pv=.ret (bs.map WT.pv++[u.pv]):=gE (by rw [Af];omega);have ex:zf (us.map WT.pv) (u.kids.map WT.pv)=.ret (us.map WT.pv++u.kids.map WT.pv):=W.aq (bb (by simp;omega));have ne:(us.map WT.pv++[u.pv]).isEmpty=false:=by simp
  simp only [W.ag,W.ai,A1,Au,Cu,ne,DR,if_true,W.run_bind,Pn,ea];rw [u.F3];simp only [sI,W.ag,zh,u.aeg,aG,W.ai,ex];refine⟨_,?_,us++u.kids,bs++[u],rfl,?_,?_⟩
  ·rw [WT.pS,WT.pS,e0];omega
  ·rw [<- u.F3];simp
  ·rw [<- hp,WT.wR,WT.wR,Dy];have e1:WT.cz [u]=WT.cz u.kids++[u]:=by rw [<- WT.HN];simp [WT.cz]
   rw [e1];simp
theorem mq {α:Type}{c:α->PV}{f:PV->W PV}{k:α->PV}:∀{l:List α},(∀x∈l,f (c x)=.ret (k x))->cG (l.map c) f=.ret (l.map k)
 | [],_=>rfl
 | x::r,h=>by
  show W.bind (f (c x)) (fun y=>W.bind (cG (r.map c) f) fun m=>W.ret (y::m))=_;rw [h x (.head _),mq fun y hy=>h y (.tail _ hy)];rfl
inductive Sm:Nat->PV->Prop
 | str {n s}:Sm (n+1) (.str s)
 | int {n i}:Sm (n+1) (.int i)
 | tup {n l}:(∀x∈l,Sm n x)->l.length<=900->Sm (n+1) (.tup l)
theorem FC:∀l:List PV,kS l l=l.map fun x=>PV.tup [x,x]
 | []=>by rw [kS];rfl;simp
 | x::l=>by rw [kS,FC l];rfl
theorem same_self:∀{n:Nat}{x:PV},Sm n x->(aR n x x).le (.ret (.bl true))
 | _,_,@Sm.str n s=>fun Q q=>by
  unfold aR;have e:of2 dP (.str s) (.str s)=.ret (.bl true):=by rw [uM,W.aq ⟨by simp,by simp,by simp⟩,Pg];simp
  simp only [W.ag,W.run_bind,zk,SV,cp,W.ai,Ap,if_false,zj,if_true,W2,beq_self_eq_true,sJ,e];exact q
 | _,_,@Sm.int n i=>fun Q q=>by
  unfold aR;simp only [W.ag,W.run_bind,S1,SW,SX,cp,W.ai,Ap,if_false,uL,PV.oS,bU,SY,S0,WW,DR,sJ,eN,beq_self_eq_true];exact q
 | _,_,@Sm.tup n l h hl=>fun Q q=>by
  unfold aR;simp only [W.ag,W.run_bind,mB,SU,cp,W.ai,if_true,Cn,Ap,if_false,fh,IQ,beq_self_eq_true,bU,aG];refine⟨bb (by omega),?_⟩;show (cG (kS l l) _).run _;rw [FC];refine oz (fun _=>.bl true) (fun x hx R r=>?_) ?_
  ·simp only [zg,W.ag,W.run_bind];exact same_self (h x hx) R r
  ·have e:l.map (fun _=>PV.bl true)=(l.map fun _=>true).map PV.bl:=by rw [A6];rfl
   rw [e,Tp];have e2:(l.map fun _=>true).all id=true:=by simp
   rw [e2];exact q
theorem pN:∀(n:Nat) (u:WT),u.depth < n->u.size<=300->(bx n u.pv).le (.ret (u.post.map WT.pv))
 | 0,u,h,_=>by omega
 | n+1,.lf p i,h,_=>fun Q q=>by
  unfold bx;simp only [WT.pv,W.ag,W.run_bind,fh,Aq,BG,eN,bU,W.ai];exact q
 | n+1,.nd p i nm a b,h,hz=>fun Q q=>by
  have ed:(WT.nd p i nm a b).depth=max a.depth b.depth+1:=rfl;have es:(WT.nd p i nm a b).size=a.size+b.size+1:=rfl;have i2:∀a b c d:PV,cI [a,b,c,d] 2=some c:=fun _ _ _ _=>rfl;have i3:∀a b c d:PV,cI [a,b,c,d] 3=some d:=fun _ _ _ _=>rfl;have ec:(((0+1+1+1+1:Nat):Int)==2)=false:=rfl;unfold bx;simp only [WT.pv,W.ag,W.run_bind,fh,Aq,BG,eN,bU,W.ai,ec,Ap,if_false,aG,bf,i2,i3,W.aA];refine W.le.use (pN n a (by omega) (by omega)) ?_;refine W.le.use (pN n b (by omega) (by omega)) ?_;rw [u4 (by rw [Af,Af,WT.cg,WT.cg];omega)];simp only [W.ai];rw [u4 (by simp [WT.cg];omega)];have e:WT.pv (.nd p i nm a b)=.tup [.tup (aB (p++[i])),.str nm,a.pv,b.pv]:=rfl;have q:Q ((a.post++b.post++[WT.nd p i nm a b]).map WT.pv):=q;rw [A1,A1,Au,Cu,e] at q;exact q
namespace WT
def pre:WT->List Nat
 | .lf p _=>p
 | .nd p _ _ _ _=>p
def NW (u:WT):u.path=u.pre++[u.at']:=by cases u <;> rfl
end WT
def vI (g:List Sy) (i:Nat):Bool:=decide ((sy g i).un.length=2)
def qg (g:List Sy) (p:List Nat):Nat:=(p.filter (vI g)).length
def uj (g:List Sy) (l:List WT):Nat:=(l.map fun x=>qg g x.pre).sum
def cnt (nm:Str) (l:List WT):Nat:=l.countP fun x=>x.jB==nm
def Kn (g:List Sy) (x:WT):Prop:=(x.jB="split"\/x.jB="doubled"\/x.jB="over"\/x.jB="found")/\(∀i∈x.pre,i < g.length)/\x.pre.length<=300
def P0 {g:List Sy}{i:Nat}{d:Dd} (h:d∈Mh g i):d.1="split"\/d.1="doubled"\/d.1="over":=by
 unfold Mh at h;rcases Av.mp h with rfl | h
 ·exact .inr (.inl rfl)
 rcases A2.mp h with h | h
 ·revert h;generalize (sy g i).un=l;intro h;unfold Nb at h
  split at h
  ·simp at h;rcases h with rfl | rfl <;> exact .inl rfl
  ·cases h
 ·obtain⟨o,_,h⟩:=Ef.mp h;simp at h;rcases h with rfl | rfl <;> exact .inr (.inr rfl)
def Qc {g:List Sy}{ws:List Str} (G:WG g ws) {p:List Nat}{i:Nat} (c:Ch g (p++[i])):(∀i∈p,i < g.length)/\p.length<=300:=by
 refine⟨fun j hj=>c.lt j (Cs _ hj),?_⟩;have gl:=G.len;cases p with
 | nil=>simp
 | cons a p=>
  have h1:=Ch.len G (p:=p++[i]) (i:=a) c;have h2:=c.lt a (by simp);rw [Ad] at h1;simp at h1 ⊢;omega
theorem N2 {g:List Sy}{ws:List Str} (G:WG g ws):∀{u:WT}{s:Tr},u.Ok g s->∀x∈u.post,Kn g x
 | .lf p i,.leaf w,h,x,hx=>by
  have:=Ba.mp hx;subst this;exact⟨.inr (.inr (.inr rfl)),Qc G h.1⟩
 | .nd p i nm a b,.node l r,h,x,hx=>by
  rcases A2.mp hx with hx | hx
  ·rcases A2.mp hx with hx | hx
   ·exact N2 G h.2.2.1 x hx
   ·exact N2 G h.2.2.2 x hx
  ·have:=Ba.mp hx;subst this;obtain⟨_,_,_,_,hd,_⟩:=h.2.1;refine⟨?_,Qc G h.1⟩;rcases P0 hd with e | e | e
   ·exact .inl e
   ·exact .inr (.inl e)
   ·exact .inr (.inr (.inl e))
def P7 (l:List PV) (x:PV):ph (l++[x]) none (some (-1))=l:=by
 have e:HT.dz (l++[x]).length (l++[x]).length (some (-1))=l.length:=by
  simp [HT.dz];try omega
 unfold ph;rw [HT.FV,e];simp
def F9 (u:WT):ph (aB u.path) none (some (-1))=aB u.pre:=by
 rw [u.NW,Gj];exact P7 _ _
def LH {g:List Sy}{u:WT} (h:∀i∈u.pre,i < g.length):gW (nZ g) (.tup (aB u.path))=.ret (.int (qg g u.pre)):=by
 unfold gW;simp only [W.ag,qB,sI,zh,F9,aG];rw [Ij (p:=vI g) fun k hk=>by
  simp only [FI (h k hk),W.ag,fh,cj,eN,bU];have e:((((sy g k).un.length:Nat):Int)==2)=vI g k:=by
   unfold vI;rw [Dw];simp;omega
  rw [e];cases vI g k <;> rfl]
 simp only [W.ag,qC,cj];rfl
def Xf (l:List WT) (nm:Str):Tb (l.map fun x=>PV.str x.jB) (.str nm)=.ret (.int (cnt nm l)):=by
 unfold Tb;rw [W.aq ⟨by simp,lP.mpr fun x hx=>by obtain⟨y,_,rfl⟩:=AB.mp hx;simp,lS fun x hx=>by obtain⟨y,_,rfl⟩:=AB.mp hx;simp⟩];congr 2;unfold Xg cnt;rw [List.countP_map];congr 1
def PR (g:List Sy) (l:List WT):PV:=.tup [.int (cnt "split" l),.int (cnt "doubled" l),.int (cnt "over" l),.int (uj g l)]
def M9 (l:List Nat):(l.map fun (n:Nat)=>(n:Int)).sum=((l.sum:Nat):Int):=by
 induction l with
 | nil=>rfl
 | cons a l ih=>rw [Au,List.sum_cons,List.sum_cons,ih];omega
def IX {g:List Sy} (u:WT) (hz:u.size<=300) (hk:∀x∈u.post,Kn g x):(gX (nZ g) u.pv).le (.ret (PR g u.post)):=fun Q q=>by
 have k0:∀(x:PV) (l:List PV),cI (x::l) 0=some x:=fun _ _=>eB (j:=0) rfl;have k1:∀(x y:PV) (l:List PV),cI (x::y::l) 1=some y:=fun _ _ _=>eB (j:=1) rfl;unfold gX;simp only [W.ag,W.run_bind];refine W.le.use (K0 u (by omega)) ?_;simp only [cq,W.ai];rw [mq (c:=WT.pv) (k:=fun x=>.str x.jB) fun x _=>by
  rw [x.F3];simp only [W.ag,aG,bf,k1,W.aA]]
 simp only [W.ai];rw [mq (c:=WT.pv) (k:=fun x=>.int (qg g x.pre:Nat)) fun x hx=>by
  rw [x.F3];simp only [W.ag,aG,bf,k0,W.aA,LH (hk x hx).2.1]]
 have e1:u.post.map (fun x=>PV.int (qg g x.pre:Nat))=((u.post.map fun x=>qg g x.pre).map fun (n:Nat)=>(n:Int)).map PV.int:=by simp
 rw [e1];unfold og;simp only [W.ai,W.run_bind,gZ,M9];rw [mq (c:=PV.str) (k:=fun nm=>.int (cnt nm u.post)) fun nm _=>by
  simp only [W.ag,Kt,Xf]]
 simp only [W.ai];rw [u4 (by simp)];exact q
def d4 (a b c d:PV):List (Key×PV):=[(.inr "split",a),(.inr "doubled",b),(.inr "over",c),(.inr "found",d)]
section
def ns1:(("split":Str)="doubled")=False:=by simp only [eq_iff_iff,iff_false];decide +kernel
def ns2:(("split":Str)="over")=False:=by simp only [eq_iff_iff,iff_false];decide +kernel
def ns3:(("split":Str)="found")=False:=by simp only [eq_iff_iff,iff_false];decide +kernel
def ns4:(("doubled":Str)="split")=False:=by simp only [eq_iff_iff,iff_false];decide +kernel
def ns5:(("doubled":Str)="over")=False:=by simp only [eq_iff_iff,iff_false];decide +kernel
def ns6:(("doubled":Str)="found")=False:=by simp only [eq_iff_iff,iff_false];decide +kernel
def ns7:(("over":Str)="split")=False:=by simp only [eq_iff_iff,iff_false];decide +kernel
def ns8:(("over":Str)="doubled")=False:=by simp only [eq_iff_iff,iff_false];decide +kernel
def ns9:(("over":Str)="found")=False:=by simp only [eq_iff_iff,iff_false];decide +kernel
def VO:(("found":Str)="split")=False:=by simp only [eq_iff_iff,iff_false];decide +kernel
def VN:(("found":Str)="doubled")=False:=by simp only [eq_iff_iff,iff_false];decide +kernel
def VM:(("found":Str)="over")=False:=by simp only [eq_iff_iff,iff_false];decide +kernel
def Xd {l:List WT}{x:WT} (h:x.jB="split"\/x.jB="doubled"\/x.jB="over"\/x.jB="found"):∃n:Nat,eU (d4 (.int (cnt "split" l)) (.int (cnt "doubled" l)) (.int (cnt "over" l)) (.int (cnt "found" l))) (.inr x.jB)=some (.int n)/\HL (d4 (.int (cnt "split" l)) (.int (cnt "doubled" l)) (.int (cnt "over" l)) (.int (cnt "found" l))) (.inr x.jB) (.int ((n:Int)+1))=d4 (.int (cnt "split" (l++[x]))) (.int (cnt "doubled" (l++[x]))) (.int (cnt "over" (l++[x]))) (.int (cnt "found" (l++[x]))):=by
 have ec:∀nm,cnt nm (l++[x])=cnt nm l+if x.jB==nm then 1 else 0:=fun nm=>by
  unfold cnt;rw [CH];simp [C9]
 rcases h with h | h | h | h <;> rw [h] at ec ⊢ <;> refine⟨_,by simp [eU,d4,ns1,ns2,ns3,ns4,ns5,ns6,ns7,ns8,ns9,VO,VN,VM];rfl,?_⟩ <;> simp [HL,wd,d4,ec,ns1,ns2,ns3,ns4,ns5,ns6,ns7,ns8,ns9,VO,VN,VM]
end
def Oh (g:List Sy) (l:List WT) (x:WT):uj g (l++[x])=uj g l+qg g x.pre:=by
 unfold uj;simp
def V3 (g:List Sy) (p:List Nat) (i:Nat):qg g (p++[i])=qg g p+if vI g i then 1 else 0:=by
 unfold qg;rw [DQ,Ad];cases h:vI g i <;> simp [h]
def Ii {g:List Sy}{ws:List Str} (G:WG g ws) (u:WT) (hd:u.depth < 12) (hz:u.size<=300) (hk:∀x∈u.post,Kn g x):(c6 (nZ g) u.pv).le (.ret (PR g u.post)):=fun Q q=>by
 have k0:∀(x:PV) (l:List PV),cI (x::l) 0=some x:=fun _ _=>eB (j:=0) rfl;have k1:∀(x y:PV) (l:List PV),cI (x::y::l) 1=some y:=fun _ _ _=>eB (j:=1) rfl;unfold c6;simp only [W.ag,W.run_bind];refine W.le.use (pN 12 u hd hz) ?_;refine gR (fun i s=>s=(d4 (.int (cnt "split" (u.post.take i))) (.int (cnt "doubled" (u.post.take i))) (.int (cnt "over" (u.post.take i))) (.int (cnt "found" (u.post.take i))),.int (uj g (u.post.take i)))) rfl (fun i x s hx hs=>?_) (fun s hs=>?_)
 ·subst hs;rw [Ai] at hx;obtain⟨y,hy,rfl⟩:=CT.mp hx;have hi:=(Aj.mp hy).1;have hm:y∈u.post:=A5 hy;obtain⟨h1,h2,h3⟩:=hk y hm;have et:u.post.take (i+1)=u.post.take i++[y]:=by rw [CV,hy];rfl
  rw [et];obtain⟨n,e1,e2⟩:=Xd (l:=u.post.take i) h1;generalize u.post.take i=l at e1 e2;have dl:(d4 (.int (cnt "split" l)) (.int (cnt "doubled" l)) (.int (cnt "over" l)) (.int (cnt "found" l))).length < sizeLine:=Ax (by decide:4 < 1000) (bb (Am _));rw [y.F3];simp only [W.ag,W.run_bind,aG,bf,k0,k1,W.aA,W.ai,Ku,e1,GW,W.aq dl,e2,qB,sI,zh,F9];refine gR (fun j s=>s=.int ((uj g l:Int)+(qg g (y.pre.take j):Nat))) (by simp [qg]) (fun j x s hx hs=>?_) (fun s hs=>?_)
  ·subst hs;unfold aB at hx;rw [Ai] at hx;obtain⟨k,hky,rfl⟩:=CT.mp hx;have hkm:k∈y.pre:=A5 hky;have ep:y.pre.take (j+1)=y.pre.take j++[k]:=by rw [CV,hky];rfl
   have e3:((((sy g k).un.length:Nat):Int)==2)=vI g k:=by
    unfold vI;rw [Dw];simp;omega
   rw [ep,V3];simp only [W.ag,W.run_bind,nZ,aG,bf,WJ (h2 k hkm),W.aA,Sy.pv,HG,fh,cj,eN,mC,GW,W.ai,e3];congr 1;cases vI g k <;> simp <;> omega
  ·subst hs;have e4:y.pre.take (aB y.pre).length=y.pre:=by rw [cj];exact C7
   rw [e4,Oh];rfl
 ·subst hs;have e5:u.post.take (u.post.map WT.pv).length=u.post:=by rw [Af];exact C7
  rw [e5];have g1:∀a b c d:PV,eU (d4 a b c d) (.inr "split")=some a:=fun a b c d=>by simp [eU,d4]
  have g2:∀a b c d:PV,eU (d4 a b c d) (.inr "doubled")=some b:=fun a b c d=>by simp [eU,d4,ns1]
  have g3:∀a b c d:PV,eU (d4 a b c d) (.inr "over")=some c:=fun a b c d=>by simp [eU,d4,ns2,ns5]
  simp only [W.ag,W.run_bind,Ku,g1,g2,g3,W.aA,W.ai];exact q
def HM {Q:PV->Prop} (q:∀a b c d:Int,Q (.tup [.int a,.int b,.int c,.int d])):cZ.run Q:=by
 unfold cZ;simp only [W.ag,W.run_bind,dH,W.aq (bH (i:=0) (j:=(4:Int)) (by omega) (by omega)),W.ai];refine lO (n:=4) (fun i s=>∃ns:List Int,s=ns.map PV.int/\ns.length=i) ⟨[],rfl,rfl⟩ (fun i s hi hs=>?_) (fun s hs=>?_)
 ·obtain⟨ns,rfl,hl⟩:=hs;simp only [W.ag,W.run_bind,bW 4 (by decide) (by decide)];refine aZ fun a _ _=>?_;simp only [bW 1001 (by decide) (by decide)];refine aZ fun b _ _=>?_;have p1:MC 10 30:=⟨by decide,by decide,by decide⟩;simp only [W.run_bind,W.ag,Pm,W.aq p1,qA,W.ai,bW 5 (by decide) (by decide)];refine aZ fun c c0 c1=>?_;obtain⟨v,hv⟩:∃v:Int,cI [PV.int a,.int b,.int 0,.int (10 ^ (30:Int).toNat-1),.int 1000] c=some (.int v):=by
   have:c=0\/c=1\/c=2\/c=3\/c=4:=by omega
   rcases this with rfl | rfl | rfl | rfl | rfl <;> exact⟨_,rfl⟩
  simp only [bf,hv,W.aA,W.ai];rw [gE (by simp;omega)];exact⟨ns++[v],by simp,by simp [hl]⟩
 ·obtain⟨ns,rfl,hl⟩:=hs;simp only [qz,W.ai]
  match ns,hl with
  | [a,b,c,d],_=>exact q a b c d
def wQ (a b c d:Int) {x y z w:Int} (hx:0<=x/\x<=1000000000) (hy:0<=y/\y<=1000000000) (hz:0<=z/\z<=1000000000) (hw:0<=w/\w<=1000000000):dW (.tup [.int a,.int b,.int c,.int d]) (.tup [.int x,.int y,.int z,.int w])=.ret (.int (a*x+b*y+c*z+d*w)):=by
 unfold dW;have e:Hv [PV.int a,.int b,.int c,.int d] [PV.int x,.int y,.int z,.int w]=.ret [.tup [.int a,.int x],.tup [.int b,.int y],.tup [.int c,.int z],.tup [.int d,.int w]]:=by
  unfold Hv;rw [W.aq (bb (by simp))];simp [kS]
 have m1:IntMulOk a x:=mulR (by omega);have m2:IntMulOk b y:=mulR (by omega);have m3:IntMulOk c z:=mulR (by omega);have m4:IntMulOk d w:=mulR (by omega);simp only [W.ag,aG,e];have em:cG [PV.tup [.int a,.int x],.tup [.int b,.int y],.tup [.int c,.int z],.tup [.int d,.int w]] (fun p4=>W.bind (wI p4) fun t5=>of2 jT t5.1 t5.2)=.ret ([a*x,b*y,c*z,d*w].map PV.int):=by
  simp [cG,W.aq m1,W.aq m2,W.aq m3,W.aq m4]
 rw [em];unfold og;simp only [W.ag,gZ];congr 2;simp;omega
def qX:WT->Nat
 | .lf _ _=>0
 | .nd _ _ _ a b=>qX a+qX b+1
theorem tF:∀u:WT,u.size=2*qX u+1
 | .lf _ _=>rfl
 | .nd _ _ _ a b=>by
  have ha:=tF a;have hb:=tF b;show a.size+b.size+1=2*(qX a+qX b+1)+1;omega
def Ta (nm:Str) (l m:List WT):cnt nm (l++m)=cnt nm l+cnt nm m:=by unfold cnt;exact CH
def KJ (nm:Str) (x:WT):cnt nm [x]=if x.jB==nm then 1 else 0:=by unfold cnt;simp [C9]
theorem uZ {g:List Sy}:∀{u:WT}{s:Tr},u.Ok g s->cnt "split" u.post+cnt "doubled" u.post+cnt "over" u.post=qX u
 | .lf p i,.leaf w,_=>by
  show cnt "split" [WT.lf p i]+cnt "doubled" [WT.lf p i]+cnt "over" [WT.lf p i]=0;simp [KJ,WT.jB,VO,VN,VM]
 | .nd p i nm a b,.node l r,h=>by
  have ha:=uZ h.2.2.1;have hb:=uZ h.2.2.2;have e:(WT.nd p i nm a b).post=a.post++b.post++[WT.nd p i nm a b]:=rfl;have e2:(WT.nd p i nm a b).jB=nm:=rfl;have e3:qX (WT.nd p i nm a b)=qX a+qX b+1:=rfl;rw [e,e3];obtain⟨_,_,_,_,hd,_⟩:=h.2.1;simp only [Ta,KJ,e2];rcases P0 hd with q | q | q <;> (have q:nm=_:=q) <;> rw [q] <;> simp [ns1,ns2,ns4,ns5,ns7,ns8] <;> omega
def lo_le (g:List Sy) (p:List Nat):qg g p<=p.length:=AO _ _
theorem J8 {g:List Sy}:∀(l:List WT),(∀x∈l,Kn g x)->uj g l<=300*l.length
 | [],_=>Bd _
 | x::l,h=>by
  have h1:=J8 l fun y hy=>h y (.tail _ hy);have h2:=(h x (.head _)).2.2;have h3:=lo_le g x.pre;have e:uj g (x::l)=qg g x.pre+uj g l:=by unfold uj;simp
  rw [e,Aq];omega
def Ot:∀ns:List Int,ns.length<=63->(jW (.cl (ns.map PV.int))).run (·=.bl true):=fun ns hn=>by
 unfold jW;simp only [W.ag,W.run_bind,iG,Af,WX,WY,W.ai];obtain⟨k,hk,k1⟩:∃k:Nat,(if (if (6:Int) < (ns.length:Int) then (6:Int) else (ns.length:Int)) > 1 then (if (6:Int) < (ns.length:Int) then (6:Int) else (ns.length:Int)) else 1)=(k:Int)/\k<=6:=by
  refine⟨(if (if (6:Int) < (ns.length:Int) then (6:Int) else (ns.length:Int)) > 1 then (if (6:Int) < (ns.length:Int) then (6:Int) else (ns.length:Int)) else 1).toNat,?_,?_⟩ <;> split <;> split <;> omega
 rw [hk];simp only [dH,W.aq (bH (i:=0) (j:=(k:Int)) (by omega) (by omega)),W.ai,AR];refine uJ (fun _ _=>True) trivial (fun i _ hi _=>?_) (fun _ _=>?_)
 rotate_left
 ·simp only [O6,W.ag];rw [wQ 1000 1000 1000 1000 (by omega) (by omega) (by omega) (by omega)];simp only [W.ag];exact same_self (n:=4) .int (·=.bl true) rfl
 simp only [W.run_bind];refine Rx (by omega) fun l hl=>⟨hl,?_⟩;unfold fc;simp only [W.run_bind,W.ag];refine IH fun t g=>?_;refine Ti g fun s G=>?_;refine K9 g fun u hu hul=>?_;have hz:u.size<=300:=by have:=u.size_eq;omega
 have hd:u.depth < 12:=by have:=u.o9;omega
 refine whole_run G hu hd (by omega) fun i0 w0 W0=>?_;simp only [W.ai,Pl,dH,W.aq (bH (i:=0) (j:=(3:Int)) (by omega) (by omega))];refine uJ (n:=3) (fun _ s'=>∃i,Tu s u (u.size-1) [i] s') ⟨i0,W0⟩ (fun j w hj hs=>?_) (fun _ _=>trivial);obtain⟨i,Wi⟩:=hs;obtain⟨v,rfl,_,ok⟩:=MW Wi;have vz:=ok.size;have vd:=ok.depth;have kn:=N2 G ok;have pl:=v.cg;have agQ:=tF v;have agP:=uZ ok;have ll:=J8 v.post kn;simp only [W.ag,W.run_bind];refine W.le.use (Ii G v (by omega) (by omega) kn) ?_;refine W.le.use (IX v (by omega) kn) ?_;have sm:(aR 4 (PR s v.post) (PR s v.post)).le (.ret (.bl true)):=same_self (.tup (fun x hx=>by
  simp at hx;rcases hx with rfl | rfl | rfl | rfl <;> exact .int) (by simp))
 refine W.le.use sm ?_;simp only [cp,W.ai,Cn,Ap,if_false,W.run_bind];refine HM fun a b c d=>?_;unfold PR;generalize cnt "split" v.post=n1 at *;generalize cnt "doubled" v.post=n2 at *;generalize cnt "over" v.post=n3 at *;generalize uj s v.post=n4 at *;have j0:∀a b c d:PV,cI [a,b,c,d] 0=some a:=fun _ _ _ _=>rfl;have j1:∀a b c d:PV,cI [a,b,c,d] 1=some b:=fun _ _ _ _=>rfl;have j2:∀a b c d:PV,cI [a,b,c,d] 2=some c:=fun _ _ _ _=>rfl;have j3:∀a b c d:PV,cI [a,b,c,d] 3=some d:=fun _ _ _ _=>rfl;have c1:IntMulOk a n1:=mulR (by omega);have c2:IntMulOk b n2:=mulR (by omega);have c3:IntMulOk c n3:=mulR (by omega);have c4:IntMulOk d n4:=mulR (by omega);have pe:∀a b c d:Int,dW (.tup [.int a,.int b,.int c,.int d]) (.tup [.int (n1:Int),.int (n2:Int),.int (n3:Int),.int (n4:Int)])=.ret (.int (a*n1+b*n2+c*n3+d*n4)):=fun a b c d=>wQ a b c d (by omega) (by omega) (by omega) (by omega);have si:∀(x y:Int),x=y->(aR 4 (.int x) (.int y)).le (.ret (.bl true)):=fun x y e=>by rw [e];exact same_self .int
 simp only [aG,W.ag,W.run_bind,bf,j0,j1,j2,j3,W.aA,W.ai,IT,W.aq c1,W.aq c2,W.aq c3,W.aq c4,f7,pe];refine W.le.use (si _ _ rfl) ?_;simp only [cp,W.ai,Cn,Ap,if_false,W.run_bind];refine W.le.use (si _ _ (by omega)) ?_;simp only [cp,W.ai,Cn,Ap,if_false,W.run_bind,dH,W.aq (bH (i:=0) (j:=(4:Int)) (by omega) (by omega))];refine uJ (n:=4) (fun _ _=>True) trivial (fun q _ hq _=>?_) (fun _ _=>?_)
 ·have iv:iE 0 (4:Int).toNat=[PV.int 0,.int 1,.int 2,.int 3]:=rfl;have em:cG [PV.int 0,.int 1,.int 2,.int 3] (fun p46=>W.bind (of2 dP p46 (.int (q:Int))) fun x=>rH pz [x])=.ret [.int (if (0:Int)==q then 1 else 0),.int (if (1:Int)==q then 1 else 0),.int (if (2:Int)==q then 1 else 0),.int (if (3:Int)==q then 1 else 0)]:=by
   simp [cG]
  simp only [W.ag,W.run_bind,dH,W.aq (bH (i:=0) (j:=(4:Int)) (by omega) (by omega)),W.ai,iv];rw [em];simp only [W.ai,qz,pe,aG,bf];have hat:∃x:Int,cI [PV.int (n1:Int),.int (n2:Int),.int (n3:Int),.int (n4:Int)] (q:Int)=some (.int x)/\(if (0:Int)==q then (1:Int) else 0)*n1+(if (1:Int)==q then (1:Int) else 0)*n2+(if (2:Int)==q then (1:Int) else 0)*n3+(if (3:Int)==q then (1:Int) else 0)*n4=x:=by
   match q,hq with
   | 0,_=>exact⟨n1,rfl,by simp⟩
   | 1,_=>exact⟨n2,rfl,by simp⟩
   | 2,_=>exact⟨n3,rfl,by simp⟩
   | 3,_=>exact⟨n4,rfl,by simp⟩
  obtain⟨x,e1,e2⟩:=hat
  simp only [e1,e2,W.aA,W.ai];refine W.le.use (si _ _ rfl) ?_;simp only [cp,W.ai,Cn,Ap,if_false,W.run_bind]
 ·have ec:ph [PV.int (n1:Int),.int (n2:Int),.int (n3:Int),.int (n4:Int)] none (some 3)=[(n1:Int),n2,n3].map PV.int:=rfl;simp only [O6,W.ag,W.run_bind,sI,zh,ec,aG,W.ai,og,gZ];refine W.le.use (gY 12 u hd (by omega)) ?_;have e2:(([(n1:Int),n2,n3].sum)==((u.size:Nat):Int) / 2)=true:=by
   simp;omega
  simp only [qC,fC,W.ai,W3,W.aq (show QD ((u.size:Nat):Int) 2 from⟨by decide,by decide⟩),IQ,e2,Cn,bU,Ap,if_false,W.run_bind];exact whole_run G hu hd (by omega) fun i w h=>⟨i,h⟩
section
def top (i:Nat):Stmt:=PySem.Challenge.pw_treewithin_k19_ways_counted_and_priced.main.body.getD i (.Pass ⟨0,0,0,0⟩)
def iz:ay ["tree","backward","waiting","part"] ["tree"] (aj (top 1)):=j8
def jn:ay ["tree","told","loose","part","other","one"] ["tree"] (aj (top 2)):=j8
def Li:ay ["node"] ["node"] (aj (top 3)):=j8
abbrev vi:List Str:=["tree","told","node","ahead","number","half"]
def eP:ay vi ["tree"] (aj (top 4)):=j8
abbrev uh:Scope:=rO [("node",lo)]
def mQ:aD (aj (top 4)) vi uh ["node"] [none]:=lcs
def FU:ay ["stays","stay"] ["stays","stay"] (aj (top 7)):=j8
def HJ:ay ["houses","house"] ["houses","house"] (aj (top 8)):=j8
abbrev vh:List Str:=["great","ahead","house","lines","above"]
def f9:ay vh ["great"] (aj (top 9)):=j8
abbrev ug:Scope:=rO [("house",lo)]
def mP:aD (aj (top 9)) vh ug ["house"] [none]:=lcs
abbrev pB:List Str:=["lines","house"]
def vM:ay pB ["lines","house"] (aj (top 10)):=j8
abbrev qb:Scope:=rO [("far",lo),("house",fr),("lines",fr)]
def kL:aD (aj (top 10)) pB qb ["far","house","lines"] [none,some 1,some 0]:=lcs
abbrev Hk:List Str:=["great","houses","lines"]
def pU:ay Hk ["great"] (aj (top 11)):=j8
abbrev yD:Scope:=rO [("house",lo),("name_of",gi),("halves",gi),("apart_from",gi),("houses",fr),("lines",fr)]
def qS:aD (aj (top 11)) Hk yD ["house","houses","lines"] [none,some 1,some 2]:=lcs
def eX:ay ["way","backward","waiting","part"] ["way"] (aj (top 14)):=j8
abbrev xA:List Str:=["ground","path"]
def HK:ay xA ["ground","path"] (aj (top 16)):=j8
abbrev vS:Scope:=rO [("stay",lo),("len",gi),("under_at",gi),("ground",fr)]
def oG:aD (aj (top 16)) xA vS ["stay","ground"] [none,some 0]:=lcs
abbrev mG:List Str:=["ground","way","parts","done","lost"]
def jP:ay mG ["ground","way"] (aj (top 17)):=j8
abbrev vV:Scope:=rO [("part",lo)]
abbrev vU:Scope:=rO [("part",lo),("lost_on",gi),("ground",fr)]
abbrev vT:Scope:=rO [("deed",lo),("done",fr)]
def oJ:aD (aj (top 17)) mG vV ["part"] [none]:=lcs
def oI:aD (aj (top 17)) mG vU ["part","ground"] [none,some 0]:=lcs
def oH:aD (aj (top 17)) mG vT ["deed","done"] [none,some 3]:=lcs
abbrev Hj:List Str:=["prices","count"]
def Lh:ay Hj ["prices","count"] (aj (top 18)):=j8
abbrev yC:Scope:=rO [("price",lo),("many",lo)]
def lE:aD (aj (top 18)) Hj yC ["price","many"] [none,none]:=lcs
abbrev mW:List Str:=["houses","dates"]
def tI:ay mW ["houses","dates"] (aj (top 20)):=j8
abbrev oB:Scope:=rO [("house",lo),("date",lo),("isinstance",gi),("str",gi)]
def fM:aD (aj (top 20)) mW oB ["house","date"] [none,none]:=lcs
def df:ay ["great","dates","begins","ahead","pairs","number","begin","house","date"] ["great","dates","begins"] (aj (top 21)):=j8
abbrev qM:List Str:=["houses","dates","begins","numbers","pair","house","layer","goes_on","below","under","beside"]
def eF:ay qM ["houses","dates","begins","numbers","pair"] (aj (top 22)):=j8
abbrev vR:Scope:=rO [("each",lo),("layer",fr),("numbers",fr)]
abbrev vQ:Scope:=rO [("far",lo),("house",fr),("layer",fr),("numbers",fr)]
def oE:aD (aj (top 22)) qM vR ["each","layer","numbers"] [none,some 6,some 3]:=lcs
def oD:aD (aj (top 22)) qM vQ ["far","house","layer","numbers"] [none,some 5,some 6,some 3]:=lcs
abbrev zZ:List Str:=["great","dates","houses","begins","pairs","numbers"]
def lh:ay zZ ["great","dates"] (aj (top 23)):=j8
abbrev Gr:Scope:=rO [("number",lo),("pair",lo)]
abbrev Gq:Scope:=rO [("pair",lo),("stay_of",gi),("begins",fr),("dates",fr),("houses",fr),("numbers",fr)]
def ny:aD (aj (top 23)) zZ Gr ["number","pair"] [none,none]:=lcs
def um:aD (aj (top 23)) zZ Gq ["pair","begins","dates","houses","numbers"] [none,some 3,some 1,some 2,some 5]:=lcs
def iA:ay ["_law_script","_law_k","_law_cell","_law_digits"] ["_law_script","_law_k"] (aj (top 25)):=j8
def jQ:ay ["_law_pot_here","_law_many","_law_digit","_law_mixed"] ["_law_pot_here","_law_many"] (aj (top 26)):=j8
def yc:ay ["_law_pot_here","_law_some"] ["_law_pot_here","_law_some"] (aj (top 27)):=j8
def bw:ay ["_law_pot_here","_law_many","_law_letters","_law_first","_law_turn","_law_stem","_law_ends","_law_found","_law_k","_law_letter"] ["_law_pot_here","_law_many"] (aj (top 28)):=j8
def dw:ay ["_law_pot_here","_law_words_here","_law_some","_law_way_here","_law_at","_law_pair"] ["_law_pot_here","_law_words_here"] (aj (top 29)):=j8
def vO:ay ["_law_pot_here"] ["_law_pot_here"] (aj (top 30)):=j8
def f6:ay ["_law_tree_here","_law_rows","_law_many","_law_row"] ["_law_tree_here"] (aj (top 31)):=j8
abbrev kI:List Str:=["_law_pot_here","_law_rows","_law_dates_here","_law_house","_law_left","_law_date","_law_ready"]
def cy:ay kI ["_law_pot_here","_law_rows"] (aj (top 32)):=j8
abbrev qf:Scope:=rO [("_law_house",lo),("_law_row",lo),("isinstance",gi),("str",gi)]
abbrev qe:Scope:=rO [("_law_house",lo),("_law_left",fr),("_law_rows",fr)]
def gA:aD (aj (top 32)) kI qf ["_law_house","_law_row"] [none,none]:=lcs
def kO:aD (aj (top 32)) kI qe ["_law_house","_law_left","_law_rows"] [none,some 4,some 1]:=lcs
abbrev kH:List Str:=["_law_pot_here","_law_great_here","_law_words_here","_law_many"]
def iR:ay kH ["_law_pot_here","_law_great_here"] (aj (top 33)):=j8
abbrev qd:Scope:=rO [("_law_row",lo),("isinstance",gi),("str",gi)]
abbrev qc:Scope:=rO [("_law_k",lo),("_law_pick",gi),("_law_pot_here",fr),("_law_words_here",fr)]
def kN:aD (aj (top 33)) kH qd ["_law_row"] [none]:=lcs
def kM:aD (aj (top 33)) kH qc ["_law_k","_law_pot_here","_law_words_here"] [none,some 0,some 2]:=lcs
def nh:ay ["_law_pot_here","_law_great_here"] ["_law_pot_here","_law_great_here"] (aj (top 34)):=j8
def cx:ay ["_law_stays","_law_stay","_law_name","_law_level","_law_under","_law_beside","_law_found","_law_other"] ["_law_stays","_law_stay"] (aj (top 35)):=j8
abbrev rj:List Str:=["_law_stays","_law_rows","_law_can_here","_law_node","_law_stay","_law_row"]
def oj:ay rj ["_law_stays","_law_rows","_law_can_here","_law_node","_law_stay"] (aj (top 36)):=j8
abbrev rN:Scope:=rO [("_law_one",lo),("_law_can_here",fr),("_law_row",fr)]
def lH:aD (aj (top 36)) rj rN ["_law_one","_law_can_here","_law_row"] [none,some 2,some 5]:=lcs
abbrev vj:List Str:=["_law_stays","_law_rows","_law_found","_law_node","_law_stay","_law_on"]
def gb:ay vj ["_law_stays","_law_rows"] (aj (top 37)):=j8
abbrev ui:Scope:=rO [("_law_low",lo),("_law_found",fr),("_law_node",fr)]
def mR:aD (aj (top 37)) vj ui ["_law_low","_law_found","_law_node"] [none,some 2,some 3]:=lcs
abbrev mf:List Str:=["_law_pot_here","_law_stays","_law_rows","_law_can_here","_law_node","_law_stay","_law_path_here","_law_turn","_law_on","_law_ends"]
def eY:ay mf ["_law_pot_here","_law_stays","_law_rows","_law_can_here","_law_node","_law_stay"] (aj (top 38)):=j8
abbrev rM:Scope:=rO [("_law_low",lo),("_law_can_here",fr),("_law_node",fr)]
abbrev rL:Scope:=rO [("_law_low",lo),("_law_can_here",fr),("_law_node",fr)]
def lG:aD (aj (top 38)) mf rM ["_law_low","_law_can_here","_law_node"] [none,some 3,some 4]:=lcs
def lF:aD (aj (top 38)) mf rL ["_law_low","_law_can_here","_law_node"] [none,some 3,some 4]:=lcs
def eQ:ay ["_law_pot_here","_law_stays","_law_rows","_law_can_here","_law_node","_law_path_here","_law_deed","_law_one","_law_other","_law_row","_law_first"] ["_law_pot_here","_law_stays","_law_rows","_law_can_here","_law_node","_law_path_here"] (aj (top 39)):=j8
abbrev jF:List Str:=["_law_pot_here","_law_stays","_law_small_here","_law_rows","_law_can_here","_law_last","_law_some"]
def cf:ay jF ["_law_pot_here","_law_stays","_law_small_here"] (aj (top 40)):=j8
abbrev ly:Scope:=rO [("_law_stay",lo),("_law_done",gi),("_law_can_here",fr),("_law_last",fr),("_law_rows",fr),("_law_stays",fr)]
def gH:aD (aj (top 40)) jF ly ["_law_stay","_law_can_here","_law_last","_law_rows","_law_stays"] [none,some 4,some 5,some 3,some 1]:=lcs
def fZ:ay ["_law_pot_here","_law_great_here","_law_stays","_law_small_here"] ["_law_pot_here"] (aj (top 41)):=j8
def vN:ay ["_law_way_here"] ["_law_way_here"] (aj (top 42)):=j8
def cD:ay ["_law_stays","_law_way_here","_law_found","_law_lost","_law_one","_law_stay"] ["_law_stays","_law_way_here"] (aj (top 43)):=j8
abbrev rh:List Str:=["_law_found","_law_due"]
def yb:ay rh ["_law_found","_law_due"] (aj (top 44)):=j8
abbrev rK:Scope:=rO [("_law_one",lo),("_law_other",lo),("_law_same",gi)]
def ig:aD (aj (top 44)) rh rK ["_law_one","_law_other"] [none,none]:=lcs
def hU:ay ["_law_pot_here","_law_some","_law_k"] ["_law_pot_here"] (aj (top 45)):=j8
abbrev UL:List Str:=["_law_script","_law_k","_law_pot_here","_law_great_here","_law_stays","_law_small_here","_law_way_here","_law_turn","_law_due","_law_prices_here","_law_cost","_law_at","_law_alone"]
def eG:ay UL ["_law_script"] (aj (top 46)):=j8
abbrev LG:Scope:=rO [("_law_one",lo),("int",gi),("_law_at",fr)]
def Gw:aD (aj (top 46)) UL LG ["_law_one","_law_at"] [none,some 11]:=lcs
structure NB (v:EV):Prop where
 isinstance:v.mg "isinstance"=none
 str:v.mg "str"=none
 list:v.mg "list"=none
 reversed:v.mg "reversed"=none
 len:v.mg "len"=none
 tuple:v.mg "tuple"=none
 enumerate:v.mg "enumerate"=none
 range:v.mg "range"=none
 sum:v.mg "sum"=none
 zip:v.mg "zip"=none
 sorted:v.mg "sorted"=none
 dict:v.mg "dict"=none
 abs:v.mg "abs"=none
 int:v.mg "int"=none
 any:v.mg "any"=none
 all:v.mg "all"=none
 bool:v.mg "bool"=none
 min:v.mg "min"=none
 max:v.mg "max"=none
variable {v:EV}
abbrev nR:DF:=⟨"parts_of",top 1,["tree"],1,fun K=>jh K [.v] (dU 1 fF)⟩
def Iq (D:DI v nR) (q:NB v):D.O:=
 QH (n:=1) (m:=fF) D iz fun l hl=>match l,hl with | [eV],_=>fun _ _ _ _ _ _ hr=>show SF _ _ _ [some (.val eV),none,none,none] _ (fF eV) _ from
 (sl 1 iz.nd (a6 (n:=0) ao rfl) fun eO=>
 (sl 2 iz.nd (a6 (n:=1) (af (ae 0) ao) rfl) fun fB=>
 (SF.FG (hd:=(fun (s4:List PV×List PV)=>([some (.val eV),some (.ol none s4.1),some (.ol none s4.2),none]:aV))) (s0:=(eO,fB)) AD (.keep (.keep (.keep (.keep .nil)))) (fun s4=>(T3 rfl (bZ 2) (fun _=>rfl))) (fun s4=>
 (SF.yk 2 3 rfl (by decide) rfl rfl (.inl rfl) iz.nd rfl (Ck rfl) fun t7=>
 (SF.append 1 rfl rfl rfl (.inl rfl) (ae 3) fun fX=>
 (SF.ifT (qP (de rfl (gn rfl .str rfl q.isinstance (ae 3) rfl q.str boot_str) (fun _=>rfl)))
 (SF.extend 2 rfl rfl rfl (.inl rfl) (au (ae 3)) fun hJ=>
 (SF.gc rfl (.keep (.keep (.keep (.drop .nil))))))
 (SF.gc rfl (.keep (.keep (.keep (.drop .nil))))))))) fun s4=>
 (SF.mN (Ui rfl rfl rfl q.list rfl q.reversed (yf 1)) fun _=>rfl))))
abbrev pd:DF:=⟨"nodes",top 2,["tree"],2,fun K=>kU K [.v] (dU 1 iD)⟩
def Sj (D:DI v pd) (q:NB v) (IK:nR.C v):D.O:=
 sA (n:=1) (m:=iD) D jn fun l hl=>match l,hl with | [eV],_=>fun _ _ _ _ _ _ hr=>show SF _ _ _ [some (.val eV),none,none,none,none,none] _ (iD eV) _ from
 (sl 1 jn.nd (a6 (n:=0) ao rfl) fun jK=>
 (sl 2 jn.nd (a6 (n:=0) ao rfl) fun yE=>
 (SF.rV (hd:=(fun (s4:List PV×List PV)=>([some (.val eV),some (.ol none s4.1),some (.ol none s4.2),none,none,none]:aV))) (s0:=(jK,yE)) AD rfl (cS rfl (GK (lC IK hr (af (ae 0) ao)))) (.keep (.keep (.keep (.keep (.keep (.keep .nil)))))) (eR 3 jn.nd) (fun s4 yo=>
 (SF.ifS (out1:=fun (Va:List PV×List PV)=>.nx ([some (.val eV),some (.ol none Va.1),some (.ol none Va.2),some (.val yo),none,none]:aV)) (de rfl (gn rfl .str rfl q.isinstance (ae 3) rfl q.str boot_str) (fun _=>rfl))
 (SF.append 1 rfl rfl rfl (.inl rfl) (ae 3) fun Jx=>
 (SF.nil rfl (.keep (.keep (.keep (.keep (.keep (.keep .nil))))))))
 (SF.yk 2 4 rfl (by decide) rfl rfl (.inl rfl) jn.nd rfl (Ck rfl) fun t20=>
 (SF.yk 2 5 rfl (by decide) rfl rfl (.inl rfl) jn.nd rfl (Ck rfl) fun t22=>
 (SF.append 1 rfl rfl rfl (.inl rfl) (a7 (n:=2) (af (ae 5) (af (ae 4) ao)) rfl) fun Jw=>
 (SF.nil rfl (.keep (.keep (.keep (.keep (.drop (.drop .nil))))))))))
 fun Va=>(SF.append 2 rfl rfl rfl (.inl rfl) (o5 (lT rfl rfl q.len (bZ 1)) ak) fun Gs=>
 (SF.gc rfl (.keep (.keep (.keep (.drop (.keep (.keep .nil)))))))))) fun s4=>
 (SF.eI (eg rfl rfl q.tuple (bZ 1)) fun _=>rfl))))
abbrev ma:DF:=⟨"halves",top 3,["node"],1,fun K=>kU K [.v] (dU 1 dh)⟩
def OC (D:DI v ma) (q:NB v):D.O:=
 sA (n:=1) (m:=dh) D Li fun l hl=>match l,hl with | [cF],_=>fun _ _ _ _ _ _ hr=>show SF _ _ _ [some (.val cF)] _ (dh cF) _ from
 (SF.eI (PB (de rfl (gn rfl .str rfl q.isinstance (ae 0) rfl q.str boot_str) (fun _=>rfl)) (a7 (n:=0) ao rfl) (ae 0)) fun _=>rfl)
abbrev kq:DF:=⟨"ahead_of",top 4,["tree"],3,fun K=>kU K [.v] (dU 1 eL)⟩
def Iu (D:DI v kq) (q:NB v) (oX:pd.C v) (lL:ma.C v):D.O:=
 sA (n:=1) (m:=eL) D eP fun l hl=>match l,hl with | [eV],_=>fun _ _ _ _ _ _ hr=>show SF _ _ _ [some (.val eV),none,none,none,none,none] _ (eL eV) _ from
 (sv 1 eP.nd (eC oX hr (af (ae 0) ao)) fun jK=>
 (SF.JO (i:=3) rfl eP.nd rfl rfl mQ (cS rfl (cB (ae 1))) (fun _ _ _ _ _=>(eR 0 mQ.nd)) (fun _ _ _ _ _ p5=>Ky) rfl fun zK=>
 (SF.WO (hd:=(fun (s7:List PV)=>([some (.val eV),some (.val jK),none,some (.ol none s7),none,none]:aV))) (s0:=zK) AD rfl (oQ rfl rfl q.enumerate (cB (ae 1))) (.keep (.keep (.keep (.keep (.keep (.keep .nil)))))) (fun _=>(Ux rfl (hZ rfl (aN (eR 4 eP.nd) (aN (eR 2 eP.nd) e6))))) (fun s7 t9=>
 (SF.rV (hd:=(fun (rF:List PV)=>([some (.val eV),some (.val jK),some (.val t9.2),some (.ol none rF),some (.val t9.1),none]:aV))) (s0:=s7) AD rfl (cS rfl (cB (eC lL hr (af (ae 2) ao)))) (.keep (.keep (.keep (.keep (.keep (.keep .nil)))))) (eR 5 eP.nd) (fun rF Ko=>
 (SF.Nm 3 rfl rfl (.inl rfl) (ae 4) (ae 5) fun Hb=>
 (SF.gc rfl (.keep (.keep (.keep (.keep (.keep (.drop .nil))))))))) fun rF=>
 (SF.gc rfl (.keep (.keep (.drop (.keep (.drop (.keep .nil))))))))) fun s7=>
 (SF.eI (eg rfl rfl q.tuple (bZ 3)) fun _=>rfl))))
abbrev nP:DF:=⟨"under_at",top 7,["stays","stay"],1,fun K=>kU K [.v,.v] (dU 2 eK)⟩
def Io (D:DI v nP) {oe:Tok} (zE:v.mg "UNDER"=some (.int 2 oe)):D.O:=
 sA (n:=2) (m:=eK) D FU fun l hl=>match l,hl with | [aw,bF],_=>fun _ _ _ _ _ _ hr=>show SF _ _ _ [some (.val aw),some (.val bF)] _ (eK aw bF) _ from
 (SF.eI (aE rfl (au (aE rfl (au (ae 0)) (ae 1) (fun _ _=>rfl))) (W7 zE rfl) (fun _ _=>rfl)) fun _=>rfl)
abbrev mE:DF:=⟨"name_of",top 8,["houses","house"],1,fun K=>kU K [.v,.v] (dU 2 dB)⟩
def LP (D:DI v mE) (q:NB v):D.O:=
 sA (n:=2) (m:=dB) D HJ fun l hl=>match l,hl with | [cC,gB],_=>fun _ _ _ _ _ _ hr=>show SF _ _ _ [some (.val cC),some (.val gB)] _ (dB cC gB) _ from
 (SF.eI (PB (de rfl (gn rfl .str rfl q.isinstance (aE rfl (au (ae 0)) (ae 1) (fun _ _=>rfl)) rfl q.str boot_str) (fun _=>rfl)) (aE rfl (au (ae 0)) (ae 1) (fun _ _=>rfl)) (ae 1)) fun _=>rfl)
abbrev nS:DF:=⟨"lines_up",top 9,["great"],4,fun K=>jh K [.v] (dU 1 fH)⟩
def Ir (D:DI v nS) (q:NB v) (nB:kq.C v):D.O:=
 QH (n:=1) (m:=fH) D f9 fun l hl=>match l,hl with | [bO],_=>fun _ _ _ _ _ _ hr=>show SF _ _ _ [some (.val bO),none,none,none,none] _ (fH bO) _ from
 (sv 1 f9.nd (eC nB hr (af (ae 0) ao)) fun eD=>
 (SF.JO (i:=3) rfl f9.nd rfl rfl mP (cS rfl (cB (ae 1))) (fun _ _ _ _ _=>(eR 0 mP.nd)) (fun _ _ _ _ _ p5=>(a7 (n:=0) ao rfl)) rfl fun mr=>
 (SF.rV (hd:=(fun (s9:List PV)=>([some (.val bO),some (.val eD),none,some (.ol none s9),none]:aV))) (s0:=mr) AD rfl (Sq rfl q.range (o5 (fi rfl rfl q.len (ae 1)) ak) (o6 ak) (o6 ak)) (.keep (.keep (.keep (.keep (.keep .nil))))) (eR 2 f9.nd) (fun s9 lJ=>
 (sv 4 f9.nd (PB (eW Iy (aE rfl (au (ae 1)) (ae 2) (fun _ _=>rfl)) Ky) (a7 (n:=0) ao rfl) (aE rfl (bZ 3) (aE rfl (au (ae 1)) (ae 2) (fun _ _=>rfl)) (fun _ _=>rfl))) fun Hc=>
 (SF.Nm 3 rfl rfl (.inl rfl) (bV rfl (a7 (n:=1) (af (ae 2) ao) rfl) (ae 4)) (ae 2) fun Gv=>
 (SF.gc rfl (.keep (.keep (.drop (.keep (.drop .nil))))))))) fun s9=>
 (SF.Nr 3 rfl rfl))))
abbrev ko:DF:=⟨"apart_from",top 10,["lines","house"],1,fun K=>kU K [.v,.v] (dU 2 dC)⟩
def yJ (D:DI v ko) (q:NB v):D.O:=
 sA (n:=2) (m:=dC) D vM fun l hl=>match l,hl with | [qh,gB],_=>fun _ _ _ _ _ _ hr=>show SF _ _ _ [some (.val qh),some (.val gB)] _ (dC qh gB) _ from
 (SF.eI (eg rfl rfl q.tuple (fx (w6 rfl kL (dG rfl q.range (fi rfl rfl q.len (ae 0))) (fun _ _ _ _ _=>(eR 0 kL.nd)) (fun _ _ _ _ _ p3=>(zW.t (m9 (xT rfl (aO hr) (ae 0) (au (aE rfl (au (ae 2)) (ae 1) (fun _ _=>rfl)))) (jJ (xT rfl (aO hr) (ae 1) (au (aE rfl (au (ae 2)) (ae 0) (fun _ _=>rfl)))))))) (fun _ _ _ _ _ p3=>(ae 0)) rfl))) fun _=>rfl)
abbrev uW:DF:=⟨"ground",top 11,["great"],5,fun K=>kU K [.v] (dU 1 jv)⟩
def OD (D:DI v uW) (q:NB v) (oX:pd.C v) (IL:nS.C v) (qu:mE.C v) (lL:ma.C v) (yY:ko.C v):D.O:=
 sA (n:=1) (m:=jv) D pU fun l hl=>match l,hl with | [bO],_=>fun _ _ _ _ _ _ hr=>show SF _ _ _ [some (.val bO),none,none] _ (jv bO) _ from
 (sv 1 pU.nd (eC oX hr (af (ae 0) ao)) fun gj=>
 (sl 2 pU.nd (lC IL hr (af (ae 0) ao)) fun mr=>
 SF.c7 2 rfl (SF.eI (eg rfl rfl q.tuple (fx (jZ rfl qS (dG rfl q.range (fi rfl rfl q.len (ae 1))) (fun _ _ _ _ _=>(eR 0 qS.nd)) (fun _ _ _ _ _ p7=>(a7 (n:=4) (af (eC qu hr (af (ae 1) (af (ae 0) ao))) (af ak (af (eC lL hr (af (aE rfl (au (ae 1)) (ae 0) (fun _ _=>rfl)) ao)) (af (eC yY hr (af (ae 2) (af (ae 0) ao))) ao)))) rfl)) rfl))) fun _=>rfl)))
abbrev i9:DF:=⟨"ways_within",top 14,["way"],1,fun K=>jh K [.v] (dU 1 cX)⟩
def vY (D:DI v i9) (q:NB v):D.O:=
 QH (n:=1) (m:=cX) D eX fun l hl=>match l,hl with | [vG],_=>fun _ _ _ _ _ _ hr=>show SF _ _ _ [some (.val vG),none,none,none] _ (cX vG) _ from
 (sl 1 eX.nd (a6 (n:=0) ao rfl) fun eO=>
 (sl 2 eX.nd (a6 (n:=1) (af (ae 0) ao) rfl) fun fB=>
 (SF.FG (hd:=(fun (s4:List PV×List PV)=>([some (.val vG),some (.ol none s4.1),some (.ol none s4.2),none]:aV))) (s0:=(eO,fB)) AD (.keep (.keep (.keep (.keep .nil)))) (fun s4=>(T3 rfl (bZ 2) (fun _=>rfl))) (fun s4=>
 (SF.yk 2 3 rfl (by decide) rfl rfl (.inl rfl) eX.nd rfl (Ck rfl) fun t7=>
 (SF.append 1 rfl rfl rfl (.inl rfl) (ae 3) fun fX=>
 (SF.extend 2 rfl rfl rfl (.inl rfl) (au (Kw rfl (ae 3) (yw ak) yx)) fun hJ=>
 (SF.gc rfl (.keep (.keep (.keep (.drop .nil))))))))) fun s4=>
 (SF.mN (Ui rfl rfl rfl q.list rfl q.reversed (yf 1)) fun _=>rfl))))
abbrev qJ:DF:=⟨"lost_on",top 16,["ground","path"],2,fun K=>kU K [.v,.v] (dU 2 gW)⟩
def LQ (D:DI v qJ) (q:NB v) (II:nP.C v):D.O:=
 sA (n:=2) (m:=gW) D HK fun l hl=>match l,hl with | [gN,JX],_=>fun _ _ _ _ _ _ hr=>show SF _ _ _ [some (.val gN),some (.val JX)] _ (gW gN JX) _ from
 (SF.eI (lT rfl rfl q.len (fx (w6 rfl oG (cS rfl (cB (Kw rfl (ae 1) yx (yw (o6 ak))))) (fun _ _ _ _ _=>(eR 0 oG.nd)) (fun _ _ _ _ _ p5=>(eW (fy rfl (aO hr)) (fi rfl rfl q.len (eC II hr (af (ae 1) (af (ae 0) ao)))) ak)) (fun _ _ _ _ _ p5=>(ae 0)) rfl))) fun _=>rfl)
abbrev qK:DF:=⟨"counted",top 17,["ground","way"],3,fun K=>kU K [.v,.v] (dU 2 gX)⟩
def LR (D:DI v qK) (q:NB v) {iK:Addr} (zF:v.mg "DEEDS"=some (.ref iK)) (yQ:Qy v.K iK ["split","doubled","over"]) (wo:i9.C v) (Ma:qJ.C v):D.O:=
 sA (n:=2) (m:=gX) D jP fun l hl=>match l,hl with | [gN,vG],_=>fun _ _ _ _ _ _ hr=>show SF _ _ _ [some (.val gN),some (.val vG),none,none,none] _ (gX gN vG) _ from
 (sl 2 jP.nd (lC wo hr (af (ae 1) ao)) fun yn=>
 SF.c7 2 rfl (sl 3 jP.nd (jZ rfl oJ (cS rfl (cB (ae 2))) (fun _ _ _ _ _=>(eR 0 oJ.nd)) (fun _ _ _ _ _ p5=>(aE rfl (au (ae 0)) ak (fun _ _=>rfl))) rfl) fun PU=>
 SF.c7 3 rfl (sv 4 jP.nd (Px rfl rfl rfl q.sum (cO (jZ rfl oI (cS rfl (cB (ae 2))) (fun _ _ _ _ _=>(eR 0 oI.nd)) (fun _ _ _ _ _ p8=>(eC Ma hr (af (ae 1) (af (aE rfl (au (ae 0)) ak (fun _ _=>rfl)) ao)))) rfl))) fun Oi=>
 (SF.eI (eg rfl rfl q.tuple (fx (Gx rfl (cO (jZ rfl oH (ZS rfl zF yQ) (fun _ _ _ _ _=>(eR 0 oH.nd)) (fun _ _ _ _ _ p12=>(S6 rfl (aO hr) (NG (ae 1)) (ae 0))) rfl)) (cO (a6 (n:=1) (af (ae 4) ao) rfl))))) fun _=>rfl))))
abbrev uV:DF:=⟨"priced",top 18,["prices","count"],1,fun K=>kU K [.v,.v] (dU 2 dW)⟩
def OB (D:DI v uV) (q:NB v):D.O:=
 sA (n:=2) (m:=dW) D Lh fun l hl=>match l,hl with | [sh,zB],_=>fun _ _ _ _ _ _ hr=>show SF _ _ _ [some (.val sh),some (.val zB)] _ (dW sh zB) _ from
 (SF.eI (Px rfl rfl rfl q.sum (cO (Im rfl lE (Iz rfl rfl q.zip (cB (ae 0)) (cB (ae 1))) (fun _ _ _ _ _=>(Ux rfl (hZ rfl (aN (eR 0 lE.nd) (aN (eR 1 lE.nd) e6))))) (fun _ _ _ _ _ t5=>(jA (ae 0) (ae 1))) (Om rfl rfl (by decide)) (by decide)))) fun _=>rfl)
abbrev jb:DF:=⟨"split_dates",top 20,["houses","dates"],1,fun K=>jh K [.v,.v] (dU 2 cY)⟩
def vZ (D:DI v jb) (q:NB v):D.O:=
 QH (n:=2) (m:=cY) D tI fun l hl=>match l,hl with | [cC,bP],_=>fun _ _ _ _ _ _ hr=>show SF _ _ _ [some (.val cC),some (.val bP)] _ (cY cC bP) _ from
 (SF.mN (Ul rfl fM (Iz rfl rfl q.zip (cB (ae 0)) (cB (ae 1))) (fun _ _ _ _ _=>(Ux rfl (hZ rfl (aN (eR 0 fM.nd) (aN (eR 1 fM.nd) e6))))) (fun _ _ _ _ _ t5=>(qP (de rfl (gn rfl .str rfl q.isinstance (ae 0) rfl q.str boot_str) (fun _=>rfl)))) (fun _ _ _ _ _ t5=>(ae 1)) (Om rfl rfl (by decide)) (by decide)) fun _=>rfl)
abbrev nQ:DF:=⟨"standing",top 21,["great","dates","begins"],4,fun K=>jh K [.v,.v,.v] (dU 3 fD)⟩
def Ip (D:DI v nQ) (q:NB v) (nB:kq.C v):D.O:=
 QH (n:=3) (m:=fD) D df fun l hl=>match l,hl with | [bO,bP,fo],_=>fun _ _ _ _ _ _ hr=>show SF _ _ _ [some (.val bO),some (.val bP),some (.val fo),none,none,none,none,none,none] _ (fD bO bP fo) _ from
 (sv 3 df.nd (eC nB hr (af (ae 0) ao)) fun eD=>
 (sl 4 df.nd (a6 (n:=0) ao rfl) fun yq=>
 (SF.WO (hd:=(fun (s5:List PV)=>([some (.val bO),some (.val bP),some (.val fo),some (.val eD),some (.ol none s5),none,none,none,none]:aV))) (s0:=yq) AD rfl (oQ rfl rfl q.enumerate (cB (ae 2))) (.keep (.keep (.keep (.keep (.keep (.keep (.keep (.keep (.keep .nil))))))))) (fun _=>(Ux rfl (hZ rfl (aN (eR 5 df.nd) (aN (eR 6 df.nd) e6))))) (fun s5 t7=>
 (SF.WO (hd:=(fun (s9:List PV)=>([some (.val bO),some (.val bP),some (.val fo),some (.val eD),some (.ol none s9),some (.val t7.1),some (.val t7.2),none,none]:aV))) (s0:=s5) AD rfl (oQ rfl rfl q.enumerate (cB (ae 1))) (.keep (.keep (.keep (.keep (.keep (.keep (.keep (.keep (.keep .nil))))))))) (fun _=>(Ux rfl (hZ rfl (aN (eR 7 df.nd) (aN (eR 8 df.nd) e6))))) (fun s9 YS=>
 (SF.ifT (zW.t (m9 (eW ZP (ae 8) (ae 6)) (jJ (zW.t (Ju (eW Iy (aE rfl (au (ae 3)) (ae 7) (fun _ _=>rfl)) Ky) (xM (eW OH (ae 6) (aE rfl (au (ae 1)) (aE rfl (au (ae 3)) (ae 7) (fun _ _=>rfl)) (fun _ _=>rfl)))))))))
 (SF.append 4 rfl rfl rfl (.inl rfl) (a7 (n:=2) (af (ae 7) (af (ae 5) ao)) rfl) fun Gb=>
 (SF.gc rfl (.keep (.keep (.keep (.keep (.keep (.keep (.keep (.drop (.drop .nil)))))))))))
 (SF.gc rfl (.keep (.keep (.keep (.keep (.keep (.keep (.keep (.drop (.drop .nil)))))))))))) fun s9=>
 (SF.gc rfl (.keep (.keep (.keep (.keep (.keep (.drop (.drop (.keep (.keep .nil)))))))))))) fun s5=>
 (SF.Nr 4 rfl rfl))))
abbrev qI:DF:=⟨"stay_of",top 22,["houses","dates","begins","numbers","pair"],2,fun K=>kU K [.v,.v,.v,.v,.v] (dU 5 gV)⟩
def LO (D:DI v qI) (q:NB v) (lL:ma.C v) (qu:mE.C v):D.O:=
 sA (n:=5) (m:=gV) D eF fun l hl=>match l,hl with | [cC,bP,fo,jr,Gd],_=>fun _ _ _ _ _ _ hr=>show SF _ _ _ [some (.val cC),some (.val bP),some (.val fo),some (.val jr),some (.val Gd),none,none,none,none,none,none] _ (gV cC bP fo jr Gd) _ from
 (sv 5 eF.nd (aE rfl (au (ae 4)) ak (fun _ _=>rfl)) fun mx=>
 (sv 6 eF.nd (aE rfl (au (ae 4)) ak (fun _ _=>rfl)) fun oK=>
 (sv 7 eF.nd (kR OH (aE rfl (au (ae 1)) (ae 5) (fun _ _=>rfl)) (aE rfl (au (ae 2)) (ae 6) (fun _ _=>rfl))) fun xg=>
 (sv 8 eF.nd (PB (de rfl (ae 7) (fun _=>rfl)) (a7 (n:=1) (af (ae 5) ao) rfl) (eC lL hr (af (aE rfl (au (ae 0)) (ae 5) (fun _ _=>rfl)) ao))) fun below_4=>
 (sv 9 eF.nd (eg rfl rfl q.tuple (fx (jZ rfl oE (cS rfl (cB (ae 8))) (fun _ _ _ _ _=>(eR 0 oE.nd)) (fun _ _ _ _ _ p9=>(PJ (aO hr) (ae 2) (a7 (n:=2) (af (ae 0) (af (o5 (ae 1) ak) ao)) rfl) (fun _ _=>rfl))) rfl))) fun Jt=>
 (sv 10 eF.nd (eg rfl rfl q.tuple (fx (w6 rfl oD (Sr (ae 3)) (fun _ _ _ _ _=>(eR 0 oD.nd)) (fun _ _ _ _ _ Zr=>(zW.t (m9 (eW (fy rfl (aO hr)) (aE rfl (au (ae 0)) ak (fun _ _=>rfl)) (ae 2)) (jJ (eW (OG rfl (aO hr)) (aE rfl (au (ae 0)) ak (fun _ _=>rfl)) (ae 1)))))) (fun _ _ _ _ _ Zr=>(PJ (aO hr) (ae 3) (ae 0) (fun _ _=>rfl))) rfl))) fun xv=>
 (SF.eI (a7 (n:=4) (af (eC qu hr (af (ae 0) (af (ae 5) ao))) (af (ae 6) (af (ae 9) (af (ae 10) ao)))) rfl) fun _=>rfl)))))))
abbrev zy:DF:=⟨"dated",top 23,["great","dates"],5,fun K=>kU K [.v,.v] (dU 2 jX)⟩
def Sk (D:DI v zy) (q:NB v) (oX:pd.C v) (wq:jb.C v) (IJ:nQ.C v) (L9:qI.C v):D.O:=
 sA (n:=2) (m:=jX) D lh fun l hl=>match l,hl with | [bO,bP],_=>fun _ _ _ _ _ _ hr=>show SF _ _ _ [some (.val bO),some (.val bP),none,none,none,none] _ (jX bO bP) _ from
 (sv 2 lh.nd (eC oX hr (af (ae 0) ao)) fun gj=>
 (sl 3 lh.nd (Gx rfl (cO (a6 (n:=1) (af ak ao) rfl)) (cO (Sb rfl rfl q.sorted (cO (lC wq hr (af (ae 2) (af (ae 1) ao))))))) fun u7=>
 SF.c7 3 rfl (sl 4 lh.nd (lC IJ hr (af (ae 0) (af (ae 1) (af (ae 3) ao)))) fun yp=>
 SF.c7 4 rfl (sv 5 lh.nd (aed (S9 rfl rfl (aO hr) rfl q.dict (cO (Im rfl ny (oQ rfl rfl q.enumerate (cB (ae 4))) (fun _ _ _ _ _=>(Ux rfl (hZ rfl (aN (eR 0 ny.nd) (aN (eR 1 ny.nd) e6))))) (fun _ _ _ _ _ t17=>(a7 (n:=2) (af (ae 1) (af (ae 0) ao)) rfl)) (Om rfl rfl (by decide)) (by decide))))) fun tV=>
 (SF.eI (eg rfl rfl q.tuple (fx (jZ rfl um (cS rfl (cB (ae 4))) (fun _ _ _ _ _=>(eR 0 um.nd)) (fun _ _ _ _ _ p21=>(eC L9 hr (af (ae 3) (af (ae 2) (af (ae 1) (af (ae 4) (af (ae 0) ao))))))) rfl))) fun _=>rfl)))))
abbrev nU:DF:=⟨"_law_pot",top 25,["_law_script","_law_k"],1,fun K=>jh K [.v,.v] (dU 2 fJ)⟩
def Iv (D:DI v nU) (q:NB v):D.O:=
 QH (n:=2) (m:=fJ) D iA fun l hl=>match l,hl with | [cM,k_],_=>fun _ _ _ _ _ _ hr=>show SF _ _ _ [some (.val cM),some (.val k_),none,none] _ (fJ cM k_) _ from
 (sv 2 iA.nd ak fun Qe=>
 (SF.ifS (out1:=fun (s3:PV)=>.nx ([some (.val cM),some (.val k_),some (.val s3),none]:aV)) (eW OH (ae 1) (fi rfl rfl q.len (ae 0)))
 (sv 2 iA.nd (aaO rfl q.abs (aE rfl (au (ae 0)) (ae 1) (fun _ _=>rfl))) fun Qd=>
 (SF.nil rfl (.keep (.keep (.keep (.keep .nil))))))
 (SF.nil rfl (.keep (.keep (.keep (.keep .nil)))))
 fun s3=>(sv 3 iA.nd (jA (o7 (ae 2) (jA (Kx ak ak) (Kx ak ak))) (mD rfl q.int (kR ZQ (ae 2) (Kx ak ak)))) fun o8=>
 (SF.mN (a6 (n:=3) (af (ae 3) (af (o7 (bV rfl (bV rfl (ae 2) (jA ak (ae 1))) ak) ak) (af ak ao))) rfl) fun _=>rfl))))
abbrev bC:DF:=⟨"_law_take",top 26,["_law_pot_here","_law_many"],1,fun K=>kU K [.p (cV cP),.v] (dU 1 aW)⟩
def GB (D:DI v bC):D.O:=
 Vu (n:=1) (fnO (n:=1) (m:=gh) D.fn jQ rfl fun ad dA l hl=>match l,hl with | [kK],_=>fun _ _ _ _ _ _ hr=>show SF _ _ _ [some (.ol (some ad) dA),some (.val kK),none,none] _ (gh dA kK) _ from
 (SF.MK (eW Uo (aE rfl (bZ 0) ak (fun _ _=>rfl)) ak)
 (sv 2 jQ.nd (o7 (aE rfl (bZ 0) ak (fun _ _=>rfl)) (ae 1)) fun KD=>
 (SF.Nm 0 rfl rfl (.inl rfl) (PF (aE rfl (bZ 0) ak (fun _ _=>rfl)) (ae 1)) ak fun nj=>
 (SF.Y4 0 (k:=fun x5=>(x5,nj)) rfl (ae 2) fun _=>rfl)))
 (SF.aei 0 rfl rfl rfl (.inl rfl) ak ak IB OL fun hX=>
 (sv 3 jQ.nd (o7 (bV rfl (bV rfl (jA (aE rfl (bZ 0) ak (fun _ _=>rfl)) ak) (jA ak (aE rfl (bZ 0) ak (fun _ _=>rfl)))) ak) ak) fun uc=>
 (SF.Nm 0 rfl rfl (.inl rfl) (o7 (jA (ae 3) (bV rfl (bV rfl (o7 (ae 3) ak) (jA ak (aE rfl (bZ 0) ak (fun _ _=>rfl)))) ak)) ak) ak fun iB=>
 (SF.Y4 0 (k:=fun sX=>(sX,iB)) rfl (o7 (PF (aE rfl (bZ 0) ak (fun _ _=>rfl)) ak) (ae 1)) fun _=>rfl)))))) Q5
abbrev du:DF:=⟨"_law_pick",top 27,["_law_pot_here","_law_some"],2,fun K=>kU K [.p (cV cP),.v] (dU 1 bp)⟩
def GC (D:DI v du) (q:NB v) (az:bC.C v):D.O:=
 sA (n:=1) (m:=bp) D yc fun l hl=>match l,hl with | [FT],_=>fun _ _ _ _ _ _ hr=>show SF _ _ _ [some (.gF (cV cP)),some (.val FT)] _ (bp FT) _ from
 (SF.eI (aE rfl (au (ae 1)) (eC az hr (a9 0 (af (fi rfl rfl q.len (ae 1)) ao))) (fun _ _=>rfl)) fun _=>rfl)
abbrev kr:DF:=⟨"_law_words",top 28,["_law_pot_here","_law_many"],2,fun K=>jh K [.p (cV cP),.v] (dU 1 cQ)⟩
def yK (D:DI v kr) (q:NB v) (az:bC.C v):D.O:=
 QH (n:=1) (m:=cQ) D bw fun l hl=>match l,hl with | [kK],_=>fun _ _ _ _ _ _ hr=>show SF _ _ _ [some (.gF (cV cP)),some (.val kK),none,none,none,none,none,none,none,none] _ (cQ kK) _ from
 (sv 2 bw.nd gm fun qj=>
 (sv 3 bw.nd (eC az hr (a9 0 (af ak ao))) fun sH=>
 (sv 4 bw.nd (aE rfl (fx (a6 (n:=6) (af ak (af ak (af ak (af ak (af ak (af ak ao)))))) rfl)) (eC az hr (a9 0 (af ak ao))) (fun _ _=>rfl)) fun HE=>
 (sv 5 bw.nd (aE rfl (fx (a6 (n:=2) (af gm (af gm ao)) rfl)) (eC az hr (a9 0 (af ak ao))) (fun _ _=>rfl)) fun xV=>
 (sl 6 bw.nd (a6 (n:=4) (af gm (af gm (af gm (af gm ao)))) rfl) fun zl=>
 SF.c7 6 rfl (sl 7 bw.nd (a6 (n:=0) ao rfl) fun uF=>
 (SF.rV (hd:=(fun (U9:List PV)=>([some (.gF (cV cP)),some (.val kK),some (.val qj),some (.val sH),some (.val HE),some (.val xV),some (.val (.cl zl)),some (.ol none U9),none,none]:aV))) (s0:=uF) AD rfl (dG rfl q.range (ae 1)) (.keep (.keep (.keep (.keep (.keep (.keep (.keep (.keep (.keep (.keep .nil)))))))))) (eR 8 bw.nd) (fun U9 Wk=>
 (sv 9 bw.nd (aaK (ae 2) (o7 (bV rfl (ae 3) (jA (ae 4) (ae 8))) ak) (fun _ _=>rfl)) fun w4=>
 (SF.append 7 rfl rfl rfl (.inl rfl) (bV rfl (bV rfl (ae 5) (ae 9)) (aE rfl (au (ae 6)) (o7 (bV rfl (ae 3) (ae 8)) ak) (fun _ _=>rfl))) fun GQ=>
 (SF.gc rfl (.keep (.keep (.keep (.keep (.keep (.keep (.keep (.keep (.drop (.drop .nil)))))))))))))) fun U9=>
 (SF.Nr 7 rfl rfl))))))))
abbrev iJ:DF:=⟨"_law_tree",top 29,["_law_pot_here","_law_words_here"],2,fun K=>kU K [.p (cV cP),.v] (dU 1 dX)⟩
def GA (D:DI v iJ) (q:NB v) (az:bC.C v):D.O:=
 sA (n:=1) (m:=dX) D dw fun l hl=>match l,hl with | [cJ],_=>fun _ _ _ _ _ _ hr=>show SF _ _ _ [some (.gF (cV cP)),some (.val cJ),none,none,none,none] _ (dX cJ) _ from
 (sl 2 dw.nd (V7 rfl rfl q.list (au (ae 1))) fun jN=>
 (sv 3 dw.nd (eC az hr (a9 0 (af ak ao))) fun hE=>
 (SF.FG (hd:=(fun (s4:List PV)=>([some (.gF (cV cP)),some (.val cJ),some (.ol none s4),some (.val hE),none,none]:aV))) (s0:=jN) AD (.keep (.keep (.keep (.keep (.keep (.keep .nil)))))) (fun s4=>(eW Uo (lT rfl rfl q.len (bZ 2)) ak)) (fun s4=>
 (sv 4 dw.nd (aE rfl (fx (a6 (n:=4) (af (eC az hr (a9 0 (af (o5 (lT rfl rfl q.len (bZ 2)) ak) ao))) (af (o5 (lT rfl rfl q.len (bZ 2)) ak) (af ak (af ak ao)))) rfl)) (ae 3) (fun _ _=>rfl)) fun nY=>
 (sv 5 dw.nd (a7 (n:=2) (af (aE rfl (bZ 2) (ae 4) (fun _ _=>rfl)) (af (aE rfl (bZ 2) (bV rfl (ae 4) ak) (fun _ _=>rfl)) ao)) rfl) fun sk=>
 (SF.ifS (out1:=fun (XD:PV)=>.nx ([some (.gF (cV cP)),some (.val cJ),some (.ol none s4),some (.val hE),some (.val nY),some (.val XD)]:aV)) (zW.t (m9 (eW (fy rfl (aO hr)) (ae 3) ak) (jJ (eW (fy rfl (aO hr)) (eC az hr (a9 0 (af ak ao))) ak))))
 (sv 5 dw.nd (a7 (n:=2) (af (aE rfl (bZ 2) (bV rfl (ae 4) ak) (fun _ _=>rfl)) (af (aE rfl (bZ 2) (ae 4) (fun _ _=>rfl)) ao)) rfl) fun sj=>
 (SF.nil rfl (.keep (.keep (.keep (.keep (.keep (.keep .nil))))))))
 (SF.nil rfl (.keep (.keep (.keep (.keep (.keep (.keep .nil)))))))
 fun XD=>(SF.YV 2 rfl rfl (.inl rfl) (a6 (n:=1) (af (ae 5) ao) rfl) (ae 4) (bV rfl (ae 4) ak) fun sf=>
 (SF.gc rfl (.keep (.keep (.keep (.keep (.drop (.drop .nil)))))))))))) fun s4=>
 (SF.eI (aE rfl (bZ 2) ak (fun _ _=>rfl)) fun _=>rfl))))
abbrev kA:DF:=⟨"_law_great",top 30,["_law_pot_here"],3,fun K=>kU K [.p (cV cP)] (dU 0 dj)⟩
def yN (D:DI v kA) (q:NB v) (lM:iJ.C v) (yZ:kr.C v) (az:bC.C v):D.O:=
 sA (n:=0) (m:=dj) D vO fun l hl=>match l,hl with | [],_=>fun _ _ _ _ _ _ hr=>show SF _ _ _ [some (.gF (cV cP))] _ (dj) _ from
 (SF.eI (eC lM hr (a9 0 (af (xj (lC yZ hr (a9 0 (af (bV rfl ak (eC az hr (a9 0 (af (aE rfl (fx (a6 (n:=2) (af ak (af ak ao)) rfl)) (mD rfl q.int (kR (fy rfl (aO hr)) (eC az hr (a9 0 (af ak ao))) ak)) (fun _ _=>rfl)) ao)))) ao)))) ao))) fun _=>rfl)
abbrev dM:DF:=⟨"_law_nodes",top 31,["_law_tree_here"],12,fun K=>jh K [.v] (dU 1 (aX 12))⟩
theorem oO (D:DI v dM) (q:NB v):∀n,iu v.P v.w v.K v.mg v.base sT (n+0) D.f D.fd ["_law_tree_here"] (jh v.K [.v] (dU 1 (aX n)))
 | 0=>Kp (JK fun l Q hl=>match l,hl with | [cL],_=>fun h=>h.elim)
 | n+1=>have bz:=D.cN (oO D q n)
  fnL (k:=n+0) (n:=1) (m:=aX (n+1)) D.fn f6 rfl (wU ox) fun l hl=>match l,hl with | [cL],_=>fun _ _ _ _ _ _ hr=>show SF _ _ _ [some (.val cL),none,none,none] _ (aX (n+1) cL) _ from
 (SF.MK (de rfl (gn rfl .str rfl q.isinstance (ae 0) rfl q.str boot_str) (fun _=>rfl))
 (SF.mN (a6 (n:=1) (af (ae 0) ao) rfl) fun _=>rfl)
 (sl 1 f6.nd (lC bz hr (af (aE rfl (au (ae 0)) ak (fun _ _=>rfl)) ao)) fun ye=>
 (sv 2 f6.nd (lT rfl rfl q.len (bZ 1)) fun ue=>
 (SF.rV (hd:=(fun (s6:List PV)=>([some (.val cL),some (.ol none s6),some (.val ue),none]:aV))) (s0:=ye) AD rfl (cS rfl (GK (lC bz hr (af (aE rfl (au (ae 0)) ak (fun _ _=>rfl)) ao)))) (.keep (.keep (.keep (.keep .nil)))) (eR 3 f6.nd) (fun s6 FX=>
 (SF.append 1 rfl rfl rfl (.inl rfl) (PB (de rfl (gn rfl .str rfl q.isinstance (ae 3) rfl q.str boot_str) (fun _=>rfl)) (ae 3) (a7 (n:=2) (af (bV rfl (aE rfl (au (ae 3)) ak (fun _ _=>rfl)) (ae 2)) (af (bV rfl (aE rfl (au (ae 3)) ak (fun _ _=>rfl)) (ae 2)) ao)) rfl)) fun Np=>
 (SF.gc rfl (.keep (.keep (.keep (.drop .nil))))))) fun s6=>
 (SF.mN (Gx rfl (yf 1) (cO (a6 (n:=1) (af (a7 (n:=2) (af (o5 (ae 2) ak) (af (o5 (lT rfl rfl q.len (bZ 1)) ak) ao)) rfl) ao) rfl))) fun _=>rfl)))))
abbrev kC:DF:=⟨"_law_dates",top 32,["_law_pot_here","_law_rows"],3,fun K=>kU K [.p (cV cP),.v] (dU 1 dF)⟩
def yP (D:DI v kC) (q:NB v) (bB:du.C v) (az:bC.C v):D.O:=
 sA (n:=1) (m:=dF) D cy fun l hl=>match l,hl with | [a8],_=>fun _ _ _ _ _ _ hr=>show SF _ _ _ [some (.gF (cV cP)),some (.val a8),none,none,none,none,none] _ (dF a8) _ from
 (sl 2 cy.nd (Ou (a6 (n:=1) (af ak ao) rfl) (fi rfl rfl q.len (ae 1))) fun kl=>
 (sl 4 cy.nd (Ul rfl gA (oQ rfl rfl q.enumerate (cB (ae 1))) (fun _ _ _ _ _=>(Ux rfl (hZ rfl (aN (eR 0 gA.nd) (aN (eR 1 gA.nd) e6))))) (fun _ _ _ _ _ t9=>(qP (de rfl (gn rfl .str rfl q.isinstance (ae 1) rfl q.str boot_str) (fun _=>rfl)))) (fun _ _ _ _ _ t9=>(ae 0)) (Om rfl rfl (by decide)) (by decide)) fun Ih=>
 (sv 5 cy.nd ak fun zw=>
 (SF.FG (hd:=(fun (rF:List PV×List PV×PV)=>([some (.gF (cV cP)),some (.val a8),some (.ol none rF.1),none,some (.ol none rF.2.1),some (.val rF.2.2),none]:aV))) (s0:=(kl,Ih,zw)) AD (.keep (.keep (.keep (.keep (.keep (.keep (.keep .nil))))))) (fun rF=>(M6 rfl (aO hr) (yf 4))) (fun rF=>
 (SF.as (Xn 4 rfl (Xm (i:=6) rfl cy.nd rfl rfl kO (cS rfl (cB (ae 4))) (fun _ _ _ _ _=>(eR 0 kO.nd)) (fun _ _ _ _ _ Zq=>(zW.t (m9 (xT rfl (aO hr) (aE rfl (au (aE rfl (au (ae 2)) (ae 0) (fun _ _=>rfl))) ak (fun _ _=>rfl)) (au (ae 1))) (jJ (xT rfl (aO hr) (aE rfl (au (aE rfl (au (ae 2)) (ae 0) (fun _ _=>rfl))) ak (fun _ _=>rfl)) (au (ae 1))))))) (fun _ _ _ _ _ Zq=>(ae 0)) rfl)) fun F1=>
 SF.c7 6 rfl (sv 3 cy.nd (eC bB hr (a9 0 (af (ae 6) ao))) fun uA=>
 (sv 5 cy.nd (bV rfl (bV rfl (ae 5) ak) (eC az hr (a9 0 (af (aE rfl (fx (a6 (n:=3) (af ak (af ak (af ak ao))) rfl)) (eC az hr (a9 0 (af ak ao))) (fun _ _=>rfl)) ao)))) fun zu=>
 (SF.Nm 2 rfl rfl (.inl rfl) (ae 5) (ae 3) fun mT=>
 (SF.remove 4 rfl rfl rfl (.inr (.inl rfl)) (ae 3) fun Ka=>
 (SF.gc rfl (.keep (.keep (.keep (.drop (.keep (.keep (.drop .nil)))))))))))))) fun rF=>
 (SF.eI (eg rfl rfl q.tuple (bZ 2)) fun _=>rfl)))))
abbrev ku:DF:=⟨"_law_small",top 33,["_law_pot_here","_law_great_here"],13,fun K=>kU K [.p (cV cP),.v] (dU 1 dD)⟩
def yL (D:DI v ku) (q:NB v) (bz:dM.C v) (az:bC.C v) (lM:iJ.C v) (bB:du.C v):D.O:=
 sA (n:=1) (m:=dD) D iR fun l hl=>match l,hl with | [bA],_=>fun _ _ _ _ _ _ hr=>show SF _ _ _ [some (.gF (cV cP)),some (.val bA),none,none] _ (dD bA) _ from
 (sl 2 iR.nd (w6 rfl kN (cS rfl (GK (lC bz hr (af (ae 1) ao)))) (fun _ _ _ _ _=>(eR 0 kN.nd)) (fun _ _ _ _ _ p4=>(de rfl (gn rfl .str rfl q.isinstance (ae 0) rfl q.str boot_str) (fun _=>rfl))) (fun _ _ _ _ _ p4=>(ae 0)) rfl) fun n6=>
 SF.c7 2 rfl (sv 3 iR.nd (bV rfl ak (eC az hr (a9 0 (af (aE rfl (fx (a6 (n:=2) (af ak (af ak ao)) rfl)) (mD rfl q.int (kR (fy rfl (aO hr)) (eC az hr (a9 0 (af ak ao))) ak)) (fun _ _=>rfl)) ao)))) fun Oe=>
 (SF.eI (eC lM hr (a9 0 (af (xj (jZ rfl kM (dG rfl q.range (ae 3)) (fun _ _ _ _ _=>(eR 0 kM.nd)) (fun _ _ _ _ _ p12=>(eC bB hr (a9 1 (af (ae 2) ao)))) rfl)) ao))) fun _=>rfl)))
abbrev fm:DF:=⟨"_law_any_ground",top 34,["_law_pot_here","_law_great_here"],13,fun K=>kU K [.p (cV cP),.v] (dU 1 bJ)⟩
def oP (D:DI v fm) (az:bC.C v) (Pb:uW.C v) (SJ:zy.C v) (za:kC.C v) (bz:dM.C v):D.O:=
 sA (n:=1) (m:=bJ) D nh fun l hl=>match l,hl with | [bA],_=>fun _ _ _ _ _ _ hr=>show SF _ _ _ [some (.gF (cV cP)),some (.val bA)] _ (bJ bA) _ from
 (SF.MK (eW (fy rfl (aO hr)) (eC az hr (a9 0 (af ak ao))) ak)
 (SF.eI (eC Pb hr (af (ae 1) ao)) fun _=>rfl)
 (SF.eI (eC SJ hr (af (ae 1) (af (eC za hr (a9 0 (af (xj (lC bz hr (af (ae 1) ao))) ao))) ao))) fun _=>rfl))
abbrev kB:DF:=⟨"_law_deeds",top 35,["_law_stays","_law_stay"],1,fun K=>jh K [.v,.v] (dU 2 dE)⟩
def yO (D:DI v kB) (q:NB v):D.O:=
 QH (n:=2) (m:=dE) D cx fun l hl=>match l,hl with | [aw,bF],_=>fun _ _ _ _ _ _ hr=>show SF _ _ _ [some (.val aw),some (.val bF),none,none,none,none,none,none] _ (dE aw bF) _ from
 (SF.U7 (aE rfl (au (ae 0)) (ae 1) (fun _ _=>rfl)) (g_4 rfl (hZ rfl (aN (eR 2 cx.nd) (aN (eR 3 cx.nd) (aN (eR 4 cx.nd) (aN (eR 5 cx.nd) e6)))))) fun t3=>
 (sl 6 cx.nd (a6 (n:=1) (af (a7 (n:=3) (af gm (af (ae 1) (af (ae 1) ao))) rfl) ao) rfl) fun zc=>
 (SF.ifS (out1:=fun (Y0:List PV)=>.nx ([some (.val aw),some (.val bF),some (.val t3.1),some (.val t3.2.1),some (.val t3.2.2.1),some (.val t3.2.2.2),some (.ol none Y0),none]:aV)) (eW (fy rfl (aO hr)) (fi rfl rfl q.len (ae 4)) ak)
 (SF.extend 6 rfl rfl rfl (.inl rfl) (fx (a6 (n:=2) (af (a7 (n:=3) (af gm (af (aE rfl (au (ae 4)) ak (fun _ _=>rfl)) (af (aE rfl (au (ae 4)) ak (fun _ _=>rfl)) ao))) rfl) (af (a7 (n:=3) (af gm (af (aE rfl (au (ae 4)) ak (fun _ _=>rfl)) (af (aE rfl (au (ae 4)) ak (fun _ _=>rfl)) ao))) rfl) ao)) rfl)) fun GR=>
 (SF.nil rfl (.keep (.keep (.keep (.keep (.keep (.keep (.keep (.keep .nil))))))))))
 (SF.nil rfl (.keep (.keep (.keep (.keep (.keep (.keep (.keep (.keep .nil)))))))))
 fun Y0=>(SF.rV (hd:=(fun (Rk:List PV)=>([some (.val aw),some (.val bF),some (.val t3.1),some (.val t3.2.1),some (.val t3.2.2.1),some (.val t3.2.2.2),some (.ol none Rk),none]:aV))) (s0:=Y0) AD rfl (cS rfl (cB (ae 5))) (.keep (.keep (.keep (.keep (.keep (.keep (.keep (.keep .nil)))))))) (eR 7 cx.nd) (fun Rk jq=>
 (SF.extend 6 rfl rfl rfl (.inl rfl) (fx (a6 (n:=2) (af (a7 (n:=3) (af gm (af (ae 1) (af (ae 7) ao))) rfl) (af (a7 (n:=3) (af gm (af (ae 7) (af (ae 1) ao))) rfl) ao)) rfl)) fun oZ=>
 (SF.gc rfl (.keep (.keep (.keep (.keep (.keep (.keep (.keep (.drop .nil))))))))))) fun Rk=>
 (SF.Nr 6 rfl rfl)))))
abbrev eS:DF:=⟨"_law_done",top 36,["_law_stays","_law_rows","_law_can_here","_law_node","_law_stay"],2,fun K=>jh K [.v,.v,.v,.v,.v] (dU 5 bQ)⟩
def GG (D:DI v eS) (q:NB v) (y9:kB.C v):D.O:=
 QH (n:=5) (m:=bQ) D oj fun l hl=>match l,hl with | [aw,a8,aJ,cF,bF],_=>fun _ _ _ _ _ _ hr=>show SF _ _ _ [some (.val aw),some (.val a8),some (.val aJ),some (.val cF),some (.val bF),none] _ (bQ aw a8 aJ cF bF) _ from
 (sv 5 oj.nd (aE rfl (au (ae 1)) (ae 3) (fun _ _=>rfl)) fun FY=>
 (SF.MK (de rfl (gn rfl .str rfl q.isinstance (ae 5) rfl q.str boot_str) (fun _=>rfl))
 (SF.mN (Ou (a6 (n:=1) (af (a7 (n:=3) (af gm (af (ae 4) (af (ae 4) ao))) rfl) ao) rfl) (mD rfl q.int (KA (kR (fy rfl (aO hr)) (aE rfl (au (aE rfl (au (ae 0)) (ae 4) (fun _ _=>rfl))) ak (fun _ _=>rfl)) (a7 (n:=0) ao rfl)) (GZ (kR (fy rfl (aO hr)) (aE rfl (au (aE rfl (au (ae 0)) (ae 4) (fun _ _=>rfl))) ak (fun _ _=>rfl)) (ae 5)))))) fun _=>rfl)
 (SF.mN (w6 rfl lH (cS rfl (GK (lC y9 hr (af (ae 0) (af (ae 4) ao))))) (fun _ _ _ _ _=>(eR 0 lH.nd)) (fun _ _ _ _ _ Zs=>(zW.t (m9 (de rfl (aE rfl (au (aE rfl (au (ae 1)) (aE rfl (au (ae 2)) ak (fun _ _=>rfl)) (fun _ _=>rfl))) (aE rfl (au (ae 0)) ak (fun _ _=>rfl)) (fun _ _=>rfl)) (fun _=>rfl)) (jJ (de rfl (aE rfl (au (aE rfl (au (ae 1)) (aE rfl (au (ae 2)) ak (fun _ _=>rfl)) (fun _ _=>rfl))) (aE rfl (au (ae 0)) ak (fun _ _=>rfl)) (fun _ _=>rfl)) (fun _=>rfl)))))) (fun _ _ _ _ _ Zs=>(ae 0)) rfl) fun _=>rfl)))
abbrev nV:DF:=⟨"_law_can",top 37,["_law_stays","_law_rows"],3,fun K=>jh K [.v,.v] (dU 2 fK)⟩
def Iw (D:DI v nV) (q:NB v) (cn:eS.C v):D.O:=
 QH (n:=2) (m:=fK) D gb fun l hl=>match l,hl with | [aw,a8],_=>fun _ _ _ _ _ _ hr=>show SF _ _ _ [some (.val aw),some (.val a8),none,none,none,none] _ (fK aw a8) _ from
 (SF.YX (i:=2) gb.nd rfl (Cd rfl)
 (SF.rV (hd:=(fun (s3:(List Addr×List (List PV)))=>([some (.val aw),some (.val a8),some (.so s3.1 s3.2),none,none,none]:aV))) (s0:=(([]:List Addr),([]:List (List PV)))) AD rfl (dG rfl q.range (fi rfl rfl q.len (ae 1))) (.keep (.keep (.keep (.keep (.keep (.keep .nil)))))) (eR 3 gb.nd) (fun s3 tZ=>
 (SF.Qr 2 rfl rfl rfl (.inr (.inl rfl)) (Ou (a6 (n:=1) (af Mf ao) rfl) (fi rfl rfl q.len (ae 0))) fun b9 uH=>
 (SF.rV (hd:=(fun (MF:(List Addr×List (List PV)))=>([some (.val aw),some (.val a8),some (.so MF.1 MF.2),some (.val tZ),none,none]:aV))) (s0:=(b9,uH)) AD rfl (dG rfl q.range (fi rfl rfl q.len (ae 0))) (.keep (.keep (.keep (.keep (.keep (.keep .nil)))))) (eR 4 gb.nd) (fun MF se=>
 (sv 5 gb.nd (Kz 2 rfl (UD 2 rfl (aaM rfl rfl rfl q.any (cO (jZ rfl mR (cS rfl (cB (aE rfl (au (aE rfl (au (ae 0)) (ae 4) (fun _ _=>rfl))) ak (fun _ _=>rfl)))) (fun _ _ _ _ _=>(eR 0 mR.nd)) (fun _ _ _ _ _ p16=>(aE rfl (au (aE rfl (au (ae 1)) (ae 2) (fun _ _=>rfl))) (ae 0) (fun _ _=>rfl))) rfl))))) fun Ub=>
 (SF.YY 2 rfl rfl rfl (.inr (.inl rfl)) (Kz 2 rfl (UD 2 rfl (aaE (ae 5) (GZ (aaG rfl (aO hr) (cO (lC cn hr (af (ae 0) (af (ae 1) (af (ae 2) (af (ae 3) (af (ae 4) ao)))))))))))) (ae 3) (ae 4) (fun _ _=>rfl) fun GP=>
 (SF.gc rfl (.keep (.keep (.keep (.keep (.drop (.drop .nil)))))))))) fun MF=>
 (SF.gc rfl (.keep (.keep (.keep (.drop (.keep (.keep .nil)))))))))) fun s3=>
 (SF.aaq 2 rfl (SF.Nr 2 rfl rfl))))
abbrev me:DF:=⟨"_law_path",top 38,["_law_pot_here","_law_stays","_law_rows","_law_can_here","_law_node","_law_stay"],3,fun K=>kU K [.p (cV cP),.v,.v,.v,.v,.v] (dU 5 di)⟩
def GD (D:DI v me) (q:NB v) (az:bC.C v) (cn:eS.C v) (bB:du.C v):D.O:=
 sA (n:=5) (m:=di) D eY fun l hl=>match l,hl with | [aw,a8,aJ,cF,bF],_=>fun _ _ _ _ _ _ hr=>show SF _ _ _ [some (.gF (cV cP)),some (.val aw),some (.val a8),some (.val aJ),some (.val cF),some (.val bF),none,none,none,none] _ (di aw a8 aJ cF bF) _ from
 (sl 6 eY.nd (a6 (n:=1) (af (ae 5) ao) rfl) fun lq=>
 (SF.rV (hd:=(fun (s4:List PV)=>([some (.gF (cV cP)),some (.val aw),some (.val a8),some (.val aJ),some (.val cF),some (.val bF),some (.ol none s4),none,none,none]:aV))) (s0:=lq) AD rfl (dG rfl q.range (fi rfl rfl q.len (ae 1))) (.keep (.keep (.keep (.keep (.keep (.keep (.keep (.keep (.keep (.keep .nil)))))))))) (eR 7 eY.nd) (fun s4 UU=>
 (SF.Nk (i:=8) rfl eY.nd rfl rfl lG (cS rfl (cB (aE rfl (au (aE rfl (au (ae 1)) (aE rfl (bZ 6) (o6 ak) (fun _ _=>rfl)) (fun _ _=>rfl))) ak (fun _ _=>rfl)))) (fun _ _ _ _ _=>(eR 0 lG.nd)) (fun _ _ _ _ _ p8=>(de rfl (aE rfl (au (aE rfl (au (ae 1)) (ae 2) (fun _ _=>rfl))) (ae 0) (fun _ _=>rfl)) (fun _=>rfl))) (fun _ _ _ _ _ p8=>(ae 0)) rfl fun VL=>
 SF.c7 8 rfl (sv 9 eY.nd (aaE (aaL rfl (aO hr) (cO (lC cn hr (af (ae 1) (af (ae 2) (af (ae 3) (af (ae 4) (af (aE rfl (bZ 6) (o6 ak) (fun _ _=>rfl)) ao)))))))) (GZ (kR (fy rfl (aO hr)) (eC az hr (a9 0 (af ak ao))) ak))) fun Pu=>
 (SF.ifT (zW.t (m9 (M6 rfl (aO hr) (NG (ae 8))) (jJ (de rfl (ae 9) (fun _=>rfl)))))
 (SF.append 6 rfl rfl rfl (.inl rfl) (eC bB hr (a9 0 (af (ae 8) ao))) fun gL=>
 (SF.gc rfl (.keep (.keep (.keep (.keep (.keep (.keep (.keep (.drop (.drop (.drop .nil))))))))))))
 (SF.gc rfl (.keep (.keep (.keep (.keep (.keep (.keep (.keep (.drop (.drop (.drop .nil))))))))))))))) fun s4=>
 (SF.FG (hd:=(fun (Nn:List PV)=>([some (.gF (cV cP)),some (.val aw),some (.val a8),some (.val aJ),some (.val cF),some (.val bF),some (.ol none Nn),none,none,none]:aV))) (s0:=s4) AD (.keep (.keep (.keep (.keep (.keep (.keep (.keep (.keep (.keep (.keep .nil)))))))))) (fun Nn=>(YA rfl (aO hr) (cO (lC cn hr (af (ae 1) (af (ae 2) (af (ae 3) (af (ae 4) (af (aE rfl (bZ 6) (o6 ak) (fun _ _=>rfl)) ao))))))))) (fun Nn=>
 (SF.append 6 rfl rfl rfl (.inl rfl) (eC bB hr (a9 0 (af (xj (w6 rfl lF (cS rfl (cB (aE rfl (au (aE rfl (au (ae 1)) (aE rfl (bZ 6) (o6 ak) (fun _ _=>rfl)) (fun _ _=>rfl))) ak (fun _ _=>rfl)))) (fun _ _ _ _ _=>(eR 0 lF.nd)) (fun _ _ _ _ _ p30=>(de rfl (aE rfl (au (aE rfl (au (ae 1)) (ae 2) (fun _ _=>rfl))) (ae 0) (fun _ _=>rfl)) (fun _=>rfl))) (fun _ _ _ _ _ p30=>(ae 0)) rfl)) ao))) fun ou=>
 (SF.gc rfl (.keep (.keep (.keep (.keep (.keep (.keep (.keep (.keep (.keep (.keep .nil))))))))))))) fun Nn=>
 (SF.eI (eg rfl rfl q.tuple (bZ 6)) fun _=>rfl))))
abbrev nT:DF:=⟨"_law_way",top 39,["_law_pot_here","_law_stays","_law_rows","_law_can_here","_law_node","_law_path_here"],15,fun K=>kU K [.p (cV cP),.v,.v,.v,.v,.v] (dU 5 (cR 12))⟩
theorem uu (D:DI v nT) (bB:du.C v) (cn:eS.C v) (lN:me.C v):∀n,iu v.P v.w v.K v.mg v.base sT (n+3) D.f D.fd ["_law_pot_here","_law_stays","_law_rows","_law_can_here","_law_node","_law_path_here"] (kU v.K [.p (cV cP),.v,.v,.v,.v,.v] (dU 5 (cR n)))
 | 0=>Kp (Nc fun l Q hl=>match l,hl with | [aw,a8,aJ,cF,eJ],_=>fun h=>h.elim)
 | n+1=>have j6:=D.cN (uu D bB cn lN n)
  fnV (k:=n+3) (n:=5) (m:=cR (n+1)) D.fn eQ rfl (ib (n:=5)) fun l hl=>match l,hl with | [aw,a8,aJ,cF,eJ],_=>fun _ _ _ _ _ _ hr=>show SF _ _ _ [some (.gF (cV cP)),some (.val aw),some (.val a8),some (.val aJ),some (.val cF),some (.val eJ),none,none,none,none,none] _ (cR (n+1) aw a8 aJ cF eJ) _ from
 (SF.U7 (eC bB hr (a9 0 (af (xj (lC cn hr (af (ae 1) (af (ae 2) (af (ae 3) (af (ae 4) (af (aE rfl (au (ae 5)) (o6 ak) (fun _ _=>rfl)) ao))))))) ao))) (g_3 rfl (hZ rfl (aN (eR 6 eQ.nd) (aN (eR 7 eQ.nd) (aN (eR 8 eQ.nd) e6))))) fun t8=>
 (SF.MK (eW (fy rfl (aO hr)) (ae 6) gm)
 (SF.eI (a7 (n:=2) (af (ae 5) (af (ae 6) ao)) rfl) fun _=>rfl)
 (sv 9 eQ.nd (aE rfl (au (ae 2)) (ae 4) (fun _ _=>rfl)) fun tL=>
 (sv 10 eQ.nd (eC j6 hr (a9 0 (af (ae 1) (af (ae 2) (af (ae 3) (af (aE rfl (au (ae 9)) ak (fun _ _=>rfl)) (af (eC lN hr (a9 0 (af (ae 1) (af (ae 2) (af (ae 3) (af (aE rfl (au (ae 9)) ak (fun _ _=>rfl)) (af (ae 7) ao))))))) ao))))))) fun GU=>
 (SF.eI (a7 (n:=4) (af (ae 5) (af (ae 6) (af (ae 10) (af (eC j6 hr (a9 0 (af (ae 1) (af (ae 2) (af (ae 3) (af (aE rfl (au (ae 9)) ak (fun _ _=>rfl)) (af (eC lN hr (a9 0 (af (ae 1) (af (ae 2) (af (ae 3) (af (aE rfl (au (ae 9)) ak (fun _ _=>rfl)) (af (ae 8) ao))))))) ao))))))) ao)))) rfl) fun _=>rfl)))))
abbrev dJ:DF:=⟨"_law_whole_way",top 40,["_law_pot_here","_law_stays","_law_small_here"],16,fun K=>kU K [.p (cV cP),.v,.v] (dU 2 bt)⟩
def qk (D:DI v dJ) (q:NB v) (bz:dM.C v) (IP:nV.C v) (cn:eS.C v) (j6:nT.C v) (bB:du.C v):D.O:=
 sA (n:=2) (m:=bt) D cf fun l hl=>match l,hl with | [aw,iy],_=>fun _ _ _ _ _ _ hr=>show SF _ _ _ [some (.gF (cV cP)),some (.val aw),some (.val iy),none,none,none,none] _ (bt aw iy) _ from
 (sl 3 cf.nd (lC bz hr (af (ae 2) ao)) fun tK=>
 SF.c7 3 rfl (sl 4 cf.nd (lC IP hr (af (ae 1) (af (ae 3) ao))) fun nX=>
 SF.c7 4 rfl (sv 5 cf.nd (o5 (fi rfl rfl q.len (ae 3)) ak) fun Il=>
 (SF.Nk (i:=6) rfl cf.nd rfl rfl gH (dG rfl q.range (fi rfl rfl q.len (ae 1))) (fun _ _ _ _ _=>(eR 0 gH.nd)) (fun _ _ _ _ _ XE=>(M6 rfl (aO hr) (cO (lC cn hr (af (ae 4) (af (ae 3) (af (ae 1) (af (ae 2) (af (ae 0) ao))))))))) (fun _ _ _ _ _ XE=>(ae 0)) rfl fun Ng=>
 SF.c7 6 rfl (SF.eI (eC j6 hr (a9 0 (af (ae 1) (af (ae 3) (af (ae 4) (af (ae 5) (af (a7 (n:=1) (af (eC bB hr (a9 0 (af (ae 6) ao))) ao) rfl) ao))))))) fun _=>rfl)))))
abbrev kx:DF:=⟨"_law_scene",top 41,["_law_pot_here"],17,fun K=>kU K [.p (cV cP)] (dU 0 fc)⟩
def yM (D:DI v kx) (y8:kA.C v) (oY:fm.C v) (y6:ku.C v) (fR:dJ.C v):D.O:=
 sA (n:=0) (m:=fc) D fZ fun l hl=>match l,hl with | [],_=>fun _ _ _ _ _ _ hr=>show SF _ _ _ [some (.gF (cV cP)),none,none,none] _ (fc) _ from
 (sv 1 fZ.nd (eC y8 hr (a9 0 ao)) fun gP=>
 (sv 2 fZ.nd (eC oY hr (a9 0 (af (ae 1) ao))) fun xW=>
 (sv 3 fZ.nd (eC y6 hr (a9 0 (af (ae 1) ao))) fun jO=>
 (SF.eI (a7 (n:=4) (af (ae 1) (af (ae 2) (af (ae 3) (af (eC fR hr (a9 0 (af (ae 2) (af (ae 3) ao)))) ao)))) rfl) fun _=>rfl))))
abbrev kz:DF:=⟨"_law_parts",top 42,["_law_way_here"],12,fun K=>jh K [.v] (dU 1 (bx 12))⟩
theorem oM (D:DI v kz) (q:NB v):∀n,iu v.P v.w v.K v.mg v.base sT (n+0) D.f D.fd ["_law_way_here"] (jh v.K [.v] (dU 1 (bx n)))
 | 0=>Kp (JK fun l Q hl=>match l,hl with | [bj],_=>fun h=>h.elim)
 | n+1=>have gQ:=D.cN (oM D q n)
  fnL (k:=n+0) (n:=1) (m:=bx (n+1)) D.fn vN rfl (wU ox) fun l hl=>match l,hl with | [bj],_=>fun _ _ _ _ _ _ hr=>show SF _ _ _ [some (.val bj)] _ (bx (n+1) bj) _ from
 (SF.MK (eW (fy rfl (aO hr)) (fi rfl rfl q.len (ae 0)) ak)
 (SF.mN (a6 (n:=1) (af (ae 0) ao) rfl) fun _=>rfl)
 (SF.mN (Gx rfl (cO (Gx rfl (cO (lC gQ hr (af (aE rfl (au (ae 0)) ak (fun _ _=>rfl)) ao))) (cO (lC gQ hr (af (aE rfl (au (ae 0)) ak (fun _ _=>rfl)) ao))))) (cO (a6 (n:=1) (af (ae 0) ao) rfl))) fun _=>rfl))
abbrev jd:DF:=⟨"_law_counts",top 43,["_law_stays","_law_way_here"],13,fun K=>kU K [.v,.v] (dU 2 c6)⟩
def v8 (D:DI v jd) (q:NB v) (gQ:kz.C v):D.O:=
 sA (n:=2) (m:=c6) D cD fun l hl=>match l,hl with | [aw,bj],_=>fun _ _ _ _ _ _ hr=>show SF _ _ _ [some (.val aw),some (.val bj),none,none,none,none] _ (c6 aw bj) _ from
 (SF.YZ [("split",0),("doubled",0),("over",0),("found",0)] (i:=2) cD.nd rfl (Ck rfl) (oq tQ tR (oq tQ tR (oq tQ tR (oq tQ tR Rv))))
 (sv 3 cD.nd ak fun Ie=>
 (SF.rV (hd:=(fun (s4:List (Key×PV)×PV)=>([some (.val aw),some (.val bj),some (.od s4.1),some (.val s4.2),none,none]:aV))) (s0:=((X4 [("split",0),("doubled",0),("over",0),("found",0)]),Ie)) AD rfl (cS rfl (GK (lC gQ hr (af (ae 1) ao)))) (.keep (.keep (.keep (.keep (.keep (.keep .nil)))))) (eR 4 cD.nd) (fun s4 J1=>
 (SF.aej 2 rfl (aO hr) rfl (.inl rfl) (aE rfl (au (ae 4)) ak (fun _ _=>rfl)) ak IB OL fun uG=>
 (SF.rV (hd:=(fun (Vb:PV)=>([some (.val aw),some (.val bj),some (.od uG),some (.val Vb),some (.val J1),none]:aV))) (s0:=s4.2) AD rfl (cS rfl (cB (Kw rfl (aE rfl (au (ae 4)) ak (fun _ _=>rfl)) yx (yw (o6 ak))))) (.keep (.keep (.keep (.keep (.keep (.keep .nil)))))) (eR 5 cD.nd) (fun Vb JD=>
 (SF.aug (i:=3) rfl cD.nd rfl (Ck rfl) (mD rfl q.int (kR (fy rfl (aO hr)) (fi rfl rfl q.len (aE rfl (au (aE rfl (au (ae 0)) (ae 5) (fun _ _=>rfl))) ak (fun _ _=>rfl))) ak)) IB OL fun J9=>
 (SF.gc rfl (.keep (.keep (.keep (.keep (.keep (.drop .nil))))))))) fun Vb=>
 (SF.gc rfl (.keep (.keep (.keep (.keep (.drop (.keep .nil)))))))))) fun s4=>
 (SF.eI (a7 (n:=4) (af (IV 2 rfl (aO hr) gm (hsl:=fun _ _=>rfl)) (af (IV 2 rfl (aO hr) gm (hsl:=fun _ _=>rfl)) (af (IV 2 rfl (aO hr) gm (hsl:=fun _ _=>rfl)) (af (ae 3) ao)))) rfl) fun _=>rfl))))
abbrev md:DF:=⟨"_law_same",top 44,["_law_found","_law_due"],4,fun K=>kU K [.v,.v] (dU 2 (aR 4))⟩
theorem qU (D:DI v md) (q:NB v):∀n,iu v.P v.w v.K v.mg v.base sT (n+0) D.f D.fd ["_law_found","_law_due"] (kU v.K [.v,.v] (dU 2 (aR n)))
 | 0=>Kp (Nc fun l Q hl=>match l,hl with | [gC,rY],_=>fun h=>h.elim)
 | n+1=>have dq:=D.cN (qU D q n)
  fnV (k:=n+0) (n:=2) (m:=aR (n+1)) D.fn yb rfl (wU (wU ox)) fun l hl=>match l,hl with | [gC,rY],_=>fun _ _ _ _ _ _ hr=>show SF _ _ _ [some (.val gC),some (.val rY)] _ (aR (n+1) gC rY) _ from
 (SF.MK (de rfl (gn rfl .tup rfl q.isinstance (ae 1) rfl q.tuple boot_tuple) (fun _=>rfl))
 (SF.MK (zW.t (Ju (qP (de rfl (gn rfl .tup rfl q.isinstance (ae 0) rfl q.tuple boot_tuple) (fun _=>rfl))) (xM (eW (OG rfl (aO hr)) (fi rfl rfl q.len (ae 0)) (fi rfl rfl q.len (ae 1))))))
 (SF.eI Mf fun _=>rfl)
 (SF.eI (aaN rfl rfl rfl q.all (cO (Im rfl ig (Iz rfl rfl q.zip (cB (ae 0)) (cB (ae 1))) (fun _ _ _ _ _=>(Ux rfl (hZ rfl (aN (eR 0 ig.nd) (aN (eR 1 ig.nd) e6))))) (fun _ _ _ _ _ t5=>(eC dq hr (af (ae 0) (af (ae 1) ao)))) (Om rfl rfl (by decide)) (by decide)))) fun _=>rfl))
 (SF.MK (zW.t (Ju (de rfl (gn rfl .str rfl q.isinstance (ae 1) rfl q.str boot_str) (fun _=>rfl)) (xM (eW Iy (ae 1) Ky))))
 (SF.eI (KA (kR (fy rfl (aO hr)) (gn rfl .str rfl q.isinstance (ae 0) rfl q.str boot_str) (gn rfl .str rfl q.isinstance (ae 1) rfl q.str boot_str)) (GZ (kR (fy rfl (aO hr)) (ae 0) (ae 1)))) fun _=>rfl)
 (SF.eI (KA (gn rfl .int rfl q.isinstance (ae 0) rfl q.int boot_int) (KA (aaF (gn rfl .bool rfl q.isinstance (ae 0) rfl q.bool boot_bool)) (GZ (kR (fy rfl (aO hr)) (ae 0) (ae 1))))) fun _=>rfl)))
abbrev jc:DF:=⟨"_law_prices",top 45,["_law_pot_here"],2,fun K=>kU K [.p (cV cP)] (dU 0 cZ)⟩
def v5 (D:DI v jc) (q:NB v) (az:bC.C v):D.O:=
 sA (n:=0) (m:=cZ) D hU fun l hl=>match l,hl with | [],_=>fun _ _ _ _ _ _ hr=>show SF _ _ _ [some (.gF (cV cP)),none,none] _ (cZ) _ from
 (sl 1 hU.nd (a6 (n:=0) ao rfl) fun jN=>
 (SF.rV (hd:=(fun (s3:List PV)=>([some (.gF (cV cP)),some (.ol none s3),none]:aV))) (s0:=jN) AD rfl (dG rfl q.range ak) (.keep (.keep (.keep .nil))) (eR 2 hU.nd) (fun s3 k_4=>
 (SF.append 1 rfl rfl rfl (.inl rfl) (aE rfl (fx (a6 (n:=5) (af (eC az hr (a9 0 (af ak ao))) (af (eC az hr (a9 0 (af ak ao))) (af ak (af (o5 (Kx ak ak) ak) (af ak ao))))) rfl)) (eC az hr (a9 0 (af ak ao))) (fun _ _=>rfl)) fun Nh=>
 (SF.gc rfl (.keep (.keep (.drop .nil)))))) fun s3=>
 (SF.eI (eg rfl rfl q.tuple (bZ 1)) fun _=>rfl)))
abbrev UG:DF:=⟨"law",top 46,["_law_script"],18,fun K=>kU K [.v] (dU 1 jW)⟩
def ZO (D:DI v UG) (q:NB v) (IM:nU.C v) (y7:kx.C v) (wx:jd.C v) (dq:md.C v) (Mb:qK.C v) (wu:jc.C v) (oW:uV.C v) (bz:dM.C v) (fR:dJ.C v):D.O:=
 sA (n:=1) (m:=jW) D eG fun l hl=>match l,hl with | [cM],_=>fun _ _ _ _ _ _ hr=>show SF _ _ _ [some (.val cM),none,none,none,none,none,none,none,none,none,none,none,none] _ (jW cM) _ from
 (SF.Pd (hd:=(fun (s6:Unit)=>([some (.val cM),none,none,none,none,none,none,none,none,none,none,none,none]:aV))) (s0:=()) (inj:=id) AD rfl (dG rfl q.range (aaI rfl rfl q.max ak (aaH rfl rfl q.min (fi rfl rfl q.len (ae 0)) ak))) (.keep (.keep (.keep (.keep (.keep (.keep (.keep (.keep (.keep (.keep (.keep (.keep (.keep .nil))))))))))))) (eR 1 eG.nd) (fun _=>trivial) (fun s6 k_7=>
 (sl 2 eG.nd (lC IM hr (af (ae 0) (af (ae 1) ao))) fun tP=>SF.gF 2 rfl
 (SF.U7 (eC y7 hr (a9 2 ao)) (g_4 rfl (hZ rfl (aN (eR 3 eG.nd) (aN (eR 4 eG.nd) (aN (eR 5 eG.nd) (aN (eR 6 eG.nd) e6)))))) fun Jy=>
 (SF.Pd (hd:=(fun (T8:PV)=>([some (.val cM),some (.val k_7),some (.gF (cV cP)),some (.val Jy.1),some (.val Jy.2.1),some (.val Jy.2.2.1),some (.val T8),none,none,none,none,none,none]:aV))) (s0:=Jy.2.2.2) (inj:=Lp.out) AD rfl (dG rfl q.range ak) (.keep (.keep (.keep (.keep (.keep (.keep (.keep (.keep (.keep (.keep (.keep (.keep (.keep .nil))))))))))))) (eR 7 eG.nd) (fun _=>trivial) (fun T8 Jv=>
 (sv 8 eG.nd (eC wx hr (af (ae 4) (af (ae 6) ao))) fun gD=>
 (SF.MK (qP (de rfl (eC dq hr (af (eC Mb hr (af (ae 4) (af (ae 6) ao))) (af (ae 8) ao))) (fun _=>rfl)))
 (SF.ret (k:=fun sW=>(Lp.out sW)) Mf fun _=>rfl)
 (sv 9 eG.nd (eC wu hr (a9 2 ao)) fun bT=>
 (sv 10 eG.nd (bV rfl (jA (aE rfl (au (ae 9)) ak (fun _ _=>rfl)) (aE rfl (au (ae 8)) ak (fun _ _=>rfl))) (jA (aE rfl (au (ae 9)) ak (fun _ _=>rfl)) (aE rfl (au (ae 8)) ak (fun _ _=>rfl)))) fun KI=>
 (sv 10 eG.nd (bV rfl (bV rfl (ae 10) (jA (aE rfl (au (ae 9)) ak (fun _ _=>rfl)) (aE rfl (au (ae 8)) ak (fun _ _=>rfl)))) (jA (aE rfl (au (ae 9)) ak (fun _ _=>rfl)) (aE rfl (au (ae 8)) ak (fun _ _=>rfl)))) fun zC=>
 (SF.MK (zW.t (Ju (qP (de rfl (eC dq hr (af (eC oW hr (af (ae 9) (af (ae 8) ao))) (af (ae 10) ao))) (fun _=>rfl))) (xM (qP (de rfl (eC dq hr (af (eC oW hr (af (a7 (n:=4) (af ak (af ak (af ak (af ak ao)))) rfl) (af (ae 8) ao))) (af ak ao))) (fun _=>rfl))))))
 (SF.ret (k:=fun Yk=>(Lp.out Yk)) Mf fun _=>rfl)
 (SF.Pd (hd:=(fun (s41:Unit)=>([some (.val cM),some (.val k_7),some (.gF (cV cP)),some (.val Jy.1),some (.val Jy.2.1),some (.val Jy.2.2.1),some (.val T8),some (.val Jv),some (.val gD),some (.val bT),some (.val zC),none,none]:aV))) (s0:=()) (inj:=Lp.out) AD rfl (dG rfl q.range ak) (.keep (.keep (.keep (.keep (.keep (.keep (.keep (.keep (.keep (.keep (.keep (.keep (.keep .nil))))))))))))) (eR 11 eG.nd) (fun _=>trivial) (fun s41 Qo=>
 (sv 12 eG.nd (eg rfl rfl q.tuple (fx (jZ rfl Gw (dG rfl q.range ak) (fun _ _ _ _ _=>(eR 0 Gw.nd)) (fun _ _ _ _ _ p46=>(mD rfl q.int (kR (fy rfl (aO hr)) (ae 0) (ae 1)))) rfl))) fun G8=>
 (SF.ifT (qP (de rfl (eC dq hr (af (eC oW hr (af (ae 12) (af (ae 8) ao))) (af (aE rfl (au (ae 8)) (ae 11) (fun _ _=>rfl)) ao))) (fun _=>rfl)))
 (SF.ret (k:=fun x51=>(Lp.out x51)) Mf fun _=>rfl)
 (SF.gc rfl (.keep (.keep (.keep (.keep (.keep (.keep (.keep (.keep (.keep (.keep (.keep (.drop (.drop .nil))))))))))))))))) fun s41=>
 (SF.MK (eW (OG rfl (aO hr)) (W6 rfl rfl rfl q.sum (cB (Kw rfl (ae 8) yx (yw ak)))) (PF (lT rfl rfl q.len (fx (lC bz hr (af (ae 5) ao)))) ak))
 (SF.ret (k:=fun x56=>(Lp.out x56)) Mf fun _=>rfl)
 (sv 6 eG.nd (eC fR hr (a9 2 (af (ae 4) (af (ae 5) ao)))) fun qO=>
 (SF.gc rfl (.keep (.keep (.keep (.keep (.keep (.keep (.keep (.drop (.drop (.drop (.drop (.keep (.keep .nil)))))))))))))))))))))))) fun T8=>
 (SF.gc rfl (.keep (.drop (.drop (.drop (.drop (.drop (.drop (.keep (.keep (.keep (.keep (.keep (.keep .nil)))))))))))))))))) fun s6=>
 (SF.eI (eC dq hr (af (eC oW hr (af (a7 (n:=4) (af ak (af ak (af ak (af ak ao)))) rfl) (af (a7 (n:=4) (af ak (af ak (af ak (af ak ao)))) rfl) ao))) (af ak ao))) fun _=>rfl))
end
def aa2 {v:EV}{h:Heap} (X:v.K.In h) (G:h.Ns mainGlobals v.mg) (q:NB v) {oe:Tok} (zE:v.mg "UNDER"=some (.int 2 oe)) {iK:Addr} (zF:v.mg "DEEDS"=some (.ref iK)) (yQ:Qy v.K iK ["split","doubled","over"]) (nH:DX v.K "parts_of" (top 1)) (zp:DX v.K "nodes" (top 2)) (uR:DX v.K "halves" (top 3)) (nJ:DX v.K "ahead_of" (top 4)) (nF:DX v.K "under_at" (top 7)) (qF:DX v.K "name_of" (top 8)) (nI:DX v.K "lines_up" (top 9)) (j9:DX v.K "apart_from" (top 10)) (uS:DX v.K "ground" (top 11)) (i5:DX v.K "ways_within" (top 14)) (qG:DX v.K "lost_on" (top 16)) (qH:DX v.K "counted" (top 17)) (uQ:DX v.K "priced" (top 18)) (i6:DX v.K "split_dates" (top 20)) (nG:DX v.K "standing" (top 21)) (qE:DX v.K "stay_of" (top 22)) (zq:DX v.K "dated" (top 23)) (nM:DX v.K "_law_pot" (top 25)) (lV:DX v.K "_law_take" (top 26)) (lX:DX v.K "_law_pick" (top 27)) (ka:DX v.K "_law_words" (top 28)) (lU:DX v.K "_law_tree" (top 29)) (kg:DX v.K "_law_great" (top 30)) (kf:DX v.K "_law_nodes" (top 31)) (ki:DX v.K "_law_dates" (top 32)) (kc:DX v.K "_law_small" (top 33)) (fj:DX v.K "_law_any_ground" (top 34)) (kh:DX v.K "_law_deeds" (top 35)) (lZ:DX v.K "_law_done" (top 36)) (nN:DX v.K "_law_can" (top 37)) (lY:DX v.K "_law_path" (top 38)) (nK:DX v.K "_law_way" (top 39)) (fW:DX v.K "_law_whole_way" (top 40)) (kd:DX v.K "_law_scene" (top 41)) (ke:DX v.K "_law_parts" (top 42)) (i8:DX v.K "_law_counts" (top 43)) (lW:DX v.K "_law_same" (top 44)) (i7:DX v.K "_law_prices" (top 45)) (UM:DI v UG):UM.O:=by
 obtain⟨vn⟩:=nH.kJ (d:=nR) X G;obtain⟨KR⟩:=zp.kJ (d:=pd) X G;obtain⟨Hn⟩:=uR.kJ (d:=ma) X G;obtain⟨vq⟩:=nJ.kJ (d:=kq) X G;obtain⟨vk⟩:=nF.kJ (d:=nP) X G;obtain⟨xD⟩:=qF.kJ (d:=mE) X G;obtain⟨vo⟩:=nI.kJ (d:=nS) X G;obtain⟨pC⟩:=j9.kJ (d:=ko) X G;obtain⟨Ho⟩:=uS.kJ (d:=uW) X G;obtain⟨mX⟩:=i5.kJ (d:=i9) X G;obtain⟨xE⟩:=qG.kJ (d:=qJ) X G;obtain⟨xF⟩:=qH.kJ (d:=qK) X G;obtain⟨Hm⟩:=uQ.kJ (d:=uV) X G;obtain⟨mY⟩:=i6.kJ (d:=jb) X G;obtain⟨vm⟩:=nG.kJ (d:=nQ) X G;obtain⟨xC⟩:=qE.kJ (d:=qI) X G;obtain⟨KS⟩:=zq.kJ (d:=zy) X G;obtain⟨vv⟩:=nM.kJ (d:=nU) X G;obtain⟨rA⟩:=lV.kJ (d:=bC) X G;obtain⟨rC⟩:=lX.kJ (d:=du) X G;obtain⟨pD⟩:=ka.kJ (d:=kr) X G;obtain⟨rz⟩:=lU.kJ (d:=iJ) X G;obtain⟨pI⟩:=kg.kJ (d:=kA) X G;obtain⟨pH⟩:=kf.kJ (d:=dM) X G;obtain⟨pK⟩:=ki.kJ (d:=kC) X G;obtain⟨pE⟩:=kc.kJ (d:=ku) X G;obtain⟨iO⟩:=fj.kJ (d:=fm) X G;obtain⟨pJ⟩:=kh.kJ (d:=kB) X G;obtain⟨rE⟩:=lZ.kJ (d:=eS) X G;obtain⟨vA⟩:=nN.kJ (d:=nV) X G;obtain⟨rD⟩:=lY.kJ (d:=me) X G;obtain⟨vt⟩:=nK.kJ (d:=nT) X G;obtain⟨jG⟩:=fW.kJ (d:=dJ) X G;obtain⟨pF⟩:=kd.kJ (d:=kx) X G;obtain⟨pG⟩:=ke.kJ (d:=kz) X G;obtain⟨m5⟩:=i8.kJ (d:=jd) X G;obtain⟨rB⟩:=lW.kJ (d:=md) X G;obtain⟨mZ⟩:=i7.kJ (d:=jc) X G;have Jm:=vn.c (Iq vn q);have zN:=KR.c (Sj KR q Jm);have va:=Hn.c (OC Hn q);have vc:=vq.c (Iu vq q zN va);have Jk:=vk.c (Io vk zE);have xx:=xD.c (LP xD q);have Jn:=vo.c (Ir vo q vc);have zO:=pC.c (yJ pC q);have QA:=Ho.c (OD Ho q zN Jn xx va zO);have wB:=mX.c (vY mX q);have Mx:=xE.c (LQ xE q Jk);have Mz:=xF.c (LR xF q zF yQ wB Mx);have Qz:=Hm.c (OB Hm q);have wC:=mY.c (vZ mY q);have Jl:=vm.c (Ip vm q vc);have Mw:=xC.c (LO xC q va xx);have Tv:=KS.c (Sk KS q zN wC Jl Mw);have Jp:=vv.c (Iv vv q);have cu:=rA.c (GB rA);have gq:=rC.c (GC rC q cu);have zP:=pD.c (yK pD q cu);have rf:=rz.c (GA rz q cu);have zT:=pI.c (yN pI q rf zP cu);have gU:=pH.c (oO pH q 12);have zV:=pK.c (yP pK q gq cu);have zQ:=pE.c (yL pE q gU cu rf gq);have pA:=iO.c (oP iO cu QA Tv zV gU);have zU:=pJ.c (yO pJ q);have iL:=rE.c (GG rE q zU);have Jq:=vA.c (Iw vA q iL);have Hf:=rD.c (GD rD q cu iL gq);have Jo:=vt.c (uu vt gq iL Hf 12);have jD:=jG.c (qk jG q gU Jq iL Jo gq);have zR:=pF.c (yM pF zT pA zQ jD);have zS:=pG.c (oM pG q 12);have wF:=m5.c (v8 m5 q zS);have He:=rB.c (qU rB q 4);have wD:=mZ.c (v5 mZ q cu);exact ZO UM q Jp zR wF He Mz wD Qz gU jD
def JJ (K:Aa):Sp:=fun vs H Q _=>∃(a:Addr) (ns:List Int),vs=[.ref a]/\TB H/\cT K H a (ns.map V.int)/\ns.length<=63/\∀H',Q (.bl true) H'
def Sa {K:Aa}:∀vs H Q E,JJ K vs H Q E->kU K [.v] (dU 1 jW) vs H Q E:=fun vs H Q E ⟨a,ns,e,hO,hS,hl,q⟩=>by
 subst e;have fz:TK K H a (ns.map V.int):=by
  rcases hS with (h | ⟨o,h⟩) | h
  ·rcases hO a with z | ⟨o,xs,z⟩
   ·rw [h] at z;cases z
   ·rw [h] at z;cases z
  ·exact .inl ⟨o,h⟩
  ·exact .inr h
 refine⟨[.cl (ns.map PV.int)],.v (.cl fz (oT _ _ ns)) .nil,(jW (.cl (ns.map PV.int))).mono (fun v e u H' _ r=>?_) (Ot ns hl)⟩;subst e;cases r;exact q H'
def all_mk {l:EC}{w:World}{K:Aa}{h:Heap}{mg:Str->Option Value}{fa:Addr}{oe:Tok}{iK:Addr} (X:K.In h) (G:h.Ns mainGlobals mg) (hfa:mg "law"=some (.ref fa)) (nH:DX K "parts_of" (top 1)) (zp:DX K "nodes" (top 2)) (uR:DX K "halves" (top 3)) (nJ:DX K "ahead_of" (top 4)) (nF:DX K "under_at" (top 7)) (qF:DX K "name_of" (top 8)) (nI:DX K "lines_up" (top 9)) (j9:DX K "apart_from" (top 10)) (uS:DX K "ground" (top 11)) (i5:DX K "ways_within" (top 14)) (qG:DX K "lost_on" (top 16)) (qH:DX K "counted" (top 17)) (uQ:DX K "priced" (top 18)) (i6:DX K "split_dates" (top 20)) (nG:DX K "standing" (top 21)) (qE:DX K "stay_of" (top 22)) (zq:DX K "dated" (top 23)) (nM:DX K "_law_pot" (top 25)) (lV:DX K "_law_take" (top 26)) (lX:DX K "_law_pick" (top 27)) (ka:DX K "_law_words" (top 28)) (lU:DX K "_law_tree" (top 29)) (kg:DX K "_law_great" (top 30)) (kf:DX K "_law_nodes" (top 31)) (ki:DX K "_law_dates" (top 32)) (kc:DX K "_law_small" (top 33)) (fj:DX K "_law_any_ground" (top 34)) (kh:DX K "_law_deeds" (top 35)) (lZ:DX K "_law_done" (top 36)) (nN:DX K "_law_can" (top 37)) (lY:DX K "_law_path" (top 38)) (nK:DX K "_law_way" (top 39)) (fW:DX K "_law_whole_way" (top 40)) (kd:DX K "_law_scene" (top 41)) (ke:DX K "_law_parts" (top 42)) (i8:DX K "_law_counts" (top 43)) (lW:DX K "_law_same" (top 44)) (i7:DX K "_law_prices" (top 45)) (aaJ:DX K "law" (top 46)) (Qf:AN K mainGlobals "UNDER"=some (some (.int 2 oe))) (Qg:AN K mainGlobals "DEEDS"=some (some (.ref iK))) (P9:Qy K iK ["split","doubled","over"]) (xG:AN K mainGlobals "isinstance"=some none) (Yc:AN K mainGlobals "str"=some none) (UO:AN K mainGlobals "list"=some none) (Hw:AN K mainGlobals "reversed"=some none) (Yf:AN K mainGlobals "len"=some none) (QR:AN K mainGlobals "tuple"=some none) (FD:AN K mainGlobals "enumerate"=some none) (QS:AN K mainGlobals "range"=some none) (Yb:AN K mainGlobals "sum"=some none) (Ya:AN K mainGlobals "zip"=some none) (MU:AN K mainGlobals "sorted"=some none) (UP:AN K mainGlobals "dict"=some none) (Yj:AN K mainGlobals "abs"=some none) (Yg:AN K mainGlobals "int"=some none) (Yh:AN K mainGlobals "any"=some none) (Yi:AN K mainGlobals "all"=some none) (UQ:AN K mainGlobals "bool"=some none) (Yd:AN K mainGlobals "min"=some none) (Ye:AN K mainGlobals "max"=some none) :
  ∃fd:FuncData,(∀(s:Shared) (v:Value),BindsTo s fd ⟨[v],[]⟩ [("_law_script",v)])/\∀base:Heap,K.In base->base.Ns mainGlobals mg->iu l.prog w K mg base sT 18 fa fd ["_law_script"] (JJ K):=by
 obtain⟨f,fd,a,F⟩:=aaJ.ex;have e:=hfa.symm.trans (D4 X G a);cases e;have fb:=F.binds (ps:=["_law_script"]) (fun _ _ _ _ _ _=>us1 fun _=>rfl);obtain⟨oc,od,kV,doc,pm,an,gw,ct,Lx,rfl,_⟩:=id F.ex;refine⟨B7 "law" "law" (kj (top 46)) (dI (top 46)) (aj (top 46)) .none kV doc pm an gw ct,fun s v=>.of_eq rfl,fun base _ _=>?_⟩;exact (aa2 (v:=⟨l.prog,w,K,mg,base⟩) X G ⟨AA X G xG,AA X G Yc,AA X G UO,AA X G Hw,AA X G Yf,AA X G QR,AA X G FD,AA X G QS,AA X G Yb,AA X G Ya,AA X G MU,AA X G UP,AA X G Yj,AA X G Yg,AA X G Yh,AA X G Yi,AA X G UQ,AA X G Yd,AA X G Ye⟩ (D4 X G Qf) (D4 X G Qg) P9 nH zp uR nJ nF qF nI j9 uS i5 qG qH uQ i6 nG qE zq nM lV lX ka lU kg kf ki kc fj kh lZ nN lY nK fW kd ke i8 lW i7 ⟨_,_,F,fb,hfa⟩).imp Sa
def walk {l:EC}{q:Program}{loose:List Str}{XP:(Str->Option Value)->Heap->Prop}{YP:World->Heap->Prop}{d:DefRec}{K:Params->Aa} (hn:l.most=some 63) (hdf:d.params.defaults=[])
  (hY:∀(w:World) (h:Heap),YP w h->(K w.params).In h)
  (F:∀(w:World) (mg:Str->Option Value) (fa:Addr) (h:Heap),(K w.params).In h->h.Ns mainGlobals mg->mg d.name=some (.ref fa)->
   ∃fd:FuncData,(∀(s:Shared) (u:Value),BindsTo s fd ⟨[u],[]⟩ [("_law_script",u)])/\∀base:Heap,(K w.params).In base->base.Ns mainGlobals mg->iu l.prog w (K w.params) mg base sT 18 fa fd ["_law_script"] (JJ (K w.params))) :
  PySem.W.WalkO q loose XP YP l.row.toRowW d [] (fun f vs=>Fw f vs):=
 L2.QW (n:=63) (k:=18) (x:="_law_script") (CX:=fun _=>sT) (sp:=fun w=>JJ (K w.params)) hn (by decide) hdf ⟨rfl,by decide,by decide,rfl⟩ hY F (fun _ _ a ns hl hO hS=>⟨a,ns,rfl,hO,hS,hl,fun _=>rfl⟩) fun _ _ _ _ _ z=>z
end My
open PySem PySem.W PyProof.Rows
inductive PySem.W.Fast|tw15452668656099037039|tw4212259456720654058|tw7552970007111781913|tw7354458507917815360|tw13049489629607317840|tw4928831336253044775|tw14190767487420080322|tw6202955714105063917|tw13246461664150004526|tw270034442050694463|tw16418300752313176058|tw2762128634814820828|tw4566817400029349496|tw57611580035172160|tw7188561040375011912|tw7978977510916041259|tw17428003835027566589|tw12305768685972174562|tw3194820097265624140|tw17643624530951302055|tw16570787260803952789|tw275498346440979585|tw7442402966811254015|tw16546733392242966333|tw3529377786393531709|tw10052706531632926583|tw6977777922794514439|tw10788947165917399406|tw3131330022480597308|tw9092995349534539249|tw16448787461832853498|tw16671598840033471710|tw821769472839306475|tw17127953921708673779|tw12679743464101349816|tw11071767138895116288|tw13775250929740980479|tw14119841999466832079|tw15818684608375697575|tw11662317275935175328|tw5338396781191193675|tw1089842194353897454|tw10617758316835667492|tw1417693514224202292|tw10955166609394172147|tw12200944839008394519|tw10882498759245589285|tw6050616977751302900|tw5458809792143356508|tw139472881604935691|tw8741018166839084155|tw6433908456628731426|tw4868910872636633357|tw18140710064828170704|tw3892370044120192990|tw8045405254269128628|tw4824166429826954546|tw841530370543382898|tw11531122637197960274|tw1026218739181718499|tw10981069065577684434|tw454092758013876695|tw17112321677276487866|tw1300307734209172010|tw9246052474325415875|tw4904754242728062670|tw11584838921520810255|tw14678468016526343807|tw14208228725035092950|tw12086323927801356232|tw15423256328705460183|tw2977563186642199267|tw10583975699947222413|tw6560559334856396666|tw2554158962485928825|tw7716979497562901569|tw16331950119402556182|tw558075730672003886|tw10643306351807361192|tw8675942201788364239|tw2930079124507086861|tw17745726496960663850|tw7207187127681885401|tw16337254182915550837|tw11914148011627894876|tw6701637060441293291|tw10746531901289139419|tw595502344906081950|tw9460072099685829889|tw3228550915456659866|tw3355557705410714244|tw9800756687775864809|tw2719710956509439194|tw2665832021500370165|tw11279922782653881213|tw12124340215384152902|tw5622202912703348657|tw15817787810092239439|tw14881266526904492606|tw4108948964321274052|tw9675891079983379300|tw2927049437481462414|tw8424012783097827639|tw17836179647568571161|tw3769537743060854660|tw8818418222006215630|tw15695666511877734542|tw17245850282913135043|tw2781317489924477768|tw445031005235252972|tw14467355440862356313|tw7150204624320227948|tw11262408070582580206|tw7858573331566276452|tw4202830378154313960|tw3810202973740764712|tw11100248692877320789|tw6970618435016497460|tw17845250429231781765|tw13045845807835417909
def PySem.W.Fast.tw16515797111396268106:=PySem.Challenge.pw_treewithin_k19_ways_counted_and_priced
theorem PySem.W.Fast.te16515797111396268106:PySem.Challenge.pw_treewithin_k19_ways_counted_and_priced=PySem.W.Fast.tw16515797111396268106:=rfl
set_option maxRecDepth 100000 in
set_option maxHeartbeats 0 in
theorem PySem.Challenge.cw_treewithin_k19_ways_counted_and_priced_holds : PySem.Challenge.rw_treewithin_k19_ways_counted_and_priced.Holds := by
 w_on;o_law;k_head;(case hw=>w_witness2)
 k_fill
 refine My.walk (l:=PySem.Challenge.rw_treewithin_k19_ways_counted_and_priced) rfl rfl (fun w h Y=>PySem.W.kIn_of Y) ?F
 case F=>
  intro w mg fa h KX G hmg;refine' My.all_mk KX G hmg ?d0 ?d1 ?d2 ?d3 ?d4 ?d5 ?d6 ?d7 ?d8 ?d9 ?d10 ?d11 ?d12 ?d13 ?d14 ?d15 ?d16 ?d17 ?d18 ?d19 ?d20 ?d21 ?d22 ?d23 ?d24 ?d25 ?d26 ?d27 ?d28 ?d29 ?d30 ?d31 ?d32 ?d33 ?d34 ?d35 ?d36 ?d37 ?d38 ?c0 ?c1 ?kk1 ?z0 ?z1 ?z2 ?z3 ?z4 ?z5 ?z6 ?z7 ?z8 ?z9 ?z10 ?z11 ?z12 ?z13 ?z14 ?z15 ?z16 ?z17 ?z18
  (case d0=>refine' FL.dx ?a ?l ?c ?k;(case a=>k_is);(case l=>k_is);(case c=>k_is);(case k=>k_is))
  (case d1=>refine' FL.dx ?a ?l ?c ?k;(case a=>k_is);(case l=>k_is);(case c=>k_is);(case k=>k_is))
  (case d2=>refine' FL.dx ?a ?l ?c ?k;(case a=>k_is);(case l=>k_is);(case c=>k_is);(case k=>k_is))
  (case d3=>refine' FL.dx ?a ?l ?c ?k;(case a=>k_is);(case l=>k_is);(case c=>k_is);(case k=>k_is))
  (case d4=>refine' FL.dx ?a ?l ?c ?k;(case a=>k_is);(case l=>k_is);(case c=>k_is);(case k=>k_is))
  (case d5=>refine' FL.dx ?a ?l ?c ?k;(case a=>k_is);(case l=>k_is);(case c=>k_is);(case k=>k_is))
  (case d6=>refine' FL.dx ?a ?l ?c ?k;(case a=>k_is);(case l=>k_is);(case c=>k_is);(case k=>k_is))
  (case d7=>refine' FL.dx ?a ?l ?c ?k;(case a=>k_is);(case l=>k_is);(case c=>k_is);(case k=>k_is))
  (case d8=>refine' FL.dx ?a ?l ?c ?k;(case a=>k_is);(case l=>k_is);(case c=>k_is);(case k=>k_is))
  (case d9=>refine' FL.dx ?a ?l ?c ?k;(case a=>k_is);(case l=>k_is);(case c=>k_is);(case k=>k_is))
  (case d10=>refine' FL.dx ?a ?l ?c ?k;(case a=>k_is);(case l=>k_is);(case c=>k_is);(case k=>k_is))
  (case d11=>refine' FL.dx ?a ?l ?c ?k;(case a=>k_is);(case l=>k_is);(case c=>k_is);(case k=>k_is))
  (case d12=>refine' FL.dx ?a ?l ?c ?k;(case a=>k_is);(case l=>k_is);(case c=>k_is);(case k=>k_is))
  (case d13=>refine' FL.dx ?a ?l ?c ?k;(case a=>k_is);(case l=>k_is);(case c=>k_is);(case k=>k_is))
  (case d14=>refine' FL.dx ?a ?l ?c ?k;(case a=>k_is);(case l=>k_is);(case c=>k_is);(case k=>k_is))
  (case d15=>refine' FL.dx ?a ?l ?c ?k;(case a=>k_is);(case l=>k_is);(case c=>k_is);(case k=>k_is))
  (case d16=>refine' FL.dx ?a ?l ?c ?k;(case a=>k_is);(case l=>k_is);(case c=>k_is);(case k=>k_is))
  (case d17=>refine' FL.dx ?a ?l ?c ?k;(case a=>k_is);(case l=>k_is);(case c=>k_is);(case k=>k_is))
  (case d18=>refine' FL.dx ?a ?l ?c ?k;(case a=>k_is);(case l=>k_is);(case c=>k_is);(case k=>k_is))
  (case d19=>refine' FL.dx ?a ?l ?c ?k;(case a=>k_is);(case l=>k_is);(case c=>k_is);(case k=>k_is))
  (case d20=>refine' FL.dx ?a ?l ?c ?k;(case a=>k_is);(case l=>k_is);(case c=>k_is);(case k=>k_is))
  (case d21=>refine' FL.dx ?a ?l ?c ?k;(case a=>k_is);(case l=>k_is);(case c=>k_is);(case k=>k_is))
  (case d22=>refine' FL.dx ?a ?l ?c ?k;(case a=>k_is);(case l=>k_is);(case c=>k_is);(case k=>k_is))
  (case d23=>refine' FL.dx ?a ?l ?c ?k;(case a=>k_is);(case l=>k_is);(case c=>k_is);(case k=>k_is))
  (case d24=>refine' FL.dx ?a ?l ?c ?k;(case a=>k_is);(case l=>k_is);(case c=>k_is);(case k=>k_is))
  (case d25=>refine' FL.dx ?a ?l ?c ?k;(case a=>k_is);(case l=>k_is);(case c=>k_is);(case k=>k_is))
  (case d26=>refine' FL.dx ?a ?l ?c ?k;(case a=>k_is);(case l=>k_is);(case c=>k_is);(case k=>k_is))
  (case d27=>refine' FL.dx ?a ?l ?c ?k;(case a=>k_is);(case l=>k_is);(case c=>k_is);(case k=>k_is))
  (case d28=>refine' FL.dx ?a ?l ?c ?k;(case a=>k_is);(case l=>k_is);(case c=>k_is);(case k=>k_is))
  (case d29=>refine' FL.dx ?a ?l ?c ?k;(case a=>k_is);(case l=>k_is);(case c=>k_is);(case k=>k_is))
  (case d30=>refine' FL.dx ?a ?l ?c ?k;(case a=>k_is);(case l=>k_is);(case c=>k_is);(case k=>k_is))
  (case d31=>refine' FL.dx ?a ?l ?c ?k;(case a=>k_is);(case l=>k_is);(case c=>k_is);(case k=>k_is))
  (case d32=>refine' FL.dx ?a ?l ?c ?k;(case a=>k_is);(case l=>k_is);(case c=>k_is);(case k=>k_is))
  (case d33=>refine' FL.dx ?a ?l ?c ?k;(case a=>k_is);(case l=>k_is);(case c=>k_is);(case k=>k_is))
  (case d34=>refine' FL.dx ?a ?l ?c ?k;(case a=>k_is);(case l=>k_is);(case c=>k_is);(case k=>k_is))
  (case d35=>refine' FL.dx ?a ?l ?c ?k;(case a=>k_is);(case l=>k_is);(case c=>k_is);(case k=>k_is))
  (case d36=>refine' FL.dx ?a ?l ?c ?k;(case a=>k_is);(case l=>k_is);(case c=>k_is);(case k=>k_is))
  (case d37=>refine' FL.dx ?a ?l ?c ?k;(case a=>k_is);(case l=>k_is);(case c=>k_is);(case k=>k_is))
  (case d38=>refine' FL.dx ?a ?l ?c ?k;(case a=>k_is);(case l=>k_is);(case c=>k_is);(case k=>k_is))
  (case c0=>k_is)
  (case c1=>k_is)
  (case kk1=>refine' FL.tup3K ?a;(case a=>k_is))
  (case z0=>k_is)
  (case z1=>k_is)
  (case z2=>k_is)
  (case z3=>k_is)
  (case z4=>k_is)
  (case z5=>k_is)
  (case z6=>k_is)
  (case z7=>k_is)
  (case z8=>k_is)
  (case z9=>k_is)
  (case z10=>k_is)
  (case z11=>k_is)
  (case z12=>k_is)
  (case z13=>k_is)
  (case z14=>k_is)
  (case z15=>k_is)
  (case z16=>k_is)
  (case z17=>k_is)
  (case z18=>k_is)
#print axioms PySem.Challenge.cw_treewithin_k19_ways_counted_and_priced_holds
