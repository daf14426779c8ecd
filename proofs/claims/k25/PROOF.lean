import PyProof.Rows.All
import Wide.All
import OpenK.AllK
import Wide.FinOn
import Lean
import PyProof.EqAt
import PyProof.EqKinds
import PyProof.TupleCall
import PyProof.NeKinds
import PyProof.FactsAll.tuple_2
import PyProof.FactsAll.str_0
import PyProof.FactsAll.str_1
import PyProof.FactsAll.str_2
import PyProof.FactsAll.str_3
import PyProof.Rows.MinMaxN
import PyProof.Rows.SumAny
import PyProof.Rows.SetFrom
import PyProof.ReprRoads
import PyProof.Rows.StrKeys3
import PyProof.CallFns
import KE.KSortTup
import KE.KDictSum
import PyProof.Rows.CallKwBuiltin
import KE.KMinBuiltin
import KE.KDictList
import PySem.Challenge.RW_treewithin_k25_tables_by_all_ways
local macro_rules | `(tactic| omega) => `(tactic| lia)
open PySem renaming wpAny_bind -> Aa, wpAny_pure -> Ad, wpAny_newObj_type -> AE, wpAny_callSpecial?_slot -> AN, wpAny_field -> AZ, wpAny_call_entry -> A1, Value -> A3, wpAny_setField_rec -> A7, wpAny_holding -> Bd, wpAny_seqItems -> Bx, wpAny_Call_Name_kw -> Bz, Addr -> BG, Expr -> BX, wpAny_mono -> BZ, mem_of_lookup -> B2, wpAny_typeNameOfWhole_keyiter -> Cc, Str -> Cg, Pos -> Ck, wpAny_passesOwn -> Cq, wpAny_of_eq -> Cv, wpAny_dictEntries -> Cw, wpAny_typeNameOf_keyiter -> CB, wpAny_attempt -> CC, wpAny_letGo -> CN, wpAny_typeOf -> CO, wpAny_updateSeq -> CU, wpAny_dictEpoch -> CV, wpAny_truthy_bool -> C2, wpAny_pyIter_list -> C3, wpAny_setField -> C6, wpAny_rule -> C7, wpAny_newTuple -> C8, wpAny_isInstance -> Dc, Shared -> Du, wpAny_pyIter_enum -> Dv, wpAny_notOrdered_dict -> DG, wpAny_isOneOf_valiter -> DH, wpAny_eqBool_str -> DP, wpAny_updateSeq_pair -> D1, wpAny_execs_nil -> D7, wpAny_tryCatch -> En, wpAny_pyIter_tuple -> Eo, wpAny_letOwnedTupleGo_enum -> Ep, wpAny_fieldsOf -> Er, wpAny_sequenceKey -> EJ, wpAny_standAt -> EN, wpAny_onRaise -> EO, wpAny_comprehension_free -> ER, wpAny_specialOf -> Ff, evalArgs_none -> FG, wpAny_handled -> FK, Heap -> FR, Obj -> F2, call -> F6
open PySem.W renaming Frag -> Ab, nsIn -> AH, mg_none_of -> AJ, kia_one -> Bf, kitOne -> Bw, mg_of -> BV, fnOf -> Cb, KasT -> Ec, keepIn -> Eh, codeIn -> Ei, methodObj -> EC, kitx_list -> ED, kitx_dict -> EE, cellsFrom_some -> E2, kas_rev -> Fb, instObj -> Fc, OpenLaw -> Fd, lookIn -> Fo, kitx_tuple -> FO, plainGet -> FY, kat_cons -> FZ, kas_sort -> F0
open List renaming getElem?_eq_getElem -> Ae, length_map -> Af, length_append -> Ah, size_toArray -> Ai, getD_eq_getElem?_getD -> Aj, getElem?_map -> Ak, getElem?_eq_some_iff -> Al, replicate -> An, length_cons -> Ap, map_cons -> Aq, mem_map -> Ar, range -> Aw, map_map -> Ax, map_append -> Az, append_assoc -> AA, mem_cons -> AD, getElem?_append_left -> AU, mem_range -> AX, mem_append_right -> AY, mem_cons_of_mem -> A4, getElem?_append_right -> A5, getElem?_eq_none -> A6, mem_singleton -> A8, mem_append -> A9, filterMap_cons -> Ba, map_congr_left -> Be, mem_filter -> Bg, length_nil -> Bk, find?_cons -> Bl, lookup_cons -> Bm, mem_of_getElem? -> Bo, drop_eq_getElem_cons -> Bp, length_replicate -> Bs, flatMap_cons -> Bu, getElem?_replicate -> Bv, mem_cons_self -> BA, not_mem_nil -> BD, mem_flatMap -> BE, cons_append -> BF, replicate_succ -> BH, getElem?_range -> BI, length_filter_le -> BK, sum_cons -> BL, any_cons -> BM, length -> BS, idxOf_lt_length_of_mem -> BU, flatten_cons -> B1, length_set -> B4, forIn_cons -> B5, pairwise_iff_getElem -> B6, mem_append_left -> Cd, getElem?_set_ne -> Ce, eq_nil_of_length_eq_zero -> Cf, ext_getElem? -> Ci, length_reverse -> Cj, append_nil -> Cs, map_nil -> Cz, length_range -> CA, length_take_le -> CD, length_pos_iff -> CF, take_succ -> CJ, take_length -> CK, eraseIdx_cons_succ -> CM, getElem?_set_self -> CS, perm_append_comm -> C1, reverse_cons -> C4, all_eq_true -> De, mergeSort_perm -> Dg, length_flatMap -> Dh, nil_append -> Dm, foldl_cons -> Dn, take_of_length_le -> Dx, pairwise_lt_range -> Dy, replicate_append_replicate -> DB, eraseIdxIfInBounds_toArray -> DC, length_singleton -> DK, length_take -> DQ, getElem_mem -> DR, filter_cons -> DS, drop_length -> DT, getElem_toArray -> D3, range_succ -> D8, nodup_cons -> D9, getElem_of_mem -> Eb, pairwise_cons -> Eu, nodup_nil -> Ew, mem_filterMap -> Ex, map_filterMap -> Ey, filter_append -> Ez, pairwise_map -> EK, length_erase_of_mem -> ES, pairwise_mergeSort -> EZ, length_drop -> E1, map_set -> E6, length_pos_of_mem -> E7, filter_eq_nil_iff -> E8, drop_eq_nil_of_le -> E9, of_mem_zip -> Fg, getElem?_toArray -> Fm, length_eraseIdx -> Fv, getElem?_of_mem -> Fw, reverse_append -> FH, flatMap_append -> FI, sum_nil -> FW, any_map -> FX, map -> F8
open PySem.Heap renaming get?_push_of_some -> Ag, get?_push_size -> Ao, lt_size -> Au, get?_update_self -> BJ, SameBut -> BN, get?_update_other -> BW, size_push -> CG, ExtBut -> EH, size_update -> ET, IsSliceOf -> Fp, get?_update_ne -> FE
open Nat renaming le_refl -> Am, ne_of_lt -> AG, zero_add -> AI, lt_of_lt_of_le -> AM, le_trans -> AV, lt_irrefl -> A2, zero_le -> Bc, add_assoc -> Bi, pow_le_pow_right -> Bn, le_add_right -> BR, mul_le_mul_right -> Cy, sub_self -> CP, strongRecOn -> CW, not_lt_zero -> Dl, lt_or_ge -> Dw, le_of_ble_eq_true -> DJ, le_succ -> D2, succ_mul -> Ee, le_of_lt -> Ef, mul_le_mul -> Es, eq_or_lt_of_le -> Et, lt_succ_self -> EX, add_sub_cancel_left -> EY, one_mul -> Fu, sub_zero -> FU, pow_succ -> FV, pow_add -> F3, succ -> F7
open Bool renaming false_eq_true -> Av, and_eq_true -> AO, false_ne_true -> AR, not_true -> Dk, and_false -> EA, not_false -> Fx, false_and -> Fy, true_and -> FN
open PySem.PassesOwn renaming never -> Ay
open PySem.Value renaming ref -> AB, none -> AL, str -> Bj, type -> B8, bool -> C5, int -> Eg
open PyProof.Rows renaming slot_tuple_getitem -> AQ, callWith_type1 -> Bb
open Int renaming toNat_natCast -> AW, emod_lt_of_pos -> Cp, emod_nonneg -> CY, le_refl -> C9, zero_add -> Dz, le_antisymm -> Fh
open PySem.NameKind renaming free -> Bh, cell -> FJ
open Array renaming getElem?_eq_getElem -> Bq, length_toList -> B3, getElem?_toList -> B7, getElem?_eq_none -> CT, perm_iff_toList_perm -> EB, toArray_toList -> Fz
open PySem.Obj renaming mapSeq -> Br, data_mapFields -> Cn, isFreed_of_fields -> DE, mapFields -> DU, cls_mapFields -> EG
open False renaming elim -> Bt
open PySem.Str renaming ofString -> BB
open PySem.F renaming slot_dict_valueiterator_next -> BC, slot_dict_keyiterator_next -> BO, plainAttrs_list -> BQ, slot_tuple_iterator_next -> Co, plain_min_loop -> CH, slot_enumerate_next -> CZ, args_tuple_add_2 -> Di, slot_list_getattribute -> Dj, entry_tuple_add -> Dp, slot_tuple_add -> Dq, args_dict_valueiterator_next_1 -> Dr, entry_dict_valueiterator_next -> DA, args_dict_keyiterator_next_1 -> DM, entry_dict_keyiterator_next -> DV, args_list_extend_2 -> DW, slot_zip_next -> D4, args_tuple_iterator_next_1 -> D5, entry_list_extend -> Ea, entry_tuple_iterator_next -> Ed, slot_list_extend -> El, slot_dict_values -> EM, slot_dict_values_iter -> EU, args_enumerate_next_1 -> EW, entry_enumerate_next -> E3, type_list_pop -> Fi, slot_list_pop -> Fj
open Ne renaming symm -> BP
open PySem.Calls renaming spliced_cons -> B9, spliced_nil -> Cu, callWith_builtin -> Ds, Name_function_global -> Em
open PySem.AutoSeq1 renaming wpAny_loadPart' -> Ca, sub_tuple_tuple -> DN, sub_tuple_list -> DY, sub_list_tuple -> DZ, sub_list_list -> D6, idx_int -> E4
open True renaming intro -> Cm
open Option renaming map_some -> Cr, map_eq_none_iff -> E5
open ForInStep renaming yield -> Ct
open Or renaming inr -> CI, inl -> C0
open And renaming right -> Df
open PySem.SeqAt renaming EqAt -> DL
open PySem.SeqAt.RcNeAt renaming lists_lengths -> Ej, lists -> FP
open PySem.SeqAt.EqAt renaming int_int -> Ek, of_refs -> FQ, same -> F4
open PySem.EqBoolInt renaming of_rcne -> EI, of_rc -> Fe
open PySem.SeqAt.RcAt renaming lists_lengths -> EL, tuples -> FT, lists -> F1
open PySem.Fin renaming done -> Fq
open PySem.Data renaming seq -> Fs
open PySem.Around renaming under_plainId -> Ft
open Sum renaming inr -> FA, inl -> FC
open PyProof.Rows.IsTup renaming new -> FD
open PySem.Flow renaming ret -> F5
set_option compiler.extract_closed false
set_option Elab.async false
set_option linter.all false
set_option maxRecDepth 100000
set_option maxHeartbeats 1000000
open Option renaming some→ap,none→bm
open PyProof.Rows renaming envOfC→r9,seqObj→sK,IntsAre→tz,boot_str→wT,AllBare→Gc
open PySem renaming Value→bn,Addr→ce,Shared→cr,wpAny→db,model→dL,mainGlobals→ev,starEach→f8,Expr→ii,eval→im,attributeBase→kw,swapsWith→lm,bootBuiltins→lw,Heap→mo,tupleKind→nn,compareOp→nw,Around→o0,cLine→pc,Scope→pr,behindInMarks→re,binaryOp→sn,rawInt→ss,sysModules→sw,call_meets→sB,Program→tt,Builtin→ut,Stmt→v4,setField→wn,World→wv,plainId_quiet→ww,IntMulOk→wE,backTo→wP,PassesOwn→wS,NameKind→xz,assignEach→zn,sliceBounds→BT,storedH→Ch,holding→Da,getItem→Db,codeAny→Ev,swapsWithSole→EQ,swappedStores→Fa,assign→Fk,FuncData→FB,typeLookup→FM,pyNext→FS,letOwnedTupleGo→GE,codeAny_builtin→GM
local macro_rules | `(∅)=>`(by omega)
local macro_rules | `(⋯)=>`(by decide)
namespace L2
open PySem PySem.Spec PyProof.Rows
abbrev Key:=Sum Int Str
def v5:Key->bn->Bool
 | .inl k,v=>Value.isInt k v
 | .inr x,v=>Value.isStrOf x v
def agR (w:wv):Key->Int
 | .inl k=>hashInt k
 | .inr x=>hashStr w x
def cg:∀{k:Key}{v:bn},v5 k v=true->(∃i t,k=FC i/\v=Eg i t)\/(∃x t,k=FA x/\v=Bj x t)
 | .inl i,v,h=>by
  obtain⟨t,e⟩:=Value.isInt_shape (k:=i) (v:=v) h;exact .inl ⟨i,t,rfl,e⟩
 | .inr x,v,h=>by
  obtain⟨t,e⟩:=Value.isStrOf_shape (x:=x) (v:=v) h;exact .inr ⟨x,t,rfl,e⟩
def Nq (i:Int) (t:Tok):v5 (.inl i) (.int i t)=true:=by simp [v5,Value.isInt]
def Np (x:Str) (t:Tok):v5 (.inr x) (.str x t)=true:=by simp [v5,Value.isStrOf]
def Zj (a b:Int):decide ((FC a:Key)=FC b)=(a==b):=by
 by_cases e:a=b
 ·subst e;simp
 ·have h:¬(FC a:Key)=FC b:=λq=>e (FC.inj q);rw [decide_eq_false h];exact (beq_eq_false_iff_ne.mpr e).symm
def Zg (a b:Str):decide ((FA a:Key)=FA b)=decide (a=b):=by
 by_cases e:a=b
 ·subst e;simp
 ·have h:¬(FA a:Key)=FA b:=λq=>e (FA.inj q);rw [decide_eq_false h,decide_eq_false e]
def Zi (a:Int) (b:Str):decide ((FC a:Key)=FA b)=false:=decide_eq_false (λq=>nomatch q)
def Zh (a:Str) (b:Int):decide ((FA a:Key)=FC b)=false:=decide_eq_false (λq=>nomatch q)
def bT (prog:tt) (w:wv):PySem.KeyKind prog w Key where
 is:=v5
 hash:=agR w
 inj:=λv a b ha hb=>by
  rcases cg ha with⟨i,t,rfl,rfl⟩ | ⟨x,t,rfl,rfl⟩
  ·rcases cg hb with⟨j,u,rfl,e⟩ | ⟨y,u,rfl,e⟩
   ·injection e with e1 _;rw [e1]
   ·exact nomatch e
  ·rcases cg hb with⟨j,u,rfl,e⟩ | ⟨y,u,rfl,e⟩
   ·exact nomatch e
   ·injection e with e1 _;rw [e1]
 byValue:=λk v h=>by
  rcases cg h with⟨i,t,rfl,rfl⟩ | ⟨x,t,rfl,rfl⟩ <;> rfl
 pyHash:=λhv h=>by
  rcases cg hv with⟨i,t,rfl,rfl⟩ | ⟨x,t,rfl,rfl⟩
  ·exact wpAny_pyHash_int h
  ·exact wpAny_pyHash_str h
 eqBool:=λhu hv h=>by
  rcases cg hu with⟨i,t,rfl,rfl⟩ | ⟨x,t,rfl,rfl⟩
  ·rcases cg hv with⟨j,u,rfl,rfl⟩ | ⟨y,u,rfl,rfl⟩
   ·rw [Zj] at h;exact wpAny_eqBool_int h
   ·rw [Zi] at h;exact DL.int_str i t y u _ _ _ _ h
  ·rcases cg hv with⟨j,u,rfl,rfl⟩ | ⟨y,u,rfl,rfl⟩
   ·rw [Zh] at h;exact DL.str_int x t j u _ _ _ _ h
   ·rw [Zg] at h;exact DP h
 «strs»:=λk x t v h=>by
  rcases cg h with⟨i,u,rfl,e⟩ | ⟨y,u,rfl,e⟩
  ·exact nomatch e
  ·injection e with e1 _;subst e1;cases v <;> rfl
def GO (prog:tt) (w:wv) (i:Int) (t:Tok):(bT prog w).is (.inl i) (.int i t)=true:=Nq i t
def GN (prog:tt) (w:wv) (x:Str) (t:Tok):(bT prog w).is (.inr x) (.str x t)=true:=Np x t
end L2
variable {us:List A3}{u:A3}{κ α β:Type}{a b e:BG}{P:PySem.Program}{w:PySem.World}{h h':FR}{ob:F2}
namespace L2
open PySem PySem.Spec PyProof.Rows
inductive V where
 | aN | bl (b:Bool) | int (i:Int) | str (x:Str) | byt (b:Array UInt8) | flt (b:UInt64) | ref (a:ce) | ty (n:String)
 deriving DecidableEq
def RelV:V->bn->Prop
 | .aN,u=>u=AL
 | .bl b,u=>u=C5 b
 | .int i,u=>∃t,u=Eg i t
 | .str x,u=>∃t,u=Bj x t
 | .byt b,u=>∃t,u=Value.bytes b t
 | .flt b,u=>∃t,u=Value.float b t
 | .ref a,u=>u=AB a
 | .ty n,u=>u=B8 n
abbrev Vals:List V->List bn->Prop:=Paired RelV
def Vals.length {xs:List V} (r:Vals xs us):xs.length=us.length:=Paired.length r
theorem Vals.get:∀{xs:List V}{us:List bn}{i:Nat}{x:V},Vals xs us->xs[i]?=ap x->∃u,us[i]?=ap u/\RelV x u
 | _,_,_,_,.nil,e=>by simp at e
 | _,_,0,_,.cons r _,e=>by simp at e;subst e;exact⟨_,rfl,r⟩
 | _,_,i+1,x,.cons _ t,e=>by
  obtain⟨u,h1,h2⟩:=Vals.get (i:=i) (x:=x) t (by simpa using e);exact⟨u,by simpa using h1,h2⟩
theorem Vals.set {x:V} (r:RelV x u):∀{xs:List V}{us:List bn} (i:Nat),Vals xs us->Vals (xs.set i x) (us.set i u)
 | _,_,_,.nil=>.nil
 | _,_,0,.cons _ t=>.cons r t
 | _,_,i+1,.cons q t=>.cons q (Vals.set r i t)
theorem Vals.append:∀{xs ys:List V}{us ws:List bn},Vals xs us->Vals ys ws->Vals (xs++ys) (us++ws)
 | _,_,_,_,.nil,s=>s
 | _,_,_,_,.cons r t,s=>.cons r (Vals.append t s)
theorem Vals.take:∀{xs:List V}{us:List bn} (n:Nat),Vals xs us->Vals (xs.take n) (us.take n)
 | _,_,0,_=>.nil
 | _,_,_+1,.nil=>.nil
 | _,_,n+1,.cons r t=>.cons r (Vals.take n t)
theorem Vals.drop:∀{xs:List V}{us:List bn} (n:Nat),Vals xs us->Vals (xs.drop n) (us.drop n)
 | _,_,0,r=>r
 | _,_,_+1,.nil=>.nil
 | _,_,n+1,.cons _ t=>Vals.drop n t
def uK:Option V->Option bn->Prop
 | some v,ap u=>RelV v u
 | none,bm=>True
 | _,_=>False
def KV:List (κ×V)->List (κ×bn)->Prop:=Paired λ(p:κ×V) (q:κ×bn)=>p.1=q.1/\RelV p.2 q.2
def kV:Key->V
 | .inl i=>.int i
 | .inr x=>.str x
inductive HO where
 | lst (xs:List V)
 | tup (xs:List V)
 | dK (kvs:List (Key×V)) | dT (kvs:List (List Key×V))
 | set (S:Int->Bool) (n:Nat)
 | ins (C dx:ce) (fs:List (Str×V))
 | own (x:ce)
 | xd (fs:List (Str×V))
 | met (f x:ce)
 | rng (lo hi:Int)
 | cV (o:Obj) (u:HO)
 | XQ (ps:Array bn)
 | ext (φ:mo->Prop)
abbrev Hp:=ce->Option HO
def upd (H:Hp) (a:ce) (o:HO):Hp:=λb=>if b=a then ap o else H b
def aU {H:Hp}{o:HO}:upd H a o a=ap o:=by unfold upd;rw [if_pos rfl]
def ax {H:Hp}{o:HO} (h:b≠a):upd H a o b=H b:=by unfold upd;rw [if_neg h]
def LD {H:Hp}{o u:HO} (h:H a=ap o) (h':H b=ap u) (d:o≠u):a≠b:=by
 intro e;subst e;rw [h] at h';exact d (Option.some.inj h')
def bG {H:Hp}{o:HO} (h:H a=ap o) (h':H b=bm):a≠b:=by
 intro e;subst e;rw [h] at h';cases h'
section
variable (P:tt) (w:wv)
def ba (H:Hp) (h:mo) (a:ce):HO->Prop
 | .lst xs=>xs.length<=sizeLine/\∃(au:List bn) (n:Nat),Vals xs au/\h.get? a=ap {cls:=.type "list",data:=.seq au.toArray n}
 | .tup xs=>xs.length<=sizeLine/\∃au:List bn,Vals xs au/\IsTup h a au.toArray
 | .dK kvs=>kvs.length<=sizeLine/\(a==sw)=false/\∃vs,KV kvs vs/\h.DictOf (bT P w) a vs
 | .dT kvs=>kvs.length<=sizeLine/\(a==sw)=false/\∃xs:List (List Key×ce×bn),
   Paired (λ(p:List Key×V) (q:List Key×ce×bn)=>p.1=q.1/\H q.2.1=ap (.tup (p.1.map kV))/\RelV p.2 q.2.2) kvs xs/\
   ∃o es ep,h.get? a=ap o/\o.ExactDict/\o.data=.dict es ep/\es.toList=xs.map (entryOfKey (nn (bT P w)))/\(xs.map (·.1)).Nodup
 | .set S n=>h.SetOf (intKind P w) a S n
 | .ins C dx fs=>H dx=ap (.own a)/\fs.length<=1000/\dx≠a/\h.get? a=ap (Fc C dx)/\
   ∃mA,h.Ns1 dx mA/\(∀f,uK (fs.lookup f) (mA f))/\PySem.Within mA (fs.map (·.1))
 | .own _=>∃o,h.get? a=ap o
 | .xd fs=>∃mA,h.Ns1 a mA/\∀f,uK (fs.lookup f) (mA f)
 | .rng lo hi=>∃t u v,h.get? a=ap {cls:=.type "range",data:=.fields #[.int lo t,.int hi u,.int 1 v]}
 | .cV o u=>h.get? a=ap o/\ba H h a u
 | .XQ ps=>h.get? a=ap {cls:=.none,data:=.fields ps}
 | .met f x=>h.get? a=ap (EC (.ref f) (.ref x))
 | .ext φ=>φ h/\(∃o,h.get? a=ap o)/\∀h1 h2:mo,φ h1->(∀o,h1.get? a=ap o->h2.get? a=ap o)->φ h2
def my (H:Hp) (h:mo):Prop:=∀a o,H a=ap o->ba P w H h a o
end
section
variable {H H':Hp}{o:HO}
def ba.lt (x:ba P w H h a o):a < h.objs.size:=by
 cases o with
 | lst xs=>obtain⟨_,_,_,_,e⟩:=x;exact Au e
 | tup xs=>obtain⟨_,_,_,p⟩:=x;exact p.lt
 | dK kvs=>obtain⟨_,_,_,_,o,_,_,e,_⟩:=x;exact Au e
 | dT kvs=>obtain⟨_,_,_,_,o,_,_,e,_⟩:=x;exact Au e
 | set S n=>obtain⟨o,_,_,_,e,_⟩:=x;exact Au e
 | ins C dx fs=>obtain⟨_,_,_,e,_⟩:=x;exact Au e
 | own y=>obtain⟨_,e⟩:=x;exact Au e
 | xd fs=>obtain⟨_,⟨_,_,_,e,_⟩,_⟩:=x;exact Au e
 | rng lo hi=>obtain⟨_,_,_,e⟩:=x;exact Au e
 | cV ob u=>obtain⟨e,_⟩:=x;exact Au e
 | XQ ps=>exact Au (show h.get? a=ap _ from x)
 | met f y=>exact Au (show h.get? a=ap _ from x)
 | ext φ=>obtain⟨_,⟨_,e⟩,_⟩:=x;exact Au e
theorem Paired.Y0 {F G:α->β->Prop}:∀{l₁:List α}{l₂:List β},Paired F l₁ l₂->(∀a b,F a b->G a b)->Paired G l₁ l₂
 | _,_,.nil,_=>.nil
 | _,_,.cons r t,f=>.cons (f _ _ r) (Paired.Y0 t f)
def ba.xn (x:ba P w H h a o) (k:∀b u,(b=a\/H b=ap (.own a))->h.get? b=ap u->h'.get? b=ap u)
  (ho:∀b,H b=ap (.own a)->H' b=ap (.own a)) (ht:∀b xs,H b=ap (.tup xs)->H' b=ap (.tup xs)):ba P w H' h' a o:=by
 induction o with
 | lst xs=>obtain⟨z,au,n,r,e⟩:=x;exact⟨z,au,n,r,k _ _ (.inl rfl) e⟩
 | tup xs=>obtain⟨z,au,r,ob,e,c⟩:=x;exact⟨z,au,r,ob,k _ _ (.inl rfl) e,c⟩
 | dK kvs=>obtain⟨z,y,vs,r,ob,es,ep,e,c⟩:=x;exact⟨z,y,vs,r,ob,es,ep,k _ _ (.inl rfl) e,c⟩
 | dT kvs=>
  obtain⟨z,y,xs,r,ob,es,ep,e,c⟩:=x;exact⟨z,y,xs,Paired.Y0 r λp q z=>⟨z.1,ht _ _ z.2.1,z.2.2⟩,ob,es,ep,k _ _ (.inl rfl) e,c⟩
 | set S n=>obtain⟨ob,es,ep,t,e,c⟩:=x;exact⟨ob,es,ep,t,k _ _ (.inl rfl) e,c⟩
 | ins C dx fs=>
  obtain⟨d,z,ne,e,mA,⟨od,es,ep,e2,c⟩,r⟩:=x;exact⟨ho _ d,z,ne,k _ _ (.inl rfl) e,mA,⟨od,es,ep,k _ _ (.inr d) e2,c⟩,r⟩
 | own y=>obtain⟨ob,e⟩:=x;exact⟨ob,k _ _ (.inl rfl) e⟩
 | xd fs=>obtain⟨mA,⟨od,es,ep,e,c⟩,r⟩:=x;exact⟨mA,⟨od,es,ep,k _ _ (.inl rfl) e,c⟩,r⟩
 | rng lo hi=>obtain⟨t,u,v,e⟩:=x;exact⟨t,u,v,k _ _ (.inl rfl) e⟩
 | cV ob u ih=>obtain⟨e,q⟩:=x;exact⟨k _ _ (.inl rfl) e,ih q⟩
 | XQ ps=>
  have e:h.get? a=ap {cls:=.none,data:=.fields ps}:=x;show h'.get? a=ap {cls:=.none,data:=.fields ps};exact k a _ (.inl rfl) e
 | met f y=>
  have e:h.get? a=ap (EC (.ref f) (.ref y)):=x;show h'.get? a=ap (EC (.ref f) (.ref y));exact k a _ (.inl rfl) e
 | ext φ=>obtain⟨p,⟨o,e⟩,st⟩:=x;exact⟨st _ _ p λo q=>k _ _ (.inl rfl) q,⟨o,k _ _ (.inl rfl) e⟩,st⟩
def my.lt (x:my P w H h) (e:H a=ap o):a < h.objs.size:=(x a o e).lt
def my.fresh (x:my P w H h) (e:h.objs.size<=a):H a=bm:=by
 cases q:H a with
 | none=>rfl
 | some u=>exact absurd (AM (x.lt q) e) (A2 _)
def my.kept (x:my P w H h) (k:∀b u,h.get? b=ap u->h'.get? b=ap u):my P w H h':=λa o e=>
 (x a o e).xn (λb u _ q=>k b u q) (λ_ q=>q) λ_ _ q=>q
def my.laid (x:my P w H h) (k:∀b u,h.get? b=ap u->h'.get? b=ap u) (hp:h.objs.size<=a) (new:ba P w (upd H a o) h' a o):my P w (upd H a o) h':=λb u e=>by
 have hn:=x.fresh hp;by_cases hb:b=a
 ·subst hb;rw [aU] at e;cases e;exact new
 ·rw [ax hb] at e;exact (x b u e).xn (λc v _ q=>k c v q) (λc q=>by rw [ax (bG q hn)];exact q) λc xs q=>by rw [ax (bG q hn)];exact q
end
def Rd (H:Hp) (a:ce) (u:HO):Prop:=H a=ap u\/∃o,H a=ap (.cV o u)
def Rd.ok {H:Hp}{u:HO} (r:Rd H a u) (x:my P w H h):ba P w H h a u:=by
 rcases r with r | ⟨o,r⟩
 ·exact x a u r
 ·obtain⟨_,q⟩:=x a _ r;exact q
def Mut:Option HO->Prop
 | some (.lst _)=>True
 | some (.dK _)=>True
 | some (.dT _)=>True
 | some (.set _ _)=>True
 | some (.ins _ _ _)=>True
 | some (.ext _)=>True
 | _=>False
section
variable {H:Hp}{x:ce}{o':HO}
def my.write (ok:my P w H h) (mu:Mut (H x)) (he:e=x\/H e=ap (.own x)) (k:∀b u,b≠e->h.get? b=ap u->h'.get? b=ap u) (ë:∃u,h'.get? e=ap u)
  (new:ba P w (upd H x o') h' x o'):my P w (upd H x o') h':=λb u q=>by
 have aco:∀c y,H c=ap (.own y)->c≠x:=λc y r z=>by subst z;rw [r] at mu;exact mu
 have agr:∀c xs,H c=ap (.tup xs)->c≠x:=λc xs r z=>by subst z;rw [r] at mu;exact mu
 by_cases hb:b=x
 ·subst hb;rw [aU] at q;cases q;exact new
 ·rw [ax hb] at q;by_cases ZF:b=e
  ·have q':H b=ap (.own x):=by
    rcases he with z | z
    ·exact absurd (ZF.trans z) hb
    ·rw [ZF];exact z
   rw [q] at q';cases q';obtain⟨v,hv⟩:=ë;exact⟨v,by rw [ZF];exact hv⟩
  ·refine (ok b u q).xn (λc v hc r=>k c v ?_ r) (λc r=>by rw [ax (aco c b r)];exact r) λc xs r=>by rw [ax (agr c xs r)];exact r
   rcases hc with rfl | hc
   ·exact ZF
   ·rintro rfl;rcases he with z | z
    ·exact aco c b hc z
    ·rw [hc] at z;cases z;exact hb rfl
end
structure Un (fs ex:List ce) (H H':Hp) (h h':mo):Prop where
 keep:∀b o,h.get? b=ap o->H b=bm->b∉fs->b∉ex->h'.get? b=ap o
 slot:∀b o,h.get? b=ap o->H b=bm->b∈fs->b∉ex->∃sl,h'.get? b=ap {o with slots:=sl}
 free:∀b o,h.get? b=ap o->H b=bm->b∉ex->H' b=bm
 there:∀b o,h.get? b=ap o->b∉ex->∃o',h'.get? b=ap o'
 eS:∀b xs,H b=ap (.tup xs)->H' b=ap (.tup xs)
 uj:∀b o u,H b=ap (.cV o u)->H' b=ap (.cV o u)
 xk:∀b ps,H b=ap (.XQ ps)->∃more,H' b=ap (.XQ (ps++more))
section
variable {fs ex:List ce}{H H1:Hp}{h1:mo}{x:ce}{o:HO}
def Un.any (u:Un fs ex H H1 h h1) (q:h.get? b=ap ob) (n:H b=bm) (hx:b∉ex):∃sl,h1.get? b=ap {ob with slots:=sl}:=by
 by_cases hb:b∈fs
 ·exact u.slot b ob q n hb hx
 ·exact⟨ob.slots,u.keep b ob q n hb hx⟩
def Un.kept (k:∀b u,h.get? b=ap u->h'.get? b=ap u):Un fs ex H H h h':=
 ⟨λb ob q _ _ _=>k b ob q,λb ob q _ _ _=>⟨ob.slots,k b ob q⟩,λ_ _ _ n _=>n,λb ob q _=>⟨ob,k b ob q⟩,λ_ _ q=>q,λ_ _ _ q=>q,λ_ ps q=>⟨#[],by rw [q];simp⟩⟩
def Un.refl:Un fs ex H H h h:=Un.kept λ_ _ q=>q
def Un.laid (k:∀b u,h.get? b=ap u->h'.get? b=ap u) (hp:h.objs.size<=a) (hn:H a=bm):Un fs ex H (upd H a o) h h' where
 keep:=λb u q _ _ _=>k b u q
 slot:=λb u q _ _ _=>⟨u.slots,k b u q⟩
 free:=λb u q n _=>by rw [ax (AG (AM (Au q) hp))];exact n
 there:=λb u q _=>⟨u,k b u q⟩
 eS:=λb xs q=>by rw [ax (bG q hn)];exact q
 uj:=λb u xs q=>by rw [ax (bG q hn)];exact q
 xk:=λb ps q=>⟨#[],by rw [ax (bG q hn),q];simp⟩
def Un.write (mu:Mut (H x)) (he:e=x\/H e=ap (.own x)) (k:∀b u,b≠e->h.get? b=ap u->h'.get? b=ap u) (ë:∃u,h'.get? e=ap u):Un fs ex H (upd H x o) h h':=by
 have hx:∀b,H b=bm->b≠x:=λb n z=>by subst z;rw [n] at mu;exact mu
 have hb:∀b,H b=bm->b≠e:=λb n z=>by
  subst z;rcases he with r | r
  ·exact hx b n r
  ·rw [n] at r;cases r
 have hm:∀b u,H b=ap u->¬Mut (ap u)->b≠x:=λb u q nm z=>by subst z;rw [q] at mu;exact nm mu
 refine⟨λb u q n _ _=>k b u (hb b n) q,λb u q n _ _=>⟨u.slots,k b u (hb b n) q⟩,λb u q n _=>by rw [ax (hx b n)];exact n,λb u q _=>?_,
  λb xs q=>by rw [ax (hm b _ q λz=>z)];exact q,λb u xs q=>by rw [ax (hm b _ q λz=>z)];exact q,λb ps q=>⟨#[],by rw [ax (hm b _ q λz=>z),q];simp⟩⟩
 by_cases ZF:b=e
 ·subst ZF;exact ë
 ·exact⟨u,k b u ZF q⟩
end
def trk (h:mo) (H:Hp):List ce:=(Aw h.objs.size).filter λa=>(H a).isSome
def yr (h:mo) (H:Hp):mo:=PySem.W.hideAll h (trk h H)
def NI (h:mo) (H:Hp):(yr h H).objs.size=h.objs.size:=PySem.W.hideAll_size _ _
def Rj {H:Hp}{o:Obj} (e:h.get? b=ap o) (n:H b=bm):(yr h H).get? b=ap o:=
 PySem.W.hideAll_get _ e λhm=>by
  have q:=(Bg.mp hm).2;rw [n] at q;simp at q
def Ux {H:Hp}{o:Obj} (e:(yr h H).get? b=ap o):h.get? b=ap o/\H b=bm:=by
 have e':=PySem.W.of_hideAll (trk h H) e;refine⟨e',?_⟩;cases q:H b with
 | none=>rfl
 | some x=>
  have hm:b∈trk h H:=Bg.mpr ⟨AX.mpr (Au e'),by simp [q]⟩;have z:(yr h H).get? b=bm:=PySem.W.hideAll_none (trk h H) hm;rw [z] at e;cases e
def V5 (g h:mo) (L:ce):List (ce×Obj):=(Aw h.objs.size).filterMap λa=>if a=L\/(g.get? a).isSome=true then bm else (h.get? a).map λo=>(a,o)
def rest (g h:mo) (L d:ce):List (ce×Obj):=(V5 g h L).filter λp=>decide (p.1≠d)
end L2
variable {H H':L2.Hp}{o:F2}{Z:List (BG×F2)}{s s':Du}{g':Array PySem.GenState}{ch:List BG}{it:BG}{i j:Nat}{M:PySem.Model}{A:PySem.Around}{E:A3->Du->Prop}{v:L2.V}{Q:Unit->Du->Prop}
namespace L2
open PySem PySem.Spec PyProof.Rows
structure Mod (K:Ab) (mg:Str->Option bn) (base:mo):Prop where
 kin:K.In base
 glob:base.Ns ev mg
 blt:∃mb,base.Ns builtinsNs mb/\∀x:Str,x≠"__name__"->mb x=lw x
 nolimit:base.NoLimit
structure Cx where
 prog:tt
 w:wv
 K:Ab
 mg:Str->Option bn
 base:mo
 A:o0
 N:List Str
 s₀:cr
 H₀:Hp
 env:Env
 outer:List Env
 stack:List Env
 ex:List ce
 fn:Str->Bool
 calm:Bool
 pn:List (ce×Obj)
 xe:bn->cr->Prop
abbrev jg (x:Str):Prop:=(x==("__debug__":Str))=false
abbrev Ij (x:Str):Prop:=(x==("__classdict__":Str))=false
abbrev gM (X:Cx) (e:ii) (es:List ii):Prop:=f8 (e::es) X.env=(false,im e X.env)::f8 es X.env
abbrev kL (X:Cx) (p:Pos) (es:List ii):Prop:=(wP p (f8 es X.env)).any (·.1)=false
abbrev zQ (X:Cx) (e:ii):Prop:=∀x,foldedSetIterable e X.env x=pure x
abbrev Xr (X:Cx) (p:Pos) (l:List ii):Prop:=((wP p (f8 l X.env)).all (λx=>!x.1)&&(backToKw p (keywordEach [] X.env)).all (λx=>x.1.isSome)&&decide (l.length+([]:List Keyword).length+(if ([]:List Keyword).isEmpty then 0 else 1) < 30))=true
abbrev Oo (p q:Pos):Prop:=(p.endLine==q.line)=true
abbrev OB (X:Cx) (y:Str):Prop:=X.fn y=true\/X.env.scope.names.lookup y=ap .local
def Oz (l:List Env):List ce:=l.filterMap (·.frame)
abbrev Cx.fs (X:Cx):List ce:=Oz X.outer
def zM (sc:pr) (x:Str):Prop:=sc.names.lookup x=ap .local\/sc.names.lookup x=ap .cell\/sc.names.lookup x=ap .free
def Loc (sc:pr) (x:Str):Prop:=sc.names.lookup x=ap .local\/sc.names.lookup x=ap .cell
def Look (env:Env) (h:mo) (m:Str->Option bn) (x:Str) (u:bn):Prop:=
 (env.kindOf x=ap .local/\m x=ap u)\/((env.kindOf x=ap .cell\/env.kindOf x=ap .free)/\∃c,env.cells.lookup x=ap c/\h.IsCell c (ap u))
structure Cx.Ok (X:Cx):Prop where
 mod:Mod X.K X.mg X.base
 kind:X.env.scope.kind=.function
 glob:X.env.globals=ev
 blt:X.env.builtins=builtinsNs
 above:X.s₀.heap.objs.size<=X.env.locals
 inj:∀x y c,X.env.cells.lookup x=ap c->X.env.cells.lookup y=ap c->x=y
 has:∀x,(X.env.kindOf x=ap .cell\/X.env.kindOf x=ap .free)->∃c,X.env.cells.lookup x=ap c
 cab:∀x c,X.fn x=true->X.env.cells.lookup x=ap c->X.s₀.heap.objs.size<=c
 hd:X.calm=true->X.A.handled=bm
 frames:X.A.frames=ap X.stack
 stk:X.stack=X.outer\/(X.stack=X.env::X.outer/\X.env.frame=ap X.env.locals)
 exf:∀b∈X.ex,b≠X.env.locals/\∀x c,X.env.cells.lookup x=ap c->c≠b
 bs:∀b o,X.base.get? b=ap o->X.s₀.heap.get? b=ap o/\X.H₀ b=bm
 Xo:X.base.objs.size<=X.s₀.heap.objs.size
 Qo:∀b o,X.base.get? b=ap o->b∉X.ex
 RK:∀b∈X.ex,b∉X.fs
 ui:X.s₀.heap.FunFrames X.base X.outer
 frf:∀b∈X.fs,X.H₀ b=bm
structure Inv (X:Cx) (Z:List (ce×Obj)) (σ:List (Option V)) (H:Hp) (s:cr):Prop where
 ok:X.Ok
 os:s.os=X.s₀.os
 bare:Gc s.gens
 base:Un X.fs X.ex X.H₀ H X.s₀.heap s.heap
 loc:∃m,s.heap.Ns X.env.locals m/\∀(i:Nat) (x:Str) (v:V),X.N[i]?=ap x->σ[i]?=ap (ap v)->zM X.env.scope x->∃u,RelV v u/\Look X.env s.heap m x u
 cell:∀x c,X.env.cells.lookup x=ap c->∃v,s.heap.IsCell c v
 free:H X.env.locals=bm
 kD:∀x c,X.env.cells.lookup x=ap c->H c=bm
 pin:∀p∈X.pn++Z,s.heap.get? p.1=ap p.2/\H p.1=bm/\p.1≠X.env.locals/\p.1∉X.fs/\∀v,p.2.data≠.cell v
 bC:my X.prog X.w H s.heap
 len:σ.length=X.N.length
section
variable {X:Cx}{σ:List (Option V)}
def Cx.Ok.agt (ok:X.Ok) (e:X.base.get? b=ap o):b∉X.fs:=λhb=>by
 have:=(ok.ui.mem hb).1;rw [e] at this;cases this
def Inv.bs (I:Inv X Z σ H s):∀b o,X.base.get? b=ap o->s.heap.get? b=ap o/\H b=bm:=λb o e=>
 ⟨I.base.keep b o (I.ok.bs b o e).1 (I.ok.bs b o e).2 (I.ok.agt e) (I.ok.Qo b o e),I.base.free b o (I.ok.bs b o e).1 (I.ok.bs b o e).2 (I.ok.Qo b o e)⟩
def Inv.bk (I:Inv X Z σ H s):∀b o,X.base.get? b=ap o->s.heap.get? b=ap o:=λb o e=>(I.bs b o e).1
def Inv.mod (I:Inv X Z σ H s):Mod X.K X.mg X.base:=I.ok.mod
def Inv.v9 (I:Inv X Z σ H s):X.K.In s.heap:=I.ok.mod.kin.keeps I.bk
def Inv.lt (I:Inv X Z σ H s):X.env.locals < s.heap.objs.size:=let ⟨_,hn,_⟩:=I.loc;hn.lt
def Inv.sz (I:Inv X Z σ H s):X.s₀.heap.objs.size<=s.heap.objs.size:=AV I.ok.above (Ef I.lt)
def Inv.ags (I:Inv X Z σ H s) (h:s.heap.objs.size<=a):a∉X.fs:=λhb=>by
 obtain⟨_,o,ho,_⟩:=I.ok.ui.mem hb;exact absurd (AM (Au ho) (AV I.sz h)) (A2 _)
def Inv.Z8 (I:Inv X Z σ H s):∀x c,X.env.cells.lookup x=ap c->c≠X.env.locals:=λx c e z=>by
 obtain⟨v,o,ho,hd⟩:=I.cell x c e;obtain⟨m,⟨o',es,ep,Zz,Ŋ,_⟩,_⟩:=I.loc;rw [z,Zz] at ho;cases ho;rw [Ŋ] at hd;cases hd
def Inv.ui (I:Inv X Z σ H s):s.heap.FunFrames X.base X.outer:=by
 have all:∀(l:List Env),(∀b∈Oz l,b∈X.fs)->X.s₀.heap.FunFrames X.base l->s.heap.FunFrames X.base l:=by
  intro l
  induction l with
  | nil=>intro _ _;trivial
  | cons env r ih=>
   intro hs hl;obtain⟨hk,⟨L,o,hf,hn,ho,hd⟩,hr⟩:=hl;have hL:=hs L (by unfold Oz;rw [Ba,hf];exact BA);obtain⟨sl,e⟩:=I.base.slot L o ho (I.ok.frf L hL) hL λz=>I.ok.RK L z hL;exact⟨hk,⟨L,_,hf,hn,e,hd⟩,ih (λb hb=>hs b (by unfold Oz;rw [Ba,hf];exact A4 _ hb)) hr⟩
 exact all X.outer (λ_ hb=>hb) I.ok.ui
def Inv.stack (I:Inv X Z σ H s):s.heap.FunFrames X.base X.stack:=by
 rcases I.ok.stk with e | ⟨e,hf⟩
 ·rw [e];exact I.ui
 ·rw [e];obtain⟨m,hn,_⟩:=I.loc;refine .cons (by rw [I.ok.kind];decide) hf hn ?_ I.ui;exact Heap.get?_none_of_le (AV I.ok.Xo I.ok.above)
def Inv.IE (I:Inv X Z σ H s):∀b∈Oz X.stack,b∈X.env.locals::X.fs:=λb hb=>by
 rcases I.ok.stk with e | ⟨e,hf⟩
 ·rw [e] at hb;exact A4 _ hb
 ·rw [e] at hb;unfold Oz at hb;rw [Ba,hf] at hb;exact hb
def Inv.La (I:Inv X Z σ H s):∀b∈Oz X.stack,H b=bm:=λb hb=>by
 rcases AD.mp (I.IE b hb) with e | hb
 ·rw [e];exact I.free
 ·obtain⟨_,o,ho,_⟩:=I.ok.ui.mem hb;exact I.base.free b o ho (I.ok.frf b hb) λz=>I.ok.RK b z hb
def Inv.step {t':Nat}{d':Drawn} (I:Inv X Z σ H s)
  (SR:∀b∈ch,(b∈X.ex\/X.s₀.heap.objs.size<=b)/\b≠X.env.locals/\(∀x c,X.env.cells.lookup x=ap c->c≠b)/\∀p∈X.pn++Z,p.1≠b)
  (keep:∀b o,b≠X.env.locals->b∉X.fs->b∉ch->s.heap.get? b=ap o->H b=bm->h'.get? b=ap o)
  (slot:∀b o,b≠X.env.locals->b∈X.fs->b∉ch->s.heap.get? b=ap o->H b=bm->∃sl,h'.get? b=ap {o with slots:=sl}) (free:∀b o,b∉ch->s.heap.get? b=ap o->H b=bm->H' b=bm)
  (there:∀b o,b∉ch->s.heap.get? b=ap o->∃o',h'.get? b=ap o')
  (eS:∀b xs,H b=ap (.tup xs)->H' b=ap (.tup xs)) (uj:∀b o u,H b=ap (.cV o u)->H' b=ap (.cV o u)) (xk:∀b ps,H b=ap (.XQ ps)->∃more,H' b=ap (.XQ (ps++more)))
  (ns:∀m,s.heap.Ns X.env.locals m->h'.Ns X.env.locals m) (bC:my X.prog X.w H' h') (hg:Gc g') :
  Inv X Z σ H' {s with heap:=h',gens:=g',drawn:=d',toks:=t'}:=by
 have neL:∀b o,X.s₀.heap.get? b=ap o->b≠X.env.locals:=λb o e=>AG (AM (Au e) I.ok.above);have ę:∀b o,X.s₀.heap.get? b=ap o->b∉X.ex->b∉ch:=λb o e hx hb=>by
  rcases (SR b hb).1 with z | z
  ·exact hx z
  ·exact absurd (AM (Au e) z) (A2 _)
 have Ý:∀x c,X.env.cells.lookup x=ap c->∀v,s.heap.IsCell c v->h'.IsCell c v:=λx c e v ⟨o,ho,hd⟩=>by
  have þ:c∉ch:=λz=>(SR c z).2.2.1 x c e rfl;by_cases hc:c∈X.fs
  ·obtain⟨sl,q⟩:=slot c o (I.Z8 x c e) hc þ ho (I.kD x c e);exact⟨_,q,hd⟩
  ·exact⟨o,keep c o (I.Z8 x c e) hc þ ho (I.kD x c e),hd⟩
 refine⟨I.ok,I.os,hg,⟨λb o e n hb hx=>?_,λb o e n hb hx=>?_,λb o e n hx=>?_,λb o e hx=>?_,λb xs e=>eS b xs (I.base.eS b xs e),λb o xs e=>uj b o xs (I.base.uj b o xs e),λb ps e=>?_⟩,?_,λx c e=>?_,?_,λx c e=>?_,λp hp=>?_,bC,I.len⟩
 ·exact keep b o (neL b o e) hb (ę b o e hx) (I.base.keep b o e n hb hx) (I.base.free b o e n hx)
 ·obtain⟨sl,e1⟩:=I.base.slot b o e n hb hx;obtain⟨sl',e2⟩:=slot b _ (neL b o e) hb (ę b o e hx) e1 (I.base.free b o e n hx);exact⟨sl',e2⟩
 ·obtain⟨o',e1⟩:=I.base.there b o e hx;exact free b o' (ę b o e hx) e1 (I.base.free b o e n hx)
 ·obtain⟨o',e1⟩:=I.base.there b o e hx;exact there b o' (ę b o e hx) e1
 ·obtain⟨m1,e1⟩:=I.base.xk b ps e;obtain⟨m2,e2⟩:=xk b _ e1;exact⟨m1++m2,by rw [e2,Array.append_assoc]⟩
 ·obtain⟨m,hn,hl⟩:=I.loc;refine⟨m,ns m hn,λi x v e1 e2 e3=>?_⟩;obtain⟨u,r,l⟩:=hl i x v e1 e2 e3;refine⟨u,r,?_⟩;rcases l with l | ⟨k,c,e,z⟩
  ·exact .inl l
  ·exact .inr ⟨k,c,e,Ý x c e _ z⟩
 ·obtain⟨v,z⟩:=I.cell x c e;exact⟨v,Ý x c e v z⟩
 ·obtain⟨m,⟨o,_,_,ho,_⟩,_⟩:=I.loc;exact free _ o (λz=>(SR _ z).2.1 rfl) ho I.free
 ·obtain⟨v,o,ho,hd⟩:=I.cell x c e;exact free c o (λz=>(SR c z).2.2.1 x c e rfl) ho (I.kD x c e)
 ·obtain⟨e,n,ne,nf,d⟩:=I.pin p hp;have þ:p.1∉ch:=λz=>(SR p.1 z).2.2.2 p hp rfl;exact⟨keep p.1 p.2 ne nf þ e n,free p.1 p.2 þ e n,ne,nf,d⟩
def Inv.un {t':Nat} (I:Inv X Z σ H s) (u:Un X.fs [] H H' s.heap h') (bC:my X.prog X.w H' h'):Inv X Z σ H' {s with heap:=h',toks:=t'}:=by
 obtain⟨m,⟨o,es,ep,ho,r⟩,_⟩:=id I.loc;obtain⟨sl,hL⟩:=u.any ho I.free (by simp);exact I.step (g':=s.gens) (d':=s.drawn) (ch:=[]) (λ_ z=>nomatch z) (λb o _ hb _ e n=>u.keep b o e n hb (by simp)) (λb o _ hb _ e n=>u.slot b o e n hb (by simp)) (λb o _ e n=>u.free b o e n (by simp)) (λb o _ e=>u.there b o e (by simp)) u.eS u.uj u.xk (λm' hm=>by
  obtain⟨o',Ħ,ħ,Zz,r'⟩:=hm;rw [ho] at Zz;cases Zz;exact⟨_,Ħ,ħ,hL,r'⟩) bC I.bare
def Inv.call {t':Nat}{d':Drawn} (I:Inv X Z σ H s) (u:Un (Oz X.stack) ch H H' s.heap h') (bC:my X.prog X.w H' h') (hg:Gc g')
  (SR:∀b∈ch,(b∈X.ex\/X.s₀.heap.objs.size<=b)/\b≠X.env.locals/\(∀x c,X.env.cells.lookup x=ap c->c≠b)/\∀p∈X.pn++Z,p.1≠b) :
  Inv X Z σ H' {s with heap:=h',gens:=g',drawn:=d',toks:=t'}:=by
 obtain⟨m,⟨o,es,ep,ho,r⟩,_⟩:=id I.loc;obtain⟨sl,hL⟩:=u.any ho I.free λz=>(SR _ z).2.1 rfl;exact I.step (ch:=ch) SR (λb o hL hb hc e n=>u.keep b o e n (λz=>(AD.mp (I.IE b z)).elim hL hb) hc) (λb o _ _ hc e n=>u.any e n hc) (λb o hc e n=>u.free b o e n hc) (λb o hc e=>u.there b o e hc) u.eS u.uj u.xk (λm' hm=>by
  obtain⟨o',Ħ,ħ,Zz,r'⟩:=hm;rw [ho] at Zz;cases Zz;exact⟨_,Ħ,ħ,hL,r'⟩) bC hg
def Inv.turned {t':Nat} (I:Inv X Z σ H s) (k:∀b o,b≠it->s.heap.get? b=ap o->h'.get? b=ap o) (hn:H it=bm) (hL:it≠X.env.locals)
  (h1:it∈X.ex\/X.s₀.heap.objs.size<=it) (h2:∀x c,X.env.cells.lookup x=ap c->c≠it) (h3:∀p∈X.pn++Z,p.1≠it):Inv X Z σ H {s with heap:=h',toks:=t'}:=by
 have WC:∀b u,H b=ap u->b≠it:=λb u e z=>by rw [z,hn] at e;cases e
 refine I.step (g':=s.gens) (d':=s.drawn) (ch:=[it]) (λb hb=>?_) (λb o _ _ hc e _=>k b o (λz=>hc (by simp [z])) e) (λb o _ _ hc e _=>⟨o.slots,k b o (λz=>hc (by simp [z])) e⟩) (λ_ _ _ _ n=>n)
  (λb o hc e=>⟨o,k b o (λz=>hc (by simp [z])) e⟩) (λ_ _ e=>e) (λ_ _ _ e=>e) (λb ps e=>⟨#[],by rw [e];simp⟩) (λm hm=>?_) (λb u e=>?_) I.bare
 ·have e:b=it:=by simpa using hb
  subst e;exact⟨h1,hL,h2,h3⟩
 ·obtain⟨o,es,ep,ho,r⟩:=hm;exact⟨o,es,ep,k _ o (BP hL) ho,r⟩
 ·refine (I.bC b u e).xn (λc v hc q=>k c v ?_ q) (λ_ q=>q) λ_ _ q=>q;rcases hc with z | z
  ·rw [z];exact WC b u e
  ·exact WC c _ z
def Inv.tok (I:Inv X Z σ H s) (t:Nat):Inv X Z σ H {s with toks:=t}:=I.un (h':=s.heap) (t':=t) Un.refl I.bC
def Inv.kept {t':Nat} (I:Inv X Z σ H s) (k:∀b u,s.heap.get? b=ap u->h'.get? b=ap u):Inv X Z σ H {s with heap:=h',toks:=t'}:=I.un (Un.kept k) (I.bC.kept k)
def Inv.laid {o:HO}{t':Nat} (I:Inv X Z σ H s) (k:∀b u,s.heap.get? b=ap u->h'.get? b=ap u) (hp:s.heap.objs.size<=a) (new:ba X.prog X.w (upd H a o) h' a o) :
  Inv X Z σ (upd H a o) {s with heap:=h',toks:=t'}:=I.un (Un.laid k hp (I.bC.fresh hp)) (I.bC.laid k hp new)
def Inv.write {x:ce}{o:HO}{t':Nat} (I:Inv X Z σ H s) (mu:Mut (H x)) (he:e=x\/H e=ap (.own x)) (k:∀b u,b≠e->s.heap.get? b=ap u->h'.get? b=ap u) (ë:∃u,h'.get? e=ap u)
  (new:ba X.prog X.w (upd H x o) h' x o):Inv X Z σ (upd H x o) {s with heap:=h',toks:=t'}:=I.un (Un.write mu he k ë) (I.bC.write mu he k ë new)
def Inv.Ls {Gv:List (ce×Obj)} (I:Inv X Z σ H s) (h:∀p∈Gv,s.heap.get? p.1=ap p.2/\H p.1=bm/\p.1≠X.env.locals/\p.1∉X.fs/\∀v,p.2.data≠.cell v):Inv X Gv σ H s:=
 ⟨I.ok,I.os,I.bare,I.base,I.loc,I.cell,I.free,I.kD,λp hp=>(A9.mp hp).elim (λz=>I.pin p (Cd _ z)) (h p),I.bC,I.len⟩
def GI {N:List Str} (hN:N.Nodup) {x:Str} (a:N[i]?=ap x) (b:N[j]?=ap x):i=j:=by
 obtain⟨h1,e1⟩:=Al.mp a;obtain⟨h2,e2⟩:=Al.mp b;exact (List.getElem_inj hN).mp (e1.trans e2.symm)
def vL {x:Str} (I:Inv X Z σ H s) (hN:X.N.Nodup) (hi:X.N[i]?=ap x) (hx:Loc X.env.scope x) (r:RelV v u)
  (h:∀s',Inv X Z (σ.set i (ap v)) H s'->(∃a,BN a s.heap s'.heap/\(a=X.env.locals\/X.env.cells.lookup x=ap a))->Q () s') (hf:OB X x:=by first | exact .inl rfl | exact .inr rfl | assumption):db M A (storeName X.env x u) Q E s:=by
 obtain⟨m,hn,hl⟩:=id I.loc;have ahy:(X.env.scope.kind==.class||(X.env.scope.kind==.module&&X.env.locals != X.env.globals))=false:=by rw [I.ok.kind];rfl
 have ac6:i < σ.length:=by rw [I.len];exact (Al.mp hi).1
 have Z8:=I.Z8;have Ñ:∀{a:ce}{h':mo},(∃o,s.heap.get? a=ap o/\H a=bm)->BN a s.heap h'->my X.prog X.w H h':=λ{a h'} ha hs b ob e=>by
  obtain⟨_,_,W3⟩:=ha;refine (I.bC b ob e).xn (λc w' hc q=>(hs.2 c ?_).trans q) (λ_ q=>q) λ_ _ q=>q;rintro rfl;rcases hc with rfl | hc
  ·rw [W3] at e;cases e
  ·rw [W3] at hc;cases hc
 rcases hx with hk | hk
 ·refine wpAny_storeName_local hk hn (λh' hn' hs=>?_) ahy;obtain⟨oL,_,_,Ģ,_⟩:=id hn;refine h _ ⟨I.ok,I.os,I.bare,⟨λb o e n hb hx=>?_,λb o e n hb hx=>?_,I.base.free,λb o e hx=>?_,I.base.eS,I.base.uj,I.base.xk⟩,⟨_,hn',λj y v' e1 e2 e3=>?_⟩,λy c e=>?_,I.free,I.kD,λp hp=>?_,Ñ ⟨oL,Ģ,I.free⟩ hs,by simpa using I.len⟩ ⟨_,hs,.inl rfl⟩
  ·exact (hs.2 b (AG (AM (Au e) I.ok.above))).trans (I.base.keep b o e n hb hx)
  ·obtain⟨sl,e1⟩:=I.base.slot b o e n hb hx;exact⟨sl,(hs.2 b (AG (AM (Au e) I.ok.above))).trans e1⟩
  ·obtain⟨o',e1⟩:=I.base.there b o e hx;exact⟨o',(hs.2 b (AG (AM (Au e) I.ok.above))).trans e1⟩
  ·by_cases hj:j=i
   ·subst hj;rw [hi] at e1;cases e1;rw [CS ac6] at e2;cases e2;exact⟨u,r,.inl ⟨hk,by simp⟩⟩
   ·rw [Ce (BP hj)] at e2;obtain⟨u',r',q⟩:=hl j y v' e1 e2 e3;refine⟨u',r',?_⟩;rcases q with⟨k,e⟩ | ⟨k,c,e,z⟩
    ·refine .inl ⟨k,?_⟩;have:y≠x:=λe=>hj (GI hN e1 (e▸hi));simp [this,e]
    ·exact .inr ⟨k,c,e,z.sameBut hs (Z8 y c e)⟩
  ·obtain⟨w',z⟩:=I.cell y c e;exact⟨w',z.sameBut hs (Z8 y c e)⟩
  ·obtain⟨e,n,ne,nf,d⟩:=I.pin p hp;exact⟨(hs.2 p.1 ne).trans e,n,ne,nf,d⟩
 ·have Ć:X.fn x=true:=by
   rcases hf with z | z
   ·exact z
   ·rw [z] at hk;cases hk
  obtain⟨c,hc⟩:=I.ok.has x (.inl hk);obtain⟨w',z⟩:=I.cell x c hc;refine wpAny_storeName_cell I.ok.kind hk hc z (λh' í hs=>?_);obtain⟨oc,hoc,ahg⟩:=id z;refine h {s with heap:=h'} ⟨I.ok,I.os,I.bare,⟨λb o e n hb hx=>?_,λb o e n hb hx=>?_,I.base.free,λb o e hx=>?_,I.base.eS,I.base.uj,I.base.xk⟩,⟨m,hn.sameBut hs (BP (Z8 x c hc)),λj y v' e1 e2 e3=>?_⟩,λy c' e=>?_,I.free,I.kD,λp hp=>?_,Ñ ⟨oc,hoc,I.kD x c hc⟩ hs,by simpa using I.len⟩ ⟨c,hs,.inr hc⟩
  ·exact (hs.2 b (AG (AM (Au e) (I.ok.cab x c Ć hc)))).trans (I.base.keep b o e n hb hx)
  ·obtain⟨sl,e1⟩:=I.base.slot b o e n hb hx;exact⟨sl,(hs.2 b (AG (AM (Au e) (I.ok.cab x c Ć hc)))).trans e1⟩
  ·obtain⟨o',e1⟩:=I.base.there b o e hx;exact⟨o',(hs.2 b (AG (AM (Au e) (I.ok.cab x c Ć hc)))).trans e1⟩
  ·by_cases hj:j=i
   ·subst hj;rw [hi] at e1;cases e1;rw [CS ac6] at e2;cases e2;exact⟨u,r,.inr ⟨.inl hk,c,hc,í⟩⟩
   ·rw [Ce (BP hj)] at e2;obtain⟨u',r',q⟩:=hl j y v' e1 e2 e3;refine⟨u',r',?_⟩;rcases q with q | ⟨k,c',e,z'⟩
    ·exact .inl q
    ·refine .inr ⟨k,c',e,z'.sameBut hs ?_⟩;rintro rfl;exact hj (GI hN e1 (I.ok.inj _ _ _ e hc▸hi))
  ·by_cases hcc:c'=c
   ·subst hcc;exact⟨_,í⟩
   ·obtain⟨w2,z2⟩:=I.cell y c' e;exact⟨w2,z2.sameBut hs hcc⟩
  ·obtain⟨e,n,ne,nf,d⟩:=I.pin p hp;refine⟨(hs.2 p.1 ?_).trans e,n,ne,nf,d⟩;intro q;rw [q,hoc] at e;have q':oc=p.2:=Option.some.inj e;exact d w' (by rw [<- q'];exact ahg)
def oj {x:Str} (I:Inv X Z σ H s) (hN:X.N.Nodup) (hi:X.N[i]?=ap x) (hx:Loc X.env.scope x) (r:RelV v u)
  (h:∀s',Inv X Z (σ.set i (ap v)) H s'->Q () s') (hf:OB X x:=by first | exact .inl rfl | exact .inr rfl | assumption):db M A (storeName X.env x u) Q E s:=
 vL I hN hi hx r (λs' I' _=>h s' I') hf
def Inv.adV (I:Inv X Z σ H s) (ho:s'.os=s.os) (u:Un (Oz X.stack) ch H H' s.heap s'.heap) (bC:my X.prog X.w H' s'.heap) (hg:Gc s'.gens)
  (SR:∀b∈ch,(b∈X.ex\/X.s₀.heap.objs.size<=b)/\b≠X.env.locals/\(∀x c,X.env.cells.lookup x=ap c->c≠b)/\∀p∈X.pn++Z,p.1≠b):Inv X Z σ H' s':=by
 obtain⟨h',g',d',t',o'⟩:=s';have e:o'=s.os:=ho;subst e;exact I.call (g':=g') (t':=t') (d':=d') u bC hg SR
end
abbrev XK:=bn->Option ce->Hp->Prop
abbrev St:=List (Option V)
abbrev VK:=V->Hp->Prop
abbrev TE:=St->Hp->VK->Prop
abbrev TT:=St->Hp->(Bool->Hp->Prop)->Prop
abbrev TA:=St->Hp->(List V->Hp->Prop)->Prop
structure Ends where
 nx:St->Hp->Prop
 rt:VK
 bk:St->Hp->Prop:=λ_ _=>False
 ct:St->Hp->Prop:=λ_ _=>False
abbrev TS:=Ends->St->Hp->Prop
def EP (X:Cx) (Z:List (ce×Obj)) (σ:St) (Q:VK) (u:bn) (s':cr):Prop:=∃v H',Inv X Z σ H' s'/\RelV v u/\Q v H'
def TP (X:Cx) (Z:List (ce×Obj)) (σ:St) (Q:Bool->Hp->Prop) (b:Bool) (s':cr):Prop:=∃H',Inv X Z σ H' s'/\Q b H'
def AP (X:Cx) (Z:List (ce×Obj)) (σ:St) (Q:List V->Hp->Prop) (us:List bn) (s':cr):Prop:=∃vs H',Inv X Z σ H' s'/\Vals vs us/\Q vs H'
def SP (X:Cx) (Z:List (ce×Obj)) (D:Ends) (f:Flow) (s':cr):Prop:=
 match f with
 | .next=>∃σ' H',Inv X Z σ' H' s'/\D.nx σ' H'
 | .brk=>∃σ' H',Inv X Z σ' H' s'/\D.bk σ' H'
 | .cont=>∃σ' H',Inv X Z σ' H' s'/\D.ct σ' H'
 | .ret u=>∃v σ' H',Inv X Z σ' H' s'/\RelV v u/\D.rt v H'
def PE (X:Cx) (e:ii) (t:TE):Prop:=
 ∀(Z:List (ce×Obj)) (s:cr) (σ:St) (H:Hp) (Q:VK),Inv X Z σ H s->t σ H Q->db (dL X.prog X.w) X.A (im e X.env) (EP X Z σ Q) X.xe s
def PT (X:Cx) (e:ii) (t:TT):Prop:=
 ∀(Z:List (ce×Obj)) (s:cr) (σ:St) (H:Hp) (Q:Bool->Hp->Prop),Inv X Z σ H s->t σ H Q->db (dL X.prog X.w) X.A (isTrue e X.env (im e X.env)) (TP X Z σ Q) X.xe s
def PW (X:Cx) (e:ii) (t:TT):Prop:=
 ∀(Å:Sem bn) (Z:List (ce×Obj)) (s:cr) (σ:St) (H:Hp) (Q:Bool->Hp->Prop),Inv X Z σ H s->t σ H Q->db (dL X.prog X.w) X.A (isTrue e X.env Å) (TP X Z σ Q) X.xe s
def PW.pt {X:Cx}{e:ii}{t:TT} (h:PW X e t):PT X e t:=h _
def PA (X:Cx) (es:List ii) (t:TA):Prop:=
 ∀(pos:Pos) (Z:List (ce×Obj)) (s:cr) (σ:St) (H:Hp) (Q:List V->Hp->Prop),Inv X Z σ H s->t σ H Q->db (dL X.prog X.w) X.A (spliced (wP pos (f8 es X.env))) (AP X Z σ Q) X.xe s
def PS (X:Cx) (st:v4) (t:TS):Prop:=
 ∀(Z:List (ce×Obj)) (s:cr) (σ:St) (H:Hp) (D:Ends),Inv X Z σ H s->t D σ H->db (dL X.prog X.w) X.A (exec st X.env) (SP X Z D) X.xe s
def sF (X:Cx) (st:List v4) (t:TS):Prop:=
 ∀(Z:List (ce×Obj)) (s:cr) (σ:St) (H:Hp) (D:Ends),Inv X Z σ H s->t D σ H->db (dL X.prog X.w) X.A (execs st X.env) (SP X Z D) X.xe s
def cq {t:Sem α}{Q Q':α->cr->Prop} (h:db M A t Q E s) (hQ:∀a s,Q a s->Q' a s):db M A t Q' E s:=BZ h hQ λ_ _ x=>x
end L2
variable {x:Cg}{a:BX}{X:L2.Cx}{σ:L2.St}{Q:A3->Du->Prop}{ta tb:L2.TE}{R:L2.V->L2.V->L2.Hp->Prop}{pos:Ck}
namespace L2
open PySem PySem.Spec PyProof.Rows
section
def bin {b:ii} (ha:PE X a ta) (hb:PE X b tb) (I:Inv X Z σ H s) (h:ta σ H λx H1=>tb σ H1 λy H2=>R x y H2) {Q:α->cr->Prop}{f:bn->bn->Sem α}
  (hf:∀v u s2 x y H2,Inv X Z σ H2 s2->RelV x v->RelV y u->R x y H2->db (dL X.prog X.w) X.A (f v u) Q X.xe s2) :
  db (dL X.prog X.w) X.A (im a X.env) (λv s₁=>db (dL X.prog X.w) X.A (im b X.env) (λu s₂=>db (dL X.prog X.w) X.A (f v u) Q X.xe s₂) X.xe s₁) X.xe s:=by
 refine cq (ha Z s σ H _ I h) λv s1 ⟨x,H1,I1,r1,q1⟩=>?_;refine cq (hb Z s1 σ H1 _ I1 q1) λu s2 ⟨y,H2,I2,r2,q2⟩=>?_;exact hf v u s2 x y H2 I2 r1 r2 q2
def afY (i:Nat):TE:=λσ H Q=>∃v,σ[i]?=ap (ap v)/\Q v H
def tC (v:V):TE:=λ_ H Q=>Q v H
def eE (hN:X.N[i]?=ap x) (hv:zM X.env.scope x) (hd:jg x:=by decide) (jB:Ij x:=by decide):PE X (.Name x pos) (afY i):=by
 intro Z s σ H Q I h;obtain⟨v,e,h⟩:=h;obtain⟨m,hn,hl⟩:=I.loc;obtain⟨u,r,l⟩:=hl i x v hN e hv;have fin:EP X Z σ Q u s:=⟨v,H,I,r,h⟩;rcases l with⟨hk,hm⟩ | ⟨hk,c,hc,W5⟩
 ·exact wpAny_Name (wpAny_loadName_local I.ok.kind hk hn hm fin) hd
 ·rcases hk with hk | hk
  ·exact wpAny_Name (wpAny_loadName_cell I.ok.kind hk hc W5 fin) hd
  ·exact wpAny_Name (wpAny_loadName_free I.ok.kind hk hc W5 fin jB) hd
def Yz {i j pos}:PE X (.Constant (.int i) j pos) (tC (.int i)):=λ_ _ _ H _ I h=>wpAny_Constant_int ⟨.int i,H,I.tok _,⟨_,rfl⟩,h⟩
def ab9 {b j pos}:PE X (.Constant (.bool b) j pos) (tC (.bl b)):=λ_ _ _ H _ I h=>Constant_bool ⟨.bl b,H,I,rfl,h⟩
def Qc {j pos}:PE X (.Constant .none j pos) (tC .aN):=λ_ _ _ H _ I h=>Constant_none ⟨.aN,H,I,rfl,h⟩
def Yx {x j pos}:PE X (.Constant (.str x) j pos) (tC (.str x)):=λ_ _ _ H _ I h=>Calls.Constant_str ⟨.str x,H,I.tok _,⟨_,rfl⟩,h⟩
def Gl (X:Cx) (x:Str):Prop:=X.env.kindOf x=ap .globalImplicit
def LM (I:Inv X Z σ H s) (hg:Gl X x) (hm:X.mg x=ap u) (h:Q u s)
  (hd:jg x:=by decide):db (dL X.prog X.w) X.A (im (.Name x pos) X.env) Q E s:=
 Em I.ok.kind hg (Calls.loadGlobal_global (by rw [I.ok.glob];exact I.mod.glob.keeps I.bk) hm h) hd
def hV (I:Inv X Z σ H s) (hg:Gl X x) (hm:X.mg x=bm) (hv:lw x=ap u) (h:Q u s)
  (hn:x≠"__name__":=by decide) (hd:jg x:=by decide):db (dL X.prog X.w) X.A (im (.Name x pos) X.env) Q E s:=by
 obtain⟨mb,h1,h2⟩:=I.mod.blt;exact Em I.ok.kind hg (Calls.loadGlobal_builtin (by rw [I.ok.glob];exact I.mod.glob.keeps I.bk) hm (by rw [I.ok.blt];exact h1.keeps I.bk) ((h2 x hn).trans hv) h) hd
def rV (hg:Gl X x) (hm:X.mg x=ap u) (r:RelV v u) (hd:jg x:=by decide):PE X (.Name x pos) (tC v):=
 λ_ _ _ H _ I h=>LM I hg hm ⟨v,H,I,r,h⟩ hd
def Ui (hg:Gl X x) (hm:X.mg x=bm) (hv:lw x=ap u) (r:RelV v u) (hn:x≠"__name__":=by decide) (hd:jg x:=by decide):PE X (.Name x pos) (tC v):=
 λ_ _ _ H _ I h=>hV I hg hm hv ⟨v,H,I,r,h⟩ hn hd
variable {b:ii}
variable {tA ď:TT}{rest:List ii}
def af8 (t u:TT):TT:=λσ H Q=>t σ H λc H1=>if c=true then u σ H1 Q else Q false H1
def tOr (t u:TT):TT:=λσ H Q=>t σ H λc H1=>if c=true then Q true H1 else u σ H1 Q
def af3 (t:TT):TT:=λσ H Q=>t σ H λc H1=>Q (!c) H1
def TV (ha:PT X a tA):PW X (.BoolOp .And [a] pos) tA:=by
 intro wh Z s σ H Q I h;refine isTrue_and (cq (ha Z s σ H Q I h) λc s1 e=>?_);cases c with
 | true=>exact isTrue_and_nil e
 | false=>exact e
def Yp (ha:PT X a tA):PW X (.BoolOp .Or [a] pos) tA:=by
 intro wh Z s σ H Q I h;refine isTrue_or (cq (ha Z s σ H Q I h) λc s1 e=>?_);cases c with
 | false=>exact isTrue_or_nil e
 | true=>exact e
def Yq (ha:PT X a tA) (hb:PW X (.BoolOp .And (b::rest) pos) ď):PW X (.BoolOp .And (a::b::rest) pos) (af8 tA ď):=by
 intro wh Z s σ H Q I h;refine isTrue_and (cq (ha Z s σ H _ I h) λc s1 ⟨H1,I1,q1⟩=>?_);cases c with
 | true=>exact hb wh Z s1 σ H1 Q I1 q1
 | false=>exact⟨H1,I1,q1⟩
def ab4 (ha:PT X a tA) (hb:PW X (.BoolOp .Or (b::rest) pos) ď):PW X (.BoolOp .Or (a::b::rest) pos) (tOr tA ď):=by
 intro wh Z s σ H Q I h;refine isTrue_or (cq (ha Z s σ H _ I h) λc s1 ⟨H1,I1,q1⟩=>?_);cases c with
 | true=>exact⟨H1,I1,q1⟩
 | false=>exact hb wh Z s1 σ H1 Q I1 q1
def Yr (ha:PT X a tA):PT X (.UnaryOp .Not a pos) (af3 tA):=by
 intro Z s σ H Q I h;exact isTrue_not (ha Z s σ H (λc H1=>Q (!c) H1) I h)
def abx (ta tb:TE):TE:=λσ H Q=>ta σ H λx H1=>∃c,x=.bl c/\if c=true then tb σ H1 Q else Q (.bl false) H1
def Yy {op}{t:TE} (h:PE X a t):PE X (.BoolOp op [a] pos) t:=λZ s σ H Q I hw=>BoolOp_one (h Z s σ H Q I hw)
def YB (ha:PE X a ta) (hb:PE X (.BoolOp .And (b::rest) pos) tb):PE X (.BoolOp .And (a::b::rest) pos) (abx ta tb):=by
 intro Z s σ H Q I h;refine BoolOp_and (cq (ha Z s σ H _ I h) λv s1 ⟨x,H1,I1,r1,q1⟩=>?_);obtain⟨c,rfl,q1⟩:=q1;cases r1;refine C2 ?_;cases c with
 | true=>exact hb Z s1 σ H1 Q I1 q1
 | false=>exact⟨.bl false,H1,I1,rfl,q1⟩
def tIf (t:TT) (ta tb:TE):TE:=λσ H Q=>t σ H λc H1=>if c=true then ta σ H1 Q else tb σ H1 Q
def Gx {c:ii} (hc:PT X c tA) (ha:PE X a ta) (hb:PE X b tb):PE X (.IfExp c a b pos) (tIf tA ta tb):=by
 intro Z s σ H Q I h;refine wpAny_IfExp (cq (hc Z s σ H _ I h) λd s1 ⟨H1,I1,q1⟩=>?_);cases d with
 | true=>exact ha Z s1 σ H1 Q I1 q1
 | false=>exact hb Z s1 σ H1 Q I1 q1
end
end L2
variable {xs ys:List L2.V}{e tg:BX}{y:L2.V}{D:L2.Ends}{te:L2.TE}{es:List BX}{k n:Nat}{Ú px py pt:Ck}{body:List PySem.Stmt}
namespace L2
open PySem PySem.Spec PyProof.Rows
def de (K:Ab) (H:Hp) (a:ce) (xs:List V):Prop:=
 Rd H a (.lst xs)\/
  ∃(o:Obj) (au:Array bn) (n:Nat),K.lookup a=ap o/\o.cls=.type "list"/\o.dict=bm/\o.data=.seq au n/\au.size<=sizeLine/\Vals xs au.toList
def dR (K:Ab) (H:Hp) (a:ce) (xs:List V):Prop:=
 Rd H a (.tup xs)\/
  ∃(o:Obj) (au:Array bn) (n:Nat),K.lookup a=ap o/\o.cls=.type "tuple"/\o.data=.seq au n/\au.size<=sizeLine/\Vals xs au.toList
def ah9:bn->Option V
 | .none=>ap .aN
 | .bool b=>ap (.bl b)
 | .int i _=>ap (.int i)
 | .str x _=>ap (.str x)
 | .bytes b _=>ap (.byt b)
 | .float b _=>ap (.flt b)
 | .ref a=>ap (.ref a)
 | .type n=>ap (.ty n)
 | _=>bm
def RelV.abs {x:V} (r:RelV x u):ah9 u=ap x:=by
 cases x with
 | aN=>cases r;rfl
 | bl _=>cases r;rfl
 | int _=>obtain⟨t,rfl⟩:=r;rfl
 | str _=>obtain⟨t,rfl⟩:=r;rfl
 | byt _=>obtain⟨t,rfl⟩:=r;rfl
 | flt _=>obtain⟨t,rfl⟩:=r;rfl
 | ref _=>cases r;rfl
 | ty _=>cases r;rfl
def RelV.inj {x:V} (r:RelV x u) (q:RelV y u):x=y:=Option.some.inj (r.abs.symm.trans q.abs)
theorem Vals.inj:∀{xs ys:List V}{us:List bn},Vals xs us->Vals ys us->xs=ys
 | _,_,_,.nil,.nil=>rfl
 | _,_,_,.cons r t,.cons r' t'=>by rw [r.inj r',Vals.inj t t']
section
variable {a:ce}
def de.of {K:Ab} (h:H a=ap (.lst xs)):de K H a xs:=.inl (.inl h)
def dR.of {K:Ab} (h:H a=ap (.tup xs)):dR K H a xs:=.inl (.inl h)
theorem Inv.list (I:Inv X Z σ H s) (h:de X.K H a xs):∃au:List bn,Vals xs au/\PlainL s.heap a au.toArray/\xs.length<=sizeLine:=by
 rcases h with h | ⟨o,au,n,hk,hc,hd,hs,hz,r⟩
 ·obtain⟨z,au,n,r,e⟩:=h.ok I.bC;exact⟨au,r,⟨_,n,e,rfl,rfl,rfl⟩,z⟩
 ·refine⟨au.toList,r,⟨o,n,I.v9 a o hk,hc,hd,by simpa using hs⟩,?_⟩;have e:=r.length;simp only [B3] at e;omega
theorem Inv.tuple (I:Inv X Z σ H s) (h:dR X.K H a xs):∃au:List bn,Vals xs au/\IsTup s.heap a au.toArray/\xs.length<=sizeLine:=by
 rcases h with h | ⟨o,au,n,hk,hc,hs,hz,r⟩
 ·obtain⟨z,au,r,p⟩:=h.ok I.bC;exact⟨au,r,p,z⟩
 ·refine⟨au.toList,r,⟨o,I.v9 a o hk,hc,n,by simpa using hs⟩,?_⟩;have e:=r.length;simp only [B3] at e;omega
def Inv.GW (I:Inv X Z σ H s) (h:de X.K H a xs) (h':de X.K H a ys):xs=ys:=by
 obtain⟨au,r,⟨o,n,e,_,_,d⟩,_⟩:=I.list h;obtain⟨its',r',⟨o',n',e',_,_,d'⟩,_⟩:=I.list h';rw [e] at e';cases e';rw [d] at d';injection d' with d1 _;have:au=its':=by simpa using congrArg Array.toList d1
 subst this;exact r.inj r'
def Inv.lU (I:Inv X Z σ H s) (h:dR X.K H a xs) (h':dR X.K H a ys):xs=ys:=by
 obtain⟨au,r,⟨o,e,_,n,d⟩,_⟩:=I.tuple h;obtain⟨its',r',⟨o',e',_,n',d'⟩,_⟩:=I.tuple h';rw [e] at e';cases e';rw [d] at d';injection d' with d1 _;have:au=its':=by simpa using congrArg Array.toList d1
 subst this;exact r.inj r'
end
abbrev Cx.uV (X:Cx) (E:bn->cr->Prop):Cx:={X with xe:=E}
abbrev Cx.vT (X:Cx):Cx:=X.uV λ_ _=>False
def Cx.Ok.uV (ok:X.Ok) (E:bn->cr->Prop):(X.uV E).Ok:=
 ⟨ok.mod,ok.kind,ok.glob,ok.blt,ok.above,ok.inj,ok.has,ok.cab,ok.hd,ok.frames,ok.stk,ok.exf,ok.bs,ok.Xo,ok.Qo,ok.RK,ok.ui,ok.frf⟩
def Cx.Ok.kO (ok:(X.uV E).Ok):X.Ok:=
 ⟨ok.mod,ok.kind,ok.glob,ok.blt,ok.above,ok.inj,ok.has,ok.cab,ok.hd,ok.frames,ok.stk,ok.exf,ok.bs,ok.Xo,ok.Qo,ok.RK,ok.ui,ok.frf⟩
section
def Inv.uV (I:Inv X Z σ H s) (E:bn->cr->Prop):Inv (X.uV E) Z σ H s:=⟨I.ok.uV E,I.os,I.bare,I.base,I.loc,I.cell,I.free,I.kD,I.pin,I.bC,I.len⟩
def Inv.kO (I:Inv (X.uV E) Z σ H s):Inv X Z σ H s:=⟨I.ok.kO,I.os,I.bare,I.base,I.loc,I.cell,I.free,I.kD,I.pin,I.bC,I.len⟩
def SP.kO {f:Flow} (h:SP (X.uV E) Z D f s'):SP X Z D f s':=by
 cases f with
 | next=>obtain⟨σ',H',I,q⟩:=h;exact⟨σ',H',I.kO,q⟩
 | brk=>obtain⟨σ',H',I,q⟩:=h;exact⟨σ',H',I.kO,q⟩
 | cont=>obtain⟨σ',H',I,q⟩:=h;exact⟨σ',H',I.kO,q⟩
 | ret u=>obtain⟨v,σ',H',I,r,q⟩:=h;exact⟨v,σ',H',I.kO,r,q⟩
def sF.vT {st:List v4}{t:TS} (h:sF X.vT st t):sF X st t:=λZ s σ H D I hw=>
 BZ (h Z s σ H D (I.uV _) hw) (λ_ _ q=>q.kO) λ_ _ z=>Bt z
end
section
variable {st:v4}{rest:List v4}{t u:TS}
def abp:TS:=λD σ H=>D.nx σ H
def af0 (t u:TS):TS:=λD σ H=>t {D with nx:=u D} σ H
def xB:sF X [] abp:=λ_ _ σ H _ I h=>D7 ⟨σ,H,I,h⟩
def Gn (h1:PS X st t) (h2:sF X rest u):sF X (st::rest) (af0 t u):=by
 intro Z s σ H D I h;refine wpAny_execs_cons (cq (h1 Z s σ H {D with nx:=u D} I h) λf s1 q=>?_);cases f with
 | next=>
  obtain⟨σ',H',I',q⟩:=q;exact h2 Z s1 σ' H' D I' q
 | ret v=>exact q
 | brk=>exact q
 | cont=>exact q
def TY (h1:PS X st t):sF X [st] t:=by
 intro Z s σ H D I h;refine wpAny_execs_cons (cq (h1 Z s σ H D I h) λf s1 q=>?_);cases f with
 | next=>exact D7 q
 | ret v=>exact q
 | brk=>exact q
 | cont=>exact q
def abu:TS:=λD σ H=>D.ct σ H
def Gp:PS X (.Continue pos) abu:=λ_ _ σ H _ I h=>wpAny_Continue ⟨σ,H,I,h⟩
def Inv.quiet (I:Inv X Z σ H s):interactive X.env=false:=by simp [interactive,I.ok.kind]
def abr (te:TE):TS:=λD σ H=>te σ H λ_ H1=>D.nx σ H1
def rT (he:PE X e te) (hs:lm e bm pos.line X.env=pure false:=by rfl):PS X (.Expr e pos) (abr te):=by
 intro Z s σ H D I h;exact wpAny_Expr_any (cq (he Z s σ H _ I h) λv s1 ⟨x,H1,I1,r1,q1⟩=>⟨σ,H1,I1,q1⟩) I.quiet hs
def af1 (te:TE):TS:=λD σ H=>te σ H D.rt
def xC (he:PE X e te):PS X (.Return (ap e) pos) (af1 te):=by
 intro Z s σ H D I h;exact wpAny_Return_some (cq (he Z s σ H _ I h) λv s1 ⟨x,H1,I1,r1,q1⟩=>⟨x,σ,H1,I1,r1,q1⟩)
def af5 (c:TT) (t u:TS):TS:=λD σ H=>c σ H λb H1=>if b=true then t D σ H1 else u D σ H1
def PY {c:ii}{a b:List v4}{tc:TT} (hc:PT X c tc) (ha:sF X a t) (hb:sF X b u):PS X (.If c a b pos) (af5 tc t u):=by
 intro Z s σ H D I h;refine wpAny_If (cq (hc Z s σ H _ I h) λd s1 ⟨H1,I1,q1⟩=>?_);cases d with
 | true=>exact ha Z s1 σ H1 D I1 q1
 | false=>exact hb Z s1 σ H1 D I1 q1
def XU:TS:=λ_ _ _=>False
end
abbrev TG:=V->St->Hp->(St->Hp->Prop)->Prop
abbrev TGs:=List V->St->Hp->(St->Hp->Prop)->Prop
def PG (X:Cx) (Ë:ii) (t:TG):Prop:=
 ∀(Z:List (ce×Obj)) (s:cr) (σ:St) (H:Hp) (v:V) (u:bn) (Q:St->Hp->Prop),Inv X Z σ H s->RelV v u->t v σ H Q->
  db (dL X.prog X.w) X.A (Fk Ë X.env u) (λ_ s'=>∃σ' H',Inv X Z σ' H' s'/\Q σ' H') X.xe s
def PGs (X:Cx) (ts:List ii) (t:TGs):Prop:=
 ∀(Z:List (ce×Obj)) (s:cr) (σ:St) (H:Hp) (vs:List V) (us:List bn) (Q:St->Hp->Prop),Inv X Z σ H s->Vals vs us->t vs σ H Q->
  db (dL X.prog X.w) X.A (assignInOrder ((zn ts X.env).map (·.2)) us) (λ_ s'=>∃σ' H',Inv X Z σ' H' s'/\Q σ' H') X.xe s
abbrev SD:=V->V->V->Hp->(Hp->Prop)->Prop
def Ol (X:Cx) (t:SD):Prop:=
 ∀(Z:List (ce×Obj)) (s:cr) (σ:St) (H:Hp) (o i v:V) (ov iv u:bn) (Q:Hp->Prop),Inv X Z σ H s->RelV o ov->RelV i iv->RelV v u->t o i v H Q->
  db (dL X.prog X.w) X.A (setItem ov iv u) (λ_ s'=>∃H',Inv X Z σ H' s'/\Q H') X.xe s
section
def d5 (i:Nat):TG:=λv σ H Q=>Q (σ.set i (ap v)) H
def T8 (hN:X.N.Nodup) (hi:X.N[i]?=ap x) (hx:Loc X.env.scope x) (hf:OB X x:=by first | exact .inl rfl | exact .inr rfl | assumption):PG X (.Name x pos) (d5 i):=by
 intro Z s σ H v u Q I r h;exact wpAny_assign_Name (oj I hN hi hx r (λs' I'=>⟨_,H,I',h⟩) hf)
def Vt:TGs:=λvs σ H Q=>vs=[]/\Q σ H
def mY (t:TG) (u:TGs):TGs:=λvs σ H Q=>∃v r,vs=v::r/\t v σ H λσ' H'=>u r σ' H' Q
def cH:PGs X [] Vt:=by
 intro Z s σ H vs us Q I r h;obtain⟨e,h⟩:=h;subst e;cases r;exact assignInOrder_nil ⟨σ,H,I,h⟩
def aB {t:TG}{u:TGs} (h1:PG X e t) (h2:PGs X es u)
  (hs:(zn (e::es) X.env).map (·.2)=Fk e X.env::(zn es X.env).map (·.2):=by rfl):PGs X (e::es) (mY t u):=by
 intro Z s σ H vs us Q I r h;obtain⟨v,vr,e1,h⟩:=h;subst e1;cases r with
 | cons r rr=>
  rw [hs];refine assignInOrder_cons (cq (h1 Z s σ H _ _ _ I r h) λ_ s1 ⟨σ1,H1,I1,q1⟩=>?_);exact h2 Z s1 σ1 H1 _ _ Q I1 rr q1
def Vr (K:Ab) (n:Nat) (t:TGs):TG:=λv σ H Q=>∃a xs,v=.ref a/\dR K H a xs/\xs.length=n/\t xs σ H Q
def eB {t:TGs} (hc:X.calm=true) (h:PGs X es t)
  (hn:(zn es X.env).length=n:=by rfl) (o6:(zn es X.env).findIdx? (·.1)=bm:=by rfl):PG X (.Tuple es k pos) (Vr X.K n t):=by
 intro Z s σ H v u Q I r hw;obtain⟨a,xs,e1,hq,hl,hw⟩:=hw;subst e1;cases r;obtain⟨au,rv,ht,hz⟩:=I.tuple hq;refine assign_Tuple_tuple (I.ok.hd hc) ht (by simp [hn,<- hl,rv.length]) o6 λh' hx=>?_;have I1:Inv X Z σ H {s with heap:=h'}:=I.kept (t':=s.toks) λb o e=>hx b o (AG (Au e)) e;exact h Z _ σ H xs _ Q I1 (by simpa using rv) hw
def ahM (to ti:TE) (t:SD):TG:=λv σ H Q=>to σ H λo H1=>ti σ H1 λi H2=>t o i v H2 λH3=>Q σ H3
def Yw {o i:ii}{to ti:TE}{t:SD} (ho:PE X o to) (hi:PE X i ti) (hs:Ol X t)
  (ha:∀v,Fk (.Subscript o i pos) X.env v=(do
   let ov <- Da [v] (im o X.env)
   let iv <- Da [v,ov] (im i X.env)
   standAt pos
   Da [v,ov,iv] (setItem ov iv v)
   release [v,ov,iv] []):=by intro _;rfl):PG X (.Subscript o i pos) (ahM to ti t):=by
 intro Z s σ H v u Q I r h;refine Aa (Bd (cq (ho Z s σ H _ I h) λov s1 ⟨x,H1,I1,r1,q1⟩=>?_));refine Aa (Bd (cq (hi Z s1 σ H1 _ I1 q1) λiv s2 ⟨y,H2,I2,r2,q2⟩=>?_));refine Aa (EN (Aa (Bd (cq (hs Z s2 σ H2 x y v ov iv u _ I2 r1 r2 r q2) λ_ s3 ⟨H3,I3,q3⟩=>?_))));exact wpAny_release ⟨σ,H3,I3,q3⟩
def XX (te:TE) (g:TG):TS:=λD σ H=>te σ H λx H1=>g x σ H1 D.nx
def PZ {g:TG} (he:PE X e te) (hg:PG X tg g) (hs:EQ [tg] e pos.line X.env=pure false:=by rfl) (hw:Fa [tg] e X.env=pure bm:=by rfl)
  (h1:(zn [tg] X.env).map (·.2)=[Fk tg X.env]:=by rfl):PS X (.Assign [tg] e pos) (XX te g):=by
 intro Z s σ H D I h;refine wpAny_Assign_stores (cq (he Z s σ H _ I h) λv s1 ⟨x,H1,I1,r1,q1⟩=>?_) hs hw;rw [h1];exact cq (hg Z s1 σ H1 x v _ I1 r1 q1) λ_ s2 q=>q
def tq (hN:X.N.Nodup) (hi:X.N[i]?=ap x) (hx:Loc X.env.scope x) (he:PE X e te) (hs:lm e (ap (.Name x Ú)) pos.line X.env=pure false:=by rfl) (hf:OB X x:=by first | exact .inl rfl | exact .inr rfl | assumption) :
  PS X (.Assign [.Name x Ú] e pos) (XX te (d5 i)):=by
 intro Z s σ H D I h;refine wpAny_Assign_Name (cq (he Z s σ H _ I h) λv s1 ⟨y,H1,I1,r1,q1⟩=>?_) hs;exact oj I1 hN hi hx r1 (λs2 I2=>⟨_,H1,I2,q1⟩) hf
def af2 (i j:Nat) (ta:TA):TS:=λD σ H=>ta σ H λvs H1=>∃v w,vs=[v,w]/\D.nx ((σ.set i (ap v)).set j (ap w)) H1
def Yt {y:Str}{b:ii}{ta:TA}{kt k2 Ys} (hc:X.calm=true) (hN:X.N.Nodup) (hi:X.N[i]?=ap x) (hj:X.N[j]?=ap y) (Ą:i≠j)
  (hx:X.env.scope.names.lookup x=ap .local) (hy:X.env.scope.names.lookup y=ap .local) (ha:PA X [a,b] ta)
  (hw:Fa [.Tuple [.Name x px,.Name y py] kt pt] (.Tuple [a,b] k2 Ys) X.env=pure (ap [x,y]))
  (hs:EQ [.Tuple [.Name x px,.Name y py] kt pt] (.Tuple [a,b] k2 Ys) pos.line X.env=pure false:=by rfl) :
  PS X (.Assign [.Tuple [.Name x px,.Name y py] kt pt] (.Tuple [a,b] k2 Ys) pos) (af2 i j ta):=by
 intro Z s σ H D I h;refine Aa (EN ?_);refine Aa (Ad ?_);rw [if_neg ⋯];refine Aa (Tuple_ (cq (ha _ Z s σ H _ I h) λus s1 ⟨vs,H1,I1,r1,q1⟩=>?_));obtain⟨v,w,e1,q1⟩:=q1;subst e1;obtain⟨u1,u2,rfl,rv,xA⟩:∃u1 u2,us=[u1,u2]/\RelV v u1/\RelV w u2:=by
  cases r1 with
  | cons p q=>
   cases q with
   | cons p' q'=>
    cases q';exact⟨_,_,rfl,p,p'⟩
 refine AE ?_ (by show 2<=sizeLine;decide);have I2:Inv X Z σ H1 {s1 with heap:=s1.heap.push {cls:=.type "tuple",data:=.seq [u1,u2].toArray}}:=I1.kept (t':=s1.toks) λb o e=>Ag _ e;rw [hw];refine Aa (Ad ?_);refine Aa (C7 (Aa (unpackItems_tuple (items:=#[u1,u2]) (I.ok.hd hc) (FD s1.heap _) λh' wx=>?_)));have I3:=I2.kept (h':=h') (t':=s1.toks) λb o e=>wx b o (AG (Au e)) e;show db _ _ (assignInOrder [λv=>bindName X.env y v,λv=>bindName X.env x v] [u2,u1] >>= λ_=>pure Flow.next) _ _ _;refine Aa (assignInOrder_cons (wpAny_bindName (oj I3 hN hj (.inl hy) xA (λs2 I4=>?_) (.inr hy))));refine assignInOrder_cons (wpAny_bindName (oj I4 hN hi (.inl hx) rv (λs3 I5=>assignInOrder_nil (Ad ?_)) (.inr hx)));rw [List.set_comm _ _ (BP Ą)] at I5;exact⟨_,H1,I5,q1⟩
end
section
def XS (c:TT) (tb:TS):TS:=λD σ H=>∃W:Nat->St->Hp->Prop,(∃m,W m σ H)/\∀m σ H,W m σ H->
 c σ H λb H1=>if b=true then ∃N:St->Hp->Prop,(∀σ' H',N σ' H'->∃m',m' < m/\W m' σ' H')/\tb {D with nx:=N,ct:=N,bk:=D.nx} σ H1 else D.nx σ H1
def PU {c:ii}{tc:TT}{tb:TS} (hp:wS (dL X.prog X.w) X.A X.env X.xe) (hc:PT X c tc) (hb:sF X body tb):PS X (.While c body [] pos) (XS tc tb):=by
 intro Z s σ H D I h;obtain⟨W,⟨m0,w0⟩,turn⟩:=h;refine wpAny_While (codeAny_whileLoop (λn s'=>∃σ' H',Inv X Z σ' H' s'/\W n σ' H') ?_ m0 ⟨σ,H,I,w0⟩);rintro n s1 ⟨σ1,H1,I1,w1⟩;refine Cq hp (cq (hc Z s1 σ1 H1 _ I1 (turn n σ1 H1 w1)) λb s2 ⟨H2,I2,q2⟩=>?_);cases b with
 | true=>
  obtain⟨N,hN,q2⟩:=q2;refine Cq hp (cq (hb Z s2 σ1 H2 _ I2 q2) λf s3 q3=>?_);cases f with
  | next=>
   obtain⟨σ3,H3,I3,n3⟩:=q3;obtain⟨m',hm,w3⟩:=hN σ3 H3 n3;exact⟨m',hm,σ3,H3,I3,w3⟩
  | cont=>
   obtain⟨σ3,H3,I3,n3⟩:=q3;obtain⟨m',hm,w3⟩:=hN σ3 H3 n3;exact⟨m',hm,σ3,H3,I3,w3⟩
  | brk=>exact q3
  | ret v=>exact q3
 | false=>
  exact D7 ⟨σ1,H2,I2,q2⟩
end
structure It where
 go:Nat->Hp->Prop
 Wi:Nat->Hp->V->Hp->Prop
 stop:Nat->Hp->Prop
def vH (X:Cx) (Z:List (ce×Obj)) (H:Hp) (b:ce):Prop:=
 H b=bm/\b≠X.env.locals/\b∉X.fs/\(b∈X.ex\/X.s₀.heap.objs.size<=b)/\(∀x c,X.env.cells.lookup x=ap c->c≠b)/\∀p∈X.pn++Z,p.1≠b
def Inv.yI (I:Inv X Z σ H s) (hb:s.heap.objs.size<=b) (hn:H' b=bm):vH X Z H' b:=by
 refine⟨hn,Nat.ne_of_gt (AM I.lt hb),I.ags hb,.inr (AV I.sz hb),λx c e z=>?_,λp hp z=>?_⟩
 ·obtain⟨v,q⟩:=I.cell x c e;exact absurd (AM q.lt (by rw [z];exact hb)) (A2 _)
 ·exact absurd (AM (Au (I.pin p hp).1) (by rw [z];exact hb)) (A2 _)
structure Turn (P:tt) (w:wv) (K:Ab) (tg:ii) (J:It) (fp:List ce) (it:ce) (tn:Nat->mo->Prop):Prop where
 mem:it∈fp
 obj:∀i h,tn i h->∀b∈fp,∃o,h.get? b=ap o/\∀v,o.data≠.cell v
 keep:∀i h h',tn i h->(∀b∈fp,∀o,h.get? b=ap o->h'.get? b=ap o)->tn i h'
 item:∀(X:Cx),X.prog=P->X.w=w->X.K=K->X.calm=true->∀(i:Nat) (Z:List (ce×Obj)) (s:cr) (σ:St) (H:Hp) (E:bn->cr->Prop),Inv X Z σ H s->(∀b∈fp,vH X Z H b)->tn i s.heap->J.go i H->
  db (dL P w) X.A (FS (.ref it)) (λr s1=>∃u,r=ap u/\
   db (dL P w) X.A (GE tg (.ref it) u) (λ_ s2=>∃x H',Inv X Z σ H' s2/\RelV x u/\J.Wi i H x H'/\tn (i+1) s2.heap/\∀b∈fp,H' b=bm) E s1) E s
 done:∀(X:Cx),X.prog=P->X.w=w->X.K=K->X.calm=true->∀(i:Nat) (Z:List (ce×Obj)) (s:cr) (σ:St) (H:Hp) (E:bn->cr->Prop),Inv X Z σ H s->(∀b∈fp,vH X Z H b)->tn i s.heap->J.stop i H->
  db (dL P w) X.A (FS (.ref it)) (λr s1=>r=bm/\Inv X Z σ H s1) E s
 self:∀(A:o0) (i:Nat) (s:cr) (Q:bn->cr->Prop) (E:bn->cr->Prop),tn i s.heap->Q (.ref it) s->db (dL P w) A (pyIter (.ref it)) Q E s
abbrev TI:=St->Hp->(It->Hp->Prop)->Prop
def PIE (X:Cx) (Z:List (ce×Obj)) (σ:St) (tg:ii) (R:It->Hp->Prop) (ě:bn) (s2:cr):Prop:=
 ∃(it:ce) (fp:List ce) (tn:Nat->mo->Prop) (J:It) (H':Hp),ě=.ref it/\Inv X Z σ H' s2/\Turn X.prog X.w X.K tg J fp it tn/\tn 0 s2.heap/\(∀b∈fp,vH X Z H' b)/\R J H'
def PI (X:Cx) (tg iter:ii) (wi:TI):Prop:=
 ∀(Z:List (ce×Obj)) (s:cr) (σ:St) (H:Hp) (R:It->Hp->Prop),Inv X Z σ H s->wi σ H R->
  db (dL X.prog X.w) X.A (im iter X.env) (λv s1=>db (dL X.prog X.w) X.A (pyIter v) (PIE X Z σ tg R) X.xe s1) X.xe s
def Hj {n:String}{vs:Array bn}{Q:Unit->cr->Prop} (ho:s.heap.get? it=ap o) (hc:o.cls=.type n) (hd:o.data=.fields vs)
  (hn:["enumerate","zip","dict_itemiterator","dict_reverseitemiterator","odict_iterator","itertools.zip_longest","itertools.pairwise"].contains n=false) (hQ:Q () s):db M A (GE tg (.ref it) u) Q E s:=by
 unfold GE;cases tg <;> first
  | exact Ad hQ
  | (cases u <;> first
    | exact Ad hQ
    | (
      refine Aa (wpAny_load ho ?_);rw [hc,hd];show db M A (if (["enumerate","zip","dict_itemiterator","dict_reverseitemiterator","odict_iterator","itertools.zip_longest","itertools.pairwise"].contains n&&vs[0]?==ap (ss _))=true then _ else _) Q E s;rw [if_neg (by intro h;rw [hn,Fy] at h;cases h)];exact Ad hQ))
def Itl (K:Ab) (a:ce):It:=
 ⟨λi H=>∃xs x,de K H a xs/\xs[i]?=ap x,λi H x H'=>H'=H/\∀xs,de K H a xs->xs[i]?=ap x,λi H=>∃xs,de K H a xs/\xs.length<=i⟩
def Itt (K:Ab) (a:ce):It:=
 ⟨λi H=>∃xs x,dR K H a xs/\xs[i]?=ap x,λi H x H'=>H'=H/\∀xs,dR K H a xs->xs[i]?=ap x,λi H=>∃xs,dR K H a xs/\xs.length<=i⟩
def Itr (lo:Int) (n:Nat):It:=⟨λi _=>i < n,λi H x H'=>H'=H/\x=.int (lo+i),λi _=>n<=i⟩
theorem vJ {K:Ab} (a it:ce):Turn P w K tg (Itl K a) [it] it (λi h=>h.IsListIter it a i) where
 mem:=by simp
 obj:=λi h st b hb=>by
  have e:b=it:=by simpa using hb
  subst e;obtain⟨o,e,c,d⟩:=st;exact⟨o,e,λv z=>by rw [d] at z;cases z⟩
 keep:=λi h h' st k=>st.at λo e=>k it (by simp) o e
 item:=by
  intro X hP hw hK hc i Z s σ H E I hf st hg;subst hP hw hK;obtain⟨xs,x,hq,hx⟩:=hg;obtain⟨au,rv,p,hz⟩:=I.list hq;obtain⟨u,hu,ru⟩:=rv.get hx;obtain⟨f0,f1,f2,f3,f4,f5⟩:=hf it (by simp);refine wpAny_pyNext_list_item st p.isList (x:=u) (by simpa using hu) λh' rS sb=>?_;have I1:Inv X Z σ H {s with heap:=h'}:=I.turned (t':=s.toks) (λb o hb e=>(sb.2 b hb).trans e) f0 f1 f3 f4 f5;obtain⟨o,e,c,d⟩:=id rS;exact⟨u,rfl,Hj (s:={s with heap:=h'}) e c d ⋯ ⟨x,H,I1,ru,⟨rfl,λys hy=>by rw [I.GW hy hq];exact hx⟩,rS,λb hb=>(hf b hb).1⟩⟩
 done:=by
  intro X hP hw hK hc i Z s σ H E I hf st hg;subst hP hw hK;obtain⟨xs,hq,hx⟩:=hg;obtain⟨au,rv,p,hz⟩:=I.list hq;obtain⟨f0,f1,f2,f3,f4,f5⟩:=hf it (by simp);have hl:=rv.length;exact wpAny_pyNext_list_end (I.ok.hd hc) st p.isList (by simp;omega) λh' eb=>⟨rfl,I.turned (t':=s.toks) (λb o hb e=>eb b o hb e) f0 f1 f3 f4 f5⟩
 self:=λ_ _ _ _ _ st h=>wpAny_pyIter_listiter st h
theorem Iz {K:Ab} (a it:ce):Turn P w K tg (Itt K a) [it] it (λi h=>h.IsTupleIter it a i) where
 mem:=by simp
 obj:=λi h st b hb=>by
  have e:b=it:=by simpa using hb
  subst e;obtain⟨o,e,c,d⟩:=st;exact⟨o,e,λv z=>by rw [d] at z;cases z⟩
 keep:=λi h h' st k=>st.at λo e=>k it (by simp) o e
 item:=by
  intro X hP hw hK hc i Z s σ H E I hf st hg;subst hP hw hK;obtain⟨xs,x,hq,hx⟩:=hg;obtain⟨au,rv,p,hz⟩:=I.tuple hq;obtain⟨u,hu,ru⟩:=rv.get hx;obtain⟨f0,f1,f2,f3,f4,f5⟩:=hf it (by simp);refine wpAny_pyNext_tuple_item st (show s.heap.IsTuple a au.toArray from p) (x:=u) (by simpa using hu) λh' rS sb=>?_;have I1:Inv X Z σ H {s with heap:=h'}:=I.turned (t':=s.toks) (λb o hb e=>(sb.2 b hb).trans e) f0 f1 f3 f4 f5;obtain⟨o,e,c,d⟩:=id rS;exact⟨u,rfl,Hj (s:={s with heap:=h'}) e c d ⋯ ⟨x,H,I1,ru,⟨rfl,λys hy=>by rw [I.lU hy hq];exact hx⟩,rS,λb hb=>(hf b hb).1⟩⟩
 done:=by
  intro X hP hw hK hc i Z s σ H E I hf st hg;subst hP hw hK;obtain⟨xs,hq,hx⟩:=hg;obtain⟨au,rv,p,hz⟩:=I.tuple hq;obtain⟨f0,f1,f2,f3,f4,f5⟩:=hf it (by simp);have hl:=rv.length;exact wpAny_pyNext_tuple_end (I.ok.hd hc) st (show s.heap.IsTuple a au.toArray from p) (by simp;omega) λh' eb=>⟨rfl,I.turned (t':=s.toks) (λb o hb e=>eb b o hb e) f0 f1 f3 f4 f5⟩
 self:=λ_ _ _ _ _ st h=>wpAny_pyIter_tupleiter st h
theorem IA {K:Ab} (it:ce) (lo:Int) (n:Nat):Turn P w K tg (Itr lo n) [it] it (λi h=>IsRangeIter h it (lo+(i:Nat)*1) ((n:Int)-(i:Nat)) 1) where
 mem:=by simp
 obj:=λi h st b hb=>by
  have e:b=it:=by simpa using hb
  subst e;exact⟨_,st,λv z=>by
   have z':=z;cases z'⟩
 keep:=λi h h' st k=>k it (by simp) _ st
 item:=by
  intro X hP hw hK hc i Z s σ H E I hf st hg;subst hP hw hK;obtain⟨f0,f1,f2,f3,f4,f5⟩:=hf it (by simp);have W:=Walks.range (prog:=X.prog) (w:=X.w) (I.ok.hd hc) it lo 1 n;refine W.item i s _ _ hg st λv h' tk hv rS kk=>?_;obtain⟨t,rfl⟩:=hv;have I1:Inv X Z σ H {s with heap:=h',toks:=tk}:=I.turned (λb o hb e=>kk b o (by simpa using hb) e) f0 f1 f3 f4 f5;refine⟨_,rfl,Hj (s:={s with heap:=h',toks:=tk}) (n:="range_iterator") rS rfl rfl ⋯ ⟨.int (lo+i),H,I1,⟨t,?_⟩,⟨rfl,rfl⟩,rS,λb hb=>(hf b hb).1⟩⟩;rw [Int.mul_one]
 done:=by
  intro X hP hw hK hc i Z s σ H E I hf st hg;obtain⟨f0,f1,f2,f3,f4,f5⟩:=hf it (by simp);exact wpAny_pyNext_range_end (I.ok.hd hc) st (by have:n<=i:=hg;omega) λh' eb=>⟨rfl,I.turned (t':=s.toks) (λb o hb e=>eb b o hb e) f0 f1 f3 f4 f5⟩
 self:=λ_ _ _ _ _ st h=>wpAny_pyIter_rangeiter st h
end L2
variable {tl:L2.TE}{p:Ck}{fp:List BG}{iter:BX}{wi:L2.TI}
namespace L2
open PySem PySem.Spec PyProof.Rows
section
def WX (K:Ab) (tl:TE):TI:=λσ H R=>tl σ H λx H1=>∃a,x=.ref a/\(∃xs,de K H1 a xs)/\R (Itl K a) H1
def T7 {l:ii} (hl:PE X l tl):PI X tg l (WX X.K tl):=by
 intro Z s σ H R I h;refine cq (hl Z s σ H _ I h) λv s1 ⟨x,H1,I1,r1,q1⟩=>?_;obtain⟨a,e,⟨xs,hq⟩,q⟩:=q1;subst e;cases r1;obtain⟨au,rv,p,hz⟩:=I1.list hq;refine C3 p.isList ?_;refine⟨s1.heap.objs.size,[s1.heap.objs.size],_,_,H1,rfl,I1.kept (t':=s1.toks) λb o e=>Ag _ e,vJ a _,⟨_,Ao _ rfl,rfl,rfl⟩,λb hb=>?_,q⟩;have e:b=s1.heap.objs.size:=by simpa using hb
 subst e;exact I1.yI (Am _) (I1.bC.fresh (Am _))
theorem Py {R:It->Hp->Prop}{lo hi:Int}{t u v:Tok}{tk:Nat} (I:Inv X Z σ H s) (h1:-(2 ^ 62)<=lo) (h2:lo < 2 ^ 62) (h3:-(2 ^ 62)<=hi) (h4:hi < 2 ^ 62)
  (q:R (Itr lo (hi-lo).toNat) H):db (dL X.prog X.w) X.A (pyIter (.ref s.heap.objs.size)) (PIE X Z σ tg R) E {s with heap:=s.heap.push {cls:=.type "range",data:=.fields #[.int lo t,.int hi u,.int 1 v]},toks:=tk}:=by
 refine wpAny_pyIter_range (IsRange.new ..) (small_one h1 h2 h3 h4) ?_;have I1:Inv X Z σ H {s with heap:=s.heap.push {cls:=.type "range",data:=.fields #[.int lo t,.int hi u,.int 1 v]},toks:=tk}:=I.kept λb o e=>Ag _ e;refine⟨(s.heap.push {cls:=.type "range",data:=.fields #[.int lo t,.int hi u,.int 1 v]}).objs.size,[(s.heap.push {cls:=.type "range",data:=.fields #[.int lo t,.int hi u,.int 1 v]}).objs.size],_,_,H,rfl,
  I1.kept (t':=tk) λb o e=>Ag _ e,IA _ lo (hi-lo).toNat,?_,λb hb=>?_,q⟩
 ·have e1:lo+((0:Nat):Int)*1=lo:=by simp
  have e2:(((hi-lo).toNat:Nat):Int)-((0:Nat):Int)=Builtin.Range.rangeSize lo hi 1:=by rw [rangeSize_one];split <;> omega
  show IsRangeIter _ _ (lo+((0:Nat):Int)*1) ((((hi-lo).toNat:Nat):Int)-((0:Nat):Int)) 1;rw [e1,e2];exact Ao _ rfl
 ·have e:b=(s.heap.push {cls:=.type "range",data:=.fields #[.int lo t,.int hi u,.int 1 v]}).objs.size:=by simpa using hb
  subst e;exact I1.yI (Am _) (I1.bC.fresh (Am _))
def acR (ta:TA):TI:=λσ H R=>ta σ H λvs H1=>∃j:Int,vs=[.int j]/\-(2 ^ 62)<=j/\j < 2 ^ 62/\R (Itr 0 j.toNat) H1
theorem M1 {ta:TA} (hg:Gl X "range") (hm:X.mg "range"=bm) (ha:PA X [a] ta) (hs:f8 [a] X.env=[(false,im a X.env)]:=by rfl):PI X tg (.Call (.Name "range" p) [a] [] pos) (acR ta):=by
 intro Z s σ H R I h;refine Call_ (hV I hg hm boot_range (Bb (cq (ha pos Z s σ H _ I h) λus s1 ⟨vs,H1,I1,r1,q1⟩=>?_) hs rfl));obtain⟨j,e,q1,q2,q⟩:=q1;subst e;cases r1 with
 | cons r rr=>
  cases rr;obtain⟨t,rfl⟩:=r;exact call_range_1 (Py I1 ∅ ∅ q1 q2 (by simpa using q))
def af6 (wi:TI) (g:TG) (tb:TS):TS:=λD σ H=>wi σ H λJ H1=>∃W:Nat->Nat->St->Hp->Prop,(∃m,W 0 m σ H1)/\∀i m σ H,W i m σ H->
 (J.stop i H/\D.nx σ H)\/(J.go i H/\∃N:St->Hp->Prop,(∀σ' H',N σ' H'->∃m',m' < m/\W (i+1) m' σ' H')/\∀x H',J.Wi i H x H'->g x σ H' λσ2 H2=>tb {D with nx:=N,ct:=N,bk:=D.nx} σ2 H2)
def qd (fp:List ce) (h:mo):List (ce×Obj):=fp.filterMap λb=>(h.get? b).map λo=>(b,o)
def jR (hb:b∈fp) (e:h.get? b=ap o):(b,o)∈qd fp h:=Ex.mpr ⟨b,hb,by rw [e];rfl⟩
def M7 {p:ce×Obj} (hp:p∈qd fp h):p.1∈fp/\h.get? p.1=ap p.2:=by
 obtain⟨b,hb,e⟩:=Ex.mp hp;cases q:h.get? b with
 | none=>rw [q] at e;cases e
 | some o=>
  rw [q] at e;have e':=Option.some.inj e;subst e';exact⟨hb,q⟩
def Inv.pinned (I:Inv X Z σ H s) (hf:∀b∈fp,vH X Z H b) (ho:∀b∈fp,∃o,s.heap.get? b=ap o/\∀v,o.data≠.cell v):Inv X (Z++qd fp s.heap) σ H s:=
 I.Ls λp hp=>(A9.mp hp).elim (λz=>I.pin p (AY _ z)) λz=>by
  obtain⟨hb,e⟩:=M7 z;obtain⟨f0,f1,f2,_⟩:=hf p.1 hb;obtain⟨o,e',d⟩:=ho p.1 hb;rw [e] at e';cases e';exact⟨e,f0,f1,f2,d⟩
def Inv.kQ {pl:List (ce×Obj)} (I:Inv X (Z++pl) σ H s):Inv X Z σ H s:=I.Ls λp hp=>I.pin p (AY _ (Cd _ hp))
def IW {g:TG}{tb:TS} (hp:wS (dL X.prog X.w) X.A X.env X.xe) (hc:X.calm=true) (hi:PI X tg iter wi) (hg:PG X tg g) (hb:sF X body tb)
  (hs:zQ X iter:=by intro _;rfl):PS X (.For tg iter body [] pos) (af6 wi g tb):=by
 intro Z s σ H D I h;refine wpAny_For (cq (hi Z s σ H _ I h) λv s1 h1=>cq h1 λě s2 h2=>?_) hs;obtain⟨it,fp,tn,J,H2,e,I2,T,MD,f2,W,⟨m0,w0⟩,turn⟩:=h2;subst e;have X1:∀{H':Hp},(∀b∈fp,H' b=bm)->∀b∈fp,vH X Z H' b:=λhn b hb=>⟨hn b hb,(f2 b hb).2⟩;refine codeAny_forLoop_any (λn s'=>∃i σ' H',Inv X Z σ' H' s'/\tn i s'.heap/\(∀b∈fp,H' b=bm)/\W i n σ' H') ?_ m0 ⟨0,σ,H2,I2,MD,λb hb=>(f2 b hb).1,w0⟩;rintro n s3 ⟨i,σ3,H3,I3,ô,Č,w3⟩;rcases turn i n σ3 H3 w3 with⟨stop,qn⟩ | ⟨go,N,hN,step⟩
 ·refine Cq hp (cq (T.done X rfl rfl rfl hc i Z s3 σ3 H3 X.xe I3 (X1 Č) ô stop) λr s4 ⟨hr,I4⟩=>?_);subst hr;exact D7 ⟨σ3,H3,I4,qn⟩
 ·refine Cq hp (cq (T.item X rfl rfl rfl hc i Z s3 σ3 H3 X.xe I3 (X1 Č) ô go) λr s4 ⟨u,hr,h4⟩=>?_);subst hr;refine Cq hp (cq h4 λ_ s5 ⟨x,H5,I5,r5,y5,X2,ŏ⟩=>?_);have œ:=I5.pinned (X1 ŏ) (T.obj _ _ X2);refine Cq hp (cq (hg _ s5 σ3 H5 x u _ œ r5 (step x H5 y5)) λ_ s6 ⟨σ6,H6,I6,q6⟩=>?_);refine Cq hp (cq (hb _ s6 σ6 H6 _ I6 q6) λf s7 q7=>?_);have again:∀{σ7:St}{H7:Hp},Inv X (Z++qd fp s5.heap) σ7 H7 s7->N σ7 H7->∃m,m < n/\∃i σ' H',Inv X Z σ' H' s7/\tn i s7.heap/\(∀b∈fp,H' b=bm)/\W i m σ' H':=λ{σ7 H7} I7 n7=>by
   obtain⟨m',hm,w7⟩:=hN σ7 H7 n7;refine⟨m',hm,i+1,σ7,H7,I7.kQ,T.keep _ _ _ X2 λb hb o e=>(I7.pin (b,o) (AY _ (AY _ (jR hb e)))).1,λb hb=>?_,w7⟩;obtain⟨o,e,d⟩:=T.obj _ _ X2 b hb;exact (I7.pin (b,o) (AY _ (AY _ (jR hb e)))).2.1
  cases f with
  | next=>obtain⟨σ7,H7,I7,n7⟩:=q7;exact again I7 n7
  | cont=>obtain⟨σ7,H7,I7,n7⟩:=q7;exact again I7 n7
  | brk=>obtain⟨σ7,H7,I7,q7⟩:=q7;exact⟨σ7,H7,I7.kQ,q7⟩
  | ret v=>obtain⟨x7,σ7,H7,I7,r7,q7⟩:=q7;exact⟨x7,σ7,H7,I7.kQ,r7,q7⟩
end
end L2
variable {i:Int}{g:Int->Int->Int}{au:List A3}
namespace L2
open PySem PySem.Spec PyProof.Rows
abbrev R2:=V->V->Hp->VK->Prop
def je (X:Cx) (f:bn->bn->Sem bn) (r:R2):Prop:=
 ∀(Z:List (ce×Obj)) (s:cr) (σ:St) (H:Hp) (x y:V) (v u:bn) (Q:VK),Inv X Z σ H s->RelV x v->RelV y u->r x y H Q->
  db (dL X.prog X.w) X.A (f v u) (EP X Z σ Q) X.xe s
def UnR (X:Cx) (f:bn->Sem bn) (r:V->Hp->VK->Prop):Prop:=
 ∀(Z:List (ce×Obj)) (s:cr) (σ:St) (H:Hp) (x:V) (v:bn) (Q:VK),Inv X Z σ H s->RelV x v->r x H Q->
  db (dL X.prog X.w) X.A (f v) (EP X Z σ Q) X.xe s
def bS (X:Cx) (f:bn) (r:List V->Hp->VK->Prop):Prop:=
 ∀(Z:List (ce×Obj)) (s:cr) (σ:St) (H:Hp) (xs:List V) (us:List bn) (Q:VK),Inv X Z σ H s->Vals xs us->r xs H Q->
  db (dL X.prog X.w) X.A (call f us) (EP X Z σ Q) X.xe s
def aib (X:Cx) (r:V->Hp->(Bool->Hp->Prop)->Prop):Prop:=
 ∀(Z:List (ce×Obj)) (s:cr) (σ:St) (H:Hp) (x:V) (v:bn) (Q:Bool->Hp->Prop),Inv X Z σ H s->RelV x v->r x H Q->
  db (dL X.prog X.w) X.A (truthy v) (TP X Z σ Q) X.xe s
def XT (r:R2) (ta tb:TE):TE:=λσ H Q=>ta σ H λx H1=>tb σ H1 λy H2=>r x y H2 Q
def tUn (r:V->Hp->VK->Prop) (ta:TE):TE:=λσ H Q=>ta σ H λx H1=>r x H1 Q
def rI (C:Int->Int->Prop) (g:Int->Int->V):R2:=λx y H Q=>∃i j,x=.int i/\y=.int j/\C i j/\Q (g i j) H
def TN (g:Int->Int->V):R2:=λx y H Q=>∃i j,x=.int i/\y=.int j/\Q (g i j) H
def rU (g:Int->V):V->Hp->VK->Prop:=λx H Q=>∃i,x=.int i/\Q (g i) H
section
variable {b:ii}
def aaf (ha:PE X a ta) (hb:PE X b tb) (I:Inv X Z σ H s)
  (h:ta σ H λx H1=>tb σ H1 λy H2=>R x y H2) {f:bn->bn->Sem bn}
  (hf:∀v u s2 x y H2,Inv X Z σ H2 s2->RelV x v->RelV y u->R x y H2->db (dL X.prog X.w) X.A (f v u) Q X.xe s2) :
  db (dL X.prog X.w) X.A (im a X.env) (λv s₁=>db (dL X.prog X.w) X.A (im b X.env) (λu s₂=>db (dL X.prog X.w) X.A (f v u) Q X.xe s₂) X.xe s₁) X.xe s:=by
 refine cq (ha Z s σ H _ I h) λv s1 ⟨x,H1,I1,r1,q1⟩=>?_;refine cq (hb Z s1 σ H1 _ I1 q1) λu s2 ⟨y,H2,I2,r2,q2⟩=>?_;exact hf v u s2 x y H2 I2 r1 r2 q2
def Lu {op:Operator}{r:R2} (ho:je X (sn op) r) (ha:PE X a ta) (hb:PE X b tb):PE X (.BinOp a op b pos) (XT r ta tb):=by
 intro Z s σ H Q I h;exact wpAny_BinOp (aaf ha hb I h λv u s2 x y H2 I2 rx ry q=>ho Z s2 σ H2 x y v u Q I2 rx ry q)
def ab6 {op:UnaryOp}{r:V->Hp->VK->Prop} (ho:UnR X (unaryOp op) r) (ha:PE X a ta):PE X (.UnaryOp op a pos) (tUn r ta):=by
 intro Z s σ H Q I h;exact UnaryOp_ (cq (ha Z s σ H _ I h) λv s1 ⟨x,H1,I1,r1,q1⟩=>ho Z s1 σ H1 x v Q I1 r1 q1)
def opI {f:bn->bn->Sem bn}{C:Int->Int->Prop}
  (rule:∀(i j:Int) (t u:Tok) (s:cr) (Q:bn->cr->Prop) (E:bn->cr->Prop),C i j->Q (.int (g i j) s.toks) {s with toks:=s.toks+1}->db (dL X.prog X.w) X.A (f (.int i t) (.int j u)) Q E s) :
  je X f (rI C λi j=>.int (g i j)):=by
 intro Z s σ H x y v u Q I rx ry h;obtain⟨i,j,rfl,rfl,hc,q⟩:=h;obtain⟨t,rfl⟩:=rx;obtain⟨t',rfl⟩:=ry;exact rule i j t t' s _ _ hc ⟨.int (g i j),H,I.tok _,⟨_,rfl⟩,q⟩
def ach {f:bn->bn->Sem bn}
  (rule:∀(i j:Int) (t u:Tok) (s:cr) (Q:bn->cr->Prop) (E:bn->cr->Prop),Q (.int (g i j) s.toks) {s with toks:=s.toks+1}->db (dL X.prog X.w) X.A (f (.int i t) (.int j u)) Q E s) :
  je X f (TN λi j=>.int (g i j)):=by
 intro Z s σ H x y v u Q I rx ry h;obtain⟨i,j,rfl,rfl,q⟩:=h;obtain⟨t,rfl⟩:=rx;obtain⟨t',rfl⟩:=ry;exact rule i j t t' s _ _ ⟨.int (g i j),H,I.tok _,⟨_,rfl⟩,q⟩
def Uw {f:bn->bn->Sem bn}{g:Int->Int->Bool}
  (rule:∀(i j:Int) (t u:Tok) (s:cr) (Q:bn->cr->Prop) (E:bn->cr->Prop),Q (.bool (g i j)) s->db (dL X.prog X.w) X.A (f (.int i t) (.int j u)) Q E s) :
  je X f (TN λi j=>.bl (g i j)):=by
 intro Z s σ H x y v u Q I rx ry h;obtain⟨i,j,rfl,rfl,q⟩:=h;obtain⟨t,rfl⟩:=rx;obtain⟨t',rfl⟩:=ry;exact rule i j t t' s _ _ ⟨.bl (g i j),H,I,rfl,q⟩
def Om (i j:Int):Prop:=0 < j/\j < 1073741824
def SI (i j:Int):Prop:=0<=j/\j<=1000000/\i.natAbs < 2 ^ 64
def Wh (i j:Int):Prop:=(-(2 ^ 64) < i/\i < 2 ^ 64)\/(-(2 ^ 64) < j/\j < 2 ^ 64)
def Wh.ok {j:Int} (h:Wh i j):wE i j:=by
 rcases h with⟨h1,h2⟩ | ⟨h1,h2⟩
 ·exact .of_left (intBits_le_64 h1 h2)
 ·exact .of_right (intBits_le_64 h1 h2)
def YL:je X (sn .Add) (TN λi j=>.int (i+j)):=ach λ_ _ _ _ _ _ _ q=>add_int q
def YD:je X (sn .Sub) (TN λi j=>.int (i-j)):=ach λ_ _ _ _ _ _ _ q=>sub_int q
theorem Ur:je X (sn .FloorDiv) (rI Om λi j=>.int (i / j)):=opI λi j _ _ _ _ _ hc q=>by
 have h1:(0:Int) < j:=hc.1;have h2:j < 1073741824:=hc.2;exact floordiv_int ∅ (by rw [Int.fdiv_eq_ediv_of_nonneg i ∅];exact q) (.inl (PyProof.noPylong_small ∅))
theorem YH:je X (sn .Mod) (rI (λ_ j=>0 < j) λi j=>.int (i % j)):=opI λi j _ _ _ _ _ hc q=>by
 have h1:(0:Int) < j:=hc;exact mod_int' ∅ (by rw [Int.fmod_eq_emod_of_nonneg i ∅];exact q)
def YF:je X (sn .Pow) (rI SI λi j=>.int (i ^ j.toNat)):=opI λ_ _ _ _ _ _ _ hc q=>pow_int_small hc.1 hc.2.1 hc.2.2 q
def unI {f:bn->Sem bn}{g:Int->Int}
  (rule:∀(i:Int) (t:Tok) (s:cr) (Q:bn->cr->Prop) (E:bn->cr->Prop),Q (.int (g i) s.toks) {s with toks:=s.toks+1}->db (dL X.prog X.w) X.A (f (.int i t)) Q E s) :
  UnR X f (rU λi=>.int (g i)):=by
 intro Z s σ H x v Q I rx h;obtain⟨i,rfl,q⟩:=h;obtain⟨t,rfl⟩:=rx;exact rule i t s _ _ ⟨.int (g i),H,I.tok _,⟨_,rfl⟩,q⟩
def XM:UnR X (unaryOp .USub) (rU λi=>.int (-i)):=unI λ_ _ _ _ _ q=>neg_int q
end
section
variable {b c:ii}
def RE {Q:VK}{k k':Bool} (I:Inv X Z σ H s) (q:Q (.bl k) H) (e:k=k'):EP X Z σ Q (.bool k') s:=by
 subst e;exact⟨.bl k,H,I,rfl,q⟩
def acd:je X (nw .Lt) (TN λi j=>.bl (decide (i < j))):=Uw λ_ _ _ _ _ _ _ q=>lt_int q
def ace:je X (nw .LtE) (TN λi j=>.bl (decide (i<=j))):=Uw λ_ _ _ _ _ _ _ q=>le_int q
def acf:je X (nw .Gt) (TN λi j=>.bl (decide (j < i))):=Uw λ_ _ _ _ _ _ _ q=>gt_int q
def acg:je X (nw .GtE) (TN λi j=>.bl (decide (j<=i))):=Uw λ_ _ _ _ _ _ _ q=>ge_int q
def YI:je X (nw .Is) (λx y H Q=>y=.aN/\Q (.bl (decide (x=.aN))) H):=by
 intro Z s σ H x y v u Q I rx ry h;obtain⟨rfl,q⟩:=h;cases ry;refine is_none_gen (RE I q ?_);cases x <;> first
  | (cases rx;rfl)
  | (obtain⟨t,rfl⟩:=rx;rfl)
def Uo:je X (nw .IsNot) (λx y H Q=>y=.aN/\Q (.bl (!decide (x=.aN))) H):=by
 intro Z s σ H x y v u Q I rx ry h;obtain⟨rfl,q⟩:=h;cases ry;refine isnot_none_gen (RE I q ?_);cases x <;> first
  | (cases rx;rfl)
  | (obtain⟨t,rfl⟩:=rx;rfl)
def je.or {f:bn->bn->Sem bn}{r r':R2} (h:je X f r) (h':je X f r'):je X f (λx y H Q=>r x y H Q\/r' x y H Q):=by
 intro Z s σ H x y v u Q I rx ry q;rcases q with q | q
 ·exact h Z s σ H x y v u Q I rx ry q
 ·exact h' Z s σ H x y v u Q I rx ry q
def kX (b:ii) {op:CmpOp} (h:op≠.In:=by decide) (h2:op≠.NotIn:=by decide):re op b=false:=by
 have e1:(op==CmpOp.In)=false:=by cases op <;> first | rfl | exact absurd rfl h
 have e2:(op==CmpOp.NotIn)=false:=by cases op <;> first | rfl | exact absurd rfl h2
 cases b <;> simp [re,e1,e2]
def Lw {op:CmpOp}{r:R2} (ho:je X (nw op) r) (ha:PE X a ta) (hb:PE X b tb) (hm:re op b=false):PE X (.Compare a [op] [b] pos) (XT r ta tb):=by
 intro Z s σ H Q I h;exact wpAny_Compare1 (aaf ha hb I h λv u s2 x y H2 I2 rx ry q=>ho Z s2 σ H2 x y v u Q I2 rx ry q) hm
def abl (t:TE):TT:=λσ H Q=>t σ H λx H'=>∃k,x=.bl k/\Q k H'
def oC {op:CmpOp}{r:R2} (ho:je X (nw op) r) (ha:PE X a ta) (hb:PE X b tb) (hm:re op b=false):PT X (.Compare a [op] [b] pos) (abl (XT r ta tb)):=by
 intro Z s σ H Q I h;refine wpAny_isTrue_Compare1 (cq (ha Z s σ H _ I h) λv s1 ⟨x,H1,I1,r1,q1⟩=>cq (hb Z s1 σ H1 _ I1 q1) λu s2 ⟨y,H2,I2,r2,q2⟩=>
  cq (ho Z s2 σ H2 x y v u _ I2 r1 r2 q2) λc s3 ⟨z,H3,I3,r3,k,e,q3⟩=>?_) hm
 subst e;cases r3;exact C2 ⟨H3,I3,q3⟩
def aal (K:Ab) (x:V) (H:Hp) (k:Bool):Prop:=
 match x with
 | .aN=>k=false
 | .bl b=>k=b
 | .int i=>k=(i != 0)
 | .str y=>y.length<=sizeLine/\k=((y.length:Int) != 0)
 | .byt y=>y.size<=sizeLine/\k=((y.size:Int) != 0)
 | .ref p=>(∃xs,de K H p xs/\k=!xs.isEmpty)\/(∃xs,dR K H p xs/\k=!xs.isEmpty)\/∃kvs,H p=ap (.dK kvs)/\k=!kvs.isEmpty
 | _=>False
def JJ {kvs:List (κ×V)}{vs:List (κ×bn)} (r:KV kvs vs):(!vs.isEmpty)=!kvs.isEmpty:=by
 cases r <;> rfl
def uc (r:Vals xs au):(!au.toArray.isEmpty)=!xs.isEmpty:=by
 cases r <;> simp
def xS:(sizeLine:Nat) < 2 ^ 63:=by rw [sizeLine_eq];decide
theorem XO:aib X (λx H Q=>∃k,aal X.K x H k/\Q k H):=by
 intro Z s σ H x v Q I rx h;obtain⟨k,e,q⟩:=h;have hs:=sizeLine_eq;cases x with
 | aN=>
  cases rx;have e':=e;subst e';exact truthy_none ⟨H,I,q⟩
 | bl b=>
  cases rx;have e':=e;subst e';exact C2 ⟨H,I,q⟩
 | int i=>
  obtain⟨t,rfl⟩:=rx;have e':=e;subst e';exact PySem.P.truthy_int ⟨H,I,q⟩
 | str y=>
  obtain⟨t,rfl⟩:=rx;obtain⟨hy,e'⟩:y.length<=sizeLine/\k=((y.length:Int) != 0):=e;subst e';exact PySem.P.truthy_str ∅ ⟨H,I.tok _,q⟩
 | byt y=>
  obtain⟨t,rfl⟩:=rx;obtain⟨hy,e'⟩:y.size<=sizeLine/\k=((y.size:Int) != 0):=e;subst e';exact PySem.W.truthy_bytes ∅ ⟨H,I.tok _,q⟩
 | ref p=>
  cases rx;have e':=e;rcases e' with⟨xs,hx,e'⟩ | ⟨xs,hx,e'⟩ | ⟨kvs,hx,e'⟩
  ·subst e';obtain⟨au,r,pl,hz⟩:=I.list hx;have Á:=r.length;exact wpAny_truthy_list pl.isList (by simp only [Ai];omega) ⟨H,I.tok _,by rw [uc r];exact q⟩
  ·subst e';obtain⟨au,r,pl,hz⟩:=I.tuple hx;have Á:=r.length;exact truthy_tuple pl (by simp only [Ai];omega) ⟨H,I.tok _,by rw [uc r];exact q⟩
  ·subst e';obtain⟨hz,hS,vs,r,m⟩:kvs.length<=sizeLine/\(p==sw)=false/\∃vs,KV kvs vs/\s.heap.DictOf (bT X.prog X.w) p vs:=I.bC p _ hx;have Á:=Paired.length r;exact wpAny_truthy_dict hS m ∅ ⟨H,I.tok _,by rw [JJ r];exact q⟩
 | _=>exact (show False from e).elim
def PR (ha:PE X a ta) (he:∀Å,isTrue a X.env Å=(do let v <- Å;standAt a.pos;Da [v] (truthy v))) :
  PT X a (λσ H Q=>ta σ H λx H'=>∃k,aal X.K x H' k/\Q k H'):=by
 intro Z s σ H Q I h;exact isTrue_plain (cq (ha Z s σ H _ I h) λv s1 ⟨x,H1,I1,r1,q1⟩=>XO Z s1 σ H1 x v Q I1 r1 q1) (he _)
def Jd:je X (sn .Add) (λx y H Q=>∃i j,x=.str i/\y=.str j/\i.length+j.length<=sizeLine/\Q (.str (i++j)) H):=by
 intro Z s σ H x y v u Q I rx ry h;obtain⟨i,j,rfl,rfl,hz,q⟩:=h;obtain⟨t,rfl⟩:=rx;obtain⟨t',rfl⟩:=ry;exact add_str (λt' tk=>⟨.str (i++j),H,I.tok _,⟨_,rfl⟩,q⟩) hz
def vals1 {x:V} (r:Vals [x] us):∃u,us=[u]/\RelV x u:=by
 cases r with
 | cons r1 r2=>cases r2;exact⟨_,rfl,r1⟩
def vals2 {x:V} (r:Vals [x,y] us):∃u w',us=[u,w']/\RelV x u/\RelV y w':=by
 cases r with
 | cons r1 r2=>
  cases r2 with
  | cons r3 r4=>cases r4;exact⟨_,_,rfl,r1,r3⟩
def Sj:bS X (.builtin "abs") (λxs H Q=>∃i,xs=[.int i]/\Q (.int (if i < 0 then -i else i)) H):=by
 intro Z s σ H xs us Q I r h;obtain⟨i,rfl,q⟩:=h;obtain⟨u,rfl,t,rfl⟩:=vals1 r;exact call_abs_int λu tk=>⟨.int (if i < 0 then -i else i),H,I.tok _,⟨_,rfl⟩,q⟩
def N6 (hc:X.calm=true):bS X (.builtin "max") (λxs H Q=>∃i j,xs=[.int i,.int j]/\Q (.int (if j > i then j else i)) H):=by
 intro Z s σ H xs us Q I r h;obtain⟨i,j,rfl,q⟩:=h;obtain⟨u,w',rfl,⟨t,rfl⟩,⟨t',rfl⟩⟩:=vals2 r;refine max_two_ints (I.ok.hd hc) λh' tk k=>⟨_,H,I.kept k,?_,q⟩;by_cases hj:j > i
 ·rw [if_pos hj,if_pos hj];exact⟨_,rfl⟩
 ·rw [if_neg hj,if_neg hj];exact⟨_,rfl⟩
def N5 (hc:X.calm=true):bS X (.builtin "min") (λxs H Q=>∃i j,xs=[.int i,.int j]/\Q (.int (if j < i then j else i)) H):=by
 intro Z s σ H xs us Q I r h;obtain⟨i,j,rfl,q⟩:=h;obtain⟨u,w',rfl,⟨t,rfl⟩,⟨t',rfl⟩⟩:=vals2 r;refine min_two_ints (I.ok.hd hc) λh' tk k=>⟨_,H,I.kept k,?_,q⟩;by_cases hj:j < i
 ·rw [if_pos hj,if_pos hj];exact⟨_,rfl⟩
 ·rw [if_neg hj,if_neg hj];exact⟨_,rfl⟩
def N9:bS X (.type "int") (λxs H Q=>(∃i,xs=[.int i]/\Q (.int i) H)\/∃k,xs=[.bl k]/\Q (.int (if k then 1 else 0)) H):=by
 intro Z s σ H xs us Q I r h;rcases h with⟨i,rfl,q⟩ | ⟨k,rfl,q⟩
 ·obtain⟨u,rfl,t,rfl⟩:=vals1 r;exact call_int_int ⟨.int i,H,I,⟨_,rfl⟩,q⟩
 ·obtain⟨u,rfl,r1⟩:=vals1 r;cases r1;exact call_int_bool ⟨.int (if k then 1 else 0),H,I.tok _,⟨_,rfl⟩,q⟩
def ad4 (K:Ab) (x:V) (H:Hp) (n:Nat):Prop:=
 match x with
 | .str y=>y.length<=sizeLine/\n=y.length
 | .byt y=>y.size<=sizeLine/\n=y.size
 | .ref p=>(∃xs,de K H p xs/\n=xs.length)\/∃xs,dR K H p xs/\n=xs.length
 | _=>False
theorem Si:bS X (.builtin "len") (λxs H Q=>∃x n,xs=[x]/\ad4 X.K x H n/\Q (.int n) H):=by
 intro Z s σ H xs us Q I r h;obtain⟨x,n,rfl,e,q⟩:=h;obtain⟨u,rfl,rx⟩:=vals1 r;have hs:=sizeLine_eq;cases x with
 | str y=>
  obtain⟨t,rfl⟩:=rx;obtain⟨hy,e'⟩:y.length<=sizeLine/\n=y.length:=e;subst e';exact len_str ∅ ⟨.int _,H,I.tok _,⟨_,rfl⟩,q⟩
 | byt y=>
  obtain⟨t,rfl⟩:=rx;obtain⟨hy,e'⟩:y.size<=sizeLine/\n=y.size:=e;subst e';exact PySem.W.len_bytes ∅ ⟨.int _,H,I.tok _,⟨_,rfl⟩,q⟩
 | ref p=>
  cases rx;have e':=e;rcases e' with⟨xs,hx,e'⟩ | ⟨xs,hx,e'⟩
  ·subst e';obtain⟨au,r',pl,hz⟩:=I.list hx;have Á:=r'.length;exact Calls.call_len_list pl.isList (by simp only [Ai];omega) ⟨.int xs.length,H,I.tok _,⟨_,by simp only [Ai];rw [Á]⟩,q⟩
  ·subst e';obtain⟨au,r',pl,hz⟩:=I.tuple hx;have Á:=r'.length;exact len_tuple pl (by simp only [Ai];omega) ⟨.int xs.length,H,I.tok _,⟨_,by simp only [Ai];rw [Á]⟩,q⟩
 | _=>exact (show False from e).elim
end
end L2
variable {a:BG}{mA:Cg->Option A3}
namespace L2
open PySem PySem.Spec PyProof.Rows
structure aao (h:mo) (x dx C:ce) (mA:Str->Option bn):Prop where
 obj:h.get? x=ap (Fc C dx)
 ns:h.Ns1 dx mA
 ne:dx≠x
def Nl {dx:ce} (n:h.Ns1 dx mA):∃od,h.get? dx=ap od/\∀name,Fo name od=ap (mA name):=by
 obtain⟨o,es,ep,ho,hd,hk,_,hm⟩:=n;refine⟨o,ho,λname=>?_⟩;have e:=hm name;unfold nsFind findBy at e;rw [<- Array.find?_toList] at e;unfold Fo;rw [hd];dsimp only
 split
 ·rename_i y q;rw [q] at e;exact congrArg ap e
 ·rename_i q;rw [q] at e;have a:es.toList.any (·.refKey)=false:=by
   rw [List.any_eq_false];intro y hy;obtain⟨z,t,ahm⟩:=hk y (Array.mem_toList_iff.mp hy);simp [DictEntry.refKey,ahm]
  have a':¬es.toList.any (·.refKey)=true:=by rw [a];exact AR
  rw [if_neg a'];exact congrArg ap e
def aao.look {x dx C:ce} (I:aao h x dx C mA):∃od,PySem.W.InstAt h x (Fc C dx) C (ap od)/\∀name,Fo name od=ap (mA name):=
 let ⟨od,ho,hl⟩:=Nl I.ns
 ⟨od,⟨I.obj,rfl,rfl,ho⟩,hl⟩
def uK.some_of {o:Option bn} (r:uK (ap v) o):∃u,o=ap u/\RelV v u:=by
 cases o with
 | none=>exact (show False from r).elim
 | some u=>exact⟨u,rfl,r⟩
section
variable {C dx:ce}{fs:List (Str×V)}
def Vg (bC:my P w H h) (e:H a=ap (.ins C dx fs)):∃mA,aao h a dx C mA/\(∀f,uK (fs.lookup f) (mA f))/\PySem.Within mA (fs.map (·.1))/\fs.length<=1000/\H dx=ap (.own a):=by
 obtain⟨d,z,ne,ob,mA,n,r,q⟩:=(show ba P w H h a (.ins C dx fs) from bC a _ e);exact⟨mA,⟨ob,n,ne⟩,r,q,z,d⟩
end
structure Cls (K:Ab) (C:ce):Prop where
 pg:FY K C Str.empty=true
 hd:PySem.W.hasDictIn K C=true
 po:PySem.W.plainOver K C=true
 sa:PySem.W.findIn K (.ref C) "__setattr__"=ap (ap (.builtin "object.__setattr__"))
def Cls.get {K:Ab}{C:ce} (c:Cls K C) (f:Str):FY K C f=true:=c.pg
section
variable {c:bn}{b:Bool}
inductive mI (K:Ab) (H:Hp):V->bn->Prop where
 | aN:mI K H .aN (.type "NoneType")
 | bl (x:Bool):mI K H (.bl x) (.type "bool")
 | int (i:Int):mI K H (.int i) (.type "int")
 | str (x:Str):mI K H (.str x) (.type "str")
 | flt (x:UInt64):mI K H (.flt x) (.type "float")
 | lst {a:ce}{xs:List V} (e:H a=ap (.lst xs)):mI K H (.ref a) (.type "list")
 | cV {a:ce}{o:Obj}{xs:List V} (e:H a=ap (.cV o (.lst xs))):mI K H (.ref a) (.type "list")
 | tup {a:ce}{xs:List V} (e:H a=ap (.tup xs)):mI K H (.ref a) (.type "tuple")
 | dK {a:ce}{kvs:List (Key×V)} (e:H a=ap (.dK kvs)):mI K H (.ref a) (.type "dict")
 | dT {a:ce}{kvs:List (List Key×V)} (e:H a=ap (.dT kvs)):mI K H (.ref a) (.type "dict")
 | ins {a C dx:ce}{fs:List (Str×V)} (e:H a=ap (.ins C dx fs)) (cl:Cls K C) (ha:PySem.W.findIn K (.ref C) "__class__"=ap (ap (.builtin "object.__class__")))
   (hn:PySem.W.specialIn K (.builtin "object.__class__") "__get__"=ap (ap (.builtin "getset_descriptor.__get__"))) (htk:PySem.W.takesIn K (.builtin "object.__class__")=ap true)
   (hm:PySem.W.mroIn K C (.type "object")=ap true):mI K H (.ref a) (.ref C)
def Nx {x:V}{t:bn} (I:Inv X Z σ H s) (rx:RelV x u) (ty:mI X.K H x t) (e:Bw X.K t c=ap b) (h:∀tk,Q (.bool b) {s with toks:=tk}) :
  db (dL X.prog X.w) A (call (.builtin "isinstance") [u,c]) Q E s:=by
 cases ty with
 | aN=>cases (show u=AL from rx);exact Bf PySem.W.kitx_none I.v9 Cm e (λz=>nomatch z) h
 | bl y=>cases (show u=C5 y from rx);exact Bf PySem.W.kitx_bool I.v9 Cm e (λz=>nomatch z) h
 | int i=>obtain⟨t,q⟩:=(show ∃t,u=Eg i t from rx);cases q;exact Bf PySem.W.kitx_int I.v9 Cm e (λz=>nomatch z) h
 | str y=>obtain⟨t,q⟩:=(show ∃t,u=Bj y t from rx);cases q;exact Bf PySem.W.kitx_str I.v9 Cm e (λz=>nomatch z) h
 | flt y=>obtain⟨t,q⟩:=(show ∃t,u=Value.float y t from rx);cases q;exact Bf PySem.W.kitx_float I.v9 Cm e (λz=>nomatch z) h
 | @lst a xs ea=>
  cases (show u=AB a from rx);obtain⟨_,_,n,_,h1⟩:=(show ba X.prog X.w H s.heap a (.lst xs) from I.bC a _ ea);exact Bf ED I.v9 ⟨_,h1,rfl⟩ e (λz=>nomatch z) h
 | @cV a ob xs ea=>
  cases (show u=AB a from rx);obtain⟨_,_,_,n,_,h1⟩:=(show ba X.prog X.w H s.heap a (.cV ob (.lst xs)) from I.bC a _ ea);exact Bf ED I.v9 ⟨_,h1,rfl⟩ e (λz=>nomatch z) h
 | @tup a xs ea=>
  cases (show u=AB a from rx);obtain⟨_,_,_,p⟩:=(show ba X.prog X.w H s.heap a (.tup xs) from I.bC a _ ea);obtain⟨o,h1,h2,_⟩:=p;exact Bf FO I.v9 ⟨o,h1,h2⟩ e (λz=>nomatch z) h
 | @dK a kvs ea=>
  cases (show u=AB a from rx);obtain⟨_,_,vs,_,p⟩:=(show ba X.prog X.w H s.heap a (.dK kvs) from I.bC a _ ea);obtain⟨o,es,ep,h1,h2,_⟩:=p;exact Bf EE I.v9 ⟨o,h1,h2.1⟩ e (λz=>nomatch z) h
 | @dT a kvs ea=>
  cases (show u=AB a from rx);obtain⟨_,_,xs,_,o,es,ep,h1,h2,_⟩:=(show ba X.prog X.w H s.heap a (.dT kvs) from I.bC a _ ea);exact Bf EE I.v9 ⟨o,h1,h2.1⟩ e (λz=>nomatch z) h
 | @ins a C dx fs ea cl ha hn htk hm=>
  cases (show u=AB a from rx);obtain⟨mA,O,_⟩:=Vg I.bC ea;obtain⟨od,J,_⟩:=O.look;exact Bf (PySem.W.kitx_own (cl.get _) cl.hd ha hn htk hm) I.v9 J e (λz=>nomatch z) h
end
end L2
variable {v É pm cn ct oc:A3}{vs:List L2.V}{mg:Cg->Option A3}{base:FR}{fd:PySem.FuncData}{ps:List Cg}{Â:Ck}{sc scope:PySem.Scope}{qual:Cg}{an od:Option BG}{SM:Array (Option A3)}
namespace L2
open PySem PySem.Spec PyProof.Rows
structure cS (k:Nat) (A:o0):Prop where
 hd:A.handled=bm
 dp:A.depth+3*k+5 < recursionLimit
 un:A.units+16*k+200 < pc
 gd:A.guards=ap []
theorem cS.mono (r:cS k A) (h:j<=k):cS j A:=⟨r.hd,by have:=r.dp;omega,by have:=r.un;omega,r.gd⟩
theorem cS.deeper (r:cS (k+1) A) (env:Env):cS k (A.deeper env):=
 ⟨r.hd,by have:=r.dp;show A.depth+1+3*k+5 < _;omega,by have:=r.un;show A.units+3+16*k+200 < _;omega,r.gd⟩
theorem cS.depth (r:cS k A):A.depth < recursionLimit:=by have:=r.dp;omega
def abo:TA:=λ_ H Q=>Q [] H
def Wk (ta:TE) (tr:TA):TA:=λσ H Q=>ta σ H λx H1=>tr σ H1 λxs H2=>Q (x::xs) H2
section
variable {t:TA}
def bZ:PA X [] abo:=λ_ _ _ _ H Q I h=>Cu ⟨[],H,I,.nil,h⟩
def aY (ha:PE X e te) (hr:PA X es t) (hs:gM X e es:=by rfl):PA X (e::es) (Wk te t):=by
 intro pos Z s σ H Q I h;rw [hs];refine B9 (cq (ha Z s σ H _ I h) λu s1 ⟨x,H1,I1,r1,q1⟩=>?_);exact cq (hr pos Z s1 σ H1 _ I1 q1) λus s2 ⟨xs,H2,I2,r2,q2⟩=>⟨x::xs,H2,I2,.cons r1 r2,q2⟩
end
abbrev Sp:=List V->Hp->VK->XK->Prop
abbrev SH:=List Env->Hp->cr->XK->bn->cr->Prop
structure Wf (P:tt) (w:wv) (K:Ab) (mg:Str->Option bn) (base:mo) (A:o0) (outer:List Env) (s:cr) (H:Hp):Prop where
 frames:A.frames=ap outer
 mod:Mod K mg base
 bs:∀b o,base.get? b=ap o->s.heap.get? b=ap o/\H b=bm
 Xo:base.objs.size<=s.heap.objs.size
 ui:s.heap.FunFrames base outer
 frf:∀b∈Oz outer,H b=bm
 bC:my P w H s.heap
 bare:Gc s.gens
def CE (outer:List Env) (P:tt) (w:wv) (H:Hp) (s:cr) (Q:VK) (u:bn) (s':cr):Prop:=
 ∃v H',s'.os=s.os/\Gc s'.gens/\Un (Oz outer) [] H H' s.heap s'.heap/\my P w H' s'.heap/\RelV v u/\Q v H'
def CR (CX:SH) (outer:List Env) (P:tt) (w:wv) (H:Hp) (s:cr) (Q:VK) (E:XK) (r:Result) (s':cr):Prop:=
 match r with
 | .ok (.ret u)=>CE outer P w H s Q u s'
 | .ok _=>False
 | .error e=>CX outer H s E e s'
structure iB (P:tt) (w:wv) (K:Ab) (mg:Str->Option bn) (base:mo) (CX:SH) (k:Nat) (f:ce) (fd:FB) (ps:List Str) (sp:Sp):Prop where
 len:∀vs H Q E,sp vs H Q E->vs.length=ps.length
 run:∀(A:o0) (outer:List Env) (s:cr) (H:Hp) (args:Args) (us:List bn) (vs:List V) (Q:VK) (E:XK),cS k A->Wf P w K mg base A outer s H->BindsTo s fd args (ps.zip us)->Vals vs us->sp vs H Q E->
  Ev (dL P w) A (.call (.ref f) args) (CR CX outer P w H s Q E) s
def iB.imp {K:Ab}{CX:SH}{f:ce}{sp sp':Sp} (F:iB P w K mg base CX k f fd ps sp)
  (h:∀vs H Q E,sp' vs H Q E->sp vs H Q E):iB P w K mg base CX k f fd ps sp':=
 ⟨λvs H Q E q=>F.len vs H Q E (h _ _ _ _ q),λA outer s H args us vs Q E hr he hb hv hs=>F.run A outer s H args us vs Q E hr he hb hv (h _ _ _ _ hs)⟩
section
def Inv.ah2 (I:Inv X Z σ H s):Wf X.prog X.w X.K X.mg X.base X.A X.stack s H:=
 ⟨I.ok.frames,I.ok.mod,I.bs,AV I.ok.Xo I.sz,I.stack,I.La,I.bC,I.bare⟩
def Inv.after {Q:VK} (I:Inv X Z σ H s) (h:CE X.stack X.prog X.w H s Q u s'):EP X Z σ Q u s':=by
 obtain⟨v,H',os,bare,un,bC,r,q⟩:=h;obtain⟨hh,g,d,t,os'⟩:=s';obtain rfl:os'=s.os:=os;exact⟨v,H',I.call (h':=hh) (g':=g) (d':=d) (t':=t) (ch:=[]) un bC bare (λb z=>absurd z (by simp)),r,q⟩
end
def Binds (K:Ab) (fd:FB) (ps:List Str) (ds:List bn):Prop:=
 ∀(s:cr) (us:List bn),K.In s.heap->(us++ds).length=ps.length->BindsTo s fd ⟨us,[]⟩ (ps.zip (us++ds))
def Binds.all {K:Ab} (h:∀us:List bn,us.length=ps.length->bindArgs fd ⟨us,[]⟩=pure (ps.zip us)):Binds K fd ps []:=λs us _ hl=>by
 rw [Cs] at hl ⊢;exact .of_eq (h us hl)
def Passes (CX:SH) (X:Cx) (E:XK):Prop:=∀(Z:List (ce×Obj)) (σ:St) (H:Hp) (s:cr) (e:bn) (s':cr),Inv X Z σ H s->CX X.stack H s E e s'->X.xe e s'
section
variable {CX:SH}{f:ce}{sp:Sp}{dvs:List V}{ds:List bn}{E:XK}
def Ya {Q:VK} (F:iB X.prog X.w X.K X.mg X.base CX k f fd ps sp) (hr:cS k X.A) (hb:Binds X.K fd ps ds) (hd:Vals dvs ds) (hx:Passes CX X E)
  (I:Inv X Z σ H s) (r:Vals vs us) (h:sp (vs++dvs) H Q E):db (dL X.prog X.w) X.A (call (.ref f) us) (EP X Z σ Q) X.xe s:=by
 have r2:Vals (vs++dvs) (us++ds):=r.append hd;have hl:(us++ds).length=ps.length:=by rw [<- r2.length];exact F.len _ _ _ _ h
 refine wpAny_call (codeAny_mono (F.run X.A X.stack s H ⟨us,[]⟩ (us++ds) (vs++dvs) Q E hr I.ah2 (hb s us I.v9 hl) r2 h) λr s' hq=>?_);cases r with
 | error e=>exact hx Z σ H s e s' I hq
 | ok fl=>
  cases fl with
  | ret u=>exact I.after hq
  | next=>exact Bt hq
  | brk=>exact Bt hq
  | cont=>exact Bt hq
end
structure ar (N P:List Str) (sc:pr):Prop where
 kind:sc.kind=.function
 co:sc.isCoroutine=false
 gen:sc.isGenerator=false
 nd:N.Nodup
 pre:N.take P.length=P
 par:∀x∈P,sc.names.lookup x=ap .local\/sc.names.lookup x=ap .cell
 YR:∀y∈sc.names,y.2≠.free
theorem wR {kindOf:Str->Option xz}:∀{binds:List (Str×bn)}{m:Str->Option bn},(∀v,(x,v)∉binds)->bindL kindOf binds m x=m x
 | [],_,_=>rfl
 | (n,v)::r,m,h=>by
  unfold bindL;rw [wR λw hw=>h w (A4 _ hw)]
  split
  ·have:x≠n:=by rintro rfl;exact h v BA
   simp [this]
  ·rfl
theorem wV {kindOf:Str->Option xz}:∀{binds:List (Str×bn)}{m:Str->Option bn},(∀v,(x,v)∉binds)->bindC kindOf binds m x=m x
 | [],_,_=>rfl
 | (n,v)::r,m,h=>by
  unfold bindC;rw [wV λw hw=>h w (A4 _ hw)]
  split
  ·rfl
  ·have:x≠n:=by rintro rfl;exact h v BA
   simp [this]
theorem wU {kindOf:Str->Option xz}:∀{P:List Str}{vs:List bn}{i:Nat}{m:Str->Option bn},P.Nodup->P[i]?=ap x->vs[i]?=ap v->kindOf x=ap .local->
  bindL kindOf (P.zip vs) m x=ap v
 | [],_,_,_,_,h,_,_=>by simp at h
 | _::_,[],_,_,_,_,h,_=>by simp at h
 | p::P,w::vs,0,m,nd,h1,h2,hk=>by
  simp at h1 h2;subst h1;subst h2;show bindL kindOf ((p,w)::P.zip vs) m p=_;unfold bindL;rw [wR λv hv=>(D9.mp nd).1 (Fg hv).1,if_pos hk];simp
 | p::P,w::vs,i+1,m,nd,h1,h2,hk=>by
  show bindL kindOf ((p,w)::P.zip vs) m x=_;unfold bindL;exact wU (i:=i) (D9.mp nd).2 (by simpa using h1) (by simpa using h2) hk
theorem wW {kindOf:Str->Option xz}:∀{P:List Str}{vs:List bn}{i:Nat}{m:Str->Option bn},P.Nodup->P[i]?=ap x->vs[i]?=ap v->kindOf x≠ap .local->
  bindC kindOf (P.zip vs) m x=ap v
 | [],_,_,_,_,h,_,_=>by simp at h
 | _::_,[],_,_,_,_,h,_=>by simp at h
 | p::P,w::vs,0,m,nd,h1,h2,hk=>by
  simp at h1 h2;subst h1;subst h2;show bindC kindOf ((p,w)::P.zip vs) m p=_;unfold bindC;rw [wV λv hv=>(D9.mp nd).1 (Fg hv).1,if_neg hk];simp
 | p::P,w::vs,i+1,m,nd,h1,h2,hk=>by
  show bindC kindOf ((p,w)::P.zip vs) m x=_;unfold bindC;exact wW (i:=i) (D9.mp nd).2 (by simpa using h1) (by simpa using h2) hk
def start (N:List Str) (vs:List V):St:=vs.map ap++An (N.length-vs.length) bm
def iy (CX:SH) (P:tt) (w:wv) (K:Ab) (mg:Str->Option bn) (base:mo) (N:List Str) (qual:Str) (scope:pr) (f:ce) (cd:bn) (A:o0) (outer:List Env) (s:cr) (H:Hp) (E:XK):Cx where
 prog:=P
 w:=w
 K:=K
 mg:=mg
 base:=base
 A:=A.deeper (r9 qual scope s.heap.objs.size f cd)
 N:=N
 s₀:=s
 H₀:=H
 env:=r9 qual scope s.heap.objs.size f cd
 outer:=outer
 stack:=r9 qual scope s.heap.objs.size f cd::outer
 ex:=[]
 calm:=true
 fn:=λ_=>true
 pn:=[]
 xe:=λe s'=>db (dL P w) (A.deeper (r9 qual scope s.heap.objs.size f cd)) (leaving (r9 qual scope s.heap.objs.size f cd) e) (λ_ ö=>CX outer H s E e ö) (λe' ö=>CX outer H s E e' ö) s'
def HP (h:sc.names.lookup x=ap .cell):∃c,(cellsFrom n sc.names []).lookup x=ap c:=by
 have q:=E2 sc.names n [] (.inl h);exact Option.isSome_iff_exists.mp q
theorem NA {CX:SH}{K:Ab}{N:List Str}{f:ce}{cd:bn}{outer:List Env}{s1:cr}{E:XK}
  (S:ar N ps scope) (hd:A.handled=bm) (e0:Wf P w K mg base A outer s H) (hl:vs.length=ps.length) (r:Vals vs us)
  (x:InCallC s s.heap.objs.size (bindL (r9 qual scope s.heap.objs.size f cd).kindOf (ps.zip us) λ_=>bm) (cellsFrom (s.heap.objs.size+1) scope.names []) (bindC (r9 qual scope s.heap.objs.size f cd).kindOf (ps.zip us) λ_=>bm) s1) :
  Inv (iy CX P w K mg base N qual scope f cd A outer s H E) [] (start N vs) H s1:=by
 have dQ:ps.length<=N.length:=by have:=congrArg BS S.pre;rw [DQ] at this;omega
 obtain⟨h1,tk,rfl,hk⟩:=x.done;have ý:∀b:ce,b∉(iy CX P w K mg base N qual scope f cd A outer s H E).ex:=λb z=>absurd (show b∈([]:List ce) from z) (by simp);refine⟨⟨e0.mod,S.kind,rfl,rfl,Am _,λy z c h1 h2=>?_,λy hy=>?_,λy c _ h=>?_,λ_=>hd,Around.frames_deeper e0.frames,.inr ⟨rfl,rfl⟩,λb z=>absurd z (ý b),e0.bs,e0.Xo,λb _ _=>ý b,λb z=>absurd z (ý b),e0.ui,e0.frf⟩,
  rfl,e0.bare,Un.kept hk,⟨_,x.toInCall.ns,λi y v h1 h2 h3=>?_⟩,λy c h=>⟨_,x.cell y c h⟩,e0.bC.fresh (Am _),λy c h=>?_,λp hp=>absurd (show p∈([]:List (ce×Obj)) from hp) (by simp),e0.bC.kept hk,?_⟩
 ·exact name_of_addr x.apart (B2 h1) (B2 h2)
 ·rcases hy with hy | hy
  ·exact HP hy
  ·exact absurd rfl (S.YR _ (B2 hy))
 ·exact Ef (x.above y c (B2 h))
 ·have hi:i < vs.length:=by
   unfold start at h2;by_cases hi:i < vs.length
   ·exact hi
   ·rw [A5 (by simpa using hi)] at h2;rw [Bv] at h2
    split at h2 <;> cases h2
  have ha:vs[i]?=ap v:=by
   unfold start at h2;rw [AU (by simpa using hi),Ak] at h2;cases e:vs[i]? with
   | none=>rw [e] at h2;cases h2
   | some a=>rw [e] at h2;cases h2;rfl
  obtain⟨u,hu,rv⟩:=r.get ha;have hp:ps[i]?=ap y:=by
   rw [<- S.pre,List.getElem?_take_of_lt ∅];exact h1
  have ndP:ps.Nodup:=by rw [<- S.pre];exact S.nd.sublist (List.take_sublist _ _)
  refine⟨u,rv,?_⟩;rcases S.par y (Bo hp) with k | k
  ·exact .inl ⟨k,wU ndP hp hu k⟩
  ·obtain⟨c,e⟩:=HP (n:=s.heap.objs.size+1) k;refine .inr ⟨.inl k,c,e,?_⟩;have q:=x.cell y c e;rw [wW ndP hp hu (by show scope.names.lookup y≠_;rw [k];decide)] at q;exact q
 ·exact e0.bC.fresh (Ef (x.above y c (B2 h)))
 ·unfold start;show _=N.length;rw [Ah,Af,Bs];omega
def adv {CX:SH}{K:Ab}{f:ce}{name:Str}{params:Arguments}{dV kV:bn}{N:List Str}{sp:Sp} (lk:K.lookup f=ap ⟨oc,od,.func (Cb name qual params body scope dV kV É pm an cn ct),SM⟩) (jB:Ei K cn qual=true) (S:ar N ps scope)
  (len:∀vs H Q E,sp vs H Q E->vs.length=ps.length)
  (Rn:∀(A:o0) (outer:List Env) (s:cr) (H:Hp) (vs:List V) (Q:VK) (E:XK),cS k (A.deeper (r9 qual scope s.heap.objs.size f cn))->sp vs H Q E->
   ∃t,sF (iy CX P w K mg base N qual scope f cn A outer s H E) body t/\t {nx:=λ_ H'=>Q .aN H',rt:=Q} (start N vs) H) :
  iB P w K mg base CX (k+1) f (Cb name qual params body scope dV kV É pm an cn ct) ps sp:=by
 refine⟨len,λA outer s H args us vs Q E hr e0 hb r Vj=>?_⟩;have hl:=len _ _ _ _ Vj;have KX:K.In s.heap:=e0.mod.kin.keeps λb o e=>(e0.bs b o e).1;have lim:s.heap.NoLimit:=e0.mod.nolimit.keeps λb o e=>(e0.bs b o e).1;have ac5:∀y∈ps.zip us,scope.names.lookup y.1=ap .local\/(scope.names.lookup y.1=ap .cell/\((cellsFrom (s.heap.objs.size+1) scope.names []).lookup y.1).isSome=true):=λ⟨n,v⟩ hy=>by
  rcases S.par n (Fg hy).1 with q | q
  ·exact .inl q
  ·exact .inr ⟨q,E2 _ _ _ (.inl q)⟩
 refine codeAny_call_function hr.depth (KX _ _ lk) rfl S.co S.gen rfl (PySem.W.codeRec_of KX jB) (hb _ _ _ _ ?_);refine wpAny_newFunctionEnv_cells S.kind ac5 λenv he s1 x=>?_;subst he;refine⟨lim.keeps x.toInCall.keep,codeAny_func ?_⟩;obtain⟨t,ht,hq⟩:=Rn A outer s H vs Q E (hr.deeper _) Vj;have I:Inv (iy CX P w K mg base N qual scope f cn A outer s H E) [] (start N vs) H s1:=NA S hr.hd e0 hl r x;refine BZ (ht [] s1 (start N vs) H _ I hq) (λfl s' hs=>?_) λe s' hs=>hs;have fin:∀{σ':St}{H':Hp}{v:V}{u:bn},Inv (iy CX P w K mg base N qual scope f cn A outer s H E) [] σ' H' s'->RelV v u->Q v H'->CE outer P w H s Q u s':=
  λ{σ' H' v u} J rv q=>⟨v,H',J.os,J.bare,J.base,J.bC,rv,q⟩
 cases fl with
 | ret u=>
  obtain⟨v,σ',H',J,rv,q⟩:=hs;exact fin J rv q
 | next=>
  obtain⟨σ',H',J,q⟩:=hs;exact fin (v:=V.aN) (u:=AL) J rfl q
 | brk=>
  obtain⟨_,_,_,q⟩:=hs;exact Bt q
 | cont=>
  obtain⟨_,_,_,q⟩:=hs;exact Bt q
end L2
variable {T:String}
namespace L2
open PySem PySem.Spec PyProof.Rows
section
variable {t:TA}{id:String}{r:List V->Hp->VK->Prop}
def tCB (r:List V->Hp->VK->Prop) (t:TA):TE:=λσ H Q=>t σ H λvs H1=>r vs H1 Q
def eU (hc:bS X (.builtin id) r) (hg:Gl X x) (hm:X.mg x=bm) (hv:lw x=ap (.builtin id)) (ha:PA X (e::es) t) (hn:x≠"__name__":=by decide) (ny:jg x:=by decide)
  (he:gM X e es:=by rfl) (dQ:kL X pos es:=by rfl):PE X (.Call (.Name x p) (e::es) [] pos) (tCB r t):=by
 intro Z s σ H Q I h;refine Bz (hV I hg hm hv ?_ hn ny);exact PyProof.Rows.callWith_builtin1 (cq (ha pos Z s σ H _ I h) λus s1 ⟨vs,H1,I1,r1,q1⟩=>hc Z s1 σ H1 vs us Q I1 r1 q1) he dQ
def lY (hc:bS X (.type T) r) (hg:Gl X x) (hm:X.mg x=bm) (hv:lw x=ap (.type T)) (ha:PA X (e::es) t) (hn:x≠"__name__":=by decide) (ny:jg x:=by decide)
  (he:gM X e es:=by rfl) (dQ:kL X pos es:=by rfl):PE X (.Call (.Name x p) (e::es) [] pos) (tCB r t):=by
 intro Z s σ H Q I h;refine Bz (hV I hg hm hv ?_ hn ny);exact Bb (cq (ha pos Z s σ H _ I h) λus s1 ⟨vs,H1,I1,r1,q1⟩=>hc Z s1 σ H1 vs us Q I1 r1 q1) he dQ
end
end L2
variable {l:BG}{hi:Option Int}{prog:PySem.Program}{items:Array A3}{ns ms:List Int}{vl vu:A3}
namespace HT
open PySem PyProof.Rows
def lexLt:List Int->List Int->Bool
 | [],[]=>false
 | [],_::_=>true
 | _::_,[]=>false
 | x::xs,y::ys=>if x=y then lexLt xs ys else decide (x < y)
theorem Js (x y:Int) (xs ys:List Int):lexLt (x::xs) (y::ys)=if x=y then lexLt xs ys else decide (x < y):=rfl
def RS (A:o0) (s:cr) (a:Int) (t:Tok) (c:Int) (u:Tok):∃e,DL A s (.int a t) (.int c u) e/\(e=true↔a=c):=
 ⟨(a==c),Ek a t c u,by simp⟩
def Px (A:o0) (s:cr) (a:Int) (t:Tok) (c:Int) (u:Tok) (prog:tt) (w:wv) (E:bn->cr->Prop) (Q:bn->cr->Prop) (h:Q (.bool (decide (a < c))) s) :
  db (dL prog w) A (richCompare .Lt (.int a t) (.int c u)) Q E s:=
 (PyProof.Rows.lt_int h:db (dL prog w) A (nw .Lt (.int a t) (.int c u)) Q E s)
section
open PySem.SeqAt
open PySem.AutoSeq1 (wpAny_loadPart')
open PySem.MeetsSeq PySem.MeetsSeq2 PySem.MeetsSeq3
theorem uX (l b:ce) (items b9:Array bn) (n n2:Nat) (dd VS:Option ce) (sl SJ:Array (Option bn)) (ns ms:List Int) (hi:tz items.toList ns) (hj:tz b9.toList ms) :
  Meets (ut.«tuple.__lt__» ⟨[.ref l,.ref b],[]⟩)
   (λ_ R s=>s.heap.get? l=ap {cls:=.type "tuple",dict:=dd,data:=.seq items n,slots:=sl}/\s.heap.get? b=ap {cls:=.type "tuple",dict:=VS,data:=.seq b9 n2,slots:=SJ}/\
    R (.ok (.ret (.bool (lexLt ns ms)))) s):=
 .of_wp λprog w A R s h=>by
  obtain⟨hp,g,d,tk,os⟩:=s;obtain⟨hl,hb,h⟩:=h;have f2:=AutoSeq1.sub_tuple_tuple;have z1:items.size=ns.length:=by rw [<- hi.length];simp
  have z2:b9.size=ms.length:=by rw [<- hj.length];simp
  wp_walk using wpAny_loadPart' hl,wpAny_loadPart' hb,wpAny_forIn_list _ (λrest b s'=>b.1=bm/\s'=⟨hp,g,d,tk,os⟩/\∃(vs ws:List bn) (vS å:List Int),rest=vs.zip ws/\
   tz vs vS/\tz ws å/\vS.length+b9.size=å.length+items.size/\R (.ok (.ret (.bool (lexLt vS å)))) ⟨hp,g,d,tk,os⟩) _
  case turn=>
   rintro⟨y,x⟩ rest b s' ⟨ĥ,rfl,vs,ws,vS,å,hz,hvi,hwi,Á,hR⟩;cases hvi with
   | nil=>rw [List.zip_nil_left] at hz;cases hz
   | cons a t ag2=>
    cases hwi with
    | nil=>rw [List.zip_nil_right] at hz;cases hz
    | cons c u ag1=>
     rw [List.zip_cons_cons] at hz;injection hz with hyx acZ;injection hyx with hy hx;subst hy hx;rw [Js] at hR;simp only [Ap] at Á;obtain⟨e,he,ac8⟩:=RS A.in1 ⟨hp,g,d,tk,os⟩ a t c u;refine Aa (he prog w _ _ ?_);cases e with
     | true=>
      rw [if_pos (ac8.mp rfl)] at hR
      wp_walk
      exact⟨rfl,rfl,_,_,_,_,acZ,ag2,ag1,by omega,hR⟩
     | false=>
      rw [if_neg (λq=>absurd (ac8.mpr q) AR)] at hR;have hri:=Px A.in1 ⟨hp,g,d,tk,os⟩ a t c u prog w
      wp_walk using hri
      exact⟨_,rfl,by simpa using hR⟩
  case fin=>
   rintro⟨b1,b2⟩ s' ⟨ĥ,rfl,vs,ws,vS,å,hz,hvi,hwi,Á,hR⟩;simp only at ĥ;subst ĥ;have hv:lexLt vS å=decide (items.size < b9.size):=by
    cases hvi with
    | nil=>
     cases hwi with
     | nil=>
      exact (decide_eq_false ∅).symm
     | cons c u hw=>
      simp only [Bk,Ap] at Á;exact (decide_eq_true ∅).symm
    | cons a t hv=>
     cases hwi with
     | nil=>
      simp only [Bk,Ap] at Á;exact (decide_eq_false ∅).symm
     | cons c u hw=>
      rw [List.zip_cons_cons] at hz;cases hz
   rw [hv] at hR
   wp_walk
   exact⟨_,rfl,by simpa [Builtin.Tuple.tupleCompareSizes] using hR⟩
  case h=>
   exact⟨rfl,rfl,items.toList,b9.toList,ns,ms,rfl,hi,hj,by omega,h⟩
end
section
def Jo {b9:Array bn} (hl:IsTup s.heap l items) (hb:IsTup s.heap b b9) (hi:tz items.toList ns) (hj:tz b9.toList ms)
  (hu:A.units < pc) (h:Q (.bool (lexLt ns ms)) s):db (dL prog w) A (nw .Lt (.ref l) (.ref b)) Q E s:=by
 obtain⟨⟨cls,dd,data,sl⟩,ho,hc,n,hd⟩:=id hl;obtain⟨⟨Œ,VS,data2,SJ⟩,NH,Rm,n2,Ô⟩:=id hb;simp only at hc hd Rm Ô;subst hc hd Rm Ô;exact richCompare_meets_room (op:=.Lt) ⟨_,ho,rfl⟩ ⟨_,NH,rfl⟩ PySem.F.slot_tuple_lt PySem.F.entry_tuple_lt (PySem.F.args_tuple_lt_2 _ _) (uX l b items b9 n n2 dd VS sl SJ ns ms hi hj)
  ⟨ho,NH,show C5 (lexLt ns ms)≠Value.notImplemented/\Q (.bool (lexLt ns ms)) s from⟨(λx=>nomatch x),h⟩⟩ hu
def VU {t:ce}{vs ws:List bn} (ht:IsTup s.heap t vs.toArray) (hb:IsTup s.heap b ws.toArray) (hv:vs≠[])
  (h1:ws=[]->Q (.ref t) s) (h2:ws≠[]->Q (.ref s.heap.objs.size) {s with heap:=s.heap.push {cls:=.type "tuple",data:=.seq (vs++ws).toArray}})
  (hsz:vs.length+ws.length<=sizeLine):db (dL prog w) A (sn .Add (.ref t) (.ref b)) Q E s:=by
 obtain⟨⟨cls,dd,data,sl⟩,ho,hc,n,hd⟩:=id ht;obtain⟨⟨Œ,VS,data2,SJ⟩,NH,Rm,n2,Ô⟩:=id hb;simp only at hc hd Rm Ô;subst hc hd Rm Ô;have e:vs.toArray++ws.toArray=(vs++ws).toArray:=by simp
 by_cases hw:ws=[]
 ·exact concat_meets ⟨_,ho,rfl⟩ ⟨_,NH,rfl⟩ noFill_tuple_add seq_tuple_add Dq Dp (Di _ _)
   (tuple_addW1 t b vs.toArray ws.toArray n n2 dd VS sl SJ (by simpa using hv) (by simp [hw])) ⟨ho,NH,h1 hw⟩
 ·refine concat_meets ⟨_,ho,rfl⟩ ⟨_,NH,rfl⟩ noFill_tuple_add seq_tuple_add Dq Dp (Di _ _)
   (tuple_addW2 t b vs.toArray ws.toArray n n2 dd VS sl SJ (by simpa using hv) (by simpa using hw) (by rw [Ai,Ai];exact hsz)) ⟨ho,NH,?_⟩
  rw [e];exact h2 hw
def d9 (n d:Nat):Option Int->Nat
 | none=>d
 | some v=>if v < 0 then (v+(n:Int)).toNat else min v.toNat n
theorem Gi (n d:Nat):d9 n d bm=d:=rfl
theorem Tu (n d k:Nat):d9 n d (ap (k:Int))=min k n:=by
 show (if (k:Int) < 0 then ((k:Int)+(n:Int)).toNat else min (k:Int).toNat n)=min k n;rw [if_neg ∅,AW]
theorem Mh (v:Int) (n d:Nat):(if v < 0 then max (v+(n:Int)) 0 else min v (n:Int))=((d9 n d (ap v):Nat):Int):=by
 show (if v < 0 then max (v+(n:Int)) 0 else min v (n:Int))=(((if v < 0 then (v+(n:Int)).toNat else min v.toNat n):Nat):Int);by_cases hv:v < 0
 ·simp only [if_pos hv];omega
 ·simp only [if_neg hv];omega
theorem KG (lo hi:Option Int) (n:Nat):Builtin.Slice.sliceAdjust lo hi 1 (n:Int)=(((d9 n 0 lo:Nat):Int),((d9 n n hi:Nat):Int)):=by
 have h1:¬((1:Int) < 0):=by omega
 unfold Builtin.Slice.sliceAdjust;refine Prod.ext ?_ ?_
 ·cases lo with
  | none=>rfl
  | some v=>exact Mh v n 0
 ·cases hi with
  | none=>rfl
  | some v=>exact Mh v n n
theorem IZ (i j:Nat):Builtin.Slice.slicePlaces (i:Int) (j:Int) 1=j-i:=by
 unfold Builtin.Slice.slicePlaces;have h1:(1:Int) > 0:=by omega
 split <;> omega
def gR {o:Option Int}{Q:Option Int->cr->Prop} (p:IsPart v o) (h:Q o s):db (dL prog w) A (Builtin.Slice.slicePartIndex v) Q E s:=by
 cases p with
 | none=>exact slicePart_none h
 | int i t=>exact slicePart_int h
def jl {sl:ce}{lo:Option Int}{Q:Int×Int×Nat->cr->Prop} (hs:s.heap.IsSliceOf sl vl vu .none) (pl:IsPart vl lo) (pu:IsPart vu hi)
  (h:Q (((d9 n 0 lo:Nat):Int),1,d9 n n hi-d9 n 0 lo) s):db (dL prog w) A (Builtin.Slice.sliceApplied (.ref sl) (pure (n:Int))) Q E s:=by
 obtain⟨os,Ow,ì,Vn⟩:=id hs;refine Aa (Aa (AZ Ow Vn (x:=vl) rfl (Aa (AZ Ow Vn (x:=vu) rfl (Aa (AZ Ow Vn (x:=.none) rfl (Ad ?_)))))));refine Aa (slicePart_none ?_);refine Aa (gR pl (Aa (gR pu (Aa (Ad ?_)))));show db _ _ (match Builtin.Slice.sliceAdjust lo hi 1 (n:Int) with | (lo,hi)=>pure (lo,(1:Int),Builtin.Slice.slicePlaces lo hi 1)) _ _ s;rw [KG lo hi n];show db _ _ (pure (((d9 n 0 lo:Nat):Int),(1:Int),Builtin.Slice.slicePlaces ((d9 n 0 lo:Nat):Int) ((d9 n n hi:Nat):Int) 1)) _ _ s;rw [IZ];exact Ad h
theorem P5 (xs:Array bn) (i k:Nat):((Aw k).filterMap λ(m:Nat)=>xs[((i:Int)+(m:Int)*1).toNat]?).toArray=((xs.toList.drop i).take k).toArray:=by
 have e:(λ(m:Nat)=>xs[((i:Int)+(m:Int)*1).toNat]?)=λm=>xs[i+m]?:=by
  funext m;have:((i:Int)+(m:Int)*1).toNat=i+m:=by omega
  rw [this]
 rw [e];have:=pick_run xs i k;rw [List.filterMap_map] at this;have e2:((λx=>xs[x]?)∘λx=>i+x)=λm=>xs[i+m]?:=rfl;rw [e2] at this;rw [this]
theorem o9 {t sl:ce}{lo:Option Int} (ht:IsTup s.heap t items) (hs:s.heap.IsSliceOf sl vl vu .none) (pl:IsPart vl lo) (pu:IsPart vu hi)
  (hw:¬(d9 items.size 0 lo=0/\d9 items.size items.size hi=items.size))
  (h:Q (.ref s.heap.objs.size) {s with heap:=s.heap.push {cls:=.type "tuple",data:=.seq ((items.toList.drop (d9 items.size 0 lo)).take (d9 items.size items.size hi-d9 items.size 0 lo)).toArray}})
  (hsz:items.size<=sizeLine):db (dL prog w) A (Db (.ref t) (.ref sl)) Q E s:=by
 have LS:sizeOk (.seq ((items.toList.drop (d9 items.size 0 lo)).take (d9 items.size items.size hi-d9 items.size 0 lo)).toArray):=by
  show ((items.toList.drop (d9 items.size 0 lo)).take (d9 items.size items.size hi-d9 items.size 0 lo)).toArray.size<=sizeLine;rw [Ai,DQ,E1,B3];omega
 obtain⟨os,Ow,ì,Vn⟩:=id hs;have Ċ:s.TypeIs (.ref sl) "slice":=⟨os,Ow,ì⟩;unfold Db
 try with_reducible refine Bd ?_
 first | refine Aa (Ad ?_) | skip
 refine Aa (EJ ht.typeIs ⋯ ?_);refine Aa (AN (name:=BB "__getitem__") ht.typeIs AQ
  (A1 AQ ht.typeIs entry_tuple_getitem ?_ (args_tuple_getitem _ _)))
 show db _ _ (Builtin.Tuple.tupleItemsOf (.ref t) >>= _) _ _ s;refine Aa (tupleItemsOf_ ht ?_);refine Aa (CO Ċ ?_);refine Aa (jl hs pl pu ?_);have hno:¬((((d9 items.size 0 lo:Nat):Int)==0&&(1:Int)==1&&(d9 items.size items.size hi-d9 items.size 0 lo)==items.size)=true):=by
  intro q;rw [AO,AO] at q;have q1:=eq_of_beq q.1.1;have q2:=eq_of_beq q.2;exact hw ⟨by omega,by omega⟩
 show db _ _ (if (((d9 items.size 0 lo:Nat):Int)==0&&(1:Int)==1&&(d9 items.size items.size hi-d9 items.size 0 lo)==items.size)=true then _ else _) _ _ s;rw [if_neg hno,P5]
 first
  | exact Aa (m:=Builtin.Tuple.tupleExact _) (AE (Ad ⟨_,rfl,Ad h⟩) LS)
  | exact Aa (m:=Builtin.Tuple.tupleExact _) (AE (Aa (Ad (Ad ⟨_,rfl,Ad h⟩))) LS)
  | exact Aa (Aa (m:=Builtin.Tuple.tupleExact _) (AE (Ad (Ad ⟨_,rfl,Ad h⟩)) LS))
  | exact Aa (Aa (m:=Builtin.Tuple.tupleExact _) (AE (Ad ⟨_,rfl,Ad h⟩) LS))
end
end HT
variable {p2:Ck}
namespace L2
open PySem PySem.Spec PyProof.Rows
abbrev TO:=St->Hp->(Option Int->Hp->Prop)->Prop
def PO (X:Cx) (e:Option ii) (t:TO):Prop:=
 ∀(Z:List (ce×Obj)) (s:cr) (σ:St) (H:Hp) (Q:Option Int->Hp->Prop),Inv X Z σ H s->t σ H Q->
  db (dL X.prog X.w) X.A (evalPart e X.env) (λu s'=>∃o H',Inv X Z σ H' s'/\IsPart u o/\Q o H') X.xe s
def Ta:TO:=λ_ H Q=>Q bm H
def abn (t:TE):TO:=λσ H Q=>t σ H λx H1=>∃i,x=.int i/\Q (ap i) H1
def intsAre_of:∀{us:List bn},Vals (ns.map V.int) us->tz us ns:=by
 induction ns with
 | nil=>intro us r;rw [Cz] at r;cases r;exact .nil
 | cons n ns ih=>
  intro us r;rw [Aq] at r;cases r with
  | cons r1 r2=>
   obtain⟨t,e⟩:=r1;subst e;exact .cons n t (ih r2)
section
variable {lo hi:Option ii}{tl th:TO}
def T5:PO X bm Ta:=by
 intro Z s σ H Q I h;exact Ad ⟨bm,H,I,.none,h⟩
def T4 (h:PE X e te):PO X (ap e) (abn te):=by
 intro Z s σ H Q I hw;refine cq (h Z s σ H _ I hw) λu s1 ⟨x,H1,I1,r1,q1⟩=>?_;obtain⟨i,rfl,q⟩:=q1;obtain⟨t,rfl⟩:=r1;exact⟨ap i,H1,I1,.int i t,q⟩
def SlR (X:Cx) (r:V->Option Int->Option Int->Hp->VK->Prop):Prop:=
 ∀(Z:List (ce×Obj)) (s:cr) (σ:St) (H:Hp) (x:V) (v vl vu:bn) (lo hi:Option Int) (sl:ce) (Q:VK),Inv X Z σ H s->RelV x v->s.heap.IsSliceOf sl vl vu .none->IsPart vl lo->IsPart vu hi->r x lo hi H Q->
  ∃T id,FM (.type T) "__getitem__"=pure (ap (.builtin id))/\s.TypeIs v T/\db (dL X.prog X.w) X.A (Db v (.ref sl)) (EP X Z σ Q) X.xe s
def tSl (r:V->Option Int->Option Int->Hp->VK->Prop) (te:TE) (tl th:TO):TE:=λσ H Q=>te σ H λx H1=>tl σ H1 λl H2=>th σ H2 λu H3=>r x l u H3 Q
def Qb {r:V->Option Int->Option Int->Hp->VK->Prop} (hr:SlR X r) (he:PE X e te) (hl:PO X lo tl) (hu:PO X hi th):PE X (.Subscript e (.Slice lo hi bm p2) pos) (tSl r te tl th):=by
 intro Z s σ H Q I h;refine Subscript_ (cq (he Z s σ H _ I h) λv s1 ⟨x,H1,I1,r1,q1⟩=>?_);refine wpAny_Slice (cq (hl Z s1 σ H1 _ I1 q1) λvl s2 ⟨l,H2,I2,pl,q2⟩=>cq (hu Z s2 σ H2 _ I2 q2) λvu s3 ⟨u,H3,I3,pu,q3⟩=>?_);rw [evalPart_none];refine Ad ?_;have I4:Inv X Z σ H3 {s3 with heap:=s3.heap.push {cls:=.type "slice",data:=.fields #[vl,vu,.none]}}:=I3.kept (t':=s3.toks) λb ob q=>Ag _ q;obtain⟨T,id,hT,ht,hg⟩:=hr Z {s3 with heap:=s3.heap.push {cls:=.type "slice",data:=.fields #[vl,vu,.none]}} σ H3 x v vl vu l u s3.heap.objs.size Q I4 r1 (Fp.new ..) pl pu q3;show db (dL X.prog X.w) X.A (subscriptTail e (.Slice lo hi bm p2) v (.ref s3.heap.objs.size)) (EP X Z σ Q) X.xe {s3 with heap:=s3.heap.push {cls:=.type "slice",data:=.fields #[vl,vu,.none]}};exact tail_any (ops:=[.ref s3.heap.objs.size,v]) ht hT hg (by with_unfolding_all rfl)
def zg (xs:List V) (lo hi:Option Int):List V:=(xs.drop (HT.d9 xs.length 0 lo)).take (HT.d9 xs.length xs.length hi-HT.d9 xs.length 0 lo)
theorem qV (xs:List V) (lo hi:Option Int):(zg xs lo hi).length<=xs.length:=by
 unfold zg;rw [DQ,E1];omega
def agh (K:Ab):V->Option Int->Option Int->Hp->VK->Prop:=λx lo hi H Q=>∃a xs,x=.ref a/\dR K H a xs/\
 ¬(HT.d9 xs.length 0 lo=0/\HT.d9 xs.length xs.length hi=xs.length)/\∀p,H p=bm->Q (.ref p) (upd H p (.tup (zg xs lo hi)))
def X4:SlR X (agh X.K):=by
 intro Z s σ H x v vl vu lo hi sl Q I rx hs pl pu h;obtain⟨a,xs,rfl,hx,hw,q⟩:=h;cases rx;obtain⟨au,r,ht,hz⟩:=I.tuple hx;have Á:au.toArray.size=xs.length:=by rw [Ai];exact r.length.symm
 refine⟨"tuple",_,AQ.lookup,ht.typeIs,?_⟩;refine HT.o9 ht hs pl pu (by rw [Á];exact hw) ?_ (by rw [Á];exact hz);rw [Á];refine⟨.ref s.heap.objs.size,_,I.laid (t':=s.toks) (o:=.tup (zg xs lo hi)) (λb ob q=>Ag _ q) (Am _) ?_,rfl,q _ (I.bC.fresh (Am _))⟩;exact⟨AV (qV xs lo hi) hz,_,(r.drop (HT.d9 xs.length 0 lo)).take (HT.d9 xs.length xs.length hi-HT.d9 xs.length 0 lo),FD _ _⟩
def Wx (K:Ab):R2:=λx y H Q=>∃a b xs ys,x=.ref a/\y=.ref b/\dR K H a xs/\dR K H b ys/\xs≠[]/\xs.length+ys.length<=sizeLine/\
 (ys=[]->Q (.ref a) H)/\(ys≠[]->∀p,H p=bm->Q (.ref p) (upd H p (.tup (xs++ys))))
def Vals.jQ (r:Vals xs us):us=[]↔xs=[]:=by
 cases r with
 | nil=>simp
 | cons _ _=>simp
def Lz:je X (sn .Add) (Wx X.K):=by
 intro Z s σ H x y v u Q I rx ry h;obtain⟨a,b,xs,ys,rfl,rfl,ha,hb,hx,hz,q1,q2⟩:=h;cases rx;cases ry;obtain⟨au,r1,p1,_⟩:=I.tuple ha;obtain⟨c8,r2,p2,_⟩:=I.tuple hb;refine HT.VU p1 p2 (λz=>hx (r1.jQ.mp z)) (λz=>⟨.ref a,H,I,rfl,q1 (r2.jQ.mp z)⟩) (λz=>?_) (by rw [<- r1.length,<- r2.length];exact hz);refine⟨.ref s.heap.objs.size,_,I.laid (t':=s.toks) (o:=.tup (xs++ys)) (λb ob q=>Ag _ q) (Am _) ?_,rfl,q2 (λw=>z (r2.jQ.mpr w)) _ (I.bC.fresh (Am _))⟩;exact⟨by rw [Ah];exact hz,_,r1.append r2,FD _ _⟩
end
end L2
variable {its':List A3}
namespace L2
open PySem PySem.Spec PyProof.Rows
def wd (n:Nat) (i:Int):Option Nat:=if 0<=i then (if i < n then ap i.toNat else bm) else if -(n:Int)<=i then ap (i+n).toNat else bm
def cF (xs:List α) (i:Int):Option α:=(wd xs.length i).bind λj=>xs[j]?
theorem yj (h:wd n i=ap j):seqIndex? i n=ap j/\j < n/\-(n:Int)<=i/\i < n:=by
 unfold wd at h;by_cases h0:0<=i
 ·rw [if_pos h0] at h;by_cases h1:i < n
  ·rw [if_pos h1] at h;have e:=Option.some.inj h;exact⟨by rw [seqIndex_of h0 h1,e],by omega,by omega,h1⟩
  ·rw [if_neg h1] at h;cases h
 ·rw [if_neg h0] at h;by_cases h1:-(n:Int)<=i
  ·rw [if_pos h1] at h;have e:=Option.some.inj h;exact⟨by rw [seqIndex_neg ∅ h1,e],by omega,h1,by omega⟩
  ·rw [if_neg h1] at h;cases h
def zk {xs:List α}{v:α} (h:cF xs i=ap v):∃j,seqIndex? i xs.length=ap j/\xs[j]?=ap v/\j < xs.length/\-(xs.length:Int)<=i/\i < xs.length:=by
 unfold cF at h;cases e:wd xs.length i with
 | none=>rw [e] at h;cases h
 | some j=>
  rw [e] at h;obtain⟨h1,h2,h3,h4⟩:=yj e;exact⟨j,h1,h,h2,h3,h4⟩
theorem dJ {xs:List α}{v:α} (h:xs[j]?=ap v):cF xs (j:Int)=ap v:=by
 have hj:=(Al.mp h).1;have e:wd xs.length (j:Int)=ap j:=by
  unfold wd;rw [if_pos ∅,if_pos ∅];simp
 unfold cF;rw [e];exact h
def zF (b:ii):Prop:=∀o i,subscripted b false o i=operate [o,i] (Db o i)
def SU (X:Cx) (r:R2):Prop:=
 ∀(value Æ:ii) (Z:List (ce×Obj)) (s:cr) (σ:St) (H:Hp) (x y:V) (v u:bn) (Q:VK),Inv X Z σ H s->RelV x v->RelV y u->r x y H Q->
  subscripted Æ false v u=operate [v,u] (Db v u)->db (dL X.prog X.w) X.A (subscriptTail value Æ v u) (EP X Z σ Q) X.xe s
def MtR (X:Cx) (id:String) (r:V->List V->Hp->VK->Prop):Prop:=
 ∀(Z:List (ce×Obj)) (s:cr) (σ:St) (H:Hp) (x:V) (xs:List V) (v:bn) (us:List bn) (Q:VK),Inv X Z σ H s->RelV x v->Vals xs us->r x xs H Q->
  db (dL X.prog X.w) X.A (call (.builtin id) (v::us)) (EP X Z σ Q) X.xe s
section
variable {X:Cx}{a b:ii}{ta tb:TE}{pos:Pos}
def SU.or {r r':R2} (h:SU X r) (h':SU X r'):SU X (λx y H Q=>r x y H Q\/r' x y H Q):=by
 intro value Æ Z s σ H x y v u Q I rx ry q hs;rcases q with q | q
 ·exact h value Æ Z s σ H x y v u Q I rx ry q hs
 ·exact h' value Æ Z s σ H x y v u Q I rx ry q hs
def Wz {r:R2} (hr:SU X r) (ha:PE X a ta) (hb:PE X b tb) (hs:zF b):PE X (.Subscript a b pos) (XT r ta tb):=by
 intro Z s σ H Q I h;exact Subscript_ (aaf ha hb I h λv u s2 x y H2 I2 rx ry q=>hr a b Z s2 σ H2 x y v u Q I2 rx ry q (hs _ _))
def abW (K:Ab):R2:=λx y H Q=>∃p xs i v,x=.ref p/\y=.int i/\de K H p xs/\cF xs i=ap v/\Q v H
def abV (K:Ab):R2:=λx y H Q=>∃p xs i v,x=.ref p/\y=.int i/\dR K H p xs/\cF xs i=ap v/\Q v H
def Yl:R2:=λx y H Q=>∃z i c,x=.str z/\y=.int i/\z.length<=sizeLine/\cF z.cps.toList i=ap c/\Q (.str ⟨#[c]⟩) H
theorem Vb:SU X (abW X.K):=by
 intro value Æ Z s σ H x y v u Q I rx ry h hs;obtain⟨p,xs,i,z,rfl,rfl,hq,he,q⟩:=h;cases rx;obtain⟨t,rfl⟩:=ry;obtain⟨au,r,pl,hz⟩:=I.list hq;obtain⟨j,h1,h2,h3,h4,h5⟩:=zk he;obtain⟨w,ew,xA⟩:=r.get h2;have hl:=r.length;have hn:=xS;have fin:EP X Z σ Q w s:=⟨z,H,I,xA,q⟩;by_cases h0:0<=i
 ·have hj:i.toNat=j:=by
   rw [seqIndex_of h0 h5] at h1;exact Option.some.inj h1
  exact item_listR pl.isList h0 ∅ (by rw [hj];simpa using ew) fin hs
 ·have hj:(i+(au.toArray.size:Int)).toNat=j:=by
   rw [seqIndex_neg ∅ h4] at h1;rw [Ai,<- hl];exact Option.some.inj h1
  exact subscriptTail_builtinR (x:=w) pl.isList.typeIs slot_list_getitem.lookup
   (wpAny_getItem_list_neg (Q:=λr s'=>r=w/\EP X Z σ Q r s') pl.isList ∅ (by rw [Ai] <;> omega) ∅ (by rw [hj];simpa using ew) ⟨rfl,fin⟩) hs
theorem Zm:SU X (abV X.K):=by
 intro value Æ Z s σ H x y v u Q I rx ry h hs;obtain⟨p,xs,i,z,rfl,rfl,hq,he,q⟩:=h;cases rx;obtain⟨t,rfl⟩:=ry;obtain⟨au,r,pl,hz⟩:=I.tuple hq;obtain⟨j,h1,h2,h3,h4,h5⟩:=zk he;obtain⟨w,ew,xA⟩:=r.get h2;have hl:=r.length;have hn:=xS;have fin:EP X Z σ Q w s:=⟨z,H,I,xA,q⟩;exact subscriptTail_builtinR (x:=w) pl.typeIs slot_tuple_getitem.lookup
  (getItem_tuple (j:=j) (Q:=λr s'=>r=w/\EP X Z σ Q r s') pl ∅ ∅ (by rw [Ai,<- hl];exact h1) (by simpa using ew) ⟨rfl,fin⟩) hs
theorem QZ:SU X Yl:=by
 intro value Æ Z s σ H x y v u Q I rx ry h hs;obtain⟨z,i,c,rfl,rfl,hz,he,q⟩:=h;obtain⟨t,rfl⟩:=rx;obtain⟨t',rfl⟩:=ry;obtain⟨j,h1,h2,h3,h4,h5⟩:=zk he;have hl:z.cps.toList.length=z.length:=by simp [Str.length]
 rw [hl] at h1 h4 h5;have hn:=xS;exact tail_any (typeIs_str s z t) slot_str_getitem.lookup (getItem_str (c:=c) (by
  have e1:decide (i < -(2 ^ 63:Int))=false:=decide_eq_false ∅;have e2:decide (i≥2 ^ 63)=false:=decide_eq_false ∅;rw [e1,e2,Bool.or_false]) (by rw [h1];simpa using h2) ⟨.str ⟨#[c]⟩,H,I.tok _,⟨_,rfl⟩,q⟩) hs
def rIx (K:Ab):R2:=λx y H Q=>abW K x y H Q\/abV K x y H Q\/Yl x y H Q
def Zn:SU X (rIx X.K):=Vb.or (Zm.or QZ)
def Jn (au:List bn) (n j:Nat) (u:bn):Br (·.setIfInBounds j u) {cls:=.type "list",data:=.seq au.toArray n}={cls:=.type "list",data:=.seq (au.set j u).toArray n}:=by
 simp [Br]
def Inv.lst {Z:List (ce×Obj)}{σ:St}{H:Hp}{s:cr}{p:ce}{xs:List V} (I:Inv X Z σ H s) (h:H p=ap (.lst xs)) :
  ∃(au:List bn) (n:Nat),Vals xs au/\s.heap.get? p=ap {cls:=.type "list",data:=.seq au.toArray n}/\xs.length<=sizeLine:=by
 obtain⟨z,au,n,r,e⟩:=I.bC p _ h;exact⟨au,n,r,e,z⟩
def Inv.Y1 {p:ce}{n':Nat}{f:Obj->Obj} (I:Inv X Z σ H s) (h:H p=ap (.lst xs))
  (ho:s.heap.get? p=ap {cls:=.type "list",data:=.seq au.toArray n}) (hf:f {cls:=.type "list",data:=.seq au.toArray n}={cls:=.type "list",data:=.seq its'.toArray n'}) (r:Vals ys its') (hz:ys.length<=sizeLine) (t:Nat) :
  Inv X Z σ (upd H p (.lst ys)) {s with heap:=s.heap.update p f,toks:=t}:=by
 have e:(s.heap.update p f).get? p=ap {cls:=.type "list",data:=.seq its'.toArray n'}:=by
  rw [BJ f ho (by rw [hf] <;> rfl),hf]
 refine I.write (x:=p) (e:=p) (by rw [h];trivial) (.inl rfl) (λb u hb q=>(BW _ _ (BP hb)).trans q) ⟨_,e⟩ ?_;exact⟨hz,its',n',r,e⟩
def abP:V->V->V->Hp->(Hp->Prop)->Prop:=λo i v H Q=>∃p xs k j,o=.ref p/\i=.int k/\H p=ap (.lst xs)/\wd xs.length k=ap j/\Q (upd H p (.lst (xs.set j v)))
theorem set_list:Ol X abP:=by
 intro Z s σ H o i v ov iv u Q I ro ri rv h;obtain⟨p,xs,k,j,rfl,rfl,hp,hj,q⟩:=h;cases ro;obtain⟨t,rfl⟩:=ri;obtain⟨au,n,r,ho,hz⟩:=I.lst hp;obtain⟨h1,h2,h3,h4⟩:=yj hj;have hl:=r.length;have hn:=xS;have I':Inv X Z σ (upd H p (.lst (xs.set j v))) {s with heap:=s.heap.update p (Br (·.setIfInBounds j u))}:=
  I.Y1 hp ho (Jn au n j u) (r.set rv j) (by rw [B4];exact hz) s.toks
 by_cases h0:0<=k
 ·have hk:k.toNat=j:=by
   rw [seqIndex_of h0 h4] at h1;exact Option.some.inj h1
  exact PySem.W.ki_setAt ho h0 ∅ (by rw [Ai,<- hl];exact h4) (by rw [hk];exact⟨_,I',q⟩)
 ·have hk:(k+(au.toArray.size:Int)).toNat=j:=by
   rw [seqIndex_neg ∅ h3] at h1;rw [Ai,<- hl];exact Option.some.inj h1
  exact PySem.W.ki_setBack ho ∅ (by rw [Ai,<- hl];exact h3) ∅ (by rw [hk];exact⟨_,I',q⟩)
theorem xu (lo hi:Option Int) (n:Nat):(BT lo hi bm n).1=((HT.d9 n 0 lo:Nat):Int)/\(BT lo hi bm n).2.1=((HT.d9 n n hi:Nat):Int)/\(BT lo hi bm n).2.2=1:=by
 refine⟨?_,?_,rfl⟩
 ·cases lo with
  | none=>simp [BT,HT.d9]
  | some i=>
   simp only [BT,HT.d9,Option.getD_none,show (1:Int) > 0 by decide,if_true];by_cases h:i < 0
   ·simp only [h,if_true] <;> omega
   ·simp only [h,if_false] <;> omega
 ·cases hi with
  | none=>simp [BT,HT.d9]
  | some i=>
   simp only [BT,HT.d9,Option.getD_none,show (1:Int) > 0 by decide,if_true];by_cases h:i < 0
   ·simp only [h,if_true] <;> omega
   ·simp only [h,if_false] <;> omega
def uZ (au:List bn) (lo hi:Option Int):slicePick au.toArray lo hi bm=((au.drop (HT.d9 au.length 0 lo)).take (HT.d9 au.length au.length hi-HT.d9 au.length 0 lo)).toArray:=by
 obtain⟨h1,h2,h3⟩:=xu lo hi au.toArray.size;unfold slicePick;rw [h1,h2,h3];simp only [sliceRange_one,pick_run,Ai] <;> rfl
def agi (K:Ab):V->Option Int->Option Int->Hp->VK->Prop:=λx lo hi H Q=>∃a xs,x=.ref a/\de K H a xs/\∀p,H p=bm->Q (.ref p) (upd H p (.lst (zg xs lo hi)))
theorem aek:SlR X (agi X.K):=by
 intro Z s σ H x v vl vu lo hi sl Q I rx hs pl pu h;obtain⟨a,xs,rfl,hx,q⟩:=h;cases rx;obtain⟨au,r,ht,hz⟩:=I.list hx;have Á:=r.length;refine⟨"list",_,slot_list_getitem.lookup,ht.isList.typeIs,?_⟩;refine wpAny_getItem_list_slice ht.isList hs pl pu .none (by simp) ?_ (by rw [Ai] <;> omega);rw [uZ,<- Á];refine⟨.ref s.heap.objs.size,_,I.laid (t':=s.toks) (o:=.lst (zg xs lo hi)) (λb ob q=>Ag _ q) (Am _) ?_,rfl,q _ (I.bC.fresh (Am _))⟩;exact⟨AV (qV xs lo hi) hz,_,0,(r.drop (HT.d9 xs.length 0 lo)).take (HT.d9 xs.length xs.length hi-HT.d9 xs.length 0 lo),Ao _ rfl⟩
theorem zi:bS X (.type "list") (λxs H Q=>∃p ys,xs=[.ref p]/\(de X.K H p ys\/dR X.K H p ys)/\∀l,H l=bm->Q (.ref l) (upd H l (.lst ys))):=by
 intro Z s σ H xs us Q I r h;obtain⟨p,ys,rfl,hq,q⟩:=h;obtain⟨u,rfl,rx⟩:=vals1 r;cases rx;have fin:∀(au:List bn),Vals ys au->ys.length<=sizeLine->∀(h':mo) (c':Nat),(∀b o',s.heap.get? b=ap o'->h'.get? b=ap o')->
   h'.get? s.heap.objs.size=ap {cls:=.type "list",dict:=bm,data:=.seq au.toArray c',slots:=#[]}->EP X Z σ Q (.ref s.heap.objs.size) {s with heap:=h'}:=λau r' hz h' c' kp e=>
  ⟨.ref s.heap.objs.size,_,I.laid (t':=s.toks) kp (Am _) (show ba X.prog X.w _ h' _ (.lst ys) from⟨hz,au,c',r',e⟩),rfl,q _ (I.bC.fresh (Am _))⟩
 rcases hq with hq | hq
 ·obtain⟨au,r',pl,hz⟩:=I.list hq;have Á:=r'.length;obtain⟨o,ho,hc,n,hd⟩:=pl.isList;exact call_list_seq p (.inl rfl) ho hc hd (λh' c' kp e=>fin au r' hz h' c' kp e) (by simp only [Ai] <;> omega)
 ·obtain⟨au,r',pl,hz⟩:=I.tuple hq;have Á:=r'.length;obtain⟨o,ho,hc,n,hd⟩:=pl;exact call_list_seq p (.inr rfl) ho hc hd (λh' c' kp e=>fin au r' hz h' c' kp e) (by simp only [Ai] <;> omega)
theorem vB:bS X (.type "tuple") (λxs H Q=>∃p ys,xs=[.ref p]/\((de X.K H p ys/\∀l,H l=bm->Q (.ref l) (upd H l (.tup ys)))\/(dR X.K H p ys/\Q (.ref p) H))):=by
 intro Z s σ H xs us Q I r h;obtain⟨p,ys,rfl,h⟩:=h;obtain⟨u,rfl,rx⟩:=vals1 r;cases rx;rcases h with⟨hq,q⟩ | ⟨hq,q⟩
 ·obtain⟨au,r',pl,hz⟩:=I.list hq;have Á:=r'.length;refine call_tuple_list pl.isList (λh' kp=>?_) (by simp only [Ai] <;> omega);have I1:Inv X Z σ H {s with heap:=h'}:=I.kept (t':=s.toks) kp;have I2:Inv X Z σ (upd H h'.objs.size (.tup ys)) {s with heap:=h'.push {cls:=.type "tuple",data:=.seq au.toArray}}:=
   I1.laid (t':=s.toks) (λb o e=>Ag _ e) (Am _) (show ba X.prog X.w _ _ _ (.tup ys) from⟨hz,au,r',FD _ _⟩)
  exact⟨.ref h'.objs.size,_,I2,rfl,q _ (I1.bC.fresh (Am _))⟩
 ·obtain⟨au,r',pl,hz⟩:=I.tuple hq;exact call_tuple_same pl ⟨.ref p,H,I,rfl,q⟩
def tyV (K:Ab) (T:String) (x:V) (H:Hp):Prop:=match x with
 | .str _=>T="str"
 | .int _=>T="int"
 | .ref p=>(T="list"/\∃xs,de K H p xs)\/(T="tuple"/\∃o,K.lookup p=ap o/\o.cls=.type "tuple"/\o.dict=bm)\/
   (T="dict"/\((∃kvs,H p=ap (.dK kvs))\/∃kvs,H p=ap (.dT kvs)))\/(T="set"/\∃S n,H p=ap (.set S n))
 | _=>False
def OY {x:V} (I:Inv X Z σ H s) (r:RelV x v) (ty:tyV X.K T x H) :
  s.TypeIs v T/\∀a,v=.ref a->∃ob,s.heap.get? a=ap ob/\ob.dict=bm:=by
 cases x with
 | str z=>
  obtain⟨t,rfl⟩:=r;cases (show T="str" from ty);exact⟨typeIs_str s z t,λ_ e=>nomatch e⟩
 | int i=>
  obtain⟨t,rfl⟩:=r;cases (show T="int" from ty);exact⟨typeIs_int s i t,λ_ e=>nomatch e⟩
 | ref p=>
  cases r;rcases ty with⟨rfl,xs,hq⟩ | ⟨rfl,o,hk,hc,hd⟩ | ⟨rfl,hk⟩ | ⟨rfl,S,n,hk⟩
  ·obtain⟨au,_,pl,_⟩:=I.list hq;refine⟨pl.isList.typeIs,λa e=>?_⟩;cases e;obtain⟨o,n,e,c,hd,_⟩:=pl;exact⟨o,e,hd⟩
  ·refine⟨⟨o,I.v9 p o hk,hc⟩,λa e=>?_⟩;cases e;exact⟨o,I.v9 _ o hk,hd⟩
  ·have z:∃o,s.heap.get? p=ap o/\o.ExactDict:=by
    rcases hk with⟨kvs,hk⟩ | ⟨kvs,hk⟩
    ·obtain⟨_,_,_,_,o,_,_,e,ex,_⟩:=I.bC p _ hk;exact⟨o,e,ex⟩
    ·obtain⟨_,_,_,_,o,_,_,e,ex,_⟩:=I.bC p _ hk;exact⟨o,e,ex⟩
   obtain⟨o,e,ex⟩:=z;refine⟨⟨o,e,ex.1⟩,λa e2=>?_⟩;cases e2;exact⟨o,e,ex.2.1⟩
  ·obtain⟨o,_,_,_,e,ex,_⟩:=I.bC p _ hk;refine⟨⟨o,e,ex.1⟩,λa e2=>?_⟩;cases e2;exact⟨o,e,ex.2.1⟩
 | _=>exact Bt ty
def abw (K:Ab) (T:String) (r:V->List V->Hp->VK->Prop) (to:TE):TE:=λσ H Q=>to σ H λx H1=>tyV K T x H1/\r x [] H1 Q
def tBM (K:Ab) (T:String) (r:V->List V->Hp->VK->Prop) (to:TE) (t:TA):TE:=λσ H Q=>to σ H λx H1=>tyV K T x H1/\t σ H1 λxs H2=>r x xs H2 Q
variable {o e:ii}{es:List ii}{to:TE}{t:TA}{name:Str}{Â bg:Pos}{T id:String}{r:V->List V->Hp->VK->Prop}
def YA (pa:PlainAttrs T) (slot:Slot T name id) (Zx:typeOf (.builtin id)=pure (.type "method_descriptor")) (hm:MtR X id r) (ho:PE X o to)
  (c6:kw o name X.env (im o X.env)=im o X.env:=by rfl) (cZ:Oo Â bg:=by rfl):PE X (.Call (.Attribute o name Â) [] [] bg) (abw X.K T r to):=by
 intro Z s σ H Q I h;refine wpAny_Call_method0_late c6 cZ (cq (ho Z s σ H _ I h) λv s1 ⟨x,H1,I1,r1,ty,q1⟩=>?_);obtain⟨h1,h2⟩:=OY I1 r1 ty;exact⟨T,id,pa,slot,Zx,h1,h2,Ds rfl (FG (hm Z s1 σ H1 x [] v [] Q I1 r1 .nil q1))⟩
def ab8 (pa:PlainAttrs T) (slot:Slot T name id) (Zx:typeOf (.builtin id)=pure (.type "method_descriptor")) (hm:MtR X id r) (ho:PE X o to) (ha:PA X (e::es) t)
  (c6:kw o name X.env (im o X.env)=im o X.env:=by rfl)
  (nv:Xr X bg (e::es):=by rfl)
  (cZ:Oo Â bg:=by rfl) (hs:gM X e es:=by rfl) (eI:kL X bg es:=by rfl) :
  PE X (.Call (.Attribute o name Â) (e::es) [] bg) (tBM X.K T r to t):=by
 intro Z s σ H Q I h;refine wpAny_Call_method_late c6 nv cZ rfl (cq (ho Z s σ H _ I h) λv s1 ⟨x,H1,I1,r1,ty,q1⟩=>?_);obtain⟨h1,h2⟩:=OY I1 r1 ty;refine⟨T,id,pa,slot,Zx,h1,h2,?_⟩;have hA:=ha bg Z s1 σ H1 _ I1 q1;rw [hs] at hA ⊢;refine Ds (by show (false||(wP bg (f8 es X.env)).any (·.1))=false;rw [eI] <;> rfl) (Calls.evalArgs_plain ?_);exact cq hA λus s2 ⟨vs,H2,I2,r2,q2⟩=>hm Z s2 σ H2 x vs v us Q I2 r1 r2 q2
end
def KU (X:Cx) (id:String) (r:V->List V->Hp->VK->Prop):Prop:=
 ∀(Z:List (ce×Obj)) (s:cr) (σ:St) (H:Hp) (x:V) (xs:List V) (v:bn) (us:List bn) (Q:VK),Inv X Z σ H s->RelV x v->Vals xs us->r x xs H Q->
  db (dL X.prog X.w) X.A (call (.builtin id) (v::us)) (EP X Z σ Q) X.xe s
def Vals.one:∀{x:V}{us:List bn},Vals [x] us->∃u,us=[u]/\RelV x u
 | _,_,.cons r .nil=>⟨_,rfl,r⟩
def Vals.zero:∀{us:List bn},Vals [] us->us=[]
 | _,.nil=>rfl
def Vals.dropLast (h:Vals xs us):Vals xs.dropLast us.dropLast:=by
 induction h with
 | nil=>exact .nil
 | cons r t ih=>
  cases t with
  | nil=>exact .nil
  | cons q t'=>exact .cons r ih
theorem Vals.eraseIdx:∀{xs:List V}{us:List bn} (i:Nat),Vals xs us->Vals (xs.eraseIdx i) (us.eraseIdx i)
 | _,_,_,.nil=>.nil
 | _,_,0,.cons _ t=>t
 | _,_,i+1,.cons r t=>.cons r (Vals.eraseIdx i t)
theorem Vals.rep (h:Vals xs us):∀k:Nat,Vals (An k xs).flatten (An k us).flatten
 | 0=>.nil
 | k+1=>by
  rw [BH,BH,B1,B1];exact Vals.append h (Vals.rep h k)
theorem J6 (l:List α):l.eraseIdx (l.length-1)=l.dropLast:=by
 induction l with
 | nil=>rfl
 | cons a r ih=>
  cases r with
  | nil=>rfl
  | cons b r=>
   have e:(a::b::r).length-1=((b::r).length-1)+1:=by
    have h1:(a::b::r).length=r.length+2:=rfl;have h2:(b::r).length=r.length+1:=rfl;omega
   rw [e,CM,ih]
   all_goals rfl
theorem vX:∀(l:List α) (i:Nat),(l.eraseIdx i).length<=l.length
 | [],_=>Am _
 | _::_,0=>D2 _
 | _::r,i+1=>Nat.succ_le_succ (vX r i)
theorem foldl_rep (au:List bn):∀(k:Nat) (Ä:List bn),
  List.foldl (λx1 x2=>x1++x2) Ä.toArray (An k au.toArray)=(Ä++(An k au).flatten).toArray
 | 0,Ä=>by simp
 | k+1,Ä=>by
  have e:Ä.toArray++au.toArray=(Ä++au).toArray:=by simp
  have e2:(Ä++au)++(An k au).flatten=Ä++(An (k+1) au).flatten:=by
   rw [BH,B1,AA]
  rw [<- e2,<- foldl_rep au k (Ä++au),<- e,BH,Dn]
section
def Inv.Jp {f:Array bn->Array bn}{t':Nat} (I:Inv X Z σ H s) (hH:H l=ap (.lst xs))
  (e:s.heap.get? l=ap {cls:=.type "list",data:=.seq au.toArray n}) (hf:f au.toArray=its'.toArray) (hv:Vals ys its') (hz:ys.length<=sizeLine) :
  Inv X Z σ (upd H l (.lst ys)) {s with heap:=s.heap.update l (Br f),toks:=t'}:=by
 have q:=PySem.IsL.update e f;rw [hf] at q;refine I.write (x:=l) (e:=l) (by rw [hH];exact trivial) (.inl rfl) (λb' u hb hu=>(BW s.heap (Br f) (BP hb)).trans hu) ⟨_,q⟩ ?_;exact⟨hz,its',_,hv,q⟩
def Inv.Y2 {t':Nat} (I:Inv X Z σ H s) (hv:Vals ys au) (hz:ys.length<=sizeLine) :
  Inv X Z σ (upd H s.heap.objs.size (.lst ys)) {s with heap:=s.heap.push {cls:=.type "list",data:=.seq au.toArray},toks:=t'}:=
 I.laid (λ_ _ q=>Ag _ q) (Am _) ⟨hz,au,0,hv,Ao _ rfl⟩
def Inv.fresh (I:Inv X Z σ H s):H s.heap.objs.size=bm:=I.bC.fresh (Am _)
def Inv.rj (I:Inv X Z σ H s) (hH:H l=ap (.lst xs)):xs.length<=sizeLine/\∃(au:List bn) (n:Nat),Vals xs au/\xs.length=au.length/\s.heap.get? l=ap {cls:=.type "list",data:=.seq au.toArray n}:=by
 obtain⟨z,au,n,r,e⟩:=I.bC l _ hH;exact⟨z,au,n,r,r.length,e⟩
theorem oI (h:n<=sizeLine):Builtin.List.listTooLong n=false:=by
 exact decide_eq_false ∅
end
section
def TU:V->List V->Hp->VK->Prop:=λx vs H Q=>∃l xs y,x=.ref l/\vs=[y]/\H l=ap (.lst xs)/\xs.length < sizeLine/\Q .aN (upd H l (.lst (xs++[y])))
theorem Na:KU X "list.append" TU:=by
 intro Z s σ H x vs v us Q I rx rv h;obtain⟨l,xs,y,rfl,rfl,hH,hz,q⟩:=h;cases rx;obtain⟨u,rfl,ru⟩:=rv.one;obtain⟨z,au,n,r,hl,e⟩:=I.rj hH;refine sB F.slot_list_append ⟨_,e,rfl⟩ F.entry_list_append (F.args_list_append_2 _ _) (PySem.list_append l au.toArray n u (by rw [Ai];omega)) ⟨e,?_⟩;refine⟨.aN,_,I.Jp (its':=au++[u]) hH e (by simp) (r.append (.cons ru .nil)) ?_,rfl,q⟩;rw [Ah,DK];omega
def TQ:V->List V->Hp->VK->Prop:=λx vs H Q=>∃l b xs zs,x=.ref l/\vs=[.ref b]/\H l=ap (.lst xs)/\H b=ap (.lst zs)/\xs.length+zs.length<=sizeLine/\Q .aN (upd H l (.lst (xs++zs)))
theorem aaw:KU X "list.extend" TQ:=by
 intro Z s σ H x vs v us Q I rx rv h;obtain⟨l,b,xs,zs,rfl,rfl,hH,hB,hz,q⟩:=h;cases rx;obtain⟨u,rfl,ru⟩:=rv.one;cases ru;obtain⟨z,au,n,r,hl,e⟩:=I.rj hH;obtain⟨z2,c8,n2,r2,SQ,e2⟩:=I.rj hB;have hsz:au.toArray.size+c8.toArray.size<=sizeLine:=by rw [Ai,Ai];omega
 have ue:¬(!au.toArray.isEmpty&&Builtin.List.listTooLong (au.toArray.size+c8.toArray.size))=true:=by
  rw [oI hsz,EA];exact AR
 refine sB El ⟨_,e,rfl⟩ Ea (DW _ _)
  (AutoSeq1.list_extend_list_list_0 l au.toArray n b c8.toArray n2 ue (by rw [Ai];omega) ∅) ⟨e,e2,?_⟩
 refine⟨.aN,_,I.Jp (its':=au++c8) hH e (by simp) (r.append r2) ?_,rfl,q⟩;rw [Ah];omega
def agk:V->List V->Hp->VK->Prop:=λx vs H Q=>∃l xs y,x=.ref l/\vs=[]/\H l=ap (.lst xs)/\xs[xs.length-1]?=ap y/\Q y (upd H l (.lst xs.dropLast))
theorem YX:KU X "list.pop" agk:=by
 intro Z s σ H x vs v us Q I rx rv h;obtain⟨l,xs,y,rfl,rfl,hH,hy,q⟩:=h;cases rx;have hus:=rv.zero;subst hus;obtain⟨z,au,n,r,hl,e⟩:=I.rj hH;obtain⟨u,hu,ru⟩:=r.get hy;have Zu:au.toArray[au.toArray.size-1]?=ap u:=by
  show au.toArray[au.length-1]?=ap u;rw [<- B7,<- hl];exact hu
 refine sB F.slot_list_pop ⟨_,e,rfl⟩ F.entry_list_pop (F.args_list_pop_1 _) (MeetsSeq.list_pop_last l au.toArray n u Zu (by rw [Ai];omega)) ⟨e,?_⟩;refine⟨y,_,I.Jp (its':=au.dropLast) hH e ?_ r.dropLast ?_,ru,q⟩
 ·rw [Ai,DC,J6]
 ·rw [List.length_dropLast];omega
def Yi:V->List V->Hp->VK->Prop:=λx vs H Q=>∃l xs i k y,x=.ref l/\vs=[.int i]/\H l=ap (.lst xs)/\-(2 ^ 63)<=i/\i < 2 ^ 63/\seqIndex? i xs.length=ap k/\xs[k]?=ap y/\Q y (upd H l (.lst (xs.eraseIdx k)))
theorem Qt:KU X "list.pop" Yi:=by
 intro Z s σ H x vs v us Q I rx rv h;obtain⟨l,xs,i,k,y,rfl,rfl,hH,h1,h2,hk,hy,q⟩:=h;cases rx;obtain⟨u,rfl,ru⟩:=rv.one;obtain⟨t,rfl⟩:=ru;obtain⟨z,au,n,r,hl,e⟩:=I.rj hH;obtain⟨w,hw,xA⟩:=r.get hy;refine sB F.slot_list_pop ⟨_,e,rfl⟩ F.entry_list_pop (F.args_list_pop_2 _ _)
  (MeetsSeq.list_pop_at l au.toArray n i t k w (fitsIndex_both h1 h2) (by rw [Ai,<- hl];exact hk) (by rw [<- B7];exact hw) (by rw [Ai];omega)) ⟨e,?_⟩
 refine⟨y,_,I.Jp (its':=au.eraseIdx k) hH e ?_ (r.eraseIdx k) ?_,xA,q⟩
 ·show au.toArray.eraseIdxIfInBounds k=(au.eraseIdx k).toArray;rw [DC]
 ·have:=vX xs k;omega
def agl:R2:=λx y H Q=>∃l b xs zs,x=.ref l/\y=.ref b/\H l=ap (.lst xs)/\H b=ap (.lst zs)/\xs.length+zs.length<=sizeLine/\∀p,H p=bm->Q (.ref p) (upd H p (.lst (xs++zs)))
theorem YK:je X (sn .Add) agl:=by
 intro Z s σ H x y v u Q I rx ry h;obtain⟨l,b,xs,zs,rfl,rfl,hH,hB,hz,q⟩:=h;cases rx;cases ry;obtain⟨z,au,n,r,hl,e⟩:=I.rj hH;obtain⟨z2,c8,n2,r2,SQ,e2⟩:=I.rj hB;refine PySem.P.add_list e e2 ?_ (by rw [Ai,Ai];omega);have ea:au.toArray++c8.toArray=(au++c8).toArray:=by simp
 rw [ea];exact⟨.ref _,_,I.Y2 (t':=s.toks) (r.append r2) (by rw [Ah];omega),rfl,q _ I.fresh⟩
def agj:R2:=λx y H Q=>∃l k xs,x=.ref l/\y=.int k/\H l=ap (.lst xs)/\-(2 ^ 63)<=k/\k < 2 ^ 63/\xs.length*k.toNat<=sizeLine/\
 ∀p,H p=bm->Q (.ref p) (upd H p (.lst (An k.toNat xs).flatten))
def len_rep (xs:List α) (k:Nat):(An k xs).flatten.length=k*xs.length:=by
 induction k with
 | zero=>simp
 | succ k ih=>rw [BH,B1,Ah,ih,Ee,Nat.add_comm]
theorem YE:je X (sn .Mult) agj:=by
 intro Z s σ H x y v u Q I rx ry h;obtain⟨l,k,xs,rfl,rfl,hH,h1,h2,hz,q⟩:=h;cases rx;obtain⟨t,rfl⟩:=ry;obtain⟨z,au,n,r,hl,e⟩:=I.rj hH;have Á:au.toArray.size*k.toNat<=sizeLine:=by rw [Ai,<- hl];exact hz
 have ahz:¬au.toArray.size*k.toNat > (2 ^ 63-1) / 8:=by
  have:(sizeLine:Nat)<=(2 ^ 63-1) / 8:=by decide
  omega
 have aht:¬(!Builtin.List.listFitsIndex k)=true:=by
  rw [fitsIndex_both h1 h2];exact AR
 have ue:¬Builtin.List.listTooLong (au.toArray.size*k.toNat)=true:=by
  rw [oI Á];exact AR
 have Vm:List.foldl (λx1 x2=>x1++x2) #[] (An (if au.toArray.isEmpty=true then 0 else k.toNat) au.toArray)=(An k.toNat au).flatten.toArray:=by
  have f0:∀m:Nat,List.foldl (λx1 x2=>x1++x2) #[] (An m au.toArray)=(An m au).flatten.toArray:=λm=>by
   have:=foldl_rep au m [];exact this
  rw [f0];cases au with
  | nil=>simp
  | cons a r'=>rw [if_neg (by simp)]
 refine wpAny_binaryOp_repeat_ref (T:="list") (U:="int") ⋯ ⟨_,e,rfl⟩ (λs'=>typeIs_int s' k t) noFill_list_mul F.fills_int_mul F.slot_int_rmul repeat_list F.slot_int_index.lookup
  (sB F.slot_int_rmul (typeIs_int s k t) F.entry_int_rmul (F.args_int_rmul_2 _ _) (int___rmul___int_list k t l au.toArray n)
   ⟨e,rfl,⟨_,e,rfl⟩,sB F.slot_list_mul ⟨_,e,rfl⟩ F.entry_list_mul (F.args_list_mul_2 _ _) (AutoListH.list___mul___list_int_3 l au.toArray n k t aht ahz ue) ⟨e,?_⟩⟩)
 rw [Vm];exact⟨.ref _,_,I.Y2 (t':=s.toks) (r.rep k.toNat) (by rw [len_rep,Nat.mul_comm];exact hz),rfl,q _ I.fresh⟩
end
end L2
variable {xs:List (List L2.Key×BG×A3)}{o:Option L2.V}{v:L2.V}{kvs:List (List L2.Key×L2.V)}{env:PySem.Env}{value:BX}{xf:Ck}
namespace L2
open PySem PySem.Spec PyProof.Rows
section
variable {κ:Type} [DecidableEq κ]
def iT (kvs:List (κ×V)) (k:κ):Option V:=(kvs.find? λkv=>decide (kv.1=k)).map (·.2)
def putK (kvs:List (κ×V)) (k:κ) (v:V):List (κ×V):=
 if (kvs.any λkv=>decide (kv.1=k))=true then kvs.map (λkv=>if kv.1=k then (kv.1,v) else kv) else kvs++[(k,v)]
def kM {p:κ×V}{r:List (κ×V)}{k:κ} (e:p.1=k):iT (p::r) k=ap p.2:=by simp [iT,Bl,e]
def kN {p:κ×V}{r:List (κ×V)}{k:κ} (e:¬p.1=k):iT (p::r) k=iT r k:=by simp [iT,Bl,e]
theorem sP (k:κ):∀kvs:List (κ×V),(kvs.any λkv=>decide (kv.1=k))=(iT kvs k).isSome
 | []=>rfl
 | p::r=>by
  rw [BM];by_cases e:p.1=k
  ·simp only [kM e,decide_eq_true e,Bool.true_or,Option.isSome_some]
  ·rw [kN e,decide_eq_false e,Bool.false_or];exact sP k r
theorem qM (kvs:List (κ×V)) (k:κ) (v:V):(putK kvs k v).length<=kvs.length+1:=by
 unfold putK
 split
 ·rw [Af];omega
 ·rw [Ah,Ap,Bk];omega
def uK.Ny {u:Option bn} (r:uK o u):o.isSome=u.isSome:=by
 cases o with
 | none=>cases u with
  | none=>rfl
  | some _=>exact (show False from r).elim
 | some _=>cases u with
  | none=>exact (show False from r).elim
  | some _=>rfl
def KV.val {kvs:List (κ×V)}{vs:List (κ×bn)} (r:KV kvs vs) (k:κ):uK (iT kvs k) (valueAt vs k):=by
 unfold KV at r
 induction r with
 | nil=>exact Cm
 | @cons p q ps qs h t ih=>
  obtain⟨h1,h2⟩:=h;by_cases e:p.1=k
  ·have e':q.1=k:=h1.symm.trans e;have b:valueAt (q::qs) k=ap q.2:=by simp [valueAt,Bl,e']
   rw [kM e,b];exact h2
  ·have e':¬q.1=k:=λz=>e (h1.trans z);have b:valueAt (q::qs) k=valueAt qs k:=by simp [valueAt,Bl,e']
   rw [kN e,b];exact ih
def KV.any {kvs:List (κ×V)}{vs:List (κ×bn)} (r:KV kvs vs) (k:κ):(kvs.any λkv=>decide (kv.1=k))=vs.any λkv=>decide (kv.1=k):=by
 induction r with
 | nil=>rfl
 | cons h t ih=>rw [BM,BM,ih,h.1]
def KV.Yd {kvs:List (κ×V)}{vs:List (κ×bn)} (r:KV kvs vs) (k:κ) (ry:RelV y u) :
  KV (kvs.map λkv=>if kv.1=k then (kv.1,y) else kv) (vs.map λkv=>if kv.1=k then (kv.1,u) else kv):=by
 induction r with
 | nil=>exact .nil
 | @cons p q ps qs h t ih=>
  rw [Aq,Aq];refine .cons ?_ ih;obtain⟨h1,h2⟩:=h;by_cases e:p.1=k
  ·rw [if_pos e,if_pos (h1.symm.trans e)];exact⟨h1,ry⟩
  ·rw [if_neg e,if_neg (λz=>e (h1.trans z))];exact⟨h1,h2⟩
def KV.put {kvs:List (κ×V)}{vs:List (κ×bn)} (r:KV kvs vs) (k:κ) (ry:RelV y u):KV (putK kvs k y) (stored vs k u):=by
 unfold putK stored;rw [r.any k];by_cases e:(vs.any λkv=>decide (kv.1=k))=true
 ·rw [if_pos e,if_pos e];exact r.Yd k ry
 ·rw [if_neg e,if_neg e];exact Paired.snoc r ⟨rfl,ry⟩
def KV.length {kvs:List (κ×V)}{vs:List (κ×bn)} (r:KV kvs vs):kvs.length=vs.length:=Paired.length r
end
def QS {k:Key} (r:RelV (kV k) u):(bT P w).is k u=true:=by
 cases k with
 | inl i=>obtain⟨t,e⟩:=(show ∃t,u=Eg i t from r);subst e;exact GO P w i t
 | inr x=>obtain⟨t,e⟩:=(show ∃t,u=Bj x t from r);subst e;exact GN P w x t
theorem wj:∀{ks:List Key}{us:List bn},Vals (ks.map kV) us->ItemsAre (bT P w) ks us
 | [],_,r=>by rw [Cz] at r;cases r;exact .nil
 | k::ks,_,r=>by
  rw [Aq] at r;cases r with
  | cons h t=>exact .cons (QS h) (wj t)
abbrev KT (H:Hp):List (List Key×V)->List (List Key×ce×bn)->Prop:=Paired λp q=>p.1=q.1/\H q.2.1=ap (.tup (p.1.map kV))/\RelV p.2 q.2.2
def KT.val (r:KT H kvs xs) (k:List Key):uK (iT kvs k) ((atKey xs k).map (·.2)):=by
 induction r with
 | nil=>exact Cm
 | @cons p q ps qs h t ih=>
  obtain⟨h1,_,h2⟩:=h;by_cases e:p.1=k
  ·have e':q.1=k:=h1.symm.trans e;have b:atKey (q::qs) k=ap q.2:=by simp [atKey,Bl,e']
   rw [kM e,b];exact h2
  ·have e':¬q.1=k:=λz=>e (h1.trans z);have b:atKey (q::qs) k=atKey qs k:=by simp [atKey,Bl,e']
   rw [kN e,b];exact ih
def KT.Yd (r:KT H kvs xs) (k:List Key) (ry:RelV y u) :
  KT H (kvs.map λkv=>if kv.1=k then (kv.1,y) else kv) (xs.map (putAt k u)):=by
 induction r with
 | nil=>exact .nil
 | @cons p q ps qs h t ih=>
  rw [Aq,Aq];refine .cons ?_ ih;obtain⟨h1,h2,h3⟩:=h;unfold putAt;by_cases e:p.1=k
  ·rw [if_pos e,if_pos (h1.symm.trans e)];exact⟨h1,h2,ry⟩
  ·rw [if_neg e,if_neg (λz=>e (h1.trans z))];exact⟨h1,h2,h3⟩
def KT.put (r:KT H kvs xs) (k:List Key) (hb:H b=ap (.tup (k.map kV))) (ry:RelV y u) :
  KT H (putK kvs k y) (Ch xs k b u):=by
 have e:(kvs.any λkv=>decide (kv.1=k))=(atKey xs k).isSome:=by
  rw [sP,(r.val k).Ny,Option.isSome_map]
 unfold putK Ch;rw [e];by_cases q:(atKey xs k).isSome=true
 ·rw [if_pos q,if_pos q];exact r.Yd k ry
 ·rw [if_neg q,if_neg q];exact Paired.snoc r ⟨rfl,hb,ry⟩
def KT.keeps (r:KT H kvs xs) (ht:∀b ys,H b=ap (.tup ys)->H' b=ap (.tup ys)):KT H' kvs xs:=
 Paired.Y0 r λ_ _ z=>⟨z.1,ht _ _ z.2.1,z.2.2⟩
section
def Wt {u:HO} (ok:my P w H h) (e:Rd H a u):ba P w H h a u:=e.ok ok
def wM {kvs:List (Key×V)} (ok:my P w H h) (e:Rd H a (.dK kvs)):kvs.length<=sizeLine/\(a==sw)=false/\∃vs,KV kvs vs/\h.DictOf (bT P w) a vs:=
 show ba P w H h a (.dK kvs) from Wt ok e
def adP {kvs:List (Key×V)} (ok:my P w H h) (e:H a=ap (.dK kvs)):kvs.length<=sizeLine/\(a==sw)=false/\∃vs,KV kvs vs/\h.DictOf (bT P w) a vs:=wM ok (.inl e)
def xV {ks:List Key} (ok:my P w H h) (e:H a=ap (.tup (ks.map kV))):(nn (bT P w)).is h ks a:=by
 obtain⟨_,au,r,o,h1,h2,n,h3⟩:=(show ba P w H h a (.tup (ks.map kV)) from ok a _ e);exact⟨o,au.toArray,n,h1,h2,h3,by simpa using wj r⟩
def wJ (ok:my P w H h) (e:Rd H a (.dT kvs)):kvs.length<=sizeLine/\(a==sw)=false/\
  ∃xs,KT H kvs xs/\h.DictOfH (nn (bT P w)) a xs:=by
 obtain⟨z,y,xs,r,o,es,ep,h1,h2,h3,h4,h5⟩:=(show ba P w H h a (.dT kvs) from Wt ok e);refine⟨z,y,xs,r,o,es,ep,h1,h2,h3,h4,λx hx=>?_,h5⟩;have all:∀{l:List (List Key×V)}{m:List (List Key×ce×bn)},KT H l m->∀x∈m,(nn (bT P w)).is h x.1 x.2.1:=by
  intro l m q
  induction q with
  | nil=>intro x hx;exact nomatch hx
  | @cons p q ps qs hq t ih=>
   intro x hx;rcases AD.mp hx with e | hx
   ·subst e;exact xV ok (by rw [<- hq.1];exact hq.2.1)
   ·exact ih x hx
 exact all r x hx
def adO (ok:my P w H h) (e:H a=ap (.dT kvs)):kvs.length<=sizeLine/\(a==sw)=false/\
  ∃xs,KT H kvs xs/\h.DictOfH (nn (bT P w)) a xs:=wJ ok (.inl e)
end
def KW (H:Hp) (a:ce) (y:V) (r:Option V):Prop:=
 (∃kvs k,Rd H a (.dK kvs)/\y=kV k/\r=iT kvs k)\/∃kvs k b,Rd H a (.dT kvs)/\y=.ref b/\H b=ap (.tup (k.map kV))/\r=iT kvs k
def SG (H:Hp) (a:ce) (y v:V) (H':Hp):Prop:=
 (∃kvs k,H a=ap (.dK kvs)/\y=kV k/\kvs.length < sizeLine/\H'=upd H a (.dK (putK kvs k v)))\/
 ∃kvs k b,H a=ap (.dT kvs)/\y=.ref b/\H b=ap (.tup (k.map kV))/\kvs.length < sizeLine/\H'=upd H a (.dT (putK kvs k v))
def KW.t {k:List Key} (e:H a=ap (.dT kvs)) (eb:H b=ap (.tup (k.map kV))):KW H a (.ref b) (iT kvs k):=.inr ⟨kvs,k,b,.inl e,rfl,eb,rfl⟩
def SG.t {k:List Key} (e:H a=ap (.dT kvs)) (eb:H b=ap (.tup (k.map kV))) (hl:kvs.length < sizeLine) :
  SG H a (.ref b) v (upd H a (.dT (putK kvs k v))):=.inr ⟨kvs,k,b,e,rfl,eb,hl,rfl⟩
section
variable {r:bn}
def Inv.big (I:Inv X Z σ H s):sw < s.heap.objs.size:=by
 have h:=(I.mod.glob.keeps I.bk).lt;exact Nat.lt_trans ⋯ h
def NY (hu:A.units+1 < pc) (I:Inv X Z σ H s) (g:KW H a y (ap v)) (ry:RelV y u) (h:∀w' s',Inv X Z σ H s'->RelV v w'->Q w' s') :
  db (dL X.prog X.w) A (Db (.ref a) u) Q E s:=by
 rcases g with⟨kvs,k,e,ey,l⟩ | ⟨kvs,k,b,e,ey,eb,l⟩
 ·subst ey;obtain⟨z,hd,vs,Õ,dd⟩:=wM I.bC e;obtain⟨w',hw,xA⟩:=uK.some_of (v:=v) (o:=valueAt vs k) (by rw [l];exact Õ.val k);exact wpAny_getItem_of (QS ry) dd.mapOf hw (h w' _ (I.tok _) xA)
 ·subst ey;cases (show u=AB b from ry);obtain⟨z,hd,xs,Õ,dd⟩:=wJ I.bC e;obtain⟨w',hw,xA⟩:=uK.some_of (v:=v) (o:=(atKey xs k).map (·.2)) (by rw [l];exact Õ.val k);obtain⟨p,hp,yp⟩:=Option.map_eq_some_iff.mp hw;refine wpAny_getItem_heap (tupleKind_room_in1 hu) (xV I.bC eb) dd hp ?_;rw [yp];exact h w' _ (I.tok _) xA
def Md {t':Nat}{ob:HO} (I:Inv X Z σ H s) (mu:Mut (H a)) (hs:BN a s.heap h') (he:∃q,h'.get? a=ap q) (new:ba X.prog X.w (upd H a ob) h' a ob) :
  Inv X Z σ (upd H a ob) {s with heap:=h',toks:=t'}:=
 I.write (x:=a) (e:=a) mu (.inl rfl) (λb q hb z=>(hs.2 b hb).trans z) he new
def Z5 {kvs:List (Key×V)}{vs:List (Key×bn)} (z:kvs.length<=sizeLine) (hd:(a==sw)=false) (Õ:KV kvs vs) (dd:h'.DictOf (bT P w) a vs) :
  ba P w H' h' a (.dK kvs):=⟨z,hd,vs,Õ,dd⟩
theorem NX {Q:Unit->cr->Prop} (hu:A.units+1 < pc) (I:Inv X Z σ H s) (g:SG H a y v H') (ry:RelV y u) (rv:RelV v r) (h:∀s',Inv X Z σ H' s'->Q () s') :
  db (dL X.prog X.w) A (setItem (.ref a) u r) Q E s:=by
 rcases g with⟨kvs,k,e,ey,l,eH⟩ | ⟨kvs,k,b,e,ey,eb,l,eH⟩
 ·subst ey eH;obtain⟨z,hd,vs,Õ,dd⟩:=adP I.bC e;have hz:vs.length<=sizeLine:=by rw [<- Õ.length];exact z
  have hl:(putK kvs k v).length<=sizeLine:=by have:=qM kvs k v;omega
  refine wpAny_setItem_pairs (hsz:=hz) (QS ry) dd λh' ĩ hs=>h _ ?_;have he:∃q,h'.get? a=ap q:=let ⟨q,_,_,hq,_⟩:=ĩ;⟨q,hq⟩;exact Md I (by rw [e];exact Cm) hs he (Z5 hl hd (Õ.put k rv) ĩ)
 ·subst ey eH;cases (show u=AB b from ry);obtain⟨z,hd,xs,Õ,dd⟩:=adO I.bC e;have hz:xs.length<=sizeLine:=by rw [<- Paired.length Õ];exact z
  have hl:(putK kvs k v).length<=sizeLine:=by have:=qM kvs k v;omega
  refine wpAny_setItem_heap (hsz:=hz) (tupleKind_room_in1 hu) (xV I.bC eb) dd λh' ĩ hs=>h _ ?_;obtain⟨q,es,ep,hq,h2,h3,h4,_,h5⟩:=ĩ;refine Md I (by rw [e];exact Cm) hs ⟨q,hq⟩ ⟨hl,hd,_,(Õ.put k eb rv).keeps λc ys ec=>?_,q,es,ep,hq,h2,h3,h4,h5⟩;rw [ax (LD ec e (λz=>nomatch z))];exact ec
end
def Wb (i:ii):Prop:=∀ov iv,subscripted i false ov iv=operate [ov,iv] (Db ov iv)
def Te {Æ:ii}{id:String}
  (hl:FM (.type T) "__getitem__"=pure (ap (.builtin id))) (hs:Wb Æ)
  (h:db (dL prog w) A (im value env) (λo s₁=>db (dL prog w) A (im Æ env) (λi s₂=>s₂.TypeIs o T/\db (dL prog w) A (Db o i) Q E s₂) E s₁) E s) :
  db (dL prog w) A (im (.Subscript value Æ pos) env) Q E s:=by
 refine Subscript_ (BZ h (λo s₁ h₁=>BZ h₁ (λi s₂ h₂=>?_) λ_ _ x=>x) λ_ _ x=>x);obtain⟨hT,h₂⟩:=h₂;refine Aa ?_;refine Aa (Ff hT hl ?_);have fin:db (dL prog w) A (subscripted Æ false o i) (λr s₃=>db (dL prog w) A (letTemporaryGo value o r >>= λ_=>pure r) Q E s₃) E s₂:=by
  rw [hs o i];exact wpAny_operating (BZ h₂ (λr s₃ h₃=>Aa (wpAny_letTemporaryGo (Ad h₃))) λ_ _ x=>x)
 first
  | exact Ad (Aa fin)
  | exact Aa (Ad (Aa fin))
  | exact Aa fin
def HK (I:Inv X Z σ H s) (g:KW H a y o):s.TypeIs (.ref a) "dict":=by
 rcases g with⟨kvs,k,e,_,_⟩ | ⟨kvs,k,b,e,_,_,_⟩
 ·obtain⟨_,_,vs,_,dd⟩:=wM I.bC e;exact dd.typeIs
 ·obtain⟨_,_,xs,_,dd⟩:=wJ I.bC e;exact dd.typeIs
def abt (td ty:TE):TE:=λσ H Q=>td σ H λx H1=>ty σ H1 λy H2=>∃a v,x=.ref a/\KW H2 a y (ap v)/\Q v H2
def abG (td ty tv:TE):TS:=λD σ H=>tv σ H λv H1=>td σ H1 λx H2=>ty σ H2 λy H3=>∃a H4,x=.ref a/\SG H3 a y v H4/\D.nx σ H4
section
variable {o i:ii}{td ty tv:TE}
def Lv (hu:X.A.units+1 < pc) (ho:PE X o td) (hi:PE X i ty) (hs:Wb i):PE X (.Subscript o i pos) (abt td ty):=by
 intro Z s σ H Q I h;refine Te PySem.F.slot_dict_getitem.lookup hs (cq (ho Z s σ H _ I h) λu s1 ⟨x,H1,I1,rx,q1⟩=>cq (hi Z s1 σ H1 _ I1 q1) λiv s2 ⟨y,H2,I2,ry,a,v,ex,g,q2⟩=>?_);subst ex;obtain rfl:u=AB a:=rx;exact⟨HK I2 g,NY hu I2 g ry λw' s3 I3 xA=>⟨v,H2,I3,xA,q2⟩⟩
def TZ (hu:X.A.units+1 < pc) (ho:PE X o td) (hi:PE X i ty) (hv:PE X value tv) (hs:lm value (ap (.Subscript o i Ú)) pos.line X.env=pure false) :
  PS X (.Assign [.Subscript o i Ú] value pos) (abG td ty tv):=by
 intro Z s σ H D I h;refine wpAny_Assign_Subscript (cq (hv Z s σ H _ I h) λr s1 ⟨v,H1,I1,rv,q1⟩=>cq (ho Z s1 σ H1 _ I1 q1) λu s2 ⟨x,H2,I2,rx,q2⟩=>cq (hi Z s2 σ H2 _ I2 q2) λiv s3 ⟨y,H3,I3,ry,a,H4,ex,g,q3⟩=>?_) hs;subst ex;obtain rfl:u=AB a:=rx;exact NX hu I3 g ry rv λs4 I4=>⟨σ,H4,I4,q3⟩
end
def R7 (h:mo) (hb:sw < h.objs.size):ba P w H (h.push {cls:=.type "dict",data:=.dict #[]}) h.objs.size (.dT []):=
 ⟨Bc _,beq_eq_false_iff_ne.mpr (BP (AG hb)),[],.nil,_,#[],0,Ao _ rfl,⟨rfl,rfl,rfl⟩,rfl,rfl,Ew⟩
def XW:TE:=λ_ H Q=>∀p,H p=bm->Q (.ref p) (upd H p (.dT []))
section
def Qd:PE X (.Dict [] [] pos) XW:=λZ s σ H Q I h=>
 wpAny_Dict_empty ⟨.ref s.heap.objs.size,_,I.laid (a:=s.heap.objs.size) (o:=.dT []) (t':=s.toks) (λ_ _ q=>Ag _ q) (Am _) (R7 s.heap I.big),rfl,h _ (I.bC.fresh (Am _))⟩
end
structure M2 (X:Cx) (o:ii) (m:Str) (Â:Pos) (e f:ii) (bg:Pos):Prop where
 base:kw o m X.env (im o X.env)=im o X.env
 few:((wP bg (f8 [e,f] X.env)).all (λx=>!x.1)&&(backToKw bg (keywordEach [] X.env)).all (λx=>x.1.isSome)
  && decide (([e,f]:List ii).length+([]:List Keyword).length+(if ([]:List Keyword).isEmpty then 0 else 1) < 30))=true
 line:(Â.endLine==bg.line)=true
 trees:wP bg (f8 [e,f] X.env)=[(false,im e X.env),(false,im f X.env)]
def IsD (H:Hp) (a:ce):Prop:=(∃kvs,Rd H a (.dK kvs))\/∃kvs,Rd H a (.dT kvs)
end L2
variable {Ó:List Cg}{XP:(Cg->Option A3)->FR->Prop}{YP:PySem.World->FR->Prop}{d:PySem.DefRec}
namespace Att
open PySem PySem.W PySem.Calls PyProof.Rows
def rB {P:Params}:∀(ns:List Int) (vs:List bn),WellAll P h vs (ns.map WData.int)->tz vs ns:=by
 intro ns
 induction ns with
 | nil=>
  intro vs w;cases w;exact .nil
 | cons n ns ih=>
  intro vs w;cases w with
  | cons a b=>
   cases a;exact .cons _ _ (ih _ b)
theorem MM {l:OpenLaw} (hn:l.most=ap n) {P:Params}{args:List WData}{Þ:List bn}
  (Vk:l.row.toRowW.claim.pre args=true) (ķ:WellAll P h Þ args) :
  ∃a vs ns,Þ=[AB a]/\args=[WData.list (ns.map WData.int)]/\h.get? a=ap {cls:=.type "list",data:=.seq vs.toArray}/\tz vs ns/\ns.length<=n:=by
 have hsh:=(pre_splitW Vk).1;have hc:l.pre.holds [] {args:=args}=true:=(pre_splitW Vk).2;obtain⟨d,r,rfl,h1,h2⟩:=hasAllW_cons hsh;obtain rfl:=hasAllW_nil h2;obtain⟨xs,rfl,h3⟩:=hasW_list h1;obtain⟨ns,rfl⟩:=items_int h3;have Á:ns.length<=n:=by
  unfold OpenLaw.pre at hc;have h4:(WTm.not (.lt (.lit (.int (n:Int))) (.len (.arg 0)))).holds [] {args:=[.list (ns.map .int)]}=true:=by
   have h4:=(holds_andW hc).1;rw [hn] at h4;exact h4
  have h5:=condW_of h4 (w_not (w_lt w_lit (w_len_list (w_arg rfl))));refine Nat.le_of_not_lt λq=>?_
  first
   | (rw [decide_eq_true q'] at h5;exact absurd h5 ⋯)
   | (simp at h5;omega)
 cases ķ with
 | cons w1 w2=>
  cases w2;cases w1 with
  | list ho ahC=>exact⟨_,_,ns,rfl,rfl,ho,rB ns _ ahC,Á⟩
def MZ (l:OpenLaw) (args:List WData):l.row.toRowW.claim.post args (.bool true) args=true:=
 postW_of (r:=l.row.toRowW) (X:=(true==true))
  (show WShape.has [] (.bool true) .bool=true by first | rfl | decide | simp [WShape.has,WShape.arms,WShape.armsAll])
  (show (WTm.eq .res (.lit (.bool true))).value [] {args:=args,res:=ap (.bool true),after:=args}=ap (.bool (true==true)) from w_eq_bool (w_res rfl) w_lit) rfl
def HU {l:OpenLaw}{q:tt}
  (hn:l.most=ap n) (ć:d.params.defaults=[])
  (call:∀(w:wv) (s₀ s₁:cr) (mg mb:Str->Option bn) (fa:ce) (o:Obj) (pm cd É:bn) (a:ce) (vs:List bn) (ns:List Int),
   Ground q Ó [] XP w s₀ mg mb s₁.heap->YP w s₁.heap->
   s₁.heap.get? fa=ap o->o.data=.func (docDef d.name d.params d.body d.scope pm cd É)->s₁.heap.CodeRec cd d.name->mg d.name=ap (.ref fa)->
   s₁.heap.get? a=ap {cls:=.type "list",data:=.seq vs.toArray}->tz vs ns->ns.length<=n->s₁.gens=#[]->
   Ev (dL l.prog w) callerA (.call (.ref fa) ⟨[.ref a],[]⟩) (λr s'=>r=.ok (.ret (.bool true))/\OldK s₁.heap s'.heap/\s'.os=s₁.os/\Gc s'.gens) s₁) :
  WalkO q Ó XP YP l.row.toRowW d [] (λf vs=>F6 f vs):=by
 intro w s₀ s₁ mg mb G Y fa o pm cd É dV kV ho hd jB hD hmg hg args Þ as Vk alm hrd ķ hlo;obtain rfl:dV=.none:=Dflts.none hD ć;obtain rfl:kV=.none:=Dflts.noKw hD;obtain⟨a,vs,ns,rfl,rfl,Zy,Ù,Á⟩:=MM hn Vk ķ;refine enter_call (codeAny_mono (call w s₀ s₁ mg mb fa o pm cd É a vs ns G Y ho (fd_plain hd) jB hmg Zy Ù Á hg) λr s' hq=>?_);obtain⟨rfl,h2,h3,h4⟩:=hq;exact⟨.inl ⟨.bool true,.bool true,[],rfl,λ_=>rfl,.bool true,MZ l _,λ_=>⟨List.Pairwise.nil,λ_ hm=>(nomatch hm)⟩⟩,h2,h3,h4⟩
end Att
variable {sp:L2.Sp}
namespace L2
open PySem PySem.Spec PyProof.Rows
theorem pS:∀{vs:List bn}{ns:List Int},tz vs ns->Vals (ns.map V.int) vs
 | _,_,.nil=>.nil
 | _,_,.cons n t h=>.cons ⟨t,rfl⟩ (pS h)
def Wa (H:Hp):Prop:=∀b,H b=bm\/∃o xs,H b=ap (.cV o (.lst xs))
def QE {K:Ab}{mb:Str->Option bn}{CX:SH}{fa:ce}{s₁:cr}{vs:List bn}
  (KX:K.In s₁.heap) (Ip:s₁.heap.Ns ev mg) (hb:s₁.heap.Ns builtinsNs mb) (hbb:∀x:Str,x≠"__name__"->mb x=lw x) (ahi:s₁.heap.NoLimit) (hg:s₁.gens=#[])
  (ha:s₁.heap.get? a=ap {cls:=.type "list",data:=.seq vs.toArray}) (hi:tz vs ns) (hl:ns.length<=sizeLine) (hr:cS k callerA)
  (F:∀base:mo,K.In base->base.Ns ev mg->iB P w K mg base CX k fa fd [x] sp) (adf:∀(s:cr) (u:bn),BindsTo s fd ⟨[u],[]⟩ [(x,u)])
  (Vj:∀H:Hp,Wa H->de K H a (ns.map V.int)->sp [.ref a] H (λv _=>v=.bl true) λ_ _ _=>False)
  (ō:∀H e s',CX [] H s₁ (λ_ _ _=>False) e s'->False) :
  Ev (dL P w) callerA (.call (.ref fa) ⟨[.ref a],[]⟩) (λr s'=>r=.ok (.ret (.bool true))/\OldK s₁.heap s'.heap/\s'.os=s₁.os/\Gc s'.gens) s₁:=by
 have rv:=pS hi;have agA:=hi.length;have Û:∀H:Hp,Wa H->de K H a (ns.map V.int)->my P w H s₁.heap->(∀b,H b≠bm->b=a)->(H a≠bm->K.lookup a=bm)->
   Ev (dL P w) callerA (.call (.ref fa) ⟨[.ref a],[]⟩) (λr s'=>r=.ok (.ret (.bool true))/\OldK s₁.heap s'.heap/\s'.os=s₁.os/\Gc s'.gens) s₁:=by
  intro H hO hS bC hA hK;have Mk:∀{b:ce}{o:Obj},s₁.heap.get? b=ap o->H b=bm->(yr s₁.heap H).get? b=ap o:=λe n=>Rj e n;have ý:∀{b:ce}{o:Obj}{es:Array DictEntry}{ep:Nat},s₁.heap.get? b=ap o->o.data=.dict es ep->H b=bm:=λ{b o es ep} e d=>by
   cases q:H b with
   | none=>rfl
   | some u=>
    have e':b=a:=hA b (by rw [q];simp);subst e';rw [ha] at e;cases e;have d':Fs vs.toArray _=Data.dict es ep:=d;cases d'
  have Ę:∀{b:ce}{m:Str->Option bn},s₁.heap.Ns b m->(yr s₁.heap H).Ns b m:=λ{b m} ⟨o,es,ep,e,d,r⟩=>⟨o,es,ep,Mk e (ý e d),d,r⟩;have hKb:K.In (yr s₁.heap H):=λb o e=>Mk (KX b o e) (by
   cases q:H b with
   | none=>rfl
   | some u=>
    have e':b=a:=hA b (by rw [q];simp);subst e';rw [hK (by rw [q];simp)] at e;cases e)
  have hM:Mod K mg (yr s₁.heap H):=⟨hKb,Ę Ip,⟨mb,Ę hb,hbb⟩,let ⟨mc,h1,h2⟩:=ahi;⟨mc,Ę h1,h2⟩⟩;have e0:Wf P w K mg (yr s₁.heap H) callerA [] s₁ H:=⟨rfl,hM,λb o e=>Ux e,Nat.le_of_eq (NI _ _),trivial,λb hb=>absurd (show b∈([]:List ce) from hb) (by simp),bC,.of_eq hg⟩;refine codeAny_mono ((F _ hKb (Ę Ip)).run callerA [] s₁ H ⟨[.ref a],[]⟩ [.ref a] [.ref a] _ _ hr e0 (adf s₁ (.ref a)) (.cons rfl .nil) (Vj H hO hS)) λr s' h=>?_;cases r with
  | error e=>exact (ō H e s' h).elim
  | ok fl=>
   cases fl with
   | next=>exact Bt h
   | brk=>exact Bt h
   | cont=>exact Bt h
   | ret u=>
    obtain⟨v,H',os,bare,un,ahf,r',q⟩:=h;have q':v=.bl true:=q;subst q';obtain rfl:u=C5 true:=r';refine⟨rfl,OldK.of_keep λb o e=>?_,os,bare⟩;cases q:H b with
    | none=>exact un.keep b o e q (by intro z;exact absurd (show b∈([]:List ce) from z) (by simp)) (by simp)
    | some u=>
     rcases hO b with z | ⟨ob,xs,z⟩
     ·rw [q] at z;cases z
     ·have z2:=un.uj b ob _ z;obtain⟨e1,_⟩:=bC b _ z;obtain⟨e2,_⟩:=ahf b _ z2;rw [e] at e1;cases e1;exact e2
 cases hk:K.lookup a with
 | some o=>
  have e:=KX a o hk;rw [ha] at e;cases e;refine Û (λ_=>bm) (λ_=>.inl rfl) (.inr ⟨_,vs.toArray,_,hk,rfl,rfl,rfl,by rw [Ai,agA];exact hl,by simpa using rv⟩) (λb u z=>by have z':(bm:Option HO)=ap u:=z;cases z') (λb z=>absurd rfl z) λz=>absurd rfl z
 | none=>
  refine Û (λb=>if b=a then ap (.cV {cls:=.type "list",data:=.seq vs.toArray} (.lst (ns.map V.int))) else bm) (λb=>?_) (.inl (.inr ⟨{cls:=.type "list",data:=.seq vs.toArray},if_pos rfl⟩)) (λb u z=>?_) (λb z=>?_) λ_=>hk
  ·by_cases hb:b=a
   ·exact .inr ⟨_,_,if_pos hb⟩
   ·exact .inl (if_neg hb)
  ·by_cases hb:b=a
   ·have z':=(if_pos hb).symm.trans z;cases z';subst hb;exact⟨ha,by rw [Af];exact hl,vs,_,rv,ha⟩
   ·have z':=(if_neg hb).symm.trans z;cases z'
  ·by_cases hb:b=a
   ·exact hb
   ·exact absurd (if_neg hb) z
def S1 {l:Fd}{q:tt}{K:Params->Ab}{CX:wv->SH}{sp:wv->Sp}
  (hn:l.most=ap n) (hn2:n<=sizeLine) (ć:d.params.defaults=[]) (hr:cS k callerA)
  (hY:∀(w:wv) (h:mo),YP w h->(K w.params).In h)
  (F:∀(w:wv) (mg:Str->Option bn) (fa:ce) (h:mo),(K w.params).In h->h.Ns ev mg->mg d.name=ap (.ref fa)->
   ∃fd:FB,(∀(s:cr) (u:bn),BindsTo s fd ⟨[u],[]⟩ [(x,u)])/\
    ∀base:mo,(K w.params).In base->base.Ns ev mg->iB l.prog w (K w.params) mg base (CX w) k fa fd [x] (sp w))
  (Vj:∀(w:wv) (H:Hp) (a:ce) (ns:List Int),ns.length<=n->Wa H->de (K w.params) H a (ns.map V.int)->sp w [.ref a] H (λv _=>v=.bl true) λ_ _ _=>False)
  (ō:∀(w:wv) (H:Hp) (s:cr) (e:bn) (s':cr),CX w [] H s (λ_ _ _=>False) e s'->False) :
  PySem.W.WalkO q Ó XP YP l.row.toRowW d [] (λf vs=>F6 f vs):=by
 refine Att.HU hn ć λw s₀ s₁ mg mb fa o pm cd É a vs ns G Y ho hd jB hmg Zy Ù Á hg=>?_;have KX:=hY w _ Y;obtain⟨fd,hb,hF⟩:=F w mg fa _ KX G.T.g hmg;exact QE KX G.T.g G.T.b G.T.builtins G.T.nolimit hg Zy Ù (AV Á hn2) hr hF hb (λH hO hS=>Vj w H a ns Á hO hS) λH e s'=>ō w H s₁ e s'
end L2
variable {B:Prop}
namespace L2
open PySem PySem.Spec PyProof.Rows
def gH (s:v4):Arguments:=match s with
 | .FunctionDef _ a _ _ _ _ _ _ _ _=>a
 | _=>{posonlyargs:=[],args:=[],vararg:=bm,kwonlyargs:=[],kw_defaults:=[],kwarg:=bm,defaults:=[]}
def a6 (s:v4):List v4:=match s with
 | .FunctionDef _ _ b _ _ _ _ _ _ _=>b
 | _=>[]
def ag (s:v4):pr:=match s with
 | .FunctionDef _ _ _ _ _ _ sc _ _ _=>sc
 | _=>{kind:=.function,names:=[],isGenerator:=false,isCoroutine:=false}
abbrev mz:SH:=λ_ _ _ _ _ _=>False
abbrev E0:XK:=λ_ _ _=>False
def aca:Passes mz X E0:=λ_ _ _ _ _ _ _ h=>h.elim
structure SV (K:Ab) (x qual:Str) (st:v4) (f:ce) (fd:FB):Prop where
 ex:∃(oc:bn) (od:Option ce) (kV É pm:bn) (an:Option ce) (cn ct:bn) (SM:Array (Option bn)),
  fd=Cb x qual (gH st) (a6 st) (ag st) .none kV É pm an cn ct/\K.lookup f=ap ⟨oc,od,.func fd,SM⟩/\Ei K cn qual=true
 kp:Eh K (.ref f)=true
section
variable {K:Ab}
def SV.ok {st:v4}{f:ce}{N:List Str} (F:SV K x qual st f fd) (S:ar N ps (ag st)) (len:∀vs H Q E,sp vs H Q E->vs.length=ps.length)
  (Rn:∀(cn:bn) (A:o0) (outer:List Env) (s:cr) (H:Hp) (vs:List V) (Q:VK) (E:XK),cS k (A.deeper (r9 qual (ag st) s.heap.objs.size f cn))->sp vs H Q E->
   ∃t,sF (iy mz P w K mg base N qual (ag st) f cn A outer s H E).vT (a6 st) t/\t {nx:=λ_ H'=>Q .aN H',rt:=Q} (start N vs) H):iB P w K mg base mz (k+1) f fd ps sp:=by
 obtain⟨oc,od,kV,É,pm,an,cn,ct,SM,rfl,lk,jB⟩:=F.ex;refine adv lk jB S len λA outer s H vs Q E hr Vj=>?_;obtain⟨t,h,q⟩:=Rn cn A outer s H vs Q E hr Vj;exact⟨t,h.vT,q⟩
def SV.binds {st:v4}{f:ce} (F:SV K x qual st f fd)
  (h:∀(kV É pm:bn) (an:Option ce) (cn ct:bn) (us:List bn),us.length=ps.length->bindArgs (Cb x qual (gH st) (a6 st) (ag st) .none kV É pm an cn ct) ⟨us,[]⟩=pure (ps.zip us)):Binds K fd ps []:=by
 obtain⟨oc,od,kV,É,pm,an,cn,ct,SM,rfl,lk,jB⟩:=F.ex;exact .all (h kV É pm an cn ct)
def ZK {st:v4}{f:ce}{kV:bn} (l:K.lookup f=ap ⟨oc,od,.func (Cb x qual (gH st) (a6 st) (ag st) .none kV É pm an cn ct),SM⟩)
  (c:Ei K cn qual=true) (k:Eh K (.ref f)=true):SV K x qual st f (Cb x qual (gH st) (a6 st) (ag st) .none kV É pm an cn ct):=⟨⟨oc,od,kV,É,pm,an,cn,ct,SM,rfl,l,c⟩,k⟩
end
def MF (h:n<=1000):n < sizeLine:=Nat.lt_of_le_of_lt h ⋯
def ym {A:Prop} (h:B):if false=true then A else B:=by
 exact h
def yk {A:Prop} (h:A):if true=true then A else B:=by
 exact h
def lR (H H':Hp):Prop:=∀b o,H b=ap o->H' b=ap o
def lR.refl (H:Hp):lR H H:=λ_ _ h=>h
end L2
variable {a b:Nat}{H2:L2.Hp}{R:PySem.Result->Du->Prop}{Xs:PySem.Scope}{N':List Cg}{ix:List (Option Nat)}{Ç:BX}{Í:List BX}{uY:Ck}
namespace L2
open PySem PySem.Spec PyProof.Rows
def lsz {o:Obj} (e:h.get? b=ap o):b < h.objs.size:=Au e
def neN (h:a≠b):a≠b:=h
def ltN (h:a < b):a < b:=h
def Xk {c:Nat}{v:Option bn} (q:h.IsCell c v):c < h.objs.size:=q.lt
structure aF (Xs:pr) (N:List Str) (sc:pr) (N':List Str) (ix:List (Option Nat)):Prop where
 kind:sc.kind=.function
 nc:∀y∈sc.names,y.2≠.cell
 loc:∀y∈sc.names,y.2=.local->sc.names.lookup y.1=ap .local
 fr:∀y∈sc.names,y.2=.free->(Xs.names.lookup y.1=ap .cell\/Xs.names.lookup y.1=ap .free)
 nd:N'.Nodup
 len:ix.length=N'.length
 map:((ix.zip N').all λp=>match p.1 with | none=>true | some j=>decide (N[j]?=ap p.2)&&decide (sc.names.lookup p.2=ap .free))=true
def aF.at {N:List Str} (S:aF Xs N sc N' ix) {i:Nat} (h1:ix[i]?=ap (ap j)) (h2:N'[i]?=ap x) :
  N[j]?=ap x/\sc.names.lookup x=ap .free:=by
 have hm:((ap j,x):Option Nat×Str)∈ix.zip N':=by
  refine Bo (i:=i) ?_;rw [List.getElem?_zip_eq_some];exact⟨h1,h2⟩
 have q:=De.mp S.map _ hm;simp only [AO,decide_eq_true_eq] at q;exact q
def pB (ix:List (Option Nat)) (σ:St):St:=ix.map λo=>match o with | some j=>(σ[j]?).getD bm | none=>bm
def iQ (X:Cx) (sc:pr) (N':List Str) (cl:List (Str×ce)) (C:ce) (s2:cr) (H2:Hp) (fp:List ce):Cx where
 prog:=X.prog
 w:=X.w
 K:=X.K
 mg:=X.mg
 base:=X.base
 A:=X.A
 N:=N'
 s₀:=s2
 H₀:=H2
 env:=compEnvC sc cl C X.env
 outer:=X.stack
 stack:=X.stack
 ex:=fp
 calm:=X.calm
 fn:=λ_=>false
 pn:=[]
 xe:=λ_ _=>False
theorem nR:∀(names:List (Str×xz)) (cs:List (Str×ce)),(∀y∈names,y.2=.free->∃c,env.cells.lookup y.1=ap c)->
  ∃cl,(forIn names cs λ(x:Str×xz) (c:List (Str×ce))=>(match x with | (name,kind)=>do
    let c <- if (kind==Bh)=true then do let a <- cellOf env name;pure ((name,a)::c) else pure c
    pure (Ct c):Sem (ForInStep (List (Str×ce)))))=pure cl/\(∀x c,cl.lookup x=ap c->cs.lookup x=ap c\/(env.cells.lookup x=ap c/\(x,Bh)∈names))/\(∀x,((x,Bh)∈names\/(∃c,cs.lookup x=ap c))->∃c,cl.lookup x=ap c)
 | [],cs,_=>⟨cs,rfl,λ_ _ h=>.inl h,λx h=>h.elim (λz=>nomatch z) λz=>z⟩
 | (n,k)::r,cs,h=>by
  by_cases hk:k=.free
  ·subst hk;obtain⟨c,hc⟩:=h (n,.free) BA rfl;obtain⟨cl,e,h1,h2⟩:=nR r ((n,c)::cs) λy hy=>h y (A4 _ hy);refine⟨cl,?_,λx d hd=>?_,λx hx=>?_⟩
   ·rw [B5,<- e];simp only [beq_self_eq_true,if_true,cellOf,hc,pure_bind]
   ·rcases h1 x d hd with z | ⟨z1,z2⟩
    ·rw [Bm] at z;by_cases hx:(x==n)=true
     ·rw [hx] at z;have wx:x=n:=eq_of_beq hx;subst wx;cases z;exact .inr ⟨hc,BA⟩
     ·have wx:(x==n)=false:=by simpa using hx
      rw [wx] at z;exact .inl z
    ·exact .inr ⟨z1,A4 _ z2⟩
   ·refine h2 x ?_;rcases hx with hx | ⟨d,hd⟩
    ·rcases AD.mp hx with z | z
     ·injection z with z1 _;subst z1;exact .inr ⟨c,by rw [Bm];simp⟩
     ·exact .inl z
    ·by_cases hx:(x==n)=true
     ·exact .inr ⟨c,by rw [Bm,hx]⟩
     ·have wx:(x==n)=false:=by simpa using hx
      exact .inr ⟨d,by rw [Bm,wx];exact hd⟩
  ·obtain⟨cl,e,h1,h2⟩:=nR r cs λy hy=>h y (A4 _ hy);refine⟨cl,?_,λx d hd=>?_,λx hx=>?_⟩
   ·have hb:(k==Bh)=false:=by simpa using hk
    rw [B5,<- e];simp only [hb,Av,if_false,pure_bind]
   ·rcases h1 x d hd with z | ⟨z1,z2⟩
    ·exact .inl z
    ·exact .inr ⟨z1,A4 _ z2⟩
   ·refine h2 x ?_;rcases hx with hx | hx
    ·rcases AD.mp hx with z | z
     ·injection z with _ z2;exact absurd z2.symm hk
     ·exact .inl z
    ·exact .inr hx
def mZ (h:∀y∈sc.names,y.2=.free->∃c,env.cells.lookup y.1=ap c) :
  ∃cl,closureFor sc env=pure cl/\(∀x c,cl.lookup x=ap c->env.cells.lookup x=ap c/\(x,Bh)∈sc.names)/\(∀x,(x,Bh)∈sc.names->∃c,cl.lookup x=ap c):=by
 obtain⟨cl,e,h1,h2⟩:=nR (env:=env) sc.names [] h;refine⟨cl,?_,λx c hc=>(h1 x c hc).resolve_left (λz=>nomatch z),λx hx=>h2 x (.inl hx)⟩;unfold closureFor;have e':(forIn sc.names ([]:List (Str×ce)) λx r=>(match x with | (name,kind)=>if (kind==Bh)=true then do let a <- cellOf env name;pure (Ct ((name,a)::r)) else pure (Ct r):Sem (ForInStep (List (Str×ce)))))=pure cl:=by
  rw [<- e]
  first
   | rfl
   | (
     congr 1;funext x r;obtain⟨n,k⟩:=x;by_cases hk:(k==Bh)=true
     ·simp only [hk,if_true,pure_bind]
     ·simp only [hk,if_false,pure_bind,Av])
   | simp only [pure_bind]
 simpa using e'
theorem hJ {env:Env}:∀{names:List (Str×xz)}{x:Str},
  (names.map λ(n,k)=>if (k==Bh&&env.scope.kind==.function&&env.kindOf n==ap .cell) then (n,FJ) else (n,k)).lookup x =
   (names.lookup x).map λk=>if (k==Bh&&env.scope.kind==.function&&env.kindOf x==ap .cell) then FJ else k
 | [],_=>rfl
 | (n,k)::r,x=>by
  have ih:=@hJ env r x;show List.lookup x ((if (k==Bh&&env.scope.kind==.function&&env.kindOf n==ap .cell)=true then (n,FJ) else (n,k))::_)=_;cases hx:x==n with
  | true=>
   have e:=eq_of_beq hx;subst e;by_cases hc:(k==Bh&&env.scope.kind==.function&&env.kindOf x==ap .cell)=true
   ·rw [if_pos hc,Bm,Bm,hx];simp only [Cr,hc,if_true]
   ·rw [if_neg hc,Bm,Bm,hx];simp only [Cr,hc,if_false];simp
  | false=>
   by_cases hc:(k==Bh&&env.scope.kind==.function&&env.kindOf n==ap .cell)=true
   ·rw [if_pos hc,Bm,Bm,hx];exact ih
   ·rw [if_neg hc,Bm,Bm,hx];exact ih
def PFs (X:Cx) (Í:List ii) (t:TT):Prop:=
 ∀(Z:List (ce×Obj)) (s:cr) (σ:St) (H:Hp) (Q:Bool->Hp->Prop),Inv X Z σ H s->t σ H Q->
  db (dL X.prog X.w) X.A (forIn Í true λc r=>if r=true then do let ok <- isTrue c X.env (im c X.env);pure (Ct ok) else pure (Ct r)) (TP X Z σ Q) X.xe s
def af9:TT:=λ_ H Q=>Q true H
def Ua:PFs X [] af9:=λZ s σ H Q I h=>by
 exact Ad ⟨H,I,h⟩
def T9 {c:ii}{t:TT} (hc:PT X c t):PFs X [c] t:=λZ s σ H Q I h=>by
 rw [B5];simp only [if_true,bind_assoc,pure_bind];refine Aa (cq (hc Z s σ H Q I h) λb s1 q=>?_);exact Ad q
def tLc (ix:List (Option Nat)) (wi:TI) (g:TG) (tf:TT) (te:TE):TE:=λσ H Q=>wi σ H λJ H1=>∀D,H1 D=bm->∃W:Nat->Nat->St->List V->Hp->Prop,
 (∃m,W 0 m (pB ix σ) [] (upd H1 D (.lst [])))/\∀i m σ' ys H,W i m σ' ys H->H D=ap (.lst ys)/\
  ((J.stop i H/\Q (.ref D) H)\/(J.go i H/\∀x H',J.Wi i H x H'->g x σ' H' λσ2 H2=>tf σ2 H2 λb H3=>
   if b=true then te σ2 H3 λy H4=>H4 D=ap (.lst ys)/\ys.length+1<=sizeLine/\∃m',m' < m/\W (i+1) m' σ2 (ys++[y]) (upd H4 D (.lst (ys++[y]))) else ∃m',m' < m/\W (i+1) m' σ2 ys H3))
def mG {Ë:ii}{it Ä:bn} (I:Nat->cr->Prop)
  (turn:∀n s,I n s->db (dL prog w) A (FS it) (λr s₁=>match r with
   | none=>R (.ok .next) s₁
   | some v=>db (dL prog w) A (GE Ë it v) (λ_ Wl=>db (dL prog w) A (Fk Ë env v) (λ_ s₂=>
     db (dL prog w) A (forIn Í true λc r=>if r=true then do let ok <- isTrue c env (im c env);pure (Ct ok) else pure (Ct r)) (λok s₃=>
      if ok=true then db (dL prog w) A (im Ç env) (λx s₄=>
       db (dL prog w) A (call (.builtin "list.append") [Ä,x]) (λ_ s₅=>∃m,m < n/\I m s₅) (λ_ _=>False) s₄) (λ_ _=>False) s₃
      else ∃m,m < n/\I m s₃) (λ_ _=>False) s₂) (λ_ _=>False) Wl) (λ_ _=>False) s₁) (λ_ _=>False) s)
  (n:Nat) (h:I n s) :
  Ev (dL prog w) A (.compLoop (.ListComp Ç [⟨Ë,iter,Í,0⟩] scope pos) 0 it Ä env) R s:=by
 refine codeAny_loop rfl I (λn s hI=>?_) n h;refine wpAny_noted ?_;rw [compTurn_list];refine Aa (EN (Aa (BZ (turn n s hI) (λr s₁ h₁=>?_) λ_ _ h'=>h'.elim)));cases r with
 | none=>exact Ad h₁
 | some v=>
  refine Aa (BZ h₁ (λ_ Wl acT=>?_) λ_ _ h'=>h'.elim);refine Aa (BZ acT (λ_ s₂ h₂=>Aa (BZ h₂ (λok s₃ h₃=>?_) λ_ _ h'=>h'.elim)) λ_ _ h'=>h'.elim);cases ok with
  | false=>exact Ad ⟨rfl,h₃⟩
  | true=>
   have acS:db (dL prog w) A (im Ç env) (λx s₄=>
       db (dL prog w) A (call (.builtin "list.append") [Ä,x]) (λ_ s₅=>∃m,m < n/\I m s₅) (λ_ _=>False) s₄) (λ_ _=>False) s₃:=h₃
   exact Aa (Aa (BZ acS (λx s₄ h₄=>Aa (BZ h₄ (λ_ s₅ h₅=>Ad (Ad ⟨rfl,h₅⟩)) λ_ _ h'=>h'.elim)) λ_ _ h'=>h'.elim))
section
variable {g:TG}{tf:TT}
structure ad9 (X:Cx) (Z:List (ce×Obj)) (H:Hp) (C:ce):Prop where
 hn:H C=bm
 hL:C≠X.env.locals
 ab:X.s₀.heap.objs.size<=C
 cl:∀x c,X.env.cells.lookup x=ap c->c≠C
 pn:∀p∈X.pn++Z,p.1≠C
theorem LN (hc:X.calm=true) (S:aF X.env.scope X.N sc N' ix)
  (hg:∀cl C s2 H2 fp,PG (iQ X sc N' cl C s2 H2 fp) tg g) (hf:∀cl C s2 H2 fp,PFs (iQ X sc N' cl C s2 H2 fp) Í tf) (he:∀cl C s2 H2 fp,PE (iQ X sc N' cl C s2 H2 fp) Ç te) {s2:cr}{cl:List (Str×ce)} (uf:∀x c,cl.lookup x=ap c->X.env.cells.lookup x=ap c/\(x,Bh)∈sc.names) (NJ:∀x,(x,Bh)∈sc.names->∃c,cl.lookup x=ap c) {tn:Nat->mo->Prop}{J:It}{Q:VK} (I2:Inv X Z σ H2 s2) (T:Turn X.prog X.w X.K tg J fp it tn) (MD:tn 0 s2.heap) (f2:∀b∈fp,vH X Z H2 b)
  (hW:∀D,H2 D=bm->∃W:Nat->Nat->St->List V->Hp->Prop,
   (∃m,W 0 m (pB ix σ) [] (upd H2 D (.lst [])))/\∀i m σ' ys H,W i m σ' ys H->H D=ap (.lst ys)/\
    ((J.stop i H/\Q (.ref D) H)\/(J.go i H/\∀x H',J.Wi i H x H'->g x σ' H' λσ2 H2=>tf σ2 H2 λb H3=>
     if b=true then te σ2 H3 λy H4=>H4 D=ap (.lst ys)/\ys.length+1<=sizeLine/\∃m',m' < m/\W (i+1) m' σ2 (ys++[y]) (upd H4 D (.lst (ys++[y]))) else ∃m',m' < m/\W (i+1) m' σ2 ys H3)))
  {RR:bn->ce->Result->cr->Prop}{E:bn->cr->Prop}
  (hRR:∀D C m s' H',Inv X Z σ H' s'->Q (.ref D) H'->s'.heap.Ns C m->ad9 X Z H' C->RR (.ref D) C (.ok .next) s') :
  db (dL X.prog X.w) X.A (newList []) (λÄ s₃=>db (dL X.prog X.w) X.A (newFunctionEnv sc X.env.globals cl [] X.env.qual bm .none (ap X.env)) (λadU s₄=>
   Ev (dL X.prog X.w) X.A (.compStart (.ListComp Ç [⟨tg,iter,Í,0⟩] sc pos) 0 (.ref it) Ä {adU with scope:=relabel sc X.env}) (RR Ä adU.locals) s₄) E s₃) E s2:=by
 refine AE (wpAny_newFunctionEnv S.nc (by intro y hy;simp at hy) (λh₁ JN yo=>?_) S.kind);generalize hH2:s2.heap.push {cls:=.type "list",dict:=bm,data:=.seq ([]:List bn).toArray}=G2 at JN yo ⊢;have hC:G2.objs.size=s2.heap.objs.size+1:=by rw [<- hH2,CG]
 obtain⟨D,hD⟩:∃D:Nat,s2.heap.objs.size=D:=⟨_,rfl⟩;obtain⟨C,hCC⟩:∃C:Nat,G2.objs.size=C:=⟨_,rfl⟩;simp only [hD,hCC] at JN yo hC ⊢;have hDC:D≠C:=by omega
 have Ì:∀b o,s2.heap.get? b=ap o->h₁.get? b=ap o:=λb o e=>by
  have hb:=lsz e;exact yo.extBut b o (neN ∅) (Ag _ (hH2▸Ag _ e))
 have adh:h₁.get? D=ap {cls:=.type "list",data:=.seq ([]:List bn).toArray}:=by
  refine yo.extBut D _ hDC (Ag _ ?_);rw [<- hH2,<- hD];exact Ao _ rfl
 have hD2:H2 D=bm:=I2.bC.fresh ∅;have hC2:H2 C=bm:=I2.bC.fresh ∅;obtain⟨W,⟨m0,w0⟩,turn⟩:=hW D hD2;have Xj:∀x c,cl.lookup x=ap c->∃v,s2.heap.IsCell c v:=λx c e=>I2.cell x c (uf x c e).1;have ah7:∀x c,cl.lookup x=ap c->c < D:=λx c e=>by
  obtain⟨v,q⟩:=Xj x c e;have:=Xk q;exact ltN ∅
 have ő:∀b∈fp,b < D:=λb hb=>by
  obtain⟨o,e,_⟩:=T.obj 0 _ MD b hb;have:=lsz e;exact ltN ∅
 have Yok:(iQ X sc N' cl C s2 H2 fp).Ok:=by
  refine⟨I2.ok.mod,S.kind,I2.ok.glob,I2.ok.blt,?_,?_,?_,?_,I2.ok.hd,I2.ok.frames,.inl rfl,?_,I2.bs,?_,?_,?_,I2.stack,I2.La⟩
  ·show s2.heap.objs.size<=C;omega
  ·intro x y c e1 e2;exact I2.ok.inj x y c (uf x c e1).1 (uf y c e2).1
  ·intro x hx;have wx:(relabel sc X.env).names.lookup x=ap .cell\/(relabel sc X.env).names.lookup x=ap .free:=hx;unfold relabel at wx;rw [hJ] at wx;cases q:sc.names.lookup x with
   | none=>rw [q] at wx;simp at wx
   | some k=>
    have hm:=B2 q;by_cases hk:k=.free
    ·subst hk;exact NJ x hm
    ·have ZA:k≠.cell:=S.nc _ hm;rw [q] at wx;have hb:(k==Bh)=false:=by simpa using hk
     simp only [Cr,hb,Fy,Av,if_false] at wx;rcases wx with z | z
     ·exact absurd (Option.some.inj z) ZA
     ·exact absurd (Option.some.inj z) hk
  ·intro x c Ć;exact absurd Ć AR
  ·intro b hb;refine⟨?_,λx c e z=>(f2 b hb).2.2.2.2.1 x c (uf x c e).1 z⟩;show b≠C;have:=ltN (ő b hb);exact neN ∅
  ·exact AV I2.ok.Xo I2.sz
  ·intro b o e hb;rcases (f2 b hb).2.2.2.1 with z | z
   ·exact I2.ok.Qo b o e z
   ·have h1:=lsz (h:=X.base) e;have h2:=I2.ok.Xo;omega
  ·intro b hb z;rcases AD.mp (I2.IE b z) with q | q
   ·exact (f2 b hb).2.1 q
   ·exact (f2 b hb).2.2.1 q
 have un0:Un (Oz X.stack) fp H2 (upd H2 D (.lst [])) s2.heap h₁:=Un.laid Ì ∅ hD2;have ahe:my X.prog X.w (upd H2 D (.lst [])) h₁:=I2.bC.laid Ì ∅ ⟨Bc _,[],0,.nil,adh⟩;have IY:∀tk,Inv (iQ X sc N' cl C s2 H2 fp) [] (pB ix σ) (upd H2 D (.lst [])) {s2 with heap:=h₁,toks:=tk}:=λtk=>by
  refine⟨Yok,rfl,I2.bare,un0,⟨_,JN,λi x v e1 e2 e3=>?_⟩,λx c e=>?_,?_,λx c e=>?_,λp hp=>absurd (show p∈([]:List (ce×Obj)) from hp) (by simp),ahe,?_⟩
  ·have rH:N'[i]?=ap x:=e1;unfold pB at e2;rw [Ak] at e2;cases q:ix[i]? with
   | none=>rw [q] at e2;cases e2
   | some o=>
    cases o with
    | none=>rw [q] at e2;cases e2
    | some j=>
     rw [q] at e2;have Ĩ:(σ[j]?).getD bm=ap v:=Option.some.inj e2;have e4:σ[j]?=ap (ap v):=by
      cases z:σ[j]? with
      | none=>rw [z] at Ĩ;cases Ĩ
      | some y=>rw [z] at Ĩ;exact congrArg ap Ĩ
     obtain⟨a1,a2⟩:=S.at q rH;have ac3:=B2 a2;have hk:=S.fr _ ac3 rfl;obtain⟨m,_,hl⟩:=I2.loc;obtain⟨u,r,l⟩:=hl j x v a1 e4 (.inr hk);refine⟨u,r,.inr ⟨?_,?_⟩⟩
     ·show (relabel sc X.env).names.lookup x=ap .cell\/(relabel sc X.env).names.lookup x=ap .free;unfold relabel;rw [hJ,a2];by_cases hb:(X.env.scope.kind==.function&&X.env.kindOf x==ap .cell)=true
      ·left
       simp only [Cr,beq_self_eq_true,FN,hb,if_true]
      ·right
       simp only [Cr,beq_self_eq_true,FN,hb,if_false,Av]
     ·obtain⟨c,hcx⟩:=NJ x ac3;have hcX:=(uf x c hcx).1;refine⟨c,hcx,?_⟩;rcases l with⟨k,_⟩ | ⟨k,c',e',z⟩
      ·have k':X.env.scope.names.lookup x=ap .local:=k;rcases hk with y | y <;> rw [k'] at y <;> cases y
      ·rw [hcX] at e';cases e';obtain⟨o,ho,hd⟩:=z;exact⟨o,Ì _ _ ho,hd⟩
  ·obtain⟨v,o,ho,hd⟩:=Xj x c e;exact⟨v,o,Ì _ _ ho,hd⟩
  ·show upd H2 D (.lst []) C=bm;rw [ax (BP hDC)];exact hC2
  ·have ff:=ltN (ah7 x c e);show upd H2 D (.lst []) c=bm;rw [ax (neN ∅)];exact I2.kD x c (uf x c e).1
  ·unfold pB;rw [Af];exact S.len
 have Ő:∀{Gv:List (ce×Obj)}{H':Hp},(∀b∈fp,H' b=bm)->(∀p∈Gv,p.1∉fp)->∀b∈fp,vH (iQ X sc N' cl C s2 H2 fp) Gv H' b:=λhn hp b hb=>by
  refine⟨hn b hb,?_,?_,.inl hb,λx c e z=>(f2 b hb).2.2.2.2.1 x c (uf x c e).1 z,λp ļ z=>?_⟩
  ·show b≠C;have:=ltN (ő b hb);exact neN ∅
  ·exact Yok.RK b hb
  ·have ag8:p∈([]:List (ce×Obj))++_:=ļ;exact hp p ag8 (z▸hb)
 have ÿ:∀s₃:cr,s₃={s2 with heap:=h₁,toks:=s2.toks+([]:List (Str×bn)).length}->
   Ev (dL X.prog X.w) X.A (.compLoop (.ListComp Ç [⟨tg,iter,Í,0⟩] sc pos) 0 (.ref it) (.ref D) (compEnvC sc cl C X.env)) (RR (.ref D) C) s₃:=by
  rintro s₃ rfl;refine mG (λn s'=>∃i σ' ys H',Inv (iQ X sc N' cl C s2 H2 fp) [] σ' H' s'/\tn i s'.heap/\(∀b∈fp,H' b=bm)/\W i n σ' ys H') ?_ m0
   ⟨0,_,[],_,IY _,T.keep _ _ _ MD (λb _ o e=>Ì b o e),λb hb=>by rw [ax (AG (ő b hb))];exact (f2 b hb).1,w0⟩
  rintro n s3 ⟨i,σ3,ys,H3,I3,ô,Č,w3⟩;obtain⟨hDl,w3⟩:=turn i n σ3 ys H3 w3;rcases w3 with⟨stop,qn⟩ | ⟨go,step⟩
  ·refine cq (T.done (iQ X sc N' cl C s2 H2 fp) rfl rfl rfl hc i [] s3 σ3 H3 _ I3 (Ő Č (by simp)) ô stop) λr s4 ⟨hr,I4⟩=>?_;subst hr;obtain⟨m,hn,_⟩:=I4.loc;refine hRR D C m s4 H3 (I2.adV (ch:=fp) I4.os I4.base I4.bC I4.bare λb hb=>?_) qn hn ?_
   ·obtain⟨a0,a1,a2,a3,a4,a5⟩:=f2 b hb;exact⟨a3,a1,a4,a5⟩
   ·refine⟨I4.free,?_,?_,λx c e z=>?_,λp hp z=>?_⟩
    ·have:=ltN I2.lt;exact neN ∅
    ·have:=I2.sz;omega
    ·obtain⟨v,q⟩:=I2.cell x c e;have:=Xk q;exact neN (a:=c) (b:=C) ∅ z
    ·have:=lsz (I2.pin p hp).1;exact neN (a:=p.1) (b:=C) ∅ z
  ·refine cq (T.item (iQ X sc N' cl C s2 H2 fp) rfl rfl rfl hc i [] s3 σ3 H3 (λ_ _=>False) I3 (Ő Č (by simp)) ô go) λr s4 ⟨u,hr,h4⟩=>?_;subst hr;refine cq h4 λ_ s5 ⟨x,H5,I5,r5,y5,X2,ŏ⟩=>?_;have œ:=I5.pinned (Ő ŏ (by simp)) (T.obj _ _ X2);refine cq (hg _ _ _ _ _ _ s5 σ3 H5 x u _ œ r5 (step x H5 y5)) λ_ s6 ⟨σ6,H6,I6,q6⟩=>?_;refine cq (hf _ _ _ _ _ _ s6 σ6 H6 _ I6 q6) λb s7 ⟨H7,I7,q7⟩=>?_;have QK:∀{s8:cr}{σ8:St}{H8:Hp},Inv (iQ X sc N' cl C s2 H2 fp) ([]++qd fp s5.heap) σ8 H8 s8->tn (i+1) s8.heap/\∀b∈fp,H8 b=bm:=λ{s8 σ8 H8} I8=>by
    refine⟨T.keep _ _ _ X2 λb hb o e=>(I8.pin (b,o) (AY _ (AY _ (jR hb e)))).1,λb hb=>?_⟩;obtain⟨o,e,d⟩:=T.obj _ _ X2 b hb;exact (I8.pin (b,o) (AY _ (AY _ (jR hb e)))).2.1
   cases b with
   | false=>
    have q7':=q7;obtain⟨m',hm,w7⟩:=q7';obtain⟨t7,fr7⟩:=QK I7;exact⟨m',hm,i+1,σ6,ys,H7,I7.kQ,t7,fr7,w7⟩
   | true=>
    refine cq (he _ _ _ _ _ _ s7 σ6 H7 _ I7 q7) λyv s8 ⟨y,H8,I8,r8,hD8,hz8,m',hm,w8⟩=>?_;obtain⟨z,au,k,rv,hl8,e8⟩:=I8.rj hD8;obtain⟨t8,fr8⟩:=QK I8;refine wpAny_list_append_plain (s:=s8) (items:=au.toArray) (hsz:=by rw [Ai];omega) ⟨_,e8⟩ λh9 hl9 hs9=>?_;obtain⟨k9,e9⟩:=hl9;have hv9:=Vals.append rv (.cons r8 .nil);have I9:Inv (iQ X sc N' cl C s2 H2 fp) ([]++qd fp s5.heap) σ6 (upd H8 D (.lst (ys++[y]))) {s8 with heap:=h9,toks:=s8.toks}:=by
     refine I8.write (x:=D) (e:=D) (by rw [hD8];exact trivial) (.inl rfl) (λb u hb hu=>(hs9.2 b hb).trans hu) ⟨_,e9⟩ ?_;refine⟨by rw [Ah,DK];exact hz8,au++[yv],k9,hv9,?_⟩;rw [e9];simp
    obtain⟨t9,fr9⟩:=QK I9;exact⟨m',hm,i+1,σ6,_,_,I9.kQ,t9,fr9,w8⟩
 exact codeAny_compStart_list (ÿ _ rfl) (T.self _ 0 _ _ _ (T.keep _ _ _ MD λb _ o e=>Ì b o e) (ÿ _ rfl))
def ab7 (hc:X.calm=true) (S:aF X.env.scope X.N sc N' ix) (hi:PI X tg iter wi)
  (hg:∀cl C s2 H2 fp,PG (iQ X sc N' cl C s2 H2 fp) tg g) (hf:∀cl C s2 H2 fp,PFs (iQ X sc N' cl C s2 H2 fp) Í tf) (he:∀cl C s2 H2 fp,PE (iQ X sc N' cl C s2 H2 fp) Ç te)
  (hs:zQ X iter:=by intro _;rfl):PE X (.ListComp Ç [⟨tg,iter,Í,0⟩] sc pos) (tLc ix wi g tf te):=by
 intro Z s σ H Q I h;have JO:∀y∈sc.names,y.2=.free->∃c,X.env.cells.lookup y.1=ap c:=λy hy hk=>I.ok.has y.1 (S.fr y hy hk);obtain⟨cl,Rl,uf,NJ⟩:=mZ JO;refine ER (use:=bm) rfl hs Rl S.kind S.loc (cq (hi Z s σ H _ I h) λv s1 h1=>cq h1 λě s2 h2=>?_);obtain⟨it,fp,tn,J,H2,rfl,I2,T,MD,f2,hW⟩:=h2;refine LN (RR:=λÄ C=>compPost (dL X.prog X.w) X.A X.xe bm (EP X Z σ Q) Ä C) hc S hg hf he uf NJ I2 T MD f2 hW λD C m s' H' I' q hn F=>?_;refine⟨m,hn,λh' ç=>⟨.ref D,H',?_,rfl,q⟩⟩;exact I'.turned (it:=C) (t':=s'.toks) (λb o hb e=>(ç.2 b hb).trans e) F.hn F.hL (.inr F.ab) F.cl F.pn
def PX {i:Nat} (hc:X.calm=true) (hN:X.N.Nodup) (Rk:X.N[i]?=ap x) (hx:X.env.scope.names.lookup x=ap .local) (S:aF X.env.scope X.N sc N' ix) (hi:PI X tg iter wi)
  (hg:∀cl C s2 H2 fp,PG (iQ X sc N' cl C s2 H2 fp) tg g) (hf:∀cl C s2 H2 fp,PFs (iQ X sc N' cl C s2 H2 fp) Í tf) (he:∀cl C s2 H2 fp,PE (iQ X sc N' cl C s2 H2 fp) Ç te)
  (vm:lm (.ListComp Ç [⟨tg,iter,Í,0⟩] sc pos) (ap (.Name x px)) uY.line X.env=pure true:=by rfl)
  (hs:zQ X iter:=by intro _;rfl):PS X (.Assign [.Name x px] (.ListComp Ç [⟨tg,iter,Í,0⟩] sc pos) uY) (XX (tLc ix wi g tf te) (d5 i)):=by
 intro Z s σ H D0 I h;rw [exec_Assign_Name_used _ _ _ _ vm];refine Aa (EN (Aa ?_));show db _ X.A (do let _ <- comprehension (.ListComp Ç [⟨tg,iter,Í,0⟩] sc pos) sc X.env _ (newList []) false (im iter X.env) (ap (Fk (.Name x px) X.env))) _ _ s;have JO:∀y∈sc.names,y.2=.free->∃c,X.env.cells.lookup y.1=ap c:=λy hy hk=>I.ok.has y.1 (S.fr y hy hk);obtain⟨cl,Rl,uf,NJ⟩:=mZ JO;refine Aa (BZ (ER (use:=ap (Fk (.Name x px) X.env)) (Q:=λ_ s'=>SP X Z D0 .next s') rfl hs Rl S.kind S.loc (cq (hi Z s σ H _ I h) λv s1 h1=>cq h1 λě s2 h2=>?_)) (λ_ s' hq=>Ad (Ad hq)) λ_ _ e=>e);obtain⟨it,fp,tn,J,H2,rfl,I2,T,MD,f2,hW⟩:=h2;refine LN (RR:=λÄ C=>compPost (dL X.prog X.w) X.A X.xe (ap (Fk (.Name x px) X.env)) (λ_ s'=>SP X Z D0 .next s') Ä C) (Q:=λx H1=>d5 i x σ H1 D0.nx) hc S hg hf he uf NJ I2 T MD f2 hW λD C m s' H' I' q hn F=>?_;show db _ X.A (Fk (.Name x px) X.env (.ref D)) _ _ _;refine wpAny_assign_Name (vL (v:=.ref D) I' hN Rk (.inl hx) rfl (λö I'' Ļ=>?_) (.inr hx));obtain⟨a,Ļ,ha⟩:=Ļ;have haC:C≠a:=by
  rcases ha with z | z
  ·rw [z];exact F.hL
  ·exact BP (F.cl _ _ z)
 refine⟨m,hn.sameBut Ļ haC,λh' ç=>⟨_,H',?_,q⟩⟩;exact I''.turned (it:=C) (t':=ö.toks) (λb o hb e=>(ç.2 b hb).trans e) F.hn F.hL (.inr F.ab) F.cl F.pn
end
end L2
variable {a b:BX}
namespace L2
open PySem PySem.Spec PyProof.Rows
section
def qX:bS X (.builtin "isinstance") (λxs H Q=>∃x c t b,xs=[x,.ty c]/\mI X.K H x t/\Bw X.K t (.type c)=ap b/\Q (.bl b) H):=by
 intro Z s σ H xs us Q I r h;obtain⟨x,c,t,b,rfl,ty,hk,q⟩:=h;obtain⟨u,w',rfl,ru,xA⟩:=vals2 r;cases (show w'=B8 c from xA);exact Nx I ru ty hk λtk=>⟨.bl b,H,I.tok _,rfl,q⟩
def M5 (hu:X.A.units < pc):je X (nw .NotEq) (λx y H Q=>∃p q xs,x=.ref p/\y=.ref q/\de X.K H p xs/\de X.K H q []/\Q (.bl (!xs.isEmpty)) H):=by
 intro Z s σ H x y v u Q I rx ry h;obtain⟨p,q,xs,rfl,rfl,hp,hq,k⟩:=h;cases rx;cases ry;obtain⟨au,r,pl,hz⟩:=I.list hp;obtain⟨c8,r2,ù,hz2⟩:=I.list hq;cases r2;cases xs with
 | nil=>
  cases r;refine EI (FP (e:=λ_=>true) pl.isList ù.isList rfl hu λj h1=>absurd h1 (by simp)) ?_;exact⟨.bl false,H,I,rfl,k⟩
 | cons y ys=>
  have hl:=r.length;refine EI (Ej pl.isList ù.isList (by simp at hl ⊢;intro z;subst z;simp at hl) hu) ?_;exact⟨.bl true,H,I,rfl,k⟩
def Sl {bs:List Bool}:∀{us:List bn},Vals (bs.map V.bl) us->us=bs.map C5:=by
 induction bs with
 | nil=>intro us r;rw [Cz] at r;cases r;rfl
 | cons n ns ih=>
  intro us r;cases r with
  | cons r1 r2=>
   cases r1;rw [ih r2];rfl
def Ky (hc:X.calm=true):bS X (.builtin "any") (λxs H Q=>∃(p:ce) (bs:List Bool),xs=[.ref p]/\de X.K H p (bs.map V.bl)/\Q (.bl (bs.any id)) H):=by
 intro Z s σ H xs us Q I r h;obtain⟨p,bs,rfl,hp,q⟩:=h;obtain⟨u,rfl,ru⟩:=vals1 r;cases ru;obtain⟨au,rv,pl,hz⟩:=I.list hp;have eb:=Sl rv;subst eb;have hl:=pl.isList;have ff:p < s.heap.objs.size:=by obtain⟨_,e,_⟩:=hl;exact Au e
 refine call_any_walk (C3 hl ?_);refine⟨s.heap.objs.size,[s.heap.objs.size,p],[s.heap.objs.size],(bs.map C5).toArray.size,_,_,λi=>(bs[i]?).getD false,rfl,Walks.list (A:=X.A.in1) (I.ok.hd hc) _ p (AG ff) (bs.map C5).toArray,
  ⟨⟨_,Ao _ rfl,rfl,rfl⟩,hl.push _⟩,λi v s' Q' E' hP hQ=>?_,λh' tk hk=>?_⟩
 ·have Rq:(bs.map C5)[i]?=ap v:=by simpa using hP
  rw [Ak] at Rq;cases e:bs[i]? with
  | none=>rw [e] at Rq;cases Rq
  | some b=>
   rw [e] at Rq;cases Rq;simp only [e,Option.getD_some] at hQ;exact C2 hQ
 ·have e:((Aw (bs.map C5).toArray.size).any λi=>(bs[i]?).getD false)=bs.any id:=by
   rw [Ai,Af];exact LSm.range_any bs
  rw [e];exact⟨.bl (bs.any id),H,I.kept (LSm.kept_iter hk),rfl,q⟩
def rq (l:ce) (items:Array bn) (n:Nat) (b:ce) (b9:Array bn) (n2:Nat) (dd:Option ce) (sl:Array (Option bn)) (hs0:¬(!items.isEmpty&&Builtin.List.listTooLong (items.size+b9.size))=true) (Io:items.size<=sizeLine) (qx:items.size+b9.size<=sizeLine+1) :
  Meets (ut.«list.extend» ⟨[.ref l,.ref b],[]⟩) (λ_ R s=>s.heap.get? l=ap {cls:=.type "list",dict:=bm,data:=.seq items n,slots:=#[]}/\s.heap.get? b=ap {cls:=.type "tuple",dict:=dd,data:=.seq b9 n2,slots:=sl}/\R (.ok (.ret AL)) {s with heap:=s.heap.update l (Br λx=>x++b9),toks:=s.toks}):=
 .of_wp λprog w A R s h=>by
  obtain⟨hp,g,d,tk,os⟩:=s;obtain⟨hl,hb,h⟩:=h;have f1:=E4;have f2:=DN;have f3:=D6;have f4:=DY;have f5:=DZ;have NF:(items++b9).size<=sizeLine+1:=by rw [Array.size_append];exact qx
  wp_walk using (CU hl rfl (hz:=Io) (_hz':=NF)),Ca hl,Ca hb;exact⟨_,rfl,h⟩
def PK (K:Ab):V->List V->Hp->VK->Prop:=λx vs H Q=>∃l b xs zs,x=.ref l/\vs=[.ref b]/\H l=ap (.lst xs)/\dR K H b zs/\xs.length+zs.length<=sizeLine/\Q .aN (upd H l (.lst (xs++zs)))
theorem Jj:KU X "list.extend" (PK X.K):=by
 intro Z s σ H x vs v us Q I rx rv h;obtain⟨l,b,xs,zs,rfl,rfl,hH,hB,hz,q⟩:=h;cases rx;obtain⟨u,rfl,ru⟩:=rv.one;cases ru;obtain⟨z,au,n,r,hl,e⟩:=I.rj hH;obtain⟨c8,r2,⟨⟨cls,dd,data,sl⟩,e2,hc,n2,hd⟩,z2⟩:=I.tuple hB;simp only at hc hd;subst hc hd;have SQ:=r2.length;have hsz:au.toArray.size+c8.toArray.size<=sizeLine:=by rw [Ai,Ai];omega
 have ue:¬(!au.toArray.isEmpty&&Builtin.List.listTooLong (au.toArray.size+c8.toArray.size))=true:=by
  rw [oI hsz,EA];exact AR
 refine sB El ⟨_,e,rfl⟩ Ea (DW _ _)
  (rq l au.toArray n b c8.toArray n2 dd sl ue (by rw [Ai];omega) ∅) ⟨e,e2,?_⟩
 refine⟨.aN,_,I.Jp (its':=au++c8) hH e (by simp) (r.append r2) ?_,rfl,q⟩;rw [Ah];omega
end
end L2
variable {o:L2.HO}{k':Nat}{bg:Ck}
namespace L2
open PySem PySem.Spec PyProof.Rows
def qY (l:ce) (H H':Hp):Prop:=∀b u,b≠l->H b=ap u->H' b=ap u
def jo {p:ce} (h:H p=bm) (o:HO):lR H (upd H p o):=λb u q=>by rw [ax (bG q h)];exact q
def MR {p:ce} (o:HO):qY p H (upd H p o):=λb u n q=>by rw [ax n];exact q
def kJ (H:Hp) (o:HO) (Q:VK):Prop:=∀p H',lR H H'->H' p=ap o->H p=bm->Q (.ref p) H'
def kJ.at {Q:VK} (h:kJ H o Q) (p:ce) (hp:H p=bm):Q (.ref p) (upd H p o):=h p _ (jo hp o) aU hp
def zW (H:Hp) (l:ce) (o:HO) (Q:Hp->Prop):Prop:=∀H',qY l H H'->H' l=ap o->Q H'
def zW.at {Q:Hp->Prop} (h:zW H l o Q):Q (upd H l o):=h _ (MR o) aU
def je.mono {f:bn->bn->Sem bn}{r r':R2} (h:je X f r) (hr:∀x y H Q,r' x y H Q->r x y H Q):je X f r':=λZ s σ H x y v u Q I rx ry q=>h Z s σ H x y v u Q I rx ry (hr _ _ _ _ q)
def bS.mono {f:bn}{r r':List V->Hp->VK->Prop} (h:bS X f r) (hr:∀xs H Q,r' xs H Q->r xs H Q):bS X f r':=λZ s σ H xs us Q I rx q=>h Z s σ H xs us Q I rx (hr _ _ _ q)
def KU.mono {id:String}{r r':V->List V->Hp->VK->Prop} (h:KU X id r) (hr:∀x xs H Q,r' x xs H Q->r x xs H Q):KU X id r':=λZ s σ H x xs v us Q I rx rv q=>h Z s σ H x xs v us Q I rx rv (hr _ _ _ _ q)
def Ol.mono {r r':SD} (h:Ol X r) (hr:∀o i v H Q,r' o i v H Q->r o i v H Q):Ol X r':=λZ s σ H o i v ov iv u Q I ro ri rv q=>h Z s σ H o i v ov iv u Q I ro ri rv (hr _ _ _ _ _ q)
section
variable {o:ii}{t:TA}
def abk (t:TA):TE:=λσ H Q=>t σ H λxs H1=>xs.length<=sizeLine/\kJ H1 (.tup xs) Q
def abq (t:TA):TE:=λσ H Q=>t σ H λxs H1=>xs.length<=sizeLine/\kJ H1 (.lst xs) Q
def Uc {x1} (h:PA X es t):PE X (.Tuple es x1 pos) (abk t):=by
 intro Z s σ H Q I hq;refine wpAny_Tuple_spliced (cq (h pos Z s σ H _ I hq) λus s1 ⟨xs,H1,I1,r,z,q⟩=>⟨by rw [<- r.length];exact z,?_⟩);have hf:=I1.bC.fresh (Am _);refine⟨.ref s1.heap.objs.size,upd H1 s1.heap.objs.size (.tup xs),I1.laid (t':=s1.toks) (λb u e=>Ag _ e) (Am _) ?_,rfl,q.at _ hf⟩;exact⟨z,us,r,⟨_,Ao _ rfl,rfl,_,rfl⟩⟩
def Ug (h:PA X es t):PE X (.List es pos) (abq t):=by
 intro Z s σ H Q I hq;refine wpAny_List_spliced (cq (h pos Z s σ H _ I hq) λus s1 ⟨xs,H1,I1,r,z,q⟩=>⟨by rw [<- r.length];exact z,?_⟩);have hf:=I1.bC.fresh (Am _);refine⟨.ref s1.heap.objs.size,upd H1 s1.heap.objs.size (.lst xs),I1.laid (t':=s1.toks) (λb u e=>Ag _ e) (Am _) ?_,rfl,q.at _ hf⟩;exact⟨z,us,0,r,Ao _ rfl⟩
def Wu (K:Ab):R2:=λx y H Q=>match x with
 | .int i=>∃j,y=.int j/\Q (.int (i+j)) H
 | .str i=>∃j,y=.str j/\i.length+j.length<=sizeLine/\Q (.str (i++j)) H
 | .ref a=>(∃b xs zs,y=.ref b/\H a=ap (.lst xs)/\H b=ap (.lst zs)/\xs.length+zs.length<=sizeLine/\kJ H (.lst (xs++zs)) Q)\/Wx K x y H Q
 | _=>False
def Uv:je X (sn .Add) (Wu X.K):=by
 refine ((YL.or Jd).or (YK.or Lz)).mono λx y H Q h=>?_;cases x with
 | int i=>obtain⟨j,rfl,q⟩:=h;exact .inl (.inl ⟨i,j,rfl,rfl,q⟩)
 | str i=>obtain⟨j,rfl,hl,q⟩:=h;exact .inl (.inr ⟨i,j,rfl,rfl,hl,q⟩)
 | ref a=>
  rcases h with⟨b,xs,zs,rfl,h1,h2,hz,q⟩ | h
  ·exact .inr (.inl ⟨a,b,xs,zs,rfl,rfl,h1,h2,hz,λp hp=>q.at p hp⟩)
  ·exact .inr (.inr h)
 | _=>exact h.elim
def Uq:je X (sn .Mult) (rI wE λi j=>.int (i*j)):=opI λ_ _ _ _ _ _ _ hc q=>mul_int q hc
def Kv:bS X (.type "list") (λxs H Q=>∃p ys,xs=[.ref p]/\(de X.K H p ys\/dR X.K H p ys)/\kJ H (.lst ys) Q):=zi.mono λxs H Q ⟨p,ys,e,h,q⟩=>⟨p,ys,e,h,λl hl=>q.at l hl⟩
def PM:V->List V->Hp->VK->Prop:=λx vs H Q=>∃l xs y,x=.ref l/\vs=[y]/\H l=ap (.lst xs)/\xs.length < sizeLine/\zW H l (.lst (xs++[y])) (Q .aN)
def Jk:KU X "list.append" PM:=Na.mono λx xs H Q ⟨l,ys,y,e1,e2,h,hz,q⟩=>⟨l,ys,y,e1,e2,h,hz,q.at⟩
def MX (K:Ab):V->List V->Hp->VK->Prop:=λx vs H Q=>∃l b xs zs,x=.ref l/\vs=[.ref b]/\H l=ap (.lst xs)/\dR K H b zs/\xs.length+zs.length<=sizeLine/\zW H l (.lst (xs++zs)) (Q .aN)
def GL:KU X "list.extend" (MX X.K):=Jj.mono λx xs H Q ⟨l,b,ys,zs,e1,e2,h1,h2,hz,q⟩=>⟨l,b,ys,zs,e1,e2,h1,h2,hz,q.at⟩
def abQ:V->List V->Hp->VK->Prop:=λx vs H Q=>∃l xs y,x=.ref l/\vs=[]/\H l=ap (.lst (xs++[y]))/\zW H l (.lst xs) (Q y)
def UE:KU X "list.pop" abQ:=YX.mono λx xs H Q ⟨l,ys,y,e1,e2,h,q⟩=>⟨l,ys++[y],y,e1,e2,h,by simp,by rw [List.dropLast_concat];exact q.at⟩
def Yh:SD:=λo i v H Q=>∃p xs k j,o=.ref p/\i=.int k/\H p=ap (.lst xs)/\wd xs.length k=ap j/\zW H p (.lst (xs.set j v)) Q
def MJ:Ol X Yh:=set_list.mono λo i v H Q ⟨p,xs,k,j,e1,e2,h,hj,q⟩=>⟨p,xs,k,j,e1,e2,h,hj,q.at⟩
end
section
variable (K:Ab) (hK:X.K=K) {o:ii}{to:TE}{t:TA}{name:Str}{æ:String}{r:V->List V->Hp->VK->Prop}{l:ii}
include hK
def Va:SU X (rIx K):=hK▸Zn
def Uu:je X (sn .Add) (Wu K):=hK▸Uv
def Yk (K:Ab):List V->Hp->VK->Prop:=λxs H Q=>∃x n,xs=[x]/\ad4 K x H n/\Q (.int n) H
def wN:bS X (.builtin "len") (Yk K):=hK▸Si
def PF (K:Ab):List V->Hp->VK->Prop:=λxs H Q=>∃p ys,xs=[.ref p]/\(de K H p ys\/dR K H p ys)/\kJ H (.lst ys) Q
def Ku:bS X (.type "list") (PF K):=hK▸Kv
def ab3 (K:Ab):List V->Hp->VK->Prop:=λxs H Q=>∃(p:ce) (bs:List Bool),xs=[.ref p]/\de K H p (bs.map V.bl)/\Q (.bl (bs.any id)) H
def Oa (hc:X.calm=true):bS X (.builtin "any") (ab3 K):=hK▸Ky hc
def Yj (K:Ab):R2:=λx y H Q=>∃p q xs,x=.ref p/\y=.ref q/\de K H p xs/\de K H q []/\Q (.bl (!xs.isEmpty)) H
def Jb (hu:X.A.units < pc):je X (nw .NotEq) (Yj K):=hK▸M5 hu
def afZ (K:Ab) (ta:TE):TT:=λσ H Q=>ta σ H λx H'=>∃k,aal K x H' k/\Q k H'
def vR (ha:PE X a ta) (he:∀Å,isTrue a X.env Å=(do let v <- Å;standAt a.pos;Da [v] (truthy v))):PT X a (afZ K ta):=hK▸PR ha he
def P6 (hl:PE X l tl):PI X tg l (WX K tl):=hK▸T7 hl
def Uh (pa:PlainAttrs T) (slot:Slot T name æ) (Zx:typeOf (.builtin æ)=pure (.type "method_descriptor")) (hm:MtR X æ r) (ho:PE X o to)
  (c6:kw o name X.env (im o X.env)=im o X.env:=by rfl) (cZ:Oo Â bg:=by rfl):PE X (.Call (.Attribute o name Â) [] [] bg) (abw K T r to):=hK▸YA pa slot Zx hm ho c6 cZ
def qe (pa:PlainAttrs T) (slot:Slot T name æ) (Zx:typeOf (.builtin æ)=pure (.type "method_descriptor")) (hm:MtR X æ r) (ho:PE X o to) (ha:PA X (e::es) t)
  (c6:kw o name X.env (im o X.env)=im o X.env:=by rfl)
  (nv:Xr X bg (e::es):=by rfl)
  (cZ:Oo Â bg:=by rfl) (hs:gM X e es:=by rfl) (eI:kL X bg es:=by rfl) :
  PE X (.Call (.Attribute o name Â) (e::es) [] bg) (tBM K T r to t):=hK▸ab8 pa slot Zx hm ho ha c6 nv cZ hs eI
omit hK
end
structure SX (P:tt) (w:wv) (K:Ab) (mg:Str->Option bn) (base:mo) (x:Str) (k:Nat) (ps:List Str) (sp:Sp) where
 f:ce
 fd:FB
 ok:iB P w K mg base mz k f fd ps sp
 bi:Binds K fd ps []
 kp:Eh K (.ref f)=true
 at':mg x=ap (.ref f)
section
variable {t:TA}
def abv (sp:Sp) (t:TA):TE:=λσ H Q=>t σ H λvs H1=>sp vs H1 Q E0
def Ja (G:SX X.prog X.w X.K X.mg X.base x k ps sp) (hr:cS k' X.A) (hk:k<=k') (hg:Gl X x) (ha:PA X (e::es) t) (ny:jg x:=by decide)
  (he:gM X e es:=by rfl) (dQ:kL X pos es:=by rfl) :
  PE X (.Call (.Name x p) (e::es) [] pos) (abv sp t):=by
 intro Z s σ H Q I h;refine Bz (LM I hg G.at' ?_ ny);refine PySem.W.callWith_K (h₀:=X.base) I.ok.mod.kin G.kp (cq (ha pos Z s σ H _ I h) λus s1 ⟨vs,H1,I1,r,q⟩=>⟨I1.v9,?_⟩) he dQ;refine Ya (dvs:=[]) (ds:=[]) G.ok (hr.mono hk) G.bi .nil aca I1 r ?_;rw [Cs];exact q
end
section
theorem Sq {xs:List α} (h0:0<=i) (h1:i < xs.length):∃v,cF xs i=ap v/\xs[i.toNat]?=ap v:=by
 have hk:i.toNat < xs.length:=by omega
 have q:=dJ (by rw [Ae hk]);have e:((i.toNat:Nat):Int)=i:=by omega
 rw [e] at q;exact⟨_,q,by rw [Ae hk]⟩
def WD {j:Int} (h1:-18446744073709551616 < i) (h2:i < 18446744073709551616):wE i j:=Wh.ok (.inl ⟨h1,h2⟩)
def mul_r {j:Int} (h1:-18446744073709551616 < j) (h2:j < 18446744073709551616):wE i j:=Wh.ok (.inr ⟨h1,h2⟩)
end
def bW (h:n<=1000):n<=sizeLine:=Ef (MF h)
section
variable (K:Ab) (hK:X.K=K)
include hK
def Yn (K:Ab):R2:=λx y H Q=>∃p q xs,x=.ref p/\y=.ref q/\de K H p xs/\de K H q []/\Q (.bl xs.isEmpty) H
def Jc (hu:X.A.units < pc):je X (nw .Eq) (Yn K):=by
 subst hK;intro Z s σ H x y v u Q I rx ry h;obtain⟨p,q,xs,rfl,rfl,hp,hq,k⟩:=h;cases rx;cases ry;obtain⟨au,r,pl,hz⟩:=I.list hp;obtain⟨c8,r2,ù,hz2⟩:=I.list hq;cases r2;cases xs with
 | nil=>
  cases r;refine Fe (F1 (e:=λ_=>true) pl.isList ù.isList rfl hu λj h1=>absurd h1 (by simp)) ?_;exact⟨.bl true,H,I,rfl,k⟩
 | cons y ys=>
  have hl:=r.length;refine Fe (EL pl.isList ù.isList (by simp at hl ⊢;intro z;subst z;simp at hl) hu) ?_;exact⟨.bl false,H,I,rfl,k⟩
omit hK
end
end L2
variable {p1:Ck}
namespace L2
open PySem PySem.Spec PyProof.Rows
theorem Vals.tj:∀{xs:List V}{us:List bn},Vals xs us->Vals xs.reverse us.reverse
 | _,_,.nil=>.nil
 | _,_,.cons h t=>by rw [C4,C4];exact (Vals.tj t).append (.cons h .nil)
def Y3:FM (.type "list_reverseiterator") (BB "__len__")=pure bm:=by kernel_rfl
def UP:FM (.type "list_reverseiterator") (BB "__length_hint__")=pure (ap (.builtin "list_reverseiterator.__length_hint__")):=by kernel_rfl
def Tj:splitId "list_reverseiterator.__length_hint__"=ap ("list_reverseiterator","__length_hint__"):=by kernel_rfl
def Td:isSubtype (.type "list_reverseiterator") (.type "list_reverseiterator")=pure true:=by kernel_rfl
def Ri {r:ce}{Q:Bool->cr->Prop} (h:s.heap.IsRevIter r l i) (q:Q false s):db (dL prog w) A (Builtin.List.listLengthHint (AB r)) Q E s:=by
 refine Aa (Ff h.typeIs Y3 ?_);refine Aa (Ff h.typeIs UP ?_);dsimp only;rw [Tj];dsimp only;refine Aa (Dc h.typeIs Td ?_);rw [if_neg ⋯];exact Ad q
def ve {r S:ce} (hA:A.handled=bm) (h:s.heap.IsRevIter r l (items.size-1)) (hl:s.heap.IsList l items) (Rg:l≠r) (ŋ:S≠r) (hSl:S≠l) (hz:items.size<=sizeLine)
  (hS:s.heap.get? S=ap {cls:=B8 "list",data:=Fs #[]})
  (q:∀(h':mo) (tk:Nat) (Ä:Array bn) (c:Nat),(∀b o,b≠S->b≠r->s.heap.get? b=ap o->h'.get? b=ap o)->h'.get? S=ap {cls:=B8 "list",data:=Fs Ä c}->ItemsOf (λi v=>items[items.size-1-i]?=ap v) Ä items.size->R (.ok (.ret .none)) {s with heap:=h',toks:=tk}) :
  db (dL prog w) A.in1 (ut.«list.__init__» {pos:=[AB S,AB r]})
   (λfin s'=>match fin with | Fq f=>R (Except.ok f) s' | Fin.again c'=>c'.quiet=true/\Ev (dL prog w) A c' R s') (λe s'=>R (Except.error e) s') s:=by
 unfold ut.«list.__init__»;refine Aa (wpAny_listItems hS rfl ?_);refine Aa ?_;refine CU hS rfl ?_ (by simp) (by simp);refine Aa (CN ?_);have k1:∀b o,b≠S->s.heap.get? b=ap o->(s.heap.update S (Br λ_=>#[])).get? b=ap o:=λb o hb e=>by rw [BW _ _ (BP hb)];exact e
 have hS1:=BJ (Br λ_=>#[]) hS rfl;generalize s.heap.update S (Br λ_=>#[])=h1 at k1 hS1 ⊢;have Ġ:h1.IsRevIter r l (items.size-1):=let ⟨o,e,p⟩:=h;⟨o,k1 _ _ (BP ŋ) e,p⟩;have Ł:h1.IsList l items:=let ⟨o,e,p⟩:=hl;⟨o,k1 _ _ (BP hSl) e,p⟩;unfold Builtin.List.listExtendWith;refine Aa (CO (T:="list_reverseiterator") Ġ.typeIs ?_);rw [if_neg (by
  have e1:Builtin.List.listSameRef (AB S) (AB r)=false:=by
   unfold Builtin.List.listSameRef;simpa using ŋ
  rw [e1];decide)]
 refine Aa (wpAny_pyIter_revIter Ġ ?_);refine Aa (Bd (Ri Ġ ?_));rw [if_neg ⋯];refine Ad ⟨ww F.plain_extend_loop _,?_⟩;refine codeAny_extend_loopS (Walks.toS (Walks.listRev (A:=A.in1) hA r l Rg items)) hz S (by simp [ŋ,hSl]) .none items.size 0 _ #[] _ (FU _) (Bc _) ⟨Bc _,by simpa using Ġ,Ł⟩ hS1 (ItemsOf.nil _) ?_;intro s' Ä c mv e io;rw [mv.eq_with];exact q s'.heap s'.toks Ä c (λb o n1 n2 e'=>mv.heap b o (by simp [n1,n2]) (k1 b o n1 e')) e io
def vC {r:ce} (hA:A.handled=bm) (h:s.heap.IsRevIter r l (items.size-1)) (hl:s.heap.IsList l items) (Rg:l≠r) (hz:items.size<=sizeLine)
  (q:∀(h':mo) (tk:Nat) (Ä:Array bn) (c:Nat),(∀b o,b≠r->s.heap.get? b=ap o->h'.get? b=ap o)->h'.get? s.heap.objs.size=ap {cls:=B8 "list",data:=Fs Ä c}->ItemsOf (λi v=>items[items.size-1-i]?=ap v) Ä items.size->Q (.ref s.heap.objs.size) {s with heap:=h',toks:=tk}) :
  db (dL prog w) A (call (B8 "list") [AB r]) Q E s:=by
 have lr:=let ⟨_,e,_⟩:=h;Au e;have ll:=let ⟨_,e,_⟩:=hl;Au e;refine callType_codes F.called_list (F.typeCall_list_1 _) F.entry_list_init (code_list_new (Q₁:=λv s₁=>v=.ref s.heap.objs.size/\s₁={s with heap:=s.heap.push {cls:=B8 "list",data:=Fs #[]}}) _ ⟨rfl,rfl⟩) ?_;rintro obj s₁ ⟨rfl,rfl⟩;refine⟨⟨_,Ao _ rfl,rfl⟩,F.args_list_init_2 _ _,?_⟩;have kp:∀b o,s.heap.get? b=ap o->(s.heap.push {cls:=B8 "list",data:=Fs #[]}).get? b=ap o:=λb o e=>Ag _ e;refine ve (A:=A.in1) (items:=items) (l:=l) hA (let ⟨o,e,p⟩:=h;⟨o,kp _ _ e,p⟩) (let ⟨o,e,p⟩:=hl;⟨o,kp _ _ e,p⟩) Rg (λz=>by rw [z] at lr;exact A2 _ lr) (λz=>by rw [z] at ll;exact A2 _ ll) hz (Ao _ rfl) ?_;intro h' tk Ä c k e io;exact⟨rfl,q h' tk Ä c (λb o n e'=>k b o (λz=>by rw [z] at e';exact A2 _ (Au e')) n (kp b o e')) e io⟩
def tLR (K:Ab) (te:TE):TE:=λσ H Q=>te σ H λx H1=>∃p ys,x=.ref p/\de K H1 p ys/\kJ H1 (.lst ys.reverse) Q
section
variable (K:Ab) (hK:X.K=K) {q1 q2:Pos}
include hK
theorem I0 (hc:X.calm=true) (Ņ:Gl X "list") (ŀ:X.mg "list"=bm) (ń:Gl X "reversed") (è:X.mg "reversed"=bm) (he:PE X e te)
  (Io:f8 [.Call (.Name "reversed" q1) [e] [] q2] X.env=(false,im (.Call (.Name "reversed" q1) [e] [] q2) X.env)::f8 [] X.env:=by rfl) (qx:gM X e []:=by rfl) :
  PE X (.Call (.Name "list" p1) [.Call (.Name "reversed" q1) [e] [] q2] [] p2) (tLR K te):=by
 intro Z s σ H Q I h;subst hK;refine Bz (hV I Ņ ŀ boot_list ?_ ⋯ ⋯);refine Bb ?_ Io rfl;refine B9 ?_;refine Bz (hV I ń è boot_reversed ?_ ⋯ ⋯);refine Bb ?_ qx rfl;rw [qx];refine B9 (cq (he Z s σ H _ I h) λu s1 ⟨x,H1,I1,r1,pa,ys,ex,hS,q⟩=>Cu ?_);subst ex;cases r1;obtain⟨au,rv,pl,hz⟩:=I1.list hS;have Á:=rv.length;have lp:=let ⟨_,e,_⟩:=pl.isList;Au e;refine call_reversed_list pl.isList ?_;refine Cu ?_;have kp:∀b o,s1.heap.get? b=ap o->(s1.heap.push (revObj pa (au.toArray.size-1))).get? b=ap o:=λb o e=>Ag _ e;refine vC (items:=au.toArray) (l:=pa) (r:=s1.heap.objs.size) (I1.ok.hd hc) ⟨_,Ao _ rfl,rfl,rfl⟩ (let ⟨o,e,p⟩:=pl.isList;⟨o,kp _ _ e,p⟩) (λz=>by rw [z] at lp;exact A2 _ lp) (by rw [Ai];omega) ?_;intro h' tk Ä c k e io;have kk:∀b o,s1.heap.get? b=ap o->h'.get? b=ap o:=λb o eb=>k b o (λz=>by rw [z] at eb;exact A2 _ (Au eb)) (kp b o eb);have ea:Ä=au.reverse.toArray:=by
  obtain⟨z1,z2⟩:=io;apply Array.ext
  ·rw [z1,Ai,Ai,Cj]
  ·intro j h1 h2;have:=z2 j Ä[j] (Bq h1);rw [Ai] at this;have hj:j < au.length:=by rw [z1,Ai] at h1;exact h1
   rw [Fm] at this;have e3:au.reverse[j]?=ap Ä[j]:=by rw [List.getElem?_reverse hj];exact this
   rw [D3];exact (Option.some.inj (((Ae (by rw [Cj];exact hj)).symm.trans e3))).symm
 subst ea;have qx:s1.heap.objs.size<=(s1.heap.push (revObj pa (au.toArray.size-1))).objs.size:=by simp [Heap.push]
 refine⟨.ref _,upd H1 _ (.lst ys.reverse),I1.laid (t':=tk) kk qx ?_,rfl,q.at _ (I1.bC.fresh qx)⟩;exact⟨by rw [Cj];exact hz,au.reverse,c,rv.tj,e⟩
end
end L2
namespace My
open PySem PySem.Spec PyProof.Rows L2
def Wd (x:Str):Prop:=1<=x.length/\x.length<=8/\∀c∈x.cps.toList,97<=c/\c < 123
def Part (x:Str) (n:Nat):Prop:=x.length<=n/\∀c∈x.cps.toList,97<=c/\c < 123
theorem vf {d st:Int} (h:st=1\/st=3\/st=5\/st=7\/st=9\/st=11) (hn:n<=26):((Aw n).map λk:Nat=>ap (97+((d+st*(0+(k:Int))) % 26).toNat)).Nodup:=by
 unfold List.Nodup;rw [EK];refine List.Pairwise.imp_of_mem ?_ Dy;intro a b ha hb nA hz;have ĥ:=AX.mp hb;have NF:=Option.some.inj hz;rcases h with rfl | rfl | rfl | rfl | rfl | rfl <;> omega
def xK {g:α->β}{l:List α} (h:(l.map g).Nodup):l.Nodup:=(EK.mp h).imp λh e=>h (congrArg g e)
def Jt:∀k:_root_.Fin 26,cF ("abcdefghijklmnopqrstuvwxyz":Str).cps.toList (k.val:Int)=ap (97+k.val):=by decide +kernel
theorem Nm {n:Int} (h0:0<=n) (h1:n < 26):cF ("abcdefghijklmnopqrstuvwxyz":Str).cps.toList n=ap (97+n.toNat):=by
 have e:=Jt ⟨n.toNat,by omega⟩;have e2:((n.toNat:Nat):Int)=n:=by omega
 rw [e2] at e;exact e
inductive Tr where
 | leaf (x:Str)
 | node (l r:Tr)
def Tr.ay:Tr->List Str
 | .leaf x=>[x]
 | .node l r=>l.ay++r.ay
def Tr.size:Tr->Nat
 | .leaf _=>1
 | .node l r=>l.size+r.size+1
def Tr.depth:Tr->Nat
 | .leaf _=>0
 | .node l r=>max l.depth r.depth+1
def Tr.Ws (t:Tr):Prop:=∀x∈t.ay,Wd x
theorem Tr.jV:∀t:Tr,1<=t.ay.length
 | .leaf _=>Am _
 | .node l r=>by have:=l.jV;show 1<=(l.ay++r.ay).length;rw [Ah];omega
theorem Tr.lH:∀t:Tr,t.depth < t.ay.length
 | .leaf _=>EX 0
 | .node l r=>by
  have h1:=l.lH;have h2:=r.lH;have h3:=l.jV;have h4:=r.jV;show max l.depth r.depth+1 < (l.ay++r.ay).length;rw [Ah];omega
theorem Tr.size_eq:∀t:Tr,t.size+1=2*t.ay.length
 | .leaf _=>rfl
 | .node l r=>by
  have h1:=l.size_eq;have h2:=r.size_eq;show l.size+r.size+1+1=2*(l.ay++r.ay).length;rw [Ah];omega
def fi (ts:List Tr):Nat:=(ts.map Tr.size).sum
def gA (a b:List Tr):fi (a++b)=fi a+fi b:=by unfold fi;rw [Az,List.sum_append]
def pW (t:Tr):fi [t]=t.size:=by simp [fi]
theorem Tr.size_pos:∀t:Tr,1<=t.size
 | .leaf _=>Am _
 | .node l r=>by show 1<=l.size+r.size+1;omega
theorem vW:∀ts:List Tr,ts.length<=fi ts
 | []=>Am _
 | t::r=>by have:=vW r;have:=t.size_pos;show r.length+1<=t.size+fi r;omega
def Tr.post:Tr->List Tr
 | .leaf x=>[.leaf x]
 | .node l r=>l.post++r.post++[.node l r]
def Tr.kW:∀t:Tr,t.post.length=t.size
 | .leaf _=>rfl
 | .node l r=>by show (l.post++r.post++[_]).length=l.size+r.size+1;rw [Ah,Ah,l.kW,r.kW];rfl
def jr (ts:List Tr):List Tr:=(ts.map Tr.post).flatten
def jP (a b:List Tr):jr (a++b)=jr a++jr b:=by unfold jr;rw [Az,List.flatten_append]
def qc (t:Tr):jr [t]=t.post:=by simp [jr]
def MY (t u:Tr):jr [t,u]=t.post++u.post:=by simp [jr]
inductive Ent where
 | word (x:Str)
 | pair (a b:Nat)
def Tr.nd:Tr->Nat->List Ent
 | .leaf x,_=>[.word x]
 | .node l r,o=>l.nd o++r.nd (o+l.size)++[.pair (o+l.size-1) (o+l.size+r.size-1)]
def Tr.bo:∀(t:Tr) (o:Nat),(t.nd o).length=t.size
 | .leaf _,_=>rfl
 | .node l r,o=>by show (l.nd o++r.nd (o+l.size)++[_]).length=l.size+r.size+1;rw [Ah,Ah,l.bo,r.bo];rfl
def run:List Tr->List Ent->List Nat->Option (List Ent×List Nat)
 | [],À,ls=>ap (À,ls)
 | .leaf x::k,À,ls=>run k (À++[.word x]) (À.length::ls)
 | .node _ _::k,À,b::a::ls=>run k (À++[.pair a b]) (À.length::ls)
 | .node _ _::_,_,_=>bm
theorem sZ:∀(t:Tr) (k:List Tr) (À:List Ent) (ls:List Nat),run (t.post++k) À ls=run k (À++t.nd À.length) ((À.length+t.size-1)::ls)
 | .leaf x,k,À,ls=>rfl
 | .node l r,k,À,ls=>by
  have e1:(Tr.node l r).post++k=l.post++(r.post++(Tr.node l r::k)):=by show l.post++r.post++[_]++k=_;simp
  rw [e1,sZ l,sZ r];have e2:(À++l.nd À.length).length=À.length+l.size:=by rw [Ah,l.bo]
  rw [e2];show run k _ _=run k _ _;have e3:(À++l.nd À.length++r.nd (À.length+l.size)).length=À.length+(Tr.node l r).size-1:=by
   rw [Ah,Ah,l.bo,r.bo];show _=À.length+(l.size+r.size+1)-1;omega
  rw [e3];have e4:À++(Tr.node l r).nd À.length=À++l.nd À.length++r.nd (À.length+l.size)++[.pair (À.length+l.size-1) (À.length+l.size+r.size-1)]:=by
   show À++(l.nd À.length++r.nd (À.length+l.size)++[_])=_;simp
  rw [e4]
def MV (t:Tr):run t.post [] []=ap (t.nd 0,[t.size-1]):=by
 have:=sZ t [] [] [];rw [Cs] at this;rw [this];show ap ([]++t.nd 0,[0+t.size-1])=_;simp
end My
variable {xs:List L2.V}{x:A3}{σ:L2.St}{i:Nat}
namespace L2
open PySem PySem.Spec PyProof.Rows
def iG {t:ce} (h:s.heap.IsTupleIter it t i) (ht:s.heap.IsTuple t items) (hx:items[i]?=ap x)
  (q:∀h':mo,h'.IsTupleIter it t (i+1)->BN it s.heap h'->Q x {s with heap:=h'}):db (dL prog w) A (Builtin.SmallTypes.nextOf (.ref it)) Q E s:=by
 unfold Builtin.SmallTypes.nextOf;refine Aa (AN h.typeIs Co (A1 Co h.typeIs Ed ?_ (D5 _)));obtain⟨o,ho,hc,hd⟩:=id h;obtain⟨ot,ľ,htc,n,Ĺ⟩:=id ht;show db _ _ (field (.ref it) 0 >>= λseq=>_) _ _ s;refine Aa (AZ ho hd rfl ?_);refine Aa (AZ ho hd rfl ?_);refine Aa (Bx ľ Ĺ ?_);show db _ _ (match items[i]? with | some x=>(do wn (.ref it) 1 (ss ((i:Int)+1));ret x) | none=>_) _ _ s;rw [hx];refine Aa (C6 ho hd (show 1 < 2 by decide) ?_);refine Ad ⟨x,rfl,Ad (q _ ⟨_,BJ _ ho (by rw [DE (Cn hd _)]),by rw [EG];exact hc,by rw [Cn hd];rfl⟩ (BN.update ..))⟩
def Tf {Q:α->cr->Prop} (hA:A.handled=bm)
  (q:∀(h':mo) (e:ce),(∀b o,s.heap.get? b=ap o->h'.get? b=ap o)->(∃o,h'.get? e=ap o/\o.cls=.type "StopIteration")->E (.ref e) {s with heap:=h'}):db (dL prog w) A (Builtin.SmallTypes.stopIteration (α:=α)) Q E s:=by
 refine Aa ?_;refine Aa (C8 ?_ (by show 0<=sizeLine;decide));refine Aa (Cv (a:=AL) rfl ?_);refine AE ?_ (sizeOk_excFields ..);unfold raiseNew;refine Aa (FK ?_);rw [hA];refine wpAny_throw (q _ _ (λb o e=>Ag _ (Ag _ e)) ⟨_,Ao _ rfl,rfl⟩)
def ju {t:ce} (hA:A.handled=bm) (h:s.heap.IsTupleIter it t i) (ht:s.heap.IsTuple t items) (hx:items[i]?=bm)
  (q:∀(h':mo) (e:ce),EH it s.heap h'->(∃o,h'.get? e=ap o/\o.cls=.type "StopIteration")->E (.ref e) {s with heap:=h'}):db (dL prog w) A (Builtin.SmallTypes.nextOf (.ref it)) Q E s:=by
 unfold Builtin.SmallTypes.nextOf;refine Aa (AN h.typeIs Co (A1 Co h.typeIs Ed ?_ (D5 _)));obtain⟨o,ho,hc,hd⟩:=id h;obtain⟨ot,ľ,htc,n,Ĺ⟩:=id ht;show db _ _ (field (.ref it) 0 >>= λseq=>_) _ _ s;refine Aa (AZ ho hd rfl ?_);refine Aa (AZ ho hd rfl ?_);refine Aa (Bx ľ Ĺ ?_);show db _ _ (match items[i]? with | some x=>(do wn (.ref it) 1 (ss ((i:Int)+1));ret x) | none=>(do rule _;wn (.ref it) 0 .none;Builtin.SmallTypes.stopIteration)) _ _ s;rw [hx];refine Aa (C7 ?_);refine Aa (C6 ho hd (show 0 < 2 by decide) ?_);refine Tf (A:=A.in1) hA λh' e k ex=>q h' e (λb o n eb=>k b o ?_) ex;rw [(BN.update _ _ _).2 b n];exact eb
def Inv.sR {t':Nat}{a:ce} (I:Inv X Z σ H s) (hf:∀b∈ch,vH X Z H b) (k:∀b u,b∉ch->s.heap.get? b=ap u->h'.get? b=ap u)
  (hp:s.heap.objs.size<=a) (new:ba X.prog X.w (upd H a o) h' a o):Inv X Z σ (upd H a o) {s with heap:=h',toks:=t'}:=by
 have hn:=I.bC.fresh hp;have WC:∀b u,H b=ap u->b∉ch:=λb u e z=>by rw [(hf b z).1] at e;cases e
 have nL:X.env.locals∉ch:=λz=>(hf _ z).2.1 rfl;refine I.step (g':=s.gens) (d':=s.drawn) (ch:=ch) (λb hb=>⟨(hf b hb).2.2.2.1,(hf b hb).2.1,(hf b hb).2.2.2.2.1,(hf b hb).2.2.2.2.2⟩) (λb u _ _ hc e _=>k b u hc e) (λb u _ _ hc e _=>⟨u.slots,k b u hc e⟩)
  (λb u _ e n=>by rw [ax (AG (AM (Au e) hp))];exact n) (λb u hc e=>⟨u,k b u hc e⟩) (λb xs e=>by rw [ax (bG e hn)];exact e) (λb u xs e=>by rw [ax (bG e hn)];exact e)
  (λb ps e=>⟨#[],by rw [ax (bG e hn),e];simp⟩) (λm hm=>?_) (λb u e=>?_) I.bare
 ·obtain⟨o',es,ep,ho,r⟩:=hm;exact⟨o',es,ep,k _ o' nL ho,r⟩
 ·by_cases hb:b=a
  ·subst hb;rw [aU] at e;cases e;exact new
  ·rw [ax hb] at e;refine (I.bC b u e).xn (λc v hc q=>k c v ?_ q) (λc q=>by rw [ax (bG q hn)];exact q) λc xs q=>by rw [ax (bG q hn)];exact q
   rcases hc with z | z
   ·rw [z];exact WC b u e
   ·exact WC c _ z
def Inv.xc {t':Nat} (I:Inv X Z σ H s) (hf:∀b∈ch,vH X Z H b) (k:∀b u,b∉ch->s.heap.get? b=ap u->h'.get? b=ap u) :
  Inv X Z σ H {s with heap:=h',toks:=t'}:=by
 have WC:∀b u,H b=ap u->b∉ch:=λb u e z=>by rw [(hf b z).1] at e;cases e
 have nL:X.env.locals∉ch:=λz=>(hf _ z).2.1 rfl;refine I.step (g':=s.gens) (d':=s.drawn) (ch:=ch) (λb hb=>⟨(hf b hb).2.2.2.1,(hf b hb).2.1,(hf b hb).2.2.2.2.1,(hf b hb).2.2.2.2.2⟩) (λb u _ _ hc e _=>k b u hc e) (λb u _ _ hc e _=>⟨u.slots,k b u hc e⟩)
  (λ_ _ _ _ n=>n) (λb u hc e=>⟨u,k b u hc e⟩) (λ_ _ e=>e) (λ_ _ _ e=>e) (λb ps e=>⟨#[],by rw [e];simp⟩) (λm hm=>?_) (λb u e=>?_) I.bare
 ·obtain⟨o',es,ep,ho,r⟩:=hm;exact⟨o',es,ep,k _ o' nL ho,r⟩
 ·refine (I.bC b u e).xn (λc v hc q=>k c v ?_ q) (λ_ q=>q) λ_ _ q=>q;rcases hc with z | z
  ·rw [z];exact WC b u e
  ·exact WC c _ z
def n8 (h:Vals xs us):∀{i:Nat}{x:V},xs[i]?=ap x->∃u,us[i]?=ap u/\RelV x u:=by
 induction h with
 | nil=>intro i x e;simp at e
 | cons r t ih=>
  intro i x e;cases i with
  | zero=>simp at e;subst e;exact⟨_,rfl,r⟩
  | succ i=>exact ih (by simpa using e)
end L2
variable {e:BG}{Ì:A3}{Ð:List BX}
namespace L2
open PySem PySem.Spec PyProof.Rows
def rF {E:bn->cr->Prop}{t:ce} (Ox:e≠it) (Ğ:t≠e) (Vi:t≠it)
  (hz:IsEnum s.heap e it i Ì) (hi:s.heap.IsTupleIter it t i) (ht:s.heap.IsTuple t items) (hx:items[i]?=ap x)
  (q:∀(h':mo) (tk:Nat),IsEnumOut h' e it (i+1:Nat) x s.heap.objs.size->h'.IsTupleIter it t (i+1)->IsPair h' s.heap.objs.size (.int i s.toks) x->(∀c o,c≠e->c≠it->s.heap.get? c=ap o->h'.get? c=ap o)->Q (.ref s.heap.objs.size) {s with heap:=h',toks:=tk}) :
  db (dL prog w) A (ut.«enumerate.__next__» {pos:=[.ref e]}) (λfin s'=>∃v,fin=Fq (F5 v)/\Q v s') E s:=by
 show db _ _ (field (.ref e) 2 >>= λr=>_) _ _ s;refine Aa (AZ hz rfl rfl ?_);refine Aa (iG hi ht hx λh1 j1 b1=>?_);have z1:=(b1.2 _ Ox).trans hz;refine Aa (AZ z1 rfl rfl ?_);refine Aa (AZ z1 rfl rfl ?_);refine Aa (wpAny_mkInt ?_);refine Aa (A7 z1 (show 3 < 6 by decide) λh2 z2 b2=>?_);refine Aa (A7 z2 (show 4 < 6 by decide) λh3 z3 b3=>?_);have sz3:=b3.1.trans (b2.1.trans b1.1);have Ï:∀b,b≠e->b≠it->h3.get? b=s.heap.get? b:=λb n1 n2=>(b3.2 b n1).trans ((b2.2 b n1).trans (b1.2 b n2));refine Aa (C8 ?_ (by show 2<=sizeLine;decide));have kp:∀b o,h3.get? b=ap o->(h3.push {cls:=.type "tuple",data:=.seq [Eg i s.toks,x].toArray}).get? b=ap o:=λb o e=>Ag _ e;have YU:(h3.push {cls:=.type "tuple",data:=.seq [Eg i s.toks,x].toArray}).get? h3.objs.size=ap {cls:=.type "tuple",data:=.seq #[.int i s.toks,x]}:=Ao _ rfl;generalize h3.push {cls:=.type "tuple",data:=.seq [Eg i s.toks,x].toArray}=h4 at kp YU ⊢;have z4:h4.get? e=ap {cls:=.type "enumerate",data:=.fields #[.none,.bool false,.ref it,ss (i+1),.none,Ì]}:=kp _ _ z3;refine Aa ?_;refine Aa (AZ z4 rfl rfl ?_);refine Ad ?_;refine Aa (C7 ?_);refine Aa (AZ z4 rfl rfl ?_);refine Aa (A7 z4 (show 5 < 6 by decide) λh5 z5 b5=>?_);refine Aa ?_;refine Aa (A7 z5 (show 0 < 6 by decide) λh6 z6 b6=>?_);refine A7 z6 (show 1 < 6 by decide) λh7 z7 b7=>?_;refine Aa (CN ?_);have ZJ:∀b,b≠e->h7.get? b=h4.get? b:=λb n=>(b7.2 b n).trans ((b6.2 b n).trans (b5.2 b n));have ne:s.heap.objs.size≠e:=λz=>by have:=Au hz;rw [<- z] at this;exact A2 _ this
 refine Ad ⟨.ref h3.objs.size,rfl,?_⟩;rw [sz3] at z7 YU ⊢;refine q h7 _ ?_ ?_ ?_ ?_
 ·exact z7
 ·obtain⟨o,eo,p⟩:=j1;refine⟨o,?_,p⟩;rw [ZJ _ (BP Ox)];exact kp _ _ ((b3.2 _ (BP Ox)).trans ((b2.2 _ (BP Ox)).trans eo))
 ·rw [IsPair,ZJ _ ne];exact YU
 ·intro c o n1 n2 ec;rw [ZJ _ n1];exact kp _ _ ((Ï _ n1 n2).trans ec)
def ur {t:ce}{Q:PySem.Fin->cr->Prop} (hA:A.handled=bm)
  (hz:IsEnum s.heap e it i Ì) (hi:s.heap.IsTupleIter it t i) (ht:s.heap.IsTuple t items) (hx:items[i]?=bm)
  (q:∀(h':mo) (x:ce),(∀c o,c≠it->s.heap.get? c=ap o->h'.get? c=ap o)->(∃o,h'.get? x=ap o/\o.cls=.type "StopIteration")->E (.ref x) {s with heap:=h'}) :
  db (dL prog w) A (ut.«enumerate.__next__» {pos:=[.ref e]}) Q E s:=by
 show db _ _ (field (.ref e) 2 >>= λr=>_) _ _ s;refine Aa (AZ hz rfl rfl ?_);exact Aa (ju hA hi ht hx λh' x k ex=>q h' x (λc o n e'=>k c o n e') ex)
def oB {t:ce}{Q:Option bn->cr->Prop} (Ox:e≠it) (Ğ:t≠e) (Vi:t≠it)
  (hz:IsEnum s.heap e it i Ì) (hi:s.heap.IsTupleIter it t i) (ht:s.heap.IsTuple t items) (hx:items[i]?=ap x)
  (q:∀(h':mo) (tk:Nat),IsEnumOut h' e it (i+1:Nat) x s.heap.objs.size->h'.IsTupleIter it t (i+1)->IsPair h' s.heap.objs.size (.int i s.toks) x->(∀c o,c≠e->c≠it->s.heap.get? c=ap o->h'.get? c=ap o)->Q (ap (.ref s.heap.objs.size)) {s with heap:=h',toks:=tk}) :
  db (dL prog w) A (FS (.ref e)) Q E s:=by
 have ty:s.TypeIs (.ref e) "enumerate":=⟨_,hz,rfl⟩;refine Aa (CC (AN ty CZ (A1 CZ ty E3 ?_ (EW _))));exact rF Ox Ğ Vi hz hi ht hx λh' tk a b c d=>Ad (q h' tk a b c d)
def qa {t:ce}{Q:Option bn->cr->Prop} (hA:A.handled=bm)
  (hz:IsEnum s.heap e it i Ì) (hi:s.heap.IsTupleIter it t i) (ht:s.heap.IsTuple t items) (hx:items[i]?=bm)
  (q:∀h':mo,(∀c o,c≠it->s.heap.get? c=ap o->h'.get? c=ap o)->Q bm {s with heap:=h'}) :
  db (dL prog w) A (FS (.ref e)) Q E s:=by
 have ty:s.TypeIs (.ref e) "enumerate":=⟨_,hz,rfl⟩;refine Aa (CC (AN ty CZ (A1 CZ ty E3 ?_ (EW _))));refine ur (A:=A.in1) hA hz hi ht hx λh' x k ex=>?_;obtain⟨o,eo,hc⟩:=ex;refine Aa (Dc (T:="StopIteration") ⟨o,eo,hc⟩ isSubtype_stop ?_);exact Ad (q h' k)
def rh (t:ce) (items:Array bn):Meets (ut.«enumerate.__new__» {pos:=[.type "enumerate",.ref t]}) (λ_ R s=>s.heap.IsTuple t items/\
  ∀h':mo,IsEnum h' (s.heap.objs.size+1) s.heap.objs.size (0:Nat) .none->h'.IsTupleIter s.heap.objs.size t 0->(∀b o,s.heap.get? b=ap o->h'.get? b=ap o)->R (.ok (.ret (.ref (s.heap.objs.size+1)))) {s with heap:=h'}):=
 .of_wp λprog w A R s h=>by
  obtain⟨h1,q⟩:=h;refine Aa ?_;refine Aa (Cv (a:=true) rfl ?_);refine Aa (Cv sub_enumerate ?_);refine Ad ?_;refine Aa ?_;refine Aa (wpAny_stack_any λst=>Ad ?_);have fin:db (dL prog w) A.in1 (pyIter (.ref t) >>= λit=>(Builtin.SmallTypes.newRecord (.type "enumerate") (Builtin.SmallTypes.ownedTupleFields++[it,ss 0,.none,.none]) >>= λr=>ret r)) (λfin s'=>∃v,fin=Fq (F5 v)/\R (Except.ok (F5 v)) s') (λe s'=>R (Except.error e) s') s:=by
   refine Aa (Eo h1 ?_);have k1:∀b o,s.heap.get? b=ap o->(s.heap.push {cls:=.type "tuple_iterator",data:=.fields #[.ref t,.int 0 0]}).get? b=ap o:=λb o e=>Ag _ e;have g1:(s.heap.push {cls:=.type "tuple_iterator",data:=.fields #[.ref t,.int 0 0]}).get? s.heap.objs.size=ap {cls:=.type "tuple_iterator",data:=.fields #[.ref t,.int 0 0]}:=Ao _ rfl;have z1:(s.heap.push {cls:=.type "tuple_iterator",data:=.fields #[.ref t,.int 0 0]}).objs.size=s.heap.objs.size+1:=CG ..;generalize s.heap.push {cls:=.type "tuple_iterator",data:=.fields #[.ref t,.int 0 0]}=yq at k1 g1 z1 ⊢;show db _ _ (newObj (.type "enumerate") (.fields #[.none,.bool false,.ref s.heap.objs.size,ss 0,.none,.none]) >>= λr=>ret r) _ _ _;refine Aa (AE ?_ (by simp [sizeOk];decide));have g2:(yq.push {cls:=.type "enumerate",data:=.fields #[.none,.bool false,.ref s.heap.objs.size,ss 0,.none,.none]}).get? yq.objs.size=ap {cls:=.type "enumerate",data:=.fields #[.none,.bool false,.ref s.heap.objs.size,ss 0,.none,.none]}:=Ao _ rfl;refine Ad ⟨.ref yq.objs.size,rfl,?_⟩;rw [z1] at g2 ⊢;exact q _ g2 ⟨_,Ag _ g1,rfl,rfl⟩ λb o e=>Ag _ (k1 _ _ e)
  refine wpAny_ite_split (λ_=>?_) (λ_=>?_)
  ·exact Aa (Cv (a:=(AB t,bm)) rfl fin)
  ·exact Aa (Cv (a:=(AB t,bm)) rfl fin)
def Kw {t:ce} (h1:s.heap.IsTuple t items)
  (q:∀h':mo,IsEnum h' (s.heap.objs.size+1) s.heap.objs.size (0:Nat) .none->h'.IsTupleIter s.heap.objs.size t 0->(∀b o,s.heap.get? b=ap o->h'.get? b=ap o)->Q (.ref (s.heap.objs.size+1)) {s with heap:=h'}) :
  db (dL prog w) A (call (.type "enumerate") [.ref t]) Q E s:=
 callType_new F.called_enumerate ⋯ (F.typeCall_enumerate_1 _) (F.newCall_enumerate_1 _) (λo=>F.args_object_init_2 o _) F.entry_enumerate_new (rh t items) ⟨h1,λh' z i k=>⟨⟨_,z,rfl⟩,q h' z i k⟩⟩
def Ite (K:Ab) (a:ce):It where
 go:=λi H=>∃xs x,dR K H a xs/\xs[i]?=ap x
 Wi:=λi H v H'=>∃p x,v=.ref p/\H p=bm/\H'=upd H p (.tup [.int i,x])/\∀xs,dR K H a xs->xs[i]?=ap x
 stop:=λi H=>∃xs,dR K H a xs/\xs.length<=i
theorem Mv {K:Ab}{kk:Nat}{t:ce} (Ox:e≠it) (Ğ:t≠e) (Vi:t≠it):Turn P w K (.Tuple Ð kk pos) (Ite K t) [e,it] e (λi h=>(∃Ì,IsEnum h e it (i:Nat) Ì)/\h.IsTupleIter it t i) where
 mem:=by simp
 obj:=λi h st b hb=>by
  simp only [AD,BD,or_false] at hb;rcases hb with rfl | rfl
  ·obtain⟨⟨_,e⟩,_⟩:=st;exact⟨_,e,λv z=>by cases z⟩
  ·obtain⟨_,⟨o,e,_,d⟩⟩:=st;exact⟨o,e,λv z=>by rw [d] at z;cases z⟩
 keep:=λi h h' st k=>⟨let ⟨o,e'⟩:=st.1;⟨o,k e (by simp) _ e'⟩,let ⟨o,e',p⟩:=st.2;⟨o,k it (by simp) _ e',p⟩⟩
 item:=by
  intro X hP hw hK hc i Z s σ H E I hf st hg;subst hP hw hK;obtain⟨xs,x,hx,gx⟩:=hg;obtain⟨au,rx,tx,_⟩:=I.tuple hx;obtain⟨u,gu,ru⟩:=n8 rx gx;obtain⟨⟨Ì,hz⟩,hi⟩:=st;refine oB Ox Ğ Vi hz hi tx (by simpa using gu) λh' tk zo j np k=>?_;refine⟨_,rfl,?_⟩;refine Ep zo λh2 z2 b2=>?_;have le:=Au hz;have li:=let ⟨_,e',_⟩:=hi;Au e';have lt:∀b∈[e,it],b < s.heap.objs.size:=λb hb=>by
   simp only [AD,BD,or_false] at hb;rcases hb with rfl | rfl
   ·exact le
   ·exact li
  have nz:s.heap.objs.size≠e:=λz=>A2 _ (by have:=le;rw [<- z] at this;exact this);have Ā:∀b o,b∉[e,it]->s.heap.get? b=ap o->h2.get? b=ap o:=λb o hb e'=>by
   have NF:b≠e:=λq=>hb (by simp [q]);rw [b2.2 b NF];exact k b o NF (λq=>hb (by simp [q])) e'
  have ü:h2.get? s.heap.objs.size=ap {cls:=.type "tuple",data:=.seq #[.int i s.toks,u]}:=(b2.2 _ nz).trans np;have ą:=I.bC.fresh (Am s.heap.objs.size);refine⟨.ref s.heap.objs.size,upd H s.heap.objs.size (.tup [.int i,x]),I.sR (t':=tk) hf Ā (Am _) ⟨by show 2<=sizeLine;decide,[.int i s.toks,u],.cons ⟨_,rfl⟩ (.cons ru .nil),⟨_,ü,rfl,_,rfl⟩⟩,rfl,⟨_,x,rfl,ą,rfl,λxs' h'=>by rw [I.lU h' hx];exact gx⟩,⟨⟨_,z2⟩,let ⟨o,e',p⟩:=j;⟨o,(b2.2 _ (BP Ox)).trans e',p⟩⟩,λb hb=>?_⟩;rw [ax (AG (lt b hb))];exact (hf b hb).1
 done:=by
  intro X hP hw hK hc i Z s σ H E I hf st hg;subst hP hw hK;obtain⟨xs,hx,hl⟩:=hg;obtain⟨au,rx,tx,_⟩:=I.tuple hx;have el:=rx.length;obtain⟨⟨Ì,hz⟩,hi⟩:=st;refine qa (I.ok.hd hc) hz hi tx (by simp;omega) λh' k=>⟨rfl,I.xc (t':=s.toks) hf λb o hb e'=>k b o (λz=>hb (by simp [z])) e'⟩
 self:=λA i s Q E st h=>let ⟨_,e'⟩:=st.1;Dv e' h
end L2
namespace My
open PySem PySem.Spec PyProof.Rows L2
def Sv (l:List V) (i:Nat):Ent->List V
 | .word _=>l
 | .pair a b=>(l.set a (.int i)).set b (.int i)
def ah:List Ent->Nat->List V->List V
 | [],_,l=>l
 | e::es,i,l=>ah es (i+1) (Sv l i e)
theorem zp:∀(es:List Ent) (e:Ent) (i:Nat) (l:List V),ah (es++[e]) i l=Sv (ah es i l) (i+es.length) e
 | [],e,i,l=>rfl
 | x::es,e,i,l=>by
  show ah (es++[e]) (i+1) (Sv l i x)=Sv (ah es (i+1) (Sv l i x)) (i+(es.length+1)) e;rw [zp es e];congr 1;omega
def V6 (l:List V) (i:Nat) (e:Ent):(Sv l i e).length=l.length:=by cases e with
 | word=>rfl
 | pair=>show ((l.set _ _).set _ _).length=_;rw [B4,B4]
theorem KC:∀(es:List Ent) (i:Nat) (l:List V),(ah es i l).length=l.length
 | [],_,_=>rfl
 | e::es,i,l=>by show (ah es (i+1) (Sv l i e)).length=_;rw [KC es,V6]
end My
namespace L2
open PySem PySem.Spec PyProof.Rows
def Itd (lo:Int) (n:Nat):It:=⟨λi _=>i < n,λi H x H'=>H'=H/\x=.int (lo-i),λi _=>n<=i⟩
theorem zY {K:Ab} (it:ce) (lo:Int) (n:Nat):Turn P w K tg (Itd lo n) [it] it (λi h=>IsRangeIter h it (lo+(i:Nat)*(-1)) ((n:Int)-(i:Nat)) (-1)) where
 mem:=by simp
 obj:=λi h st b hb=>by
  have e:b=it:=by simpa using hb
  subst e;exact⟨_,st,λv z=>by
   have z':=z;cases z'⟩
 keep:=λi h h' st k=>k it (by simp) _ st
 item:=by
  intro X hP hw hK hc i Z s σ H E I hf st hg;subst hP hw hK;obtain⟨f0,f1,f2,f3,f4,f5⟩:=hf it (by simp);have W:=Walks.range (prog:=X.prog) (w:=X.w) (I.ok.hd hc) it lo (-1) n;refine W.item i s _ _ hg st λv h' tk hv rS kk=>?_;obtain⟨t,rfl⟩:=hv;have I1:Inv X Z σ H {s with heap:=h',toks:=tk}:=I.turned (λb o hb e=>kk b o (by simpa using hb) e) f0 f1 f3 f4 f5;refine⟨_,rfl,Hj (s:={s with heap:=h',toks:=tk}) (n:="range_iterator") rS rfl rfl ⋯ ⟨.int (lo-i),H,I1,⟨t,?_⟩,⟨rfl,rfl⟩,rS,λb hb=>(hf b hb).1⟩⟩;rw [show lo+(i:Int)*(-1)=lo-i by omega]
 done:=by
  intro X hP hw hK hc i Z s σ H E I hf st hg;obtain⟨f0,f1,f2,f3,f4,f5⟩:=hf it (by simp);exact wpAny_pyNext_range_end (I.ok.hd hc) st (by have:n<=i:=hg;omega) λh' eb=>⟨rfl,I.turned (t':=s.toks) (λb o hb e=>eb b o hb e) f0 f1 f3 f4 f5⟩
 self:=λ_ _ _ _ _ st h=>wpAny_pyIter_rangeiter st h
section
theorem MW {σ:St}{R:It->Hp->Prop}{lo hi:Int}{t u v:Tok}{tk:Nat} (I:Inv X Z σ H s) (h1:-(2 ^ 62)<=lo) (h2:lo < 2 ^ 62) (h3:-(2 ^ 62)<=hi) (h4:hi < 2 ^ 62)
  (q:R (Itd lo (lo-hi).toNat) H):db (dL X.prog X.w) X.A (pyIter (.ref s.heap.objs.size)) (PIE X Z σ tg R) E {s with heap:=s.heap.push {cls:=.type "range",data:=.fields #[.int lo t,.int hi u,.int (-1) v]},toks:=tk}:=by
 refine wpAny_pyIter_range (IsRange.new ..) (PySem.W.small_down h1 h2 h3 h4) ?_;have I1:Inv X Z σ H {s with heap:=s.heap.push {cls:=.type "range",data:=.fields #[.int lo t,.int hi u,.int (-1) v]},toks:=tk}:=I.kept λb o e=>Ag _ e;refine⟨(s.heap.push {cls:=.type "range",data:=.fields #[.int lo t,.int hi u,.int (-1) v]}).objs.size,[(s.heap.push {cls:=.type "range",data:=.fields #[.int lo t,.int hi u,.int (-1) v]}).objs.size],_,_,H,rfl,
  I1.kept (t':=tk) λb o e=>Ag _ e,zY _ lo (lo-hi).toNat,?_,λb hb=>?_,q⟩
 ·have e1:lo+((0:Nat):Int)*(-1)=lo:=by simp
  have e2:(((lo-hi).toNat:Nat):Int)-((0:Nat):Int)=Builtin.Range.rangeSize lo hi (-1):=by rw [PySem.W.rangeSize_down];split <;> omega
  show IsRangeIter _ _ (lo+((0:Nat):Int)*(-1)) ((((lo-hi).toNat:Nat):Int)-((0:Nat):Int)) (-1);rw [e1,e2];exact Ao _ rfl
 ·have e:b=(s.heap.push {cls:=.type "range",data:=.fields #[.int lo t,.int hi u,.int (-1) v]}).objs.size:=by simpa using hb
  subst e;exact I1.yI (Am _) (I1.bC.fresh (Am _))
def acQ (ta:TA):TI:=λσ H R=>ta σ H λvs H1=>∃i j:Int,vs=[.int i,.int j,.int (-1)]/\(-(2 ^ 62)<=i/\i < 2 ^ 62/\-(2 ^ 62)<=j/\j < 2 ^ 62)/\R (Itd i (i-j).toNat) H1
def M0 {c:ii}{ta:TA} (hg:Gl X "range") (hm:X.mg "range"=bm) (ha:PA X [a,b,c] ta) (hs:f8 [a,b,c] X.env=[(false,im a X.env),(false,im b X.env),(false,im c X.env)]:=by rfl) (qx:f8 [b,c] X.env=[(false,im b X.env),(false,im c X.env)]:=by rfl) :
  PI X tg (.Call (.Name "range" p) [a,b,c] [] pos) (acQ ta):=by
 intro Z s σ H R I h;refine Call_ (hV I hg hm boot_range (Bb (cq (ha pos Z s σ H _ I h) λus s1 ⟨vs,H1,I1,r1,q1⟩=>?_) (by show f8 _ _=_;rw [hs,qx]) (by rw [qx];rfl)));obtain⟨i,j,e,⟨q1,q2,q3,q4⟩,q⟩:=q1;subst e;cases r1 with
 | cons r rr=>
  cases rr with
  | cons r' rr=>
   cases rr with
   | cons r'' rr=>
    cases rr;obtain⟨t,rfl⟩:=r;obtain⟨t',rfl⟩:=r';obtain⟨t'',rfl⟩:=r'';refine call_range_3 ⋯ (MW I1 q1 q2 q3 q4 q) (.inl ?_);unfold Builtin.divisionGoesByPylong;have e1:decide ((if ((-1:Int)==0)=true then 0 else (-1:Int).natAbs.log2 / 30+1) > 300)=false:=by decide
    simp only [e1,Fy]
end
def ad6 (K:Ab) (a:ce):It where
 go:=λi H=>∃xs x,de K H a xs/\xs[i]?=ap x
 Wi:=λi H v H'=>∃p x,v=.ref p/\H p=bm/\H'=upd H p (.tup [.int i,x])/\∀xs,de K H a xs->xs[i]?=ap x
 stop:=λi H=>∃xs,de K H a xs/\xs.length<=i
theorem IB {K:Ab}{kk:Nat}{t:ce} (Ox:e≠it):Turn P w K (.Tuple Ð kk pos) (ad6 K t) [e,it] e (λi h=>(∃Ì,IsEnum h e it (i:Nat) Ì)/\h.IsListIter it t i) where
 mem:=by simp
 obj:=λi h st b hb=>by
  simp only [AD,BD,or_false] at hb;rcases hb with rfl | rfl
  ·obtain⟨⟨_,e⟩,_⟩:=st;exact⟨_,e,λv z=>by cases z⟩
  ·obtain⟨_,⟨o,e,_,d⟩⟩:=st;exact⟨o,e,λv z=>by rw [d] at z;cases z⟩
 keep:=λi h h' st k=>⟨let ⟨o,e'⟩:=st.1;⟨o,k e (by simp) _ e'⟩,let ⟨o,e',p⟩:=st.2;⟨o,k it (by simp) _ e',p⟩⟩
 item:=by
  intro X hP hw hK hc i Z s σ H E I hf st hg;subst hP hw hK;obtain⟨xs,x,hx,gx⟩:=hg;obtain⟨au,rx,tx,_⟩:=I.list hx;obtain⟨u,gu,ru⟩:=n8 rx gx;obtain⟨⟨Ì,hz⟩,hi⟩:=st;refine wpAny_pyNext_enum_item hz hi tx.isList (by simpa using gu) Ox λh' zo j np _ k=>?_;refine⟨_,rfl,?_⟩;refine Ep zo λh2 z2 b2=>?_;have le:=Au hz;have li:=let ⟨_,e',_⟩:=hi;Au e';have lt:∀b∈[e,it],b < s.heap.objs.size:=λb hb=>by
   simp only [AD,BD,or_false] at hb;rcases hb with rfl | rfl
   ·exact le
   ·exact li
  have nz:s.heap.objs.size≠e:=λz=>A2 _ (by have:=le;rw [<- z] at this;exact this);have Ā:∀b o,b∉[e,it]->s.heap.get? b=ap o->h2.get? b=ap o:=λb o hb e'=>by
   have NF:b≠e:=λq=>hb (by simp [q]);rw [b2.2 b NF];exact k b o NF (λq=>hb (by simp [q])) e'
  have ü:h2.get? s.heap.objs.size=ap {cls:=.type "tuple",data:=.seq #[.int i s.toks,u]}:=(b2.2 _ nz).trans np;have ą:=I.bC.fresh (Am s.heap.objs.size);refine⟨.ref s.heap.objs.size,upd H s.heap.objs.size (.tup [.int i,x]),I.sR (t':=s.toks+1) hf Ā (Am _) ⟨by show 2<=sizeLine;decide,[.int i s.toks,u],.cons ⟨_,rfl⟩ (.cons ru .nil),⟨_,ü,rfl,_,rfl⟩⟩,rfl,⟨_,x,rfl,ą,rfl,λxs' h'=>by rw [I.GW h' hx];exact gx⟩,⟨⟨_,z2⟩,let ⟨o,e',p⟩:=j;⟨o,(b2.2 _ (BP Ox)).trans e',p⟩⟩,λb hb=>?_⟩;rw [ax (AG (lt b hb))];exact (hf b hb).1
 done:=by
  intro X hP hw hK hc i Z s σ H E I hf st hg;subst hP hw hK;obtain⟨xs,hx,hl⟩:=hg;obtain⟨au,rx,tx,_⟩:=I.list hx;have el:=rx.length;obtain⟨⟨Ì,hz⟩,hi⟩:=st;refine wpAny_pyNext_enum_end (I.ok.hd hc) hz hi tx.isList (by simp;omega) λh' k=>⟨rfl,I.xc (t':=s.toks) hf λb o hb e'=>k b o (λz=>hb (by simp [z])) e'⟩
 self:=λA i s Q E st h=>let ⟨_,e'⟩:=st.1;Dv e' h
end L2
namespace My
open PySem PySem.Spec PyProof.Rows L2
def en:Tr->Nat->Nat->Ent
 | .leaf x,_,_=>.word x
 | .node l r,o,j=>if j < l.size then en l o j else if j < l.size+r.size then en r (o+l.size) (j-l.size) else .pair (o+l.size-1) (o+l.size+r.size-1)
def up:Tr->Nat->Nat->List Nat->List Nat
 | .leaf _,o,_,ab=>o::ab
 | .node l r,o,j,ab=>if j < l.size then up l o j ((o+l.size+r.size)::ab) else if j < l.size+r.size then up r (o+l.size) (j-l.size) ((o+l.size+r.size)::ab) else (o+l.size+r.size)::ab
def kK:Tr->Nat->Nat->V->V
 | .leaf _,_,_,p=>p
 | .node l r,o,j,p=>if j < l.size then kK l o j (.int (o+l.size+r.size:Nat)) else if j < l.size+r.size then kK r (o+l.size) (j-l.size) (.int (o+l.size+r.size:Nat)) else p
def be:Tr->Nat->Nat->List Nat
 | .leaf _,o,_=>[o]
 | .node l r,o,j=>if j < l.size then be l o j else if j < l.size+r.size then be r (o+l.size) (j-l.size) else be l o (l.size-1)++be r (o+l.size) (r.size-1)
theorem gU:∀(t:Tr) (o j:Nat),j < t.size->(t.nd o)[j]?=ap (en t o j)
 | .leaf x,o,j,h=>by
  have:j=0:=by have:j < 1:=h;omega
  subst this;rfl
 | .node l r,o,j,h=>by
  have es:(Tr.node l r).size=l.size+r.size+1:=rfl;have hn:(Tr.node l r).nd o=l.nd o++r.nd (o+l.size)++[.pair (o+l.size-1) (o+l.size+r.size-1)]:=rfl;have ln:=l.bo o;have rn:=r.bo (o+l.size);unfold en;by_cases c1:j < l.size
  ·rw [if_pos c1,hn,AA,AU ∅];exact gU l o j c1
  ·rw [if_neg c1];by_cases c2:j < l.size+r.size
   ·rw [if_pos c2,hn,AA,A5 ∅,AU ∅,ln];exact gU r _ _ ∅
   ·rw [if_neg c2,hn,A5 (by rw [Ah];omega),Ah,ln,rn];have:j-(l.size+r.size)=0:=by omega
    rw [this];rfl
theorem Sn:∀(t:Tr) (o j:Nat),j < t.size->(∃x,en t o j=.word x/\be t o j=[o+j])\/∃a b,en t o j=.pair (o+a) (o+b)/\a < j/\b < j/\be t o j=be t o a++be t o b
 | .leaf x,o,j,h=>by
  have:j=0:=by have:j < 1:=h;omega
  subst this;exact .inl ⟨x,rfl,rfl⟩
 | .node l r,o,j,h=>by
  have es:(Tr.node l r).size=l.size+r.size+1:=rfl;have lp:=l.size_pos;have rp:=r.size_pos;by_cases c1:j < l.size
  ·have e1:en (.node l r) o j=en l o j:=by rw [en,if_pos c1]
   have e2:∀k,k < l.size->be (.node l r) o k=be l o k:=λk hk=>by rw [be,if_pos hk]
   rw [e1];rcases Sn l o j c1 with⟨x,q1,q2⟩ | ⟨a,b,q1,q2,q3,q4⟩
   ·exact .inl ⟨x,q1,by rw [e2 j c1];exact q2⟩
   ·exact .inr ⟨a,b,q1,q2,q3,by rw [e2 j c1,e2 a ∅,e2 b ∅];exact q4⟩
  ·by_cases c2:j < l.size+r.size
   ·have e1:en (.node l r) o j=en r (o+l.size) (j-l.size):=by rw [en,if_neg c1,if_pos c2]
    have e2:∀k,k < r.size->be (.node l r) o (l.size+k)=be r (o+l.size) k:=λk hk=>by
     rw [be,if_neg ∅,if_pos ∅];congr 1;omega
    have ej:j=l.size+(j-l.size):=by omega
    rw [e1];rcases Sn r (o+l.size) (j-l.size) ∅ with⟨x,q1,q2⟩ | ⟨a,b,q1,q2,q3,q4⟩
    ·refine .inl ⟨x,q1,?_⟩;rw [ej,e2 _ ∅,q2];congr 1;omega
    ·refine .inr ⟨l.size+a,l.size+b,?_,by omega,by omega,?_⟩
     ·rw [q1,Bi,Bi]
     ·rw [e2 a ∅,e2 b ∅,ej,e2 _ ∅,q4]
   ·have ej:j=l.size+r.size:=by omega
    refine .inr ⟨l.size-1,l.size+r.size-1,?_,by omega,by omega,?_⟩
    ·rw [en,if_neg c1,if_neg c2];congr 1 <;> omega
    ·rw [be,if_neg c1,if_neg c2,be,if_pos ∅,be,if_neg ∅,if_pos ∅];congr 2;omega
theorem sQ:∀(t:Tr) (o j:Nat) (p:V) (ab:List Nat),j < t.size->(j=t.size-1/\kK t o j p=p/\up t o j ab=(o+j)::ab)\/∃a,j < a/\a < t.size/\kK t o j p=.int (o+a:Nat)/\up t o j ab=(o+j)::up t o a ab
 | .leaf x,o,j,p,ab,h=>by
  have:j=0:=by have:j < 1:=h;omega
  subst this;exact .inl ⟨rfl,rfl,rfl⟩
 | .node l r,o,j,p,ab,h=>by
  have es:(Tr.node l r).size=l.size+r.size+1:=rfl;have lp:=l.size_pos;have rp:=r.size_pos;have er:up (.node l r) o (l.size+r.size) ab=(o+l.size+r.size)::ab:=by rw [up,if_neg ∅,if_neg ∅]
  by_cases c1:j < l.size
  ·have e1:kK (.node l r) o j p=kK l o j (.int (o+l.size+r.size:Nat)):=by rw [kK,if_pos c1]
   have e2:∀k,k < l.size->up (.node l r) o k ab=up l o k ((o+l.size+r.size)::ab):=λk hk=>by rw [up,if_pos hk]
   rw [e1,e2 j c1];rcases sQ l o j (.int (o+l.size+r.size:Nat)) ((o+l.size+r.size)::ab) c1 with⟨q1,q2,q3⟩ | ⟨a,q1,q2,q3,q4⟩
   ·refine .inr ⟨l.size+r.size,by omega,by omega,by rw [q2,Bi],by rw [q3,er]⟩
   ·exact .inr ⟨a,q1,by omega,q3,by rw [q4,e2 a q2]⟩
  ·by_cases c2:j < l.size+r.size
   ·have e1:kK (.node l r) o j p=kK r (o+l.size) (j-l.size) (.int (o+l.size+r.size:Nat)):=by rw [kK,if_neg c1,if_pos c2]
    have e2:∀k,k < r.size->up (.node l r) o (l.size+k) ab=up r (o+l.size) k ((o+l.size+r.size)::ab):=λk hk=>by
     rw [up,if_neg ∅,if_pos ∅];congr 1;omega
    obtain⟨i,rfl⟩:∃i,j=l.size+i:=⟨j-l.size,by omega⟩;have ei:l.size+i-l.size=i:=by omega
    rw [e1,e2 i ∅,ei];rcases sQ r (o+l.size) i (.int (o+l.size+r.size:Nat)) ((o+l.size+r.size)::ab) ∅ with⟨q1,q2,q3⟩ | ⟨a,q1,q2,q3,q4⟩
    ·refine .inr ⟨l.size+r.size,by omega,by omega,by rw [q2,Bi],by rw [q3,er,Bi]⟩
    ·exact .inr ⟨l.size+a,by omega,by omega,by rw [q3,Bi],by rw [q4,e2 a q2,Bi]⟩
   ·have ej:j=l.size+r.size:=by omega
    refine .inl ⟨by omega,by rw [kK,if_neg c1,if_neg c2],?_⟩;rw [ej,er,Bi]
def m4:Tr->Nat->V->List V
 | .leaf _,_,p=>[p]
 | .node l r,o,p=>m4 l o (.int (o+l.size+r.size:Nat))++m4 r (o+l.size) (.int (o+l.size+r.size:Nat))++[p]
theorem km:∀(t:Tr) (o:Nat) (p:V),(m4 t o p).length=t.size
 | .leaf _,_,_=>rfl
 | .node l r,o,p=>by
  unfold m4;rw [Ah,Ah,km l,km r];rfl
theorem Mm (t:Tr) (o:Nat) (p q:V) (A B:List V):(A++m4 t o p++B).set (A.length+t.size-1) q=A++m4 t o q++B:=by
 have key:∃I,m4 t o p=I++[p]/\m4 t o q=I++[q]:=by
  cases t with
  | leaf _=>exact⟨[],rfl,rfl⟩
  | node l r=>exact⟨_,rfl,rfl⟩
 obtain⟨I,e1,e2⟩:=key;have h1:=km t o p;rw [e1,Ah] at h1;have ib:I.length+1=t.size:=h1;rw [e1,e2];have ei:A.length+t.size-1=(A++I).length:=by rw [Ah];omega
 rw [ei,show A++(I++[p])++B=(A++I)++p::B by simp,List.set_append_right _ _ (Am _),CP];simp
theorem Su:∀(es fs:List Ent) (i:Nat) (l:List V),ah (es++fs) i l=ah fs (i+es.length) (ah es i l)
 | [],fs,i,l=>rfl
 | e::es,fs,i,l=>by
  show ah (es++fs) (i+1) (Sv l i e)=ah fs (i+(es.length+1)) (ah es (i+1) (Sv l i e));rw [Su es fs];congr 1;omega
theorem KD:∀(t:Tr) (A B:List V),ah (t.nd A.length) A.length (A++An t.size .aN++B)=A++m4 t A.length .aN++B
 | .leaf x,A,B=>rfl
 | .node l r,A,B=>by
  have es:(Tr.node l r).size=l.size+r.size+1:=rfl;have hn:(Tr.node l r).nd A.length=l.nd A.length++r.nd (A.length+l.size)++[.pair (A.length+l.size-1) (A.length+l.size+r.size-1)]:=rfl;have ln:=l.bo A.length;have rn:=r.bo (A.length+l.size);have h1:=KD l A (An r.size .aN++([V.aN]++B));have e0:A++An (Tr.node l r).size V.aN++B=A++An l.size .aN++(An r.size .aN++([V.aN]++B)):=by
   rw [es,<- DB,<- DB];simp only [AA];rfl
  rw [hn,zp,Su,e0,h1,ln];have la:(A++m4 l A.length V.aN).length=A.length+l.size:=by rw [Ah,km]
  have h2:=KD r (A++m4 l A.length V.aN) ([V.aN]++B);rw [la] at h2;have e1:A++m4 l A.length V.aN++(An r.size V.aN++([V.aN]++B))=A++m4 l A.length V.aN++An r.size V.aN++([V.aN]++B):=by simp [AA]
  rw [e1,h2,Ah,ln,rn];show ((_:List V).set (A.length+l.size-1) _).set (A.length+l.size+r.size-1) _=_;have s1:=Mm l A.length .aN (.int (A.length+(l.size+r.size):Nat)) A (m4 r (A.length+l.size) V.aN++([V.aN]++B));have e2:A++m4 l A.length V.aN++m4 r (A.length+l.size) V.aN++([V.aN]++B)=A++m4 l A.length V.aN++(m4 r (A.length+l.size) V.aN++([V.aN]++B)):=by simp [AA]
  rw [e2,s1];have lb:(A++m4 l A.length (V.int (A.length+(l.size+r.size):Nat))).length=A.length+l.size:=by rw [Ah,km]
  have s2:=Mm r (A.length+l.size) .aN (.int (A.length+(l.size+r.size):Nat)) (A++m4 l A.length (V.int (A.length+(l.size+r.size):Nat))) ([V.aN]++B);rw [lb] at s2;have e3:A++m4 l A.length (V.int (A.length+(l.size+r.size):Nat))++(m4 r (A.length+l.size) V.aN++([V.aN]++B))=A++m4 l A.length (V.int (A.length+(l.size+r.size):Nat))++m4 r (A.length+l.size) V.aN++([V.aN]++B):=by simp [AA]
  rw [e3,s2];have e4:m4 (.node l r) A.length .aN=m4 l A.length (.int (A.length+l.size+r.size:Nat))++m4 r (A.length+l.size) (.int (A.length+l.size+r.size:Nat))++[.aN]:=rfl;rw [e4,Bi A.length l.size r.size];simp [AA]
theorem zl:∀(t:Tr) (o j:Nat) (p:V),j < t.size->(m4 t o p)[j]?=ap (kK t o j p)
 | .leaf x,o,j,p,h=>by
  have:j=0:=by have:j < 1:=h;omega
  subst this;rfl
 | .node l r,o,j,p,h=>by
  have es:(Tr.node l r).size=l.size+r.size+1:=rfl;have ln:=km l o (.int (o+l.size+r.size:Nat));have rn:=km r (o+l.size) (.int (o+l.size+r.size:Nat));unfold m4 kK;by_cases c1:j < l.size
  ·rw [if_pos c1,AA,AU ∅];exact zl l _ _ _ c1
  ·rw [if_neg c1];by_cases c2:j < l.size+r.size
   ·rw [if_pos c2,AA,A5 ∅,AU ∅,ln];exact zl r _ _ _ ∅
   ·rw [if_neg c2,A5 (by rw [Ah];omega),Ah,ln,rn];have:j-(l.size+r.size)=0:=by omega
    rw [this];rfl
def aah (t:Tr) (h:j < t.size):(ah (t.nd 0) 0 (An t.size .aN))[j]?=ap (kK t 0 j .aN):=by
 have q:=KD t [] [];have e:([]:List V)++An t.size .aN++[]=An t.size .aN:=by simp
 have e2:([]:List V)++m4 t ([]:List V).length .aN++[]=m4 t 0 .aN:=by simp
 rw [e,e2] at q;have q':ah (t.nd 0) 0 (An t.size .aN)=m4 t 0 .aN:=q;rw [q'];exact zl t 0 j .aN h
end My
variable {H1:L2.Hp}{ι:List BG}
namespace PL
section
open PySem PySem.Spec PyProof.Rows L2
variable {K:Ab}
def Xt (K:Ab) (H:Hp) (a:ce) (xs:List V):Prop:=(∃o,H a=ap (.cV o (.lst xs)))\/
  ∃(o:Obj) (au:Array bn) (n:Nat),K.lookup a=ap o/\o.cls=.type "list"/\o.dict=bm/\o.data=.seq au n/\au.size<=sizeLine/\Vals xs au.toList
def Xt.sq {a:ce} (h:Xt K H a xs):de K H a xs:=h.elim (λh=>.inl (.inr h)) .inr
structure bq (K:Ab) (H H':Hp):Prop where
 t:∀p vs,H p=ap (.tup vs)->H' p=ap (.tup vs)
 z:∀p o u,H p=ap (.cV o u)->H' p=ap (.cV o u)
def bq.f {H H':Hp} (t:bq K H H') (p:ce) (vs:List V) (h:Xt K H p vs):Xt K H' p vs:=h.elim (λ⟨o,h⟩=>.inl ⟨o,t.z _ _ _ h⟩) .inr
def bq.refl (H:Hp):bq K H H:=⟨λ_ _ h=>h,λ_ _ _ h=>h⟩
def bq.trans (a:bq K H H1) (b:bq K H1 H2):bq K H H2:=⟨λp vs h=>b.t p vs (a.t p vs h),λp o w h=>b.z p o w (a.z p o w h)⟩
def _root_.L2.lR.eR (s:lR H H'):bq K H H':=⟨λp vs h=>s _ _ h,λp o u h=>s _ _ h⟩
inductive PV where
 | aN | bl (b:Bool) | int (i:Int) | str (x:Str) | tup (l:List PV) | ref (n:Nat) | ty (n:String) | cl (l:List PV) | dv (ks vs:List PV)
def kP:Key->PV
 | .inl i=>.int i
 | .inr x=>.str x
inductive PO where
 | lst (xs:List PV) | dk (kvs:List (Key×PV)) | dt (kvs:List (List Key×PV)) | opq (φ:List V->Prop)
abbrev PH:=List PO
abbrev zO:=List (Option PV)
mutual
inductive VR (K:Ab) (ι:List ce) (H:Hp):V->PV->Prop
 | aN:VR K ι H .aN .aN
 | bl (b:Bool):VR K ι H (.bl b) (.bl b)
 | int (i:Int):VR K ι H (.int i) (.int i)
 | str (x:Str):VR K ι H (.str x) (.str x)
 | ty (n:String):VR K ι H (.ty n) (.ty n)
 | tup {p:ce}{vs:List V}{l:List PV} (h:H p=ap (.tup vs)) (r:aL K ι H vs l):VR K ι H (.ref p) (.tup l)
 | ref {n:Nat}{a:ce} (h:ι[n]?=ap a):VR K ι H (.ref a) (.ref n)
 | cl {a:ce}{vs:List V}{l:List PV} (h:Xt K H a vs) (r:aL K ι H vs l):VR K ι H (.ref a) (.cl l)
 | dk {a:ce}{o:Obj}{kvs:List (Key×V)}{ks l:List PV} (h:H a=ap (.cV o (.dK kvs))) (e:ks=kvs.map λkv=>kP kv.1) (r:aL K ι H (kvs.map (·.2)) l):VR K ι H (.ref a) (.dv ks l)
 | dt {a:ce}{o:Obj}{kvs:List (List Key×V)}{ks l:List PV} (h:H a=ap (.cV o (.dT kvs))) (e:ks=kvs.map λkv=>.tup (kv.1.map kP)) (r:aL K ι H (kvs.map (·.2)) l):VR K ι H (.ref a) (.dv ks l)
inductive aL (K:Ab) (ι:List ce) (H:Hp):List V->List PV->Prop
 | nil:aL K ι H [] []
 | cons {v:V}{p:PV}{vs:List V}{ps:List PV} (r:VR K ι H v p) (t:aL K ι H vs ps):aL K ι H (v::vs) (p::ps)
end
section
variable {ι':List ce}
mutual
theorem VR.mono (ht:bq K H H') (hi:∀(n:Nat) (a:ce),ι[n]?=ap a->ι'[n]?=ap a):∀{v:V}{p:PV},VR K ι H v p->VR K ι' H' v p
 | _,_,.aN=>.aN
 | _,_,.bl b=>.bl b
 | _,_,.int i=>.int i
 | _,_,.str x=>.str x
 | _,_,.ty n=>.ty n
 | _,_,.tup h r=>.tup (ht.t _ _ h) (aL.mono ht hi r)
 | _,_,.cl h r=>.cl (ht.f _ _ h) (aL.mono ht hi r)
 | _,_,.dk h e r=>.dk (ht.z _ _ _ h) e (aL.mono ht hi r)
 | _,_,.dt h e r=>.dt (ht.z _ _ _ h) e (aL.mono ht hi r)
 | _,_,.ref h=>.ref (hi _ _ h)
theorem aL.mono (ht:bq K H H') (hi:∀(n:Nat) (a:ce),ι[n]?=ap a->ι'[n]?=ap a):∀{vs:List V}{ps:List PV},aL K ι H vs ps->aL K ι' H' vs ps
 | _,_,.nil=>.nil
 | _,_,.cons r t=>.cons (VR.mono ht hi r) (aL.mono ht hi t)
end
theorem aL.length:∀{vs:List V}{ps:List PV},aL K ι H vs ps->vs.length=ps.length
 | _,_,.nil=>rfl
 | _,_,.cons _ t=>by rw [Ap,Ap,aL.length t]
theorem aL.get:∀{vs:List V}{ps:List PV}{i:Nat}{p:PV},aL K ι H vs ps->ps[i]?=ap p->∃v,vs[i]?=ap v/\VR K ι H v p
 | _,_,_,_,.nil,e=>by simp at e
 | _,_,0,_,.cons r _,e=>by simp at e;subst e;exact⟨_,rfl,r⟩
 | _,_,i+1,p,.cons _ t,e=>by
  obtain⟨v,h1,h2⟩:=aL.get (i:=i) (p:=p) t (by simpa using e);exact⟨v,by simpa using h1,h2⟩
theorem aL.adk:∀{vs:List V}{ps:List PV}{i:Nat}{v:V},aL K ι H vs ps->vs[i]?=ap v->∃p,ps[i]?=ap p/\VR K ι H v p
 | _,_,_,_,.nil,e=>by simp at e
 | _,_,0,_,.cons r _,e=>by simp at e;subst e;exact⟨_,rfl,r⟩
 | _,_,i+1,p,.cons _ t,e=>by
  obtain⟨v,h1,h2⟩:=aL.adk (i:=i) (v:=p) t (by simpa using e);exact⟨v,by simpa using h1,h2⟩
theorem aL.set {p:PV} (r:VR K ι H v p):∀{vs:List V}{ps:List PV} (i:Nat),aL K ι H vs ps->aL K ι H (vs.set i v) (ps.set i p)
 | _,_,_,.nil=>.nil
 | _,_,0,.cons _ t=>.cons r t
 | _,_,i+1,.cons q t=>.cons q (aL.set r i t)
theorem aL.append:∀{xs ys:List V}{us ws:List PV},aL K ι H xs us->aL K ι H ys ws->aL K ι H (xs++ys) (us++ws)
 | _,_,_,_,.nil,s=>s
 | _,_,_,_,.cons r t,s=>.cons r (aL.append t s)
theorem aL.take:∀{xs:List V}{us:List PV} (n:Nat),aL K ι H xs us->aL K ι H (xs.take n) (us.take n)
 | _,_,0,_=>.nil
 | _,_,_+1,.nil=>.nil
 | _,_,n+1,.cons r t=>.cons r (aL.take n t)
theorem aL.drop:∀{xs:List V}{us:List PV} (n:Nat),aL K ι H xs us->aL K ι H (xs.drop n) (us.drop n)
 | _,_,0,r=>r
 | _,_,_+1,.nil=>.nil
 | _,_,n+1,.cons _ t=>aL.drop n t
theorem aL.reverse:∀{xs:List V}{us:List PV},aL K ι H xs us->aL K ι H xs.reverse us.reverse
 | _,_,.nil=>.nil
 | _,_,.cons r t=>by rw [C4,C4];exact (aL.reverse t).append (.cons r .nil)
def aL.one {p:PV} (r:VR K ι H v p):aL K ι H [v] [p]:=.cons r .nil
end
structure Go (ι ι':List ce) (H H':Hp):Prop where
 ext:∃m,ι'=ι++m
 new:∀a,a∈ι'->a∉ι->H a=bm
 keep:∀a o,a∉ι->H a=ap o->H' a=ap o
def Go.refl (ι:List ce) (H:Hp):Go ι ι H H:=⟨⟨[],by simp⟩,λa h n=>absurd h n,λ_ _ _ h=>h⟩
def OR (K:Ab) (ι:List ce) (H:Hp) (a:ce):PO->Prop
 | .lst xs=>∃vs,H a=ap (.lst vs)/\aL K ι H vs xs
 | .dk kvs=>∃vs:List (Key×V),H a=ap (.dK vs)/\vs.map (·.1)=kvs.map (·.1)/\aL K ι H (vs.map (·.2)) (kvs.map (·.2))
 | .dt kvs=>∃vs:List (List Key×V),H a=ap (.dT vs)/\vs.map (·.1)=kvs.map (·.1)/\aL K ι H (vs.map (·.2)) (kvs.map (·.2))
 | .opq φ=>∃vs,H a=ap (.lst vs)/\φ vs
structure HR (K:Ab) (ι:List ce) (H:Hp) (h:PH):Prop where
 nd:ι.Nodup
 len:ι.length=h.length
 obj:∀(n:Nat) (a:ce) (o:PO),ι[n]?=ap a->h[n]?=ap o->OR K ι H a o
end
end PL
variable {e:BX}
namespace PL
section
open PySem PySem.Spec PyProof.Rows L2
variable {K:Ab}
abbrev QV:=PV->PH->Prop
structure ME where
 run:zO->PH->QV->Prop
 mono:∀{ps h}{Q Q':QV},(∀v h',Q v h'->Q' v h')->run ps h Q->run ps h Q'
structure MT where
 run:zO->PH->(Bool->PH->Prop)->Prop
 mono:∀{ps h}{Q Q':Bool->PH->Prop},(∀v h',Q v h'->Q' v h')->run ps h Q->run ps h Q'
structure MA where
 run:zO->PH->(List PV->PH->Prop)->Prop
 mono:∀{ps h}{Q Q':List PV->PH->Prop},(∀v h',Q v h'->Q' v h')->run ps h Q->run ps h Q'
structure ML where
 run:zO->PH->(List PV->PH->Prop)->Prop
 mono:∀{ps h}{Q Q':List PV->PH->Prop},(∀v h',Q v h'->Q' v h')->run ps h Q->run ps h Q'
structure Src where
 items:List PV
 ok:PH->Prop
 fz:Bool
structure MI where
 run:zO->PH->(Src->PH->Prop)->Prop
 mono:∀{ps h}{Q Q':Src->PH->Prop},(∀v h',Q v h'->Q' v h')->run ps h Q->run ps h Q'
structure PD where
 nx:zO->PH->Prop
 rt:QV
 bk:zO->PH->Prop
 ct:zO->PH->Prop
structure PD.Le (D D':PD):Prop where
 nx:∀ps h,D.nx ps h->D'.nx ps h
 rt:∀v h,D.rt v h->D'.rt v h
 bk:∀ps h,D.bk ps h->D'.bk ps h
 ct:∀ps h,D.ct ps h->D'.ct ps h
structure MS where
 run:PD->zO->PH->Prop
 mono:∀{D D' ps h},PD.Le D D'->run D ps h->run D' ps h
structure MG where
 run:PV->zO->PH->(zO->PH->Prop)->Prop
 mono:∀{v ps h}{Q Q':zO->PH->Prop},(∀ps h,Q ps h->Q' ps h)->run v ps h Q->run v ps h Q'
def pQ (K:Ab) (ι:List ce) (H:Hp) (Q:VK):QV:=λp h'=>∀ι' v H',Go ι ι' H H'->HR K ι' H' h'->VR K ι' H' v p->Q v H'
def PE.imp {t t':TE} (h:PE X e t) (f:∀σ H Q,t' σ H Q->t σ H Q):PE X e t':=λZ s σ H Q I q=>h Z s σ H Q I (f _ _ _ q)
def PT.imp {t t':TT} (h:PT X e t) (f:∀σ H Q,t' σ H Q->t σ H Q):PT X e t':=λZ s σ H Q I q=>h Z s σ H Q I (f _ _ _ q)
def PW.imp {t t':TT} (h:PW X e t) (f:∀σ H Q,t' σ H Q->t σ H Q):PW X e t':=λw Z s σ H Q I q=>h w Z s σ H Q I (f _ _ _ q)
def PA.imp {e:List ii}{t t':TA} (h:PA X e t) (f:∀σ H Q,t' σ H Q->t σ H Q):PA X e t':=λpos Z s σ H Q I q=>h pos Z s σ H Q I (f _ _ _ q)
def sF.imp {e:List v4}{t t':TS} (h:sF X e t) (f:∀D σ H,t' D σ H->t D σ H):sF X e t':=λZ s σ H D I q=>h Z s σ H D I (f _ _ _ q)
def PG.imp {t t':TG} (h:PG X e t) (f:∀v σ H Q,t' v σ H Q->t v σ H Q):PG X e t':=λZ s σ H v u Q I r q=>h Z s σ H v u Q I r (f _ _ _ _ q)
def PI.imp {t t':TI} (h:PI X tg e t) (f:∀σ H Q,t' σ H Q->t σ H Q):PI X tg e t':=λZ s σ H R I q=>h Z s σ H R I (f _ _ _ q)
section
abbrev P2:=PV->PV->PH->QV->Prop
structure M2 where
 f:P2
 mono:∀{x y h}{Q Q':QV},(∀v h',Q v h'->Q' v h')->f x y h Q->f x y h Q'
def M2.Ok (K:Ab) (r:R2) (m:M2):Prop:=∀{ι H h u v x y Q},HR K ι H h->VR K ι H u x->VR K ι H v y->m.f x y h (pQ K ι H Q)->r u v H Q
end
end
section
open PySem PySem.Spec PyProof.Rows L2
variable {K:Ab}
section
def lu:∀{vs:List V}{l:List PV},aL K ι H vs l->(!l.isEmpty)=!vs.isEmpty
 | _,_,.nil=>rfl
 | _,_,.cons _ _=>rfl
structure MQ where
 run:zO->PH->(Src->PH->Prop)->Prop
 mono:∀{ps h}{Q Q':Src->PH->Prop},(∀v h',Q v h'->Q' v h')->run ps h Q->run ps h Q'
end
end
open PySem PySem.Spec PyProof.Rows L2
section
structure MGs where
 run:List PV->zO->PH->(zO->PH->Prop)->Prop
 mono:∀{v ps h}{Q Q':zO->PH->Prop},(∀ps h,Q ps h->Q' ps h)->run v ps h Q->run v ps h Q'
end
section
variable {K:Ab}
section
structure zP where
 f:List PV->PH->QV->Prop
 mono:∀{l h}{Q Q':QV},(∀v h',Q v h'->Q' v h')->f l h Q->f l h Q'
def zP.Ok (K:Ab) (r:List V->Hp->VK->Prop) (m:zP):Prop:=∀{ι H h vs l Q},HR K ι H h->aL K ι H vs l->m.f l h (pQ K ι H Q)->r vs H Q
end
end
end PL
variable {g':Int->Int->L2.V}{g:Int->Int->PL.PV}
namespace PL
section
open PySem PySem.Spec PyProof.Rows L2
variable {K:Ab}
def aI (g:Int->Int->PV):M2:=⟨λx y h Q=>match x,y with | .int i,.int j=>Q (g i j) h | _,_=>False,λf q=>by
 revert q
 split
 ·exact f _ _
 ·exact λz=>z⟩
def aIc (C:Int->Int->Prop) (g:Int->Int->PV):M2:=⟨λx y h Q=>match x,y with | .int i,.int j=>C i j/\Q (g i j) h | _,_=>False,λf q=>by
 revert q
 split
 ·exact λq=>⟨q.1,f _ _ q.2⟩
 ·exact λz=>z⟩
def HY (hg:∀ι H i j,VR K ι H (g' i j) (g i j)):M2.Ok K (TN g') (aI g):=by
 intro ι H h u v x y Q hr hu hv q;unfold aI at q;dsimp only at q;revert q
 split
 ·intro q;cases hu;cases hv;exact⟨_,_,rfl,rfl,q ι _ H (Go.refl _ _) hr (hg _ _ _ _)⟩
 ·exact Bt
def zq {C:Int->Int->Prop} (hg:∀ι H i j,VR K ι H (g' i j) (g i j)):M2.Ok K (rI C g') (aIc C g):=by
 intro ι H h u v x y Q hr hu hv q;unfold aIc at q;dsimp only at q;revert q
 split
 ·intro q;cases hu;cases hv;exact⟨_,_,rfl,rfl,q.1,q.2 ι _ H (Go.refl _ _) hr (hg _ _ _ _)⟩
 ·exact Bt
def GD:=aI λi j=>.int (i-j)
def kI:=aIc wE λi j=>.int (i*j)
def oDiv:=aIc Om λi j=>.int (i / j)
def oMod:=aIc (λ_ j=>0 < j) λi j=>.int (i % j)
def Ql:=aIc SI λi j=>.int (i ^ j.toNat)
def oLt:=aI λi j=>.bl (decide (i < j))
def oLe:=aI λi j=>.bl (decide (i<=j))
def oGt:=aI λi j=>.bl (decide (j < i))
def oGe:=aI λi j=>.bl (decide (j<=i))
section
def aL.jQ:∀{vs:List V}{l:List PV},aL K ι H vs l->(vs=[]↔l=[])
 | _,_,.nil=>by simp
 | _,_,.cons _ _=>by simp
end
mutual
def PV.dat:PV->Bool
 | .tup l=>vA l
 | .ref _=>false
 | .ty _=>false
 | .cl _=>false
 | .dv _ _=>false
 | _=>true
def vA:List PV->Bool
 | []=>true
 | x::l=>x.dat&&vA l
end
end
section
open PySem PySem.Spec PyProof.Rows L2
variable {K:Ab}
section
def PV.lq:PV->Bool
 | .aN=>true
 | _=>false
def Qn:M2:=⟨λx y h Q=>match y with | .aN=>Q (.bl x.lq) h | _=>False,λf q=>by
 revert q
 split
 ·exact f _ _
 ·exact λz=>z⟩
def GG:M2:=⟨λx y h Q=>match y with | .aN=>Q (.bl (!x.lq)) h | _=>False,λf q=>by
 revert q
 split
 ·exact f _ _
 ·exact λz=>z⟩
def wo {x:PV} (h:VR K ι H v x):decide (v=.aN)=x.lq:=by cases h <;> simp [PV.lq]
def UA:M2.Ok K (λx y H Q=>y=.aN/\Q (.bl (decide (x=.aN))) H) Qn:=by
 intro ι H h u v x y Q hr hu hv q;cases hv with
 | aN=>exact⟨rfl,q ι _ H (Go.refl _ _) hr (by rw [wo hu];exact .bl _)⟩
 | _=>exact q.elim
def Qm:M2.Ok K (λx y H Q=>y=.aN/\Q (.bl (!decide (x=.aN))) H) GG:=by
 intro ι H h u v x y Q hr hu hv q;cases hv with
 | aN=>exact⟨rfl,q ι _ H (Go.refl _ _) hr (by rw [wo hu];exact .bl _)⟩
 | _=>exact q.elim
end
end
end PL
variable {l:List PL.PV}
namespace PL
section
open PySem PySem.Spec PyProof.Rows L2
variable {K:Ab}
section
def Pw {v':V}{w:bn} (h:RelV v w) (h':RelV v' w):v=v':=Option.some.inj (h.abs.symm.trans h'.abs)
end
section
variable {c:ii}
def mIx (a:MQ) (b:ME):ME:=⟨λps h Q=>a.run ps h λS h1=>b.run ps h1 λy h2=>match y with
 | .int k=>S.ok h2/\match cF S.items k with | some v=>Q v h2 | none=>False
 | _=>False,λf q=>a.mono (λ_ _ q=>b.mono (λ_ _ q=>by
  revert q
  split
  ·rintro⟨q0,q⟩;refine⟨q0,?_⟩;revert q
   split
   ·exact f _ _
   ·exact λz=>z
  ·exact λz=>z) q) q⟩
def aL.cF (r:aL K ι H vs l) {k:Int}{p:PV} (e:L2.cF l k=ap p):∃v,L2.cF vs k=ap v/\VR K ι H v p:=by
 unfold L2.cF at e ⊢;rw [r.length];cases z:wd l.length k with
 | none=>rw [z] at e;cases e
 | some j=>
  rw [z] at e;exact r.get e
def M8:M2:=⟨λx y h Q=>match x,y with
 | .str z,.int k=>z.length<=sizeLine/\match L2.cF z.cps.toList k with | some c=>Q (.str ⟨#[c]⟩) h | none=>False
 | _,_=>False,λf q=>by
  revert q
  split
  ·rintro⟨q0,q⟩;refine⟨q0,?_⟩;revert q
   split
   ·exact f _ _
   ·exact λz=>z
  ·exact λz=>z⟩
def Uz:M2.Ok K Yl M8:=by
 intro ι H h u v x y Q hr hu hv q;unfold M8 at q;dsimp only at q;revert q
 split
 ·rename_i z k;rintro⟨q0,q⟩;cases hu;cases hv;cases e:L2.cF z.cps.toList k with
  | none=>rw [e] at q;exact q.elim
  | some c=>rw [e] at q;exact⟨z,k,c,rfl,rfl,q0,e,q ι _ H (Go.refl _ _) hr (.str _)⟩
 ·exact Bt
def df:zP:=⟨λl h Q=>match l with
 | [.str y]=>y.length<=sizeLine/\Q (.int y.length) h
 | [.tup l]=>Q (.int l.length) h
 | [.cl l]=>Q (.int l.length) h
 | [.ref n]=>match h[n]? with
  | some (.lst xs)=>Q (.int xs.length) h
  | _=>False
 | _=>False,λf q=>by
  revert q
  split
  ·exact λq=>⟨q.1,f _ _ q.2⟩
  ·exact f _ _
  ·exact f _ _
  ·split
   ·exact f _ _
   ·exact λz=>z
  ·exact λz=>z⟩
def V0 (K:Ab):zP.Ok K (Yk K) df:=by
 intro ι H h vs l Q hr hv q;unfold df at q;dsimp only at q;revert q
 split
 ·intro q;cases hv with
  | cons x t=>cases t;cases x;exact⟨_,_,rfl,⟨q.1,rfl⟩,q.2 ι _ H (Go.refl _ _) hr (.int _)⟩
 ·intro q;cases hv with
  | cons x t=>
   cases t;cases x with
   | tup e r=>exact⟨_,_,rfl,.inr ⟨_,dR.of e,r.length.symm⟩,q ι _ H (Go.refl _ _) hr (.int _)⟩
 ·intro q;cases hv with
  | cons x t=>
   cases t;cases x with
   | cl e r=>exact⟨_,_,rfl,.inl ⟨_,e.sq,r.length.symm⟩,q ι _ H (Go.refl _ _) hr (.int _)⟩
 ·rename_i n;cases hv with
  | cons x t=>
   cases t;cases x with
   | @ref _ a e=>
   split
   ·rename_i xs hn;intro q;obtain⟨ws,e1,e2⟩:=hr.obj n a _ e hn;exact⟨_,_,rfl,.inl ⟨ws,de.of e1,e2.length.symm⟩,q ι _ H (Go.refl _ _) hr (.int _)⟩
   ·exact Bt
 ·exact Bt
inductive Kd where
 | str | tup | int | bool
def Kd.name:Kd->String
 | .str=>"str" | .tup=>"tuple" | .int=>"int" | .bool=>"bool"
def Kd.is:Kd->PV->Bool
 | .str,.str _=>true
 | .tup,.tup _=>true
 | .int,.int _=>true
 | .int,.bl _=>true
 | .bool,.bl _=>true
 | _,_=>false
def abX (K:Ab):List V->Hp->VK->Prop:=λxs H Q=>∃x c t b,xs=[x,.ty c]/\(mI K H x t\/(t=.type "tuple"/\∃a vs,x=.ref a/\dR K H a vs))/\Bw K t (.type c)=ap b/\Q (.bl b) H
def N7 (K:Ab) (hK:X.K=K):bS X (.builtin "isinstance") (abX K):=by
 subst hK;intro Z s σ H xs us Q I r h;obtain⟨x,c,t,b,rfl,ty | ⟨rfl,a,vs,rfl,hT⟩,e,q⟩:=h
 ·exact qX Z s σ H _ us Q I r ⟨x,c,t,b,rfl,ty,e,q⟩
 ·obtain⟨u,w,rfl,r1,r2⟩:=vals2 r;cases r1;cases r2;obtain⟨au,_,⟨o,h1,h2,_⟩,_⟩:=I.tuple hT;exact Bf FO I.v9 ⟨o,h1,h2⟩ e (λz=>nomatch z) λtk=>⟨.bl b,H,I.tok _,rfl,q⟩
def sf (K:Ab):(∀k:Kd,Bw K (.type "NoneType") (.type k.name)=ap false)/\(∀k:Kd,Bw K (.type "list") (.type k.name)=ap false)/\(∀k:Kd,Bw K (.type "dict") (.type k.name)=ap false):=
 ⟨λk=>by cases k <;> kernel_rfl,λk=>by cases k <;> kernel_rfl,λk=>by cases k <;> kernel_rfl⟩
def Zf (K:Ab) (b:Bool) (k:Kd):Bw K (.type "bool") (.type k.name)=ap (k.is (.bl b)):=by cases k <;> kernel_rfl
def U3 (K:Ab) (b:Int) (k:Kd):Bw K (.type "int") (.type k.name)=ap (k.is (.int b)):=by cases k <;> kernel_rfl
def U2 (K:Ab) (b:Str) (k:Kd):Bw K (.type "str") (.type k.name)=ap (k.is (.str b)):=by cases k <;> kernel_rfl
def U1 (K:Ab) (b:List PV) (k:Kd):Bw K (.type "tuple") (.type k.name)=ap (k.is (.tup b)):=by cases k <;> kernel_rfl
def HS:zP:=⟨λl h Q=>match l with | [.int i]=>Q (.int (if i < 0 then -i else i)) h | _=>False,λf q=>by
 revert q
 split
 ·exact f _ _
 ·exact λz=>z⟩
def V2:zP.Ok K (λxs H Q=>∃i,xs=[.int i]/\Q (.int (if i < 0 then -i else i)) H) HS:=by
 intro ι H h vs l Q hr hv q;unfold HS at q;dsimp only at q;revert q
 split
 ·intro q;cases hv with
  | cons x t=>cases t;cases x;exact⟨_,rfl,q ι _ H (Go.refl _ _) hr (.int _)⟩
 ·exact Bt
def KA:zP:=⟨λl h Q=>match l with | [.int i]=>Q (.int i) h | [.bl k]=>Q (.int (if k then 1 else 0)) h | _=>False,λf q=>by
 revert q
 split
 ·exact f _ _
 ·exact f _ _
 ·exact λz=>z⟩
def V1:zP.Ok K (λxs H Q=>(∃i,xs=[.int i]/\Q (.int i) H)\/∃k,xs=[.bl k]/\Q (.int (if k then 1 else 0)) H) KA:=by
 intro ι H h vs l Q hr hv q;unfold KA at q;dsimp only at q;revert q
 split
 ·intro q;cases hv with
  | cons x t=>cases t;cases x;exact .inl ⟨_,rfl,q ι _ H (Go.refl _ _) hr (.int _)⟩
 ·intro q;cases hv with
  | cons x t=>cases t;cases x;exact .inr ⟨_,rfl,q ι _ H (Go.refl _ _) hr (.int _)⟩
 ·exact Bt
def Od:zP:=⟨λl h Q=>match l with | [.int i,.int j]=>Q (.int (if j > i then j else i)) h | _=>False,λf q=>by
 revert q
 split
 ·exact f _ _
 ·exact λz=>z⟩
def Oc:zP:=⟨λl h Q=>match l with | [.int i,.int j]=>Q (.int (if j < i then j else i)) h | _=>False,λf q=>by
 revert q
 split
 ·exact f _ _
 ·exact λz=>z⟩
def VZ:zP.Ok K (λxs H Q=>∃i j,xs=[.int i,.int j]/\Q (.int (if j > i then j else i)) H) Od:=by
 intro ι H h vs l Q hr hv q;unfold Od at q;dsimp only at q;revert q
 split
 ·intro q;cases hv with
  | cons x t=>cases t with
   | cons y t=>cases t;cases x;cases y;exact⟨_,_,rfl,q ι _ H (Go.refl _ _) hr (.int _)⟩
 ·exact Bt
def VY:zP.Ok K (λxs H Q=>∃i j,xs=[.int i,.int j]/\Q (.int (if j < i then j else i)) H) Oc:=by
 intro ι H h vs l Q hr hv q;unfold Oc at q;dsimp only at q;revert q
 split
 ·intro q;cases hv with
  | cons x t=>cases t with
   | cons y t=>cases t;cases x;cases y;exact⟨_,_,rfl,q ι _ H (Go.refl _ _) hr (.int _)⟩
 ·exact Bt
end
end
end PL
variable {o:BX}
namespace PL
section
open PySem PySem.Spec PyProof.Rows L2
variable {K:Ab}
section
def PB (K:Ab):List V->Hp->VK->Prop:=λxs H Q=>∃p ys,xs=[.ref p]/\((de K H p ys/\kJ H (.tup ys) Q)\/(dR K H p ys/\Q (.ref p) H))
def N4 (K:Ab) (hK:X.K=K):bS X (.type "tuple") (PB K):=by
 subst hK;exact vB.mono λxs H Q ⟨p,ys,e,h⟩=>⟨p,ys,e,h.imp (λ⟨h1,h2⟩=>⟨h1,λl hl=>h2.at l hl⟩) λz=>z⟩
theorem wQ:∀{bs:List Bool}{vs:List V},aL K ι H vs (bs.map PV.bl)->vs=bs.map V.bl
 | [],_,h=>by cases h;rfl
 | b::bs,_,h=>by
  cases h with
  | cons x t=>cases x;rw [wQ t];rfl
structure MQL where
 run:zO->PH->(Src->PH->Prop)->Prop
 mono:∀{ps h}{Q Q':Src->PH->Prop},(∀v h',Q v h'->Q' v h')->run ps h Q->run ps h Q'
structure MO where
 run:zO->PH->(Option Int->PH->Prop)->Prop
 mono:∀{ps h}{Q Q':Option Int->PH->Prop},(∀v h',Q v h'->Q' v h')->run ps h Q->run ps h Q'
def PO.imp {e:Option ii}{t t':TO} (h:L2.PO X e t) (f:∀σ H Q,t' σ H Q->t σ H Q):L2.PO X e t':=λZ s σ H Q I q=>h Z s σ H Q I (f _ _ _ q)
def rJ (xs:List PV) (lo hi:Option Int):List PV:=(xs.drop (HT.d9 xs.length 0 lo)).take (HT.d9 xs.length xs.length hi-HT.d9 xs.length 0 lo)
def aL.cut (r:aL K ι H vs l) (lo hi:Option Int):aL K ι H (zg vs lo hi) (rJ l lo hi):=by
 unfold zg rJ;rw [r.length];exact (r.drop _).take _
end
end
end PL
variable {t1:L2.TE}{tp:Ck}
namespace PL
section
open PySem PySem.Spec PyProof.Rows L2
variable {K:Ab}
section
variable {c:ii}
def iJ (lo:Int) (n:Nat):List PV:=(Aw n).map λ(i:Nat)=>.int (lo+(i:Int))
def jA (lo:Int) (n:Nat):(iJ lo n).length=n:=by unfold iJ;simp
def qv {lo:Int}{p:PV} (h:(iJ lo n)[i]?=ap p):i < n/\p=.int (lo+i):=by
 unfold iJ at h;rw [Ak] at h;cases z:(Aw n)[i]? with
 | none=>rw [z] at h;cases h
 | some k=>
  rw [z] at h;obtain⟨h1,h2⟩:=Al.mp z;simp at h1 h2;subst h2;exact⟨h1,(Option.some.inj h).symm⟩
def qU (lo:Int) (n:Nat):List PV:=(Aw n).map λ(i:Nat)=>.int (lo-(i:Int))
def wK (lo:Int) (n:Nat):(qU lo n).length=n:=by unfold qU;simp
def wL {lo:Int}{p:PV} (h:(qU lo n)[i]?=ap p):i < n/\p=.int (lo-i):=by
 unfold qU at h;rw [Ak] at h;cases z:(Aw n)[i]? with
 | none=>rw [z] at h;cases h
 | some k=>
  rw [z] at h;obtain⟨h1,h2⟩:=Al.mp z;simp at h1 h2;subst h2;exact⟨h1,(Option.some.inj h).symm⟩
def Ts (i:Int):Prop:=-(2 ^ 62)<=i/\i < 2 ^ 62
def aey (m:MA):MI:=⟨λps h Q=>m.run ps h λl h1=>match l with | [.int j]=>Ts j/\Q ⟨iJ 0 j.toNat,λ_=>True,false⟩ h1 | _=>False,λf q=>m.mono (λl h1 q=>by
 revert q
 split
 ·exact λq=>⟨q.1,f _ _ q.2⟩
 ·exact λz=>z) q⟩
def d7 (k:Nat):List PV->List PV
 | []=>[]
 | x::l=>.tup [.int (k:Int),x]::d7 (k+1) l
theorem cB:∀(k:Nat) (l:List PV),(d7 k l).length=l.length
 | _,[]=>rfl
 | k,x::l=>by rw [d7,Ap,Ap,cB]
theorem gL:∀{k:Nat}{l:List PV}{i:Nat}{p:PV},(d7 k l)[i]?=ap p->∃x,l[i]?=ap x/\p=.tup [.int ((k+i:Nat):Int),x]
 | _,[],_,_,h=>by simp [d7] at h
 | k,x::l,0,p,h=>by simp [d7] at h;subst h;exact⟨x,rfl,by simp⟩
 | k,x::l,i+1,p,h=>by
  obtain⟨y,h1,h2⟩:=gL (k:=k+1) (l:=l) (i:=i) (p:=p) (by simpa [d7] using h);exact⟨y,by simpa using h1,by rw [h2,show k+1+i=k+(i+1) by omega]⟩
def Zs (K:Ab) (t1:TE):TI:=λσ H R=>t1 σ H λx H1=>∃a,x=.ref a/\(((∃xs,de K H1 a xs)/\R (ad6 K a) H1)\/((∃xs,dR K H1 a xs)/\R (Ite K a) H1))
def P7 {X:Cx} (K:Ab) (hK:X.K=K) {e1:ii}{kk:Nat} (hg:Gl X "enumerate") (hm:X.mg "enumerate"=bm) (h1:PE X e1 t1)
  (Io:gM X e1 []:=by rfl):PI X (.Tuple Ð kk tp) (.Call (.Name "enumerate" p1) [e1] [] p2) (Zs K t1):=by
 subst hK;intro Z s σ H R I h;refine Bz (hV I hg hm boot_enumerate ?_ ⋯ ⋯);refine Bb ?_ Io rfl;rw [Io];refine B9 (cq (h1 Z s σ H _ I h) λu1 s1 ⟨x,H1,I1,r1,a,ex,hh⟩=>Cu ?_);subst ex;cases r1;have d1:s1.heap.objs.size+1≠s1.heap.objs.size:=Nat.succ_ne_self _;rcases hh with⟨⟨xs,hx⟩,q⟩ | ⟨⟨xs,hx⟩,q⟩
 ·obtain⟨au,rx,tx,_⟩:=I1.list hx;refine call_enumerate_list tx.isList λh' ze hi _ k=>?_;refine Dv ze ?_;refine⟨_,_,_,_,H1,rfl,I1.kept (t':=s1.toks) k,IB d1,⟨⟨_,ze⟩,hi⟩,λc hc=>?_,q⟩;have Ø:s1.heap.objs.size<=c:=by
   simp only [AD,BD,or_false] at hc;rcases hc with rfl | rfl
   ·exact BR _ _
   ·exact Am _
  exact I1.yI Ø (I1.bC.fresh Ø)
 ·obtain⟨au,rx,tx,_⟩:=I1.tuple hx;have l1:=let ⟨_,e,_⟩:=tx;Au e;refine Kw tx λh' ze hi k=>?_;refine Dv ze ?_;refine⟨_,_,_,_,H1,rfl,I1.kept (t':=s1.toks) k,Mv d1 (AG (AM l1 (BR _ 1))) (AG l1),⟨⟨_,ze⟩,hi⟩,λc hc=>?_,q⟩;have Ø:s1.heap.objs.size<=c:=by
   simp only [AD,BD,or_false] at hc;rcases hc with rfl | rfl
   ·exact BR _ _
   ·exact Am _
  exact I1.yI Ø (I1.bC.fresh Ø)
def pO:List PV->List PV->List PV
 | x::l,y::m=>.tup [x,y]::pO l m
 | _,_=>[]
theorem sH:∀{l m:List PV}{i:Nat}{p:PV},(pO l m)[i]?=ap p->∃x y,l[i]?=ap x/\m[i]?=ap y/\p=.tup [x,y]
 | [],m,i,p,h=>by simp [pO] at h
 | x::l,[],i,p,h=>by simp [pO] at h
 | x::l,y::m,0,p,h=>by simp [pO] at h;subst h;exact⟨x,y,rfl,rfl,rfl⟩
 | x::l,y::m,i+1,p,h=>by
  obtain⟨u,w,h1,h2,h3⟩:=sH (l:=l) (m:=m) (i:=i) (p:=p) (by simpa [pO] using h);exact⟨u,w,by simpa using h1,by simpa using h2,h3⟩
end
end
end PL
variable {op:PySem.CmpOp}{p3 p4:Ck}
namespace PL
open PySem PySem.Spec PyProof.Rows L2
section
variable {K:Ab}
section
structure JC (X:Cx) (K:Ab) (op:CmpOp) (b:ii) (m:M2):Prop where
 p:∃r,je X (nw op) r/\M2.Ok K r m
 k:re op b=false
def QW:JC X K .Lt b oLt:=⟨⟨_,acd,HY λ_ _ _ _=>.bl _⟩,kX _⟩
def WU:JC X K .LtE b oLe:=⟨⟨_,ace,HY λ_ _ _ _=>.bl _⟩,kX _⟩
def WV:JC X K .Gt b oGt:=⟨⟨_,acf,HY λ_ _ _ _=>.bl _⟩,kX _⟩
def acN:JC X K .GtE b oGe:=⟨⟨_,acg,HY λ_ _ _ _=>.bl _⟩,kX _⟩
def QX:JC X K .Is b Qn:=⟨⟨_,YI,UA⟩,kX _⟩
def U9:JC X K .IsNot b GG:=⟨⟨_,Uo,Qm⟩,kX _⟩
end
end
theorem HM:∀{l:List PV},vA l=true↔∀x∈l,x.dat=true
 | []=>by simp [vA]
 | x::l=>by rw [vA,AO,HM];simp
section
variable {K:Ab}
section
variable {c:ii}
def RU (h:aL K ι H vs l):vs.isEmpty=l.isEmpty:=by cases h <;> rfl
def aL.rep (h:aL K ι H vs l):∀k:Nat,aL K ι H (An k vs).flatten (An k l).flatten
 | 0=>.nil
 | k+1=>by
  rw [BH,BH,B1,B1];exact h.append (h.rep k)
def PC:V->List V->Hp->VK->Prop:=λx vs H Q=>∃(l:ce) (ns:List Int) (k:Int),x=.ref l/\vs=[.int k]/\H l=ap (.lst (ns.map V.int))/\k∈ns/\zW H l (.lst ((ns.erase k).map V.int)) (Q .aN)
theorem ints_get:∀{us:List bn}{ns:List Int},tz us ns->∀(i:Nat) (hi:i < us.length),∃n t,ns[i]?=ap n/\us[i]=.int n t
 | _,_,.nil,i,hi=>by simp at hi
 | _,_,.cons _ _ r,i,hi=>by
  cases i with
  | zero=>exact⟨_,_,rfl,rfl⟩
  | succ i=>exact ints_get r i (by simpa using hi)
theorem Q9 {k:Int}:∀{ns:List Int}{m:Nat},ns[m]?=ap k->ns.idxOf k<=m
 | [],m,h=>by simp at h
 | a::ns,0,h=>by
  have:a=k:=by simpa using h
  subst this;simp
 | a::ns,m+1,h=>by
  have:=Q9 (ns:=ns) (m:=m) (by simpa using h);rw [List.idxOf_cons];by_cases c:a=k
  ·have:(a==k)=true:=by simpa using c
   rw [this];exact Bc _
  ·have c2:(a==k)=false:=by simpa using c
   rw [c2];exact Nat.succ_le_succ this
theorem wH (f:α->β):∀(l:List α) (j:Nat),(l.eraseIdx j).map f=(l.map f).eraseIdx j
 | [],_=>rfl
 | a::l,0=>rfl
 | a::l,j+1=>by
  show f a::(l.eraseIdx j).map f=f a::(l.map f).eraseIdx j;rw [wH f l j]
def isK (k:Int):bn->Bool
 | .int a _=>a==k
 | _=>false
def uW (r:Vals vs us):∀j,Vals (vs.eraseIdx j) (us.eraseIdx j):=by
 induction r with
 | nil=>intro j;exact .nil
 | cons h r ih=>
  intro j;cases j with
  | zero=>exact r
  | succ j=>exact .cons h (ih j)
theorem Ji:KU X "list.remove" PC:=by
 intro Z s σ H x vs v us Q I rx rv h;obtain⟨l,ns,k,rfl,rfl,hH,hk,q⟩:=h;cases rx;obtain⟨u,rfl,ru⟩:=rv.one;obtain⟨t,rfl⟩:=ru;obtain⟨z,au,n,r,hl,e⟩:=I.rj hH;have hi:=intsAre_of r;have Á:ns.length=au.length:=by rw [Af] at hl;omega
 have hj:=BU hk;have hej:ns.erase k=ns.eraseIdx (ns.idxOf k):=by rw [List.erase_eq_eraseIdx_of_idxOf rfl]
 refine sB F.slot_list_remove ⟨_,e,rfl⟩ F.entry_list_remove (F.args_list_remove_2 _ _) (MeetsSeq.list_remove l au.toArray n (.int k t) (isK k) (λy hy=>?_) (ns.idxOf k) (by rw [Ai];omega) ?_ (λm hm ff=>?_) (by rw [Ai];omega)) ⟨e,?_⟩
 ·have Zu:y∈au:=by simpa using hy
  obtain⟨i,W2⟩:=Fw Zu;obtain⟨h1,h2⟩:=Al.mp W2;obtain⟨n',t',g1,g2⟩:=ints_get hi i h1;rw [<- h2,g2];exact MeetsSeq.EqGives.int _ _ _ _
 ·have h1:ns.idxOf k < au.length:=by omega
  obtain⟨n',t',g1,g2⟩:=ints_get hi (ns.idxOf k) h1;have g3:ns[ns.idxOf k]?=ap k:=by rw [Ae hj,List.getElem_idxOf hj]
  rw [g3] at g1;cases g1;rw [D3,g2];simp [isK]
 ·have h1:m < au.length:=by rw [Ai] at hm;exact hm
  obtain⟨n',t',g1,g2⟩:=ints_get hi m h1;rw [D3,g2];have:n'≠k:=λz=>by
   subst z;have:=Q9 g1;omega
  simp [isK,this]
 ·refine⟨.aN,_,I.Jp (its':=au.eraseIdx (ns.idxOf k)) (ys:=(ns.erase k).map V.int) hH e (by simp [Array.toList_eraseIdxIfInBounds,<- Array.toList_inj]) ?_ ?_,rfl,q.at⟩
  ·rw [hej,wH];exact uW r _
  ·rw [hej,Af,Fv]
   split <;> omega
theorem jW:∀{ns:List Int}{vs:List V},aL K ι H vs (ns.map PV.int)->vs=ns.map V.int
 | [],_,h=>by cases h;rfl
 | b::bs,_,h=>by
  cases h with
  | cons x t=>cases x;rw [jW t];rfl
theorem o5 (ι:List ce) (H:Hp):∀ns:List Int,aL K ι H (ns.map V.int) (ns.map PV.int)
 | []=>.nil
 | n::ns=>.cons (.int n) (o5 ι H ns)
def Yg (K:Ab):List V->Hp->VK->Prop:=λxs H Q=>∃(p:ce) (ns:List Int),xs=[.ref p]/\de K H p (ns.map V.int)/\ns.length < 64/\∀ms:List Int,ms.Perm ns->ms.Pairwise (·<=·)->kJ H (.lst (ms.map V.int)) Q
theorem Kt (K:Ab) (hK:X.K=K):bS X (.builtin "sorted") (Yg K):=by
 subst hK;intro Z s σ H xs us Q I r h;obtain⟨p,ns,rfl,hq,ċ,q⟩:=h;obtain⟨u,rfl,rx⟩:=vals1 r;cases rx;obtain⟨au,r',pl,hz⟩:=I.list hq;have hi:=intsAre_of r';have hl:=r'.length;rw [Af] at hl hz;refine PyProof.Rows.sorted_ints pl.isList hi ∅ λout ms a1 a2 a3=>?_;obtain⟨e,he⟩:=sortedAll_at s.heap au out;refine⟨.ref (s.heap.objs.size+1),_,I.laid (t':=s.toks) (λ_ _=>sortedAll_old) (D2 _) (show ba X.prog X.w _ _ _ (.lst (ms.map V.int)) from⟨?_,out.toList,e,pS a1,?_⟩),rfl,(q ms a2 a3).at _ (I.bC.fresh (D2 _))⟩
 ·rw [Af,a2.length_eq];exact hz
 ·rw [Fz];exact he
end
end
end PL
variable {xs:Array A3}{a:BG}{o:F2}
namespace L2
open PySem PySem.Spec PyProof.Rows
def nB {name:Str}{Q:Option bn->cr->Prop}
  (hx:s.heap.get? a=ap o) (hc:o.cls=.type "list") (lz:o.data=.seq xs k) (hd:o.dict=bm) (ac2:FM (.type "list") name=pure bm) (ac1:(["__module__","__name__","__qualname__","__doc__","__annotations__"]:List Str).contains name=false) (hA:A.handled=bm)
  (h:∀h' tk e,Heap.NewExcOf s.heap h' e "AttributeError"->Q bm {s with heap:=h',toks:=tk}) (hsz:name.length+100<=sizeLine:=by size_fits) :
  db (dL prog w) A (getAttr? (.ref a) name) Q E s:=by
 obtain⟨c,dct,dat,sl⟩:=o;simp only at hc lz hd;subst hc lz hd;obtain⟨hp,g,d,tk,os⟩:=s;have hT:∀Ď,(⟨hp,g,d,Ď,os⟩:cr).TypeIs (.ref a) "list":=λ_=>⟨_,hx,rfl⟩;have f1:=sub_AttributeError;have f3:=Dj.lookup;have f4:=Dj.bind (.ref a);have f5:=am_list_getattr_none
 repeat (any_goals (first | assumption | exact hT _ | ((with_reducible show db _ _ (call (Value.builtin "list.__getattribute__") _ _) _ _ _);refine sB Dj (hT _) am_entry_list_getattribute (F.args_list_getattribute_2 _ _) (meets_getattribute_miss_list a xs k sl name _ ac2 ac1 hsz) ⟨hx,hA,λh' Ď e wx=>?_⟩) | wp_step))
 obtain⟨t',u',he⟩:=wx.there;unfold getattributeRaised
 repeat (any_goals (first | assumption | wp_step))
 exact h _ _ _ wx.of
end L2
variable {b d:BG}{v:A3}
namespace L2
open PySem PySem.Spec PyProof.Rows
def iO:entryFor table "dict.update.loop"=ap ut.«dict.update.loop»:=entryFor_of_fast (by kernel_rfl)
def iE:plainId "dict.update.loop"=true:=by decide +kernel
section
variable {K:Type} [DecidableEq K] {knd:KeyKind prog w K}
def zG (knd:KeyKind prog w K) (h:mo) (it d:ce) (v:bn) (x:List K×ce×bn):Prop:=
 ∃pa o n,v=.ref pa/\pa≠it/\pa≠d/\x.2.1≠it/\x.2.1≠d/\h.get? pa=ap o/\o.cls=.type "tuple"/\o.data=.seq #[.ref x.2.1,x.2.2] n/\(nn knd).is h x.1 x.2.1
def xj {k:List K} (x:(nn knd).is h k b) (kp:∀o,h.get? b=ap o->h'.get? b=ap o):(nn knd).is h' k b:=by
 obtain⟨o,au,n,h1,h2⟩:=x;exact⟨o,au,n,kp _ h1,h2⟩
def zG.keep {x:List K×ce×bn} (p:zG knd h it d v x) (kp:∀b o,b≠it->b≠d->h.get? b=ap o->h'.get? b=ap o):zG knd h' it d v x:=by
 obtain⟨pa,o,n,e,n1,n2,n3,n4,h1,h2,h3,h4⟩:=p;exact⟨pa,o,n,e,n1,n2,n3,n4,kp _ _ n1 n2 h1,h2,h3,xj h4 λo q=>kp _ _ n3 n4 q⟩
def zb {xs:List (List K×ce×bn)} (m:h.DictOfH (nn knd) d xs) (hd:d≠it) (hx:∀x∈xs,x.2.1≠it) (kp:∀b o,b≠it->h.get? b=ap o->h'.get? b=ap o):h'.DictOfH (nn knd) d xs:=by
 obtain⟨o,es,ep,ho,hc,Ŋ,he,his,hn⟩:=m;exact⟨o,es,ep,kp _ _ hd ho,hc,Ŋ,he,λx q=>xj (his x q) λo z=>kp _ _ (hx x q) z,hn⟩
def Ga {xs:List (List K×ce×bn)}{k:List K} (hx:∀x∈xs,x.2.1≠it) (hb:b≠it):∀x∈Ch xs k b v,x.2.1≠it:=by
 intro x q;unfold Ch at q
 split at q
 ·obtain⟨y,hy,rfl⟩:=Ar.mp q;have e:(putAt k v y).2.1=y.2.1:=by unfold putAt;split <;> rfl
  rw [e];exact hx y hy
 ·rcases A9.mp q with q | q
  ·exact hx x q
  ·rw [A8.mp q];exact hb
def Gb {xs:List (List K×ce×bn)}{k:List K}:(Ch xs k b v).length<=xs.length+1:=by
 unfold Ch
 split <;> simp
theorem zV (hA:A.handled=bm) (hu:A.units+1 < pc) {l:ce} (hz:items.size+items.size<=sizeLine) (ŉ:d≠it) (hli:l≠it) (hld:l≠d) :
  ∀(k i:Nat) (ys xs:List (List K×ce×bn)) (s:cr),items.size-i=k->i<=items.size->ys.length=items.size-i->xs.length<=i->s.heap.IsListIter it l i->s.heap.IsList l items->s.heap.DictOfH (nn knd) d xs->(∀x∈xs,x.2.1≠it)->
   (∀j x,ys[j]?=ap x->∃v,items[i+j]?=ap v/\zG knd s.heap it d v x)->
   (∀h' tk,h'.DictOfH (nn knd) d (ys.foldl (λa y=>Ch a y.1 y.2.1 y.2.2) xs)->(∀b o,b≠it->b≠d->s.heap.get? b=ap o->h'.get? b=ap o)->R (.ok (.ret .none)) {s with heap:=h',toks:=tk})->
   Ev (dL prog w) A (.builtin "dict.update.loop" ⟨[.ref d,.ref it,ss i,.none],[]⟩) R s:=by
 intro k
 induction k with
 | zero=>
  intro i ys xs s hk hi hy hxl Î hl hd hx hp q;have e0:ys=[]:=Cf ∅;subst e0;refine GM iO ?_;refine Aa (wpAny_pyNext_list_end (A:=A.in1) hA Î hl (by rw [CT];omega) λh' ex=>?_);have kp:=ex;exact Aa (Ad (Ad (q h' s.toks (zb hd ŉ hx kp) λb o n1 _ e=>kp b o n1 e)))
 | succ k ih=>
  intro i ys xs s hk hi hy hxl Î hl hd hx hp q
  match ys,hy,hp,q with
  | [],hy,_,_=>exact absurd hy (by simp only [Bk];omega)
  | y::ys,hy,hp,q=>
  obtain⟨v,hv,pa⟩:=hp 0 y rfl;refine GM iO ?_;refine Aa (wpAny_pyNext_list_item Î hl (by simpa using hv) λh1 ahn sb=>?_);have U0:∀b o,b≠it->s.heap.get? b=ap o->h1.get? b=ap o:=λb o hb e=>(sb.2 b hb).trans e;have pa1:=pa.keep λb o n1 _ e=>U0 b o n1 e;have Ĉ:=zb hd ŉ hx U0;have Ł:h1.IsList l items:=let ⟨o,e,p⟩:=hl;⟨o,U0 _ _ hli e,p⟩;obtain⟨p,o,n,rfl,n1,n2,n3,n4,g1,g2,g3,g4⟩:=pa1;refine Aa (Bd (Aa (En ?_)));refine Aa (CO (T:="tuple") ⟨_,g1,g2⟩ ?_);refine Aa (Bx g1 g3 (Ad ?_));refine Bd (wpAny_dictSet_heap (knd:=nn knd) (tupleKind_room_in1 hu) g4 Ĉ (λh2 Ô sb2=>?_) ∅);have ı:∀b o,b≠d->h1.get? b=ap o->h2.get? b=ap o:=λb o hb e=>(sb2.2 b hb).trans e;refine Ad ⟨ww iE _,?_⟩;have kp:∀b o,b≠it->b≠d->s.heap.get? b=ap o->h2.get? b=ap o:=λb o a1 a2 e=>ı _ _ a2 (U0 _ _ a1 e);refine ih (i+1) ys (Ch xs y.1 y.2.1 y.2.2) _ ∅ ∅ (by rw [Ap] at hy;omega) (AV Gb ∅) ?_ ?_ Ô (Ga hx n3) (λj x hj=>?_) (λh' tk dd k3=>?_)
  ·obtain⟨o',e1,e2⟩:=ahn;exact⟨o',ı _ _ (BP ŉ) e1,e2⟩
  ·obtain⟨o',e1,e2⟩:=Ł;exact⟨o',ı _ _ hld e1,e2⟩
  ·obtain⟨v',h3,h4⟩:=hp (j+1) x hj;exact⟨v',by rw [show i+1+j=i+(j+1) by omega];exact h3,h4.keep kp⟩
  ·exact q h' tk dd λb o a1 a2 e=>k3 b o a1 a2 (kp b o a1 a2 e)
end
def xQ:FM (.type "list") (BB "keys")=pure bm:=am_miss_of_fast (by decide +kernel)
section
variable {K:Type} [DecidableEq K] {knd:KeyKind prog w K}
theorem rK {l:ce}{ys:List (List K×ce×bn)} (hA:A.handled=bm) (hu:A.units+2 < pc) (ho:s.heap.get? l=ap o) (hc:o.cls=.type "list") (lz:o.data=.seq items n) (hd:o.dict=bm)
  (hz:items.size+items.size<=sizeLine) (hy:ys.length=items.size)
  (hp:∀(j:Nat) (x:List K×ce×bn),ys[j]?=ap x->∃(pa:ce) (op:Obj) (m:Nat),items[j]?=ap (AB pa)/\s.heap.get? pa=ap op/\op.cls=.type "tuple"/\op.data=.seq #[AB x.2.1,x.2.2] m/\(nn knd).is s.heap x.1 x.2.1)
  (q:∀h' tk,(∀b o,s.heap.get? b=ap o->h'.get? b=ap o)->h'.DictOfH (nn knd) s.heap.objs.size (ys.foldl (λa y=>Ch a y.1 y.2.1 y.2.2) [])->Q (.ref s.heap.objs.size) {s with heap:=h',toks:=tk}) :
  db (dL prog w) A (call (.type "dict") [.ref l]) Q E s:=by
 refine callType_codes (Q₁:=λobj s₁=>obj=.ref s.heap.objs.size/\s₁={s with heap:=s.heap.push {cls:=.type "dict",data:=.dict #[]}}) F.kt_called_dict (F.kt_typeCall_dict_1 _) F.entry_dict_init (kt_code_dict_new _ ⟨rfl,rfl⟩) ?_;rintro obj s₁ ⟨rfl,rfl⟩;have Ě:∀b o,s.heap.get? b=ap o->(s.heap.push {cls:=.type "dict",data:=.dict #[]}).get? b=ap o:=λb o e=>Ag _ e;have Vm:(s.heap.push {cls:=.type "dict",data:=.dict #[]}).DictOf knd s.heap.objs.size []:=Heap.DictOf.new s.heap;have ac0:(s.heap.push {cls:=.type "dict",data:=.dict #[]}).DictOfH (nn knd) s.heap.objs.size []:=⟨_,#[],0,Ao _ rfl,⟨rfl,rfl,rfl⟩,rfl,rfl,λx hx=>absurd hx (BD),Ew⟩;have ls:∀b o,s.heap.get? b=ap o->b≠s.heap.objs.size:=λb o e z=>by subst z;exact A2 _ (Au e)
 refine⟨Vm.typeIs,F.args_dict_init_2 _ _,?_⟩;refine Aa ?_;refine Aa (DG Vm.typeIs ?_);refine Ad ?_;refine Aa (CO (T:="list") ⟨_,Ě _ _ ho,hc⟩ ?_);refine Aa (nB (Ě _ _ ho) hc lz hd xQ (by decide +kernel) hA (λh1 tk e nx=>?_) ⋯);refine Aa (C7 (Aa ?_));refine C3 (items:=items) ⟨_,nx.keeps _ _ (Ě _ _ ho),hc,n,lz⟩ ?_;have hsz:=Au (nx.keeps _ _ (Ao s.heap rfl));have U0:∀b o,s.heap.get? b=ap o->(h1.push {cls:=.type "list_iterator",data:=.fields #[.ref l,.int 0 0]}).get? b=ap o:=λb o e=>Ag _ (nx.keeps _ _ (Ě _ _ e));have ni:∀b o,s.heap.get? b=ap o->b≠h1.objs.size:=λb o e z=>by
  have h3:=Au e;subst z;exact A2 _ (Nat.lt_trans h3 hsz)
 refine Ad ⟨ww iE _,?_⟩;refine zV (A:=A.in1) (knd:=knd) hA (by show A.units+1+1 < _;omega) (items:=items) (d:=s.heap.objs.size) (it:=h1.objs.size) (l:=l) hz (AG hsz) (ni _ _ ho) (ls _ _ ho) items.size 0 ys [] _ (FU _) (Bc _) (by rw [hy];rfl) (Am _)
  ⟨_,Ao _ rfl,rfl,rfl⟩ ⟨_,U0 _ _ ho,hc,n,lz⟩ ?_ (λx hx=>nomatch hx) (λj x hj=>?_) (λh' Ď dd kp=>?_)
 ·refine zb (it:=h1.objs.size) ac0 (AG hsz) (λx hx=>nomatch hx) λb o _ e=>Ag _ (nx.keeps _ _ e)
 ·obtain⟨pa,op,m,e1,e2,e3,e4,e5⟩:=hp j x hj;have kb:∃ob,s.heap.get? x.2.1=ap ob:=let ⟨ob,_,_,z,_⟩:=e5;⟨ob,z⟩;obtain⟨ob,eb⟩:=kb;exact⟨.ref pa,by rw [AI];exact e1,pa,op,m,rfl,ni _ _ e2,ls _ _ e2,ni _ _ eb,ls _ _ eb,U0 _ _ e2,e3,e4,xj e5 λo z=>U0 _ _ z⟩
 ·exact⟨rfl,q h' Ď (λb o e=>kp b o (ni _ _ e) (ls _ _ e) (U0 _ _ e)) dd⟩
end
structure Pz where
 pa:ce
 k:List Key
 b:ce
 v:V
def Pz.At (H:Hp) (z:Pz):Prop:=H z.pa=ap (.tup [.ref z.b,z.v])/\H z.b=ap (.tup (z.k.map kV))
def Yo (K:Ab):List V->Hp->VK->Prop:=λxs H Q=>∃(p:ce) (zs:List Pz),xs=[.ref p]/\de K H p (zs.map λz=>.ref z.pa)/\(∀z∈zs,z.At H)/\(zs.map (·.k)).Nodup/\zs.length<=1000/\kJ H (.dT (zs.map λz=>(z.k,z.v))) Q
theorem qQ {K:Type} [DecidableEq K]:∀(ys xs:List (K×ce×bn)),((xs++ys).map (·.1)).Nodup->ys.foldl (λa y=>Ch a y.1 y.2.1 y.2.2) xs=xs++ys
 | [],xs,_=>by simp
 | y::ys,xs,h=>by
  have hn:atKey xs y.1=bm:=by
   cases e:atKey xs y.1 with
   | none=>rfl
   | some p=>
    exfalso;rw [Az,Aq] at h;have h2:=(List.nodup_append.mp h).2.2;have hm:y.1∈xs.map (·.1):=by
     by_cases hc:y.1∈xs.map (·.1)
     ·exact hc
     ·rw [atKey_none_of_get (λj q hj=>?_)] at e
      ·cases e
      ·exact hc (Ar.mpr ⟨_,Bo hj,rfl⟩)
    exact h2 _ hm _ BA rfl
  rw [Dn,storedH_new hn,qQ ys (xs++[(y.1,y.2.1,y.2.2)]) (by simpa using h)];simp
section
theorem Kx (K:Ab) (hK:X.K=K) (hc:X.calm=true) (hu:X.A.units+2 < pc):bS X (.type "dict") (Yo K):=by
 subst hK;intro Z s σ H xs us Q I r h;obtain⟨p,zs,rfl,hq,hz,hn,hl,q⟩:=h;obtain⟨u,rfl,rx⟩:=vals1 r;cases rx;obtain⟨au,rv,pl,hsz⟩:=I.list hq;obtain⟨o,n,ho,í,hd,lz⟩:=pl;have č:∀(zs:List Pz) (au:List bn),(∀z∈zs,z.At H)->Vals (zs.map λz=>V.ref z.pa) au->∃ys:List (List Key×ce×bn),ys.map (·.1)=zs.map (·.k)/\KT H (zs.map λz=>(z.k,z.v)) ys/\
   ∀(j:Nat) (x:List Key×ce×bn),ys[j]?=ap x->∃(pa:ce) (op:Obj) (m:Nat),au[j]?=ap (AB pa)/\s.heap.get? pa=ap op/\op.cls=.type "tuple"/\op.data=.seq #[AB x.2.1,x.2.2] m/\(nn (bT X.prog X.w)).is s.heap x.1 x.2.1:=by
  intro zs
  induction zs with
  | nil=>intro au _ _;exact⟨[],rfl,.nil,λj x h=>by simp at h⟩
  | cons z zs ih=>
   intro au ha hv;cases hv with
   | @cons _ u _ us ru rus=>
   cases ru;obtain⟨ys,e1,e2,e3⟩:=ih us (λy hy=>ha y (A4 _ hy)) rus;obtain⟨a1,a2⟩:=ha z BA;obtain⟨_,its',r',op,h1,h2,m,h3⟩:=(show ba X.prog X.w H s.heap z.pa (.tup [.ref z.b,z.v]) from I.bC _ _ a1);obtain⟨w,rfl,xA⟩:∃w,its'=[AB z.b,w]/\RelV z.v w:=by
    cases r' with
    | cons q1 q2=>cases q1;cases q2 with
     | cons q3 q4=>cases q4;exact⟨_,rfl,q3⟩
   refine⟨(z.k,z.b,w)::ys,by rw [Aq,Aq,e1],.cons ⟨rfl,a2,xA⟩ e2,λj x hj=>?_⟩;cases j with
   | zero=>
    cases hj;exact⟨z.pa,op,m,rfl,h1,h2,h3,xV I.bC a2⟩
   | succ j=>exact e3 j x hj
 obtain⟨ys,e1,e2,e3⟩:=č zs au hz rv;have Á:=rv.length;rw [Af] at Á;have Ĝ:ys.length=zs.length:=by have:=congrArg BS e1;simpa using this
 have hs:(1000:Nat)+1000<=sizeLine:=by decide
 refine rK (knd:=bT X.prog X.w) (items:=au.toArray) (ys:=ys) (I.ok.hd hc) hu ho í lz hd (by rw [Ai];omega) (by rw [Ai];omega) (λj x hj=>?_) (λh' tk kp dd=>?_)
 ·obtain⟨pa,op,m,g1,g2⟩:=e3 j x hj;exact⟨pa,op,m,by rw [Fm];exact g1,g2⟩
 ·rw [qQ ys [] (by rw [Dm,e1];exact hn),Dm] at dd;obtain⟨od,es,ep,ġ,h2,h3,h4,_,h5⟩:=dd;have ahA:=beq_eq_false_iff_ne.mpr (BP (AG I.big));have fr:=I.bC.fresh (Am s.heap.objs.size);refine⟨.ref s.heap.objs.size,_,I.laid (t':=tk) kp (Am _) (show ba X.prog X.w (upd H s.heap.objs.size (.dT (zs.map λz=>(z.k,z.v)))) h' _ (.dT _) from⟨?_,ahA,ys,?_,od,es,ep,ġ,h2,h3,h4,h5⟩),rfl,q.at _ fr⟩
  ·rw [Af];exact AV hl ⋯
  ·refine e2.keeps λc xs ec=>?_;rw [ax (λz=>by subst z;rw [fr] at ec;cases ec)];exact ec
end
end L2
variable {es:Array PySem.DictEntry}{ep:Nat}
namespace L2
open PySem PySem.Spec PyProof.Rows
section
def pG (h:mo) (d:ce) (es:Array DictEntry) (ep:Nat):Prop:=∃o,h.get? d=ap o/\o.ExactDict/\o.data=.dict es ep
theorem Qq {Q:Option bn->cr->Prop} (Î:s.heap.IsKeyIter it d i es.size ep) (hm:pG s.heap d es ep) (hi:i < es.size)
  (q:∀h',h'.IsKeyIter it d (i+1) es.size ep->BN it s.heap h'->Q (ap es[i].key) {s with heap:=h'}):db (dL prog w) A (FS (.ref it)) Q E s:=by
 have ty:=Î.typeIs;obtain⟨o,ho,hc,hd⟩:=id Î;obtain⟨od,zK,-,zL⟩:=hm;have Hh:(s.heap.update it (DU (·.setIfInBounds 1 (ss ((i:Int)+1))))).IsKeyIter it d (i+1) es.size ep:=⟨_,BJ _ ho (DE (Cn hd _)),(EG ..).trans hc,by rw [Cn hd];simp [ss]⟩;refine Aa (CC (AN (name:=BB "__next__") ty BO (A1 BO ty DV ?_ (DM _))));refine Aa (Ad (Aa (Aa ?_)))
 first | refine Aa (Cc ty (Ad ?_)) | refine Aa (CB ty (Ad ?_))
 refine Aa (Er ho hd ?_);show db _ _ (if (AB d==AL)=true then _ else _) _ _ s;rw [if_neg (λz:(AB d==AL)=true=>AR z)];refine Aa (Ad (Aa (Cw zK zL ?_)));rw [if_neg (by simp)];refine Aa (Ad (Aa (CV zK zL ?_)));rw [if_neg (by simp)];refine Ad ?_;have i0:¬((i:Int) < 0):=by omega
 simp only [i0,if_false,AW,Bq hi];refine Aa ?_
 first | refine Aa (Cc ty (Ad ?_)) | refine Aa (CB ty (Ad ?_))
 refine Aa (wpAny_isOneOf_keyiter ty ?_);show db _ _ (wn (.ref it) 1 (ss ((i:Int)+1)) >>= _) _ _ s;refine Aa (C6 ho hd (by simp) (Aa (Bd (Aa (wpAny_isOneOf_keyiter (s:={s with heap:=s.heap.update it (DU (·.setIfInBounds 1 (ss ((i:Int)+1))))}) Hh.typeIs ?_)))));exact Ad (Ad ⟨_,rfl,Ad (q _ Hh (BN.update ..))⟩)
theorem VE {Q:Option bn->cr->Prop} (hh:A.handled=bm) (Î:s.heap.IsKeyIter it d i es.size ep) (hm:pG s.heap d es ep) (hi:es.size<=i)
  (q:∀h',EH it s.heap h'->Q bm {s with heap:=h'}):db (dL prog w) A (FS (.ref it)) Q E s:=by
 have ty:=Î.typeIs;obtain⟨o,ho,hc,hd⟩:=id Î;obtain⟨od,zK,-,zL⟩:=hm;refine Aa (CC (AN (name:=BB "__next__") ty BO (A1 BO ty DV ?_ (DM _))));refine Aa (Ad (Aa (Aa ?_)))
 first | refine Aa (Cc ty (Ad ?_)) | refine Aa (CB ty (Ad ?_))
 refine Aa (Er ho hd ?_);show db _ _ (if (AB d==AL)=true then _ else _) _ _ s;rw [if_neg (λz:(AB d==AL)=true=>AR z)];refine Aa (Ad (Aa (Cw zK zL ?_)));rw [if_neg (by simp)];refine Aa (Ad (Aa (CV zK zL ?_)));rw [if_neg (by simp)];refine Ad ?_;have i0:¬((i:Int) < 0):=by omega
 simp only [i0,if_false,AW,CT hi];refine Aa ?_
 first | refine Aa (Cc ty (Ad ?_)) | refine Aa (CB ty (Ad ?_))
 show db _ _ (wn (.ref it) 0 .none >>= _) _ _ s;refine Aa (C6 ho hd (by simp) ?_);refine Aa ?_;refine Aa (AE (Aa (m:=firstArgMember _ _) (Cv (a:=AL) (by first | rfl | (simp only [firstArgMember];rfl)) (AE ?_ (by size_fits)))) (by size_fits));unfold raiseNew;refine Aa (FK ?_);rw [show A.in1.handled=bm from hh];refine Aa (Ad (wpAny_throw ?_));refine Aa (Dc (T:="StopIteration") (b:=true) ⟨_,Ao _ rfl,rfl⟩ isSubtype_stop ?_);exact Ad (q _ (((BN.update ..).extBut.push _).push _))
def Q1 (hs:(d==sw)=false) (hm:pG s.heap d es ep)
  (q:Q (.ref s.heap.objs.size) {s with heap:=s.heap.push {cls:=.type "dict_keyiterator",data:=.fields #[.ref d,.int 0 0,.int es.size 0,.int ep 0]}}):db (dL prog w) A (pyIter (.ref d)) Q E s:=by
 obtain⟨od,zK,hx,zL⟩:=hm;have ty:s.TypeIs (.ref d) "dict":=⟨_,zK,hx.1⟩;refine wpAny_pyIter_slot ty F.slot_dict_iter (A1 F.slot_dict_iter ty F.entry_dict_iter ?_ (F.args_dict_iter_1 _));refine Aa ?_;refine Aa (DG ty ?_);refine Ad ?_;show db _ _ (Builtin.Dict.showsAll d >>= _) _ _ s;unfold Builtin.Dict.showsAll;rw [if_neg (by rw [hs];exact AR)];refine Aa (Ad (Aa (Cw zK zL (Aa (CV zK zL ?_)))));exact Aa (AE (Ad ⟨_,rfl,"dict_keyiterator",_,⟨_,Ao _ rfl,rfl⟩,BO.lookup,q⟩))
end
end L2
variable {u:L2.HO}
namespace L2
open PySem PySem.Spec PyProof.Rows
section
variable {σ:St}
def Inv.freeze (I:Inv X Z σ H s) (e:H a=ap (.dT kvs)):∃o,Inv X Z σ (upd H a (.cV o (.dT kvs))) s:=by
 obtain⟨z,hs,xs,r,o,es,ep,h1,h2,h3,h4,h5⟩:=(show ba X.prog X.w H s.heap a (.dT kvs) from I.bC a _ e);refine⟨o,?_⟩;have q:=I.write (x:=a) (e:=a) (o:=.cV o (.dT kvs)) (h':=s.heap) (t':=s.toks) (by rw [e];exact Cm) (.inl rfl) (λb u _ z=>z) ⟨o,h1⟩
  ⟨h1,z,hs,xs,KT.keeps r λb ys eb=>by rw [ax (LD eb e (λz=>nomatch z))];exact eb,o,es,ep,h1,h2,h3,h4,h5⟩
 exact q
def Inv.afX (I:Inv X Z σ H s) (e:H a=ap (.cV o u)) (h0:∀o u,X.H₀ a≠ap (.cV o u)) (hu:ba X.prog X.w (upd H a u) s.heap a u) (bC:my X.prog X.w (upd H a u) s.heap):Inv X Z σ (upd H a u) s:=by
 have ne:∀b v,H b=v->v≠ap (.cV o u)->b≠a:=λb v q n z=>by subst z;exact n (q.symm.trans e)
 refine⟨I.ok,I.os,I.bare,⟨I.base.keep,I.base.slot,λb ob q n hx=>?_,I.base.there,λb xs q=>?_,λb ob xs q=>?_,λb ps q=>?_⟩,I.loc,I.cell,?_,λx c q=>?_,λp hp=>?_,bC,I.len⟩
 ·have:=I.base.free b ob q n hx;rw [ax (ne b _ this (by simp))];exact this
 ·have:=I.base.eS b xs q;rw [ax (ne b _ this (by simp))];exact this
 ·have:=I.base.uj b ob xs q;have hb:b≠a:=λz=>by subst z;exact h0 _ _ q
  rw [ax hb];exact this
 ·obtain⟨m,this⟩:=I.base.xk b ps q;exact⟨m,by rw [ax (ne b _ this (by simp))];exact this⟩
 ·rw [ax (ne _ _ I.free (by simp))];exact I.free
 ·rw [ax (ne _ _ (I.kD x c q) (by simp))];exact I.kD x c q
 ·obtain⟨p1,p2,p3⟩:=I.pin p hp;exact⟨p1,by rw [ax (ne _ _ p2 (by simp))];exact p2,p3⟩
def Rf (ok:my P w H h) (e:H a=ap (.cV o u)):my P w (upd H a u) h:=λb u' q=>by
 have ne:∀c v,H c=ap v->v≠.cV o u->upd H a u c=ap v:=λc v z n=>by
  rw [ax (λy=>by subst y;rw [e] at z;cases z;exact n rfl)];exact z
 by_cases hb:b=a
 ·subst hb;rw [aU] at q;cases q;exact ba.xn (ok b _ e).2 (λ_ _ _ z=>z) (λc z=>ne c _ z (by simp)) λc xs z=>ne c _ z (by simp)
 ·rw [ax hb] at q;exact ba.xn (ok b _ q) (λ_ _ _ z=>z) (λc z=>ne c _ z (by simp)) λc xs z=>ne c _ z (by simp)
end
def ad7 (a:ce) (o:Obj):It:=
 ⟨λi H=>∃kvs,H a=ap (.cV o (.dT kvs))/\i < kvs.length,λi H x H'=>H'=H/\∀kvs,H a=ap (.cV o (.dT kvs))->∃b k v,x=.ref b/\kvs[i]?=ap (k,v)/\H b=ap (.tup (k.map kV)),λi H=>∃kvs,H a=ap (.cV o (.dT kvs))/\kvs.length<=i⟩
theorem Ry (x:ba P w H h a (.cV o (.dT kvs))) (hd:o.data=.dict es ep) :
  pG h a es ep/\es.size=kvs.length/\∀(i:Nat) (hi:i < es.size),∃b k v,es[i].key=.ref b/\kvs[i]?=ap (k,v)/\H b=ap (.tup (k.map kV)):=by
 obtain⟨e,z,hs,xs,r,o',Ħ,ħ,h1,h2,h3,h4,h5⟩:=x;rw [e] at h1;cases h1;rw [hd] at h3;cases h3;have hl:es.size=xs.length:=by have:=congrArg BS h4;simpa using this
 refine⟨⟨o,e,h2,hd⟩,hl.trans (Paired.length r).symm,λi hi=>?_⟩;have hx:xs[i]?=ap (xs[i]'∅):=Ae _;have pg:∀{l:List (List Key×V)}{m:List (List Key×ce×bn)}{i:Nat}{q:List Key×ce×bn},KT H l m->m[i]?=ap q->∃v,l[i]?=ap (q.1,v)/\H q.2.1=ap (.tup (q.1.map kV)):=by
  intro l m i q t
  induction t generalizing i with
  | nil=>intro h;simp at h
  | @cons p q' ps qs hq t ih=>
   intro h;cases i with
   | zero=>
    cases h;obtain⟨p1,p2⟩:=p;have e1:=hq.1;subst e1;exact⟨p2,rfl,hq.2.1⟩
   | succ i=>exact ih (by simpa using h)
 obtain⟨v,g1,g2⟩:=pg r hx;refine⟨_,_,v,?_,g1,g2⟩;have:es[i]=entryOfKey (nn (bT P w)) (xs[i]'∅):=by
  have h6:es.toList[i]?=ap (entryOfKey (nn (bT P w)) (xs[i]'∅)):=by rw [h4,Ak,hx];rfl
  rw [B7,Bq hi] at h6;exact Option.some.inj h6
 rw [this];rfl
theorem Mw {K:Ab} (a it:ce) (o:Obj) (hd:o.data=.dict es ep):Turn P w K tg (ad7 a o) [it] it (λi h=>h.IsKeyIter it a i es.size ep) where
 mem:=by simp
 obj:=λi h st b hb=>by
  have e:b=it:=by simpa using hb
  subst e;obtain⟨o,e,c,d⟩:=st;exact⟨o,e,λv z=>by rw [d] at z;cases z⟩
 keep:=λi h h' st k=>st.at λo e=>k it (by simp) o e
 item:=by
  intro X hP hw hK hc i Z s σ H E I hf st hg;subst hP hw hK;obtain⟨kvs,hq,hx⟩:=hg;obtain⟨ã,hl,ky⟩:=Ry (I.bC a _ hq) hd;obtain⟨b,k,v,k1,k2,k3⟩:=ky i ∅;obtain⟨f0,f1,f2,f3,f4,f5⟩:=hf it (by simp);refine Qq st ã ∅ λh' rS sb=>?_;have I1:Inv X Z σ H {s with heap:=h'}:=I.turned (t':=s.toks) (λb o hb e=>(sb.2 b hb).trans e) f0 f1 f3 f4 f5;obtain⟨oi,e,c,d⟩:=id rS;refine⟨_,rfl,Hj (s:={s with heap:=h'}) e c d ⋯ ⟨.ref b,H,I1,k1,⟨rfl,λakJ ġ=>?_⟩,rS,λb hb=>(hf b hb).1⟩⟩;rw [hq] at ġ;cases ġ;exact⟨b,k,v,rfl,k2,k3⟩
 done:=by
  intro X hP hw hK hc i Z s σ H E I hf st hg;obtain⟨kvs,hq,hx⟩:=hg;obtain⟨ã,hl,ky⟩:=Ry (I.bC a _ hq) hd;obtain⟨f0,f1,f2,f3,f4,f5⟩:=hf it (by simp);exact VE (I.ok.hd hc) st ã ∅ λh' eb=>⟨rfl,I.turned (t':=s.toks) (λb o hb e=>eb b o hb e) f0 f1 f3 f4 f5⟩
 self:=λ_ _ _ _ _ st h=>wpAny_pyIter_keyiter st h
def Zt (tl:TE):TI:=λσ H R=>tl σ H λx H1=>∃a o kvs,x=.ref a/\H1 a=ap (.cV o (.dT kvs))/\R (ad7 a o) H1
def P8 {l:ii} (hl:PE X l tl):PI X tg l (Zt tl):=by
 intro Z s σ H R I h;refine cq (hl Z s σ H _ I h) λv s1 ⟨x,H1,I1,r1,q1⟩=>?_;obtain⟨a,o,kvs,e,hq,q⟩:=q1;subst e;cases r1;obtain⟨eo,z,hs,xs,r,o',es,ep,h1,h2,h3,h4,h5⟩:=(show ba X.prog X.w H1 s1.heap a (.cV o (.dT kvs)) from I1.bC a _ hq);rw [eo] at h1;cases h1;refine Q1 hs ⟨o,eo,h2,h3⟩ ?_;refine⟨s1.heap.objs.size,[s1.heap.objs.size],_,_,H1,rfl,I1.kept (t':=s1.toks) λb o e=>Ag _ e,Mw a _ o h3,⟨_,Ao _ rfl,rfl,rfl⟩,λb hb=>?_,q⟩;have e:b=s1.heap.objs.size:=by simpa using hb
 subst e;exact I1.yI (Am _) (I1.bC.fresh (Am _))
end L2
variable {v:PL.PV}{φ:List L2.V->Prop}
noncomputable section
namespace FL
section
open PySem PySem.Spec PyProof.Rows L2 PL
variable {K:Ab}
structure W (α:Type) where
 run:(α->Prop)->Prop
 mono:∀{Q Q':α->Prop},(∀a,Q a->Q' a)->run Q->run Q'
namespace W
variable {α β γ:Type}
def ext' {a b:W α} (h:∀Q,a.run Q↔b.run Q):a=b:=by
 cases a;cases b;congr;funext Q;exact propext (h Q)
noncomputable def ret (a:α):W α:=⟨λQ=>Q a,λh q=>h _ q⟩
noncomputable def bind (w:W α) (k:α->W β):W β:=⟨λQ=>w.run λa=>(k a).run Q,λh q=>w.mono (λa q=>(k a).mono h q) q⟩
def fail:W α:=⟨λ_=>False,λ_ q=>q⟩
def fj (p:Prop) (w:W α):W α:=⟨λQ=>p/\w.run Q,λh q=>⟨q.1,w.mono h q.2⟩⟩
def any (p:α->Prop):W α:=⟨λQ=>∀a,p a->Q a,λh q a pa=>h a (q a pa)⟩
def Im:Option α->W α
 | some a=>ret a
 | none=>fail
@[simp] theorem af (a:α) (k:α->W β):bind (ret a) k=k a:=(rfl)
@[simp] theorem bind_assoc (w:W α) (f:α->W β) (g:β->W γ):bind (bind w f) g=bind w λa=>bind (f a) g:=(rfl)
@[simp] theorem adZ (w:W α):bind w ret=w:=(rfl)
@[simp] theorem aaR (k:α->W β):bind fail k=fail:=(rfl)
@[simp] theorem aj (a:α) (Q:α->Prop):(ret a).run Q=Q a:=(rfl)
@[simp] theorem run_bind (w:W α) (k:α->W β) (Q:β->Prop):(bind w k).run Q=w.run λa=>(k a).run Q:=(rfl)
@[simp] theorem abJ (Q:α->Prop):(fail:W α).run Q=False:=(rfl)
@[simp] theorem aen (p Q:α->Prop):(any p).run Q=∀a,p a->Q a:=(rfl)
@[simp] theorem Tw (p:Prop) (w:W α) (Q:α->Prop):(fj p w).run Q=(p/\w.run Q):=(rfl)
@[simp] theorem Se (p:Prop) (w:W α) (k:α->W β):bind (fj p w) k=fj p (bind w k):=(rfl)
def aq {p:Prop}{w:W α} (h:p):fj p w=w:=ext' λQ=>⟨λq=>q.2,λq=>⟨h,q⟩⟩
@[simp] theorem adT {w:W α}:fj True w=w:=aq trivial
@[simp] theorem aD (a:α):Im (ap a)=ret a:=(rfl)
@[simp] theorem acj:Im (bm:Option α)=fail:=(rfl)
end W
inductive SL where
 | val (v:PV) | adr (b:ce) | ol (q:Option ce) (l:List PV) | oll (bs:List ce) (ls:List (List PV)) | od (kvs:List (Key×PV)) | ot (kvs:List (List Key×PV)) | qb (φ:List V->Prop)
abbrev bj:=List (Option SL)
def SL.own:SL->Bool
 | .val _=>false
 | .adr _=>false
 | _=>true
def SL.WW:SL->List ce
 | .oll bs _=>bs
 | _=>[]
def SL.has (s:SL) (x a:ce):Prop:=a=x\/a∈s.WW
def kE (K:Ab) (H:Hp) (a:ce):SL->Prop
 | .val _=>False
 | .adr b=>a=b
 | .oll bs ls=>H a=ap (.lst (bs.map V.ref))/\a∉bs/\bs.Nodup/\bs.length=ls.length/\∀(j:Nat) (b:ce) (l:List PV),bs[j]?=ap b->ls[j]?=ap l->∃ws,H b=ap (.lst ws)/\aL K [] H ws l
 | .ol q l=>(∀b,q=ap b->a=b)/\∃vs,H a=ap (.lst vs)/\aL K [] H vs l
 | .od kvs=>∃vs:List (Key×V),H a=ap (.dK vs)/\vs.map (·.1)=kvs.map (·.1)/\aL K [] H (vs.map (·.2)) (kvs.map (·.2))
 | .ot kvs=>∃vs:List (List Key×V),H a=ap (.dT vs)/\vs.map (·.1)=kvs.map (·.1)/\aL K [] H (vs.map (·.2)) (kvs.map (·.2))
 | .qb φ=>∃vs,H a=ap (.lst vs)/\φ vs
def w4 (K:Ab) (H:Hp) (u:V) (s:SL):Prop:=(∃v,s=.val v/\VR K [] H u v)\/∃a,u=.ref a/\kE K H a s
def d8 (σ:L2.St) (fs:bj) (a:ce):Prop:=∃(i:Nat) (s:SL) (x:ce),fs[i]?=ap (ap s)/\s.own=true/\σ[i]?=ap (ap (.ref x))/\s.has x a
def iu (σ:L2.St) (fs:bj) (φ:List V->Prop) (a:ce):Prop:=∃i:Nat,fs[i]?=ap (ap (.qb φ))/\σ[i]?=ap (ap (.ref a))
structure aX (K:Ab) (H:Hp) (σ:L2.St) (fs:bj):Prop where
 len:σ.length=fs.length
 at':∀(i:Nat) (s:SL),fs[i]?=ap (ap s)->∃u,σ[i]?=ap (ap u)/\w4 K H u s
 nd:∀(i j:Nat) (s t:SL) (x y a:ce),fs[i]?=ap (ap s)->fs[j]?=ap (ap t)->s.own=true->t.own=true->σ[i]?=ap (ap (.ref x))->σ[j]?=ap (ap (.ref y))->s.has x a->t.has y a->i=j
structure cU (σ:L2.St) (fs:bj) (H:Hp) (σ':L2.St) (bH:bj) (H':Hp):Prop where
 keep:∀a o,H a=ap o->¬d8 σ fs a->H' a=ap o/\¬d8 σ' bH a
 there:∀a,H' a=bm->H a=bm
 pk:∀a φ,iu σ fs φ a->iu σ' bH φ a\/(¬d8 σ' bH a/\∃vs,H' a=ap (.lst vs)/\φ vs)
structure dg (σ:L2.St) (fs:bj) (H H':Hp):Prop where
 keep:∀a o,H a=ap o->(∀φ,¬iu σ fs φ a)->H' a=ap o
 there:∀a,H' a=bm->H a=bm
section
variable {σ σ' σ1 σ2:L2.St}{fs bH Vu dD:bj}{H H' H1 H2:Hp}
def iu.u9 (p:iu σ fs φ a):d8 σ fs a:=let ⟨i,e1,e2⟩:=p;⟨i,_,_,e1,rfl,e2,.inl rfl⟩
def dg.refl:dg σ fs H H:=⟨λ_ _ h _=>h,λ_ h=>h⟩
def dg.trans (a:dg σ fs H H1) (b:dg σ fs H1 H2):dg σ fs H H2:=⟨λx o h n=>b.keep x o (a.keep x o h n) n,λx h=>a.there x (b.there x h)⟩
def dg.f (g:dg σ fs H H'):cU σ fs H σ fs H':=⟨λa o h n=>⟨g.keep a o h λφ p=>n p.u9,n⟩,g.there,λa φ p=>.inl p⟩
def dg.v8 (g:dg σ fs H H') {o:HO} (h:H a=ap o) (n:¬d8 σ fs a):H' a=ap o:=g.keep a o h λφ p=>n p.u9
def dg.same (h:lR H H'):dg σ fs H H':=⟨λa o e _=>h a o e,λa e=>(by
 cases z:H a with
 | none=>rfl
 | some o=>rw [h a o z] at e;cases e)⟩
def kE.ex {c:ce}{s:SL} (h:kE K H a s) (ho:s.own=true) (hc:s.has a c):∃o,H c=ap o/\(∀vs,o≠.tup vs)/\∀ob u,o≠.cV ob u:=by
 cases s with
 | val _=>exact h.elim
 | adr _=>cases ho
 | ol q l=>obtain⟨_,vs,e,_⟩:=h;rcases hc with rfl | hc;exact⟨_,e,by simp,by simp⟩;cases hc
 | oll bs ls=>
  obtain⟨e,_,_,hl,hb⟩:=h;rcases hc with rfl | hc
  ·exact⟨_,e,by simp,by simp⟩
  ·obtain⟨j,hj⟩:=Fw (show c∈bs from hc);have h1:=(Al.mp hj).1;obtain⟨ws,e,_⟩:=hb j c _ hj (Ae (by rw [<- hl];exact h1));exact⟨_,e,by simp,by simp⟩
 | od l=>obtain⟨vs,e,_⟩:=h;rcases hc with rfl | hc;exact⟨_,e,by simp,by simp⟩;cases hc
 | ot l=>obtain⟨vs,e,_⟩:=h;rcases hc with rfl | hc;exact⟨_,e,by simp,by simp⟩;cases hc
 | qb l=>obtain⟨vs,e,_⟩:=h;rcases hc with rfl | hc;exact⟨_,e,by simp,by simp⟩;cases hc
def aX.ownAt (s:aX K H σ fs) {t:SL} (h1:fs[i]?=ap (ap t)) (h2:t.own=true) (h3:σ[i]?=ap (ap (.ref a))):kE K H a t:=by
 obtain⟨u,e,r⟩:=s.at' i t h1;rw [h3] at e;cases e;rcases r with⟨v,rfl,_⟩ | ⟨b,e,r⟩
 ·cases h2
 ·cases e;exact r
def aX.u9 (s:aX K H σ fs) (h:d8 σ fs a):∃o,H a=ap o/\(∀vs,o≠.tup vs)/\∀ob u,o≠.cV ob u:=by
 obtain⟨i,t,x,h1,h2,h3,h4⟩:=h;exact (s.ownAt h1 h2 h3).ex h2 h4
def aX.noOwn (s:aX K H σ fs) (h:H a=bm):¬d8 σ fs a:=λz=>by
 obtain⟨o,e,_⟩:=s.u9 z;rw [h] at e;cases e
def aX.YS (s:aX K H σ fs) (h:H a=ap (.tup vs)):¬d8 σ fs a:=λz=>by
 obtain⟨o,e,n,_⟩:=s.u9 z;rw [h] at e;cases e;exact n vs rfl
def aX.YT (s:aX K H σ fs) (h:H a=ap (.cV ob u)):¬d8 σ fs a:=λz=>by
 obtain⟨o,e,_,n⟩:=s.u9 z;rw [h] at e;cases e;exact n ob u rfl
def cU.refl:cU σ fs H σ fs H:=⟨λ_ _ h n=>⟨h,n⟩,λ_ h=>h,λ_ _ h=>.inl h⟩
def cU.trans (a:cU σ fs H σ1 Vu H1) (b:cU σ1 Vu H1 σ2 dD H2):cU σ fs H σ2 dD H2:=
 ⟨λx o h n=>let ⟨h1,n1⟩:=a.keep x o h n;b.keep x o h1 n1,λx h=>a.there x (b.there x h),λx φ h=>(a.pk x φ h).elim (b.pk x φ) λ⟨n,vs,e,p⟩=>.inr (let ⟨h1,n1⟩:=b.keep x _ e n;⟨n1,vs,h1,p⟩)⟩
def cU.eS (g:cU σ fs H σ' bH H') (s:aX K H σ fs):bq K H H':=
 ⟨λa vs h=>(g.keep a _ h (s.YS h)).1,λa o u h=>(g.keep a _ h (s.YT h)).1⟩
def VR.tk {u:V} (t:bq K H H') (r:VR K [] H u v):VR K [] H' u v:=r.mono t λ_ _ e=>e
def aL.tk {u:List V}{v:List PV} (t:bq K H H') (r:aL K [] H u v):aL K [] H' u v:=r.mono t λ_ _ e=>e
def cU.vr (g:cU σ fs H σ' bH H') (s:aX K H σ fs) {u:V} (r:VR K [] H u v):VR K [] H' u v:=VR.tk (g.eS s) r
def dg.eS (g:dg σ fs H H') (s:aX K H σ fs):bq K H H':=g.f.eS s
def dg.vr (g:dg σ fs H H') (s:aX K H σ fs) {u:V} (r:VR K [] H u v):VR K [] H' u v:=VR.tk (g.eS s) r
def dg.OT (g:dg σ fs H H') (s:aX K H σ fs) {u:List V}{v:List PV} (r:aL K [] H u v):aL K [] H' u v:=aL.tk (g.eS s) r
def kE.mono {s:SL} (t:bq K H H') (e:∀c o,s.own=true->s.has a c->H c=ap o->H' c=ap o) (h:kE K H a s):kE K H' a s:=by
 cases s with
 | val _=>exact h
 | adr _=>exact h
 | ol _ l=>obtain⟨z,vs,q,r⟩:=h;exact⟨z,vs,e _ _ rfl (.inl rfl) q,aL.tk t r⟩
 | oll bs ls=>
  obtain⟨z,h1,h2,h3,h4⟩:=h;refine⟨e _ _ rfl (.inl rfl) z,h1,h2,h3,λj b l hb hl=>?_⟩;obtain⟨ws,q,r⟩:=h4 j b l hb hl;exact⟨ws,e _ _ rfl (.inr (Bo hb)) q,aL.tk t r⟩
 | od l=>obtain⟨vs,q,k,r⟩:=h;exact⟨vs,e _ _ rfl (.inl rfl) q,k,aL.tk t r⟩
 | ot l=>obtain⟨vs,q,k,r⟩:=h;exact⟨vs,e _ _ rfl (.inl rfl) q,k,aL.tk t r⟩
 | qb φ=>obtain⟨vs,q,k⟩:=h;exact⟨vs,e _ _ rfl (.inl rfl) q,k⟩
def w4.mono {u:V}{s:SL} (t:bq K H H') (e:∀x a o,u=.ref x->s.own=true->s.has x a->H a=ap o->H' a=ap o) (h:w4 K H u s):w4 K H' u s:=by
 rcases h with⟨v,q,r⟩ | ⟨a,q,r⟩
 ·exact .inl ⟨v,q,VR.tk t r⟩
 ·exact .inr ⟨a,q,r.mono t (λc o z y w=>e a c o q z y w)⟩
def aX.same (s:aX K H σ fs) (h:lR H H'):aX K H' σ fs:=⟨s.len,λi t e=>let ⟨u,h1,h2⟩:=s.at' i t e;⟨u,h1,h2.mono h.eR (λ_ a o _ _ _ z=>h a o z)⟩,s.nd⟩
def cU.same (h:lR H H') (s:aX K H σ fs):cU σ fs H σ fs H':=⟨λa o e n=>⟨h a o e,n⟩,λa e=>(by
 cases z:H a with
 | none=>rfl
 | some o=>rw [h a o z] at e;cases e),λa φ p=>.inl p⟩
inductive jh:bj->bj->Prop
 | nil:jh [] []
 | drop {s:Option SL}{a b:bj} (h:jh a b):jh (s::a) (bm::b)
 | keep {s:Option SL}{a b:bj} (h:jh a b):jh (s::a) (s::b)
theorem jh.at {a b:bj} (h:jh a b):∀(i:Nat) (s:SL),b[i]?=ap (ap s)->a[i]?=ap (ap s):=by
 induction h with
 | nil=>intro i s e;simp at e
 | drop h ih=>intro i s e;cases i with | zero=>simp at e | succ i=>simp at e ⊢;exact ih i s e
 | keep h ih=>intro i s e;cases i with | zero=>simpa using e | succ i=>simp at e ⊢;exact ih i s e
theorem jh.length {a b:bj} (h:jh a b):a.length=b.length:=by induction h <;> simp_all
theorem jh.refl:∀a:bj,jh a a
 | []=>.nil
 | _::a=>.keep (jh.refl a)
def aX.le (s:aX K H σ fs) (h:jh fs bH):aX K H σ bH:=⟨s.len.trans h.length,λi t e=>s.at' i t (h.at i t e),λi j t u x y a e1 e2=>s.nd i j t u x y a (h.at i t e1) (h.at j u e2)⟩
def d8.le (h:jh fs bH) (o:d8 σ bH a):d8 σ fs a:=let ⟨i,t,x,e1,e2,e3⟩:=o;⟨i,t,x,h.at i t e1,e2,e3⟩
def cU.le (s:aX K H σ fs) (h:jh fs bH):cU σ fs H σ bH H:=⟨λa o e n=>⟨e,λz=>n (z.le h)⟩,λ_ e=>e,λa φ p=>by
 obtain⟨i,e1,e2⟩:=p;by_cases c:d8 σ bH a
 ·obtain⟨j,t,x,c1,c2,c3,c4⟩:=c;have ij:=s.nd i j _ t a x a e1 (h.at j t c1) rfl c2 e2 c3 (.inl rfl) c4;subst ij;have:=h.at i t c1;rw [e1] at this;cases this;exact .inl ⟨i,c1,e2⟩
 ·obtain⟨vs,q,r⟩:=s.ownAt e1 rfl e2;exact .inr ⟨c,vs,q,r⟩⟩
def da {l:List (Option α)}{x y:α} (h:(l.set i (ap x))[j]?=ap (ap y)):(j=i/\y=x)\/(j≠i/\l[j]?=ap (ap y)):=by
 by_cases c:j=i
 ·subst c;rw [List.getElem?_set] at h;simp at h;exact .inl ⟨rfl,h.2.symm⟩
 ·rw [Ce (λz=>c z.symm)] at h;exact .inr ⟨c,h⟩
def cK {l:List α}{x:α} (h:i < l.length):(l.set i x)[i]?=ap x:=by rw [List.getElem?_set];simp [h]
def aR {l:List α}{x:α} (h:j≠i):(l.set i x)[j]?=l[j]?:=Ce (λz=>h z.symm)
def aX.put (s:aX K H σ fs) {u:V}{t:SL} (hr:w4 K H u t) (hf:∀x a,u=.ref x->t.own=true->t.has x a->∀(j:Nat) (w:SL) (y:ce),j≠i->fs[j]?=ap (ap w)->w.own=true->σ[j]?=ap (ap (.ref y))->¬w.has y a):aX K H (σ.set i (ap u)) (fs.set i (ap t)):=by
 refine⟨by simp [s.len],λj w e=>?_,λj k w x b1 b2 a e1 e2 o1 o2 q1 q2 z1 z2=>?_⟩
 ·rcases da e with⟨rfl,rfl⟩ | ⟨n,e⟩
  ·have hl:j < σ.length:=by
    have:=(Al.mp e).1;rw [B4] at this;rw [s.len];exact this
   exact⟨u,cK hl,hr⟩
  ·obtain⟨v,h1,h2⟩:=s.at' j w e;exact⟨v,by rw [aR n];exact h1,h2⟩
 ·rcases da e1 with⟨y1,y2⟩ | ⟨n1,f1⟩ <;> rcases da e2 with⟨y3,y4⟩ | ⟨n2,f2⟩
  ·exact y1.trans y3.symm
  ·subst y1;subst y2;rw [aR n2] at q2;have hl:j < σ.length:=by have:=(Al.mp q1).1;simpa using this
   rw [cK hl] at q1;cases q1;exact absurd z2 (hf _ a rfl o1 z1 k x b2 n2 f2 o2 q2)
  ·subst y3;subst y4;rw [aR n1] at q1;have hl:k < σ.length:=by have:=(Al.mp q2).1;simpa using this
   rw [cK hl] at q2;cases q2;exact absurd z1 (hf _ a rfl o2 z2 j w b1 n1 f1 o1 q1)
  ·rw [aR n1] at q1;rw [aR n2] at q2;exact s.nd j k w x b1 b2 a f1 f2 o1 o2 q1 q2 z1 z2
def aX.dX (s:aX K H σ fs) {u:V} (hr:VR K [] H u v) (i:Nat):aX K H (σ.set i (ap u)) (fs.set i (ap (.val v))):=s.put (.inl ⟨v,rfl,hr⟩) λ_ _ _ z=>by cases z
def GA {u:V}{t:SL} (o:d8 (σ.set i (ap u)) (fs.set i (ap t)) a) (hl:σ.length=fs.length):d8 σ fs a\/∃x,u=.ref x/\t.own=true/\t.has x a:=by
 obtain⟨j,w,x,e1,e2,e3,e4⟩:=o;rcases da e1 with⟨rfl,rfl⟩ | ⟨n,e1⟩
 ·have h2:j < σ.length:=by have:=(Al.mp e3).1;simpa using this
  rw [cK h2] at e3;cases e3;exact .inr ⟨x,rfl,e2,e4⟩
 ·rw [aR n] at e3;exact .inl ⟨j,w,x,e1,e2,e3,e4⟩
def Lq (s:aX K H σ fs) {u:V}{t:SL} (p:iu σ fs φ a) (hu:∀x,u=.ref x->t.own=true->t.has x a->t=.qb φ):iu (σ.set i (ap u)) (fs.set i (ap t)) φ a\/¬d8 (σ.set i (ap u)) (fs.set i (ap t)) a:=by
 obtain⟨j,e1,e2⟩:=p;by_cases c:j=i
 ·subst c;by_cases c2:∃x,u=.ref x/\t.own=true/\t.has x a
  ·obtain⟨x,c3,c4,c5⟩:=c2;have hl:=(Al.mp e2).1;have SQ:=(Al.mp e1).1;have et:=hu x c3 c4 c5;subst et;rcases c5 with rfl | c5
   ·exact .inl ⟨j,by rw [cK SQ],by rw [cK hl,c3]⟩
   ·cases c5
  ·refine .inr λo=>?_;obtain⟨k,w,y,q1,q2,q3,q4⟩:=o;rcases da q1 with⟨rfl,rfl⟩ | ⟨n,q1⟩
   ·have hl:=(Al.mp e2).1;rw [cK hl] at q3;cases q3;exact c2 ⟨y,rfl,q2,q4⟩
   ·rw [aR n] at q3;exact n (s.nd k j w _ y a a q1 e1 q2 rfl q3 e2 q4 (.inl rfl))
 ·exact .inl ⟨j,by rw [aR c];exact e1,by rw [aR c];exact e2⟩
def cU.dX (s:aX K H σ fs) (u:V) (v:PV) (i:Nat):cU σ fs H (σ.set i (ap u)) (fs.set i (ap (.val v))) H:=
 ⟨λa o e n=>⟨e,λz=>(GA z s.len).elim n λ⟨_,_,z,_⟩=>by cases z⟩,λ_ e=>e,λa φ p=>(Lq s p (λ_ _ z=>by cases z)).imp id λn=>⟨n,by
  obtain⟨j,e1,e2⟩:=p;obtain⟨vs,q,r⟩:=s.ownAt e1 rfl e2;exact⟨vs,q,r⟩⟩⟩
def aX.PQ (s:aX K H σ fs) {t:SL} (hr:kE K H a t) (hn:∀c,t.has a c->¬d8 σ fs c) (i:Nat):aX K H (σ.set i (ap (.ref a))) (fs.set i (ap t)):=s.put (.inr ⟨a,rfl,hr⟩) λx c e _ hc j w y n e1 e2 e3 z=>by
 cases e;exact hn c hc ⟨j,w,y,e1,e2,e3,z⟩
def yt {t:SL} (hi:t.WW=[]) {c:ce} (h:t.has a c):c=a:=by
 rcases h with h | h
 ·exact h
 ·rw [hi] at h;cases h
def aX.IV (s:aX K H σ fs) {t:SL} (hr:kE K H a t) (hn:¬d8 σ fs a) (i:Nat) (hi:t.WW=[]:=by rfl):aX K H (σ.set i (ap (.ref a))) (fs.set i (ap t)):=s.PQ hr (λc hc=>by rw [yt hi hc];exact hn) i
def cU.PQ (s:aX K H1 σ fs) (g:cU σ fs H σ fs H1) {t:SL} (hn:∀c,t.has a c->¬d8 σ fs c) (h0:∀c,t.has a c->H c=bm) (i:Nat):cU σ fs H (σ.set i (ap (.ref a))) (fs.set i (ap t)) H1:=by
 refine⟨λb o e n=>⟨(g.keep b o e n).1,λz=>(GA z s.len).elim n λ⟨x,z,_,y⟩=>?_⟩,g.there,λb φ p=>?_⟩
 ·cases z;rw [h0 b y] at e;cases e
 ·obtain⟨j,e1,e2⟩:=p;obtain⟨vs,q,r⟩:=s.ownAt e1 rfl e2;refine (Lq (t:=t) s ⟨j,e1,e2⟩ (λx z o y=>?_)).imp id λn=>⟨n,vs,q,r⟩;cases z;exact absurd ⟨j,_,_,e1,rfl,e2,.inl rfl⟩ (hn b y)
def cU.IV (s:aX K H1 σ fs) (g:cU σ fs H σ fs H1) {t:SL} (hn:¬d8 σ fs a) (h0:H a=bm) (i:Nat) (hi:t.WW=[]:=by rfl):cU σ fs H (σ.set i (ap (.ref a))) (fs.set i (ap t)) H1:=cU.PQ s g (λc hc=>by rw [yt hi hc];exact hn) (λc hc=>by rw [yt hi hc];exact h0) i
def GB (s:aX K H σ fs) {t t':SL}{c:ce} (e1:fs[i]?=ap (ap t)) (o:t.own=true) (np:∀φ,t≠.qb φ) (e2:σ[i]?=ap (ap (.ref a))) (hc:t.has a c) (í:t'.has a c) (Hi:∀b,t'.has a b->t.has a b) (o':t'.own=true) (sx:qY c H H') (ht:bq K H H'->kE K H' a t'):aX K H' σ (fs.set i (ap t'))/\cU σ fs H σ (fs.set i (ap t')) H':=by
 have oa:=s.ownAt e1 o e2;obtain⟨ob,q,n1,n2⟩:=oa.ex o hc;have tk:bq K H H':=⟨λb vs z=>sx b _ (λy=>by subst y;rw [q] at z;cases z;exact n1 _ rfl) z,λb o u z=>sx b _ (λy=>by subst y;rw [q] at z;cases z;exact n2 _ _ rfl) z⟩;have ä:=ht tk;have hi:i < fs.length:=(Al.mp e1).1;have Ul:∀b,d8 σ (fs.set i (ap t')) b->d8 σ fs b:=λb z=>by
  obtain⟨j,w,x,z1,z2,z3,z4⟩:=z;rcases da z1 with⟨rfl,rfl⟩ | ⟨n,z1⟩
  ·rw [e2] at z3;cases z3;exact⟨j,t,a,e1,o,e2,Hi b z4⟩
  ·exact⟨j,w,x,z1,z2,z3,z4⟩
 refine⟨⟨by simp [s.len],λj w e=>?_,λj k w x b1 b2 b z1 z2 o1 o2 q1 q2 y1 y2=>?_⟩,⟨λb ob e n=>⟨sx b ob (λz=>by subst z;exact n ⟨i,t,a,e1,o,e2,hc⟩) e,λz=>n (Ul b z)⟩,λb e=>?_,λb φ p=>?_⟩⟩
 ·rcases da e with⟨rfl,rfl⟩ | ⟨n,e⟩
  ·exact⟨_,e2,.inr ⟨a,rfl,ä⟩⟩
  ·obtain⟨u,h1,h2⟩:=s.at' j w e;refine⟨u,h1,h2.mono tk (λx b ob eb ow hb z=>sx b ob (λy=>?_) z)⟩;subst y;subst eb;exact n (s.nd j i w t x a b e e1 ow o h1 e2 hb hc)
 ·have f:∀{j:Nat}{w:SL}{y:ce},(fs.set i (ap t'))[j]?=ap (ap w)->w.own=true->σ[j]?=ap (ap (.ref y))->w.has y b->∃w',fs[j]?=ap (ap w')/\w'.own=true/\w'.has y b:=λ{j w y} z ow qy hy=>by
   rcases da z with⟨rfl,rfl⟩ | ⟨n,z⟩
   ·rw [e2] at qy;cases qy;exact⟨t,e1,o,Hi b hy⟩
   ·exact⟨w,z,ow,hy⟩
  obtain⟨w',a1,a2,a3⟩:=f z1 o1 q1 y1;obtain⟨x',c1,c2,c3⟩:=f z2 o2 q2 y2;exact s.nd j k w' x' b1 b2 b a1 c1 a2 c2 q1 q2 a3 c3
 ·cases z:H b with
  | none=>rfl
  | some ob=>
   by_cases cc:b=c
   ·subst cc;obtain⟨o2,y,_⟩:=ä.ex o' í;rw [e] at y;cases y
   ·rw [sx b ob cc z] at e;cases e
 ·obtain⟨j,p1,p2⟩:=p;have ji:j≠i:=λz=>by subst z;rw [e1] at p1;cases p1;exact np φ rfl
  exact .inl ⟨j,by rw [aR ji];exact p1,p2⟩
def gT (s:aX K H σ fs) {t t':SL} (e1:fs[i]?=ap (ap t)) (o:t.own=true) (np:∀φ,t≠.qb φ) (e2:σ[i]?=ap (ap (.ref a))) (sx:qY a H H') (ht:bq K H H'->kE K H' a t') (hi:t'.WW=t.WW:=by rfl) (o':t'.own=true:=by rfl):aX K H' σ (fs.set i (ap t'))/\cU σ fs H σ (fs.set i (ap t')) H':=
 GB s e1 o np e2 (.inl rfl) (.inl rfl) (λb h=>by unfold SL.has at h ⊢;rw [hi] at h;exact h) o' sx ht
end
end
end FL
open FL.W renaming bind→am,ret→bd,run_bind→ci,af→ga,aj→gl,aq→lc,aD→u8,ext'→xL
local macro_rules | `($a\$b)=>`(am (bd $a) $b)
variable {x:Cg}{u:L2.V}{o b:BX}{fs bH:FL.bj}{es:List BX}{σ':L2.St}{wa wb wc:FL.W PL.PV}{wl:FL.W (List PL.PV)}
namespace FL
section
open PySem PySem.Spec PyProof.Rows L2 PL
variable {K:Ab}
def fE (K:Ab) (fs:bj) (w:W PV):TE:=λσ H Q=>aX K H σ fs/\w.run λv=>∀u H',dg σ fs H H'->aX K H' σ fs->VR K [] H' u v->Q u H'
def fT (K:Ab) (fs:bj) (w:W Bool):TT:=λσ H Q=>aX K H σ fs/\w.run λb=>∀H',dg σ fs H H'->aX K H' σ fs->Q b H'
def fO (K:Ab) (fs:bj) (w:W (Option Int)):TO:=λσ H Q=>aX K H σ fs/\w.run λb=>∀H',dg σ fs H H'->aX K H' σ fs->Q b H'
def fL (K:Ab) (fs:bj) (w:W (List PV)):TE:=λσ H Q=>aX K H σ fs/\w.run λl=>∀a vs H',dg σ fs H H'->aX K H' σ fs->H a=bm->H' a=ap (.lst vs)->aL K [] H' vs l->Q (.ref a) H'
def SqI (K:Ab) (H:Hp) (u:V) (l:List PV):Prop:=∃a vs,u=.ref a/\(Xt K H a vs\/H a=ap (.tup vs))/\aL K [] H vs l
def V9 (K:Ab) (σ:L2.St) (fs:bj) (H:Hp) (u:V) (l:List PV):Prop:=SqI K H u l\/∃a,u=.ref a/\((¬d8 σ fs a/\∃vs,H a=ap (.lst vs)/\aL K [] H vs l)\/∃(i:Nat) (q:Option ce),fs[i]?=ap (ap (.ol q l))/\σ[i]?=ap (ap (.ref a)))
def fQ (K:Ab) (fs:bj) (w:W (List PV)):TE:=λσ H Q=>aX K H σ fs/\w.run λl=>∀u H',dg σ fs H H'->aX K H' σ fs->V9 K σ fs H' u l->Q u H'
def fI (K:Ab) (fs:bj) (w:W (List PV)):TE:=λσ H Q=>aX K H σ fs/\w.run λl=>∀u H',dg σ fs H H'->aX K H' σ fs->SqI K H' u l->Q u H'
inductive AK where
 | v | p (φ:List V->Prop) | f (a:ce)
inductive fY (K:Ab) (σ:L2.St) (fs:bj) (H:Hp):List V->List AK->List PV->Prop
 | nil:fY K σ fs H [] [] []
 | v {u:V}{x:PV}{vs:List V}{ks:List AK}{l:List PV} (r:VR K [] H u x) (t:fY K σ fs H vs ks l):fY K σ fs H (u::vs) (.v::ks) (x::l)
 | p {a:ce}{φ:List V->Prop}{vs:List V}{ks:List AK}{l:List PV} (r:iu σ fs φ a) (t:fY K σ fs H vs ks l):fY K σ fs H (.ref a::vs) (.p φ::ks) l
 | f {a:ce}{vs:List V}{ks:List AK}{l:List PV} (t:fY K σ fs H vs ks l):fY K σ fs H (.ref a::vs) (.f a::ks) l
def fA (K:Ab) (fs:bj) (ks:List AK) (w:W (List PV)):TA:=λσ H Q=>aX K H σ fs/\w.run λl=>∀vs H',dg σ fs H H'->aX K H' σ fs->fY K σ fs H' vs ks l->Q vs H'
structure EF (X:Cx) (K:Ab) (fs:bj) (e:ii) (w:W PV):Prop where p:PE X e (fE K fs w)
structure LF (X:Cx) (K:Ab) (fs:bj) (e:ii) (w:W (List PV)):Prop where p:PE X e (fL K fs w)
structure QF (X:Cx) (K:Ab) (fs:bj) (e:ii) (w:W (List PV)):Prop where p:PE X e (fQ K fs w)
structure IF (X:Cx) (K:Ab) (fs:bj) (e:ii) (w:W (List PV)):Prop where p:PE X e (fI K fs w)
structure TF (X:Cx) (K:Ab) (fs:bj) (e:ii) (w:W Bool):Prop where p:PT X e (fT K fs w)
structure zN (X:Cx) (K:Ab) (fs:bj) (e:ii) (w:W Bool):Prop where p:PW X e (fT K fs w)
structure OF (X:Cx) (K:Ab) (fs:bj) (e:Option ii) (w:W (Option Int)):Prop where p:L2.PO X e (fO K fs w)
structure AF (X:Cx) (K:Ab) (fs:bj) (es:List ii) (ks:List AK) {R:Type} (B:(List PV->W R)->W R):Prop where
 p:∃w:W (List PV),PA X es (fA K fs ks w)/\∀k,B k=am w k
section
def SqI.tk (t:bq K H H') (h:SqI K H u l):SqI K H' u l:=by
 obtain⟨a,vs,e,q,r⟩:=h;exact⟨a,vs,e,q.imp (t.f _ _) (t.t _ _),aL.tk t r⟩
def V9.go (h:V9 K σ fs H u l) (s:aX K H σ fs) (g:dg σ fs H H'):V9 K σ fs H' u l:=by
 rcases h with h | ⟨a,e,⟨n,vs,q,r⟩ | q⟩
 ·exact .inl (h.tk (g.eS s))
 ·exact .inr ⟨a,e,.inl ⟨n,vs,(g.v8 q n),g.OT s r⟩⟩
 ·exact .inr ⟨a,e,.inr q⟩
def V9.sq (h:V9 K σ fs H u l) (s:aX K H σ fs):∃a vs,u=.ref a/\(de K H a vs\/dR K H a vs)/\aL K [] H vs l:=by
 rcases h with⟨a,vs,e,q,r⟩ | ⟨a,e,⟨n,vs,q,r⟩ | ⟨i,_,q1,q2⟩⟩
 ·exact⟨a,vs,e,q.elim (λq=>.inl q.sq) λq=>.inr (dR.of q),r⟩
 ·exact⟨a,vs,e,.inl (de.of q),r⟩
 ·obtain⟨_,vs,q,r⟩:=s.ownAt q1 rfl q2;exact⟨a,vs,e,.inl (de.of q),r⟩
end
section
variable {a c:ii}{rest:List ii}{w:W PV}
def ae (i:Nat) (hs:fs[i]?=ap (ap (.val v)):=by rfl) (hN:X.N[i]?=ap x:=by rfl) (hv:zM X.env.scope x:=by first | exact C0 rfl | exact CI (C0 rfl) | exact CI (CI rfl)) (hd:jg x:=by decide) (jB:Ij x:=by decide):EF X K fs (.Name x pos) (.ret v):=
 ⟨PE.imp (eE hN hv hd jB) λσ H Q ⟨sr,q⟩=>by
  obtain⟨u,e1,r⟩:=sr.at' i _ hs;rcases r with⟨w,e,r⟩ | ⟨a,_,r⟩
  ·cases e;exact⟨u,e1,q u H .refl sr r⟩
  ·exact r.elim⟩
def f_c {v:V}{p:PV} (hv:∀H,VR K [] H v p) (h:PE X e (tC v)):EF X K fs e (.ret p):=⟨PE.imp h λσ H Q ⟨sr,q⟩=>q v H .refl sr (hv _)⟩
def ao {i j}:EF X K fs (.Constant (.int i) j pos) (.ret (.int i)):=f_c (λ_=>.int i) Yz
def R5 {b j}:EF X K fs (.Constant (.bool b) j pos) (.ret (.bl b)):=f_c (λ_=>.bl b) ab9
def pj {j}:EF X K fs (.Constant .none j pos) (.ret .aN):=f_c (λ_=>.aN) Qc
def gm {x j}:EF X K fs (.Constant (.str x) j pos) (.ret (.str x)):=f_c (λ_=>.str x) Yx
def yT {i:Int}{t:Tok} (hm:X.mg x=ap (.int i t)) (hg:Gl X x) (hd:jg x:=by decide):EF X K fs (.Name x pos) (.ret (.int i)):=f_c (λ_=>.int i) (rV hg hm ⟨_,rfl⟩ hd)
def yS {i:Str}{t:Tok} (hm:X.mg x=ap (.str i t)) (hg:Gl X x) (hd:jg x:=by decide):EF X K fs (.Name x pos) (.ret (.str i)):=f_c (λ_=>.str i) (rV hg hm ⟨_,rfl⟩ hd)
def of2 (m:M2) (x y:PV):W PV:=⟨λQ=>m.f x y [] λz h=>h=[]/\Q z,λf q=>m.mono (λ_ _ q=>⟨q.1,f _ q.2⟩) q⟩
def hr0 (H:Hp):HR K [] H []:=⟨Ew,rfl,λn a o e _=>by simp at e⟩
def pq0 {Q:VK}{z:PV}{h:PH} (sr:aX K H σ fs) (q:h=[]/\∀u H',dg σ fs H H'->aX K H' σ fs->VR K [] H' u z->Q u H'):pQ K [] H Q z h:=λι' v H' g r x=>by
 obtain⟨e,q⟩:=q;subst e;have:ι'=[]:=Cf r.len;subst this;have sm:lR H H':=λa o z=>g.keep a o (by simp) z;exact q v H' (dg.same sm) (sr.same sm) x
def YQ {r:R2}{m:M2} (hm:M2.Ok K r m) {Q:VK}{v:V}{x y:PV} (sr:aX K H σ fs) (hu:VR K [] H u x) (hv:VR K [] H v y) (q:(of2 m x y).run λz=>∀u H',dg σ fs H H'->aX K H' σ fs->VR K [] H' u z->Q u H'):r u v H Q:=
 hm (hr0 H) hu hv (m.mono (λz h q=>pq0 sr q) q)
def L0 {r:R2}{m:M2} (hm:M2.Ok K r m):∀σ H Q,fE K fs (.bind wa λx=>.bind wb λy=>of2 m x y) σ H Q->XT r (fE K fs wa) (fE K fs wb) σ H Q:=λσ H Q ⟨sr,q⟩=>
 ⟨sr,wa.mono (λx q1 u1 H1 g1 s1 v1=>⟨s1,wb.mono (λy q2 u2 H2 g2 s2 v2=>YQ hm s2 (g2.vr s1 v1) v2 ((of2 m x y).mono (λz q u3 H3 g3 s3 v3=>q u3 H3 ((g1.trans g2).trans g3) s3 v3) q2)) q1⟩) q⟩
def RY {op:Operator}{r:R2}{m:M2} (ho:je X (sn op) r) (hm:M2.Ok K r m) (ha:EF X K fs a wa) (hb:EF X K fs b wb):EF X K fs (.BinOp a op b pos) (.bind wa λx=>.bind wb λy=>of2 m x y):=⟨PE.imp (Lu ho ha.p hb.p) (L0 hm)⟩
def wI (ha:EF X K fs a wa) (hb:EF X K fs b wb):EF X K fs (.BinOp a .Sub b pos) (.bind wa λx=>.bind wb λy=>of2 GD x y):=RY YD (HY λ_ _ _ _=>.int _) ha hb
def qS (ha:EF X K fs a wa) (hb:EF X K fs b wb):EF X K fs (.BinOp a .Mult b pos) (.bind wa λx=>.bind wb λy=>of2 kI x y):=RY Uq (zq λ_ _ _ _=>.int _) ha hb
def Xe (ha:EF X K fs a wa) (hb:EF X K fs b wb):EF X K fs (.BinOp a .FloorDiv b pos) (.bind wa λx=>.bind wb λy=>of2 oDiv x y):=RY Ur (zq λ_ _ _ _=>.int _) ha hb
def qT (ha:EF X K fs a wa) (hb:EF X K fs b wb):EF X K fs (.BinOp a .Mod b pos) (.bind wa λx=>.bind wb λy=>of2 oMod x y):=RY YH (zq λ_ _ _ _=>.int _) ha hb
def Xd (ha:EF X K fs a wa) (hb:EF X K fs b wb):EF X K fs (.BinOp a .Pow b pos) (.bind wa λx=>.bind wb λy=>of2 Ql x y):=RY YF (zq λ_ _ _ _=>.int _) ha hb
def M9:PV->W PV
 | .int i=>.ret (.int (-i))
 | _=>.fail
def L8 (ha:EF X K fs a wa):EF X K fs (.UnaryOp .USub a pos) (.bind wa M9):=⟨PE.imp (ab6 XM ha.p) λσ H Q ⟨sr,q⟩=>⟨sr,wa.mono (λx q1 u1 H1 g1 s1 v1=>by
 cases v1 with
 | int i=>exact⟨_,rfl,q1 _ H1 g1 s1 (.int _)⟩
 | _=>exact q1.elim) q⟩⟩
def asB:PV->W Bool
 | .bl b=>.ret b
 | _=>.fail
def L9 {m:M2} (hc:JC X K op b m) (ha:EF X K fs a wa) (hb:EF X K fs b wb):EF X K fs (.Compare a [op] [b] pos) (.bind wa λx=>.bind wb λy=>of2 m x y):=let ⟨_,h1,h2⟩:=hc.p;⟨PE.imp (Lw h1 ha.p hb.p hc.k) (L0 h2)⟩
def adA {w:W PV}:∀σ H Q,fT K fs (.bind w asB) σ H Q->(fE K fs w) σ H λx H'=>∃k,x=.bl k/\Q k H':=λσ H Q ⟨sr,q⟩=>⟨sr,w.mono (λx q1 u1 H1 g1 s1 v1=>by
 cases v1 with
 | bl b=>exact⟨b,rfl,q1 H1 g1 s1⟩
 | _=>exact q1.elim) q⟩
def cW {m:M2} (hc:JC X K op b m) (ha:EF X K fs a wa) (hb:EF X K fs b wb):TF X K fs (.Compare a [op] [b] pos) (.bind wa λx=>.bind wb λy=>.bind (of2 m x y) asB):=let ⟨_,h1,h2⟩:=hc.p
 ⟨PT.imp (oC h1 ha.p hb.p hc.k) λσ H Q q=>L0 h2 σ H _ (adA (w:=.bind wa λx=>.bind wb λy=>of2 m x y) σ H Q q)⟩
def Sg (z:PV) (w:W PV):W PV:=match z with
 | .bl true=>w
 | .bl false=>.ret (.bl false)
 | _=>.fail
def V4 (x:PV) (w:W PV):W PV:=match x with
 | .bl true=>w
 | .bl false=>.ret (.bl false)
 | _=>.fail
def adN (ha:EF X K fs a wa) (hb:EF X K fs (.BoolOp .And (b::rest) pos) wb):EF X K fs (.BoolOp .And (a::b::rest) pos) (.bind wa λx=>V4 x wb):=⟨PE.imp (YB ha.p hb.p) λσ H Q ⟨sr,q⟩=>⟨sr,wa.mono (λx q1 u1 H1 g1 s1 v1=>by
 cases v1 with
 | bl k=>
  cases k with
  | true=>exact⟨true,rfl,by rw [if_pos rfl];exact⟨s1,wb.mono (λ_ q u H' g s v=>q u H' (g1.trans g) s v) q1⟩⟩
  | false=>exact⟨false,rfl,by rw [if_neg AR];exact q1 _ H1 g1 s1 (.bl _)⟩
 | _=>exact q1.elim) q⟩⟩
def adG {op} (h:EF X K fs a wa):EF X K fs (.BoolOp op [a] pos) wa:=⟨Yy h.p⟩
variable {ta tb tc:W Bool}
def jJ (h:TF X K fs a ta):zN X K fs (.BoolOp .And [a] pos) ta:=⟨TV h.p⟩
def Iy (h:TF X K fs a ta):zN X K fs (.BoolOp .Or [a] pos) ta:=⟨Yp h.p⟩
def m8 (ha:TF X K fs a ta) (hb:zN X K fs (.BoolOp .And (b::rest) pos) tb):zN X K fs (.BoolOp .And (a::b::rest) pos) (.bind ta λk=>if k=true then tb else .ret false):=⟨PW.imp (Yq ha.p hb.p) λσ H Q ⟨sr,q⟩=>⟨sr,ta.mono (λk q1 H1 g1 s1=>by
 cases k with
 | true=>exact yk ⟨s1,tb.mono (λ_ q H' g s=>q H' (g1.trans g) s) q1⟩
 | false=>exact ym (q1 H1 g1 s1)) q⟩⟩
def OZ (ha:TF X K fs a ta) (hb:zN X K fs (.BoolOp .Or (b::rest) pos) tb):zN X K fs (.BoolOp .Or (a::b::rest) pos) (.bind ta λk=>if k=true then .ret true else tb):=⟨PW.imp (ab4 ha.p hb.p) λσ H Q ⟨sr,q⟩=>⟨sr,ta.mono (λk q1 H1 g1 s1=>by
 cases k with
 | true=>exact yk (q1 H1 g1 s1)
 | false=>exact ym ⟨s1,tb.mono (λ_ q H' g s=>q H' (g1.trans g) s) q1⟩) q⟩⟩
def zN.t (h:zN X K fs a ta):TF X K fs a ta:=⟨PW.pt h.p⟩
def sS (ha:TF X K fs a ta):TF X K fs (.UnaryOp .Not a pos) (.bind ta λk=>.ret (!k)):=⟨PT.imp (Yr ha.p) λσ H Q ⟨sr,q⟩=>⟨sr,q⟩⟩
def uw (hc:TF X K fs c tc) (ha:EF X K fs a wa) (hb:EF X K fs b wb):EF X K fs (.IfExp c a b pos) (.bind tc λk=>if k=true then wa else wb):=⟨PE.imp (Gx hc.p ha.p hb.p) λσ H Q ⟨sr,q⟩=>⟨sr,tc.mono (λk q1 H1 g1 s1=>by
 cases k with
 | true=>exact yk ⟨s1,wa.mono (λ_ q u H' g s v=>q u H' (g1.trans g) s v) q1⟩
 | false=>exact ym ⟨s1,wb.mono (λ_ q u H' g s v=>q u H' (g1.trans g) s v) q1⟩) q⟩⟩
def UX {la lb:W (List PV)} (hc:TF X K fs c tc) (ha:LF X K fs a la) (hb:LF X K fs b lb):LF X K fs (.IfExp c a b pos) (.bind tc λk=>if k=true then la else lb):=⟨PE.imp (Gx hc.p ha.p hb.p) λσ H Q ⟨sr,q⟩=>⟨sr,tc.mono (λk q1 H1 g1 s1=>by
 cases k with
 | true=>exact yk ⟨s1,la.mono (λ_ q a vs H' g s n e v=>q a vs H' (g1.trans g) s (g1.there a n) e v) q1⟩
 | false=>exact ym ⟨s1,lb.mono (λ_ q a vs H' g s n e v=>q a vs H' (g1.trans g) s (g1.there a n) e v) q1⟩) q⟩⟩
def fH:PV->W Bool
 | .aN=>.ret false
 | .bl b=>.ret b
 | .int i=>.ret (i != 0)
 | .str y=>.fj (y.length<=sizeLine) (.ret ((y.length:Int) != 0))
 | .tup l=>.ret (!l.isEmpty)
 | .cl l=>.ret (!l.isEmpty)
 | _=>.fail
def fJ (hK:X.K=K) (ha:EF X K fs a wa) (he:∀Å,isTrue a X.env Å=(do let v <- Å;standAt a.pos;Da [v] (truthy v))):TF X K fs a (.bind wa fH):=⟨PT.imp (vR K hK ha.p he) λσ H Q ⟨sr,q⟩=>⟨sr,wa.mono (λx q1 u1 H1 g1 s1 v1=>by
 cases v1 with
 | aN=>exact⟨false,rfl,q1 H1 g1 s1⟩
 | bl b=>exact⟨b,rfl,q1 H1 g1 s1⟩
 | int i=>exact⟨_,rfl,q1 H1 g1 s1⟩
 | str y=>exact⟨_,⟨q1.1,rfl⟩,q1.2 H1 g1 s1⟩
 | ty _=>exact q1.elim
 | dk _ _ _=>exact q1.elim
 | dt _ _ _=>exact q1.elim
 | ref _=>exact q1.elim
 | @tup p vs l e rs=>
  refine⟨!vs.isEmpty,.inr (.inl ⟨_,dR.of e,rfl⟩),?_⟩;rw [<- lu rs];exact q1 H1 g1 s1
 | @cl p vs l e rs=>
  refine⟨!vs.isEmpty,.inl ⟨_,e.sq,rfl⟩,?_⟩;rw [<- lu rs];exact q1 H1 g1 s1) q⟩⟩
def abf (hK:X.K=K) (ha:QF X K fs a wl) (he:∀Å,isTrue a X.env Å=(do let v <- Å;standAt a.pos;Da [v] (truthy v))):TF X K fs a (.bind wl λl=>.ret (!l.isEmpty)):=⟨PT.imp (vR K hK ha.p he) λσ H Q ⟨sr,q⟩=>⟨sr,wl.mono (λl q1 u1 H1 g1 s1 v1=>by
 obtain⟨b,vs,rfl,h,rs⟩:=v1.sq s1;refine⟨!vs.isEmpty,?_,?_⟩
 ·exact h.elim (λh=>.inl ⟨_,h,rfl⟩) λh=>.inr (.inl ⟨_,h,rfl⟩)
 ·rw [<- lu rs];exact q1 H1 g1 s1) q⟩⟩
variable {R:Type}{ks:List AK}{B:(List PV->W R)->W R}
def ai:AF X K fs [] [] (R:=R) (λk=>k []):=⟨.ret [],PA.imp bZ λσ H Q ⟨sr,q⟩=>q [] H .refl sr .nil,λk=>rfl⟩
def aa (ha:EF X K fs e w) (hr:AF X K fs es ks B) (hs:gM X e es:=by rfl):AF X K fs (e::es) (.v::ks) (λk=>.bind w λx=>B λl=>k (x::l)):=by
 obtain⟨wr,hp,hB⟩:=hr.p;refine⟨.bind w λx=>.bind wr λl=>.ret (x::l),PA.imp (aY ha.p hp hs) λσ H Q ⟨sr,q⟩=>?_,λk=>?_⟩
 ·exact⟨sr,w.mono (λx q1 u1 H1 g1 s1 v1=>⟨s1,wr.mono (λl q2 vs H2 g2 s2 v2=>q2 _ H2 (g1.trans g2) s2 (.v (g2.vr s1 v1) v2)) q1⟩) q⟩
 ·have:(λx=>B λl=>k (x::l))=λx=>am wr λl=>k (x::l):=funext λx=>hB _;rw [this];rfl
def cG (i:Nat) (hr:AF X K fs es ks B) (hs:fs[i]?=ap (ap (.qb φ)):=by rfl) (hN:X.N[i]?=ap x:=by rfl) (hv:zM X.env.scope x:=by first | exact C0 rfl | exact CI (C0 rfl) | exact CI (CI rfl)) (hd:jg x:=by decide) (jB:Ij x:=by decide)
  (o6:f8 (.Name x pos::es) X.env=(false,im (.Name x pos) X.env)::f8 es X.env:=by rfl):AF X K fs (.Name x pos::es) (.p φ::ks) B:=by
 obtain⟨wr,hp,hB⟩:=hr.p;refine⟨wr,PA.imp (aY (eE hN hv hd jB) hp o6) λσ H Q ⟨sr,q⟩=>?_,hB⟩;obtain⟨u,e1,r⟩:=sr.at' i _ hs;rcases r with⟨v,e,_⟩ | ⟨a,e,r⟩
 ·cases e
 ·subst e;exact⟨_,e1,sr,wr.mono (λl q2 vs H2 g2 s2 v2=>q2 _ H2 g2 s2 (.p ⟨i,hs,e1⟩ v2)) q⟩
theorem fY.OT:∀{vs:List V}{n:Nat}{l:List PV},fY K σ fs H vs (An n .v) l->aL K [] H vs l/\l.length=n
 | _,0,_,.nil=>⟨.nil,rfl⟩
 | _,n+1,_,.v r t=>⟨.cons r (fY.OT t).1,by rw [Ap,(fY.OT t).2]⟩
def adF {x1}{B:(List PV->W PV)->W PV} (h:AF X K fs es (An n .v) B) (hn:n<=1000:=by decide):EF X K fs (.Tuple es x1 pos) (B λl=>.ret (.tup l)):=by
 obtain⟨w,hp,hB⟩:=h.p;rw [hB];refine⟨PE.imp (Uc hp) λσ H Q ⟨sr,q⟩=>⟨sr,w.mono (λl q1 vs H1 g1 s1 v1=>?_) q⟩⟩;obtain⟨v2,hl⟩:=v1.OT;refine⟨by rw [v2.length,hl];exact bW hn,λp H2 s2 e2 n2=>?_⟩;exact q1 _ H2 (g1.trans (dg.same s2)) (s1.same s2) (.tup e2 (aL.tk s2.eR v2))
def WK {B:(List PV->W (List PV))->W (List PV)} (h:AF X K fs es (An n .v) B) (hn:n<=1000:=by decide):LF X K fs (.List es pos) (B λl=>.ret l):=by
 obtain⟨w,hp,hB⟩:=h.p;rw [hB];refine⟨PE.imp (Ug hp) λσ H Q ⟨sr,q⟩=>⟨sr,w.mono (λl q1 vs H1 g1 s1 v1=>?_) q⟩⟩;obtain⟨v2,hl⟩:=v1.OT;refine⟨by rw [v2.length,hl];exact bW hn,λp H2 s2 e2 n2=>?_⟩;exact q1 _ _ H2 (g1.trans (dg.same s2)) (s1.same s2) (g1.there p n2) e2 (aL.tk s2.eR v2)
end
end
end FL
namespace L2
open PySem PySem.Spec PyProof.Rows
def Inv.LW {σ:St} (I:Inv X Z σ H s) (e:H a=ap (.lst vs)):∃o,Inv X Z σ (upd H a (.cV o (.lst vs))) s:=by
 obtain⟨z,au,n,r,h1⟩:=(show ba X.prog X.w H s.heap a (.lst vs) from I.bC a _ e);exact⟨_,I.write (x:=a) (e:=a) (o:=.cV _ (.lst vs)) (h':=s.heap) (t':=s.toks) (by rw [e];exact Cm) (.inl rfl) (λb u _ z=>z) ⟨_,h1⟩ ⟨h1,z,au,n,r,h1⟩⟩
def Inv.LX {σ:St}{kvs:List (Key×V)} (I:Inv X Z σ H s) (e:H a=ap (.dK kvs)):∃o,Inv X Z σ (upd H a (.cV o (.dK kvs))) s:=by
 obtain⟨z,hs,vs,r,o,es,ep,h1,h2⟩:=(show ba X.prog X.w H s.heap a (.dK kvs) from I.bC a _ e);exact⟨o,I.write (x:=a) (e:=a) (o:=.cV o (.dK kvs)) (h':=s.heap) (t':=s.toks) (by rw [e];exact Cm) (.inl rfl) (λb u _ z=>z) ⟨o,h1⟩ ⟨h1,z,hs,vs,r,o,es,ep,h1,h2⟩⟩
end L2
variable {t:FL.SL}{m:PL.zP}{ks:List FL.AK}{B:(List PL.PV->FL.W PL.PV)->FL.W PL.PV}{q0:Option BG}
namespace FL
section
open PySem PySem.Spec PyProof.Rows L2 PL
variable {K:Ab}
section
def rQ (o':HO) (e:H a=ap (.lst vs)):bq K H (upd H a o'):=⟨λb ws q=>by rw [ax (LD q e (by intro z;cases z))];exact q,λb o u q=>by rw [ax (LD q e (by intro z;cases z))];exact q⟩
def dvK (kvs:List (Key×PV)):PV:=.dv (kvs.map λkv=>kP kv.1) (kvs.map (·.2))
def R6 (kvs:List (List Key×PV)):PV:=.dv (kvs.map λkv=>.tup (kv.1.map kP)) (kvs.map (·.2))
def gP {oh:HO} (o':HO) (e:H a=ap oh) (n1:∀vs,oh≠.tup vs) (n2:∀o u,oh≠.cV o u):bq K H (upd H a o'):=⟨λb ws q=>by rw [ax (λz=>by subst z;rw [e] at q;cases q;exact n1 _ rfl)];exact q,λb o u q=>by rw [ax (λz=>by subst z;rw [e] at q;cases q;exact n2 _ _ rfl)];exact q⟩
def WM {vs:List (List Key×V)}{kvs:List (List Key×PV)} (h:vs.map (·.1)=kvs.map (·.1)):(kvs.map λkv=>PV.tup (kv.1.map kP))=vs.map λkv=>PV.tup (kv.1.map kP):=by
 have:=congrArg (F8 λk:List Key=>PV.tup (k.map kP)) h;rw [Ax,Ax] at this;exact this.symm
def WN {vs:List (Key×V)}{kvs:List (Key×PV)} (h:vs.map (·.1)=kvs.map (·.1)):(kvs.map λkv=>kP kv.1)=vs.map λkv=>kP kv.1:=by
 have:=congrArg (F8 kP) h;rw [Ax,Ax] at this;exact this.symm
def SL.bw:SL->Bool
 | .ol _ _=>true
 | .od _=>true
 | .ot _=>true
 | _=>false
def SL.bv:SL->PV
 | .ol _ l=>.cl l
 | .od kvs=>dvK kvs
 | .ot kvs=>R6 kvs
 | _=>.aN
def SL.Sk (h:t.bw=true):t.own=true:=by cases t <;> first | rfl | cases h
def adp (I:Inv X Z σ' H s) (oa:kE K H a t) (hb:t.bw=true):∃ob o,H a=ap o/\(∀vs,o≠.tup vs)/\(∀ob u,o≠.cV ob u)/\Inv X Z σ' (upd H a (.cV ob o)) s/\VR K [] (upd H a (.cV ob o)) (.ref a) t.bv:=by
 cases t with
 | ol q l=>
  obtain⟨_,vs,e,r⟩:=oa;obtain⟨ob,I2⟩:=I.LW e;exact⟨ob,_,e,by simp,by simp,I2,.cl (.inl ⟨ob,aU⟩) (aL.tk (gP _ e (by simp) (by simp)) r)⟩
 | od l=>
  obtain⟨vs,e,k,r⟩:=oa;obtain⟨ob,I2⟩:=I.LX e;exact⟨ob,_,e,by simp,by simp,I2,.dk aU (WN k) (aL.tk (gP _ e (by simp) (by simp)) r)⟩
 | ot l=>
  obtain⟨vs,e,k,r⟩:=oa;obtain⟨ob,I2⟩:=I.freeze e;exact⟨ob,_,e,by simp,by simp,I2,.dt aU (WM k) (aL.tk (gP _ e (by simp) (by simp)) r)⟩
 | _=>cases hb
def aX.ado {o u:HO} (sr:aX K H σ fs) (hs:fs[i]?=ap (ap t)) (ho:t.own=true) (e1:σ[i]?=ap (ap (.ref a))) (h1:H a=ap o) (n1:∀vs,o≠.tup vs) (n2:∀ob u,o≠.cV ob u) (vr:VR K [] (upd H a u) (.ref a) v):aX K (upd H a u) σ (fs.set i (ap (.val v))):=by
 refine⟨by simp [sr.len],λj t' z=>?_,λj k t' u b1 b2 b z1 z2 o1 o2=>?_⟩
 ·rcases da z with⟨rfl,rfl⟩ | ⟨n,z⟩
  ·exact⟨_,e1,.inl ⟨_,rfl,vr⟩⟩
  ·obtain⟨u,k1,k2⟩:=sr.at' j t' z;exact⟨u,k1,k2.mono (gP _ h1 n1 n2) (λx b o eb ow hb zz=>by
    subst eb;rw [ax (λy=>by subst y;exact n (sr.nd j i t' _ x b b z hs ow ho k1 e1 hb (.inl rfl)))];exact zz)⟩
 ·rcases da z1 with⟨rfl,rfl⟩ | ⟨n1,z1⟩
  ·cases o1
  ·rcases da z2 with⟨rfl,rfl⟩ | ⟨n2,z2⟩
   ·cases o2
   ·exact sr.nd j k t' u b1 b2 b z1 z2 o1 o2
def aX.side (s:aX K H σ fs) (n:¬d8 σ fs a) (e:H a=ap (.lst vs)) (o':HO):aX K (upd H a o') σ fs:=⟨s.len,λi t q=>by
 obtain⟨u,h1,h2⟩:=s.at' i t q;exact⟨u,h1,h2.mono (rQ o' e) (λx b o eb ow hb z=>by subst eb;rw [ax (λy:b=a=>n ⟨i,t,x,q,ow,h1,y▸hb⟩)];exact z)⟩,s.nd⟩
def dg.side (g:dg σ fs H H1) (h0:H a=bm) (o':HO):dg σ fs H (upd H1 a o'):=⟨λb o e n=>by rw [ax (bG e h0)];exact g.keep b o e n,λb e=>by
 by_cases c:b=a
 ·subst c;exact h0
 ·rw [ax c] at e;exact g.there b e⟩
end
section
variable {a:ii}{w:W PV}
def gp (h:LF X K fs e wl):EF X K fs e (.bind wl λl=>.ret (.cl l)):=⟨λZ s σ H Q I ⟨sr,q⟩=>by
 refine cq (h.p Z s σ H (λu H1=>∃a vs l,u=.ref a/\dg σ fs H H1/\aX K H1 σ fs/\H a=bm/\H1 a=ap (.lst vs)/\aL K [] H1 vs l/\∀u H',dg σ fs H H'->aX K H' σ fs->VR K [] H' u (.cl l)->Q u H') I ⟨sr,wl.mono (λl q1 a vs H1 g1 s1 n e v=>⟨a,vs,l,rfl,g1,s1,n,e,v,q1⟩) q⟩) λu s1 ⟨v,H1,I1,r1,a,vs,l,e,g1,X9,n,ea,vr,q1⟩=>?_;subst e;obtain⟨ob,I2⟩:=I1.LW ea;exact⟨.ref a,_,I2,r1,q1 _ _ (g1.side n _) (X9.side (λz=>sr.noOwn n z) ea _) (.cl (.inl ⟨ob,aU⟩) (aL.tk (rQ _ ea) vr))⟩⟩
def aw:PV->W (List PV)
 | .tup l=>.ret l
 | .cl l=>.ret l
 | _=>.fail
def bE (h:EF X K fs e w):IF X K fs e (.bind w aw):=⟨PE.imp h.p λσ H Q ⟨sr,q⟩=>⟨sr,w.mono (λx q1 u1 H1 g1 s1 v1=>by
 cases v1 with
 | tup e r=>exact q1 _ H1 g1 s1 ⟨_,_,rfl,.inr e,r⟩
 | cl e r=>exact q1 _ H1 g1 s1 ⟨_,_,rfl,.inl e,r⟩
 | _=>exact q1.elim) q⟩⟩
def wu (h:LF X K fs e wl):IF X K fs e wl:=bE (gp h)
theorem IF.q (h:IF X K fs e wl):QF X K fs e wl:=⟨PE.imp h.p λσ H Q ⟨sr,q⟩=>⟨sr,wl.mono (λl q1 u1 H1 g1 s1 v1=>q1 u1 H1 g1 s1 (.inl v1)) q⟩⟩
def aA (h:EF X K fs e w):QF X K fs e (.bind w aw):=(bE h).q
def tm (h:LF X K fs e wl):QF X K fs e wl:=⟨PE.imp h.p λσ H Q ⟨sr,q⟩=>⟨sr,wl.mono (λl q1 a vs H1 g1 s1 n e v=>q1 _ H1 g1 s1 (.inr ⟨a,rfl,.inl ⟨sr.noOwn n,vs,e,v⟩⟩)) q⟩⟩
def cy (i:Nat) (hs:fs[i]?=ap (ap (.ol q0 l)):=by rfl) (hN:X.N[i]?=ap x:=by rfl) (hv:zM X.env.scope x:=by first | exact C0 rfl | exact CI (C0 rfl) | exact CI (CI rfl)) (hd:jg x:=by decide) (jB:Ij x:=by decide):QF X K fs (.Name x pos) (.ret l):=
 ⟨PE.imp (eE hN hv hd jB) λσ H Q ⟨sr,q⟩=>by
  obtain⟨u,e1,r⟩:=sr.at' i _ hs;rcases r with⟨w,e,r⟩ | ⟨a,e,r⟩
  ·cases e
  ·subst e;exact⟨_,e1,q _ H .refl sr (.inr ⟨a,rfl,.inr ⟨i,q0,hs,e1⟩⟩)⟩⟩
def Vc (l:List PV):PV->W PV
 | .int i=>.Im (cF l i)
 | _=>.fail
def aQ (hK:X.K=K) (ha:QF X K fs a wl) (hb:EF X K fs b wb) (hs:zF b:=by exact λ_ _=>rfl):EF X K fs (.Subscript a b pos) (.bind wl λl=>.bind wb λy=>Vc l y):=⟨PE.imp (Wz (Va K hK) ha.p hb.p hs) λσ H Q ⟨sr,q⟩=>⟨sr,wl.mono (λl q1 u1 H1 g1 s1 v1=>⟨s1,wb.mono (λy q2 u2 H2 g2 s2 v2=>by
 cases v2 with
 | int i=>
  have q2:(W.Im (cF l i)).run _:=q2;cases z:cF l i with
  | none=>rw [z] at q2;exact q2.elim
  | some x=>
   rw [z] at q2;obtain⟨ad,vs,rfl,h,rs⟩:=(v1.go s1 g2).sq s2;obtain⟨v,e1,e2⟩:=aL.cF rs z;have q3:=q2 v H2 (g1.trans g2) s2 e2;exact h.elim (λh=>.inl ⟨ad,vs,i,v,rfl,rfl,h,e1,q3⟩) λh=>.inr (.inl ⟨ad,vs,i,v,rfl,rfl,h,e1,q3⟩)
 | _=>exact q2.elim) q1⟩) q⟩⟩
def adK (ha:EF X K fs a wa) (hb:EF X K fs b wb) (hs:zF b):EF X K fs (.Subscript a b pos) (.bind wa λx=>.bind wb λy=>of2 M8 x y):=⟨PE.imp (Wz QZ ha.p hb.p hs) (L0 Uz)⟩
def qf (m:zP) (l:List PV):W PV:=⟨λQ=>m.f l [] λz h=>h=[]/\Q z,λf q=>m.mono (λ_ _ q=>⟨q.1,f _ q.2⟩) q⟩
section
variable {id:String}{r:List V->Hp->VK->Prop}
def Qk (hm:zP.Ok K r m) {Q:VK}{us:List V} (sr:aX K H σ fs) (hu:aL K [] H us l) (q:(qf m l).run λz=>∀u H',dg σ fs H H'->aX K H' σ fs->VR K [] H' u z->Q u H'):r us H Q:=hm (hr0 H) hu (m.mono (λz h q=>pq0 sr q) q)
def sA (hc:bS X (.builtin id) r) (hB:zP.Ok K r m) (hg:Gl X x) (hm:X.mg x=bm) (hv:lw x=ap (.builtin id)) (ha:AF X K fs (e::es) (An n .v) B) (hn:x≠"__name__":=by decide) (ny:jg x:=by decide)
  (he:gM X e es:=by rfl) (dQ:kL X pos es:=by rfl):EF X K fs (.Call (.Name x p) (e::es) [] pos) (B (qf m)):=by
 obtain⟨w,hp,Ŏ⟩:=ha.p;rw [Ŏ];exact⟨PE.imp (eU hc hg hm hv hp hn ny he dQ) λσ H Q ⟨sr,q⟩=>⟨sr,w.mono (λl q1 vs H1 g1 s1 v1=>Qk hB s1 v1.OT.1 ((qf m l).mono (λz q u H' g s v=>q u H' (g1.trans g) s v) q1)) q⟩⟩
def R3 (hc:bS X (.type id) r) (hB:zP.Ok K r m) (hg:Gl X x) (hm:X.mg x=bm) (hv:lw x=ap (.type id)) (ha:AF X K fs (e::es) (An n .v) B) (hn:x≠"__name__":=by decide) (ny:jg x:=by decide)
  (he:gM X e es:=by rfl) (dQ:kL X pos es:=by rfl):EF X K fs (.Call (.Name x p) (e::es) [] pos) (B (qf m)):=by
 obtain⟨w,hp,Ŏ⟩:=ha.p;rw [Ŏ];exact⟨PE.imp (lY hc hg hm hv hp hn ny he dQ) λσ H Q ⟨sr,q⟩=>⟨sr,w.mono (λl q1 vs H1 g1 s1 v1=>Qk hB s1 v1.OT.1 ((qf m l).mono (λz q u H' g s v=>q u H' (g1.trans g) s v) q1)) q⟩⟩
def CQ (K:Ab) (r:List V->Hp->VK->Prop) (m:List PV->W PV):Prop:=∀{fs:bj}{σ:L2.St}{H:Hp}{Q:VK}{u:V}{l:List PV},aX K H σ fs->V9 K σ fs H u l->((m l).run λz=>∀u H',dg σ fs H H'->aX K H' σ fs->VR K [] H' u z->Q u H')->r [u] H Q
def CL (K:Ab) (r:List V->Hp->VK->Prop) (m:List PV->W (List PV)):Prop:=∀{fs:bj}{σ:L2.St}{H:Hp}{Q:VK}{u:V}{l:List PV},aX K H σ fs->V9 K σ fs H u l->((m l).run λz=>∀a vs H',dg σ fs H H'->aX K H' σ fs->H a=bm->H' a=ap (.lst vs)->aL K [] H' vs z->Q (.ref a) H')->r [u] H Q
def R4 {m:List PV->W PV} (hc:bS X (.builtin id) r) (hB:CQ K r m) (hg:Gl X x) (hm:X.mg x=bm) (hv:lw x=ap (.builtin id)) (ha:QF X K fs e wl) (hn:x≠"__name__":=by decide) (ny:jg x:=by decide)
  (he:gM X e []:=by rfl) (dQ:kL X pos []:=by rfl):EF X K fs (.Call (.Name x p) [e] [] pos) (.bind wl m):=⟨PE.imp (eU hc hg hm hv (aY ha.p bZ he) hn ny he dQ) λσ H Q ⟨sr,q⟩=>⟨sr,wl.mono (λl q1 u H1 g1 s1 v1=>hB s1 v1 ((m l).mono (λz q u H' g s v=>q u H' (g1.trans g) s v) q1)) q⟩⟩
def NT {m:List PV->W PV} (hc:bS X (.type id) r) (hB:CQ K r m) (hg:Gl X x) (hm:X.mg x=bm) (hv:lw x=ap (.type id)) (ha:QF X K fs e wl) (hn:x≠"__name__":=by decide) (ny:jg x:=by decide)
  (he:gM X e []:=by rfl) (dQ:kL X pos []:=by rfl):EF X K fs (.Call (.Name x p) [e] [] pos) (.bind wl m):=⟨PE.imp (lY hc hg hm hv (aY ha.p bZ he) hn ny he dQ) λσ H Q ⟨sr,q⟩=>⟨sr,wl.mono (λl q1 u H1 g1 s1 v1=>hB s1 v1 ((m l).mono (λz q u H' g s v=>q u H' (g1.trans g) s v) q1)) q⟩⟩
def aeB {m:List PV->W (List PV)} (hc:bS X (.builtin id) r) (hB:CL K r m) (hg:Gl X x) (hm:X.mg x=bm) (hv:lw x=ap (.builtin id)) (ha:QF X K fs e wl) (hn:x≠"__name__":=by decide) (ny:jg x:=by decide)
  (he:gM X e []:=by rfl) (dQ:kL X pos []:=by rfl):LF X K fs (.Call (.Name x p) [e] [] pos) (.bind wl m):=⟨PE.imp (eU hc hg hm hv (aY ha.p bZ he) hn ny he dQ) λσ H Q ⟨sr,q⟩=>⟨sr,wl.mono (λl q1 u H1 g1 s1 v1=>hB s1 v1 ((m l).mono (λz q a vs H' g s n e v=>q a vs H' (g1.trans g) s (g1.there a n) e v) q1)) q⟩⟩
def QG {m:List PV->W (List PV)} (hc:bS X (.type id) r) (hB:CL K r m) (hg:Gl X x) (hm:X.mg x=bm) (hv:lw x=ap (.type id)) (ha:QF X K fs e wl) (hn:x≠"__name__":=by decide) (ny:jg x:=by decide)
  (he:gM X e []:=by rfl) (dQ:kL X pos []:=by rfl):LF X K fs (.Call (.Name x p) [e] [] pos) (.bind wl m):=⟨PE.imp (lY hc hg hm hv (aY ha.p bZ he) hn ny he dQ) λσ H Q ⟨sr,q⟩=>⟨sr,wl.mono (λl q1 u H1 g1 s1 v1=>hB s1 v1 ((m l).mono (λz q a vs H' g s n e v=>q a vs H' (g1.trans g) s (g1.there a n) e v) q1)) q⟩⟩
end
def GY (l:List PV):W PV:=.ret (.int l.length)
def UR (K:Ab):CQ K (Yk K) GY:=λ{fs σ H Q u l} s v q=>by
 obtain⟨a,vs,rfl,h,rs⟩:=v.sq s;refine⟨_,vs.length,rfl,?_,?_⟩
 ·exact h.elim (λh=>.inl ⟨_,h,rfl⟩) λh=>.inr ⟨_,h,rfl⟩
 ·rw [rs.length];exact q _ H .refl s (.int _)
def mD (l:List PV):W PV:=.ret (.tup l)
def S8 (K:Ab):CQ K (PB K) mD:=λ{fs σ H Q u l} s v q=>by
 have fresh:∀{a:ce}{vs:List V},de K H a vs->aL K [] H vs l->PB K [.ref a] H Q:=λ{a vs} h rs=>⟨a,vs,rfl,.inl ⟨h,λp H2 s2 e2 n2=>q _ H2 (dg.same s2) (s.same s2) (.tup e2 (aL.tk s2.eR rs))⟩⟩;rcases v with⟨a,vs,rfl,h | h,rs⟩ | ⟨a,rfl,⟨n,vs,h,rs⟩ | ⟨i,_,q1,q2⟩⟩
 ·exact fresh h.sq rs
 ·exact⟨a,vs,rfl,.inr ⟨dR.of h,q _ H .refl s (.tup h rs)⟩⟩
 ·exact fresh (de.of h) rs
 ·obtain⟨_,vs,h,rs⟩:=s.ownAt q1 rfl q2;exact fresh (de.of h) rs
end
end
end FL
variable {R:Type}{m:List PL.PV->FL.W PL.PV}
namespace FL
section
open PySem PySem.Spec PyProof.Rows L2 PL
variable {K:Ab}
def zE (vs:List V) (ks:List AK) (φ:List V->Prop) (a:ce):Prop:=∃i:Nat,ks[i]?=ap (.p φ)/\vs[i]?=ap (.ref a)
structure GoC (vs:List V) (ks:List AK) (H H':Hp):Prop where
 keep:∀a o,H a=ap o->(∀φ,¬zE vs ks φ a)->H' a=ap o
 there:∀a,H' a=bm->H a=bm
 Yu:∀a φ,zE vs ks φ a->∃ws,H' a=ap (.lst ws)/\φ ws
inductive jd (K:Ab) (H:Hp):List V->List AK->List PV->Prop
 | nil:jd K H [] [] []
 | v {u:V}{x:PV}{vs:List V}{ks:List AK}{l:List PV} (r:VR K [] H u x) (t:jd K H vs ks l):jd K H (u::vs) (.v::ks) (x::l)
 | p {a:ce}{φ:List V->Prop}{ws vs:List V}{ks:List AK}{l:List PV} (e:H a=ap (.lst ws)) (r:φ ws) (t:jd K H vs ks l):jd K H (.ref a::vs) (.p φ::ks) l
 | f {a:ce}{vs:List V}{ks:List AK}{l:List PV} (t:jd K H vs ks l):jd K H (.ref a::vs) (.f a::ks) l
def gz (K:Ab) (ks:List AK) (m:List PV->W PV):Sp:=λvs H Q _=>∃l,jd K H vs ks l/\(m l).run λv=>∀u H',GoC vs ks H H'->VR K [] H' u v->Q u H'
def fh (K:Ab) (ks:List AK) (m:List PV->W (List PV)):Sp:=λvs H Q _=>∃l,jd K H vs ks l/\(m l).run λz=>∀a ws H',GoC vs ks H H'->H a=bm->H' a=ap (.lst ws)->aL K [] H' ws z->Q (.ref a) H'
def SW (R:Type):Nat->Type
 | 0=>W R
 | n+1=>PV->SW R n
def cx:(n:Nat)->SW R n->List PV->W R
 | 0,m,[]=>m
 | n+1,m,x::l=>cx n (m x) l
 | 0,_,_::_=>.fail
 | _+1,_,[]=>.fail
section
def fY.qb (h:fY K σ fs H vs ks l) (p:zE vs ks φ a):iu σ fs φ a:=by
 obtain⟨i,e1,e2⟩:=p
 induction h generalizing i with
 | nil=>simp at e1
 | v r t ih=>cases i with | zero=>simp at e1 | succ i=>exact ih i (by simpa using e1) (by simpa using e2)
 | p r t ih=>
  cases i with
  | zero=>simp at e1 e2;subst e1;subst e2;exact r
  | succ i=>exact ih i (by simpa using e1) (by simpa using e2)
 | f t ih=>cases i with | zero=>simp at e1 | succ i=>exact ih i (by simpa using e1) (by simpa using e2)
def fY.c (h:fY K σ fs H vs ks l) (s:aX K H σ fs):jd K H vs ks l:=by
 induction h with
 | nil=>exact .nil
 | v r t ih=>exact .v r ih
 | p r t ih=>
  obtain⟨i,e1,e2⟩:=r;obtain⟨ws,q,x⟩:=s.ownAt e1 rfl e2;exact .p q x ih
 | f t ih=>exact .f ih
def GoC.caller (g:GoC vs ks H H') (h:fY K σ fs H vs ks l) (s:aX K H σ fs):aX K H' σ fs/\dg σ fs H H':=by
 have gf:dg σ fs H H':=⟨λa o e n=>g.keep a o e λφ p=>n φ (h.qb p),g.there⟩;have tk:=gf.eS s;refine⟨⟨s.len,λi t e=>?_,s.nd⟩,gf⟩;obtain⟨u,h1,h2⟩:=s.at' i t e;refine⟨u,h1,?_⟩;rcases h2 with⟨v,q,r⟩ | ⟨a,q,r⟩
 ·exact .inl ⟨v,q,VR.tk tk r⟩
 ·subst q;refine .inr ⟨a,rfl,?_⟩;by_cases c:(∃φ,zE vs ks φ a)/\t.own=true
  ·obtain⟨⟨φ,p⟩,ow⟩:=c;obtain⟨j,e1,e2⟩:=h.qb p;have ij:=s.nd i j t _ a a a e e1 ow rfl h1 e2 (.inl rfl) (.inl rfl);subst ij;rw [e] at e1;cases e1;exact g.Yu a φ p
  ·refine r.mono tk (λb o ow hb z=>g.keep b o z λφ p=>?_);obtain⟨j,e1,e2⟩:=h.qb p;have ij:=s.nd i j t _ a b b e e1 ow rfl h1 e2 hb (.inl rfl);subst ij;rw [h1] at e2;cases e2;exact c ⟨⟨φ,p⟩,ow⟩
end
section
def Z2 (G:SX X.prog X.w X.K X.mg X.base x k ps (gz K ks m)) (hr:cS k' X.A) (hk:k<=k') (hg:Gl X x) (ha:AF X K fs (e::es) ks B) (ny:jg x:=by decide)
  (he:gM X e es:=by rfl) (dQ:kL X pos es:=by rfl):EF X K fs (.Call (.Name x p) (e::es) [] pos) (B m):=by
 obtain⟨w,hp,hB⟩:=ha.p;rw [hB];exact⟨PE.imp (Ja G hr hk hg hp ny he dQ) λσ H Q ⟨sr,q⟩=>⟨sr,w.mono (λl q1 vs H1 g1 s1 v1=>⟨l,v1.c s1,(m l).mono (λz q2 u H2 g2 r2=>let ⟨s2,g3⟩:=g2.caller v1 s1;q2 u H2 (g1.trans g3) s2 r2) q1⟩) q⟩⟩
def Zb {m:List PV->W (List PV)}{B:(List PV->W (List PV))->W (List PV)} (G:SX X.prog X.w X.K X.mg X.base x k ps (fh K ks m)) (hr:cS k' X.A) (hk:k<=k') (hg:Gl X x) (ha:AF X K fs (e::es) ks B) (ny:jg x:=by decide)
  (he:gM X e es:=by rfl) (dQ:kL X pos es:=by rfl):LF X K fs (.Call (.Name x p) (e::es) [] pos) (B m):=by
 obtain⟨w,hp,hB⟩:=ha.p;rw [hB];exact⟨PE.imp (Ja G hr hk hg hp ny he dQ) λσ H Q ⟨sr,q⟩=>⟨sr,w.mono (λl q1 vs H1 g1 s1 v1=>⟨l,v1.c s1,(m l).mono (λz q2 a ws H2 g2 n2 e2 r2=>let ⟨s2,g3⟩:=g2.caller v1 s1;q2 a ws H2 (g1.trans g3) s2 (g1.there a n2) e2 r2) q1⟩) q⟩⟩
end
end
end FL
variable {x:Bool}{T:Type}{p':Ck}
namespace FL
section
open PySem PySem.Spec PyProof.Rows L2 PL
variable {K:Ab}
inductive End where
 | nx (fs:bj) | nc (fs:bj) | ct (fs:bj) | rt (v:PV) | rl (l:List PV) | bk (fs:bj) | ro (v:PV) (a:ce) (l:List PV)
def zI (σ:L2.St) (fs:bj) (H:Hp) (a:ce):Prop:=H a=bm\/∃(i:Nat) (s:SL) (x:ce),fs[i]?=ap (ap s)/\s.own=true/\(∀φ,s≠.qb φ)/\σ[i]?=ap (ap (.ref x))/\s.has x a
def bR (K:Ab) (x:Bool) (σ:L2.St) (fs:bj) (H:Hp) (D:Ends):End->Prop
 | .nx bH=>x=false->∀σ' H',cU σ fs H σ' bH H'->aX K H' σ' bH->D.nx σ' H'
 | .nc bH=>∀σ' H',cU σ fs H σ' bH H'->aX K H' σ' bH->(x=false->D.nx σ' H')/\D.ct σ' H'
 | .ct bH=>∀σ' H',cU σ fs H σ' bH H'->aX K H' σ' bH->D.ct σ' H'
 | .bk bH=>∀σ' H',cU σ fs H σ' bH H'->aX K H' σ' bH->D.bk σ' H'
 | .rt v=>∀u σ' bH H',cU σ fs H σ' bH H'->aX K H' σ' bH->VR K [] H' u v->D.rt u H'
 | .ro v a l=>∀u σ' bH H',cU σ fs H σ' bH H'->aX K H' σ' bH->(∃i:Nat,bH[i]?=ap (ap (.ol (ap a) l)))->VR K [] H' u v->D.rt u H'
 | .rl l=>∀a ws σ' bH H',cU σ fs H σ' bH H'->aX K H' σ' bH->zI σ fs H a->H' a=ap (.lst ws)->aL K [] H' ws l->D.rt (.ref a) H'
def fS (K:Ab) (x:Bool) (fs:bj) (w:W T) (out:T->End):TS:=λD σ H=>aX K H σ fs/\w.run λt=>bR K x σ fs H D (out t)
structure SF (X:Cx) (K:Ab) (x:Bool) (fs:bj) (Ē:List v4) {T:Type} (w:W T) (out:T->End):Prop where p:sF X Ē (fS K x fs w out)
section
variable {σ1:L2.St}{Vu:bj}
def zI.go (g:cU σ fs H σ1 Vu H1) (s:aX K H σ fs) (s1:aX K H1 σ1 Vu) (h:zI σ1 Vu H1 a):zI σ fs H a:=by
 rcases h with h | ⟨i,t,x,e1,e2,np,e3,e4⟩
 ·exact .inl (g.there a h)
 ·cases z:H a with
  | none=>exact .inl z
  | some o=>
   by_cases c:d8 σ fs a
   ·obtain⟨j,t',y,c1,c2,c3,c4⟩:=c;by_cases d:∃φ,t'=.qb φ
    ·obtain⟨φ,rfl⟩:=d;rcases c4 with rfl | c4
     ·rcases g.pk a φ ⟨j,c1,c3⟩ with⟨k,k1,k2⟩ | ⟨n,_⟩
      ·have:=s1.nd i k t _ x a a e1 k1 e2 rfl e3 k2 e4 (.inl rfl);subst this;rw [e1] at k1;cases k1;exact absurd rfl (np φ)
      ·exact absurd ⟨i,t,x,e1,e2,e3,e4⟩ n
     ·cases c4
    ·exact .inr ⟨j,t',y,c1,c2,λφ e=>d ⟨φ,e⟩,c3,c4⟩
   ·exact absurd ⟨i,t,x,e1,e2,e3,e4⟩ (g.keep a o z c).2
def bR.go (g:cU σ fs H σ1 Vu H1) (s:aX K H σ fs) (s1:aX K H1 σ1 Vu) {E:End} (h:bR K x σ fs H D E):bR K x σ1 Vu H1 D E:=by
 cases E with
 | nx bH=>exact λhx σ' H' g' s'=>h hx σ' H' (g.trans g') s'
 | nc bH=>exact λσ' H' g' s'=>h σ' H' (g.trans g') s'
 | bk bH=>exact λσ' H' g' s'=>h σ' H' (g.trans g') s'
 | ct bH=>exact λσ' H' g' s'=>h σ' H' (g.trans g') s'
 | rt v=>exact λu σ' bH H' g' s' r=>h u σ' bH H' (g.trans g') s' r
 | ro v a l=>exact λu σ' bH H' g' s' o r=>h u σ' bH H' (g.trans g') s' o r
 | rl l=>exact λa ws σ' bH H' g' s' f e r=>h a ws σ' bH H' (g.trans g') s' (f.go g s s1) e r
def bR.exit {D':Ends} (h1:D'.rt=D.rt) (h2:D'.ct=D.ct) (h3:D'.bk=D.bk) {E:End} (h:bR K x σ fs H D E):bR K true σ fs H D' E:=by
 cases E with
 | nx bH=>exact λhx=>nomatch hx
 | nc bH=>exact λσ' H' g' s'=>⟨λhx=>(nomatch hx),h2▸(h σ' H' g' s').2⟩
 | bk bH=>exact λσ' H' g' s'=>h3▸h σ' H' g' s'
 | ct bH=>exact λσ' H' g' s'=>h2▸h σ' H' g' s'
 | rt v=>exact λu σ' bH H' g' s' r=>h1▸h u σ' bH H' g' s' r
 | ro v a l=>exact λu σ' bH H' g' s' o r=>h1▸h u σ' bH H' g' s' o r
 | rl l=>exact λa ws σ' bH H' g' s' f e r=>h1▸h a ws σ' bH H' g' s' f e r
end
section
variable {X:Cx}{a b c e o:ii}{pos p:Pos}{fs bH:bj}{st:v4}{Ē rest sa sb:List v4}{T T1:Type}{w wk:W T}{out:T->End}{we:W PV}{wl:W (List PV)}{x:Bool}
def End.Q4:End->Prop
 | .rt _=>True
 | .rl _=>True
 | .ro _ _ _=>True
 | _=>False
def bR.agq {D':Ends}{y:Bool}{E:End} (ho:E.Q4) (e:D'.rt=D.rt) (h:bR K x σ fs H D E):bR K y σ fs H D' E:=by
 cases E with
 | rt v=>exact λu σ' bH H' g s r=>e▸h u σ' bH H' g s r
 | rl v=>exact λa ws σ' bH H' g s f ea r=>e▸h a ws σ' bH H' g s f ea r
 | ro v a l=>exact λu σ' bH H' g s o r=>e▸h u σ' bH H' g s o r
 | _=>exact ho.elim
def zX (X:Cx) (K:Ab) (x:Bool) (rest:List v4) {T:Type} (out:T->End):TS:=λD σ H=>∃bH w',SF X K x bH rest w' out/\fS K x bH w' out D σ H
def TH:sF X rest (zX X K x rest out):=λZ s σ H D I ⟨bH,w',h,q⟩=>h.p Z s σ H D I q
def Qr:sF X rest XU:=λ_ _ _ _ _ _ h=>h.elim
def SF.step {t:TS} (h:PS X st t) (hq:∀D σ H,fS K x fs w out D σ H->t {D with nx:=zX X K x rest out D} σ H):SF X K x fs (st::rest) w out:=⟨sF.imp (Gn h TH) λD σ H q=>hq D σ H q⟩
def SF.last {t:TS} (h:PS X st t) (hq:∀D σ H,fS K x fs w out D σ H->t {D with nx:=λ_ _=>False} σ H):SF X K x fs (st::rest) w out:=⟨sF.imp (Gn h Qr) λD σ H q=>hq D σ H q⟩
def SF.nil {t:T} (h:out t=.nx bH) (hl:jh fs bH):SF X K false fs [] (.ret t) out:=⟨sF.imp xB λD σ H ⟨sr,q⟩=>by
 have q:bR K false σ fs H D (out t):=q;rw [h] at q;exact q rfl σ H (cU.le sr hl) (sr.le hl)⟩
def SF.dM {t:T} (h:out t=.nc bH) (hl:jh fs bH):SF X K false fs [] (.ret t) out:=⟨sF.imp xB λD σ H ⟨sr,q⟩=>by
 have q:bR K false σ fs H D (out t):=q;rw [h] at q;exact (q σ H (cU.le sr hl) (sr.le hl)).1 rfl⟩
def SF.cont {t:T} (h:out t=.nc bH\/out t=.ct bH) (hl:jh fs bH):SF X K x fs (.Continue pos::rest) (.ret t) out:=SF.last Gp λD σ H ⟨sr,q⟩=>by
 have q:bR K x σ fs H D (out t):=q;rcases h with h | h
 ·rw [h] at q;exact (q σ H (cU.le sr hl) (sr.le hl)).2
 ·rw [h] at q;exact q σ H (cU.le sr hl) (sr.le hl)
def SF.ret {k:PV->T} (he:EF X K fs e we) (h:∀v,out (k v)=.rt v):SF X K x fs (.Return (ap e) pos::rest) (.bind we λv=>.ret (k v)) out:=SF.last (xC he.p) λD σ H ⟨sr,q⟩=>⟨sr,we.mono (λv q1 u H1 g1 s1 v1=>by
 have q1:bR K x σ fs H D (out (k v)):=q1;rw [h] at q1;exact q1 u σ fs H1 g1.f s1 v1) q⟩
def SF.dF {out:PV->End} (he:EF X K fs e we) (h:∀v,out v=.rt v):SF X K x fs (.Return (ap e) pos::rest) we out:=SF.ret (k:=λv=>v) he h
def SF.agg {k:List PV->T} (he:LF X K fs e wl) (h:∀l,out (k l)=.rl l):SF X K x fs (.Return (ap e) pos::rest) (.bind wl λl=>.ret (k l)) out:=SF.last (xC he.p) λD σ H ⟨sr,q⟩=>⟨sr,wl.mono (λl q1 a ws H1 g1 s1 n e v1=>by
 have q1:bR K x σ fs H D (out (k l)):=q1;rw [h] at q1;exact q1 a ws σ fs H1 g1.f s1 (.inl n) e v1) q⟩
def SF.iD {out:List PV->End} (he:LF X K fs e wl) (h:∀v,out v=.rl v):SF X K x fs (.Return (ap e) pos::rest) wl out:=SF.agg (k:=λv=>v) he h
def SF.TC (i:Nat) {y:Str}{t:T} (hs:fs[i]?=ap (ap (.ol q0 l))) (h:out t=.rl l) (hN:X.N[i]?=ap y:=by rfl) (hv:zM X.env.scope y:=by first | exact C0 rfl | exact CI (C0 rfl) | exact CI (CI rfl)) (hd:jg y:=by decide) (jB:Ij y:=by decide):SF X K x fs (.Return (ap (.Name y p)) pos::rest) (.ret t) out:=SF.last (xC (eE hN hv hd jB)) λD σ H ⟨sr,q⟩=>by
 have q:bR K x σ fs H D (out t):=q;rw [h] at q;obtain⟨u,e1,r⟩:=sr.at' i _ hs;rcases r with⟨v,e,_⟩ | ⟨a,e,r⟩
 ·cases e
 ·subst e;obtain⟨_,ws,q1,q2⟩:=r;exact⟨_,e1,q a ws σ fs H .refl sr (.inr ⟨i,_,_,hs,rfl,by simp,e1,.inl rfl⟩) q1 q2⟩
def SF.abM (i:Nat) {ad:ce}{k:PV->T} (hs:fs[i]?=ap (ap (.ol (ap ad) l))) (he:EF X K fs e we) (h:∀v,out (k v)=.ro v ad l):SF X K x fs (.Return (ap e) pos::rest) (.bind we λv=>.ret (k v)) out:=SF.last (xC he.p) λD σ H ⟨sr,q⟩=>⟨sr,we.mono (λv q1 u H1 g1 s1 v1=>by
 have q1:bR K x σ fs H D (out (k v)):=q1;rw [h] at q1;exact q1 u σ fs H1 g1.f s1 ⟨i,hs⟩ v1) q⟩
def SF.expr {k:PV->W T} (he:EF X K fs e we) (hr:∀v,SF X K x fs rest (k v) out) (hs:lm e bm pos.line X.env=pure false:=by rfl):SF X K x fs (.Expr e pos::rest) (.bind we k) out:=SF.step (rT he.p hs) λD σ H ⟨sr,q⟩=>
 ⟨sr,we.mono (λv q1 u H1 g1 s1 v1=>⟨fs,k v,hr v,s1,(k v).mono (λt q2=>q2.go g1.f sr s1) q1⟩) q⟩
def SF.set {y:Str}{k:PV->W T} (hN:X.N.Nodup) (hi:X.N[i]?=ap y) (hx:Loc X.env.scope y) (he:EF X K fs e we) (hr:∀v,SF X K x (fs.set i (ap (.val v))) rest (k v) out) (hs:lm e (ap (.Name y p')) pos.line X.env=pure false:=by rfl)
  (hf:OB X y:=by first | exact .inl rfl | exact .inr rfl | assumption):SF X K x fs (.Assign [.Name y p'] e pos::rest) (.bind we k) out:=SF.step (tq hN hi hx he.p hs hf) λD σ H ⟨sr,q⟩=>
 ⟨sr,we.mono (λv q1 u H1 g1 s1 v1=>⟨_,k v,hr v,s1.dX v1 i,(k v).mono (λt q2=>q2.go (g1.f.trans (cU.dX s1 u v i)) sr (s1.dX v1 i)) q1⟩) q⟩
def SF.age {y:Str}{k:List PV->W T} (hN:X.N.Nodup) (hi:X.N[i]?=ap y) (hx:Loc X.env.scope y) (he:LF X K fs e wl) (hr:∀l,SF X K x (fs.set i (ap (.ol bm l))) rest (k l) out) (hs:lm e (ap (.Name y p')) pos.line X.env=pure false:=by rfl)
  (hf:OB X y:=by first | exact .inl rfl | exact .inr rfl | assumption):SF X K x fs (.Assign [.Name y p'] e pos::rest) (.bind wl k) out:=SF.step (tq hN hi hx he.p hs hf) λD σ H ⟨sr,q⟩=>by
 refine⟨sr,wl.mono (λl q1 a ws H1 g1 s1 n e v1=>?_) q⟩;have no:=sr.noOwn n;have s2:=s1.IV (t:=.ol bm l) ⟨by simp,ws,e,v1⟩ no i;exact⟨_,k l,hr l,s2,(k l).mono (λt q2=>q2.go (cU.IV s1 g1.f no n i) sr s2) q1⟩
def SF.cV (i:Nat) {t:SL} (hs:fs[i]?=ap (ap t)) (hr:SF X K x (fs.set i (ap (.val t.bv))) Ē w out) (hb:t.bw=true:=by rfl):SF X K x fs Ē w out:=⟨λZ s σ H D I ⟨sr,q⟩=>by
 obtain⟨u,e1,r⟩:=sr.at' i _ hs;have ho:=SL.Sk hb;rcases r with⟨v,e,_⟩ | ⟨a,e,oa⟩
 ·subst e;cases hb
 ·subst e;obtain⟨ob,o,h1,n1,n2,I2,vr⟩:=adp I oa hb;have ow:∀b,d8 σ (fs.set i (ap (.val t.bv))) b->d8 σ fs b:=λb z=>by
   obtain⟨j,t,x,z1,z2,z3,z4⟩:=z;rcases da z1 with⟨rfl,rfl⟩ | ⟨n,z1⟩
   ·cases z2
   ·exact⟨j,t,x,z1,z2,z3,z4⟩
  have s2:=sr.ado hs ho e1 h1 n1 n2 vr;have g2:cU σ fs H σ (fs.set i (ap (.val t.bv))) (upd H a (.cV ob o)):=by
   refine⟨λb o z n=>⟨?_,λy=>n (ow b y)⟩,λb z=>?_,λb φ z=>?_⟩
   ·rw [ax (λy=>by subst y;exact n ⟨i,_,_,hs,ho,e1,.inl rfl⟩)];exact z
   ·by_cases c:b=a
    ·subst c;rw [aU] at z;cases z
    ·rw [ax c] at z;exact z
   ·obtain⟨j,z1,z2⟩:=z;have:j≠i:=λy=>by subst y;rw [hs] at z1;cases z1;cases hb
    exact .inl ⟨j,by rw [aR this];exact z1,z2⟩
  exact hr.p Z s σ _ D I2 ⟨s2,w.mono (λt q3=>q3.go g2 sr s2) q⟩⟩
variable {tc:W Bool}
def SF.ifT (hc:TF X K fs c tc) (ha:SF X K x fs sa w out) (hb:SF X K x fs sb wk out):SF X K x fs [.If c sa sb pos] (.bind tc λb=>if b=true then w else wk) out:=⟨sF.imp (TY (PY hc.p ha.p hb.p)) λD σ H ⟨sr,q⟩=>⟨sr,tc.mono (λk q1 H1 g1 s1=>by
 cases k with
 | true=>exact yk ⟨s1,w.mono (λt q2=>q2.go g1.f sr s1) q1⟩
 | false=>exact ym ⟨s1,wk.mono (λt q2=>q2.go g1.f sr s1) q1⟩) q⟩⟩
def SF.Zr (hc:TF X K fs c tc) (ha:SF X K true fs sa w out) (hb:SF X K x fs rest wk out):SF X K x fs (.If c sa [] pos::rest) (.bind tc λb=>if b=true then w else wk) out:=SF.step (PY hc.p ha.p xB) λD σ H ⟨sr,q⟩=>⟨sr,tc.mono (λk q1 H1 g1 s1=>by
 cases k with
 | true=>exact yk ⟨s1,w.mono (λt q2=>bR.exit (D:=D) (D':={D with nx:=zX X K x rest out D}) rfl rfl rfl (q2.go g1.f sr s1)) q1⟩
 | false=>exact ym ⟨fs,wk,hb,s1,wk.mono (λt q2=>q2.go g1.f sr s1) q1⟩) q⟩
def aar (X:Cx) (K:Ab) (x:Bool) (rest:List v4) {T:Type} (w:W T) (out:T->End):End->Prop
 | .nx bH=>SF X K x bH rest w out
 | .nc bH=>False
 | .bk bH=>∃t,w=.ret t/\out t=.bk bH
 | .ct bH=>∃t,w=.ret t/\(out t=.ct bH\/out t=.nc bH)
 | .rt v=>∃t,w=.ret t/\out t=.rt v
 | .rl l=>∃t,w=.ret t/\out t=.rl l
 | .ro v a l=>∃t,w=.ret t/\out t=.ro v a l
def aar.r {E:End} (sr:aX K H σ fs) (h:aar X K x rest w out E) (q:w.run λt=>bR K x σ fs H D (out t)):bR K false σ fs H {D with nx:=zX X K x rest out D} E:=by
 cases E with
 | nx bH=>exact λ_ σ' H' g' s'=>⟨bH,w,h,s',w.mono (λt q2=>q2.go g' sr s') q⟩
 | nc bH=>exact h.elim
 | bk bH=>
  obtain⟨t,rfl,h⟩:=h;have q:bR K x σ fs H D (out t):=q;rw [h] at q;exact q
 | ct bH=>
  obtain⟨t,rfl,h⟩:=h;have q:bR K x σ fs H D (out t):=q;rcases h with h | h
  ·rw [h] at q;exact q
  ·rw [h] at q;exact λσ' H' g s=>(q σ' H' g s).2
 | rt v=>
  obtain⟨t,rfl,h⟩:=h;have q:bR K x σ fs H D (out t):=q;rw [h] at q;exact q
 | rl v=>
  obtain⟨t,rfl,h⟩:=h;have q:bR K x σ fs H D (out t):=q;rw [h] at q;exact q
 | ro v a l=>
  obtain⟨t,rfl,h⟩:=h;have q:bR K x σ fs H D (out t):=q;rw [h] at q;exact q
variable {w1 w2:W T1}{out1:T1->End}{k:T1->W T}
def SF.ifS (hc:TF X K fs c tc) (ha:SF X K false fs sa w1 out1) (hb:SF X K false fs sb w2 out1) (hr:∀t,aar X K x rest (k t) out (out1 t)):SF X K x fs (.If c sa sb pos::rest) (.bind tc λb=>.bind (if b=true then w1 else w2) k) out:=SF.step (PY hc.p ha.p hb.p) λD σ H ⟨sr,q⟩=>⟨sr,tc.mono (λb q1 H1 g1 s1=>by
 have fin:∀t,(k t).run (λt=>bR K x σ fs H D (out t))->bR K false σ fs H {D with nx:=zX X K x rest out D} (out1 t):=λt q=>(hr t).r sr q;cases b with
 | true=>exact yk ⟨s1,w1.mono (λt q2=>(fin t q2).go g1.f sr s1) q1⟩
 | false=>exact ym ⟨s1,w2.mono (λt q2=>(fin t q2).go g1.f sr s1) q1⟩) q⟩
end
end
end FL
variable {is:List Nat}
namespace FL
section
open PySem PySem.Spec PyProof.Rows L2 PL
variable {K:Ab}
def JF (K:Ab) (H:Hp) (J:It) (l:List PV):Prop:=l.length<=sizeLine/\∀H',bq K H H'->(∀(i:Nat) (p:PV),l[i]?=ap p->J.go i H'/\∀x H2,J.Wi i H' x H2->lR H' H2/\VR K [] H2 x p)/\J.stop l.length H'
def JF.tk {J:It} (t:bq K H H') (h:JF K H J l):JF K H' J l:=⟨h.1,λH2 t2=>h.2 H2 (bq.trans t t2)⟩
def fIt (K:Ab) (fs:bj) (w:W (List PV)):TI:=λσ H R=>aX K H σ fs/\w.run λl=>∀J H',dg σ fs H H'->aX K H' σ fs->JF K H' J l->R J H'
structure vG (X:Cx) (K:Ab) (fs:bj) (tg e:ii) (w:W (List PV)):Prop where p:PI X tg e (fIt K fs w)
section
variable {a c:ii}
def Wc {ad:ce} (h:Xt K H ad vs) (r:aL K [] H vs l) (hz:l.length<=sizeLine):JF K H (Itl K ad) l:=⟨hz,λH' t=>by
 have e1:=(t.f _ _ h).sq;have e2:=aL.tk t r;refine⟨λi p hp=>?_,vs,e1,by rw [e2.length];exact Am _⟩;obtain⟨v,h3,h4⟩:=e2.get hp;refine⟨⟨vs,v,e1,h3⟩,λx H3 y=>?_⟩;obtain⟨rfl,y⟩:=y;have:=y vs e1;rw [h3] at this;cases this;exact⟨lR.refl _,h4⟩⟩
def aap {ad:ce} (h:H ad=ap (.tup vs)) (r:aL K [] H vs l) (hz:l.length<=sizeLine):JF K H (Itt K ad) l:=⟨hz,λH' t=>by
 have e1:=dR.of (K:=K) (t.t _ _ h);have e2:=aL.tk t r;refine⟨λi p hp=>?_,vs,e1,by rw [e2.length];exact Am _⟩;obtain⟨v,h3,h4⟩:=e2.get hp;refine⟨⟨vs,v,e1,h3⟩,λx H3 y=>?_⟩;obtain⟨rfl,y⟩:=y;have:=y vs e1;rw [h3] at this;cases this;exact⟨lR.refl _,h4⟩⟩
def bf (hK:X.K=K) (h:IF X K fs e wl):vG X K fs tg e wl:=⟨by
 subst hK;intro Z s σ H R I ⟨sr,q⟩;refine cq (h.p Z s σ H (λu H1=>∃l,SqI X.K H1 u l/\∀J,JF X.K H1 J l->R J H1) I ⟨sr,wl.mono (λl q1 u H1 g1 s1 v1=>⟨l,v1,λJ j=>q1 J H1 g1 s1 j⟩) q⟩) λv s1 ⟨x,H1,I1,r1,l,⟨ad,vs,e,hh,rs⟩,q1⟩=>?_;subst e;cases r1;rcases hh with hh | hh
 ·obtain⟨au,rv,pl,hz⟩:=I1.list hh.sq;refine C3 pl.isList ?_;refine⟨s1.heap.objs.size,[s1.heap.objs.size],_,_,H1,rfl,I1.kept (t':=s1.toks) λb o e=>Ag _ e,vJ ad _,⟨_,Ao _ rfl,rfl,rfl⟩,λb hb=>?_,q1 _ (Wc hh rs (by rw [<- rs.length];exact hz))⟩;have e:b=s1.heap.objs.size:=by simpa using hb
  subst e;exact I1.yI (Am _) (I1.bC.fresh (Am _))
 ·obtain⟨au,rv,pl,hz⟩:=I1.tuple (dR.of hh);refine Eo (show s1.heap.IsTuple ad au.toArray from pl) ?_;refine⟨s1.heap.objs.size,[s1.heap.objs.size],_,_,H1,rfl,I1.kept (t':=s1.toks) λb o e=>Ag _ e,Iz ad _,⟨_,Ao _ rfl,rfl,rfl⟩,λb hb=>?_,q1 _ (aap hh rs (by rw [<- rs.length];exact hz))⟩;have e:b=s1.heap.objs.size:=by simpa using hb
  subst e;exact I1.yI (Am _) (I1.bC.fresh (Am _))⟩
def okN (i j:Int):Prop:=-(2 ^ 62)<=i/\i < 2 ^ 62/\-(2 ^ 62)<=j/\j < 2 ^ 62/\(j-i).toNat<=sizeLine
def eL:PV->W (List PV)
 | .int j=>.fj (okN 0 j) (.ret (iJ 0 j.toNat))
 | _=>.fail
def Pu:PV->PV->PV->W (List PV)
 | .int i,.int j,.int k=>.fj (k = -1/\okN j i) (.ret (qU i (i-j).toNat))
 | _,_,_=>.fail
def aaq (lo:Int) (n:Nat) (hz:n<=sizeLine):JF K H (Itr lo n) (iJ lo n):=⟨by rw [jA];exact hz,λH' t=>⟨λi p hp=>by
  obtain⟨h1,rfl⟩:=qv hp;refine⟨h1,λx H2 y=>?_⟩;obtain⟨rfl,rfl⟩:=y;exact⟨lR.refl _,.int _⟩,by show n<=(iJ lo n).length;rw [jA];exact Am _⟩⟩
theorem cJ (hg:Gl X "range") (hm:X.mg "range"=bm) (ha:EF X K fs a wa) (hs:f8 [a] X.env=[(false,im a X.env)]:=by rfl):vG X K fs tg (.Call (.Name "range" p) [a] [] pos) (.bind wa eL):=
 ⟨PI.imp (M1 hg hm (aY ha.p bZ hs) hs) λσ H R ⟨sr,q⟩=>⟨sr,wa.mono (λx q1 u1 H1 g1 s1 v1=>by
  cases v1 with
  | int j=>exact⟨_,rfl,q1.1.2.2.1,q1.1.2.2.2.1,q1.2 _ H1 g1 s1 (aaq _ _ (by have:=q1.1.2.2.2.2;omega))⟩
  | _=>exact q1.elim) q⟩⟩
def Vd (hg:Gl X "range") (hm:X.mg "range"=bm) (ha:EF X K fs a wa) (hb:EF X K fs b wb) (hc:EF X K fs c wc) (hs:f8 [a,b,c] X.env=[(false,im a X.env),(false,im b X.env),(false,im c X.env)]:=by rfl) (qx:f8 [b,c] X.env=[(false,im b X.env),(false,im c X.env)]:=by rfl) (hs3:f8 [c] X.env=[(false,im c X.env)]:=by rfl):vG X K fs tg (.Call (.Name "range" p) [a,b,c] [] pos) (.bind wa λx=>.bind wb λy=>.bind wc λz=>Pu x y z):=
 ⟨PI.imp (M0 hg hm (aY ha.p (aY hb.p (aY hc.p bZ hs3) (by show f8 _ _=_;rw [qx,hs3])) (by show f8 _ _=_;rw [hs,qx])) hs qx) λσ H R ⟨sr,q⟩=>⟨sr,wa.mono (λx q1 u1 H1 g1 s1 v1=>⟨s1,wb.mono (λy q2 u2 H2 g2 s2 v2=>⟨s2,wc.mono (λz q3 u3 H3 g3 s3 v3=>by
  cases v1 with
  | int i=>
   cases v2 with
   | int j=>
    cases v3 with
    | int k=>
     obtain⟨⟨rfl,k1,k2,k3,k4,k5⟩,q3⟩:=q3;refine⟨_,_,rfl,⟨k3,k4,k1,k2⟩,q3 _ H3 ((g1.trans g2).trans g3) s3 ⟨by rw [wK];exact k5,λH' t=>⟨λi p hp=>?_,?_⟩⟩⟩
     ·obtain⟨h1,rfl⟩:=wL hp;refine⟨h1,λx H2 y=>?_⟩;obtain⟨rfl,rfl⟩:=y;exact⟨lR.refl _,.int _⟩
     ·exact Nat.le_of_eq (wK _ _).symm
    | _=>exact q3.elim
   | _=>exact q3.elim
  | _=>exact q3.elim) q2⟩) q1⟩) q⟩⟩
def o4 (hK:X.K=K) {kk:Nat} (hg:Gl X "enumerate") (hm:X.mg "enumerate"=bm) (h:IF X K fs e wl) (Io:gM X e []:=by rfl):vG X K fs (.Tuple Ð kk tp) (.Call (.Name "enumerate" p1) [e] [] p2) (.bind wl λl=>.fj (l.length<=sizeLine) (.ret (d7 0 l))):=
 ⟨PI.imp (P7 K hK hg hm h.p Io) λσ H R ⟨sr,q⟩=>⟨sr,wl.mono (λl q1 u1 H1 g1 s1 v1=>by
  obtain⟨ad,vs,rfl,hh,rs⟩:=v1;have yl:∀{H':Hp}{i:Nat}{x v:V}{y:PV}{pp:ce},H' pp=bm->VR K [] H' v y->lR H' (upd H' pp (.tup [.int (i:Int),v]))/\VR K [] (upd H' pp (.tup [.int (i:Int),v])) (.ref pp) (.tup [.int ((0+i:Nat):Int),y]):=λ{H' i x v y pp} hn h4=>
   have sm:=jo hn (.tup [.int (i:Int),v])
   ⟨sm,.tup aU (.cons (by rw [AI];exact .int _) (.cons (VR.tk sm.eR h4) .nil))⟩
  refine⟨ad,rfl,?_⟩;rcases hh with hh | hh
  ·refine .inl ⟨⟨vs,hh.sq⟩,q1.2 _ H1 g1 s1 ⟨by rw [cB];exact q1.1,λH' t=>⟨λi p hp=>?_,vs,(t.f _ _ hh).sq,by rw [rs.length,cB];exact Am _⟩⟩⟩;obtain⟨y,hy,rfl⟩:=gL hp;obtain⟨v,h3,h4⟩:=(aL.tk t rs).get hy;refine⟨⟨vs,v,(t.f _ _ hh).sq,h3⟩,λx H3 z=>?_⟩;obtain⟨pp,x0,rfl,hn,rfl,hz⟩:=z;have:=hz vs (t.f _ _ hh).sq;rw [h3] at this;cases this;exact yl (x:=.aN) hn h4
  ·refine .inr ⟨⟨vs,dR.of hh⟩,q1.2 _ H1 g1 s1 ⟨by rw [cB];exact q1.1,λH' t=>⟨λi p hp=>?_,vs,dR.of (t.t _ _ hh),by rw [rs.length,cB];exact Am _⟩⟩⟩;obtain⟨y,hy,rfl⟩:=gL hp;obtain⟨v,h3,h4⟩:=(aL.tk t rs).get hy;refine⟨⟨vs,v,dR.of (t.t _ _ hh),h3⟩,λx H3 z=>?_⟩;obtain⟨pp,x0,rfl,hn,rfl,hz⟩:=z;have:=hz vs (dR.of (t.t _ _ hh));rw [h3] at this;cases this;exact yl (x:=.aN) hn h4) q⟩⟩
end
def sW:List Nat->List V->L2.St->L2.St
 | i::is,u::us,σ=>sW is us (σ.set i (ap u))
 | _,_,σ=>σ
def fG (K:Ab) (fs:bj) (is:List Nat) (wt:PV->W T) (dD:T->bj):TG:=λv σ H Q=>∃p,aX K H σ fs/\VR K [] H v p/\(wt p).run λt=>∀us,cU σ fs H (sW is us σ) (dD t) H->aX K H (sW is us σ) (dD t)->Q (sW is us σ) H
structure GF (X:Cx) (K:Ab) (fs:bj) (tg:ii) (is:List Nat) {T:Type} (wt:PV->W T) (dD:T->bj):Prop where p:PG X tg (fG K fs is wt dD)
def q9:PV->W (PV×PV)
 | .tup [a,b]=>.ret (a,b)
 | _=>.fail
def un3:PV->W (PV×PV×PV)
 | .tup [a,b,c]=>.ret (a,b,c)
 | _=>.fail
def un4:PV->W (PV×PV×PV×PV)
 | .tup [a,b,c,d]=>.ret (a,b,c,d)
 | _=>.fail
section
def g_1 (h:PG X tg (d5 i)):GF X K fs tg [i] .ret (λp=>fs.set i (ap (.val p))):=⟨PG.imp h λv σ H Q ⟨p,sr,r,q⟩=>q [v] (cU.dX sr v p i) (sr.dX r i)⟩
def Rx (hK:X.K=K) (h:PG X tg (Vr X.K 2 (mY (d5 i) (mY (d5 j) Vt)))):GF X K fs tg [i,j] q9 (λt=>(fs.set i (ap (.val t.1))).set j (ap (.val t.2))):=⟨PG.imp h λv σ H Q ⟨p,sr,r,q⟩=>by
 unfold q9 at q
 split at q
 ·cases r with
  | tup e rs=>
   cases rs with
   | cons ra t=>
   cases t with
   | cons rb t=>
   cases t;have s1:=sr.dX ra i;exact⟨_,_,rfl,dR.of e,rfl,_,_,rfl,_,_,rfl,rfl,q [_,_] ((cU.dX sr _ _ i).trans (cU.dX s1 _ _ j)) (s1.dX rb j)⟩
 ·exact q.elim⟩
def g_3 (hK:X.K=K) (h:PG X tg (Vr X.K 3 (mY (d5 i) (mY (d5 j) (mY (d5 k) Vt))))):GF X K fs tg [i,j,k] un3 (λt=>((fs.set i (ap (.val t.1))).set j (ap (.val t.2.1))).set k (ap (.val t.2.2))):=⟨PG.imp h λv σ H Q ⟨p,sr,r,q⟩=>by
 unfold un3 at q
 split at q
 ·cases r with
  | tup e rs=>
   cases rs with
   | cons ra t=>
   cases t with
   | cons rb t=>
   cases t with
   | cons rc t=>
   cases t;have s1:=sr.dX ra i;have s2:=s1.dX rb j;exact⟨_,_,rfl,dR.of e,rfl,_,_,rfl,_,_,rfl,_,_,rfl,rfl,q [_,_,_] (((cU.dX sr _ _ i).trans (cU.dX s1 _ _ j)).trans (cU.dX s2 _ _ k)) (s2.dX rc k)⟩
 ·exact q.elim⟩
def g_4 {l:Nat} (hK:X.K=K) (h:PG X tg (Vr X.K 4 (mY (d5 i) (mY (d5 j) (mY (d5 k) (mY (d5 l) Vt)))))):GF X K fs tg [i,j,k,l] un4 (λt=>(((fs.set i (ap (.val t.1))).set j (ap (.val t.2.1))).set k (ap (.val t.2.2.1))).set l (ap (.val t.2.2.2))):=⟨PG.imp h λv σ H Q ⟨p,sr,r,q⟩=>by
 unfold un4 at q
 split at q
 ·cases r with
  | tup e rs=>
   cases rs with
   | cons ra t=>
   cases t with
   | cons rb t=>
   cases t with
   | cons rc t=>
   cases t with
   | cons rd t=>
   cases t;have s1:=sr.dX ra i;have s2:=s1.dX rb j;have s3:=s2.dX rc k;exact⟨_,_,rfl,dR.of e,rfl,_,_,rfl,_,_,rfl,_,_,rfl,_,_,rfl,rfl,q [_,_,_,_] ((((cU.dX sr _ _ i).trans (cU.dX s1 _ _ j)).trans (cU.dX s2 _ _ k)).trans (cU.dX s3 _ _ l)) (s3.dX rd l)⟩
 ·exact q.elim⟩
end
section
variable {S T:Type}
def bz:List PV->S->(PV->S->W S)->W S
 | [],s,_=>.ret s
 | x::r,s,f=>.bind (f x s) λs'=>bz r s' f
inductive Lp (S T:Type) where
 | go (s:S) | out (t:T)
def mF:List PV->S->(PV->S->W (Lp S T))->W (Lp S T)
 | [],s,_=>.ret (.go s)
 | x::r,s,f=>.bind (f x s) λo=>match o with
  | .go s'=>mF r s' f
  | .out t=>.ret (.out t)
def Oy (k:S->W T) (inj:R->T):Lp S R->W T
 | .go s=>k s
 | .out r=>.ret (inj r)
@[simp] theorem ahJ (k:S->W T) (inj:R->T) (s:S):Oy k inj (.go s)=k s:=(rfl)
@[simp] theorem aeR (k:S->W T) (inj:R->T) (r:R):Oy k inj (.out r)=.ret (inj r):=(rfl)
def lpE (hd:S->bj) (out:R->End):Lp S R->End
 | .go s=>.nc (hd s)
 | .out r=>out r
def m7 (c:S->W Bool) (b:S->W S):Nat->S->W S
 | 0,_=>.fail
 | n+1,s=>.bind (c s) λk=>if k=true then .bind (b s) (m7 c b n) else .ret s
def Iv (c:S->W Bool) (b:S->W S) (s:S):W S:=⟨λQ=>∃n,(m7 c b n s).run Q,λh ⟨n,q⟩=>⟨n,(m7 c b n s).mono h q⟩⟩
end
section
variable {c:ii}{rest:List v4}{S T T2:Type}{hd:S->bj}{s0:S}{wt:PV->W T2}{dD:S->T2->bj}{k:S->W T}{out:T->End}{R:Type}{inj:R->T}
theorem SF.for {f:PV->S->W S}{wb:T2->S->W S} (hp:wS (dL X.prog X.w) X.A X.env X.xe) (hc:X.calm=true) (hi:vG X K fs tg iter wl) (hl:jh fs (hd s0)) (hg:∀s,GF X K (hd s) tg is wt (dD s)) (hf:∀p s,f p s=.bind (wt p) λt=>wb t s)
  (hb:∀s t,SF X K false (dD s t) body (wb t s) λs'=>.nc (hd s')) (hr:∀s,SF X K x (hd s) rest (k s) out) (hs:zQ X iter:=by intro _;rfl) :
  SF X K x fs (.For tg iter body [] pos::rest) (.bind wl λl=>.bind (bz l s0 f) k) out:=by
 refine SF.step (IW (g:=λv σ H Q=>∃s,fG K (hd s) is wt (dD s) v σ H Q) (tb:=λD σ H=>∃s t,fS K false (dD s t) (wb t s) (λs'=>.nc (hd s')) D σ H) hp hc hi.p (λZ s σ H v u Q I r ⟨s1,q⟩=>(hg s1).p Z s σ H v u Q I r q) (λZ s σ H D I ⟨s1,t1,q⟩=>(hb s1 t1).p Z s σ H D I q) hs) λD σ H ⟨sr,q⟩=>?_;refine⟨sr,wl.mono (λl q1 J H1 g1 s1 jf=>?_) q⟩;refine⟨λi m σ' H'=>∃s,aX K H' σ' (hd s)/\cU σ fs H σ' (hd s) H'/\JF K H' J l/\m=l.length-i/\i<=l.length/\(bz (l.drop i) s f).run λs'=>(k s').run λt=>bR K x σ fs H D (out t),⟨l.length,s0,s1.le hl,g1.f.trans (cU.le s1 hl),jf,by simp,Bc _,by simpa using q1⟩,?_⟩;rintro i m σ2 H2 ⟨s,s2,g2,U8,rfl,hi,q2⟩;obtain⟨j1,j2⟩:=U8.2 H2 (bq.refl H2);by_cases ff:i < l.length
 ·obtain⟨go,yl⟩:=j1 i _ (Ae ff);have ed:=Bp ff;rw [ed] at q2;refine .inr ⟨go,λσ3 H3=>∃s',aX K H3 σ3 (hd s')/\cU σ fs H σ3 (hd s') H3/\JF K H3 J l/\(bz (l.drop (i+1)) s' f).run λs'=>(k s').run λt=>bR K x σ fs H D (out t),λσ3 H3 ⟨s',a1,a2,a3,a4⟩=>⟨l.length-(i+1),by omega,s',a1,a2,a3,rfl,ff,a4⟩,λv H3 y=>?_⟩;obtain⟨sm,vx⟩:=yl v H3 y;have q2:(f l[i] s).run λs'=>(bz (l.drop (i+1)) s' f).run λs'=>(k s').run λt=>bR K x σ fs H D (out t):=q2;rw [hf] at q2;have s3:=s2.same sm;have g3:=g2.trans (cU.same sm s2);refine⟨s,_,s3,vx,(wt l[i]).mono (λt q4 us g4 s4=>?_) q2⟩;refine⟨s,t,s4,(wb t s).mono (λs' q5 σ5 H5 g5 s5=>?_) q4⟩;have fin:∃s',aX K H5 σ5 (hd s')/\cU σ fs H σ5 (hd s') H5/\JF K H5 J l/\(bz (l.drop (i+1)) s' f).run λs'=>(k s').run λt=>bR K x σ fs H D (out t):=⟨s',s5,(g3.trans g4).trans g5,U8.tk (bq.trans sm.eR (bq.trans (g4.eS s3) (g5.eS s4))),q5⟩;exact⟨λ_=>fin,fin⟩
 ·have e:i=l.length:=by omega
  subst e;rw [DT] at q2;exact .inl ⟨j2,hd s,k s,hr s,s2,(k s).mono (λt q3=>q3.go g2 sr s2) q2⟩
theorem SF.mF {f:PV->S->W (Lp S R)}{wb:T2->S->W (Lp S R)} (hp:wS (dL X.prog X.w) X.A X.env X.xe) (hc:X.calm=true) (hi:vG X K fs tg iter wl) (hl:jh fs (hd s0)) (hg:∀s,GF X K (hd s) tg is wt (dD s)) (hf:∀p s,f p s=.bind (wt p) λt=>wb t s)
  (ho:∀t,(out (inj t)).Q4)
  (hb:∀s t,SF X K false (dD s t) body (wb t s) (lpE hd λr=>out (inj r))) (hr:∀s,SF X K x (hd s) rest (k s) out) (hs:zQ X iter:=by intro _;rfl) :
  SF X K x fs (.For tg iter body [] pos::rest) (.bind wl λl=>.bind (FL.mF l s0 f) (Oy k inj)) out:=by
 refine SF.step (IW (g:=λv σ H Q=>∃s,fG K (hd s) is wt (dD s) v σ H Q) (tb:=λD σ H=>∃s t,fS K false (dD s t) (wb t s) (lpE hd λr=>out (inj r)) D σ H) hp hc hi.p (λZ s σ H v u Q I r ⟨s1,q⟩=>(hg s1).p Z s σ H v u Q I r q) (λZ s σ H D I ⟨s1,t1,q⟩=>(hb s1 t1).p Z s σ H D I q) hs) λD σ H ⟨sr,q⟩=>?_;refine⟨sr,wl.mono (λl q1 J H1 g1 s1 jf=>?_) q⟩;have lo:∀(D':Ends) (y:Bool) (t:R),D'.rt=D.rt->bR K x σ fs H D (out (inj t))->bR K y σ fs H D' (out (inj t)):=λD' y t e h=>bR.agq (ho t) e h;refine⟨λi m σ' H'=>∃s,aX K H' σ' (hd s)/\cU σ fs H σ' (hd s) H'/\JF K H' J l/\m=l.length-i/\i<=l.length/\(FL.mF (l.drop i) s f).run λo=>(Oy k inj o).run λt=>bR K x σ fs H D (out t),⟨l.length,s0,s1.le hl,g1.f.trans (cU.le s1 hl),jf,by simp,Bc _,by simpa using q1⟩,?_⟩;rintro i m σ2 H2 ⟨s,s2,g2,U8,rfl,hi,q2⟩;obtain⟨j1,j2⟩:=U8.2 H2 (bq.refl H2);by_cases ff:i < l.length
 ·obtain⟨go,yl⟩:=j1 i _ (Ae ff);have ed:=Bp ff;rw [ed] at q2;refine .inr ⟨go,λσ3 H3=>∃s',aX K H3 σ3 (hd s')/\cU σ fs H σ3 (hd s') H3/\JF K H3 J l/\(FL.mF (l.drop (i+1)) s' f).run λo=>(Oy k inj o).run λt=>bR K x σ fs H D (out t),λσ3 H3 ⟨s',a1,a2,a3,a4⟩=>⟨l.length-(i+1),by omega,s',a1,a2,a3,rfl,ff,a4⟩,λv H3 y=>?_⟩;obtain⟨sm,vx⟩:=yl v H3 y;have q2:(f l[i] s).run λo=>(match o with | .go s'=>FL.mF (l.drop (i+1)) s' f | .out t=>bd (.out t)).run λo=>(Oy k inj o).run λt=>bR K x σ fs H D (out t):=q2;rw [hf] at q2;have s3:=s2.same sm;have g3:=g2.trans (cU.same sm s2);refine⟨s,_,s3,vx,(wt l[i]).mono (λt q4 us g4 s4=>?_) q2⟩;refine⟨s,t,s4,(wb t s).mono (λo q5=>?_) q4⟩;cases o with
  | out t5=>
   refine bR.go (g3.trans g4) sr s4 (lo _ false t5 ?_ q5);rfl
  | go s'=>
   intro σ5 H5 g5 s5;have fin:∃s',aX K H5 σ5 (hd s')/\cU σ fs H σ5 (hd s') H5/\JF K H5 J l/\(FL.mF (l.drop (i+1)) s' f).run λo=>(Oy k inj o).run λt=>bR K x σ fs H D (out t):=⟨s',s5,(g3.trans g4).trans g5,U8.tk (bq.trans sm.eR (bq.trans (g4.eS s3) (g5.eS s4))),q5⟩;exact⟨λ_=>fin,fin⟩
 ·have e:i=l.length:=by omega
  subst e;rw [DT] at q2;exact .inl ⟨j2,hd s,k s,hr s,s2,(k s).mono (λt q3=>q3.go g2 sr s2) q2⟩
def SF.aba {cw:S->W Bool}{b:S->W S} (hp:wS (dL X.prog X.w) X.A X.env X.xe) (hl:jh fs (hd s0)) (hc:∀s,TF X K (hd s) c (cw s)) (hb:∀s,SF X K false (hd s) body (b s) λs'=>.nc (hd s')) (hr:∀s,SF X K x (hd s) rest (k s) out) :
  SF X K x fs (.While c body [] pos::rest) (.bind (Iv cw b s0) k) out:=by
 refine SF.step (PU (tc:=λσ H Q=>∃s,fT K (hd s) (cw s) σ H Q) (tb:=λD σ H=>∃s,fS K false (hd s) (b s) (λs'=>.nc (hd s')) D σ H) hp (λZ s σ H Q I ⟨s1,q⟩=>(hc s1).p Z s σ H Q I q) (λZ s σ H D I ⟨s1,q⟩=>(hb s1).p Z s σ H D I q)) λD σ H ⟨sr,n,q⟩=>?_;refine⟨λm σ' H'=>∃s,aX K H' σ' (hd s)/\cU σ fs H σ' (hd s) H'/\(m7 cw b m s).run λs'=>(k s').run λt=>bR K x σ fs H D (out t),⟨n,s0,sr.le hl,cU.le sr hl,q⟩,?_⟩;rintro m σ1 H1 ⟨s,s1,g1,q1⟩;cases m with
 | zero=>exact q1.elim
 | succ m=>
  refine⟨s,s1,(cw s).mono (λkk q2 H2 g2 s2=>?_) q1⟩;cases kk with
  | false=>
   refine ym ?_;exact⟨hd s,k s,hr s,s2,(k s).mono (λt q3=>q3.go (g1.trans g2.f) sr s2) q2⟩
  | true=>
   refine yk ?_;refine⟨λσ3 H3=>∃s,aX K H3 σ3 (hd s)/\cU σ fs H σ3 (hd s) H3/\(m7 cw b m s).run λs'=>(k s').run λt=>bR K x σ fs H D (out t),λσ3 H3 a=>⟨m,EX m,a⟩,s,s2,(b s).mono (λs' q5 σ5 H5 g5 s5=>?_) q2⟩;have fin:∃s,aX K H5 σ5 (hd s)/\cU σ fs H σ5 (hd s) H5/\(m7 cw b m s).run λs'=>(k s').run λt=>bR K x σ fs H D (out t):=⟨s',s5,(g1.trans g2.f).trans g5,q5⟩;exact⟨λ_=>fin,fin⟩
end
end
end FL
variable {f:PL.PV->FL.W (Option PL.PV)}{nX:FL.bj}
namespace FL
section
open PySem PySem.Spec PyProof.Rows L2 PL
variable {K:Ab}
def nu:List PV->(PV->W (Option PV))->W (List PV)
 | [],_=>.ret []
 | x::r,f=>.bind (f x) λo=>.bind (nu r f) λl=>.ret (o.toList++l)
def bI:List PV->(PV->W PV)->W (List PV)
 | [],_=>.ret []
 | x::r,f=>.bind (f x) λy=>.bind (bI r f) λl=>.ret (y::l)
theorem xN (f:PV->W PV):∀l,bI l f=nu l λp=>.bind (f p) λv=>.ret (ap v)
 | []=>rfl
 | x::r=>by
  show am (f x) (λy=>am (bI r f) λl=>bd (y::l))=am (f x) λy=>am (nu r _) λl=>bd (y::l);rw [xN f r]
def cD (ix:List (Option Nat)) (fs:bj):bj:=ix.map λo=>match o with | some j=>(fs[j]?).getD bm | none=>bm
section
def pC {s:SL} (h:(cD ix fs)[i]?=ap (ap s)):∃j,ix[i]?=ap (ap j)/\fs[j]?=ap (ap s):=by
 unfold cD at h;rw [Ak] at h;cases q:ix[i]? with
 | none=>rw [q] at h;cases h
 | some o=>
  rw [q] at h;cases o with
  | none=>cases h
  | some j=>
   refine⟨j,rfl,?_⟩;have h:(fs[j]?).getD bm=ap s:=Option.some.inj h;cases z:fs[j]? with
   | none=>rw [z] at h;cases h
   | some y=>rw [z] at h;exact congrArg ap h
def mw (h:ix[i]?=ap (ap j)) (e:σ[j]?=ap (ap u)):(pB ix σ)[i]?=ap (ap u):=by
 unfold pB;rw [Ak,h];show ap ((σ[j]?).getD bm)=_;rw [e];rfl
def aX.iQ (s:aX K H σ fs) (inj:∀i i' j:Nat,ix[i]?=ap (ap j)->ix[i']?=ap (ap j)->i=i'):aX K H (pB ix σ) (cD ix fs):=by
 refine⟨by unfold pB cD;simp,λi t e=>?_,λi i' t u x y a e1 e2 o1 o2 q1 q2 z1 z2=>?_⟩
 ·obtain⟨j,h1,h2⟩:=pC e;obtain⟨u,h3,h4⟩:=s.at' j t h2;exact⟨u,mw h1 h3,h4⟩
 ·obtain⟨j,h1,h2⟩:=pC e1;obtain⟨j',ib,si⟩:=pC e2;obtain⟨u1,h3,_⟩:=s.at' j t h2;obtain⟨u2,Rr,_⟩:=s.at' j' u si;rw [mw h1 h3] at q1;rw [mw ib Rr] at q2;cases q1;cases q2;have:=s.nd j j' t u x y a h2 si o1 o2 h3 Rr z1 z2;subst this;exact inj i i' j h1 ib
structure We (ix:List (Option Nat)) (σ:L2.St) (fs:bj) (σ':L2.St) (bH:bj):Prop where
 own:∀(i:Nat) (t:SL),bH[i]?=ap (ap t)->t.own=true->∃j,ix[i]?=ap (ap j)/\fs[j]?=ap (ap t)/\σ'[i]?=σ[j]?
def We.u9 (h:We ix σ fs σ' bH) (o:d8 σ' bH a):d8 σ fs a:=by
 obtain⟨i,t,x,e1,e2,e3,e4⟩:=o;obtain⟨j,h1,h2,h3⟩:=h.own i t e1 e2;exact⟨j,t,x,h2,e2,h3▸e3,e4⟩
def We.qb (h:We ix σ fs σ' bH) (o:iu σ' bH φ a):iu σ fs φ a:=by
 obtain⟨i,e1,e3⟩:=o;obtain⟨j,h1,h2,h3⟩:=h.own i _ e1 rfl;exact⟨j,h2,h3▸e3⟩
def We.out (h:We ix σ fs σ' bH) (s:aX K H1 σ fs) (g:dg σ' bH H1 H2) (s2:aX K H2 σ' bH):aX K H2 σ fs/\dg σ fs H1 H2:=by
 have gf:dg σ fs H1 H2:=⟨λa o e n=>g.keep a o e λφ z=>n φ (h.qb z),g.there⟩;refine⟨⟨s.len,λj t e=>?_,s.nd⟩,gf⟩;obtain⟨u,h1,h2⟩:=s.at' j t e;refine⟨u,h1,?_⟩;have tk:=gf.eS s;rcases h2 with⟨v,q,r⟩ | ⟨a,q,r⟩
 ·exact .inl ⟨v,q,VR.tk tk r⟩
 ·subst q;refine .inr ⟨a,rfl,?_⟩;by_cases c:∃b,t.own=true/\t.has a b/\d8 σ' bH b
  ·obtain⟨b,ow,hb,i,t',x,c1,c2,c3,c4⟩:=c;obtain⟨j',k1,k2,k3⟩:=h.own i t' c1 c2;have jj:=s.nd j j' t t' a x b e k2 ow c2 h1 (k3▸c3) hb c4;subst jj;rw [e] at k2;cases k2;exact s2.ownAt c1 c2 (k3.trans h1)
  ·exact r.mono tk (λb o ow hb z=>g.v8 z λy=>c ⟨b,ow,hb,y⟩)
theorem sV:∀{is:List Nat}{us:List V}{σ:L2.St}{i:Nat},i∉is->(sW is us σ)[i]?=σ[i]?
 | [],us,σ,i,_=>by cases us <;> rfl
 | j::is,[],σ,i,_=>rfl
 | j::is,u::us,σ,i,h=>by
  rw [sW,sV (λz=>h (A4 _ z))];exact aR (λz=>h (by rw [z];exact BA))
end
section
variable {T2:Type}{wt:PV->W T2}{dD:T2->bj}{tf:T2->W Bool}{te:T2->W PV}
structure FF (X:Cx) (K:Ab) (fs:bj) (Í:List ii) (w:W Bool):Prop where p:PFs X Í (fT K fs w)
def RF:FF X K fs [] (.ret true):=⟨λZ s σ H Q I ⟨sr,q⟩=>Ua Z s σ H Q I (q H .refl sr)⟩
def J1 {c:ii}{w:W Bool} (h:TF X K fs c w):FF X K fs [c] w:=⟨T9 h.p⟩
def vF (is:List Nat) (nX:bj) (dD:T2->bj):Prop:=∀t,(dD t).length=nX.length/\∀(i:Nat) (s:SL),(dD t)[i]?=ap (ap s)->(i∈is/\s.own=false)\/(i∉is/\nX[i]?=ap (ap s))
theorem Xa (S:aF X.env.scope X.N sc N' ix) (hb:nX=cD ix fs) (hf:∀p,f p=.bind (wt p) λt=>.bind (tf t) λk=>if k=true then .bind (te t) λv=>.ret (ap v) else .ret bm) (hl:vF is nX dD) (hr:∀t,jh (dD t) nX) (Hi:∀j∈is,ix[j]?=ap bm) :
  ∀σ H Q,fL K fs (.bind wl λl=>nu l f) σ H Q->tLc ix (fIt K fs wl) (λv σ H Q=>fG K nX is wt dD v σ H Q) (λσ H Q=>∃t,fT K (dD t) (tf t) σ H Q) (λσ H Q=>∃t,fE K (dD t) (te t) σ H Q) σ H Q:=by
 subst hb;rintro σ H Q ⟨sr,q⟩;refine⟨sr,wl.mono (λl q1 J H1 g1 s1 jf D hD=>?_) q⟩;have inj:∀i i' j:Nat,ix[i]?=ap (ap j)->ix[i']?=ap (ap j)->i=i':=λi i' j h1 h2=>by
  have hi:i < N'.length:=by rw [<- S.len];exact (Al.mp h1).1
  have Rk:i' < N'.length:=by rw [<- S.len];exact (Al.mp h2).1
  have e1:=(S.at h1 (Ae hi)).1;have e2:=(S.at h2 (Ae Rk)).1;rw [e1] at e2;exact (List.getElem_inj S.nd).mp (Option.some.inj e2)
 have nD:=s1.noOwn hD;refine⟨λi m σ' ys H'=>∃Ä,aX K H' σ fs/\dg σ fs H H'/\aX K H' σ' (cD ix fs)/\We ix σ fs σ' (cD ix fs)/\JF K H' J l/\H' D=ap (.lst ys)/\aL K [] H' ys Ä/\Ä.length<=i/\m=l.length-i/\i<=l.length/\
  (nu (l.drop i) f).run λr=>∀a vs H',dg σ fs H H'->aX K H' σ fs->H a=bm->H' a=ap (.lst vs)->aL K [] H' vs (Ä++r)->Q (.ref a) H',⟨l.length,[],?_⟩,?_⟩
 ·have sm:=jo hD (.lst []);refine⟨s1.same sm,g1.trans (dg.same sm),(s1.same sm).iQ inj,⟨λi t e o=>?_⟩,jf.tk sm.eR,aU,.nil,Bc _,by simp,Bc _,by simpa using q1⟩;obtain⟨j,h1,h2⟩:=pC e;obtain⟨u,h3,_⟩:=s1.at' j t h2;exact⟨j,h1,h2,by rw [mw h1 h3,h3]⟩
 rintro i m σ2 ys H2 ⟨Ä,sO,gO,s2,WW,U8,hy,vy,adh,rfl,hi,q2⟩;refine⟨hy,?_⟩;obtain⟨j1,j2⟩:=U8.2 H2 (bq.refl H2);by_cases ff:i < l.length
 ·obtain⟨go,yl⟩:=j1 i _ (Ae ff);have ed:=Bp ff;rw [ed] at q2;refine .inr ⟨go,λv H3 y=>?_⟩;obtain⟨sm,vx⟩:=yl v H3 y;have q2:(f l[i]).run λo=>(nu (l.drop (i+1)) f).run λr=>∀a vs H',dg σ fs H H'->aX K H' σ fs->H a=bm->H' a=ap (.lst vs)->aL K [] H' vs (Ä++(o.toList++r))->Q (.ref a) H':=q2;rw [hf] at q2;have s3:=s2.same sm;have sO3:=sO.same sm;have gO3:=gO.trans (dg.same sm);have hy3:=sm _ _ hy;have vy3:=aL.tk sm.eR vy;have jf3:=U8.tk sm.eR;refine⟨_,s3,vx,(wt l[i]).mono (λt q4 us g4 s4=>?_) q2⟩;have Vh:We ix σ fs (sW is us σ2) (dD t):=⟨λj u e o=>by
   rcases (hl t).2 j u e with⟨_,z⟩ | ⟨n,z⟩
   ·rw [z] at o;cases o
   ·obtain⟨j',k1,k2,k3⟩:=WW.own j u z o;exact⟨j',k1,k2,by rw [sV n];exact k3⟩⟩
  refine⟨t,s4,(tf t).mono (λkk q5 H5 g5 s5=>?_) q4⟩;obtain⟨sO5,ahO⟩:=Vh.out sO3 g5 s5;have gO5:=gO3.trans ahO;have tk5:=g5.eS s4;have nD4:¬d8 (sW is us σ2) (dD t) D:=λz=>nD (Vh.u9 z);have hy5:=g5.v8 hy3 nD4;have vy5:=aL.tk tk5 vy3;have jf5:=jf3.tk (g5.eS s4);have Ê:∀{H6:Hp},aX K H6 (sW is us σ2) (dD t)->aX K H6 (sW is us σ2) (cD ix fs)/\We ix σ fs (sW is us σ2) (cD ix fs):=λ{H6} z=>⟨z.le (hr t),⟨λj u e o=>Vh.own j u ((hr t).at j u e) o⟩⟩;cases kk with
  | false=>
   refine ym ⟨l.length-(i+1),by omega,Ä,sO5,gO5,(Ê s5).1,(Ê s5).2,jf5,hy5,vy5,by omega,rfl,ff,?_⟩;exact q5
  | true=>
   refine yk ⟨t,s5,(te t).mono (λv6 q6 u6 H6 g6 s6 v6'=>?_) q5⟩;obtain⟨sO6,ahN⟩:=Vh.out sO5 g6 s6;have gO6:=gO5.trans ahN;have tk6:=g6.eS s5;have Ă:=g6.v8 hy5 nD4;have vy6:=aL.tk tk6 vy5;have tkD:=rQ (K:=K) (.lst (ys++[u6])) Ă;have hD0:=g1.there D hD;refine⟨Ă,by rw [vy6.length];have:=U8.1;omega,l.length-(i+1),by omega,Ä++[v6],sO6.side nD Ă _,gO6.side hD0 _,((Ê s6).1).side (λz=>nD ((Ê s6).2.u9 z)) Ă _,(Ê s6).2,(jf5.tk (g6.eS s5)).tk (rQ _ Ă),aU,aL.tk tkD (vy6.append (.cons v6' .nil)),by rw [Ah];simp;omega,rfl,ff,?_⟩;refine (nu (l.drop (i+1)) f).mono (λr q7 a vs H7 g7 s7 n e v7=>q7 a vs H7 g7 s7 n e ?_) q6;simpa using v7
 ·have e:i=l.length:=by omega
  subst e;rw [DT] at q2;exact .inl ⟨j2,q2 D ys H2 gO sO (g1.there D hD) hy (by simpa using vy)⟩
end
end
end FL
namespace L2
open PySem PySem.Spec PyProof.Rows
def rz (l:ce) (items:Array bn) (n:Nat) (b:ce) (b9:Array bn) (n2:Nat) (sl:Array (Option bn)) (hc0:¬(!items.isEmpty&&Builtin.List.listTooLong (items.size+b9.size))=true) (hc1:items.size<=sizeLine) (qx:items.size+b9.size<=sizeLine+1) :
  Meets (ut.«list.extend» ⟨[.ref l,.ref b],[]⟩) (λ_ R s=>s.heap.get? l=ap {cls:=.type "list",dict:=bm,data:=.seq items n,slots:=#[]}/\s.heap.get? b=ap {cls:=.type "list",dict:=bm,data:=.seq b9 n2,slots:=sl}/\R (.ok (.ret AL)) {s with heap:=s.heap.update l (Br λx=>x++b9),toks:=s.toks}):=
 .of_wp λprog w A R s h=>by
  obtain⟨hp,g,d,tk,os⟩:=s;obtain⟨hl,hb,h⟩:=h;have f1:=E4;have f2:=DN;have f3:=D6;have f4:=DY;have f5:=DZ;have NF:(items++b9).size<=sizeLine+1:=by rw [Array.size_append];exact qx
  wp_walk using (CU hl rfl (hz:=hc1) (_hz':=NF)),Ca hl,Ca hb;exact⟨_,rfl,h⟩
def ab0 (K:Ab):V->List V->Hp->VK->Prop:=λx vs H Q=>∃l b xs zs,x=.ref l/\vs=[.ref b]/\H l=ap (.lst xs)/\(de K H b zs\/dR K H b zs)/\xs.length+zs.length<=sizeLine/\zW H l (.lst (xs++zs)) (Q .aN)
theorem UI (K:Ab) (hK:X.K=K):KU X "list.extend" (ab0 K):=by
 subst hK;intro Z s σ H x vs v us Q I rx rv h;obtain⟨l,b,xs,zs,rfl,rfl,hH,hB | hB,hz,q⟩:=h
 ·cases rx;obtain⟨u,rfl,ru⟩:=rv.one;cases ru;obtain⟨z,au,n,r,hl,e⟩:=I.rj hH;obtain⟨c8,r2,⟨⟨cls,dd,data,sl⟩,n2,e2,hc,hd,lz⟩,z2⟩:=I.list hB;simp only at hc hd lz;subst hc hd lz;have SQ:=r2.length;have hsz:au.toArray.size+c8.toArray.size<=sizeLine:=by rw [Ai,Ai];omega
  have ue:¬(!au.toArray.isEmpty&&Builtin.List.listTooLong (au.toArray.size+c8.toArray.size))=true:=by
   rw [oI hsz,EA];exact AR
  refine sB El ⟨_,e,rfl⟩ Ea (DW _ _)
   (rz l au.toArray n b c8.toArray n2 sl ue (by rw [Ai];omega) ∅) ⟨e,e2,?_⟩
  refine⟨.aN,_,I.Jp (its':=au++c8) hH e (by simp) (r.append r2) ?_,rfl,q.at⟩;rw [Ah];omega
 ·exact GL Z s σ H _ _ v us Q I rx rv ⟨l,b,xs,zs,rfl,rfl,hH,hB,hz,q⟩
end L2
variable {y z:Cg}{wi we:FL.W PL.PV}
namespace FL
section
open PySem PySem.Spec PyProof.Rows L2 PL
variable {K:Ab}
section
variable {T2:Type}{wt:PV->W T2}{dD:T2->bj}{tf:T2->W Bool}{te:T2->W PV}
def Za (hc:X.calm=true) (S:aF X.env.scope X.N sc N' ix) (hi:vG X K fs tg iter wl) (hg:∀cl C s2 H2 fp,GF (iQ X sc N' cl C s2 H2 fp) K (cD ix fs) tg is wt dD) (ņ:∀cl C s2 H2 fp t,FF (iQ X sc N' cl C s2 H2 fp) K (dD t) Í (tf t)) (he:∀cl C s2 H2 fp t,EF (iQ X sc N' cl C s2 H2 fp) K (dD t) Ç (te t))
  (hf:∀p,f p=.bind (wt p) λt=>.bind (tf t) λk=>if k=true then .bind (te t) λv=>.ret (ap v) else .ret bm) (hl:vF is (cD ix fs) dD/\∀t,jh (dD t) (cD ix fs)) (Hi:∀j∈is,ix[j]?=ap bm) (hs:zQ X iter:=by intro _;rfl) :
  LF X K fs (.ListComp Ç [⟨tg,iter,Í,0⟩] sc pos) (.bind wl λl=>nu l f):=
 ⟨PE.imp (ab7 hc S hi.p (λcl C s2 H2 fp=>(hg cl C s2 H2 fp).p) (λcl C s2 H2 fp Z s σ H Q I ⟨t,q⟩=>(ņ cl C s2 H2 fp t).p Z s σ H Q I q) (λcl C s2 H2 fp Z s σ H Q I ⟨t,q⟩=>(he cl C s2 H2 fp t).p Z s σ H Q I q) hs) (Xa S rfl hf hl.1 hl.2 Hi)⟩
def WJ {f:PV->W PV} (hc:X.calm=true) (S:aF X.env.scope X.N sc N' ix) (hi:vG X K fs tg iter wl) (hg:∀cl C s2 H2 fp,GF (iQ X sc N' cl C s2 H2 fp) K (cD ix fs) tg is wt dD) (he:∀cl C s2 H2 fp t,EF (iQ X sc N' cl C s2 H2 fp) K (dD t) Ç (te t))
  (hf:∀p,f p=.bind (wt p) te) (hl:vF is (cD ix fs) dD/\∀t,jh (dD t) (cD ix fs)) (Hi:∀j∈is,ix[j]?=ap bm) (hs:zQ X iter:=by intro _;rfl) :
  LF X K fs (.ListComp Ç [⟨tg,iter,[],0⟩] sc pos) (.bind wl λl=>bI l f):=by
 have:(λl=>bI l f)=λl=>nu l λp=>.bind (wt p) λt=>.bind (.ret true) λk=>if k=true then .bind (te t) λv=>.ret (ap v) else .ret bm:=funext λl=>by
  rw [xN];congr 1;funext p;rw [hf];rfl
 rw [this];exact Za (tf:=λ_=>.ret true) hc S hi hg (λ_ _ _ _ _ _=>RF) he (λp=>rfl) hl Hi hs
def SF.Wn {rest:List v4}{out:T->End}{k:List PV->W T} (hc:X.calm=true) (hN:X.N.Nodup) (Rk:X.N[i]?=ap y) (hx:X.env.scope.names.lookup y=ap .local) (S:aF X.env.scope X.N sc N' ix) (hi:vG X K fs tg iter wl) (hg:∀cl C s2 H2 fp,GF (iQ X sc N' cl C s2 H2 fp) K (cD ix fs) tg is wt dD) (ņ:∀cl C s2 H2 fp t,FF (iQ X sc N' cl C s2 H2 fp) K (dD t) Í (tf t)) (he:∀cl C s2 H2 fp t,EF (iQ X sc N' cl C s2 H2 fp) K (dD t) Ç (te t))
  (hf:∀p,f p=.bind (wt p) λt=>.bind (tf t) λk=>if k=true then .bind (te t) λv=>.ret (ap v) else .ret bm) (hl:vF is (cD ix fs) dD/\∀t,jh (dD t) (cD ix fs)) (Hi:∀j∈is,ix[j]?=ap bm) (hr:∀l,SF X K x (fs.set i (ap (.ol bm l))) rest (k l) out)
  (vm:lm (.ListComp Ç [⟨tg,iter,Í,0⟩] sc pos) (ap (.Name y px)) uY.line X.env=pure true:=by rfl) (hs:zQ X iter:=by intro _;rfl) :
  SF X K x fs (.Assign [.Name y px] (.ListComp Ç [⟨tg,iter,Í,0⟩] sc pos) uY::rest) (.bind (.bind wl λl=>nu l f) k) out:=
 SF.step (PX hc hN Rk hx S hi.p (λcl C s2 H2 fp=>(hg cl C s2 H2 fp).p) (λcl C s2 H2 fp Z s σ H Q I ⟨t,q⟩=>(ņ cl C s2 H2 fp t).p Z s σ H Q I q) (λcl C s2 H2 fp Z s σ H Q I ⟨t,q⟩=>(he cl C s2 H2 fp t).p Z s σ H Q I q) vm hs) λD σ H ⟨sr,q⟩=>
  Xa (K:=K) S rfl hf hl.1 hl.2 Hi σ H _ ⟨sr,(am wl λl=>nu l f).mono (λl q1 a ws H1 g1 s1 n e v1=>by
   have no:=sr.noOwn n;have s2:=s1.IV (t:=.ol bm l) ⟨by simp,ws,e,v1⟩ no i;exact⟨_,k l,hr l,s2,(k l).mono (λt q2=>q2.go (cU.IV s1 g1.f no n i) sr s2) q1⟩) q⟩
theorem xT:∀{l:bj}{i:Nat} (s:Option SL),l[i]?=ap bm->jh (l.set i s) l
 | [],_,_,h=>by simp at h
 | x::l,0,s,h=>by
  simp at h;subst h;exact .drop (jh.refl l)
 | x::l,i+1,s,h=>by
  rw [List.set_cons_succ];exact .keep (xT s (by simpa using h))
def jh.trans {a b c:bj} (h1:jh a b) (h2:jh b c):jh a c:=by
 induction h1 generalizing c with
 | nil=>exact h2
 | drop h ih=>cases h2 with | drop h2=>exact .drop (ih h2) | keep h2=>exact .drop (ih h2)
 | keep h ih=>cases h2 with | drop h2=>exact .drop (ih h2) | keep h2=>exact .keep (ih h2)
def tW {l:bj}{is:List Nat} (hl:l.length=nX.length/\∀(j:Nat) (s:SL),l[j]?=ap (ap s)->(j∈is/\s.own=false)\/(j∉is/\nX[j]?=ap (ap s))) (hi:nX[i]?=ap bm) :
  (l.set i (ap (.val v))).length=nX.length/\∀(j:Nat) (s:SL),(l.set i (ap (.val v)))[j]?=ap (ap s)->(j∈is++[i]/\s.own=false)\/(j∉is++[i]/\nX[j]?=ap (ap s)):=by
 refine⟨by rw [B4];exact hl.1,λj s e=>?_⟩;rcases da e with⟨rfl,rfl⟩ | ⟨n,e⟩
 ·exact .inl ⟨by simp,rfl⟩
 ·rcases hl.2 j s e with⟨h1,h2⟩ | ⟨h1,h2⟩
  ·exact .inl ⟨by simp [h1],h2⟩
  ·exact .inr ⟨by simp [h1,n],h2⟩
def WH (nX:bj):nX.length=nX.length/\∀(j:Nat) (s:SL),nX[j]?=ap (ap s)->(j∈([]:List Nat)/\s.own=false)\/(j∉([]:List Nat)/\nX[j]?=ap (ap s)):=⟨rfl,λj s e=>.inr ⟨by simp,e⟩⟩
def Y6 (hi:nX[i]?=ap bm):vF [i] nX (λp=>nX.set i (ap (.val p)))/\∀t,jh (nX.set i (ap (.val t))) nX:=⟨λt=>tW (is:=[]) (WH nX) hi,λt=>xT _ hi⟩
def Pn {l:bj}{s:Option SL} (h:l[j]?=ap bm) (n:j≠i):(l.set i s)[j]?=ap bm:=by rw [aR n];exact h
def US (hi:nX[i]?=ap bm) (hj:nX[j]?=ap bm) (n:j≠i):vF [i,j] nX (λt:PV×PV=>(nX.set i (ap (.val t.1))).set j (ap (.val t.2)))/\∀t:PV×PV,jh ((nX.set i (ap (.val t.1))).set j (ap (.val t.2))) nX:=
 ⟨λt=>tW (is:=[i]) (tW (is:=[]) (WH nX) hi) hj,λt=>(xT _ (Pn hj n)).trans (xT _ hi)⟩
end
section
variable {rest:List v4}{T:Type}{out:T->End}
def eF (sr:aX K H σ fs) (hs:fs[i]?=ap (ap (.ol q0 l))):∃a ws,σ[i]?=ap (ap (.ref a))/\H a=ap (.lst ws)/\aL K [] H ws l:=by
 obtain⟨u,e1,r⟩:=sr.at' i _ hs;rcases r with⟨v,e,_⟩ | ⟨a,e,z,ws,q1,q2⟩
 ·cases e
 ·subst e;exact⟨a,ws,e1,q1,q2⟩
def oE {sL:List V}{l':List PV} (sr:aX K H σ fs) (hs:fs[i]?=ap (ap (.ol q0 l))) (e1:σ[i]?=ap (ap (.ref a))) (sx:qY a H H') (h':H' a=ap (.lst sL)) (r:aL K [] H sL l'):aX K H' σ (fs.set i (ap (.ol q0 l')))/\cU σ fs H σ (fs.set i (ap (.ol q0 l'))) H':=
 gT (t':=.ol q0 l') sr hs rfl (by simp) e1 sx λtk=>⟨(sr.ownAt hs rfl e1).1,sL,h',aL.tk tk r⟩
def fx (l:List PV) (v:PV):W (List PV):=.fj (l.length < sizeLine) (.ret (l++[v]))
theorem SF.append (i:Nat) {k:List PV->W T} (hs:fs[i]?=ap (ap (.ol q0 l))) (hK:X.K=K) (hN:X.N[i]?=ap y) (hv:zM X.env.scope y) (he:EF X K fs e we) (hr:∀l',SF X K x (fs.set i (ap (.ol q0 l'))) rest (k l') out)
  (hd:jg y:=by decide) (jB:Ij y:=by decide) (c6:kw (.Name y p) "append" X.env (im (.Name y p) X.env)=im (.Name y p) X.env:=by rfl)
  (nv:Xr X bg [e]:=by rfl)
  (cZ:Oo Â bg:=by rfl) (o6:gM X e []:=by rfl) (eI:kL X bg []:=by rfl)
  (vm:lm (.Call (.Attribute (.Name y p) "append" Â) [e] [] bg) bm pos.line X.env=pure false:=by rfl) :
  SF X K x fs (.Expr (.Call (.Attribute (.Name y p) "append" Â) [e] [] bg) pos::rest) (.bind we λv=>.bind (fx l v) k) out:=
 SF.step (rT (qe K hK BQ PySem.F.slot_list_append PySem.F.type_list_append Jk (eE hN hv hd jB) (aY he.p bZ o6) c6 nv cZ o6 eI) vm) λD σ H ⟨sr,q⟩=>by
  obtain⟨a,ws,e1,h1,r1⟩:=eF sr hs;refine⟨_,e1,.inl ⟨rfl,_,de.of h1⟩,sr,we.mono (λv q1 u H1 g1 s1 v1=>?_) q⟩;obtain⟨a',sL,rH,ib,u7⟩:=eF s1 hs;rw [e1] at rH;cases rH;refine⟨a,sL,u,rfl,rfl,ib,by rw [u7.length];exact q1.1,λH2 sx h2=>?_⟩;obtain⟨s2,g2⟩:=oE s1 hs e1 sx h2 (u7.append (.one v1));exact⟨_,k _,hr _,s2,(k _).mono (λt q2=>q2.go (g1.f.trans g2) sr s2) q1.2⟩
def J2 (l m:List PV):W (List PV):=.fj (l.length+m.length<=sizeLine) (.ret (l++m))
theorem SF.extend (i:Nat) {k:List PV->W T} (hs:fs[i]?=ap (ap (.ol q0 l))) (hK:X.K=K) (hN:X.N[i]?=ap y) (hv:zM X.env.scope y) (he:QF X K fs e wl) (hr:∀l',SF X K x (fs.set i (ap (.ol q0 l'))) rest (k l') out)
  (hd:jg y:=by decide) (jB:Ij y:=by decide) (c6:kw (.Name y p) "extend" X.env (im (.Name y p) X.env)=im (.Name y p) X.env:=by rfl)
  (nv:Xr X bg [e]:=by rfl)
  (cZ:Oo Â bg:=by rfl) (o6:gM X e []:=by rfl) (eI:kL X bg []:=by rfl)
  (vm:lm (.Call (.Attribute (.Name y p) "extend" Â) [e] [] bg) bm pos.line X.env=pure false:=by rfl) :
  SF X K x fs (.Expr (.Call (.Attribute (.Name y p) "extend" Â) [e] [] bg) pos::rest) (.bind wl λm=>.bind (J2 l m) k) out:=
 SF.step (rT (qe K hK BQ PySem.F.slot_list_extend PySem.F.type_list_extend (UI K hK) (eE hN hv hd jB) (aY he.p bZ o6) c6 nv cZ o6 eI) vm) λD σ H ⟨sr,q⟩=>by
  obtain⟨a,ws,e1,h1,r1⟩:=eF sr hs;refine⟨_,e1,.inl ⟨rfl,_,de.of h1⟩,sr,wl.mono (λm q1 u H1 g1 s1 v1=>?_) q⟩;obtain⟨a',sL,rH,ib,u7⟩:=eF s1 hs;rw [e1] at rH;cases rH;obtain⟨b,zs,rfl,hb,rb⟩:=v1.sq s1;refine⟨a,b,sL,zs,rfl,rfl,ib,hb,by rw [u7.length,rb.length];exact q1.1,λH2 sx h2=>?_⟩;obtain⟨s2,g2⟩:=oE s1 hs e1 sx h2 (u7.append rb);exact⟨_,k _,hr _,s2,(k _).mono (λt q2=>q2.go (g1.f.trans g2) sr s2) q1.2⟩
def Gu (l:List PV):W (List PV×PV):=match l.getLast? with
 | some v=>.ret (l.dropLast,v)
 | none=>.fail
def Pk {l:List PV} (h:l.getLast?=ap v):l=l.dropLast++[v]:=by
 rw [List.getLast?_eq_some_iff] at h;obtain⟨ys,rfl⟩:=h;simp
theorem aL.snoc:∀{ws:List V}{l:List PV}{v:PV},aL K [] H ws (l++[v])->∃â u,ws=â++[u]/\aL K [] H â l/\VR K [] H u v
 | _,[],_,.cons r .nil=>⟨[],_,rfl,.nil,r⟩
 | _,x::l,v,.cons r t=>by
  obtain⟨â,u,rfl,h1,h2⟩:=aL.snoc t;exact⟨_::â,u,rfl,.cons r h1,h2⟩
def SF.IX (i j:Nat) {k:List PV×PV->W T} (hs:fs[i]?=ap (ap (.ol q0 l))) (Ą:j≠i) (hK:X.K=K) (hN:X.N[i]?=ap y) (hv:zM X.env.scope y) (Ō:X.N.Nodup) (hj:X.N[j]?=ap z) (hx:Loc X.env.scope z) (hr:∀t:List PV×PV,SF X K x ((fs.set i (ap (.ol q0 t.1))).set j (ap (.val t.2))) rest (k t) out)
  (hd:jg y:=by decide) (jB:Ij y:=by decide) (c6:kw (.Name y p) "pop" X.env (im (.Name y p) X.env)=im (.Name y p) X.env:=by rfl) (cZ:Oo Â bg:=by rfl)
  (vm:lm (.Call (.Attribute (.Name y p) "pop" Â) [] [] bg) (ap (.Name z p')) pos.line X.env=pure false:=by rfl) (hf:OB X z:=by first | exact .inl rfl | exact .inr rfl | assumption) :
  SF X K x fs (.Assign [.Name z p'] (.Call (.Attribute (.Name y p) "pop" Â) [] [] bg) pos::rest) (.bind (Gu l) k) out:=
 SF.step (tq Ō hj hx (Uh K hK BQ Fj Fi UE (eE hN hv hd jB) c6 cZ) vm hf) λD σ H ⟨sr,q⟩=>by
  obtain⟨a,ws,e1,h1,r1⟩:=eF sr hs;have q:(Gu l).run λt=>(k t).run λt=>bR K x σ fs H D (out t):=q;unfold Gu at q;cases hl:l.getLast? with
  | none=>rw [hl] at q;exact q.elim
  | some v=>
   rw [hl] at q;have el:=Pk hl;rw [el] at r1;obtain⟨â,u,rfl,r0,ru⟩:=aL.snoc r1;refine⟨_,e1,.inl ⟨rfl,_,de.of h1⟩,a,â,u,rfl,rfl,h1,λH2 sx h2=>?_⟩;obtain⟨s2,g2⟩:=oE sr hs e1 sx h2 r0;have ru2:VR K [] H2 u v:=g2.vr sr ru;have s3:=s2.dX ru2 j;exact⟨_,k _,hr (l.dropLast,v),s3,(k _).mono (λt q2=>q2.go (g2.trans (cU.dX s2 _ _ j)) sr s3) q⟩
def iU (l:List PV) (i v:PV):W (List PV):=match i with
 | .int k=>match wd l.length k with
  | some j=>.ret (l.set j v)
  | none=>.fail
 | _=>.fail
def SF.IL (i:Nat) {ei:ii}{k:List PV->W T} (hs:fs[i]?=ap (ap (.ol q0 l))) (hN:X.N[i]?=ap y) (hv:zM X.env.scope y) (he:EF X K fs e we) (hi:EF X K fs ei wi) (hr:∀l',SF X K x (fs.set i (ap (.ol q0 l'))) rest (k l') out)
  (ha:∀v,Fk (.Subscript (.Name y p) ei xf) X.env v=(do
   let ov <- Da [v] (im (.Name y p) X.env)
   let iv <- Da [v,ov] (im ei X.env)
   standAt xf
   Da [v,ov,iv] (setItem ov iv v)
   release [v,ov,iv] []):=by intro _;rfl)
  (hd:jg y:=by decide) (jB:Ij y:=by decide) (hss:EQ [.Subscript (.Name y p) ei xf] e pos.line X.env=pure false:=by rfl) (hw:Fa [.Subscript (.Name y p) ei xf] e X.env=pure bm:=by rfl)
  (h1:(zn [.Subscript (.Name y p) ei xf] X.env).map (·.2)=[Fk (.Subscript (.Name y p) ei xf) X.env]:=by rfl) :
  SF X K x fs (.Assign [.Subscript (.Name y p) ei xf] e pos::rest) (.bind we λv=>.bind wi λn=>.bind (iU l n v) k) out:=
 SF.step (PZ he.p (Yw (eE hN hv hd jB) hi.p MJ ha) hss hw h1) λD σ H ⟨sr,q⟩=>by
  refine⟨sr,we.mono (λv q1 u H1 g1 s1 v1=>?_) q⟩;obtain⟨a,ws,e1,h1,r1⟩:=eF s1 hs;refine⟨_,e1,s1,wi.mono (λn q2 u2 H2 g2 s2 v2=>?_) q1⟩;obtain⟨a',sL,rH,ib,u7⟩:=eF s2 hs;rw [e1] at rH;cases rH;cases v2 with
  | int kk=>
   have q2:(match wd l.length kk with | some j=>bd (l.set j v) | none=>W.fail).run _:=q2;cases hj:wd l.length kk with
   | none=>rw [hj] at q2;exact q2.elim
   | some j=>
    rw [hj] at q2;refine⟨a,sL,kk,j,rfl,rfl,ib,by rw [u7.length];exact hj,λH3 sx h3=>?_⟩;obtain⟨s3,g3⟩:=oE s2 hs e1 sx h3 (u7.set (g2.vr s1 v1) j);exact⟨_,k _,hr _,s3,(k _).mono (λt q3=>q3.go ((g1.trans g2).f.trans g3) sr s3) q2⟩
  | _=>exact q2.elim
end
end
end FL
variable {x:Cg}
namespace FL
section
open PySem PySem.Spec PyProof.Rows L2 PL
variable {K:Ab}
def iA:List AK->List PV->bj
 | [],_=>[]
 | .v::ks,x::l=>ap (.val x)::iA ks l
 | .v::_,[]=>[]
 | .p φ::ks,l=>ap (.qb φ)::iA ks l
 | .f a::ks,l=>ap (.adr a)::iA ks l
def iz (ks:List AK) (l:List PV) (n:Nat):bj:=iA ks l++An (n-ks.length) bm
def jH (ks:List AK):Prop:=∀i j:Nat,(∃φ,ks[i]?=ap (.p φ))->(∃φ,ks[j]?=ap (.p φ))->i=j
theorem jI:∀{n:Nat}{m:SW R n}{l:List PV}{Q:R->Prop},(cx n m l).run Q->l.length=n
 | 0,_,[],_,_=>rfl
 | 0,_,_::_,_,h=>h.elim
 | n+1,_,[],_,h=>h.elim
 | n+1,m,x::l,Q,h=>by rw [Ap,jI (n:=n) (m:=m x) h]
section
theorem jd.len (h:jd K H vs ks l):vs.length=ks.length:=by induction h <;> simp_all
def jd.slot (h:jd K H vs ks l):(iA ks l).length=vs.length/\∀(i:Nat) (s:SL),(iA ks l)[i]?=ap (ap s)->∃u,vs[i]?=ap u/\w4 K H u s/\(s.own=true->∃φ,s=.qb φ/\ks[i]?=ap (.p φ)):=by
 induction h with
 | nil=>exact⟨rfl,λi s e=>by simp [iA] at e⟩
 | @v u x vs ks l r t ih=>
  refine⟨by simp [iA,ih.1],λi s e=>?_⟩;cases i with
  | zero=>simp [iA] at e;subst e;exact⟨u,rfl,.inl ⟨x,rfl,r⟩,λz=>by cases z⟩
  | succ i=>simp [iA] at e;obtain⟨w,h1,h2,h3⟩:=ih.2 i s e;exact⟨w,by simpa using h1,h2,by simpa using h3⟩
 | @p a φ ws vs ks l e0 r t ih=>
  refine⟨by simp [iA,ih.1],λi s e=>?_⟩;cases i with
  | zero=>simp [iA] at e;subst e;exact⟨_,rfl,.inr ⟨a,rfl,ws,e0,r⟩,λ_=>⟨φ,rfl,rfl⟩⟩
  | succ i=>simp [iA] at e;obtain⟨w,h1,h2,h3⟩:=ih.2 i s e;exact⟨w,by simpa using h1,h2,by simpa using h3⟩
 | @f a vs ks l t ih=>
  refine⟨by simp [iA,ih.1],λi s e=>?_⟩;cases i with
  | zero=>simp [iA] at e;subst e;exact⟨_,rfl,.inr ⟨a,rfl,rfl⟩,λz=>by cases z⟩
  | succ i=>simp [iA] at e;obtain⟨w,h1,h2,h3⟩:=ih.2 i s e;exact⟨w,by simpa using h1,h2,by simpa using h3⟩
def jd.Yu (h:jd K H vs ks l) (e:ks[i]?=ap (.p φ)):(iA ks l)[i]?=ap (ap (.qb φ)):=by
 induction h generalizing i with
 | nil=>simp at e
 | v r t ih=>cases i with | zero=>simp at e | succ i=>simp [iA];exact ih (by simpa using e)
 | p e0 r t ih=>cases i with | zero=>simp at e;subst e;rfl | succ i=>simp [iA];exact ih (by simpa using e)
 | f t ih=>cases i with | zero=>simp at e | succ i=>simp [iA];exact ih (by simpa using e)
theorem pD {s:SL} (h:(iz ks l n)[i]?=ap (ap s)):(iA ks l)[i]?=ap (ap s):=by
 unfold iz at h;by_cases c:i < (iA ks l).length
 ·rw [AU c] at h;exact h
 ·rw [A5 ∅,Bv] at h
  split at h <;> cases h
def lV {N:List Str} (h:vs[i]?=ap u):(L2.start N vs)[i]?=ap (ap u):=by
 unfold L2.start;rw [AU (by rw [Af];exact (Al.mp h).1),Ak,h];rfl
def vM {N:List Str} (h:(L2.start N vs)[i]?=ap (ap u)):vs[i]?=ap u:=by
 unfold L2.start at h;by_cases c:i < vs.length
 ·rw [AU (by simpa using c),Ak] at h;cases z:vs[i]? with
  | none=>rw [z] at h;cases h
  | some q=>rw [z] at h;cases h;rfl
 ·rw [A5 (by simpa using c),Bv] at h
  split at h <;> cases h
def jd.beg (h:jd K H vs ks l) (one:jH ks) (N:List Str):aX K H (L2.start N vs) (iz ks l N.length):=by
 obtain⟨hl,hs⟩:=h.slot;refine⟨?_,λi s e=>?_,λi j s t x y a e1 e2 o1 o2 q1 q2 z1 z2=>?_⟩
 ·unfold L2.start iz;rw [Ah,Ah,Af,hl,Bs,Bs,h.len]
 ·obtain⟨u,h1,h2,_⟩:=hs i s (pD e);exact⟨u,lV h1,h2⟩
 ·obtain⟨_,_,_,h3⟩:=hs i s (pD e1);obtain⟨_,_,_,h4⟩:=hs j t (pD e2);obtain⟨φ,_,k1⟩:=h3 o1;obtain⟨ψ,_,k2⟩:=h4 o2;exact one i j ⟨φ,k1⟩ ⟨ψ,k2⟩
def jd.go (h:jd K H vs ks l) {N:List Str} (g:cU (L2.start N vs) (iz ks l N.length) H σ' bH H') (s':aX K H' σ' bH):GoC vs ks H H':=by
 obtain⟨hl,hs⟩:=h.slot;refine⟨λa o e n=>(g.keep a o e λz=>?_).1,g.there,λa φ p=>?_⟩
 ·obtain⟨i,s,x,e1,e2,e3,e4⟩:=z;obtain⟨u,h1,h2,h3⟩:=hs i s (pD e1);obtain⟨φ,rfl,k⟩:=h3 e2;rcases e4 with rfl | e4
  ·exact n φ ⟨i,k,vM e3⟩
  ·cases e4
 ·obtain⟨i,e1,e2⟩:=p;have e3:=h.Yu e1;have hi:=(Al.mp e3).1;have e4:(iz ks l N.length)[i]?=ap (ap (.qb φ)):=by unfold iz;rw [AU hi];exact e3
  rcases g.pk a φ ⟨i,e4,lV e2⟩ with⟨j,k1,k2⟩ | ⟨_,k⟩
  ·exact s'.ownAt k1 rfl k2
  ·exact k
end
section
variable {st:v4}{f:ce}{N:List Str}
def fnV {m:SW PV n} (Fn:SV K x qual st f fd) (S:ar N ps (ag st)) (o7:ks.length=ps.length) (one:jH ks)
  (Ã:∀l:List PV,l.length=n->∀(cn:bn) (A:o0) (outer:List Env) (s:cr) (H:Hp) (E:XK),cS k (A.deeper (r9 qual (ag st) s.heap.objs.size f cn))->SF (iy mz P w K mg base N qual (ag st) f cn A outer s H E).vT K false (iz ks l N.length) (a6 st) (cx n m l) .rt) :
  iB P w K mg base mz (k+1) f fd ps (gz K ks (cx n m)):=by
 refine Fn.ok S (λvs H Q E h=>?_) (λcn A outer s H vs Q E hr h=>?_)
 ·obtain⟨l,h,_⟩:=h;rw [h.len];exact o7
 obtain⟨l,h,q⟩:=h;refine⟨_,(Ã l (jI q) cn A outer s H E hr).p,h.beg one N,(cx n m l).mono (λv q1 u σ' bH H' g s' r=>q1 u H' (h.go g s') r) q⟩
def fnL {m:SW (List PV) n} (Fn:SV K x qual st f fd) (S:ar N ps (ag st)) (o7:ks.length=ps.length) (one:jH ks)
  (Ã:∀l:List PV,l.length=n->∀(cn:bn) (A:o0) (outer:List Env) (s:cr) (H:Hp) (E:XK),cS k (A.deeper (r9 qual (ag st) s.heap.objs.size f cn))->SF (iy mz P w K mg base N qual (ag st) f cn A outer s H E).vT K false (iz ks l N.length) (a6 st) (cx n m l) .rl) :
  iB P w K mg base mz (k+1) f fd ps (fh K ks (cx n m)):=by
 refine Fn.ok S (λvs H Q E h=>?_) (λcn A outer s H vs Q E hr h=>?_)
 ·obtain⟨l,h,_⟩:=h;rw [h.len];exact o7
 obtain⟨l,h,q⟩:=h;have sr:=h.beg one N;refine⟨_,(Ã l (jI q) cn A outer s H E hr).p,sr,(cx n m l).mono (λz q1 a ws σ' bH H' g s' fr e r=>q1 a ws H' (h.go g s') ?_ e r) q⟩;rcases fr with fr | ⟨i,t,x,e1,e2,np,e3,e4⟩
 ·exact fr
 ·obtain⟨_,_,_,h3⟩:=h.slot.2 i t (pD e1);obtain⟨φ,e,_⟩:=h3 e2;exact absurd e (np φ)
end
def cz:jH []:=λi j ⟨_,h⟩=>by simp at h
def dY (h:jH ks):jH (.v::ks):=λi j ⟨φ,a⟩ ⟨ψ,b⟩=>by
 cases i with
 | zero=>simp at a
 | succ i=>
  cases j with
  | zero=>simp at b
  | succ j=>rw [h i j ⟨φ,by simpa using a⟩ ⟨ψ,by simpa using b⟩]
def av:jH (.p φ::An n .v):=λi j ⟨χ,a⟩ ⟨ψ,b⟩=>by
 have z:∀{i:Nat}{χ:List V->Prop},(AK.p φ::An n .v)[i]?=ap (.p χ)->i=0:=λ{i χ} a=>by
  cases i with
  | zero=>rfl
  | succ i=>
   have a:(An n AK.v)[i]?=ap (.p χ):=by simpa using a
   rw [Bv] at a
   split at a <;> simp at a
 rw [z a,z b]
end
end FL
namespace L2
open PySem PySem.Spec PyProof.Rows
def ab2 (K:Ab):R2:=λx y H Q=>∃a b xs zs,x=.ref a/\y=.ref b/\de K H a xs/\de K H b zs/\xs.length+zs.length<=sizeLine/\kJ H (.lst (xs++zs)) Q
theorem Ut (K:Ab) (hK:X.K=K):je X (sn .Add) (ab2 K):=by
 subst hK;intro Z s σ H x y v u Q I rx ry h;obtain⟨l,b,xs,zs,rfl,rfl,hH,hB,hz,q⟩:=h;cases rx;cases ry;obtain⟨au,r,⟨⟨cls,dd,data,sl⟩,n,ho,hc,hd,lz⟩,_⟩:=I.list hH;obtain⟨c8,r2,⟨⟨Œ,VS,data2,SJ⟩,n2,NH,Rm,Ô,W4⟩,_⟩:=I.list hB;simp only at hc hd lz Rm Ô W4;subst hc hd lz Rm Ô W4;have e:au.toArray++c8.toArray=(au++c8).toArray:=by simp
 have hl:=r.length;have SQ:=r2.length;refine concat_meets ⟨_,ho,rfl⟩ ⟨_,NH,rfl⟩ noFill_list_add seq_list_add PySem.F.slot_list_add PySem.F.entry_list_add (PySem.F.args_list_add_2 _ _) (list_addW l b au.toArray c8.toArray n n2 bm bm sl SJ (by simp;omega)) ⟨ho,NH,?_⟩;rw [e];exact⟨.ref _,_,I.Y2 (t':=s.toks) (r.append r2) (by rw [Ah];omega),rfl,q.at _ I.fresh⟩
end L2
variable {hi:FL.W (Option Int)}{neg:Bool}
namespace FL
section
open PySem PySem.Spec PyProof.Rows L2 PL
variable {K:Ab}
section
variable {a c:ii}{w:W PV}{wm:W (List PV)}
def mH (l m:List PV):W (List PV):=.fj (l.length+m.length<=sizeLine) (.ret (l++m))
def fQL (K:Ab) (fs:bj) (w:W (List PV)):TE:=λσ H Q=>aX K H σ fs/\w.run λl=>∀u H',dg σ fs H H'->aX K H' σ fs->V9 K σ fs H' u l->(∀Ī,dg σ fs H' Ī->aX K Ī σ fs->∃a vs,u=.ref a/\de K Ī a vs/\aL K [] Ī vs l)->Q u H'
structure Ih (X:Cx) (K:Ab) (fs:bj) (e:ii) (w:W (List PV)):Prop where p:PE X e (fQL K fs w)
def bX (h:LF X K fs e wl):Ih X K fs e wl:=⟨PE.imp h.p λσ H Q ⟨sr,q⟩=>⟨sr,wl.mono (λl q1 a vs H1 g1 s1 n e v=>q1 _ H1 g1 s1 (.inr ⟨a,rfl,.inl ⟨sr.noOwn n,vs,e,v⟩⟩) λH2 g2 s2=>⟨a,vs,rfl,de.of (g2.v8 e (sr.noOwn n)),g2.OT s1 v⟩) q⟩⟩
def IU (i:Nat) (hs:fs[i]?=ap (ap (.ol q0 l)):=by rfl) (hN:X.N[i]?=ap x:=by rfl) (hv:zM X.env.scope x:=by first | exact C0 rfl | exact CI (C0 rfl) | exact CI (CI rfl)) (hd:jg x:=by decide) (jB:Ij x:=by decide):Ih X K fs (.Name x pos) (.ret l):=
 ⟨PE.imp (eE hN hv hd jB) λσ H Q ⟨sr,q⟩=>by
  obtain⟨a,ws,e1,h1,r1⟩:=eF sr hs;refine⟨_,e1,q _ H .refl sr (.inr ⟨a,rfl,.inr ⟨i,q0,hs,e1⟩⟩) λH2 g2 s2=>?_⟩;obtain⟨a',sL,rH,ib,u7⟩:=eF s2 hs;rw [e1] at rH;cases rH;exact⟨a,sL,rfl,de.of ib,u7⟩⟩
def tJ:PV->W (List PV)
 | .cl l=>.ret l
 | _=>.fail
def jO (h:EF X K fs e w):Ih X K fs e (.bind w tJ):=⟨PE.imp h.p λσ H Q ⟨sr,q⟩=>⟨sr,w.mono (λx q1 u1 H1 g1 s1 v1=>by
 cases v1 with
 | cl e r=>exact q1 _ H1 g1 s1 (.inl ⟨_,_,rfl,.inl e,r⟩) λH2 g2 s2=>⟨_,_,rfl,((g2.eS s1).f _ _ e).sq,g2.OT s1 r⟩
 | _=>exact q1.elim) q⟩⟩
def lh (hK:X.K=K) (ha:Ih X K fs a wl) (hb:Ih X K fs b wm):LF X K fs (.BinOp a .Add b pos) (.bind wl λl=>.bind wm λm=>mH l m):=⟨PE.imp (Lu (Ut K hK) ha.p hb.p) λσ H Q ⟨sr,q⟩=>⟨sr,wl.mono (λl q1 u1 H1 g1 s1 _ v1=>⟨s1,wm.mono (λm q2 u2 H2 g2 s2 _ v2=>by
 obtain⟨a,vs,rfl,h1,r1⟩:=v1 H2 g2 s2;obtain⟨b,ws,rfl,h2,r2⟩:=v2 H2 .refl s2;refine⟨a,b,vs,ws,rfl,rfl,h1,h2,by rw [r1.length,r2.length];exact q2.1,λp H3 s3 h3 n3=>?_⟩;have gg:=g1.trans g2;exact q2.2 p _ H3 (gg.trans (dg.same s3)) (s2.same s3) (gg.there p n3) h3 (aL.tk s3.eR (r1.append r2))) q1⟩) q⟩⟩
def GJ {Q:VK} (g1:dg σ fs H H1) (s1:aX K H1 σ fs) (r:aL K [] H1 vs l) (q:∀a vs H',dg σ fs H H'->aX K H' σ fs->H a=bm->H' a=ap (.lst vs)->aL K [] H' vs l->Q (.ref a) H'):kJ H1 (.lst vs) Q:=λp H2 s2 h2 n2=>q p vs H2 (g1.trans (dg.same s2)) (s1.same s2) (g1.there p n2) h2 (aL.tk s2.eR r)
def Qx (K:Ab):CL K (PF K) .ret:=λ{fs σ H Q u l} s v q=>by
 obtain⟨a,vs,rfl,h,rs⟩:=v.sq s;exact⟨a,vs,rfl,h,GJ .refl s rs q⟩
def Y9 (hK:X.K=K) (hg:Gl X "list") (hm:X.mg "list"=bm) (ha:QF X K fs e wl) (he:gM X e []:=by rfl) (dQ:kL X pos []:=by rfl):LF X K fs (.Call (.Name "list" p) [e] [] pos) wl:=QG (m:=.ret) (Ku K hK) (Qx K) hg hm boot_list ha ⋯ ⋯ he dQ
def dI (hK:X.K=K) (hg:Gl X "tuple") (hm:X.mg "tuple"=bm) (ha:QF X K fs e wl) (he:gM X e []:=by rfl) (dQ:kL X pos []:=by rfl):EF X K fs (.Call (.Name "tuple" p) [e] [] pos) (.bind wl mD):=NT (N4 K hK) (S8 K) hg hm boot_tuple ha ⋯ ⋯ he dQ
def uv (hK:X.K=K) (hg:Gl X "len") (hm:X.mg "len"=bm) (ha:QF X K fs e wl) (he:gM X e []:=by rfl) (dQ:kL X pos []:=by rfl):EF X K fs (.Call (.Name "len" p) [e] [] pos) (.bind wl GY):=R4 (wN K hK) (UR K) hg hm boot_len ha ⋯ ⋯ he dQ
def Sw (ha:EF X K fs e w) (he:f8 [e] X.env=(false,im e X.env)::f8 [] X.env):AF X K fs [e] (An 1 .v) (R:=R) (λk=>.bind w λx=>k [x]):=aa ha ai he
def dC (hK:X.K=K) (hg:Gl X "len") (hm:X.mg "len"=bm) (ha:EF X K fs e w) (he:gM X e []:=by rfl) (dQ:kL X pos []:=by rfl):EF X K fs (.Call (.Name "len" p) [e] [] pos) (.bind w λx=>qf df [x]):=sA (n:=1) (wN K hK) (V0 K) hg hm boot_len (Sw ha he) ⋯ ⋯ he dQ
def Xf (hg:Gl X "abs") (hm:X.mg "abs"=bm) (ha:EF X K fs e w) (he:gM X e []:=by rfl) (dQ:kL X pos []:=by rfl):EF X K fs (.Call (.Name "abs" p) [e] [] pos) (.bind w λx=>qf HS [x]):=sA (n:=1) Sj V2 hg hm boot_abs (Sw ha he) ⋯ ⋯ he dQ
def VF (hg:Gl X "int") (hm:X.mg "int"=bm) (ha:EF X K fs e w) (he:gM X e []:=by rfl) (dQ:kL X pos []:=by rfl):EF X K fs (.Call (.Name "int" p) [e] [] pos) (.bind w λx=>qf KA [x]):=R3 (n:=1) N9 V1 hg hm boot_int (Sw ha he) ⋯ ⋯ he dQ
def adI (hc:X.calm=true) (hg:Gl X "max") (hm:X.mg "max"=bm) (ha:EF X K fs a wa) (hb:EF X K fs b wb) (he:f8 [a,b] X.env=(false,im a X.env)::f8 [b] X.env:=by rfl) (ZE:gM X b []:=by rfl) (dQ:(wP pos (f8 [b] X.env)).any (·.1)=false:=by rfl):EF X K fs (.Call (.Name "max" p) [a,b] [] pos) (.bind wa λx=>.bind wb λy=>qf Od [x,y]):=sA (n:=2) (N6 hc) VZ hg hm boot_max (aa ha (aa hb ai ZE) he) ⋯ ⋯ he dQ
def adH (hc:X.calm=true) (hg:Gl X "min") (hm:X.mg "min"=bm) (ha:EF X K fs a wa) (hb:EF X K fs b wb) (he:f8 [a,b] X.env=(false,im a X.env)::f8 [b] X.env:=by rfl) (ZE:gM X b []:=by rfl) (dQ:(wP pos (f8 [b] X.env)).any (·.1)=false:=by rfl):EF X K fs (.Call (.Name "min" p) [a,b] [] pos) (.bind wa λx=>.bind wb λy=>qf Oc [x,y]):=sA (n:=2) (N5 hc) VY hg hm boot_min (aa ha (aa hb ai ZE) he) ⋯ ⋯ he dQ
def acz (hK:X.K=K) (hc:X.calm=true) (Ņ:Gl X "list") (ŀ:X.mg "list"=bm) (ń:Gl X "reversed") (è:X.mg "reversed"=bm) (he:Ih X K fs e wl)
  (Io:f8 [.Call (.Name "reversed" p3) [e] [] p4] X.env=(false,im (.Call (.Name "reversed" p3) [e] [] p4) X.env)::f8 [] X.env:=by rfl) (qx:gM X e []:=by rfl) :
  LF X K fs (.Call (.Name "list" p1) [.Call (.Name "reversed" p3) [e] [] p4] [] p2) (.bind wl λl=>.ret l.reverse):=⟨PE.imp (I0 K hK hc Ņ ŀ ń è he.p Io qx) λσ H Q ⟨sr,q⟩=>⟨sr,wl.mono (λl q1 u1 H1 g1 s1 _ v1=>by
 obtain⟨a,vs,rfl,h1,r1⟩:=v1 H1 .refl s1;exact⟨a,vs,rfl,h1,GJ g1 s1 r1.reverse q1⟩) q⟩⟩
def bsW:List PV->W (List Bool)
 | []=>.ret []
 | .bl b::r=>.bind (bsW r) λl=>.ret (b::l)
 | _=>.fail
theorem Mi:∀{l:List PV}{Q:List Bool->Prop},(bsW l).run Q->∃bs:List Bool,l=bs.map PV.bl/\Q bs
 | [],Q,h=>⟨[],rfl,h⟩
 | .bl b::r,Q,h=>by
  obtain⟨bs,e,q⟩:=Mi (l:=r) h;exact⟨b::bs,by rw [e];rfl,q⟩
 | .aN::r,Q,h=>h.elim
 | .int _::r,Q,h=>h.elim
 | .str _::r,Q,h=>h.elim
 | .tup _::r,Q,h=>h.elim
 | .ref _::r,Q,h=>h.elim
 | .ty _::r,Q,h=>h.elim
 | .cl _::r,Q,h=>h.elim
@[simp] theorem Mj:∀bs:List Bool,bsW (bs.map PV.bl)=.ret bs
 | []=>rfl
 | b::bs=>by
  show am (bsW (bs.map PV.bl)) _=_;rw [Mj bs];rfl
def Oh (l:List PV):W PV:=.bind (bsW l) λbs=>.ret (.bl (bs.any id))
def adM (hK:X.K=K) (hc:X.calm=true) (hg:Gl X "any") (hm:X.mg "any"=bm) (ha:Ih X K fs e wl) (he:gM X e []:=by rfl) (dQ:kL X pos []:=by rfl):EF X K fs (.Call (.Name "any" p) [e] [] pos) (.bind wl Oh):=⟨PE.imp (eU (Oa K hK hc) hg hm boot_any (aY ha.p bZ he) ⋯ ⋯ he dQ) λσ H Q ⟨sr,q⟩=>⟨sr,wl.mono (λl q1 u1 H1 g1 s1 _ v1=>by
 obtain⟨bs,e,q2⟩:=Mi (l:=l) q1;obtain⟨a,vs,rfl,h1,r1⟩:=v1 H1 .refl s1;rw [e] at r1;have:=wQ r1;subst this;exact⟨a,bs,rfl,h1,q2 _ H1 g1 s1 (.bl _)⟩) q⟩⟩
def f9 (k:Kd) (x:PV):W PV:=match x with
 | .ref _=>.fail
 | .ty _=>.fail
 | x=>.ret (.bl (k.is x))
def Ww (K:Ab):List V->Hp->VK->Prop:=λxs H Q=>∃x c t b,xs=[x,.ty c]/\(mI K H x t\/(t=.type "tuple"/\∃a vs,x=.ref a/\dR K H a vs)\/(t=.type "list"/\∃a vs,x=.ref a/\de K H a vs)\/(t=.type "dict"/\∃a,x=.ref a/\IsD H a))/\Bw K t (.type c)=ap b/\Q (.bl b) H
def N8 (hK:X.K=K):bS X (.builtin "isinstance") (Ww K):=by
 subst hK;intro Z s σ H xs us Q I r h;obtain⟨x,c,t,b,rfl,ty | ty | ⟨rfl,a,vs,rfl,hL⟩ | ⟨rfl,a,rfl,hD⟩,e,q⟩:=h
 ·exact qX Z s σ H _ us Q I r ⟨x,c,t,b,rfl,ty,e,q⟩
 ·exact N7 X.K rfl Z s σ H _ us Q I r ⟨x,c,t,b,rfl,.inr ty,e,q⟩
 ·obtain⟨u,w,rfl,r1,r2⟩:=vals2 r;cases r1;cases r2;obtain⟨au,_,⟨o,n,h1,h2,_⟩,_⟩:=I.list hL;exact Bf ED I.v9 ⟨o,h1,h2⟩ e (λz=>nomatch z) λtk=>⟨.bl b,H,I.tok _,rfl,q⟩
 ·obtain⟨u,w,rfl,r1,r2⟩:=vals2 r;cases r1;cases r2;have:∃o,s.heap.get? a=ap o/\o.cls=.type "dict":=by
   rcases hD with⟨kvs,e⟩ | ⟨kvs,e⟩
   ·obtain⟨_,_,vs,_,o,_,_,h1,h2,_⟩:=wM I.bC e;exact⟨o,h1,h2.1⟩
   ·obtain⟨_,_,xs,_,o,_,_,h1,h2,_⟩:=wJ I.bC e;exact⟨o,h1,h2.1⟩
  obtain⟨o,h1,h2⟩:=this;exact Bf EE I.v9 ⟨o,h1,h2⟩ e (λz=>nomatch z) λtk=>⟨.bl b,H,I.tok _,rfl,q⟩
def iP (hK:X.K=K) (k:Kd) (hg:Gl X "isinstance") (hm:X.mg "isinstance"=bm) (ha:EF X K fs a wa) (hgx:Gl X x) (hmx:X.mg x=bm) (hv:lw x=ap (.type k.name)) (hn:x≠"__name__":=by decide) (hd:jg x:=by decide)
  (he:f8 [a,.Name x p2] X.env=(false,im a X.env)::f8 [.Name x p2] X.env:=by rfl) (ZE:f8 [Expr.Name x p2] X.env=(false,im (.Name x p2) X.env)::f8 [] X.env:=by rfl)
  (dQ:(wP pos (f8 [Expr.Name x p2] X.env)).any (·.1)=false:=by rfl):EF X K fs (.Call (.Name "isinstance" p) [a,.Name x p2] [] pos) (.bind wa (f9 k)):=
 ⟨PE.imp (eU (N8 hK) hg hm boot_isinstance (aY ha.p (aY (Ui (v:=.ty k.name) hgx hmx hv rfl hn hd) bZ ZE) he) ⋯ ⋯ he dQ) λσ H Q ⟨sr,q⟩=>⟨sr,wa.mono (λx q1 u1 H1 g1 s1 v1=>by
  have fin:∀{t:bn}{y:PV},mI K H1 u1 t->Bw K t (.type k.name)=ap (k.is y)->Q (.bl (k.is y)) H1->Ww K [u1,.ty k.name] H1 Q:=λty e q=>⟨_,_,_,_,rfl,.inl ty,e,q⟩;cases v1 with
  | aN=>exact fin (y:=.aN) .aN (by rw [(sf K).1 k];cases k <;> rfl) (q1 _ H1 g1 s1 (.bl _))
  | bl b=>exact fin (.bl b) (Zf K b k) (q1 _ H1 g1 s1 (.bl _))
  | int b=>exact fin (.int b) (U3 K b k) (q1 _ H1 g1 s1 (.bl _))
  | str b=>exact fin (.str b) (U2 K b k) (q1 _ H1 g1 s1 (.bl _))
  | ty n=>exact q1.elim
  | ref n=>exact q1.elim
  | @dk a o kvs ks l e k1 r=>exact⟨_,_,_,_,rfl,.inr (.inr (.inr ⟨rfl,_,rfl,.inl ⟨_,.inr ⟨_,e⟩⟩⟩)),(show _=ap (k.is (.dv ks l)) by rw [(sf K).2.2 k];cases k <;> rfl),q1 _ H1 g1 s1 (.bl _)⟩
  | @dt a o kvs ks l e k1 r=>exact⟨_,_,_,_,rfl,.inr (.inr (.inr ⟨rfl,_,rfl,.inr ⟨_,.inr ⟨_,e⟩⟩⟩)),(show _=ap (k.is (.dv ks l)) by rw [(sf K).2.2 k];cases k <;> rfl),q1 _ H1 g1 s1 (.bl _)⟩
  | @cl p vs l e r=>exact⟨_,_,_,_,rfl,.inr (.inr (.inl ⟨rfl,_,_,rfl,e.sq⟩)),(show _=ap (k.is (.cl l)) by rw [(sf K).2.1 k];cases k <;> rfl),q1 _ H1 g1 s1 (.bl _)⟩
  | @tup p vs l e r=>exact⟨_,_,_,_,rfl,.inr (.inl ⟨rfl,_,_,rfl,dR.of e⟩),U1 K _ k,q1 _ H1 g1 s1 (.bl _)⟩) q⟩⟩
def TJ (l:List PV):PV->W (List PV)
 | .int k=>.fj (-(2 ^ 63)<=k/\k < 2 ^ 63/\l.length*k.toNat<=sizeLine) (.ret (An k.toNat l).flatten)
 | _=>.fail
def acA (ha:LF X K fs a wl) (hb:EF X K fs b wb):LF X K fs (.BinOp a .Mult b pos) (.bind wl λl=>.bind wb λy=>TJ l y):=⟨PE.imp (Lu YE ha.p hb.p) λσ H Q ⟨sr,q⟩=>⟨sr,wl.mono (λl q1 a vs H1 g1 s1 n e v=>⟨s1,wb.mono (λy q2 u2 H2 g2 s2 v2=>by
 cases v2 with
 | int k=>
  have no:=sr.noOwn n;have e2:=(g2.v8 e no);have r2:=g2.OT s1 v;refine⟨a,k,vs,rfl,rfl,e2,q2.1.1,q2.1.2.1,by rw [r2.length];exact q2.1.2.2,λp hp=>?_⟩;have sm:=jo hp (.lst (An k.toNat vs).flatten);have gg:=g1.trans g2;exact q2.2 p _ _ (gg.trans (dg.same sm)) (s2.same sm) (gg.there p hp) aU (aL.tk sm.eR (r2.rep k.toNat))
 | _=>exact q2.elim) q1⟩) q⟩⟩
def part:PV->W (Option Int)
 | .int i=>.ret (ap i)
 | _=>.fail
def xI:OF X K fs bm (.ret bm):=⟨PO.imp T5 λσ H Q ⟨sr,q⟩=>q H .refl sr⟩
def Je (h:EF X K fs e w):OF X K fs (ap e) (.bind w part):=⟨PO.imp (T4 h.p) λσ H Q ⟨sr,q⟩=>⟨sr,w.mono (λx q1 u1 H1 g1 s1 v1=>by
 cases v1 with
 | int i=>exact⟨_,rfl,q1 H1 g1 s1⟩
 | _=>exact q1.elim) q⟩⟩
def qR (h:Ih X K fs e wl):∀σ H Q,fE K fs (.bind wl λl=>.ret (.bl (if neg then !l.isEmpty else l.isEmpty))) σ H Q->XT (λx y H Q=>∃p q xs,x=.ref p/\y=.ref q/\de K H p xs/\de K H q []/\Q (.bl (if neg then !xs.isEmpty else xs.isEmpty)) H) (fQL K fs wl) (fL K fs (.ret [])) σ H Q:=λσ H Q ⟨sr,q⟩=>
 ⟨sr,wl.mono (λl q1 u1 H1 g1 s1 _ v1=>⟨s1,λa2 vs2 H2 g2 s2 n2 e2 r2=>by
  cases r2;obtain⟨a,vs,rfl,h1,r1⟩:=v1 H2 g2 s2;refine⟨a,a2,vs,rfl,rfl,h1,de.of e2,?_⟩;rw [RU r1];exact q1 _ H2 (g1.trans g2) s2 (.bl _)⟩) q⟩
def WI:LF X K fs (.List [] pos) (.ret []):=WK (n:=0) ai
theorem aje (hK:X.K=K) (hu:X.A.units+200 < pc) (h:Ih X K fs e wl) (hk:re .Eq (.List [] p2)=false:=by rfl):EF X K fs (.Compare e [.Eq] [.List [] p2] pos) (.bind wl λl=>.ret (.bl l.isEmpty)):=⟨PE.imp (Lw (Jc K hK ∅) h.p WI.p hk) (qR (neg:=false) h)⟩
theorem abg (hK:X.K=K) (hu:X.A.units+200 < pc) (h:Ih X K fs e wl) (hk:re .NotEq (.List [] p2)=false:=by rfl):TF X K fs (.Compare e [.NotEq] [.List [] p2] pos) (.bind wl λl=>.ret (!l.isEmpty)):=⟨PT.imp (oC (Jb K hK ∅) h.p WI.p hk) λσ H Q q=>qR (neg:=true) h σ H _ (adA (w:=.bind wl λl=>.ret (.bl (!l.isEmpty))) σ H Q q)⟩
def mX:List PV->W (List Int)
 | []=>.ret []
 | .int i::r=>.bind (mX r) λl=>.ret (i::l)
 | _=>.fail
theorem gJ:∀{l:List PV}{Q:List Int->Prop},(mX l).run Q->∃ns:List Int,l=ns.map PV.int/\Q ns
 | [],Q,h=>⟨[],rfl,h⟩
 | .int b::r,Q,h=>by
  obtain⟨bs,e,q⟩:=gJ (l:=r) h;exact⟨b::bs,by rw [e];rfl,q⟩
 | .aN::r,Q,h=>h.elim
 | .bl _::r,Q,h=>h.elim
 | .str _::r,Q,h=>h.elim
 | .tup _::r,Q,h=>h.elim
 | .ref _::r,Q,h=>h.elim
 | .ty _::r,Q,h=>h.elim
 | .cl _::r,Q,h=>h.elim
@[simp] theorem eO:∀bs:List Int,mX (bs.map PV.int)=.ret bs
 | []=>rfl
 | b::bs=>by
  show am (mX (bs.map PV.int)) _=_;rw [eO bs];rfl
end
end
end FL
variable {k2:Nat}
namespace FL
section
open PySem PySem.Spec PyProof.Rows L2 PL
variable {K:Ab}
abbrev b2 (m:M2) (wa wb:W PV):W PV:=.bind wa λx=>.bind wb λy=>of2 m x y
abbrev t2 (m:M2) (wa wb:W PV):W Bool:=.bind wa λx=>.bind wb λy=>.bind (of2 m x y) asB
abbrev c1 (m:zP) (w:W PV):W PV:=.bind w λx=>qf m [x]
abbrev bB (wl:W (List PV)) (wb:W PV):W PV:=.bind wl λl=>.bind wb λy=>Vc l y
abbrev z9 (a b:W Bool):W Bool:=.bind a λk=>if k=true then b else .ret false
abbrev tor (a b:W Bool):W Bool:=.bind a λk=>if k=true then .ret true else b
abbrev xi (a:W Bool):W Bool:=.bind a λk=>.ret (!k)
abbrev d4 {α:Type} (t:W Bool) (a b:W α):W α:=.bind t λk=>if k=true then a else b
section
variable {a c:ii}{rest:List v4}{S T T2:Type}{hd:S->bj}{s0:S}{w:W PV}{wt:PV->W T2}{dD:S->T2->bj}{k:S->W T}{out:T->End}{x:Bool}
def SF.jZ {f:PV->S->W S} (hp:wS (dL X.prog X.w) X.A X.env X.xe) (hc:X.calm=true) (hi:vG X K fs tg iter wl) (hl:jh fs (hd s0)) (hg:PG X tg (d5 i)) (hb:∀s p,SF X K false ((hd s).set i (ap (.val p))) body (f p s) λs'=>.nc (hd s')) (hr:∀s,SF X K x (hd s) rest (k s) out) (hs:zQ X iter:=by intro _;rfl) :
  SF X K x fs (.For tg iter body [] pos::rest) (.bind wl λl=>.bind (bz l s0 f) k) out:=SF.for (wt:=.ret) (wb:=λp s=>f p s) hp hc hi hl (λs=>g_1 hg) (λ_ _=>rfl) hb hr hs
def SF.Rz {wb:T2->S->W S} (hp:wS (dL X.prog X.w) X.A X.env X.xe) (hc:X.calm=true) (hi:vG X K fs tg iter wl) (hl:jh fs (hd s0)) (hg:∀s,GF X K (hd s) tg is wt (dD s)) (hb:∀s t,SF X K false (dD s t) body (wb t s) λs'=>.nc (hd s')) (hr:∀s,SF X K x (hd s) rest (k s) out) (hs:zQ X iter:=by intro _;rfl) :
  SF X K x fs (.For tg iter body [] pos::rest) (.bind wl λl=>.bind (bz l s0 λp s=>.bind (wt p) λt=>wb t s) k) out:=SF.for hp hc hi hl hg (λ_ _=>rfl) hb hr hs
def SF.RA {inj:R->T}{f:PV->S->W (Lp S R)} (hp:wS (dL X.prog X.w) X.A X.env X.xe) (hc:X.calm=true) (hi:vG X K fs tg iter wl) (hl:jh fs (hd s0)) (hg:PG X tg (d5 i)) (ho:∀t,(out (inj t)).Q4) (hb:∀s p,SF X K false ((hd s).set i (ap (.val p))) body (f p s) (lpE hd λr=>out (inj r))) (hr:∀s,SF X K x (hd s) rest (k s) out) (hs:zQ X iter:=by intro _;rfl) :
  SF X K x fs (.For tg iter body [] pos::rest) (.bind wl λl=>.bind (FL.mF l s0 f) (Oy k inj)) out:=SF.mF (wt:=.ret) (wb:=λp s=>f p s) hp hc hi hl (λs=>g_1 hg) (λ_ _=>rfl) ho hb hr hs
def SF.MK {fs3:T2->bj}{k:T2->W T} (he:EF X K fs e we) (hg:GF X K fs tg is wt fs3) (hr:∀t,SF X K x (fs3 t) rest (k t) out) (hs:EQ [tg] e pos.line X.env=pure false:=by rfl) (hw:Fa [tg] e X.env=pure bm:=by rfl)
  (h1:(zn [tg] X.env).map (·.2)=[Fk tg X.env]:=by rfl):SF X K x fs (.Assign [tg] e pos::rest) (.bind we λv=>.bind (wt v) k) out:=SF.step (PZ he.p hg.p hs hw h1) λD σ H ⟨sr,q⟩=>
 ⟨sr,we.mono (λv q1 u H1 g1 s1 v1=>⟨v,s1,v1,(wt v).mono (λt q2 us g2 s2=>⟨_,k t,hr t,s2,(k t).mono (λt' q3=>q3.go (g1.f.trans g2) sr s2) q2⟩) q1⟩) q⟩
def SF.par {Ys:Pos}{kt:Nat}{k:PV->PV->W T} (hc:X.calm=true) (hN:X.N.Nodup) (hi:X.N[i]?=ap y) (hj:X.N[j]?=ap z) (Ą:i≠j) (hx:X.env.scope.names.lookup y=ap .local) (hy:X.env.scope.names.lookup z=ap .local)
  (ha:EF X K fs a wa) (hb:EF X K fs b wb) (hr:∀u v,SF X K x ((fs.set i (ap (.val u))).set j (ap (.val v))) rest (k u v) out)
  (hw:Fa [.Tuple [.Name y px,.Name z py] kt pt] (.Tuple [a,b] k2 Ys) X.env=pure (ap [y,z]):=by rfl) (hs:EQ [.Tuple [.Name y px,.Name z py] kt pt] (.Tuple [a,b] k2 Ys) pos.line X.env=pure false:=by rfl)
  (he:f8 [a,b] X.env=(false,im a X.env)::f8 [b] X.env:=by rfl) (ZE:gM X b []:=by rfl) :
  SF X K x fs (.Assign [.Tuple [.Name y px,.Name z py] kt pt] (.Tuple [a,b] k2 Ys) pos::rest) (.bind wa λu=>.bind wb λv=>k u v) out:=
 SF.step (Yt hc hN hi hj Ą hx hy (aY ha.p (aY hb.p bZ ZE) he) hw hs) λD σ H ⟨sr,q⟩=>⟨sr,wa.mono (λu q1 u1 H1 g1 s1 v1=>⟨s1,wb.mono (λv q2 u2 H2 g2 s2 v2=>by
  have s3:=s2.dX (g2.vr s1 v1) i;have s4:=s3.dX v2 j;exact⟨_,_,rfl,_,k u v,hr u v,s4,(k u v).mono (λt q3=>q3.go (((g1.trans g2).f.trans (cU.dX s2 _ _ i)).trans (cU.dX s3 _ _ j)) sr s4) q2⟩) q1⟩) q⟩
def O4 (v:PV):W PV:=.fj (v.dat=true) (.ret v)
def O5 (l:List PV):W (List PV):=.fj (vA l=true) (.ret l)
mutual
theorem VR.ml {ι:List ce}{H H':Hp} (t:∀p vs,H p=ap (.tup vs)->H' p=ap (.tup vs)):∀{v:V}{q:PV},VR K ι H v q->q.dat=true->VR K [] H' v q
 | _,_,.aN,_=>.aN
 | _,_,.bl b,_=>.bl b
 | _,_,.int i,_=>.int i
 | _,_,.str x,_=>.str x
 | _,_,.ty n,h=>by rw [PV.dat] at h;cases h
 | _,_,.tup e r,h=>.tup (t _ _ e) (aL.ml t r (by rw [PV.dat] at h;exact h))
 | _,_,.cl e r,h=>by rw [PV.dat] at h;cases h
 | _,_,.dk _ _ _,h=>by rw [PV.dat] at h;cases h
 | _,_,.dt _ _ _,h=>by rw [PV.dat] at h;cases h
 | _,_,.ref e,h=>by rw [PV.dat] at h;cases h
theorem aL.ml {ι:List ce}{H H':Hp} (t:∀p vs,H p=ap (.tup vs)->H' p=ap (.tup vs)):∀{v:List V}{q:List PV},aL K ι H v q->vA q=true->aL K [] H' v q
 | _,_,.nil,_=>.nil
 | _,_,.cons r s,h=>by
  rw [vA,AO] at h;exact .cons (VR.ml t r h.1) (aL.ml t s h.2)
end
def bor (I:Inv X Z σ H s) (sr:aX K H σ fs) (hs:fs[i]?=ap (ap t)) (hb:t.bw=true):∃a o ob,Inv X Z σ (upd H a (.cV ob o)) s/\aX K (upd H a (.cV ob o)) σ (fs.set i (ap (.val t.bv)))/\
  ∀σ' s' H1,Inv X Z σ' H1 s'->dg σ (fs.set i (ap (.val t.bv))) (upd H a (.cV ob o)) H1->aX K H1 σ (fs.set i (ap (.val t.bv)))->Inv X Z σ' (upd H1 a o) s'/\dg σ fs H (upd H1 a o)/\aX K (upd H1 a o) σ fs/\(∀p vs,H1 p=ap (.tup vs)->upd H1 a o p=ap (.tup vs))/\∀p vs,p≠a->H1 p=ap (.lst vs)->upd H1 a o p=ap (.lst vs):=by
 have ho:=SL.Sk hb;obtain⟨u,e1,⟨v,e,_⟩ | ⟨a,e,oa⟩⟩:=sr.at' i _ hs
 ·subst e;cases hb
 subst e;obtain⟨ob,o,h1,n1,n2,I2,vr⟩:=adp I oa hb;have h0:∀o u,X.H₀ a≠ap (.cV o u):=λo u z=>by
  have:=I.base.uj a o u z;rw [h1] at this;exact n2 _ _ (Option.some.inj this)
 refine⟨a,o,ob,I2,sr.ado hs ho e1 h1 n1 n2 vr,λσ' s' H1 J g s1=>?_⟩;have pf:∀φ b,iu σ (fs.set i (ap (.val t.bv))) φ b->iu σ fs φ b:=λφ b ⟨j,z1,z3⟩=>by
  rcases da z1 with⟨_,z⟩ | ⟨n,z1⟩
  ·cases z
  ·exact⟨j,z1,z3⟩
 have npa:∀φ,¬iu σ fs φ a:=λφ ⟨j,z1,z3⟩=>by
  have:=sr.nd j i _ _ a a a z1 hs rfl ho z3 e1 (.inl rfl) (.inl rfl);subst this;rw [hs] at z1;cases z1;cases hb
 have e2:=g.keep a _ aU λφ p=>npa φ (pf φ a p);have hk:=Rf J.bC e2;have ge:dg σ fs H (upd H1 a o):=by
  refine⟨λb o z n=>?_,λb z=>?_⟩
  ·by_cases c:b=a
   ·subst c;rw [h1] at z;cases z;exact aU
   ·rw [ax c];exact g.keep b o (by rw [ax c];exact z) λφ p=>n φ (pf φ b p)
  ·by_cases c:b=a
   ·subst c;rw [aU] at z;cases z
   ·rw [ax c] at z;have:=g.there b z;rw [ax c] at this;exact this
 refine⟨J.afX e2 h0 (hk a _ aU) hk,ge,⟨sr.len,λj t z=>?_,sr.nd⟩,λp vs z=>?_,λp vs n z=>by rw [ax n];exact z⟩
 ·obtain⟨u,k1,k2⟩:=sr.at' j t z;refine⟨u,k1,?_⟩;by_cases c:∃φ,t=.qb φ
  ·obtain⟨φ,rfl⟩:=c;have ji:j≠i:=λy=>by subst y;rw [hs] at z;cases z;cases hb
   rcases k2 with⟨v,y,_⟩ | ⟨b,rfl,_⟩
   ·cases y
   ·obtain⟨vs,y1,y2⟩:=s1.ownAt (t:=.qb φ) (i:=j) (by rw [aR ji];exact z) rfl k1;refine .inr ⟨b,rfl,vs,?_,y2⟩;rw [ax (λy=>by subst y;exact npa φ ⟨j,z,k1⟩)];exact y1
  ·refine k2.mono (ge.eS sr) (λx b o eb ow hb zz=>ge.keep b o zz λφ ⟨j',p1,p3⟩=>?_);subst eb;have:=sr.nd j j' t _ x b b z p1 ow rfl k1 p3 hb (.inl rfl);subst this;rw [z] at p1;cases p1;exact c ⟨φ,rfl⟩
 ·rw [ax (λy=>by subst y;rw [e2] at z;cases z)];exact z
def adL (i:Nat) (hs:fs[i]?=ap (ap t)) (h:EF X K (fs.set i (ap (.val t.bv))) e w) (hb:t.bw=true:=by rfl):EF X K fs e (.bind w O4):=⟨λZ s σ H Q I ⟨sr,q⟩=>by
 obtain⟨a,o,ob,I2,s2,Ê⟩:=bor I sr hs hb;refine cq (h.p Z s σ _ (λu H1=>∃v,dg σ (fs.set i (ap (.val t.bv))) (upd H a (.cV ob o)) H1/\aX K H1 σ (fs.set i (ap (.val t.bv)))/\VR K [] H1 u v/\v.dat=true/\∀u H',dg σ fs H H'->aX K H' σ fs->VR K [] H' u v->Q u H') I2 ⟨s2,w.mono (λv q1 u H1 g1 s1 v1=>⟨v,g1,s1,v1,q1.1,q1.2⟩) q⟩) λu s1 ⟨x,H1,I1,r1,v,g1,X9,v1,d,q1⟩=>?_;obtain⟨I3,g3,s3,t3,_⟩:=Ê σ s1 H1 I1 g1 X9;exact⟨x,_,I3,r1,q1 x _ g3 s3 (VR.ml t3 v1 d)⟩⟩
def acC (i:Nat) (hs:fs[i]?=ap (ap t)) (h:LF X K (fs.set i (ap (.val t.bv))) e wl) (hb:t.bw=true:=by rfl):LF X K fs e (.bind wl O5):=⟨λZ s σ H Q I ⟨sr,q⟩=>by
 obtain⟨a,o,ob,I2,s2,Ê⟩:=bor I sr hs hb;refine cq (h.p Z s σ _ (λu H1=>∃b vs l',u=.ref b/\dg σ (fs.set i (ap (.val t.bv))) (upd H a (.cV ob o)) H1/\aX K H1 σ (fs.set i (ap (.val t.bv)))/\upd H a (.cV ob o) b=bm/\H1 b=ap (.lst vs)/\aL K [] H1 vs l'/\vA l'=true/\∀a vs H',dg σ fs H H'->aX K H' σ fs->H a=bm->H' a=ap (.lst vs)->aL K [] H' vs l'->Q (.ref a) H') I2 ⟨s2,wl.mono (λl' q1 b vs H1 g1 s1 n e v1=>⟨b,vs,l',rfl,g1,s1,n,e,v1,q1.1,q1.2⟩) q⟩) λu s1 ⟨x,H1,I1,r1,b,vs,l',e,g1,X9,n,eb,v1,d,q1⟩=>?_;subst e;obtain⟨I3,g3,s3,t3,k3⟩:=Ê σ s1 H1 I1 g1 X9;have nb:b≠a:=λy=>by subst y;rw [aU] at n;cases n
 exact⟨_,_,I3,r1,q1 b vs _ g3 s3 (by rw [ax nb] at n;exact n) (k3 b vs nb eb) (aL.ml t3 v1 d)⟩⟩
end
end
section
open PySem PySem.Spec PyProof.Rows L2 PL
variable {K:Ab}
def abD (K:Ab) (m:List PV->List PV->W (PV×List PV)):Sp:=λvs H Q _=>∃a Oq ws lo l,vs=.ref a::Oq/\H a=ap (.lst ws)/\aL K [] H ws lo/\aL K [] H Oq l/\(m lo l).run λt=>∀u sL H',qY a H H'->(∀b,H' b=bm->H b=bm)->H' a=ap (.lst sL)->aL K [] H' sL t.2->VR K [] H' u t.1->Q u H'
section
variable {st:v4}{f:ce}{N:List Str}
def Sm (a:ce) (lo l:List PV) (n:Nat):bj:=ap (.ol (ap a) lo)::(l.map λv=>ap (SL.val v))++An (n-1-l.length) bm
def aL.slot (r:aL K [] H vs l) {s:SL} (h:(l.map λv=>ap (SL.val v))[i]?=ap (ap s)):∃u v,vs[i]?=ap u/\s=.val v/\VR K [] H u v:=by
 rw [Ak] at h;cases e:l[i]? with
 | none=>rw [e] at h;cases h
 | some v=>
  rw [e] at h;obtain⟨u,h1,h2⟩:=r.get e;cases h;exact⟨u,v,h1,rfl,h2⟩
theorem fnO {m:List PV->SW (PV×List PV) n} (Fn:SV K x qual st f fd) (S:ar N ps (ag st)) (hn:n+1=ps.length)
  (Ã:∀(a:ce) (lo l:List PV),l.length=n->∀(cn:bn) (A:o0) (outer:List Env) (s:cr) (H:Hp) (E:XK),cS k (A.deeper (r9 qual (ag st) s.heap.objs.size f cn))->SF (iy mz P w K mg base N qual (ag st) f cn A outer s H E).vT K false (Sm a lo l N.length) (a6 st) (cx n (m lo) l) λt=>.ro t.1 a t.2) :
  iB P w K mg base mz (k+1) f fd ps (abD K λlo l=>cx n (m lo) l):=by
 refine Fn.ok S (λvs H Q E h=>?_) (λcn A outer s H vs Q E hr h=>?_)
 ·obtain⟨a,Oq,ws,lo,l,rfl,_,_,r,q⟩:=h;rw [Ap,r.length,jI q];exact hn
 obtain⟨a,Oq,ws,lo,l,rfl,ha,xA,r,q⟩:=h;have hl:=jI q;have hr2:=r.length;have Vo:∀{i:Nat}{s:SL},(Sm a lo l N.length)[i]?=ap (ap s)->(i=0/\s=.ol (ap a) lo)\/∃j u v,i=j+1/\Oq[j]?=ap u/\s=.val v/\VR K [] H u v:=λ{i s} e=>by
  unfold Sm at e;cases i with
  | zero=>simp at e;exact .inl ⟨rfl,e.symm⟩
  | succ j=>
   rw [BF,List.getElem?_cons_succ] at e;by_cases c:j < l.length
   ·rw [AU (by simpa using c)] at e;obtain⟨u,v,h1,h2,h3⟩:=aL.slot r e;exact .inr ⟨j,u,v,rfl,h1,h2,h3⟩
   ·rw [A5 (by simpa using c),Bv] at e
    split at e <;> cases e
 have sr:aX K H (L2.start N (.ref a::Oq)) (Sm a lo l N.length):=by
  refine⟨?_,λi s e=>?_,λi j s t x y b e1 e2 o1 o2 q1 q2 _ _=>?_⟩
  ·unfold L2.start Sm;rw [Ah,Af,Bs,Ah,Ap,Ap,Af,Bs];omega
  ·rcases Vo e with⟨rfl,rfl⟩ | ⟨j,u,v,rfl,h1,rfl,h3⟩
   ·exact⟨.ref a,lV rfl,.inr ⟨a,rfl,λb z=>Option.some.inj z,ws,ha,xA⟩⟩
   ·exact⟨u,lV (by simpa using h1),.inl ⟨v,rfl,h3⟩⟩
  ·rcases Vo e1 with⟨rfl,rfl⟩ | ⟨j1,u,v,rfl,h1,rfl,h3⟩
   ·rcases Vo e2 with⟨rfl,rfl⟩ | ⟨j1,u,v,rfl,h1,rfl,h3⟩
    ·rfl
    ·cases o2
   ·cases o1
 refine⟨_,(Ã a lo l hl cn A outer s H E hr).p,sr,(cx n (m lo) l).mono (λt q1 u σ' bH H' g s' ho rv=>?_) q⟩;obtain⟨i,e⟩:=ho;obtain⟨u',e',r'⟩:=s'.at' i _ e;rcases r' with⟨v,z,_⟩ | ⟨b,rfl,hb,sL,h1,h2⟩
 ·cases z
 have hba:=hb a rfl;subst hba;refine q1 u sL H' (λc o nc e=>(g.keep c o e λz=>?_).1) g.there h1 h2 rv;obtain⟨j,t',x,z1,z2,z3,z4⟩:=z;rcases Vo z1 with⟨rfl,rfl⟩ | ⟨j1,u,v,rfl,_,rfl,_⟩
 ·have:=vM z3;simp at this;rcases z4 with rfl | z4
  ·exact nc this.symm
  ·cases z4
 ·cases z2
def lS (G:List Int->Prop):List V->Prop:=λws=>∃ns:List Int,ws=ns.map V.int/\G ns
def Yv {G:List Int->Prop}{m:List PV->List PV->W (PV×List PV)}{mp:List PV->W PV} (F:iB P w K mg base mz k f fd ps (abD K m)) (hm:∀ns l Q,G ns->(mp l).run Q->(m (ns.map PV.int) l).run λt=>Q t.1/\∃vS:List Int,t.2=vS.map PV.int/\G vS) :
  iB P w K mg base mz k f fd ps (gz K (.p (lS G)::An n .v) mp):=F.imp λvs H Q E h=>by
 obtain⟨l,ha,q⟩:=h;cases ha with
 | @p a φ ws vs ks l e r t=>
  obtain⟨ns,rfl,hG⟩:=r;have tv:∀{n:Nat}{vs:List V}{l:List PV},jd K H vs (An n .v) l->aL K [] H vs l:=by
   intro n
   induction n with
   | zero=>intro vs l h;cases h;exact .nil
   | succ n ih=>intro vs l h;cases h with | v r t=>exact .cons r (ih t)
  refine⟨a,vs,ns.map V.int,ns.map PV.int,l,rfl,e,o5 _ _ ns,tv t,(m _ _).mono (λt q1 u sL H' sx hth e' r' rv=>?_) (hm ns l _ hG q)⟩;obtain⟨q1,vS,et,hG'⟩:=q1;rw [et] at r';have:=jW r';subst this;refine q1 u H' ⟨λb o eb nb=>sx b o (λz=>?_) eb,hth,λb φ p=>?_⟩ rv
  ·subst z;exact nb _ ⟨0,rfl,rfl⟩
  ·obtain⟨i,e1,e2⟩:=p;cases i with
   | zero=>simp at e1 e2;subst e1;subst e2;exact⟨_,e',vS,rfl,hG'⟩
   | succ i=>
    simp at e1;rw [Bv] at e1
    split at e1 <;> simp at e1
end
section
variable {T:Type}{w:W T}
def agm (G:List Int->Prop) (l:List PV) (w:W T):W T:=.fj (∃ns:List Int,l=ns.map PV.int/\G ns) w
end
end
end FL
variable {W':FL.W PL.PV}
namespace FL
section
open PySem PySem.Spec PyProof.Rows L2 PL
variable {K:Ab}
abbrev ah8 (wa wb:W PV):W PV:=.bind wa λx=>V4 x wb
abbrev lB (wl:W (List PV)):W PV:=.bind wl λl=>.ret (.cl l)
abbrev QD (t:W Bool) (w:W PV):W (Option PV):=.bind t λk=>if k=true then .bind w λv=>.ret (ap v) else .ret bm
section
variable {c:ii}{WL:W (List PV)}
def VL (G:SX X.prog X.w X.K X.mg X.base x k ps (gz K ks m)) (hr:cS k' X.A) (hk:k<=k') (hg:Gl X x) (ha:AF X K fs (e::es) ks B) (hW:W'=B m) (ny:jg x:=by decide)
  (he:gM X e es:=by rfl) (dQ:kL X pos es:=by rfl):EF X K fs (.Call (.Name x p) (e::es) [] pos) W':=hW▸Z2 G hr hk hg ha ny he dQ
def UY {m:List PV->W (List PV)}{B:(List PV->W (List PV))->W (List PV)} (G:SX X.prog X.w X.K X.mg X.base x k ps (fh K ks m)) (hr:cS k' X.A) (hk:k<=k') (hg:Gl X x) (ha:AF X K fs (e::es) ks B) (hW:WL=B m) (ny:jg x:=by decide)
  (he:gM X e es:=by rfl) (dQ:kL X pos es:=by rfl):LF X K fs (.Call (.Name x p) (e::es) [] pos) WL:=hW▸Zb G hr hk hg ha ny he dQ
def az {x1} (h:AF X K fs es (An n .v) B) (hW:W'=B λl=>.ret (.tup l)) (hn:n<=1000:=by decide):EF X K fs (.Tuple es x1 pos) W':=hW▸adF h hn
def aM {B:(List PV->W (List PV))->W (List PV)} (h:AF X K fs es (An n .v) B) (hW:WL=B λl=>.ret l) (hn:n<=1000:=by decide):LF X K fs (.List es pos) WL:=hW▸WK h hn
variable {T2:Type}{wt:PV->W T2}{dD:T2->bj}{tf:T2->W Bool}{te:T2->W PV}
def f7 {f:PV->W PV} (hc:X.calm=true) (S:aF X.env.scope X.N sc N' ix) (hi:vG X K fs tg iter wl) (hg:∀cl C s2 H2 fp,PG (iQ X sc N' cl C s2 H2 fp) tg (d5 i)) (he:∀cl C s2 H2 fp t,EF (iQ X sc N' cl C s2 H2 fp) K ((cD ix fs).set i (ap (.val t))) Ç (f t)) (h0:ix[i]?=ap bm) (hs:zQ X iter:=by intro _;rfl) :
  LF X K fs (.ListComp Ç [⟨tg,iter,[],0⟩] sc pos) (.bind wl λl=>bI l f):=
 have h1:(cD ix fs)[i]?=ap bm:=by unfold cD;rw [Ak,h0];rfl
 WJ hc S hi (λcl C s2 H2 fp=>g_1 (hg cl C s2 H2 fp)) he (λ_=>rfl) (Y6 h1) (λj hj=>by rw [A8] at hj;subst hj;exact h0) hs
def LO {tf:PV->W Bool}{te:PV->W PV} (hc:X.calm=true) (S:aF X.env.scope X.N sc N' ix) (hi:vG X K fs tg iter wl) (hg:∀cl C s2 H2 fp,PG (iQ X sc N' cl C s2 H2 fp) tg (d5 i)) (hf:∀cl C s2 H2 fp t,TF (iQ X sc N' cl C s2 H2 fp) K ((cD ix fs).set i (ap (.val t))) c (tf t)) (he:∀cl C s2 H2 fp t,EF (iQ X sc N' cl C s2 H2 fp) K ((cD ix fs).set i (ap (.val t))) Ç (te t)) (h0:ix[i]?=ap bm) (hs:zQ X iter:=by intro _;rfl) :
  LF X K fs (.ListComp Ç [⟨tg,iter,[c],0⟩] sc pos) (.bind wl λl=>nu l λp=>QD (tf p) (te p)):=
 have h1:(cD ix fs)[i]?=ap bm:=by unfold cD;rw [Ak,h0];rfl
 Za (wt:=.ret) (tf:=tf) (te:=te) hc S hi (λcl C s2 H2 fp=>g_1 (hg cl C s2 H2 fp)) (λcl C s2 H2 fp t=>J1 (hf cl C s2 H2 fp t)) he (λ_=>rfl) (Y6 h1) (λj hj=>by rw [A8] at hj;subst hj;exact h0) hs
def Y8 (hc:X.calm=true) (S:aF X.env.scope X.N sc N' ix) (hi:vG X K fs tg iter wl) (hg:∀cl C s2 H2 fp,GF (iQ X sc N' cl C s2 H2 fp) K (cD ix fs) tg is wt dD) (he:∀cl C s2 H2 fp t,EF (iQ X sc N' cl C s2 H2 fp) K (dD t) Ç (te t))
  (hl:vF is (cD ix fs) dD/\∀t,jh (dD t) (cD ix fs)) (Hi:∀j∈is,ix[j]?=ap bm) (hs:zQ X iter:=by intro _;rfl) :
  LF X K fs (.ListComp Ç [⟨tg,iter,[],0⟩] sc pos) (.bind wl λl=>bI l λp=>.bind (wt p) te):=WJ hc S hi hg he (λ_=>rfl) hl Hi hs
def acB (hc:X.calm=true) (S:aF X.env.scope X.N sc N' ix) (hi:vG X K fs tg iter wl) (hg:∀cl C s2 H2 fp,GF (iQ X sc N' cl C s2 H2 fp) K (cD ix fs) tg is wt dD) (hf:∀cl C s2 H2 fp t,TF (iQ X sc N' cl C s2 H2 fp) K (dD t) c (tf t)) (he:∀cl C s2 H2 fp t,EF (iQ X sc N' cl C s2 H2 fp) K (dD t) Ç (te t))
  (hl:vF is (cD ix fs) dD/\∀t,jh (dD t) (cD ix fs)) (Hi:∀j∈is,ix[j]?=ap bm) (hs:zQ X iter:=by intro _;rfl) :
  LF X K fs (.ListComp Ç [⟨tg,iter,[c],0⟩] sc pos) (.bind wl λl=>nu l λp=>.bind (wt p) λt=>QD (tf t) (te t)):=Za hc S hi hg (λcl C s2 H2 fp t=>J1 (hf cl C s2 H2 fp t)) he (λ_=>rfl) hl Hi hs
variable {rest:List v4}{T:Type}{out:T->End}{x0:Bool}{kk:List PV->W T}
def UN {wt:PV->W T2}{te:T2->W PV}:(λl=>bI l λp=>.bind (wt p) te)=λl=>nu l λp=>.bind (wt p) λt=>.bind (.ret true) λk=>if k=true then .bind (te t) λv=>.ret (ap v) else .ret bm:=funext λl=>by
 rw [xN];rfl
def SF.Ll (hc:X.calm=true) (hN:X.N.Nodup) (Rk:X.N[i]?=ap y) (hx:X.env.scope.names.lookup y=ap .local) (S:aF X.env.scope X.N sc N' ix) (hi:vG X K fs tg iter wl) (hg:∀cl C s2 H2 fp,GF (iQ X sc N' cl C s2 H2 fp) K (cD ix fs) tg is wt dD) (he:∀cl C s2 H2 fp t,EF (iQ X sc N' cl C s2 H2 fp) K (dD t) Ç (te t))
  (hl:vF is (cD ix fs) dD/\∀t,jh (dD t) (cD ix fs)) (Hi:∀j∈is,ix[j]?=ap bm) (hr:∀l,SF X K x0 (fs.set i (ap (.ol bm l))) rest (kk l) out)
  (vm:lm (.ListComp Ç [⟨tg,iter,[],0⟩] sc pos) (ap (.Name y px)) uY.line X.env=pure true:=by rfl) (hs:zQ X iter:=by intro _;rfl) :
  SF X K x0 fs (.Assign [.Name y px] (.ListComp Ç [⟨tg,iter,[],0⟩] sc pos) uY::rest) (.bind (.bind wl λl=>bI l λp=>.bind (wt p) te) kk) out:=by
 rw [UN];exact SF.Wn (tf:=λ_=>.ret true) hc hN Rk hx S hi hg (λ_ _ _ _ _ _=>RF) he (λp=>rfl) hl Hi hr vm hs
def SF.lW {f:PV->W PV} (hc:X.calm=true) (hN:X.N.Nodup) (Rk:X.N[i]?=ap y) (hx:X.env.scope.names.lookup y=ap .local) (S:aF X.env.scope X.N sc N' ix) (hi:vG X K fs tg iter wl) (hg:∀cl C s2 H2 fp,PG (iQ X sc N' cl C s2 H2 fp) tg (d5 j)) (he:∀cl C s2 H2 fp t,EF (iQ X sc N' cl C s2 H2 fp) K ((cD ix fs).set j (ap (.val t))) Ç (f t)) (h0:ix[j]?=ap bm) (hr:∀l,SF X K x0 (fs.set i (ap (.ol bm l))) rest (kk l) out)
  (vm:lm (.ListComp Ç [⟨tg,iter,[],0⟩] sc pos) (ap (.Name y px)) uY.line X.env=pure true:=by rfl) (hs:zQ X iter:=by intro _;rfl) :
  SF X K x0 fs (.Assign [.Name y px] (.ListComp Ç [⟨tg,iter,[],0⟩] sc pos) uY::rest) (.bind (.bind wl λl=>bI l f) kk) out:=
 have h1:(cD ix fs)[j]?=ap bm:=by unfold cD;rw [Ak,h0];rfl
 SF.Ll (wt:=.ret) hc hN Rk hx S hi (λcl C s2 H2 fp=>g_1 (hg cl C s2 H2 fp)) he (Y6 h1) (λm hj=>by rw [A8] at hj;subst hj;exact h0) hr vm hs
def SF.X6 (hc:X.calm=true) (hN:X.N.Nodup) (Rk:X.N[i]?=ap y) (hx:X.env.scope.names.lookup y=ap .local) (S:aF X.env.scope X.N sc N' ix) (hi:vG X K fs tg iter wl) (hg:∀cl C s2 H2 fp,GF (iQ X sc N' cl C s2 H2 fp) K (cD ix fs) tg is wt dD) (hf:∀cl C s2 H2 fp t,TF (iQ X sc N' cl C s2 H2 fp) K (dD t) c (tf t)) (he:∀cl C s2 H2 fp t,EF (iQ X sc N' cl C s2 H2 fp) K (dD t) Ç (te t))
  (hl:vF is (cD ix fs) dD/\∀t,jh (dD t) (cD ix fs)) (Hi:∀j∈is,ix[j]?=ap bm) (hr:∀l,SF X K x0 (fs.set i (ap (.ol bm l))) rest (kk l) out)
  (vm:lm (.ListComp Ç [⟨tg,iter,[c],0⟩] sc pos) (ap (.Name y px)) uY.line X.env=pure true:=by rfl) (hs:zQ X iter:=by intro _;rfl) :
  SF X K x0 fs (.Assign [.Name y px] (.ListComp Ç [⟨tg,iter,[c],0⟩] sc pos) uY::rest) (.bind (.bind wl λl=>nu l λp=>.bind (wt p) λt=>QD (tf t) (te t)) kk) out:=SF.Wn hc hN Rk hx S hi hg (λcl C s2 H2 fp t=>J1 (hf cl C s2 H2 fp t)) he (λ_=>rfl) hl Hi hr vm hs
end
def RB {f:ce} (h:∀vs H Q E,¬sp vs H Q E):iB P w K mg base mz k f fd ps sp:=⟨λvs H Q E q=>(h _ _ _ _ q).elim,λA outer s H args us vs Q E _ _ _ _ q=>(h _ _ _ _ q).elim⟩
def X3 {m:SW PV n} (h:∀l Q,l.length=n->¬(cx n m l).run Q):∀vs H Q E,¬gz K ks (cx n m) vs H Q E:=λvs H Q E ⟨l,_,q⟩=>h l _ (jI q) q
def Lg {m:SW (List PV) n} (h:∀l Q,l.length=n->¬(cx n m l).run Q):∀vs H Q E,¬fh K ks (cx n m) vs H Q E:=λvs H Q E ⟨l,_,q⟩=>h l _ (jI q) q
theorem a7 (hr:cS k A):A.units+200 < pc:=by have:=hr.un;omega
end
section
open PySem PySem.Spec PyProof.Rows L2 PL
variable {K:Ab}
mutual
def PV.iL:PV->Bool
 | .tup l=>fu l
 | .cl l=>fu l
 | .ref _=>false
 | .ty _=>false
 | .dv _ _=>false
 | _=>true
def fu:List PV->Bool
 | []=>true
 | x::l=>PV.iL x&&fu l
end
mutual
def PV.fv:PV->Nat
 | .tup l=>d6 l+1
 | .cl l=>d6 l+1
 | _=>0
def d6:List PV->Nat
 | []=>0
 | x::l=>max (PV.fv x) (d6 l)
end
mutual
def i6:PV->PV->Bool
 | .aN,.aN=>true
 | .bl a,.bl b=>a==b
 | .bl a,.int b=>(if a then 1 else 0)==b
 | .int a,.bl b=>a==(if b then 1 else 0)
 | .int a,.int b=>a==b
 | .str a,.str b=>a==b
 | .tup l,.tup m=>gb l m
 | .cl l,.cl m=>gb l m
 | _,_=>false
def gb:List PV->List PV->Bool
 | [],[]=>true
 | x::l,y::m=>i6 x y&&gb l m
 | _,_=>false
end
theorem um:∀{l:List PV}{j:Nat}{x:PV},fu l=true->l[j]?=ap x->PV.iL x=true
 | [],_,_,_,e=>by simp at e
 | y::l,0,x,h,e=>by
  simp at e;subst e;rw [fu,AO] at h;exact h.1
 | y::l,j+1,x,h,e=>by
  rw [fu,AO] at h;exact um h.2 (by simpa using e)
theorem wF:∀{l:List PV}{j:Nat}{x:PV},l[j]?=ap x->PV.fv x<=d6 l
 | [],_,_,e=>by simp at e
 | y::l,0,x,e=>by
  simp at e;subst e;rw [d6];omega
 | y::l,j+1,x,e=>by
  have:=wF (l:=l) (j:=j) (x:=x) (by simpa using e);rw [d6];omega
mutual
theorem RH:∀(x:PV),PV.iL x=true->i6 x x=true
 | .aN,_=>by rw [i6]
 | .bl b,_=>by rw [i6];simp
 | .int i,_=>by rw [i6];simp
 | .str i,_=>by rw [i6];simp
 | .tup l,h=>by rw [i6];exact mj l (by rw [PV.iL] at h;exact h)
 | .cl l,h=>by rw [i6];exact mj l (by rw [PV.iL] at h;exact h)
 | .ref _,h=>by rw [PV.iL] at h;cases h
 | .ty _,h=>by rw [PV.iL] at h;cases h
 | .dv _ _,h=>by rw [PV.iL] at h;cases h
theorem mj:∀(l:List PV),fu l=true->gb l l=true
 | [],_=>by rw [gb]
 | x::l,h=>by
  rw [fu,AO] at h;rw [gb,RH x h.1,mj l h.2];rfl
end
def RP (l m:List PV) (j:Nat):Bool:=match l[j]?,m[j]? with | some x,ap y=>i6 x y | _,_=>true
theorem pd:∀(l m:List PV),((Aw (min l.length m.length)).all (RP l m)&&l.length==m.length)=gb l m
 | [],[]=>by rw [gb];rfl
 | [],_::_=>by
  rw [gb]
  ·simp
  ·intros;simp_all
  ·intros;simp_all
 | _::_,[]=>by
  rw [gb]
  ·simp
  ·intros;simp_all
  ·intros;simp_all
 | x::l,y::m=>by
  rw [gb,<- pd l m];have e:min (x::l).length (y::m).length=min l.length m.length+1:=by simp only [Ap];omega
  rw [e,List.range_succ_eq_map,List.all_cons,List.all_map];have e2:((x::l).length==(y::m).length)=(l.length==m.length):=by simp
  rw [e2,Bool.and_assoc];rfl
def RG {m:List PV} (h:l.length≠m.length):gb l m=false:=by
 rw [<- pd];have:(l.length==m.length)=false:=by simpa using h
 rw [this,EA]
section
mutual
theorem VR.RC (I:Inv X Z σ H s):∀{v:V}{x y:PV},VR X.K [] H v x->VR X.K [] H v y->x=y
 | _,_,_,.aN,h=>by cases h;rfl
 | _,_,_,.bl b,h=>by cases h;rfl
 | _,_,_,.int b,h=>by cases h;rfl
 | _,_,_,.str b,h=>by cases h;rfl
 | _,_,_,.ty b,h=>by cases h;rfl
 | _,_,_,.ref e,h=>by simp at e
 | _,_,_,.tup e r,h=>by
  cases h with
  | tup e' r'=>
   have ee:=I.lU (dR.of e) (dR.of e');subst ee;rw [aL.RC I r r']
  | ref e=>simp at e
  | cl e' r'=>
   obtain⟨au,_,⟨o,n,h1,h2,_⟩,_⟩:=I.list e'.sq;obtain⟨its',_,⟨o',ib,si,_⟩,_⟩:=I.tuple (dR.of e);rw [h1] at ib;cases ib;rw [h2] at si;simp at si
  | dk e' _ _=>rw [e] at e';cases e'
  | dt e' _ _=>rw [e] at e';cases e'
 | _,_,_,.dk e k r,h=>by
  cases h with
  | dk e' k' r'=>rw [e] at e';cases e';rw [k,k',aL.RC I r r']
  | dt e' _ _=>rw [e] at e';cases e'
  | ref e=>simp at e
  | tup e' _=>rw [e] at e';cases e'
  | cl e' r'=>
   obtain⟨au,_,⟨o,n,h1,h2,_⟩,_⟩:=I.list e'.sq;obtain⟨_,_,vs,_,o',_,_,ib,si,_⟩:=wM I.bC (.inr ⟨_,e⟩);rw [h1] at ib;cases ib;have h3:=si.1;rw [h2] at h3;simp at h3
 | _,_,_,.dt e k r,h=>by
  cases h with
  | dt e' k' r'=>rw [e] at e';cases e';rw [k,k',aL.RC I r r']
  | dk e' _ _=>rw [e] at e';cases e'
  | ref e=>simp at e
  | tup e' _=>rw [e] at e';cases e'
  | cl e' r'=>
   obtain⟨au,_,⟨o,n,h1,h2,_⟩,_⟩:=I.list e'.sq;obtain⟨_,_,vs,_,o',_,_,ib,si,_⟩:=wJ I.bC (.inr ⟨_,e⟩);rw [h1] at ib;cases ib;have h3:=si.1;rw [h2] at h3;simp at h3
 | _,_,_,.cl e r,h=>by
  cases h with
  | dk e' _ _=>
   obtain⟨au,_,⟨o,n,h1,h2,_⟩,_⟩:=I.list e.sq;obtain⟨_,_,vs,_,o',_,_,ib,si,_⟩:=wM I.bC (.inr ⟨_,e'⟩);rw [h1] at ib;cases ib;have h3:=si.1;rw [h2] at h3;simp at h3
  | dt e' _ _=>
   obtain⟨au,_,⟨o,n,h1,h2,_⟩,_⟩:=I.list e.sq;obtain⟨_,_,vs,_,o',_,_,ib,si,_⟩:=wJ I.bC (.inr ⟨_,e'⟩);rw [h1] at ib;cases ib;have h3:=si.1;rw [h2] at h3;simp at h3
  | cl e' r'=>
   obtain⟨au,k,⟨o,n,h1,h2,h3,h4⟩,_⟩:=I.list e.sq;obtain⟨its',k',⟨o',n',ib,si,Rr,ZH⟩,_⟩:=I.list e'.sq;rw [h1] at ib;cases ib;rw [h4] at ZH;have:au=its':=by injection ZH with a b;simpa using a
   subst this;have ee:=Vals.inj k k';subst ee;rw [aL.RC I r r']
  | ref e=>simp at e
  | tup e' r'=>
   obtain⟨au,_,⟨o,n,h1,h2,_⟩,_⟩:=I.list e.sq;obtain⟨its',_,⟨o',ib,si,_⟩,_⟩:=I.tuple (dR.of e');rw [h1] at ib;cases ib;rw [h2] at si;simp at si
theorem aL.RC (I:Inv X Z σ H s):∀{v:List V}{x y:List PV},aL X.K [] H v x->aL X.K [] H v y->x=y
 | _,_,_,.nil,h=>by cases h;rfl
 | _,_,_,.cons r t,h=>by
  cases h with
  | cons r' t'=>rw [VR.RC I r r',aL.RC I t t']
end
structure Cmp (A:o0) (s:cr) (w w':bn) (b:Bool):Prop where
 rc:SeqAt.RcAt A s w w' b
 ne:SeqAt.RcNeAt A s w w' (!b)
 eq:DL A s w w' b
def adE (I:Inv X Z σ H s) {ws:List V}{m:List PV} (r:Vals vs au) (r':Vals ws its') (r1:aL X.K [] H vs l) (r2:aL X.K [] H ws m)
  (ih:∀(j:Nat) (x y:PV) (v v':V) (w w':bn),l[j]?=ap x->m[j]?=ap y->VR X.K [] H v x->VR X.K [] H v' y->RelV v w->RelV v' w'->DL A s w w' (i6 x y)) :
  ∀j (g1:j < au.toArray.size) (g2:j < its'.toArray.size),DL A s au.toArray[j] its'.toArray[j] (RP l m j):=λj g1 g2=>by
 have h1:j < au.length:=by simpa using g1
 have h2:j < its'.length:=by simpa using g2
 have hl:j < l.length:=by rw [<- r1.length,r.length];exact h1
 have hm:j < m.length:=by rw [<- r2.length,r'.length];exact h2
 obtain⟨v,v1,v2⟩:=r1.get (Ae hl);obtain⟨v',XH,v2'⟩:=r2.get (Ae hm);obtain⟨u,u1,u2⟩:=r.get v1;obtain⟨u',u1',u2'⟩:=r'.get XH;rw [Ae h1] at u1;rw [Ae h2] at u1';cases u1;cases u1';unfold RP;rw [Ae hl,Ae hm];have:=ih j _ _ v v' _ _ (Ae hl) (Ae hm) v2 v2' u2 u2';simpa using this
inductive Sh (X:Cx) (H:Hp) (s:cr):PV->bn->Prop
 | aN:Sh X H s .aN .none
 | bl (b:Bool):Sh X H s (.bl b) (.bool b)
 | int (i:Int) (t:Tok):Sh X H s (.int i) (.int i t)
 | str (x:Str) (t:Tok):Sh X H s (.str x) (.str x t)
 | tup {p:ce}{vs:List V}{au:List bn}{l:List PV} (e:VR X.K [] H (.ref p) (.tup l)) (k:Vals vs au) (r:aL X.K [] H vs l) (h:s.heap.IsTuple p au.toArray):Sh X H s (.tup l) (.ref p)
 | cl {p:ce}{vs:List V}{au:List bn}{l:List PV} (e:VR X.K [] H (.ref p) (.cl l)) (k:Vals vs au) (r:aL X.K [] H vs l) (h:s.heap.IsList p au.toArray):Sh X H s (.cl l) (.ref p)
def Sh.of (I:Inv X Z σ H s) {v:V}{x:PV}{w:bn} (h:VR X.K [] H v x) (r:RelV v w) (d:PV.iL x=true):Sh X H s x w:=by
 cases h with
 | ref e=>simp at e
 | aN=>cases r;exact .aN
 | bl a=>cases r;exact .bl a
 | int a=>obtain⟨t,rfl⟩:=r;exact .int a t
 | str a=>obtain⟨t,rfl⟩:=r;exact .str a t
 | tup e q=>
  cases r;obtain⟨au,k,ht,_⟩:=I.tuple (dR.of e);exact .tup (.tup e q) k q ht
 | cl e q=>
  cases r;obtain⟨au,k,pl,_⟩:=I.list e.sq;exact .cl (.cl e q) k q pl.isList
 | _=>rw [PV.iL] at d;cases d
set_option maxHeartbeats 8000000 in
theorem Z9 (hK:X.K=K) (I:Inv X Z σ H s):∀(n:Nat) (x y:PV) (A:o0) (v v':V) (w w':bn),PV.fv x<=n->PV.iL x=true->PV.iL y=true->VR K [] H v x->VR K [] H v' y->RelV v w->RelV v' w'->A.units+n+1 < pc->Cmp A s w w' (i6 x y):=by
 subst hK;intro n
 induction n using CW with
 | ind n ih=>
 intro x y A v v' w w' hd dx dy hv ĝ r1 r2 hu;have a:=Sh.of I hv r1 dx;have b:=Sh.of I ĝ r2 dy;clear hv ĝ r1 r2;have el:∀{l m:List PV}{vs ws:List V}{au c8:List bn},fu l=true->fu m=true->d6 l < n->Vals vs au->Vals ws c8->aL X.K [] H vs l->aL X.K [] H ws m->au.toArray.size=l.length/\c8.toArray.size=m.length/\∀j (g1:j < au.toArray.size) (g2:j < c8.toArray.size),DL A.in1 s au.toArray[j] c8.toArray[j] (RP l m j):=λd1 d2 hd k1 k2 r r'=>⟨by rw [Ai,<- k1.length,r.length],by rw [Ai,<- k2.length,r'.length],adE I (A:=A.in1) k1 k2 r r' λj x y v v' w w' hx hy vx vy rx ry=>(ih _ hd x y A.in1 v v' w w' (wF hx) (um d1 hx) (um d2 hy) vx vy rx ry (by show A.units+1+_+1 < _;omega)).eq⟩;have fin:∀{pa pb:ce}{l m:List PV},(pa=pb->l=m)->fu l=true->SeqAt.RcAt A s (.ref pa) (.ref pb) (gb l m)->DL A s (.ref pa) (.ref pb) (gb l m):=λ{pa pb l m} h d q=>by
  by_cases nA:pa=pb
  ·rw [h nA,mj _ (h nA▸d),nA];exact F4 _
  ·exact FQ nA q
 cases a <;> cases b
 case tup.tup pa vs au l e k r ht pb ws c8 m e2 k2 r2 JM=>
  rw [PV.fv] at hd;obtain⟨z1,z2,ie⟩:=el dx dy ∅ k k2 r r2;have q1:=FT ht JM (A:=A) ∅ ie;have q2:=SeqAt.RcNeAt.tuples ht JM (A:=A) ∅ ie;rw [z1,z2,pd] at q1 q2;exact⟨q1,q2,fin (λz=>by subst z;have:=VR.RC I e e2;injection this) dx q1⟩
 case cl.cl pa vs au l e k r ht pb ws c8 m e2 k2 r2 JM=>
  rw [PV.fv] at hd;obtain⟨z1,z2,ie⟩:=el dx dy ∅ k k2 r r2;by_cases hz:l.length=m.length
  ·have q1:=F1 ht JM (by rw [z1,z2];exact hz) (A:=A) ∅ ie;have q2:=FP ht JM (by rw [z1,z2];exact hz) (A:=A) ∅ ie;have ef:(Aw l.length).all (RP l m)=gb l m:=by rw [<- pd,hz,Nat.min_self,beq_self_eq_true,Bool.and_true]
   rw [z1,ef] at q1 q2;exact⟨q1,q2,fin (λz=>by subst z;have:=VR.RC I e e2;injection this) dx q1⟩
  ·have q1:=EL (A:=A) ht JM (by rw [z1,z2];simpa using hz) ∅;have q2:=Ej (A:=A) ht JM (by rw [z1,z2];simpa using hz) ∅;have ef:=RG hz;rw [<- ef] at q1;have q2:SeqAt.RcNeAt A s (.ref pa) (.ref pb) (!gb l m):=by rw [ef];exact q2
   exact⟨q1,q2,fin (λz=>by subst z;have:=VR.RC I e e2;injection this) dx q1⟩
 all_goals
  clear ih el fin;rw [i6] <;> try (intros;simp_all;done)
  refine⟨?_,?_,?_⟩ <;> (try simp only [Dk,Fx]) <;> first | with_reducible exact .none_none | with_reducible exact .none_bool _ | with_reducible exact .none_int _ _ | with_reducible exact .none_str _ _ | with_reducible exact .none_tuple ‹_› ∅ | with_reducible exact .none_list ‹_› ∅ | with_reducible exact .bool_none _ | with_reducible exact .bool_str _ _ _ | with_reducible exact .bool_tuple _ ‹_› ∅ | with_reducible exact .bool_list _ ‹_› ∅ | with_reducible exact .int_none _ _ | with_reducible exact .int_str _ _ _ _ | with_reducible exact .int_tuple _ _ ‹_› ∅ | with_reducible exact .int_list _ _ ‹_› ∅ | with_reducible exact .str_none _ _ | with_reducible exact .str_bool _ _ _ | with_reducible exact .str_int _ _ _ _ | with_reducible exact .str_tuple _ _ ‹_› ∅ | with_reducible exact .str_list _ _ ‹_› ∅ | with_reducible exact .tuple_none ‹_› ∅ | with_reducible exact .tuple_bool _ ‹_› ∅ | with_reducible exact .tuple_int _ _ ‹_› ∅ | with_reducible exact .tuple_str _ _ ‹_› ∅ | with_reducible exact .tuple_list ‹_› ‹_› ∅ | with_reducible exact .list_none ‹_› ∅ | with_reducible exact .list_bool _ ‹_› ∅ | with_reducible exact .list_int _ _ ‹_› ∅ | with_reducible exact .list_str _ _ ‹_› ∅ | with_reducible exact .list_tuple ‹_› ‹_› ∅ | exact .same _ | exact .bool_bool _ _ | exact .bool_int _ _ _ | exact .int_bool _ _ _ | exact .int_int _ _ _ _ | exact .str_str _ _ _ _
end
end
section
open PySem PySem.Spec PyProof.Rows L2 PL
variable {K:Ab}
mutual
theorem VR.oJ {ι:List ce}{H:Hp}:∀{v:V}{q:PV},VR K ι H v q->PV.iL q=true->VR K [] H v q
 | _,_,.aN,_=>.aN
 | _,_,.bl b,_=>.bl b
 | _,_,.int i,_=>.int i
 | _,_,.str x,_=>.str x
 | _,_,.ty n,h=>by rw [PV.iL] at h;cases h
 | _,_,.dk _ _ _,h=>by rw [PV.iL] at h;cases h
 | _,_,.dt _ _ _,h=>by rw [PV.iL] at h;cases h
 | _,_,.tup e r,h=>.tup e (aL.oJ r (by rw [PV.iL] at h;exact h))
 | _,_,.cl e r,h=>.cl e (aL.oJ r (by rw [PV.iL] at h;exact h))
 | _,_,.ref e,h=>by rw [PV.iL] at h;cases h
theorem aL.oJ {ι:List ce}{H:Hp}:∀{v:List V}{q:List PV},aL K ι H v q->fu q=true->aL K [] H v q
 | _,_,.nil,_=>.nil
 | _,_,.cons r s,h=>by
  rw [fu,AO] at h;exact .cons (VR.oJ r h.1) (aL.oJ s h.2)
end
def J7 (x y:PV):Prop:=PV.iL x=true/\PV.iL y=true/\PV.fv x<=150
def fM:M2:=⟨λx y h Q=>J7 x y/\Q (.bl (i6 x y)) h,λf q=>⟨q.1,f _ _ q.2⟩⟩
def xJ:M2:=⟨λx y h Q=>J7 x y/\Q (.bl (!i6 x y)) h,λf q=>⟨q.1,f _ _ q.2⟩⟩
def TR (K:Ab) (neg:Bool):R2:=λu v H Q=>∃x y,VR K [] H u x/\VR K [] H v y/\J7 x y/\Q (.bl (if neg then !i6 x y else i6 x y)) H
section
theorem YJ (hK:X.K=K) (hu:X.A.units+200 < pc):je X (nw .Eq) (TR K false):=λZ s σ H u v w w' Q I r1 r2 ⟨x,y,h1,h2,⟨o1,o2,o3⟩,q⟩=>by
 exact Fe (Z9 hK I 150 x y X.A u v w w' o3 o1 o2 h1 h2 r1 r2 ∅).rc ⟨.bl _,H,I,rfl,q⟩
theorem YG (hK:X.K=K) (hu:X.A.units+200 < pc):je X (nw .NotEq) (TR K true):=λZ s σ H u v w w' Q I r1 r2 ⟨x,y,h1,h2,⟨o1,o2,o3⟩,q⟩=>by
 exact EI (Z9 hK I 150 x y X.A u v w w' o3 o1 o2 h1 h2 r1 r2 ∅).ne ⟨.bl _,H,I,rfl,q⟩
def UB:M2.Ok K (TR K false) fM:=λ{ι H h u v x y Q} hr hu hv q=>⟨x,y,VR.oJ hu q.1.1,VR.oJ hv q.1.2.1,q.1,q.2 ι _ H (Go.refl _ _) hr (.bl _)⟩
def Uy:M2.Ok K (TR K true) xJ:=λ{ι H h u v x y Q} hr hu hv q=>⟨x,y,VR.oJ hu q.1.1,VR.oJ hv q.1.2.1,q.1,q.2 ι _ H (Go.refl _ _) hr (.bl _)⟩
def gk (hK:X.K=K) (hu:X.A.units+200 < pc):JC X K .Eq b fM:=⟨⟨_,YJ hK hu,UB⟩,kX _⟩
def WS (hK:X.K=K) (hu:X.A.units+200 < pc):JC X K .NotEq b xJ:=⟨⟨_,YG hK hu,Uy⟩,kX _⟩
end
end
end FL
variable {x:A3}{b b1:Bool}{t z i1 i2 a1 a2:BG}{ys:Array A3}{k1:Nat}
namespace L2
open PySem PySem.Spec PyProof.Rows
def uJ (b:Bool) (h:mo) (it a:ce) (k:Nat):Prop:=match b with
 | true=>h.IsListIter it a k
 | false=>h.IsTupleIter it a k
def jb (b:Bool) (h:mo) (a:ce) (xs:Array bn):Prop:=match b with
 | true=>h.IsList a xs
 | false=>h.IsTuple a xs
def uJ.move (x:uJ b h it a k) (g:∀o,h.get? it=ap o->h'.get? it=ap o):uJ b h' it a k:=by
 cases b with
 | true=>obtain⟨o,e,p⟩:=(show h.IsListIter it a k from x);exact (show h'.IsListIter it a k from⟨o,g o e,p⟩)
 | false=>obtain⟨o,e,p⟩:=(show h.IsTupleIter it a k from x);exact (show h'.IsTupleIter it a k from⟨o,g o e,p⟩)
def jb.move (x:jb b h a xs) (g:∀o,h.get? a=ap o->h'.get? a=ap o):jb b h' a xs:=by
 cases b with
 | true=>obtain⟨o,e,p⟩:=(show h.IsList a xs from x);exact (show h'.IsList a xs from⟨o,g o e,p⟩)
 | false=>obtain⟨o,e,p⟩:=(show h.IsTuple a xs from x);exact (show h'.IsTuple a xs from⟨o,g o e,p⟩)
def uJ.obj (x:uJ b h it a k):∃o,h.get? it=ap o/\∀v,o.data≠.cell v:=by
 cases b with
 | true=>obtain⟨o,e,_,d⟩:=(show h.IsListIter it a k from x);exact⟨o,e,λv z=>by rw [d] at z;cases z⟩
 | false=>obtain⟨o,e,_,d⟩:=(show h.IsTupleIter it a k from x);exact⟨o,e,λv z=>by rw [d] at z;cases z⟩
def jb.lt (x:jb b h a xs):a < h.objs.size:=by
 cases b with
 | true=>obtain⟨o,e,p⟩:=(show h.IsList a xs from x);exact Au e
 | false=>obtain⟨o,e,p⟩:=(show h.IsTuple a xs from x);exact Au e
section
def kY (h:uJ b s.heap it t i) (ht:jb b s.heap t items) (hx:items[i]?=ap x)
  (q:∀h':mo,uJ b h' it t (i+1)->BN it s.heap h'->Q x {s with heap:=h'}):db (dL prog w) A (Builtin.SmallTypes.nextOf (.ref it)) Q E s:=by
 cases b with
 | true=>exact wpAny_nextOf_list_item h ht hx λh' a b=>q h' a b
 | false=>exact iG h ht hx q
def tF (hA:A.handled=bm) (h:uJ b s.heap it t i) (ht:jb b s.heap t items) (hx:items[i]?=bm)
  (q:∀(h':mo) (e:ce),EH it s.heap h'->(∃o,h'.get? e=ap o/\o.cls=.type "StopIteration")->E (.ref e) {s with heap:=h'}):db (dL prog w) A (Builtin.SmallTypes.nextOf (.ref it)) Q E s:=by
 cases b with
 | true=>exact wpAny_nextOf_list_end hA h ht hx λh' e a b=>q h' e a b
 | false=>exact ju hA h ht hx q
def Nv:Bool->String
 | true=>"list_iterator"
 | false=>"tuple_iterator"
def vQ (h:jb b s.heap a xs) (q:Q (.ref s.heap.objs.size) {s with heap:=s.heap.push {cls:=.type (Nv b),data:=.fields #[.ref a,.int 0 0]}}):db (dL prog w) A (pyIter (.ref a)) Q E s:=by
 cases b with
 | true=>exact C3 h q
 | false=>exact Eo h q
def Lc (e:h.get? it=ap {cls:=.type (Nv b),data:=.fields #[.ref a,.int 0 0]}):uJ b h it a 0:=by
 cases b with
 | true=>exact (show h.IsListIter it a 0 from⟨_,e,rfl,rfl⟩)
 | false=>exact (show h.IsTupleIter it a 0 from⟨_,e,rfl,rfl⟩)
end
structure kn (b1 b2:Bool) (h:mo) (z TI TO i1 i2 a1 a2:ce) (f0:bn) (k1 k2:Nat):Prop where
 zip:IsZip h z TI TO f0
 ti:IsPair h TI (.ref i1) (.ref i2)
 to:∃a b,IsPair h TO a b
 it1:uJ b1 h i1 a1 k1
 it2:uJ b2 h i2 a2 k2
def sG {E:bn->cr->Prop}{b2:Bool}{TI TO:ce}{y:bn} (hA:ZipApart z TI TO i1 i2 a1 a2)
  (hz:kn b1 b2 s.heap z TI TO i1 i2 a1 a2 .none k1 k2) (WY:jb b1 s.heap a1 xs) (JM:jb b2 s.heap a2 ys) (hx:xs[k1]?=ap x) (hy:ys[k2]?=ap y)
  (q:∀h':mo,kn b1 b2 h' z TI TO i1 i2 a1 a2 (ss s.heap.objs.size) (k1+1) (k2+1)->IsPair h' s.heap.objs.size x y->(∀c o,c≠z->c≠TO->c≠i1->c≠i2->s.heap.get? c=ap o->h'.get? c=ap o)->Q (.ref s.heap.objs.size) {s with heap:=h'}) :
  db (dL prog w) A (ut.«zip.__next__» {pos:=[.ref z]}) (λfin s'=>∃v,fin=Fq (F5 v)/\Q v s') E s:=by
 obtain⟨hz,Vi,⟨ta,tb,ĸ⟩,Ĥ,W2⟩:=hz;show db _ _ (field (.ref z) 2 >>= λr=>_) _ _ s;refine Aa (AZ hz rfl rfl ?_);refine Aa (AZ hz rfl rfl ?_);refine Aa (Bx Vi rfl ?_);refine Aa ?_;refine Aa (AZ hz rfl rfl ?_);refine Ad ?_;refine Aa (C7 ?_);refine Aa (AZ hz rfl rfl ?_);show db _ _ (wn (.ref z) 0 .ellipsis >>= λr=>_) _ _ s;refine Aa (A7 hz (show 0 < 5 by decide) λh1 z1 b1=>?_);show db _ _ ((forIn [(AB i1,0),(AB i2,1)] _ _) >>= λr=>_) _ _ _;refine Aa ?_;rw [B5];have vn:=b1.2;refine Aa ?_;refine Aa (EO ?_);refine Aa (kY (Ĥ.move λo e=>(vn _ hA.i1z).trans e) (WY.move λo e=>(vn _ hA.l1z).trans e) hx λh2 j2 b2=>Ad ?_);have Rt:∀b,b≠z->b≠i1->h2.get? b=s.heap.get? b:=λb n1 n2=>(b2.2 b n2).trans (vn b n1);have î:=(Rt _ hA.TOz hA.TOi1).trans ĸ;refine Aa (Bx î rfl ?_);refine Aa (D1 î λh3 t3 b3=>?_);have Ï:∀b,b≠z->b≠i1->b≠TO->h3.get? b=s.heap.get? b:=λb n1 n2 n3=>(b3.2 b n3).trans (Rt b n1 n2);refine Aa (CN (Ad ?_));show db _ _ (forIn [(AB i2,1)] _ _) _ _ _;rw [B5];refine Aa ?_;refine Aa (EO ?_);refine Aa (kY (W2.move λo e=>(Ï _ hA.i2z hA.i12.symm hA.TOi2.symm).trans e) (JM.move λo e=>(Ï _ hA.l2z hA.l2i1 hA.l2TO).trans e) hy λh4 j4 b4=>Ad ?_);have to4:=(b4.2 _ hA.TOi2).trans t3;refine Aa (Bx to4 rfl ?_);refine Aa (D1 to4 λh5 t5 b5=>?_);have to5:=t5;refine Aa (CN (Ad ?_));refine Ad ?_;refine Aa (Bx to5 rfl ?_);have ĭ:=b5.1.trans (b4.1.trans (b3.1.trans (b2.1.trans b1.1)));refine Aa (C8 ?_ (by show 2<=sizeLine;decide));have adm:∀b,b≠z->b≠i1->b≠TO->b≠i2->h5.get? b=s.heap.get? b:=λb n1 n2 n3 n4=>(b5.2 b n3).trans ((b4.2 b n4).trans (Ï b n1 n2 n3));have z5:h5.get? z=ap {cls:=.type "zip",data:=.fields #[.ellipsis,.bool false,.bool false,.ref TI,.ref TO]}:=(b5.2 _ hA.TOz.symm).trans ((b4.2 _ hA.i2z.symm).trans ((b3.2 _ hA.TOz.symm).trans ((b2.2 _ hA.i1z.symm).trans z1)));have kp:∀b o,h5.get? b=ap o->(h5.push {cls:=.type "tuple",data:=.seq #[x,y]}).get? b=ap o:=λb o e=>Ag _ e;have agu:(h5.push {cls:=.type "tuple",data:=.seq #[x,y]}).get? h5.objs.size=ap {cls:=.type "tuple",data:=.seq #[x,y]}:=Ao _ rfl;refine Aa ?_;show db _ _ (wn (.ref z) 0 (ss h5.objs.size) >>= λ_=>wn (.ref z) 1 (.bool false)) _ _ _;refine Aa (A7 (kp _ _ z5) (show 0 < 5 by decide) λh7 z7 b7=>?_);refine A7 z7 (show 1 < 5 by decide) λh8 z8 b8=>?_;have NM:∀b,b≠z->h8.get? b=(h5.push {cls:=.type "tuple",data:=.seq #[x,y]}).get? b:=λb n=>(b8.2 b n).trans (b7.2 b n);have nz:s.heap.objs.size≠z:=λe=>by have:=Au hz;rw [<- e] at this;exact A2 _ this
 refine Ad ⟨.ref h5.objs.size,rfl,?_⟩;rw [ĭ];refine q h8 ⟨?_,?_,?_,?_,?_⟩ ?_ ?_
 ·rw [<- ĭ];exact z8
 ·rw [IsPair,NM _ hA.TIz];exact kp _ _ ((adm _ hA.TIz hA.TIi1 hA.TITO hA.TIi2).trans Vi)
 ·exact⟨x,y,by rw [IsPair,NM _ hA.TOz];exact kp _ _ to5⟩
 ·refine j2.move λo e=>?_;rw [NM _ hA.i1z];exact kp _ _ ((b5.2 _ hA.TOi1.symm).trans ((b4.2 _ hA.i12).trans ((b3.2 _ hA.TOi1.symm).trans e)))
 ·refine j4.move λo e=>?_;rw [NM _ hA.i2z];exact kp _ _ ((b5.2 _ hA.TOi2.symm).trans e)
 ·rw [IsPair,NM _ nz,<- ĭ];exact agu
 ·intro c o n1 n2 n3 n4 e;rw [NM _ n1];exact kp _ _ ((adm _ n1 n3 n2 n4).trans e)
def uS {b2:Bool}{TI TO:ce}{Q:PySem.Fin->cr->Prop} (hh:A.handled=bm) (hA:ZipApart z TI TO i1 i2 a1 a2)
  (hz:kn b1 b2 s.heap z TI TO i1 i2 a1 a2 .none k1 k2) (WY:jb b1 s.heap a1 xs) (JM:jb b2 s.heap a2 ys) (hx:xs[k1]?=bm\/ys[k2]?=bm)
  (q:∀(h':mo) (e:ce),(∀c o,c≠z->c≠TO->c≠i1->c≠i2->s.heap.get? c=ap o->h'.get? c=ap o)->(∃o,h'.get? e=ap o/\o.cls=.type "StopIteration")->E (.ref e) {s with heap:=h'}) :
  db (dL prog w) A (ut.«zip.__next__» {pos:=[.ref z]}) Q E s:=by
 obtain⟨hz,Vi,⟨ta,tb,ĸ⟩,Ĥ,W2⟩:=hz;show db _ _ (field (.ref z) 2 >>= λr=>_) _ _ s;refine Aa (AZ hz rfl rfl ?_);refine Aa (AZ hz rfl rfl ?_);refine Aa (Bx Vi rfl ?_);refine Aa ?_;refine Aa (AZ hz rfl rfl ?_);refine Ad ?_;refine Aa (C7 ?_);refine Aa (AZ hz rfl rfl ?_);show db _ _ (wn (.ref z) 0 .ellipsis >>= λr=>_) _ _ s;refine Aa (A7 hz (show 0 < 5 by decide) λh1 z1 b1'=>?_);show db _ _ ((forIn [(AB i1,0),(AB i2,1)] _ _) >>= λr=>_) _ _ _;refine Aa ?_;rw [B5];have vn:=b1'.2;refine Aa ?_;refine Aa (EO ?_);have fin:∀{h2:mo}{e:ce},h2.get? z=ap {cls:=.type "zip",data:=.fields #[.ellipsis,.bool false,.bool false,.ref TI,.ref TO]}->(∃o,h2.get? e=ap o/\o.cls=.type "StopIteration")->(∀c o,c≠z->c≠TO->c≠i1->c≠i2->s.heap.get? c=ap o->h2.get? c=ap o)->db (dL prog w) A (wn (.ref z) 0 .none) (λ_ s'=>E (.ref e) s') (λ_ _=>True) {s with heap:=h2}:=λ{h2 e} z2 ex k=>by
  refine A7 z2 (show 0 < 5 by decide) λh3 z3 b3=>?_;refine q h3 e (λc o n1 n2 n3 n4 ec=>?_) ?_
  ·rw [b3.2 _ n1];exact k c o n1 n2 n3 n4 ec
  ·obtain⟨o,eo,hc⟩:=ex;by_cases he:e=z
   ·subst he;rw [z2] at eo;cases eo;exact absurd (show B8 "zip"=B8 "StopIteration" from hc) ⋯
   ·exact⟨o,(b3.2 _ he).trans eo,hc⟩
 cases hx1:xs[k1]? with
 | none=>
  refine Aa (tF hh (Ĥ.move λo e=>(vn _ hA.i1z).trans e) (WY.move λo e=>(vn _ hA.l1z).trans e) hx1 λh2 e k ex=>?_);have z2:h2.get? z=ap {cls:=.type "zip",data:=.fields #[.ellipsis,.bool false,.bool false,.ref TI,.ref TO]}:=k _ _ hA.i1z.symm z1;refine A7 z2 (show 0 < 5 by decide) λh3 z3 b3=>?_;refine q h3 e (λc o n1 n2 n3 n4 ec=>?_) ?_
  ·rw [b3.2 _ n1];exact k _ _ n3 ((vn _ n1).trans ec)
  ·obtain⟨o,eo,hc⟩:=ex;by_cases he:e=z
   ·subst he;rw [z2] at eo;cases eo;exact absurd (show B8 "zip"=B8 "StopIteration" from hc) ⋯
   ·exact⟨o,(b3.2 _ he).trans eo,hc⟩
 | some x=>
  have hy:ys[k2]?=bm:=by
   rcases hx with h | h
   ·rw [hx1] at h;cases h
   ·exact h
  refine Aa (kY (Ĥ.move λo e=>(vn _ hA.i1z).trans e) (WY.move λo e=>(vn _ hA.l1z).trans e) hx1 λh2 j2 b2'=>Ad ?_);have Rt:∀b,b≠z->b≠i1->h2.get? b=s.heap.get? b:=λb n1 n2=>(b2'.2 b n2).trans (vn b n1);have î:=(Rt _ hA.TOz hA.TOi1).trans ĸ;refine Aa (Bx î rfl ?_);refine Aa (D1 î λh3 t3 b3=>?_);have Ï:∀b,b≠z->b≠i1->b≠TO->h3.get? b=s.heap.get? b:=λb n1 n2 n3=>(b3.2 b n3).trans (Rt b n1 n2);refine Aa (CN (Ad ?_));refine Aa ?_;refine Aa (EO ?_);show db _ _ (Builtin.SmallTypes.nextOf (.ref i2) >>= λv=>pure (ap v)) _ _ _;refine Aa (tF hh (W2.move λo e=>(Ï _ hA.i2z hA.i12.symm hA.TOi2.symm).trans e) (JM.move λo e=>(Ï _ hA.l2z hA.l2i1 hA.l2TO).trans e) hy λh4 e k ex=>?_);have z4:h4.get? z=ap {cls:=.type "zip",data:=.fields #[.ellipsis,.bool false,.bool false,.ref TI,.ref TO]}:=k _ _ hA.i2z.symm ((b3.2 _ hA.TOz.symm).trans ((b2'.2 _ hA.i1z.symm).trans z1));refine A7 z4 (show 0 < 5 by decide) λh5 z5 b5=>?_;refine q h5 e (λc o n1 n2 n3 n4 ec=>?_) ?_
  ·rw [b5.2 _ n1];exact k _ _ n4 ((Ï _ n1 n3 n2).trans ec)
  ·obtain⟨o,eo,hc⟩:=ex;by_cases he:e=z
   ·subst he;rw [z4] at eo;cases eo;exact absurd (show B8 "zip"=B8 "StopIteration" from hc) ⋯
   ·exact⟨o,(b5.2 _ he).trans eo,hc⟩
def pZ {b2:Bool}{TI TO:ce}{y:bn}{Q:Option bn->cr->Prop} (hA:ZipApart z TI TO i1 i2 a1 a2)
  (hz:kn b1 b2 s.heap z TI TO i1 i2 a1 a2 .none k1 k2) (WY:jb b1 s.heap a1 xs) (JM:jb b2 s.heap a2 ys) (hx:xs[k1]?=ap x) (hy:ys[k2]?=ap y)
  (q:∀h':mo,kn b1 b2 h' z TI TO i1 i2 a1 a2 (ss s.heap.objs.size) (k1+1) (k2+1)->IsPair h' s.heap.objs.size x y->(∀c o,c≠z->c≠TO->c≠i1->c≠i2->s.heap.get? c=ap o->h'.get? c=ap o)->Q (ap (.ref s.heap.objs.size)) {s with heap:=h'}) :
  db (dL prog w) A (FS (.ref z)) Q E s:=by
 have ty:s.TypeIs (.ref z) "zip":=⟨_,hz.zip,rfl⟩;refine Aa (CC (AN ty D4 (A1 D4 ty F.entry_zip_next ?_ (F.args_zip_next_1 _))));exact sG hA hz WY JM hx hy λh' a b c=>Ad (q h' a b c)
def rf {b2:Bool}{TI TO:ce}{Q:Option bn->cr->Prop} (hh:A.handled=bm) (hA:ZipApart z TI TO i1 i2 a1 a2)
  (hz:kn b1 b2 s.heap z TI TO i1 i2 a1 a2 .none k1 k2) (WY:jb b1 s.heap a1 xs) (JM:jb b2 s.heap a2 ys) (hx:xs[k1]?=bm\/ys[k2]?=bm)
  (q:∀h':mo,(∀c o,c≠z->c≠TO->c≠i1->c≠i2->s.heap.get? c=ap o->h'.get? c=ap o)->Q bm {s with heap:=h'}) :
  db (dL prog w) A (FS (.ref z)) Q E s:=by
 have ty:s.TypeIs (.ref z) "zip":=⟨_,hz.zip,rfl⟩;refine Aa (CC (AN ty D4 (A1 D4 ty F.entry_zip_next ?_ (F.args_zip_next_1 _))));refine uS (A:=A.in1) hh hA hz WY JM hx λh' e k ex=>?_;obtain⟨o,eo,hc⟩:=ex;refine Aa (Dc (T:="StopIteration") ⟨o,eo,hc⟩ isSubtype_stop ?_);exact Ad (q h' k)
def tI (b1 b2:Bool) (a1 a2:ce) (xs ys:Array bn):Meets (ut.«zip.__new__» {pos:=[.type "zip",.ref a1,.ref a2]}) (λ_ R s=>jb b1 s.heap a1 xs/\jb b2 s.heap a2 ys/\
  ∀h':mo,kn b1 b2 h' (s.heap.objs.size+4) (s.heap.objs.size+2) (s.heap.objs.size+3) s.heap.objs.size (s.heap.objs.size+1) a1 a2 .none 0 0->(∀b o,s.heap.get? b=ap o->h'.get? b=ap o)->R (.ok (.ret (.ref (s.heap.objs.size+4)))) {s with heap:=h'}):=
 .of_wp λprog w A R s h=>by
  obtain⟨h1,h2,q⟩:=h;refine Aa ?_;refine Aa (Cv (a:=true) rfl ?_);refine Aa (Cv sub_zip ?_);refine Ad ?_;refine Aa ?_;refine Aa ?_;rw [B5];refine Aa ?_;refine Aa (Bd (vQ h1 (Ad ?_)));have k1:∀b o,s.heap.get? b=ap o->(s.heap.push {cls:=.type (Nv b1),data:=.fields #[.ref a1,.int 0 0]}).get? b=ap o:=λb o e=>Ag _ e;have g1:(s.heap.push {cls:=.type (Nv b1),data:=.fields #[.ref a1,.int 0 0]}).get? s.heap.objs.size=ap {cls:=.type (Nv b1),data:=.fields #[.ref a1,.int 0 0]}:=Ao _ rfl;have z1:(s.heap.push {cls:=.type (Nv b1),data:=.fields #[.ref a1,.int 0 0]}).objs.size=s.heap.objs.size+1:=CG ..;generalize s.heap.push {cls:=.type (Nv b1),data:=.fields #[.ref a1,.int 0 0]}=yq at k1 g1 z1 ⊢;show db _ _ (forIn [AB a2] _ _) _ _ _;rw [B5];refine Aa ?_;refine Aa (Bd (vQ (xs:=ys) (h2.move λo e=>k1 _ _ e) (Ad ?_)));show db _ _ (forIn [] _ _) _ _ _;rw [List.forIn_nil];refine Ad (Ad ?_);have k2:∀b o,yq.get? b=ap o->(yq.push {cls:=.type (Nv b2),data:=.fields #[.ref a2,.int 0 0]}).get? b=ap o:=λb o e=>Ag _ e;have g2:(yq.push {cls:=.type (Nv b2),data:=.fields #[.ref a2,.int 0 0]}).get? yq.objs.size=ap {cls:=.type (Nv b2),data:=.fields #[.ref a2,.int 0 0]}:=Ao _ rfl;have z2:(yq.push {cls:=.type (Nv b2),data:=.fields #[.ref a2,.int 0 0]}).objs.size=yq.objs.size+1:=CG ..;show db _ _ (newTuple [.ref s.heap.objs.size,.ref yq.objs.size] >>= λr=>_) _ _ {s with heap:=yq.push {cls:=.type (Nv b2),data:=.fields #[.ref a2,.int 0 0]}};generalize yq.push {cls:=.type (Nv b2),data:=.fields #[.ref a2,.int 0 0]}=yp at k2 g2 z2 ⊢;refine Aa (C8 ?_ (by show 2<=sizeLine;decide));have k3:∀b o,yp.get? b=ap o->(yp.push {cls:=.type "tuple",data:=.seq [AB s.heap.objs.size,AB yq.objs.size].toArray}).get? b=ap o:=λb o e=>Ag _ e;have g3:(yp.push {cls:=.type "tuple",data:=.seq [AB s.heap.objs.size,AB yq.objs.size].toArray}).get? yp.objs.size=ap {cls:=.type "tuple",data:=.seq #[.ref s.heap.objs.size,.ref yq.objs.size]}:=Ao _ rfl;have z3:(yp.push {cls:=.type "tuple",data:=.seq [AB s.heap.objs.size,AB yq.objs.size].toArray}).objs.size=yp.objs.size+1:=CG ..;show db _ _ (newTuple [.none,.none] >>= λr=>_) _ _ {s with heap:=yp.push {cls:=.type "tuple",data:=.seq [AB s.heap.objs.size,AB yq.objs.size].toArray}};generalize yp.push {cls:=.type "tuple",data:=.seq [AB s.heap.objs.size,AB yq.objs.size].toArray}=NG at k3 g3 z3 ⊢;refine Aa (C8 ?_ (by show 2<=sizeLine;decide));have k4:∀b o,NG.get? b=ap o->(NG.push {cls:=.type "tuple",data:=.seq [AL,AL].toArray}).get? b=ap o:=λb o e=>Ag _ e;have g4:(NG.push {cls:=.type "tuple",data:=.seq [AL,AL].toArray}).get? NG.objs.size=ap {cls:=.type "tuple",data:=.seq #[.none,.none]}:=Ao _ rfl;have z4:(NG.push {cls:=.type "tuple",data:=.seq [AL,AL].toArray}).objs.size=NG.objs.size+1:=CG ..;show db _ _ (newObj (.type "zip") (.fields #[.none,.bool false,.bool false,.ref yp.objs.size,.ref NG.objs.size]) >>= λr=>_) _ _ {s with heap:=NG.push {cls:=.type "tuple",data:=.seq [AL,AL].toArray}};generalize NG.push {cls:=.type "tuple",data:=.seq [AL,AL].toArray}=hp4 at k4 g4 z4 ⊢;refine Aa (AE ?_ (by simp [sizeOk];decide));have k5:∀b o,hp4.get? b=ap o->(hp4.push {cls:=.type "zip",data:=.fields #[.none,.bool false,.bool false,.ref yp.objs.size,.ref NG.objs.size]}).get? b=ap o:=λb o e=>Ag _ e;have g5:(hp4.push {cls:=.type "zip",data:=.fields #[.none,.bool false,.bool false,.ref yp.objs.size,.ref NG.objs.size]}).get? hp4.objs.size=ap {cls:=.type "zip",data:=.fields #[.none,.bool false,.bool false,.ref yp.objs.size,.ref NG.objs.size]}:=Ao _ rfl;have e1:=z1;have e2:yp.objs.size=s.heap.objs.size+2:=by rw [z2,e1]
  have e3:NG.objs.size=s.heap.objs.size+3:=by rw [z3,e2]
  have e4:hp4.objs.size=s.heap.objs.size+4:=by rw [z4,e3]
  refine Ad ⟨.ref hp4.objs.size,rfl,?_⟩;rw [e2,e3] at g5 k5 ⊢;rw [e4] at g5 ⊢;rw [e3] at g4;rw [e1,e2] at g3;rw [e1] at g2;refine q _ ⟨g5,k5 _ _ (k4 _ _ g3),⟨_,_,k5 _ _ g4⟩,Lc (k5 _ _ (k4 _ _ (k3 _ _ (k2 _ _ g1)))),Lc (k5 _ _ (k4 _ _ (k3 _ _ g2)))⟩ λb o e=>k5 _ _ (k4 _ _ (k3 _ _ (k2 _ _ (k1 _ _ e))))
def N3 {b2:Bool} (h1:jb b1 s.heap a1 xs) (h2:jb b2 s.heap a2 ys)
  (q:∀h':mo,kn b1 b2 h' (s.heap.objs.size+4) (s.heap.objs.size+2) (s.heap.objs.size+3) s.heap.objs.size (s.heap.objs.size+1) a1 a2 .none 0 0->(∀b o,s.heap.get? b=ap o->h'.get? b=ap o)->Q (.ref (s.heap.objs.size+4)) {s with heap:=h'}) :
  db (dL prog w) A (call (.type "zip") [.ref a1,.ref a2]) Q E s:=
 callType_new F.called_zip ⋯ (F.typeCall_zip_2 _ _) (F.newCall_zip_2 _ _) (λo=>F.args_object_init_3 o _ _) F.entry_zip_new (tI b1 b2 a1 a2 xs ys) ⟨h1,h2,λh' z k=>⟨⟨_,z.zip,rfl⟩,q h' z k⟩⟩
def OA (b:Bool) (K:Ab) (H:Hp) (a:ce) (xs:List V):Prop:=match b with
 | true=>de K H a xs
 | false=>dR K H a xs
def Inv.sqx {xs:List V} (I:Inv X Z σ H s) (h:OA b X.K H a xs):∃au:List bn,Vals xs au/\jb b s.heap a au.toArray/\xs.length<=sizeLine:=by
 cases b with
 | true=>obtain⟨au,r,p,z⟩:=I.list (show de X.K H a xs from h);exact⟨au,r,p.isList,z⟩
 | false=>obtain⟨au,r,p,z⟩:=I.tuple (show dR X.K H a xs from h);exact⟨au,r,p,z⟩
def Inv.Lb {xs ys:List V} (I:Inv X Z σ H s) (h:OA b X.K H a xs) (h':OA b X.K H a ys):xs=ys:=by
 cases b with
 | true=>
  obtain⟨au,k,⟨o,n,h1,h2,h3,h4⟩,_⟩:=I.list (show de X.K H a xs from h);obtain⟨its',k',⟨o',n',ib,si,Rr,ZH⟩,_⟩:=I.list (show de X.K H a ys from h');rw [h1] at ib;cases ib;rw [h4] at ZH;have:au=its':=by injection ZH with a b;simpa using a
  subst this;exact Vals.inj k k'
 | false=>exact I.lU h h'
def ad5 (b1 b2:Bool) (K:Ab) (a1 a2:ce):It where
 go:=λi H=>∃xs ys x y,OA b1 K H a1 xs/\OA b2 K H a2 ys/\xs[i]?=ap x/\ys[i]?=ap y
 Wi:=λi H v H'=>∃p x y,v=.ref p/\H p=bm/\H'=upd H p (.tup [x,y])/\(∀xs,OA b1 K H a1 xs->xs[i]?=ap x)/\∀ys,OA b2 K H a2 ys->ys[i]?=ap y
 stop:=λi H=>∃xs ys,OA b1 K H a1 xs/\OA b2 K H a2 ys/\(xs.length<=i\/ys.length<=i)
theorem Mu {K:Ab}{b2:Bool}{kk:Nat}{TI TO:ce} (hA:ZipApart z TI TO i1 i2 a1 a2):Turn P w K (.Tuple Ð kk pos) (ad5 b1 b2 K a1 a2) [z,TI,TO,i1,i2] z (λi h=>kn b1 b2 h z TI TO i1 i2 a1 a2 .none i i) where
 mem:=by simp
 obj:=λi h st b hb=>by
  simp only [AD,BD,or_false] at hb;rcases hb with rfl | rfl | rfl | rfl | rfl
  ·exact⟨_,st.zip,λv z=>by cases z⟩
  ·exact⟨_,st.ti,λv z=>by cases z⟩
  ·obtain⟨_,_,e⟩:=st.to;exact⟨_,e,λv z=>by cases z⟩
  ·exact st.it1.obj
  ·exact st.it2.obj
 keep:=λi h h' st k=>⟨k z (by simp) _ st.zip,k TI (by simp) _ st.ti,let ⟨a,b,e⟩:=st.to;⟨a,b,k TO (by simp) _ e⟩,st.it1.move λo e=>k i1 (by simp) _ e,st.it2.move λo e=>k i2 (by simp) _ e⟩
 item:=by
  intro X hP hw hK hc i Z s σ H E I hf st hg;subst hP hw hK;obtain⟨xs,ys,x,y,hx,hy,gx,gy⟩:=hg;obtain⟨au,rx,tx,_⟩:=I.sqx hx;obtain⟨c8,ry,ty,_⟩:=I.sqx hy;obtain⟨u,gu,ru⟩:=n8 rx gx;obtain⟨v,gv,rv⟩:=n8 ry gy;refine pZ hA st tx ty (by simpa using gu) (by simpa using gv) λh' zt np k=>?_;refine⟨_,rfl,?_⟩;refine Aa (wpAny_load zt.zip ?_);show db _ _ (if ((["enumerate","zip","dict_itemiterator","dict_reverseitemiterator","odict_iterator","itertools.zip_longest","itertools.pairwise"].contains "zip"&&(ap (ss s.heap.objs.size)==ap (ss s.heap.objs.size)))=true) then (do rule "for.unpacks-the-owned-tuple";wn (.ref z) 0 .none) else pure ()) _ _ _;rw [if_pos (by rw [beq_self_eq_true];decide)];refine Aa (C7 ?_);refine A7 zt.zip (show 0 < 5 by decide) λh2 z2 b2=>?_;have lt:∀b∈[z,TI,TO,i1,i2],b < s.heap.objs.size:=λb hb=>by
   simp only [AD,BD,or_false] at hb;rcases hb with rfl | rfl | rfl | rfl | rfl
   ·exact Au st.zip
   ·exact Au st.ti
   ·obtain⟨_,_,e⟩:=st.to;exact Au e
   ·obtain⟨o,e,_⟩:=st.it1.obj;exact Au e
   ·obtain⟨o,e,_⟩:=st.it2.obj;exact Au e
  have nz:s.heap.objs.size≠z:=λe=>A2 _ (by have:=lt z (by simp);rw [<- e] at this;exact this);have Ā:∀b o,b∉[z,TI,TO,i1,i2]->s.heap.get? b=ap o->h2.get? b=ap o:=λb o hb e=>by
   have NF:b≠z:=λq=>hb (by simp [q]);rw [b2.2 b NF];exact k b o NF (λq=>hb (by simp [q])) (λq=>hb (by simp [q])) (λq=>hb (by simp [q])) e
  have ü:h2.get? s.heap.objs.size=ap {cls:=.type "tuple",data:=.seq #[u,v]}:=(b2.2 _ nz).trans np;have ą:=I.bC.fresh (Am s.heap.objs.size);refine⟨.ref s.heap.objs.size,upd H s.heap.objs.size (.tup [x,y]),I.sR (t':=s.toks) hf Ā (Am _) ⟨by show 2<=sizeLine;decide,[u,v],.cons ru (.cons rv .nil),⟨_,ü,rfl,_,rfl⟩⟩,rfl,⟨_,x,y,rfl,ą,rfl,λxs' h'=>?_,λys' h'=>?_⟩,⟨z2,(b2.2 _ hA.TIz).trans zt.ti,let ⟨p,q,e⟩:=zt.to;⟨p,q,(b2.2 _ hA.TOz).trans e⟩,zt.it1.move λo e=>(b2.2 _ hA.i1z).trans e,zt.it2.move λo e=>(b2.2 _ hA.i2z).trans e⟩,λb hb=>?_⟩
  ·rw [I.Lb h' hx];exact gx
  ·rw [I.Lb h' hy];exact gy
  ·rw [ax (AG (lt b hb))];exact (hf b hb).1
 done:=by
  intro X hP hw hK hc i Z s σ H E I hf st hg;subst hP hw hK;obtain⟨xs,ys,hx,hy,hl⟩:=hg;obtain⟨au,rx,tx,_⟩:=I.sqx hx;obtain⟨c8,ry,ty,_⟩:=I.sqx hy;have el:=rx.length;have el2:=ry.length;refine rf (I.ok.hd hc) hA st tx ty ?_ λh' k=>⟨rfl,I.xc (t':=s.toks) hf λb o hb e=>k b o (λz=>hb (by simp [z])) (λz=>hb (by simp [z])) (λz=>hb (by simp [z])) (λz=>hb (by simp [z])) e⟩;rcases hl with hl | hl
  ·exact .inl (by simp;omega)
  ·exact .inr (by simp;omega)
 self:=λA i s Q E st h=>wpAny_pyIter_zip st.zip h
def acP (K:Ab) (t1 t2:TE):TI:=λσ H R=>t1 σ H λx H1=>t2 σ H1 λy H2=>∃b1 b2 a b,x=.ref a/\y=.ref b/\(∃xs,OA b1 K H2 a xs)/\(∃ys,OA b2 K H2 b ys)/\R (ad5 b1 b2 K a b) H2
def T6 (K:Ab) (hK:X.K=K) {e1 e2:ii}{t2:TE}{kk:Nat} (hg:Gl X "zip") (hm:X.mg "zip"=bm) (h1:PE X e1 t1) (h2:PE X e2 t2)
  (Io:f8 [e1,e2] X.env=(false,im e1 X.env)::f8 [e2] X.env:=by rfl) (qx:gM X e2 []:=by rfl) (dQ:(wP p2 (f8 [e2] X.env)).any (·.1)=false:=by rfl) :
  PI X (.Tuple Ð kk tp) (.Call (.Name "zip" p1) [e1,e2] [] p2) (acP K t1 t2):=by
 subst hK;intro Z s σ H R I h;refine Bz (hV I hg hm boot_zip ?_ ⋯ ⋯);refine Bb ?_ Io dQ;rw [Io,qx];refine B9 (cq (h1 Z s σ H _ I h) λu1 s1 ⟨x,H1,I1,r1,q1⟩=>?_);refine B9 (cq (h2 Z s1 σ H1 _ I1 q1) λu2 s2 ⟨y,H2,I2,r2,b1,b2,a,b,ex,ey,⟨xs,hx⟩,⟨ys,hy⟩,q⟩=>Cu ?_);subst ex;subst ey;cases r1;cases r2;obtain⟨au,rx,tx,_⟩:=I2.sqx hx;obtain⟨c8,ry,ty,_⟩:=I2.sqx hy;have l1:=tx.lt;have l2:=ty.lt;refine N3 tx ty λh' zt k=>?_;refine wpAny_pyIter_zip zt.zip ?_;have dd:∀i j:Nat,i≠j->s2.heap.objs.size+i≠s2.heap.objs.size+j:=λi j n e=>n (Nat.add_left_cancel e);have na:∀i:Nat,a≠s2.heap.objs.size+i:=λi=>AG (AM l1 (BR _ _));have nb:∀i:Nat,b≠s2.heap.objs.size+i:=λi=>AG (AM l2 (BR _ _));have hA:ZipApart (s2.heap.objs.size+4) (s2.heap.objs.size+2) (s2.heap.objs.size+3) s2.heap.objs.size (s2.heap.objs.size+1) a b:=
  ⟨dd 2 4 ⋯,dd 3 4 ⋯,dd 0 4 ⋯,dd 1 4 ⋯,dd 2 3 ⋯,dd 2 0 ⋯,dd 2 1 ⋯,dd 3 0 ⋯,dd 3 1 ⋯,dd 0 1 ⋯,na 4,na 3,na 0,na 1,nb 4,nb 3,nb 0,nb 1⟩
 refine⟨_,_,_,_,H2,rfl,I2.kept (t':=s2.toks) k,Mu hA,zt,λc hc=>?_,q⟩;have Ø:s2.heap.objs.size<=c:=by
  simp only [AD,BD,or_false] at hc;rcases hc with rfl | rfl | rfl | rfl | rfl
  ·exact BR _ _
  ·exact BR _ _
  ·exact BR _ _
  ·exact Am _
  ·exact BR _ _
 exact I2.yI Ø (I2.bC.fresh Ø)
def abO (K:Ab):V->Option Int->Option Int->Hp->VK->Prop:=λx lo hi H Q=>∃a xs,x=.ref a/\dR K H a xs/\
 ((HT.d9 xs.length 0 lo=0/\HT.d9 xs.length xs.length hi=xs.length)->Q x H)/\(¬(HT.d9 xs.length 0 lo=0/\HT.d9 xs.length xs.length hi=xs.length)->kJ H (.tup (zg xs lo hi)) Q)
def Tt (K:Ab) (hK:X.K=K):SlR X (abO K):=by
 subst hK;intro Z s σ H x v vl vu lo hi sl Q I rx hs pl pu h;obtain⟨a,xs,rfl,hT,qw,qn⟩:=h;by_cases c:HT.d9 xs.length 0 lo=0/\HT.d9 xs.length xs.length hi=xs.length
 ·have q:=qw c;cases rx;obtain⟨au,r,ht,hz⟩:=I.tuple hT;have Á:au.toArray.size=xs.length:=by rw [Ai];exact r.length.symm
  refine⟨"tuple",_,AQ.lookup,ht.typeIs,?_⟩;obtain⟨os,Ow,ì,Vn⟩:=id hs;have Ċ:s.TypeIs (.ref sl) "slice":=⟨os,Ow,ì⟩;unfold Db
  try with_reducible refine Bd ?_
  first | refine Aa (Ad ?_) | skip
  refine Aa (EJ ht.typeIs ⋯ ?_);refine Aa (AN (name:=BB "__getitem__") ht.typeIs AQ
   (A1 AQ ht.typeIs entry_tuple_getitem ?_ (args_tuple_getitem _ _)))
  show db _ _ (Builtin.Tuple.tupleItemsOf (.ref a) >>= _) _ _ s;refine Aa (tupleItemsOf_ ht ?_);refine Aa (CO Ċ ?_);refine Aa (HT.jl hs pl pu ?_);show db _ _ (if (((HT.d9 au.toArray.size 0 lo:Nat):Int)==0&&(1:Int)==1&&(HT.d9 au.toArray.size au.toArray.size hi-HT.d9 au.toArray.size 0 lo)==au.toArray.size)=true then _ else _) _ _ s;rw [if_pos (by rw [Á,c.1,c.2];simp)];refine Aa ?_
  first
   | refine Aa (CO ht.typeIs (Ad ?_))
   | refine CO ht.typeIs (Ad ?_)
  first
   | rw [if_pos ⋯]
   | rw [if_pos rfl]
  refine Aa (C7 (Ad ⟨_,rfl,?_⟩));exact Ad ⟨.ref a,H,I,rfl,q⟩
 ·exact X4 Z s σ H _ v vl vu lo hi sl Q I rx hs pl pu ⟨a,xs,rfl,hT,c,λp hp=>(qn c).at p hp⟩
def ab1 (K:Ab):R2:=λx y H Q=>∃a b xs ys,x=.ref a/\y=.ref b/\dR K H a xs/\dR K H b ys/\xs.length+ys.length<=sizeLine/\
 (xs=[]->Q (.ref b) H)/\(xs≠[]->ys=[]->Q (.ref a) H)/\(xs≠[]->ys≠[]->kJ H (.tup (xs++ys)) Q)
def Us (K:Ab) (hK:X.K=K):je X (sn .Add) (ab1 K):=by
 subst hK;intro Z s σ H x y v u Q I rx ry h;obtain⟨a,b,xs,ys,rfl,rfl,ha,hb,hz,q0,q1,q2⟩:=h;by_cases c:xs=[]
 ·cases rx;cases ry;obtain⟨au,r1,p1,_⟩:=I.tuple ha;obtain⟨c8,r2,p2,_⟩:=I.tuple hb;obtain⟨⟨cls,dd,data,sl⟩,ho,hc,n,hd⟩:=id p1;obtain⟨⟨Œ,VS,data2,SJ⟩,NH,Rm,n2,Ô⟩:=id p2;simp only at hc hd Rm Ô;subst hc hd Rm Ô;exact concat_meets ⟨_,ho,rfl⟩ ⟨_,NH,rfl⟩ noFill_tuple_add seq_tuple_add Dq Dp (Di _ _)
   (tuple_addW0 a b au.toArray c8.toArray n n2 dd VS sl SJ (by rw [r1.jQ.mpr c];rfl)) ⟨ho,NH,.ref b,H,I,rfl,q0 c⟩
 ·exact Lz Z s σ H _ _ v u Q I rx ry ⟨a,b,xs,ys,rfl,rfl,ha,hb,c,hz,q1 c,λn p hp=>(q2 c n).at p hp⟩
end L2
variable {b:BX}
namespace FL
section
open PySem PySem.Spec PyProof.Rows L2 PL
variable {K:Ab}
section
variable {a c:ii}{w:W PV}{wm:W (List PV)}
def addW:PV->PV->W PV
 | .int i,.int j=>.ret (.int (i+j))
 | .str a,.str b=>.fj (a.length+b.length<=sizeLine) (.ret (.str (a++b)))
 | .tup a,.tup b=>.fj (a.length+b.length<=sizeLine) (.ret (.tup (a++b)))
 | _,_=>.fail
def bQ (hK:X.K=K) (ha:EF X K fs a wa) (hb:EF X K fs b wb):EF X K fs (.BinOp a .Add b pos) (.bind wa λx=>.bind wb λy=>addW x y):=
 ⟨PE.imp (Lu ((Uu K hK).or (Us K hK)) ha.p hb.p) λσ H Q ⟨sr,q⟩=>⟨sr,wa.mono (λx q1 u1 H1 g1 s1 v1=>⟨s1,wb.mono (λy q2 u2 H2 g2 s2 v2=>by
  have XH:=g2.vr s1 v1;cases XH with
  | int i=>
   cases v2 with
   | int j=>exact .inl ⟨_,rfl,q2 _ H2 (g1.trans g2) s2 (.int _)⟩
   | _=>exact q2.elim
  | str i=>
   cases v2 with
   | str j=>exact .inl ⟨_,rfl,q2.1,q2.2 _ H2 (g1.trans g2) s2 (.str _)⟩
   | _=>exact q2.elim
  | @tup p vs l e r=>
   cases v2 with
   | @tup p' Oq l' e' r'=>
    refine .inr ⟨p,p',vs,Oq,rfl,rfl,dR.of e,dR.of e',by rw [r.length,r'.length];exact q2.1,λz=>?_,λ_ z=>?_,λ_ _ q H3 s3 h3 n3=>?_⟩
    ·have z':=(PL.aL.jQ r).mp z;subst z';exact q2.2 _ H2 (g1.trans g2) s2 (.tup e' r')
    ·have z':=(PL.aL.jQ r').mp z;subst z';have q2:=q2.2;rw [Cs] at q2;exact q2 _ H2 (g1.trans g2) s2 (.tup e r)
    ·exact q2.2 _ H3 ((g1.trans g2).trans (dg.same s3)) (s2.same s3) (.tup h3 (aL.tk s3.eR (r.append r')))
   | _=>exact q2.elim
  | _=>exact q2.elim) q1⟩) q⟩⟩
theorem nY:∀(l m:List PV),(pO l m).length=min l.length m.length
 | [],m=>by rw [pO];simp;intros;simp_all
 | x::l,[]=>by rw [pO];simp;intros;simp_all
 | x::l,y::m=>by rw [pO,Ap,nY l m];simp only [Ap];omega
def Mq (l m:List PV):W (List PV):=.fj (l.length<=sizeLine) (.ret (pO l m))
def Wm (h:SqI K H u l):∃(b:Bool) (a:ce) (vs:List V),u=.ref a/\aL K [] H vs l/\∀H',bq K H H'->OA b K H' a vs:=by
 obtain⟨a,vs,e,h | h,r⟩:=h
 ·exact⟨true,a,vs,e,r,λH' t=>(t.f _ _ h).sq⟩
 ·exact⟨false,a,vs,e,r,λH' t=>dR.of (t.t _ _ h)⟩
theorem Q2 (hK:X.K=K) {kk:Nat} (hg:Gl X "zip") (hm:X.mg "zip"=bm) (ha:IF X K fs a wl) (hb:IF X K fs b wm)
  (Io:f8 [a,b] X.env=(false,im a X.env)::f8 [b] X.env:=by rfl) (qx:gM X b []:=by rfl) (dQ:(wP p2 (f8 [b] X.env)).any (·.1)=false:=by rfl) :
  vG X K fs (.Tuple Ð kk tp) (.Call (.Name "zip" p1) [a,b] [] p2) (.bind wl λl=>.bind wm λm=>Mq l m):=
 ⟨PI.imp (T6 K hK hg hm ha.p hb.p Io qx dQ) λσ H R ⟨sr,q⟩=>⟨sr,wl.mono (λl q1 u1 H1 g1 s1 v1=>⟨s1,wm.mono (λm q2 u2 H2 g2 s2 v2=>by
  obtain⟨b1,a1,vs,rfl,r1,x1⟩:=Wm (v1.tk (g2.eS s1));obtain⟨b2,a2,ws,rfl,r2,x2⟩:=Wm v2;have tr:bq K H2 H2:=bq.refl H2;refine⟨b1,b2,a1,a2,rfl,rfl,⟨vs,x1 H2 tr⟩,⟨ws,x2 H2 tr⟩,q2.2 _ H2 (g1.trans g2) s2 ⟨by rw [nY];have:=q2.1;omega,λH' t=>⟨λi pp hp=>?_,vs,ws,x1 H' t,x2 H' t,?_⟩⟩⟩
  ·obtain⟨x,y,hx,hy,rfl⟩:=sH hp;obtain⟨v,h3,h4⟩:=(aL.tk t r1).get hx;obtain⟨v',Rr,ZH⟩:=(aL.tk t r2).get hy;refine⟨⟨vs,ws,v,v',x1 H' t,x2 H' t,h3,Rr⟩,λz H3 yl=>?_⟩;obtain⟨p,x',y',rfl,hn,rfl,e1,e2⟩:=yl;have e1:=e1 vs (x1 H' t);have e2:=e2 ws (x2 H' t);rw [h3] at e1;rw [Rr] at e2;cases e1;cases e2;have sm:=jo hn (.tup [v,v']);exact⟨sm,.tup aU (.cons (VR.tk sm.eR h4) (.cons (VR.tk sm.eR ZH) .nil))⟩
  ·rw [nY,r1.length,r2.length];omega) q1⟩) q⟩⟩
variable {el eh:Option ii}{lo:W (Option Int)}
def MH (x:PV) (i j:Option Int):W PV:=match x with
 | .tup l=>.ret (.tup (rJ l i j))
 | _=>.fail
def NZ {i j:Option Int} (h:HT.d9 l.length 0 i=0/\HT.d9 l.length l.length j=l.length):rJ l i j=l:=by
 unfold rJ;rw [h.1,h.2];simp
def Xc (hK:X.K=K) (he:EF X K fs e w) (hl:OF X K fs el lo) (hh:OF X K fs eh hi):EF X K fs (.Subscript e (.Slice el eh bm p2) pos) (.bind w λx=>.bind lo λi=>.bind hi λj=>MH x i j):=⟨PE.imp (Qb (Tt K hK) he.p hl.p hh.p) λσ H Q ⟨sr,q⟩=>⟨sr,w.mono (λx q1 u1 H1 g1 s1 v1=>⟨s1,lo.mono (λi q2 H2 g2 s2=>⟨s2,hi.mono (λj q3 H3 g3 s3=>by
 have XH:=g3.vr s2 (g2.vr s1 v1);have gg:=(g1.trans g2).trans g3;cases XH with
 | @tup p vs l e r=>
  have Á:=r.length;refine⟨p,vs,rfl,dR.of e,λc=>?_,λc q H4 s4 h4 n4=>?_⟩
  ·rw [Á] at c;have q3:(bd (PV.tup (rJ l i j))).run _:=q3;rw [NZ c] at q3;exact q3 _ H3 gg s3 (.tup e r)
  ·exact q3 _ H4 (gg.trans (dg.same s4)) (s3.same s4) (.tup h4 (aL.tk s4.eR (r.cut i j)))
 | _=>exact q3.elim) q2⟩) q1⟩) q⟩⟩
end
end
end FL
variable {vs:List A3}
namespace L2
open PySem PySem.Spec PyProof.Rows
def aky:List Int->Int
 | []=>0
 | x::l=>l.foldl max x
def qh:List Int->Int
 | []=>0
 | x::l=>l.foldl min x
theorem yL (l:List Int) (x:Int):l.foldl min x<=x/\(∀y∈l,l.foldl min x<=y)/\(l.foldl min x=x\/l.foldl min x∈l):=by
 induction l generalizing x with
 | nil=>exact⟨C9 _,by simp,.inl rfl⟩
 | cons y l ih=>
  obtain⟨h1,h2,h3⟩:=ih (min x y);refine⟨by rw [Dn];omega,λz hz=>?_,?_⟩
  ·rw [Dn];rcases AD.mp hz with rfl | hz
   ·omega
   ·exact h2 z hz
  ·rw [Dn];rcases h3 with h3 | h3
   ·rw [h3];by_cases c:y<=x
    ·right;rw [Int.min_eq_right c];exact .head _
    ·left;omega
   ·exact .inr (.tail _ h3)
def rZ {l:List Int}{x:Int} (h:x∈l):qh l<=x:=by
 cases l with
 | nil=>cases h
 | cons y l=>
  rcases AD.mp h with rfl | h
  ·exact (yL l _).1
  ·exact (yL l y).2.1 x h
def oO {l:List Int} (h:l≠[]):qh l∈l:=by
 cases l with
 | nil=>exact absurd rfl h
 | cons y l=>
  rcases (yL l y).2.2 with e | e
  ·show l.foldl min y∈_;rw [e];exact .head _
  ·exact .tail _ e
def PJ (K:Ab) (C:List Int->Prop) (g:List Int->Int):List V->Hp->VK->Prop:=λxs H Q=>∃(p:ce) (ns:List Int),xs=[.ref p]/\de K H p (ns.map V.int)/\C ns/\Q (.int (g ns)) H
section
theorem LJ {xs:Array (Int×Tok)} (Ip:ns=xs.toList.map (·.1)) (Rg:ns≠[]):numAt xs (argBest (λi j=>decide (numAt xs i < numAt xs j)) (xs.size-1))=qh ns:=by
 have hsz:0 < xs.size:=by
  have h3:0 < ns.length:=CF.mpr Rg;rw [Ip,Af,B3] at h3;exact h3
 obtain⟨h1,h2⟩:=argBest_lt (numAt xs) (xs.size-1);apply Fh
 ·have hm:=oO Rg;rw [Ip] at hm;obtain⟨j,hj,ej⟩:=mem_getD hm;rw [Af,B3] at hj;rw [<- Ip] at ej;rw [<- ej,Ip,<- numAt_eq];exact h2 j ∅
 ·refine rZ ?_;rw [Ip,numAt_eq];exact getD_mem (by rw [Af,B3];omega)
def Nb {l:ce} (hh:A.handled=bm) (hl:s.heap.IsList l vs.toArray) (hi:tz vs ns) (Rg:ns≠[])
  (h:∀(h':mo) (t:Tok) tk,(∀b o,s.heap.get? b=ap o->h'.get? b=ap o)->Q (.int (qh ns) t) {s with heap:=h',toks:=tk}):db (dL prog w) A (call (.builtin "min") [.ref l]) Q E s:=by
 obtain⟨xs,e⟩:=hi.allInts.items;have Ip:ns=xs.toList.map (·.1):=by rw [<- hi.numsOf,<- nums_intItems,<- e]
 have hsz:0 < xs.size:=by
  have h3:0 < ns.length:=CF.mpr Rg;rw [Ip,Af,B3] at h3;exact h3
 rw [e] at hl;refine min_intList hh hl hsz λv h' tk hv hk=>?_;obtain⟨t,rfl⟩:=intItems_at hv;rw [LJ Ip Rg];exact h h' t tk hk
def Mx {l:ce} (hh:A.handled=bm) (hl:s.heap.IsList l vs.toArray) (hi:tz vs ns)
  (h:∀(h':mo) (t:Tok) tk,(∀b o,s.heap.get? b=ap o->h'.get? b=ap o)->Q (.int ns.sum t) {s with heap:=h',toks:=tk}):db (dL prog w) A (call (.builtin "sum") [.ref l]) Q E s:=by
 obtain⟨xs,e⟩:=hi.allInts.items;have Ip:ns=xs.toList.map (·.1):=by rw [<- hi.numsOf,<- nums_intItems,<- e]
 rw [e] at hl;refine sum_intListG hh hl λh' tk t' hk=>?_;have:=h h' t' tk hk;rw [preSum_eq,Dx (by simp),<- Ip];exact this
end
def wO {b:String}{C:List Int->Prop}{g:List Int->Int} (K:Ab) (hK:X.K=K) (hc:X.calm=true)
  (Û:∀{s:cr}{l:ce}{vs:List bn}{ns:List Int}{Q:bn->cr->Prop},X.A.handled=bm->s.heap.IsList l vs.toArray->tz vs ns->C ns->(∀(h':mo) (t:Tok) tk,(∀b o,s.heap.get? b=ap o->h'.get? b=ap o)->Q (.int (g ns) t) {s with heap:=h',toks:=tk})->db (dL X.prog X.w) X.A (call (.builtin b) [.ref l]) Q X.xe s):bS X (.builtin b) (PJ K C g):=by
 subst hK;intro Z s σ H xs us Q I r h;obtain⟨p,ns,rfl,hq,hC,q⟩:=h;obtain⟨u,rfl,rx⟩:=vals1 r;cases rx;obtain⟨au,r',pl,hz⟩:=I.list hq;exact Û (I.ok.hd hc) pl.isList (intsAre_of r') hC λh' t tk hk=>⟨.int _,H,I.kept (t':=tk) hk,⟨t,rfl⟩,q⟩
end L2
variable {x:PL.PV}
namespace FL
section
open PySem PySem.Spec PyProof.Rows L2 PL
variable {K:Ab}
section
open Classical in
noncomputable def J8 (K:Ab) (H:Hp) (x:PV) (w:bn):Bool:=decide (∃p v,RelV v w/\VR K [] H v p/\i6 p x=true)
open Classical in
def RQ (hK:X.K=K) (I:Inv X Z σ H s) {x p:PV}{v:V}{w:bn} (r:RelV v w) (h:VR K [] H v p):J8 K H x w=i6 p x:=by
 subst hK;cases e:i6 p x with
 | true=>exact decide_eq_true ⟨p,v,r,h,e⟩
 | false=>
  refine decide_eq_false ?_;rintro⟨p',v',r',h',e'⟩;have:=Pw r r';subst this;rw [VR.RC I h h',e'] at e;cases e
theorem su (hK:X.K=K) (I:Inv X Z σ H s):∀{vs:List V}{au:List bn}{l:List PV},Vals vs au->aL K [] H vs l->au.map (J8 K H x)=l.map λy=>i6 y x
 | _,_,_,.nil,.nil=>rfl
 | _,_,_,.cons r t,.cons q z=>by rw [Aq,Aq,RQ hK I r q,su hK I t z]
def Hf (x:PV) (l:List PV):Prop:=PV.iL x=true/\fu l=true/\d6 l<=150
theorem qB (hK:X.K=K) (I:Inv X Z σ H s) {v:V}{w:bn} (hx:VR K [] H v x) (rx:RelV v w) (dx:PV.iL x=true) (hu:A.units+150+1 < pc) :
  ∀{vs:List V}{au:List bn}{l:List PV},Vals vs au->aL K [] H vs l->fu l=true->d6 l<=150->∀u∈au,DL A s u w (J8 K H x u)
 | _,_,_,.nil,.nil,_,_,u,hu=>by cases hu
 | _,_,_,.cons r t,.cons q z,d,dd,u,hm=>by
  rw [fu,AO] at d;rw [d6] at dd;rcases AD.mp hm with rfl | hm
  ·rw [RQ hK I r q];exact (Z9 hK I 150 _ x A _ v _ w ∅ d.1 dx q hx r rx hu).eq
  ·exact qB hK I hx rx dx hu t z d.2 ∅ u hm
end
def o8 (x:PV) (l:List PV):Bool:=l.any λy=>i6 y x
def Ym (K:Ab) (neg:Bool):R2:=λx y H Q=>∃p vs l xp,y=.ref p/\(de K H p vs\/dR K H p vs)/\aL K [] H vs l/\VR K [] H x xp/\Hf xp l/\Q (.bl (if neg then !o8 xp l else o8 xp l)) H
section
theorem any_map' (f:α->Bool):∀l:List α,l.any f=(l.map f).any id
 | []=>rfl
 | x::l=>by rw [BM,Aq,BM,any_map' f l];rfl
theorem Qh (K:Ab) (hK:X.K=K) (hu:X.A.units+200 < pc):je X (nw .In) (Ym K false):=by
 intro Z s σ H x y v u Q I rx ry h;obtain⟨p,vs,l,xp,rfl,hq,hl,hx,ok,q⟩:=h;cases ry;have SO:X.A.in1.units+150+1 < pc:=by show X.A.units+1+150+1 < _;omega
 have fin:∀{au:List bn},Vals vs au->au.toArray.any (J8 K H xp)=o8 xp l:=λ{au} r=>by
  rw [show au.toArray.any (J8 K H xp)=au.any (J8 K H xp) by simp,any_map',su hK I r hl,<- any_map'];rfl
 rcases hq with hq | hq
 ·obtain⟨au,r,pl,hz⟩:=I.list (show de X.K H p vs by rw [hK];exact hq);refine SeqAt.in_listAt (J8 K H xp) pl.isList (λw hw=>qB hK I hx rx ok.1 SO r hl ok.2.1 ok.2.2 w (by simpa using hw)) ⟨.bl _,H,I,rfl,?_⟩;rw [fin r];exact q
 ·obtain⟨au,r,pl,hz⟩:=I.tuple (show dR X.K H p vs by rw [hK];exact hq);refine SeqAt.in_tupleAt (J8 K H xp) pl (λw hw=>qB hK I hx rx ok.1 SO r hl ok.2.1 ok.2.2 w (by simpa using hw)) ⟨.bl _,H,I,rfl,?_⟩;rw [fin r];exact q
theorem Up (K:Ab) (hK:X.K=K) (hu:X.A.units+200 < pc):je X (nw .NotIn) (Ym K true):=by
 intro Z s σ H x y v u Q I rx ry h;obtain⟨p,vs,l,xp,rfl,hq,hl,hx,ok,q⟩:=h;cases ry;have SO:X.A.in1.units+150+1 < pc:=by show X.A.units+1+150+1 < _;omega
 have fin:∀{au:List bn},Vals vs au->au.toArray.any (J8 K H xp)=o8 xp l:=λ{au} r=>by
  rw [show au.toArray.any (J8 K H xp)=au.any (J8 K H xp) by simp,any_map',su hK I r hl,<- any_map'];rfl
 rcases hq with hq | hq
 ·obtain⟨au,r,pl,hz⟩:=I.list (show de X.K H p vs by rw [hK];exact hq);refine SeqAt.notIn_listAt (J8 K H xp) pl.isList (λw hw=>qB hK I hx rx ok.1 SO r hl ok.2.1 ok.2.2 w (by simpa using hw)) ⟨.bl _,H,I,rfl,?_⟩;rw [fin r];exact q
 ·obtain⟨au,r,pl,hz⟩:=I.tuple (show dR X.K H p vs by rw [hK];exact hq);refine SeqAt.notIn_tupleAt (J8 K H xp) pl (λw hw=>qB hK I hx rx ok.1 SO r hl ok.2.1 ok.2.2 w (by simpa using hw)) ⟨.bl _,H,I,rfl,?_⟩;rw [fin r];exact q
def Hg (x:PV) (l:List PV):Nat:=l.findIdx λy=>i6 y x
def abY (K:Ab):V->List V->Hp->VK->Prop:=λx us H Q=>∃p vs l y q,x=.ref p/\us=[y]/\de K H p vs/\aL K [] H vs l/\VR K [] H y q/\Hf q l/\o8 q l=true/\Q (.int (Hg q l)) H
theorem UG (K:Ab) (hK:X.K=K) (hu:X.A.units+200 < pc):KU X "list.index" (abY K):=by
 intro Z s σ H x vs v us Q I rx rv h;obtain⟨p,ws,l,y,q,rfl,rfl,hq,hl,hy,ok,has,qq⟩:=h;cases rx;obtain⟨u,rfl,ru⟩:=rv.one;have SO:X.A.in1.units+150+1 < pc:=by show X.A.units+1+150+1 < _;omega
 obtain⟨au,r,⟨⟨cls,dd,data,sl⟩,n,ho,hc,hd,lz⟩,hz⟩:=I.list (show de X.K H p ws by rw [hK];exact hq);simp only at hc hd lz;subst hc hd lz;have em:=su (x:=q) hK I r hl;have Á:au.length=l.length:=by rw [<- r.length,hl.length]
 have ff:Hg q l < l.length:=List.findIdx_lt_length_of_exists (by simpa [o8] using has);have at':∀(j:Nat) (h1:j < au.length) (h2:j < l.length),J8 K H q au[j]=i6 l[j] q:=λj h1 h2=>by
  have e:=congrArg (λz=>z[j]?) em;simp only [Ak,Ae h1,Ae h2,Cr] at e;exact Option.some.inj e
 have WZ:((Hg q l:Nat):Int) < 2 ^ 63-1:=by
  have h8:l.length<=sizeLine:=by rw [<- hl.length];exact hz
  have h9:(sizeLine:Int) < 2 ^ 63-1:=by decide
  omega
 refine sB F.slot_list_index ⟨_,ho,rfl⟩ F.entry_list_index (F.args_list_index_2 _ _) (SeqAt.list_indexAt p au.toArray n bm sl u (J8 K H q) (Hg q l) (by rw [Ai];omega) WZ ?_ ?_) ⟨ho,?_,?_⟩
 ·have h1:Hg q l < au.length:=by omega
  rw [show au.toArray[Hg q l]'(by rw [Ai];omega)=au[Hg q l] by simp,at' _ h1 ff];exact List.findIdx_getElem (w:=ff)
 ·intro m hm hmj;have h1:m < au.length:=by rw [Ai] at hm;exact hm
  rw [show au.toArray[m]=au[m] by simp,at' _ h1 ∅];have:=List.not_of_lt_findIdx (p:=λy=>i6 y q) (xs:=l) hmj;simpa using this
 ·intro w hw;exact qB hK I hy ru ok.1 SO r hl ok.2.1 ok.2.2 w (by simpa using hw)
 ·exact⟨.int _,H,I.tok _,⟨_,rfl⟩,qq⟩
end
end
end FL
namespace L2
open PySem PySem.Spec PyProof.Rows
theorem Gw (xs:List bn):∀k≤xs.length,((Aw k).filterMap λ(m:Nat)=>xs.toArray[(((xs.length:Int)-1)+(m:Int)*(-1)).toNat]?)=(xs.drop (xs.length-k)).reverse
 | 0,_=>by simp
 | k+1,h=>by
  have ih:=Gw xs k ∅;rw [D8,List.filterMap_append,ih];have e:(((xs.length:Int)-1)+(k:Int)*(-1)).toNat=xs.length-(k+1):=by omega
  have h1:xs.length-(k+1) < xs.length:=by omega
  simp only [Ba,List.filterMap_nil,e];have e2:xs.toArray[xs.length-(k+1)]?=ap xs[xs.length-(k+1)]:=by simp [h1]
  rw [e2];have e3:xs.drop (xs.length-(k+1))=xs[xs.length-(k+1)]::xs.drop (xs.length-k):=by
   rw [Bp h1];congr 2;omega
  rw [e3,C4]
section
variable {st:ii}{tl th ts:TO}{lo hi:Option ii}
def abm (K:Ab) (te:TE) (tl th ts:TO):TE:=λσ H Q=>te σ H λx H1=>tl σ H1 λl H2=>th σ H2 λu H3=>ts σ H3 λs H4=>∃a xs,x=.ref a/\dR K H4 a xs/\l=bm/\u=bm/\s=ap (-1)/\kJ H4 (.tup xs.reverse) Q
theorem Ud (K:Ab) (hK:X.K=K) (he:PE X e te) (hl:PO X lo tl) (hu:PO X hi th) (hs:PO X (ap st) ts):PE X (.Subscript e (.Slice lo hi (ap st) p2) pos) (abm K te tl th ts):=by
 subst hK;intro Z s σ H Q I h;refine Subscript_ (cq (he Z s σ H _ I h) λv s1 ⟨x,H1,I1,r1,q1⟩=>?_);refine wpAny_Slice (cq (hl Z s1 σ H1 _ I1 q1) λvl s2 ⟨l,H2,I2,pl,q2⟩=>cq (hu Z s2 σ H2 _ I2 q2) λvu s3 ⟨u,H3,I3,pu,q3⟩=>cq (hs Z s3 σ H3 _ I3 q3) λvs s4 ⟨c,H4,I4,ps,a,xs,ea,hx,el,eu,ec,q⟩=>?_);subst ea;subst el;subst eu;subst ec;cases r1;cases pl;cases pu;cases ps with
 | int i t=>
 have I5:Inv X Z σ H4 {s4 with heap:=s4.heap.push {cls:=.type "slice",data:=.fields #[.none,.none,.int (-1) t]}}:=I4.kept (t':=s4.toks) λb ob q=>Ag _ q;obtain⟨au,r,ht,hz⟩:=I5.tuple hx;have Á:=r.length;refine tail_any (ops:=[.ref a,.ref s4.heap.objs.size]) ht.typeIs AQ.lookup ?_ (by with_unfolding_all rfl);have hs:Fp {s4 with heap:=s4.heap.push {cls:=.type "slice",data:=.fields #[.none,.none,.int (-1) t]}}.heap s4.heap.objs.size .none .none (.int (-1) t):=Fp.new ..;generalize {s4 with heap:=s4.heap.push {cls:=.type "slice",data:=.fields #[.none,.none,.int (-1) t]}}=s5 at I5 ht hs;obtain⟨os,Ow,ì,Vn⟩:=id hs;have Ċ:s5.TypeIs (.ref s4.heap.objs.size) "slice":=⟨os,Ow,ì⟩;unfold Db
 try with_reducible refine Bd ?_
 first | refine Aa (Ad ?_) | skip
 refine Aa (EJ ht.typeIs ⋯ ?_);refine Aa (AN (name:=BB "__getitem__") ht.typeIs AQ
  (A1 AQ ht.typeIs entry_tuple_getitem ?_ (args_tuple_getitem _ _)))
 show db _ _ (Builtin.Tuple.tupleItemsOf (.ref a) >>= _) _ _ s5;refine Aa (tupleItemsOf_ ht ?_);refine Aa (CO Ċ ?_);rw [if_pos ⋯];have app:∀{Q:Int×Int×Nat->cr->Prop}{E:bn->cr->Prop}{A:o0} (n:Nat),Q ((n:Int)-1,-1,n) s5->db (dL X.prog X.w) A (Builtin.Slice.sliceApplied (.ref s4.heap.objs.size) (pure (n:Int))) Q E s5:=λ{Q E A} n hq=>by
  unfold Builtin.Slice.sliceApplied Builtin.Slice.sliceFields;refine Aa (Aa (AZ Ow Vn (x:=.none) rfl (Aa (AZ Ow Vn (x:=.none) rfl (Aa (AZ Ow Vn (x:=.int (-1) t) rfl (Ad ?_)))))));refine Aa (HT.gR (.int (-1) t) ?_);show db _ _ (if (((-1:Int))==0)=true then _ else _) _ _ s5;rw [if_neg ⋯];refine Aa (HT.gR .none (Aa (HT.gR .none (Aa (Ad ?_)))));show db _ _ (match Builtin.Slice.sliceAdjust bm bm (-1) (n:Int) with | (lo,hi)=>pure (lo,(-1:Int),Builtin.Slice.slicePlaces lo hi (-1))) _ _ s5;have e1:Builtin.Slice.sliceAdjust bm bm (-1) (n:Int)=((n:Int)-1,-1):=by unfold Builtin.Slice.sliceAdjust;simp
  rw [e1];have e2:Builtin.Slice.slicePlaces ((n:Int)-1) (-1) (-1)=n:=by
   unfold Builtin.Slice.slicePlaces;rw [if_neg ⋯];by_cases h0:(n:Int)-1 > -1
   ·rw [if_pos h0];show (((n:Int)-1 - -1-1) / 1+1).toNat=n;rw [Int.ediv_one];omega
   ·rw [if_neg h0];show (0:Int).toNat=n;omega
  show db _ _ (pure ((n:Int)-1,(-1:Int),Builtin.Slice.slicePlaces ((n:Int)-1) (-1) (-1))) _ _ s5;rw [e2];exact Ad hq
 refine Aa (app au.toArray.size ?_);show db _ _ (if (((au.toArray.size:Int)-1)==0&&(-1:Int)==1&&au.toArray.size==au.toArray.size)=true then _ else _) _ _ s5;rw [if_neg (by simp)];have hp:=Gw au au.length (Am _);rw [CP,List.drop_zero] at hp;have Ľ:((Aw au.toArray.size).filterMap λ(m:Nat)=>au.toArray[(((au.toArray.size:Int)-1)+(m:Int)*(-1)).toNat]?).toArray=au.reverse.toArray:=by
  rw [Ai,hp]
 rw [Ľ];have hsz:sizeOk (.seq au.reverse.toArray):=by
  show au.reverse.toArray.size<=sizeLine;rw [Ai,Cj];omega
 have fin:EP X Z σ Q (.ref s5.heap.objs.size) {s5 with heap:=s5.heap.push {cls:=.type "tuple",data:=.seq au.reverse.toArray}}:=
  ⟨.ref s5.heap.objs.size,_,I5.laid (t':=s5.toks) (o:=.tup xs.reverse) (λb ob q=>Ag _ q) (Am _) ⟨by rw [Cj];exact hz,_,r.tj,FD _ _⟩,rfl,q.at _ (I5.bC.fresh (Am _))⟩
 first
  | exact Aa (m:=Builtin.Tuple.tupleExact _) (AE (Ad ⟨_,rfl,Ad fin⟩) hsz)
  | exact Aa (m:=Builtin.Tuple.tupleExact _) (AE (Aa (Ad (Ad ⟨_,rfl,Ad fin⟩))) hsz)
  | exact Aa (Aa (m:=Builtin.Tuple.tupleExact _) (AE (Ad (Ad ⟨_,rfl,Ad fin⟩)) hsz))
  | exact Aa (Aa (m:=Builtin.Tuple.tupleExact _) (AE (Ad ⟨_,rfl,Ad fin⟩) hsz))
end
end L2
variable {Q:PL.PV->Prop}
namespace FL
section
open PySem PySem.Spec PyProof.Rows L2 PL
variable {K:Ab}
section
variable {a c:ii}{w:W PV}
def rC (neg:Bool) (x:PV) (l:List PV):W Bool:=.fj (Hf x l) (.ret (if neg then !o8 x l else o8 x l))
def RJ:∀σ H Q,fT K fs (.bind wa λx=>.bind wl λl=>rC neg x l) σ H Q->XT (Ym K neg) (fE K fs wa) (fQ K fs wl) σ H λx H'=>∃k,x=.bl k/\Q k H':=λσ H Q ⟨sr,q⟩=>
 ⟨sr,wa.mono (λx q1 u1 H1 g1 s1 v1=>⟨s1,wl.mono (λl q2 u2 H2 g2 s2 v2=>by
  obtain⟨ad,vs,rfl,h,rs⟩:=v2.sq s2;exact⟨ad,vs,l,x,rfl,h,rs,g2.vr s1 v1,q2.1,_,rfl,q2.2 H2 (g1.trans g2) s2⟩) q1⟩) q⟩
def abi (hK:X.K=K) (hu:X.A.units+200 < pc) (ha:EF X K fs a wa) (hb:QF X K fs b wl) (hk:re .In b=false:=by rfl):TF X K fs (.Compare a [.In] [b] pos) (.bind wa λx=>.bind wl λl=>rC false x l):=⟨PT.imp (oC (Qh K hK hu) ha.p hb.p hk) (RJ (neg:=false))⟩
def xl (hK:X.K=K) (hu:X.A.units+200 < pc) (ha:EF X K fs a wa) (hb:QF X K fs b wl) (hk:re .NotIn b=false:=by rfl):TF X K fs (.Compare a [.NotIn] [b] pos) (.bind wa λx=>.bind wl λl=>rC true x l):=⟨PT.imp (oC (Up K hK hu) ha.p hb.p hk) (RJ (neg:=true))⟩
abbrev Q7 (neg:Bool) (wa:W PV) (wl:W (List PV)):W Bool:=.bind wa λx=>.bind wl λl=>rC neg x l
def GP (l:List PV):W PV:=.bind (mX l) λns=>.fj (ns≠[]) (.ret (.int (qh ns)))
def kR (l:List PV):W PV:=.bind (mX l) λns=>.ret (.int ns.sum)
def wq {C:List Int->Prop}{g:List Int->Int}{f:List PV->W PV} (hf:∀{l:List PV}{Q:PV->Prop},(f l).run Q->∃ns:List Int,l=ns.map PV.int/\C ns/\Q (.int (g ns))):∀σ H Q,fE K fs (.bind wl f) σ H Q->tCB (PJ K C g) (Wk (fQL K fs wl) abo) σ H Q:=λσ H Q ⟨sr,q⟩=>⟨sr,wl.mono (λl q1 u1 H1 g1 s1 _ v1=>by
 obtain⟨ns,el,hC,q2⟩:=hf q1;obtain⟨a,vs,rfl,h1,r1⟩:=v1 H1 .refl s1;rw [el] at r1;have:=jW r1;subst this;exact⟨a,ns,rfl,h1,hC,q2 _ H1 g1 s1 (.int _)⟩) q⟩
def Nd (h:(GP l).run Q):∃ns:List Int,l=ns.map PV.int/\ns≠[]/\Q (.int (qh ns)):=let ⟨ns,e,q⟩:=gJ h;⟨ns,e,q.1,q.2⟩
def Mz (h:(kR l).run Q):∃ns:List Int,l=ns.map PV.int/\True/\Q (.int ns.sum):=let ⟨ns,e,q⟩:=gJ h;⟨ns,e,trivial,q⟩
def ZY (hK:X.K=K) (hc:X.calm=true) (hg:Gl X "min") (hm:X.mg "min"=bm) (ha:Ih X K fs e wl) (he:gM X e []:=by rfl) (dQ:kL X pos []:=by rfl):EF X K fs (.Call (.Name "min" p) [e] [] pos) (.bind wl GP):=⟨PE.imp (eU (wO (C:=λns=>ns≠[]) (g:=qh) K hK hc λa b c d q=>Nb a b c d q) hg hm boot_min (aY ha.p bZ he) ⋯ ⋯ he dQ) (wq Nd)⟩
def Kb (hK:X.K=K) (hc:X.calm=true) (hg:Gl X "sum") (hm:X.mg "sum"=bm) (ha:Ih X K fs e wl) (he:gM X e []:=by rfl) (dQ:kL X pos []:=by rfl):EF X K fs (.Call (.Name "sum" p) [e] [] pos) (.bind wl kR):=⟨PE.imp (eU (wO (C:=λ_=>True) (g:=λns=>ns.sum) K hK hc λa b c _ q=>Mx a b c q) hg hm (show lw "sum"=ap (.builtin "sum") by rfl) (aY ha.p bZ he) ⋯ ⋯ he dQ) (wq Mz)⟩
def sortI (ns:List Int):List Int:=ns.mergeSort (λa b=>decide (a<=b))
theorem Ph (h1:ms.Perm ns) (h2:ms.Pairwise (·<=·)):ms=sortI ns:=by
 have h3:(sortI ns).Perm ns:=Dg ns _;have h4:(sortI ns).Pairwise (λa b=>decide (a<=b)=true):=EZ (λa b c=>by simp;omega) (λa b=>by simp;omega) ns;exact List.Perm.eq_of_pairwise (le:=λa b=>a<=b) (λa b _ _ h h'=>Fh h h') h2 (h4.imp (by simp)) (h1.trans h3.symm)
def xq (l:List PV):W (List PV):=.bind (mX l) λns=>.fj (ns.length < 64) (.ret ((sortI ns).map PV.int))
def UW (hK:X.K=K) (hg:Gl X "sorted") (hm:X.mg "sorted"=bm) (ha:Ih X K fs e wl) (he:gM X e []:=by rfl) (dQ:kL X pos []:=by rfl):LF X K fs (.Call (.Name "sorted" p) [e] [] pos) (.bind wl xq):=⟨PE.imp (eU (Kt K hK) hg hm boot_sorted (aY ha.p bZ he) ⋯ ⋯ he dQ) λσ H Q ⟨sr,q⟩=>⟨sr,wl.mono (λl q1 u1 H1 g1 s1 _ v1=>by
 obtain⟨ns,el,hC,q2⟩:=gJ (l:=l) q1;obtain⟨a,vs,rfl,h1,r1⟩:=v1 H1 .refl s1;rw [el] at r1;have:=jW r1;subst this;refine⟨a,ns,rfl,h1,hC,λms a2 a3=>?_⟩;rw [Ph a2 a3];exact GJ g1 s1 (o5 _ _ _) q2) q⟩⟩
def ND (l:List PV) (x:PV):W PV:=.fj (Hf x l/\o8 x l=true) (.ret (.int (Hg x l)))
def VI (hK:X.K=K) (hu:X.A.units+200 < pc) (ho:Ih X K fs o wl) (he:EF X K fs e w)
  (c6:kw o "index" X.env (im o X.env)=im o X.env:=by rfl)
  (nv:Xr X bg [e]:=by rfl)
  (cZ:Oo Â bg:=by rfl) (o6:gM X e []:=by rfl) (eI:kL X bg []:=by rfl) :
  EF X K fs (.Call (.Attribute o "index" Â) [e] [] bg) (.bind wl λl=>.bind w λx=>ND l x):=
 ⟨PE.imp (qe K hK BQ PySem.F.slot_list_index PySem.F.type_list_index (UG K hK hu) ho.p (aY he.p bZ o6) c6 nv cZ o6 eI) λσ H Q ⟨sr,q⟩=>⟨sr,wl.mono (λl q1 u1 H1 g1 s1 _ v1=>by
  obtain⟨a,vs,eu,h1,_⟩:=v1 H1 .refl s1;subst eu;refine⟨.inl ⟨rfl,_,h1⟩,s1,w.mono (λx q2 u2 H2 g2 s2 v2=>?_) q1⟩
  ·obtain⟨a',vs,ea,h2,r2⟩:=v1 H2 g2 s2;cases ea;exact⟨a,vs,l,u2,x,rfl,rfl,h2,r2,v2,q2.1.1,q2.1.2,q2.2 _ H2 (g1.trans g2) s2 (.int _)⟩) q⟩⟩
variable {el eh:Option ii}{st:ii}{lo ws:W (Option Int)}
def Pl (x:PV) (i j k:Option Int):W PV:=match x with
 | .tup l=>.fj (i=bm/\j=bm/\k=ap (-1)) (.ret (.tup l.reverse))
 | _=>.fail
def ZX (hK:X.K=K) (he:EF X K fs e w) (hl:OF X K fs el lo) (hh:OF X K fs eh hi) (hs:OF X K fs (ap st) ws):EF X K fs (.Subscript e (.Slice el eh (ap st) p2) pos) (.bind w λx=>.bind lo λi=>.bind hi λj=>.bind ws λk=>Pl x i j k):=⟨PE.imp (Ud K hK he.p hl.p hh.p hs.p) λσ H Q ⟨sr,q⟩=>⟨sr,w.mono (λx q1 u1 H1 g1 s1 v1=>⟨s1,lo.mono (λi q2 H2 g2 s2=>⟨s2,hi.mono (λj q3 H3 g3 s3=>⟨s3,ws.mono (λk q4 H4 g4 s4=>by
 have XH:=g4.vr s3 (g3.vr s2 (g2.vr s1 v1));have gg:=((g1.trans g2).trans g3).trans g4;cases XH with
 | @tup p vs l e r=>
  have q4:(W.fj (i=bm/\j=bm/\k=ap (-1)) (bd (PV.tup l.reverse))).run _:=q4;exact⟨p,vs,rfl,dR.of e,q4.1.1,q4.1.2.1,q4.1.2.2,λq H5 s5 h5 n5=>q4.2 _ H5 (gg.trans (dg.same s5)) (s4.same s5) (.tup h5 (aL.tk s5.eR r.reverse))⟩
 | _=>exact q4.elim) q3⟩) q2⟩) q1⟩) q⟩⟩
end
end
section
open PySem PySem.Spec PyProof.Rows L2 PL
variable {K:Ab}
section
variable {rest:List v4}{T:Type}{out:T->End}{x:Bool}
def akO (l:List PV):PV->W PV
 | .int k=>.fj (0<=k/\k < 1000) (.Im l[k.toNat]?)
 | _=>.fail
def Ye (l:List PV) (v:PV):W (List PV):=match v with
 | .int k=>.bind (mX l) λns=>.fj (k∈ns) (.ret ((ns.erase k).map PV.int))
 | _=>.fail
theorem SF.remove (i:Nat) {k:List PV->W T} (hs:fs[i]?=ap (ap (.ol q0 l))) (hK:X.K=K) (hN:X.N[i]?=ap y) (hv:zM X.env.scope y) (he:EF X K fs e we) (hr:∀l',SF X K x (fs.set i (ap (.ol q0 l'))) rest (k l') out)
  (hd:jg y:=by decide) (jB:Ij y:=by decide) (c6:kw (.Name y p) "remove" X.env (im (.Name y p) X.env)=im (.Name y p) X.env:=by rfl)
  (nv:Xr X bg [e]:=by rfl)
  (cZ:Oo Â bg:=by rfl) (o6:gM X e []:=by rfl) (eI:kL X bg []:=by rfl)
  (vm:lm (.Call (.Attribute (.Name y p) "remove" Â) [e] [] bg) bm pos.line X.env=pure false:=by rfl) :
  SF X K x fs (.Expr (.Call (.Attribute (.Name y p) "remove" Â) [e] [] bg) pos::rest) (.bind we λv=>.bind (Ye l v) k) out:=
 SF.step (rT (qe K hK BQ PySem.F.slot_list_remove PySem.F.type_list_remove Ji (eE hN hv hd jB) (aY he.p bZ o6) c6 nv cZ o6 eI) vm) λD σ H ⟨sr,q⟩=>by
  obtain⟨a,ws,e1,h1,r1⟩:=eF sr hs;refine⟨_,e1,.inl ⟨rfl,_,de.of h1⟩,sr,we.mono (λv q1 u H1 g1 s1 v1=>?_) q⟩;obtain⟨a',sL,rH,ib,u7⟩:=eF s1 hs;rw [e1] at rH;cases rH;cases v1 with
  | int kk=>
   obtain⟨ns,el,hk,q2⟩:=gJ (l:=l) q1;subst el;have:=jW u7;subst this;refine⟨a,ns,kk,rfl,rfl,ib,hk,λH2 sx h2=>?_⟩;obtain⟨s2,g2⟩:=oE s1 hs e1 sx h2 (o5 _ _ (ns.erase kk));exact⟨_,k _,hr _,s2,(k _).mono (λt q3=>q3.go (g1.f.trans g2) sr s2) q2⟩
  | _=>exact q1.elim
end
end
end FL
variable {vs:List (L2.Key×L2.V)}{kvs:List (L2.Key×PL.PV)}
namespace FL
section
open PySem PySem.Spec PyProof.Rows L2 PL
variable {K:Ab}
abbrev w2 (f:PV->PV->W PV) (wa wb:W PV):W PV:=.bind wa λx=>.bind wb λy=>f x y
def ahB (kvs:List (Key×PV)) (k:Key):Bool:=kvs.any λkv=>decide (kv.1=k)
def rD (kvs:List (Key×PV)) (k:Key):Option PV:=(kvs.find? λkv=>decide (kv.1=k)).map (·.2)
def jc (K:Ab) (H:Hp) (vs:List (Key×V)) (kvs:List (Key×PV)):Prop:=vs.map (·.1)=kvs.map (·.1)/\aL K [] H (vs.map (·.2)) (kvs.map (·.2))
section
def jc.cons_inv {p:Key×V}{q:Key×PV} (h:jc K H (p::vs) (q::kvs)):p.1=q.1/\VR K [] H p.2 q.2/\jc K H vs kvs:=by
 obtain⟨h1,h2⟩:=h;injection h1 with a b;cases h2 with
 | cons r t=>exact⟨a,r,b,t⟩
theorem jc.ind {C:List (Key×V)->List (Key×PV)->Prop} (h0:C [] []) (h1:∀p q vs kvs,p.1=q.1->VR K [] H p.2 q.2->jc K H vs kvs->C vs kvs->C (p::vs) (q::kvs)):∀{vs kvs},jc K H vs kvs->C vs kvs
 | [],[],_=>h0
 | [],_::_,h=>by simp [jc] at h
 | _::_,[],h=>by simp [jc] at h
 | p::vs,q::kvs,h=>let ⟨a,b,c⟩:=h.cons_inv;h1 p q vs kvs a b c (jc.ind h0 h1 c)
def jc.has (h:jc K H vs kvs) (k:Key):(iT vs k).isSome=ahB kvs k:=by
 rw [<- sP];refine jc.ind (C:=λvs kvs=>(vs.any λkv=>decide (kv.1=k))=kvs.any λkv=>decide (kv.1=k)) rfl (λp q vs kvs e _ _ ih=>?_) h;rw [BM,BM,ih,e]
def jc.get (h:jc K H vs kvs) (k:Key) (g:rD kvs k=ap v):∃u,iT vs k=ap u/\VR K [] H u v:=by
 refine jc.ind (C:=λvs kvs=>rD kvs k=ap v->∃u,iT vs k=ap u/\VR K [] H u v) (λg=>by simp [rD] at g) (λp q vs kvs e r _ ih g=>?_) h g;by_cases c:p.1=k
 ·rw [kM c];have c':=e▸c;have:rD (q::kvs) k=ap q.2:=by simp [rD,Bl,c']
  rw [this] at g;cases g;exact⟨_,rfl,r⟩
 ·rw [kN c];have c':=e▸c;have:rD (q::kvs) k=rD kvs k:=by simp [rD,Bl,c']
  exact ih (this▸g)
end
end
end FL
variable {kvs:List (List L2.Key×PL.PV)}
namespace FL
section
open PySem PySem.Spec PyProof.Rows L2 PL
variable {K:Ab}
def bV (K:Ab) (H:Hp) (vs:List (List Key×V)) (kvs:List (List Key×PV)):Prop:=vs.map (·.1)=kvs.map (·.1)/\aL K [] H (vs.map (·.2)) (kvs.map (·.2))
def Wg (K:Ab) (H:Hp) (ob:HO) (v:PV):Prop:=(∃vs kvs,ob=.dK vs/\v=dvK kvs/\jc K H vs kvs)\/∃vs kvs,ob=.dT vs/\v=R6 kvs/\bV K H vs kvs
def fDv (K:Ab) (fs:bj) (w:W PV):TE:=λσ H Q=>aX K H σ fs/\w.run λv=>∀a ob H',dg σ fs H H'->aX K H' σ fs->H a=bm->H' a=ap ob->Wg K H' ob v->Q (.ref a) H'
structure DVF (X:Cx) (K:Ab) (fs:bj) (e:ii) (w:W PV):Prop where p:PE X e (fDv K fs w)
section
variable {σ:L2.St}{fs:bj}{H:Hp}{a:ce}{ob:HO}{v:PV}
def aX.abE (s:aX K H σ fs) (n:¬d8 σ fs a) (e:H a=ap ob) (n1:∀vs,ob≠.tup vs) (n2:∀o u,ob≠.cV o u) (o':HO):aX K (upd H a o') σ fs:=⟨s.len,λi t q=>by
 obtain⟨u,h1,h2⟩:=s.at' i t q;exact⟨u,h1,h2.mono (gP o' e n1 n2) (λx b o eb ow hb z=>by subst eb;rw [ax (λy:b=a=>n ⟨i,t,x,q,ow,h1,y▸hb⟩)];exact z)⟩,s.nd⟩
def Wg.cV {X:Cx}{Z:List (ce×Obj)}{s:cr}{σ':L2.St} (I:Inv X Z σ' H s) (e:H a=ap ob) (d:Wg K H ob v):∃u,Inv X Z σ' (upd H a u) s/\VR K [] (upd H a u) (.ref a) v/\(∀vs,ob≠.tup vs)/\∀o u,ob≠.cV o u:=by
 rcases d with⟨vs,kvs,rfl,rfl,d1,d2⟩ | ⟨vs,kvs,rfl,rfl,d1,d2⟩
 ·obtain⟨o,I2⟩:=I.LX e;exact⟨_,I2,.dk aU (WN d1) (aL.tk (gP _ e (by simp) (by simp)) d2),by simp,by simp⟩
 ·obtain⟨o,I2⟩:=I.freeze e;exact⟨_,I2,.dt aU (WM d1) (aL.tk (gP _ e (by simp) (by simp)) d2),by simp,by simp⟩
end
section
variable {a c:ii}{w:W PV}
def ah3 (h:DVF X K fs e w):EF X K fs e w:=⟨λZ s σ H Q I ⟨sr,q⟩=>by
 refine cq (h.p Z s σ H (λu H1=>∃a ob v,u=.ref a/\dg σ fs H H1/\aX K H1 σ fs/\H a=bm/\H1 a=ap ob/\Wg K H1 ob v/\∀u H',dg σ fs H H'->aX K H' σ fs->VR K [] H' u v->Q u H') I ⟨sr,w.mono (λv q1 a ob H1 g1 s1 n e d=>⟨a,ob,v,rfl,g1,s1,n,e,d,q1⟩) q⟩) λu s1 ⟨v,H1,I1,r1,a,ob,v',e,g1,X9,n,ea,d,q1⟩=>?_;subst e;obtain⟨o',I2,vr,n1,n2⟩:=d.cV I1 ea;exact⟨.ref a,_,I2,r1,q1 _ _ (g1.side n _) (X9.abE (λz=>sr.noOwn n z) ea n1 n2 _) vr⟩⟩
def Lx (kv:List Key×PV):PV:=.tup [.tup (kv.1.map kP),kv.2]
theorem QT (H:Hp):∀k:List Key,aL K [] H (k.map kV) (k.map kP)
 | []=>.nil
 | .inl i::k=>.cons (.int i) (QT H k)
 | .inr i::k=>.cons (.str i) (QT H k)
theorem He:∀{k:List Key}{vs:List V},aL K [] H vs (k.map kP)->vs=k.map kV
 | [],_,h=>by cases h;rfl
 | .inl i::k,_,h=>by
  cases h with
  | cons x t=>cases x;rw [He t];rfl
 | .inr i::k,_,h=>by
  cases h with
  | cons x t=>cases x;rw [He t];rfl
theorem Gy:∀{kvs:List (List Key×PV)}{vs:List V},aL K [] H vs (kvs.map Lx)->∃zs:List Pz,vs=zs.map (λz=>V.ref z.pa)/\(∀z∈zs,z.At H)/\zs.map (·.k)=kvs.map (·.1)/\aL K [] H (zs.map (·.v)) (kvs.map (·.2))
 | [],_,h=>by cases h;exact⟨[],rfl,by simp,rfl,.nil⟩
 | kv::kvs,_,h=>by
  cases h with
  | cons x t=>
  obtain⟨zs,z1,z2,z3,z4⟩:=Gy t;cases x with
  | @tup p ws _ e r=>
  cases r with
  | cons x1 t1=>
  cases t1 with
  | cons x2 t2=>
  cases t2;cases x1 with
  | @tup b us _ e1 r1=>
  have:=He r1;subst this;refine⟨⟨p,kv.1,b,_⟩::zs,by rw [Aq,z1],λz hz=>?_,by rw [Aq,Aq,z3],.cons x2 z4⟩;rcases AD.mp hz with rfl | hz
  ·exact⟨e,e1⟩
  ·exact z2 z hz
def Ko (l:List PV):W PV:=⟨λQ=>∃kvs:List (List Key×PV),l=kvs.map Lx/\(kvs.map (·.1)).Nodup/\kvs.length<=1000/\Q (R6 kvs),λf q=>q.imp λkvs h=>⟨h.1,h.2.1,h.2.2.1,f _ h.2.2.2⟩⟩
theorem VT (hK:X.K=K) (hc:X.calm=true) (hu:X.A.units+200 < pc) (hg:Gl X "dict") (hm:X.mg "dict"=bm) (ha:Ih X K fs e wl) (he:gM X e []:=by rfl) (dQ:kL X pos []:=by rfl) :
  DVF X K fs (.Call (.Name "dict" p) [e] [] pos) (.bind wl Ko):=⟨PE.imp (lY (Kx K hK hc ∅) hg hm boot_dict (aY ha.p bZ he) ⋯ ⋯ he dQ) λσ H Q ⟨sr,q⟩=>⟨sr,wl.mono (λl q1 u H1 g1 s1 v0 v1=>by
  obtain⟨kvs,rfl,nd,hl,q1⟩:=q1;obtain⟨a,vs,rfl,e3,e4⟩:=v1 H1 .refl s1;obtain⟨zs,rfl,z2,z3,z4⟩:=Gy e4;have hzl:zs.length=kvs.length:=by have:=congrArg BS z3;simpa using this
  refine⟨a,zs,rfl,e3,z2,by rw [z3];exact nd,by omega,λp H2 s2 h2 n2=>?_⟩;exact q1 _ _ H2 (g1.trans (dg.same s2)) (s1.same s2) (g1.there _ n2) h2 (.inr ⟨_,_,rfl,rfl,by rw [Ax,<- z3];rfl,by rw [Ax];exact aL.tk s2.eR z4⟩)) q⟩⟩
def NU (nd:(kvs.map (·.1)).Nodup) (hl:kvs.length<=1000) (q:Q (R6 kvs)):(Ko (kvs.map Lx)).run Q:=⟨kvs,rfl,nd,hl,q⟩
def cL (kvs:List (List Key×PV)) (k:List Key):Option PV:=(kvs.find? λkv=>decide (kv.1=k)).map (·.2)
theorem bV.get {k:List Key}:∀{vs:List (List Key×V)}{kvs:List (List Key×PV)},bV K H vs kvs->(cL kvs k=bm->iT vs k=bm)/\∀{v},cL kvs k=ap v->∃u,iT vs k=ap u/\VR K [] H u v
 | [],[],_=>⟨λ_=>rfl,λg=>by simp [cL] at g⟩
 | [],_::_,h=>by simp [bV] at h
 | _::_,[],h=>by simp [bV] at h
 | p::vs,q::kvs,h=>by
  obtain⟨h1,h2⟩:=h;rw [Aq,Aq] at h1 h2;injection h1 with e b;cases h2 with
  | cons r t=>
  have ih:=bV.get (k:=k) (vs:=vs) (kvs:=kvs) ⟨b,t⟩;by_cases c:p.1=k
  ·rw [kM c];have c':=e▸c;have:cL (q::kvs) k=ap q.2:=by simp [cL,Bl,c']
   rw [this];refine⟨λz=>(by cases z),λ{v} z=>?_⟩;cases z;exact⟨_,rfl,r⟩
  ·rw [kN c];have c':=e▸c;have:cL (q::kvs) k=cL kvs k:=by simp [cL,Bl,c']
   rw [this];exact ih
def jc.get' {k:Key}:∀{vs:List (Key×V)}{kvs:List (Key×PV)},jc K H vs kvs->(rD kvs k=bm->iT vs k=bm)/\∀{v},rD kvs k=ap v->∃u,iT vs k=ap u/\VR K [] H u v:=λ{vs kvs} h=>⟨λz=>by
 have:=h.has k;cases e:iT vs k with
 | none=>rfl
 | some u=>
  rw [e] at this;have h2:=this.symm;unfold rD at z;rw [E5,List.find?_eq_none] at z;obtain⟨x,hx,hx2⟩:=List.any_eq_true.mp h2;exact absurd hx2 (z x hx),λz=>h.get k z⟩
def WR (k:Key) (l:List PV):kP k≠.tup l:=by cases k <;> exact PV.noConfusion
def Zl {a b:Key} (h:kP a=kP b):a=b:=by
 cases a <;> cases b <;> simp [kP] at h <;> rw [h]
theorem yi:∀{a b:List Key},a.map kP=b.map kP->a=b
 | [],[],_=>rfl
 | [],_::_,h=>by simp at h
 | _::_,[],h=>by simp at h
 | x::a,y::b,h=>by
  rw [Aq,Aq] at h;injection h with h1 h2;rw [Zl h1,yi h2]
inductive Ik:PV->PV->Option PV->Prop
 | k (kvs:List (Key×PV)) (k:Key):kvs≠[]->Ik (dvK kvs) (kP k) (rD kvs k)
 | t (kvs:List (List Key×PV)) (k:List Key):kvs≠[]->Ik (R6 kvs) (.tup (k.map kP)) (cL kvs k)
def XG {kvs:List (Key×PV)} (h0:kvs≠[]) (h:VR K [] H u (dvK kvs)):∃a o vs,u=.ref a/\H a=ap (.cV o (.dK vs))/\jc K H vs kvs:=by
 have ß:∀{vs:List (Key×V)}{kvs:List (Key×PV)},(kvs.map λkv=>kP kv.1)=(vs.map λkv=>kP kv.1)->vs.map (·.1)=kvs.map (·.1):=λ{vs kvs} e=>by
  have e:(kvs.map (·.1)).map kP=(vs.map (·.1)).map kP:=by rw [Ax,Ax];exact e
  exact (yi e).symm
 cases h with
 | @dk a o vs _ _ e k r=>exact⟨a,o,vs,rfl,e,ß k,r⟩
 | @dt a o vs _ _ e k r=>
  cases kvs with
  | nil=>exact absurd rfl h0
  | cons x l=>cases vs with
   | nil=>simp at k
   | cons y m=>simp at k;exact absurd k.1 (WR _ _)
def OU (h0:kvs≠[]) (h:VR K [] H u (R6 kvs)):∃a o vs,u=.ref a/\H a=ap (.cV o (.dT vs))/\bV K H vs kvs:=by
 have ß:∀{vs:List (List Key×V)}{kvs:List (List Key×PV)},(kvs.map λkv=>PV.tup (kv.1.map kP))=(vs.map λkv=>PV.tup (kv.1.map kP))->vs.map (·.1)=kvs.map (·.1):=λ{vs kvs} e=>by
  induction kvs generalizing vs with
  | nil=>cases vs with
   | nil=>rfl
   | cons y m=>simp at e
  | cons x l ih=>cases vs with
   | nil=>simp at e
   | cons y m=>
    injection e with e1 e2;injection e1 with e1;rw [Aq,Aq,yi e1,ih e2]
 cases h with
 | @dt a o vs _ _ e k r=>exact⟨a,o,vs,rfl,e,ß k,r⟩
 | @dk a o vs _ _ e k r=>
  cases kvs with
  | nil=>exact absurd rfl h0
  | cons x l=>cases vs with
   | nil=>simp at k
   | cons y m=>simp at k;exact absurd k.1.symm (WR _ _)
def Ik.ok {z:V}{d y:PV}{r:Option PV} (h:Ik d y r) (hu:VR K [] H u d) (hz:VR K [] H z y):∃a o,u=.ref a/\IsD H a/\KW H a z o/\(r=bm->o=bm)/\∀v,r=ap v->∃w,o=ap w/\VR K [] H w v:=by
 cases h with
 | k kvs k h0=>
  obtain⟨a,o,vs,rfl,e,d⟩:=XG h0 hu;have ez:z=kV k:=by
   cases k with
   | inl i=>cases hz;rfl
   | inr i=>cases hz;rfl
  subst ez;exact⟨a,iT vs k,rfl,.inl ⟨vs,.inr ⟨o,e⟩⟩,.inl ⟨vs,k,.inr ⟨o,e⟩,rfl,rfl⟩,(jc.get' d).1,λv=>(jc.get' d).2⟩
 | t kvs k h0=>
  obtain⟨a,o,vs,rfl,e,d⟩:=OU h0 hu;cases hz with
  | @tup b us _ e1 r1=>
  have:=He r1;subst this;exact⟨a,iT vs k,rfl,.inr ⟨vs,.inr ⟨o,e⟩⟩,.inr ⟨vs,k,b,.inr ⟨o,e⟩,rfl,e1,rfl⟩,(bV.get d).1,λv=>(bV.get d).2⟩
def dgW (d y:PV):W PV:=⟨λQ=>∃v,Ik d y (ap v)/\Q v,λf ⟨v,a,q⟩=>⟨v,a,f _ q⟩⟩
def dgB (a b:W PV):W PV:=.bind a λx=>.bind b λy=>dgW x y
theorem R1 (hu:X.A.units+200 < pc) (ha:EF X K fs a wa) (hb:EF X K fs b wb) (hs:Wb b):EF X K fs (.Subscript a b pos) (dgB wa wb):=⟨PE.imp (Lv ∅ ha.p hb.p hs) λσ H Q ⟨sr,q⟩=>⟨sr,wa.mono (λx q1 u1 H1 g1 s1 v1=>⟨s1,wb.mono (λy q2 u2 H2 g2 s2 v2=>by
 obtain⟨v,g,q2⟩:=q2;obtain⟨a,o,rfl,_,g2',_,h⟩:=g.ok (g2.vr s1 v1) v2;obtain⟨w,rfl,vw⟩:=h v rfl;exact⟨a,w,rfl,g2',q2 _ H2 (g1.trans g2) s2 vw⟩) q1⟩) q⟩⟩
def Mc {k:List Key} (h:cL kvs k=ap v) (q:Q v):(dgW (R6 kvs) (.tup (k.map kP))).run Q:=⟨v,by rw [<- h];exact .t kvs k (λz=>by subst z;simp [cL] at h),q⟩
def QI (d:PV):W (List PV):=⟨λQ=>∃kvs:List (List Key×PV),d=R6 kvs/\kvs≠[]/\kvs.length<=1000/\Q (kvs.map λkv=>.tup (kv.1.map kP)),λf q=>q.imp λkvs h=>⟨h.1,h.2.1,h.2.2.1,f _ h.2.2.2⟩⟩
theorem Ve (h:EF X K fs e w):vG X K fs tg e (.bind w QI):=⟨PI.imp (P8 h.p) λσ H R ⟨sr,q⟩=>⟨sr,w.mono (λx q1 u1 H1 g1 s1 v1=>by
 obtain⟨kvs,rfl,h0,hl,q1⟩:=q1;obtain⟨a,o,vs,rfl,e,d1,d2⟩:=OU h0 v1;have len:vs.length=kvs.length:=by have:=congrArg BS d1;simpa using this
 refine⟨a,o,vs,rfl,e,q1 _ H1 g1 s1 ⟨bW (by simpa using hl),λH' t=>?_⟩⟩;have e':=t.z _ _ _ e;refine⟨λi p hp=>?_,vs,e',by simp [len]⟩;rw [Ak] at hp;cases z:kvs[i]? with
 | none=>rw [z] at hp;cases hp
 | some kv=>
  rw [z] at hp;have hp:=Option.some.inj hp;subst hp;have hi:=(Al.mp z).1;refine⟨⟨vs,e',by omega⟩,λy H2 yy=>?_⟩;obtain⟨rfl,yy⟩:=yy;obtain⟨b,k,v,rfl,k2,k3⟩:=yy vs e';have ek:k=kv.1:=by
   have h1:(vs.map (·.1))[i]?=ap k:=by rw [Ak,k2];rfl
   rw [d1,Ak,z] at h1;exact (Option.some.inj h1).symm
  subst ek;exact⟨lR.refl _,.tup k3 (QT _ _)⟩) q⟩⟩
def Nn {Q:List PV->Prop} (h0:kvs≠[]) (hl:kvs.length<=1000) (q:Q (kvs.map λkv=>.tup (kv.1.map kP))):(QI (R6 kvs)).run Q:=⟨kvs,rfl,h0,hl,q⟩
end
end
end FL
variable {κ:PyProof.Rows.SortKind}{Q:A3->Du->Prop}{vs:List A3}{p:Array Nat}
namespace L2
open PySem PySem.Spec PyProof.Rows
def fe (N:Nat) (P:α->Prop):Ec α->Prop
 | .ret a=>P a
 | .ask i j k=>i < N/\j < N/\∀b,fe N P (k b)
theorem fe.mono {N:Nat}{P P':α->Prop} (h:∀a,P a->P' a):∀{t:Ec α},fe N P t->fe N P' t
 | .ret a,q=>h a q
 | .ask i j k,q=>⟨q.1,q.2.1,λb=>fe.mono h (q.2.2 b)⟩
theorem fe.bind {N:Nat}{P:α->Prop}{P':β->Prop}{f:α->Ec β} (hf:∀a,P a->fe N P' (f a)):∀{t:Ec α},fe N P t->fe N P' (t.bind f)
 | .ret a,q=>hf a q
 | .ask i j k,q=>⟨q.1,q.2.1,λb=>fe.bind hf (q.2.2 b)⟩
theorem fe.wp {N:Nat}{P:α->Prop}{cmp:Nat->Nat->(Bool->cr->Prop)->cr->Prop}{Q:α->cr->Prop} (hc:∀i j C,i < N->j < N->(∀b,C b s)->cmp i j C s) (hq:∀a,P a->Q a s):∀{t:Ec α},fe N P t->t.kasWp cmp Q s
 | .ret a,q=>hq a q
 | .ask i j k,q=>hc i j _ q.1 q.2.1 λb=>fe.wp hc hq (q.2.2 b)
def c7 (N:Nat) (p:Array Nat):Prop:=p.toList.Perm (Aw N)
def c7.lt {N:Nat} (h:c7 N p) (h0:0 < N) (k:Nat):p.getD k 0 < N:=by
 by_cases c:k < p.size
 ·have:p.getD k 0=p[k]:=by simp [Array.getD,c]
  rw [this];exact AX.mp (h.mem_iff.mp (by simp))
 ·have:p.getD k 0=0:=by simp [Array.getD,c]
  rw [this];exact h0
def c7.rev {N:Nat} (h:c7 N p) (i j:Nat):c7 N (Fb p i j):=(EB.mp (mirror_perm p i j _)).trans h
def c7.bub {N:Nat} (h:c7 N p) (i j:Nat):c7 N (bubble p i j):=(EB.mp (bubble_perm p i j)).trans h
section
variable {N:Nat} (h0:0 < N)
include h0
theorem QR (h:c7 N p):∀f n,fe N (λ_=>True) (PySem.W.kas_asc p f n)
 | 0,n=>trivial
 | f+1,n=>⟨h.lt h0 _,h.lt h0 _,λb=>by
  cases b with
  | true=>exact trivial
  | false=>exact QR h f (n+1)⟩
theorem xY:∀f (p:Array Nat) n q,c7 N p->fe N (λr=>c7 N r.1) (PySem.W.kas_desc f p n q)
 | 0,p,n,q,h=>h
 | f+1,p,n,q,h=>⟨h.lt h0 _,h.lt h0 _,λb=>by
  cases b with
  | true=>
   show fe N _ (if q > 0 then _ else _)
   split
   ·exact xY f _ _ _ (h.rev _ _)
   ·exact xY f _ _ _ h
  | false=>exact⟨h.lt h0 _,h.lt h0 _,λb=>by
    cases b with
    | true=>exact h
    | false=>exact xY f _ _ _ h⟩⟩
def QL {m:Nat} (h:c7 N p):fe N (λr=>c7 N r.2) (PySem.W.kas_tail3 n m p):=by
 exact fe.bind (N:=N) (P:=λ_=>True) (P':=λr:Nat×Array Nat=>c7 N r.2) (f:=λk=>.ret (k,Fb p 0 n)) (λk _=>(show c7 N (Fb p 0 n) from h.rev _ _)) (QR h0 (h.rev _ _) _ _)
def QO {m:Nat} (h:c7 N p):fe N (λr=>c7 N r.2) (PySem.W.kas_descPart n m p):=fe.bind (λr hr=>by
 split
 ·exact QL h0 (hr.rev _ _)
 ·exact QL h0 hr) (xY h0 _ _ _ _ h)
def U7 {m:Nat} (h:c7 N p):fe N (λr=>c7 N r.2) (PySem.W.kas_count m p):=fe.bind (λn _=>by
 split
 ·exact h
 ·split
  ·exact⟨h.lt h0 _,h.lt h0 _,λb=>by
    cases b with
    | true=>exact h
    | false=>exact QO h0 (h.rev _ _)⟩
  ·exact QO h0 h) (QR h0 h _ _)
theorem xX (h:c7 N p) (k:Nat):∀f l r,fe N (λ_=>True) (PySem.W.kas_place p k f l r)
 | 0,l,r=>trivial
 | f+1,l,r=>by
  show fe N _ (if l≥r then _ else _)
  split
  ·exact trivial
  ·exact⟨h.lt h0 _,h.lt h0 _,λb=>by
    cases b with
    | true=>exact xX h k f _ _
    | false=>exact xX h k f _ _⟩
theorem WQ:∀f (p:Array Nat) k,c7 N p->fe N (c7 N) (PySem.W.kas_bin f p k)
 | 0,p,k,h=>h
 | f+1,p,k,h=>fe.bind (λl _=>WQ f _ _ (h.bub _ _)) (xX h0 h k _ _ _)
def Zk:fe N (c7 N) (F0 N):=fe.bind (λr hr=>by
 split
 ·exact WQ h0 _ _ _ hr
 ·exact hr) (U7 h0 (List.Perm.refl _))
end
section
theorem Jr {P:PySem.Fin->cr->Prop} (ho:s.heap.get? a=ap (sK "list" vs.toArray n)) (ċ:vs.length < 64)
  (Ń:2<=vs.length->∀h',(∀b o,b≠a->s.heap.get? b=ap o->h'.get? b=ap o)->db (dL prog w) A (keyKind' vs.toArray) (λk s'=>k=κ/\s'={s with heap:=h'}) (λ_ _=>False) {s with heap:=h'})
  (ff:∀h',(∀b o,b≠a->s.heap.get? b=ap o->h'.get? b=ap o)->∀i j,i < vs.length->j < vs.length->∀C:Bool->cr->Prop,(∀b,C b {s with heap:=h'})->db (dL prog w) A (keyLt' κ (vs.getD i AL) (vs.getD j AL)) C (λ_ _=>False) {s with heap:=h'})
  (h:∀out:List bn,out.Perm vs->P (.done (.ret .none)) {s with heap:=sortedHeap s.heap a vs out.toArray}) :
  db (dL prog w) A (ut.«list.sort» ⟨[.ref a],[]⟩) P E s:=by
 rw [list_sort_plain];have ha:=Au ho;refine Aa (listItems_at ho rfl ?_);refine Aa (listUpdate_at ho rfl ?_);obtain⟨e1,ho1⟩:∃e1,(s.heap.update a (Br λ_=>#[])).get? a=ap (sK "list" #[] e1):=⟨_,get?_update_seq ho (λ_=>#[])⟩;refine Aa (seqEpoch_at ho1 rfl ?_);refine Aa (C8 ?_);refine Aa (wpAny_newList ?_);refine Bd ?_;have ģ:(((s.heap.update a (Br λ_=>#[])).push (sK "tuple" vs.toArray 0)).push (sK "list" #[] 0)).get? a=ap (sK "list" #[] e1):=by
  rw [Heap.get?_push_ne _ _ _ (by rw [size_push',ET];exact AG (Nat.lt_succ_of_lt ha)),Heap.get?_push_ne _ _ _ (by rw [ET];exact AG ha)];exact ho1
 have kp:∀b o,b≠a->s.heap.get? b=ap o->(((s.heap.update a (Br λ_=>#[])).push (sK "tuple" vs.toArray 0)).push (sK "list" #[] 0)).get? b=ap o:=λb o n e=>Ag _ (Ag _ (by rw [FE _ _ _ _ n];exact e));dsimp only;have hsz:vs.toArray.size=vs.length:=by simp
 by_cases h2:vs.toArray.size < 2
 ·rw [if_pos h2,if_pos h2];refine Aa (Ad ?_);refine Aa (Ad ?_);dsimp only;refine Aa (seqEpoch_at ģ rfl ?_);refine Aa (listUpdate_at ģ rfl ?_ (hsz2:=by rw [Array.size_map];show (pairsOf vs).size<=_;rw [pairsOf_size,sizeLine_eq];omega));simp only [bne_self_eq_false,Av,if_false];refine Ad ?_;have e:(arrOf (SortSt.mk' general' (vs.toArray.zip vs.toArray) #[] 7 bm)).map (·.2)=vs.toArray:=by
   apply Array.toList_inj.mp;simp [List.map_snd_zip]
  show P _ {s with heap:=_};rw [e];exact h vs (List.Perm.refl _)
 ·rw [if_neg h2,if_neg h2];have si:2<=vs.length:=by omega
  refine Aa (BZ (Ń si _ kp) (λk s0 hk=>?_) λ_ _ x=>x.elim);obtain⟨rfl,rfl⟩:=hk;have hw:(F0 vs.length).kasWp (PySem.W.kas_ask prog w A k vs) (λp s'=>c7 vs.length p/\s'={s with heap:=((s.heap.update a (Br λ_=>#[])).push (sK "tuple" vs.toArray 0)).push (sK "list" #[] 0)}) {s with heap:=((s.heap.update a (Br λ_=>#[])).push (sK "tuple" vs.toArray 0)).push (sK "list" #[] 0)}:=
   fe.wp (λi j C hi hj hC=>ff _ kp i j hi hj C hC) (λp hp=>⟨hp,rfl⟩) (Zk (show 0 < vs.length by omega))
  refine Aa (BZ (PySem.W.kat_run (Q:=λrS s'=>∃p:Array Nat,c7 vs.length p/\arrOf rS=p.map (PySem.W.kas_item (vs.toArray.zip vs.toArray))/\failedOf rS=bm/\s'={s with heap:=((s.heap.update a (Br λ_=>#[])).push (sK "tuple" vs.toArray 0)).push (sK "list" #[] 0)})
   rfl si ċ (λp' rS s' a1 a2 a3 a4=>⟨p',a4.1,a2,a3,a4.2⟩) hw) ?_ λ_ _ e=>e)
  rintro⟨⟨⟩,rS⟩ s' ⟨p,hp,har,hf,rfl⟩;have ahb:=PySem.W.kat_snds rfl har;have W0:(p.toList.map λi=>vs.getD i AL).Perm vs:=by
   have e:(Aw vs.length).map (λi=>vs.getD i AL)=vs:=by
    apply Ci;intro i;by_cases c:i < vs.length
    ·rw [Ak,BI c,Ae c];show ap (vs.getD i AL)=_;rw [Aj,Ae c];rfl
    ·rw [A6 (by simp;omega),A6 ∅]
   have:=hp.map (λi=>vs.getD i AL);rw [e] at this;exact this
  rw [ahb];refine Aa (seqEpoch_at ģ rfl ?_);refine Aa (listUpdate_at ģ rfl ?_ (hsz2:=by rw [Ai,W0.length_eq,sizeLine_eq];omega));rw [hf];simp only [bne_self_eq_false,Av,if_false];exact Ad (h _ W0)
def Tp {l:ce} (hl:s.heap.IsList l vs.toArray) (ċ:vs.length < 64)
  (Ń:2<=vs.length->∀h',(∀b o,s.heap.get? b=ap o->h'.get? b=ap o)->db (dL prog w) A.in1.in1 (keyKind' vs.toArray) (λk s'=>k=κ/\s'={s with heap:=h'}) (λ_ _=>False) {s with heap:=h'})
  (ff:∀h',(∀b o,s.heap.get? b=ap o->h'.get? b=ap o)->∀i j,i < vs.length->j < vs.length->∀C:Bool->cr->Prop,(∀b,C b {s with heap:=h'})->db (dL prog w) A.in1.in1 (keyLt' κ (vs.getD i AL) (vs.getD j AL)) C (λ_ _=>False) {s with heap:=h'})
  (h:∀out:List bn,out.Perm vs->Q (.ref (s.heap.objs.size+1)) {s with heap:=sortedAll s.heap vs out.toArray}) :
  db (dL prog w) A (call (.builtin "sorted") [.ref l]) Q E s:=by
 refine Calls.call_function_entry kind_sorted plain_sorted entry_sorted (args_sorted1 _) ?_;refine Aa (m:=checkCount "sorted" 1 1 _) (Ad ?_);refine Aa (collect_list hl ?_);refine Aa (wpAny_newList ?_);have hsz:((s.heap.push (sK "list" #[] 0)).update s.heap.objs.size (Br (·++vs.toArray))).objs.size=s.heap.objs.size+1:=by
  rw [ET,size_push']
 have Ģ:(((s.heap.push (sK "list" #[] 0)).update s.heap.objs.size (Br (·++vs.toArray))).push (sK "list" vs.toArray 0)).get? (s.heap.objs.size+1)=ap (sK "list" vs.toArray 0):=by
  rw [<- hsz];exact Ao _ rfl
 have kp:∀b o,s.heap.get? b=ap o->b≠s.heap.objs.size+1/\(((s.heap.push (sK "list" #[] 0)).update s.heap.objs.size (Br (·++vs.toArray))).push (sK "list" vs.toArray 0)).get? b=ap o:=λb o e=>by
  have lt:=Au e;refine⟨AG (Nat.lt_succ_of_lt lt),Ag _ ?_⟩;rw [FE _ _ _ _ (AG lt)];exact Ag _ e
 show db _ _ _ _ _ {s with heap:=((s.heap.push (sK "list" #[] 0)).update s.heap.objs.size (Br (·++vs.toArray))).push (sK "list" vs.toArray 0)};rw [hsz];refine Aa (Bd (A1 slot_list_sort ⟨_,Ģ,rfl⟩ entry_list_sort (Jr (κ:=κ) Ģ ċ (λh2 h' k=>?_) (λh' k=>?_) λout hp=>⟨_,rfl,?_⟩) (args_list_sort _)))
 ·exact Ń h2 h' λb o e=>k b o (kp b o e).1 (kp b o e).2
 ·exact ff h' λb o e=>k b o (kp b o e).1 (kp b o e).2
 ·exact Ad ⟨_,rfl,h out hp⟩
end
end L2
variable {b:BG}{t t1:PySem.Tok}{p:Ck}
namespace FL
section
open PySem PySem.Spec PyProof.Rows L2 PL
variable {K:Ab}
def qt:PV->Bool
 | .tup [.str _,.tup [.int _,.int _]]=>true
 | _=>false
def JK (h:qt x=true):∃s i j,x=.tup [.str s,.tup [.int i,.int j]]:=by
 unfold qt at h
 split at h
 ·exact⟨_,_,_,rfl⟩
 ·cases h
section
def VQ (I:Inv X Z σ H s) {v:V}{u:bn} (hv:VR X.K [] H v x) (ru:RelV v u) (hx:qt x=true):∃(a b:ce) (st:Str) (i j:Int) (t t1 t2:Tok) (oa ob:Obj) (na nb:Nat),u=.ref a/\s.heap.get? a=ap oa/\oa.cls=.type "tuple"/\oa.data=.seq #[.str st t,.ref b] na/\s.heap.get? b=ap ob/\ob.cls=.type "tuple"/\ob.data=.seq #[.int i t1,.int j t2] nb:=by
 obtain⟨st,i,j,rfl⟩:=JK hx;cases hv with
 | @tup p vs _ e r=>
 cases ru;cases r with
 | cons r1 r2=>
 cases r1;cases r2 with
 | cons r2 r3=>
 cases r3;cases r2 with
 | @tup b ws _ e2 r4=>
 cases r4 with
 | cons r4 r5=>
 cases r4;cases r5 with
 | cons r5 r6=>
 cases r6;cases r5;obtain⟨au,rv,⟨o,h1,h2,n,h3⟩,_⟩:=I.tuple (dR.of (K:=X.K) e);obtain⟨c8,rv2,⟨o2,k1,k2,n2,k3⟩,_⟩:=I.tuple (dR.of (K:=X.K) e2);cases rv with
 | cons q1 q2=>
 cases q2 with
 | cons q2 q3=>
 cases q3;cases rv2 with
 | cons m1 m2=>
 cases m2 with
 | cons m2 m3=>
 cases m3;obtain⟨t,rfl⟩:=q1;cases q2;obtain⟨t1,rfl⟩:=m1;obtain⟨t2,rfl⟩:=m2;exact⟨p,b,st,i,j,t,t1,t2,o,o2,n,n2,rfl,h1,h2,h3,k1,k2,k3⟩
end
theorem VO {a' b':ce}{st rS:Str}{i j i' j':Int}{t2 t' ó ñ:Tok}{oa ä û:Obj}{na nb na' İ:Nat} (hu:A.units+1 < pc)
  (h1:s.heap.get? a=ap oa) (h3:oa.data=.seq #[.str st t,.ref b] na) (k1:s.heap.get? b=ap ob) (k2:ob.cls=.type "tuple") (k3:ob.data=.seq #[.int i t1,.int j t2] nb)
  (ib:s.heap.get? a'=ap ä) (Rr:ä.data=.seq #[.str rS t',.ref b'] na') (ĵ:s.heap.get? b'=ap û) (Ĵ:û.cls=.type "tuple") (ĳ:û.data=.seq #[.int i' ó,.int j' ñ] İ)
  {C:Bool->cr->Prop} (hC:∀b,C b s):db (dL prog w) A (keyLt' (tuples' true) (.ref a) (.ref a')) C (λ_ _=>False) s:=by
 refine PySem.W.kat_lt h1 h3 ib Rr (FZ (DL.str_str st t rS t' prog w _ _ (PySem.W.kat_go (λ_=>PySem.W.kat_yes ?_) λ_=>PySem.W.kat_no ?_)))
 ·refine FZ ?_;have hT:s.heap.IsTuple b #[.int i t1,.int j t2]:=⟨ob,k1,k2,nb,k3⟩;have hT':s.heap.IsTuple b' #[.int i' ó,.int j' ñ]:=⟨û,ĵ,Ĵ,İ,ĳ⟩;have go:∀e,PySem.W.KatGo prog w A true (decide ((#[Bj st t,.ref b]:Array bn).size < (#[Bj rS t',.ref b']:Array bn).size)) C (.ref b) (.ref b') [] 1 e s:=λe=>PySem.W.kat_go (λ_=>PySem.W.kat_yes (PySem.W.kat_nil (hC _))) λ_=>PySem.W.kat_no (PySem.W.kat_one _ _ (HT.Jo hT hT' (.cons i t1 (.cons j t2 .nil)) (.cons i' ó (.cons j' ñ .nil)) ∅ (hC _)));by_cases c:b=b'
  ·subst c;exact F4 (.ref b) prog w _ _ (go _)
  ·refine FQ c (FT (e:=λk=>if k=0 then i==i' else j==j') hT hT' ∅ λk g1 g2=>?_) prog w _ _ (go _);have:k=0\/k=1:=by simp at g1;omega
   rcases this with rfl | rfl
   ·exact Ek i t1 i' ó
   ·exact Ek j t2 j' ñ
 ·exact oneLt_str (hC _)
section
def Yf (K:Ab):List V->Hp->VK->Prop:=λxs H Q=>∃(p:ce) (vs:List V) (l:List PV),xs=[.ref p]/\de K H p vs/\aL K [] H vs l/\l.length < 64/\l.all qt=true/\∀m:List PV,m.Perm l->∀ws,aL K [] H ws m->kJ H (.lst ws) Q
def P9 {vs:List V}{out:List bn} (r:Vals vs us) (v:aL K [] H vs l) (p:out.Perm us):∃ws m,Vals ws out/\aL K [] H ws m/\m.Perm l:=by
 induction p generalizing vs l with
 | nil=>cases r;cases v;exact⟨[],[],.nil,.nil,.refl _⟩
 | cons x p ih=>
  cases r with
  | cons r1 r2=>
  cases v with
  | cons v1 v2=>
  obtain⟨ws,m,a,b,c⟩:=ih r2 v2;exact⟨_::ws,_::m,.cons r1 a,.cons v1 b,.cons _ c⟩
 | swap x y l'=>
  cases r with
  | cons r1 r2=>
  cases r2 with
  | cons r2 r3=>
  cases v with
  | cons v1 v2=>
  cases v2 with
  | cons v2 v3=>exact⟨_::_::_,_::_::_,.cons r2 (.cons r1 r3),.cons v2 (.cons v1 v3),.swap _ _ _⟩
 | trans p1 p2 Q8 SN=>
  obtain⟨ws,m,a,b,c⟩:=SN r v;obtain⟨sL,m',a',b',c'⟩:=Q8 a b;exact⟨sL,m',a',b',c'.trans c⟩
theorem Ks (hK:X.K=K) (hu:X.A.units+200 < pc):bS X (.builtin "sorted") (Yf K):=by
 subst hK;intro Z s σ H xs us Q I r h;obtain⟨p,vs,l,rfl,hq,hv,ċ,hd,q⟩:=h;obtain⟨u,rfl,rx⟩:=vals1 r;cases rx;obtain⟨au,r',pl,hz⟩:=I.list hq;have hl:=r'.length;have SQ:=hv.length;have el:∀i,i < au.length->∃(a b:ce) (st:Str) (i1 j1:Int) (t t1 t2:Tok) (oa ob:Obj) (na nb:Nat),au.getD i AL=.ref a/\s.heap.get? a=ap oa/\oa.cls=.type "tuple"/\oa.data=.seq #[.str st t,.ref b] na/\s.heap.get? b=ap ob/\ob.cls=.type "tuple"/\ob.data=.seq #[.int i1 t1,.int j1 t2] nb:=λi hi=>by
  have e1:vs[i]?=ap vs[i]:=Ae ∅;obtain⟨x,ex,vx⟩:=hv.adk e1;have hx:=De.mp hd x (Bo ex);have ru:RelV vs[i] (au.getD i AL):=by
   obtain⟨u,hu1,hu2⟩:=Vals.get r' e1;rw [Aj,hu1];exact hu2
  exact VQ I vx ru hx
 refine Tp (κ:=tuples' true) pl.isList ∅ (λh2 h' kp=>?_) (λh' kp i j hi hj C hC=>?_) λout hp=>?_
 ·have à:∀l:List bn,(∀v∈l,∃(a:ce) (x:bn) (st:Str) (t:Tok) (oa:Obj) (na:Nat),v=.ref a/\h'.get? a=ap oa/\oa.cls=.type "tuple"/\oa.data=.seq #[.str st t,x] na)->∃fs,PySem.W.KatTups h' l fs/\fs.length=l.length/\∀v∈fs,∃st t,v=Bj st t:=by
   intro l
   induction l with
   | nil=>intro _;exact⟨[],trivial,rfl,by simp⟩
   | cons v l ih=>
    intro hl;obtain⟨fs,f1,f2,f3⟩:=ih λy hy=>hl y (.tail _ hy);obtain⟨a,x,st,t,oa,na,rfl,g1,g2,g3⟩:=hl v (.head _);refine⟨.str st t::fs,PySem.W.KatTups.cons g1 g2 g3 rfl f1,by simp [f2],λy hy=>?_⟩;rcases AD.mp hy with rfl | hy
    ·exact⟨st,t,rfl⟩
    ·exact f3 y hy
  obtain⟨fs,f1,f2,f3⟩:=à au λv hv=>by
   obtain⟨i,hi,rfl⟩:=Eb hv;obtain⟨a,b,st,i1,j1,t,t1,t2,oa,ob,na,nb,e,h1,h2,h3,_⟩:=el i hi;rw [Aj,Ae hi] at e;exact⟨a,.ref b,st,t,oa,na,e,kp _ _ h1,h2,h3⟩
  refine PySem.W.kat_kind (T:=.type "str") f1 ∅ (λv hv=>?_) ⋯ ⟨rfl,rfl⟩;obtain⟨st,t,rfl⟩:=f3 v hv;exact PySem.W.Looks.now
 ·obtain⟨a,b,st,i1,j1,t,t1,t2,oa,ob,na,nb,e,h1,h2,h3,k1,k2,k3⟩:=el i hi;obtain⟨a',b',rS,i1',j1',t',ó,ñ,ä,û,na',İ,e',ib,si,Rr,ĵ,Ĵ,ĳ⟩:=el j hj;rw [e,e'];exact VO (s:={s with heap:=h'}) (by show X.A.units+1+1+1 < _;omega) (kp _ _ h1) h3 (kp _ _ k1) k2 k3 (kp _ _ ib) Rr (kp _ _ ĵ) Ĵ ĳ hC
 ·obtain⟨ws,m,a1,a2,a3⟩:=P9 r' hv hp;obtain⟨e,he⟩:=sortedAll_at s.heap au out.toArray;refine⟨.ref (s.heap.objs.size+1),_,I.laid (t':=s.toks) (λ_ _=>sortedAll_old) (D2 _) (show ba X.prog X.w _ _ _ (.lst ws) from⟨?_,out,e,a1,he⟩),rfl,(q m a3 ws a2).at _ (I.bC.fresh (D2 _))⟩;rw [a2.length,a3.length_eq];rw [<- SQ];exact hz
def Pg (l:List PV):W (List PV):=.fj (l.length < 64/\l.all qt=true) (.any λm=>m.Perm l)
def UU (hK:X.K=K) (hu:X.A.units+200 < pc) (hg:Gl X "sorted") (hm:X.mg "sorted"=bm) (ha:Ih X K fs e wl) (he:gM X e []:=by rfl) (dQ:kL X pos []:=by rfl):LF X K fs (.Call (.Name "sorted" p) [e] [] pos) (.bind wl Pg):=
 ⟨PE.imp (eU (Ks hK hu) hg hm boot_sorted (aY ha.p bZ he) ⋯ ⋯ he dQ) λσ H Q ⟨sr,q⟩=>⟨sr,wl.mono (λl q1 u1 H1 g1 s1 _ v1=>by
  obtain⟨⟨c1,c2⟩,q2⟩:=q1;obtain⟨a,vs,rfl,h1,r1⟩:=v1 H1 .refl s1;exact⟨a,vs,l,rfl,h1,r1,c1,c2,λm hm ws hw=>GJ g1 s1 hw (q2 m hm)⟩) q⟩⟩
end
end
end FL
variable {x z:Cg}{ts:List Cg}{t3:PySem.Tok}
namespace FL
section
open PySem PySem.Spec PyProof.Rows L2 PL
variable {K:Ab}
structure Sx (K:Ab) (a:ce) (ts:List Str):Prop where
 ex:∃(o:Obj) (au:Array bn) (n:Nat),K.lookup a=ap o/\o.cls=.type "tuple"/\o.data=.seq au n/\au.size<=sizeLine/\Vals (ts.map V.str) au.toList
 tn:∃o:Obj,K.lookup a=ap o/\o.cls=.type "tuple"/\o.dict=bm
def tup3K {t2:Tok} (h:K.lookup a=ap ⟨.type "tuple",bm,.seq #[.str x t1,.str y t2,.str z t3] n,SM⟩):Sx K a [x,y,z]:=⟨⟨_,_,_,h,rfl,rfl,bW (by show 3<=_;decide),.cons ⟨_,rfl⟩ (.cons ⟨_,rfl⟩ (.cons ⟨_,rfl⟩ .nil))⟩,_,h,rfl,rfl⟩
section
theorem K8 (H:Hp):∀ts:List Str,aL K [] H (ts.map V.str) (ts.map PV.str)
 | []=>.nil
 | t::ts=>.cons (.str t) (K8 H ts)
end
section
variable {a:ii}
def abh (hK:X.K=K) (hu:X.A.units+200 < pc) {ad:ce} (ha:EF X K fs a wa) (hm:X.mg x=ap (.ref ad)) (T:Sx K ad ts) (hg:Gl X x:=by rfl) (hd:jg x:=by decide) (hk:re .In (.Name x p)=false:=by rfl) :
  TF X K fs (.Compare a [.In] [.Name x p] pos) (.bind wa λv=>rC false v (ts.map PV.str)):=⟨PT.imp (oC (Qh K hK hu) ha.p (rV hg hm (v:=.ref ad) rfl hd) hk) λσ H Q ⟨sr,q⟩=>⟨sr,wa.mono (λv q1 u1 H1 g1 s1 v1=>⟨ad,_,_,v,rfl,.inr (.inr T.ex),K8 H1 ts,v1,q1.1,_,rfl,q1.2 H1 g1 s1⟩) q⟩⟩
end
end
section
open PySem PySem.Spec PyProof.Rows L2 PL
variable {K:Ab}
section
variable {rest:List v4}{S T T2:Type}{hd:ce->S->bj}{s0:S}{wt:PV->W T2}{dD:ce->S->T2->bj}{k:S->W T}{out:T->End}{x:Bool}
def Uk (sr:aX K H σ fs) (hs:fs[i]?=ap (ap (.ol (ap a) l))):∃ws,H a=ap (.lst ws)/\aL K [] H ws l:=by
 obtain⟨u,_,⟨v,e,_⟩ | ⟨b,_,z,ws,q1,q2⟩⟩:=sr.at' i _ hs
 ·cases e
 ·cases z a rfl;exact⟨ws,q1,q2⟩
theorem SF.ahT (i:Nat) {f:PV->S->W S}{wb:T2->S->W S} (hs:fs[i]?=ap (ap (.ol q0 l))) (hK:X.K=K) (hN:X.N[i]?=ap y) (hv:zM X.env.scope y) (hp:wS (dL X.prog X.w) X.A X.env X.xe) (hc:X.calm=true)
  (hl:∀a,jh (fs.set i (ap (.ol (ap a) l))) (hd a s0)) (ĉ:∀a s,(hd a s)[i]?=ap (ap (.ol (ap a) l))) (hg:∀a s,GF X K (hd a s) tg is wt (dD a s)) (hf:∀p s,f p s=.bind (wt p) λt=>wb t s)
  (hb:∀a s t,SF X K false (dD a s t) body (wb t s) λs'=>.nc (hd a s')) (hr:∀a s,SF X K x ((hd a s).set i (ap (.ol bm l))) rest (k s) out) (Ĉ:jg y:=by decide) (jB:Ij y:=by decide) (ĺ:∀x,foldedSetIterable (.Name y p) X.env x=pure x:=by intro _;rfl) :
  SF X K x fs (.For tg (.Name y p) body [] pos::rest) (.bind (bz l s0 f) k) out:=by
 refine SF.step (IW (g:=λv σ H Q=>∃a s,fG K (hd a s) is wt (dD a s) v σ H Q) (tb:=λD σ H=>∃a s t,fS K false (dD a s t) (wb t s) (λs'=>.nc (hd a s')) D σ H) hp hc (P6 (K:=K) (hK:=hK) (eE hN hv Ĉ jB)) (λZ s σ H v u Q I r ⟨a,s1,q⟩=>(hg a s1).p Z s σ H v u Q I r q) (λZ s σ H D I ⟨a,s1,t1,q⟩=>(hb a s1 t1).p Z s σ H D I q) ĺ) λD σ H ⟨sr,q1⟩=>?_;obtain⟨a,ws,e1,h1,r1⟩:=eF sr hs;obtain⟨s1,g1⟩:=gT (t':=.ol (ap a) l) sr hs rfl (by simp) e1 (λ_ _ _ h=>h) λ_=>⟨λb z=>Option.some.inj z,ws,h1,r1⟩;refine⟨_,e1,a,rfl,⟨ws,.inl (.inl h1)⟩,?_⟩;refine⟨λi' m σ' H'=>∃s,aX K H' σ' (hd a s)/\cU σ fs H σ' (hd a s) H'/\m=l.length-i'/\i'<=l.length/\(bz (l.drop i') s f).run λs'=>(k s').run λt=>bR K x σ fs H D (out t),⟨l.length,s0,s1.le (hl a),g1.trans (cU.le s1 (hl a)),by simp,Bc _,by simpa using q1⟩,?_⟩;rintro i' m σ2 H2 ⟨s,s2,g2,rfl,hi,q2⟩;obtain⟨us,h2,r2⟩:=Uk s2 (ĉ a s);have sq:de K H2 a us:=.inl (.inl h2);by_cases ff:i' < l.length
 ·obtain⟨v,h3,h4⟩:=r2.get (Ae ff);rw [Bp ff] at q2;refine .inr ⟨⟨us,v,sq,h3⟩,λσ3 H3=>∃s',aX K H3 σ3 (hd a s')/\cU σ fs H σ3 (hd a s') H3/\(bz (l.drop (i'+1)) s' f).run λs'=>(k s').run λt=>bR K x σ fs H D (out t),λσ3 H3 ⟨s',a1,a2,a4⟩=>⟨l.length-(i'+1),by omega,s',a1,a2,rfl,ff,a4⟩,λv2 H3 y=>?_⟩;obtain⟨rfl,y⟩:=y;have:=y us sq;rw [h3] at this;cases this;have q2:(f l[i'] s).run λs'=>(bz (l.drop (i'+1)) s' f).run λs'=>(k s').run λt=>bR K x σ fs H D (out t):=q2;rw [hf] at q2;refine⟨a,s,_,s2,h4,(wt l[i']).mono (λt q4 us g4 s4=>?_) q2⟩;refine⟨a,s,t,s4,(wb t s).mono (λs' q5 σ5 H5 g5 s5=>?_) q4⟩;exact⟨λ_=>⟨s',s5,(g2.trans g4).trans g5,q5⟩,s',s5,(g2.trans g4).trans g5,q5⟩
 ·have e:i'=l.length:=by omega
  subst e;rw [DT] at q2;obtain⟨a',us',e2,si,r2'⟩:=eF s2 (ĉ a s);obtain⟨s3,g3⟩:=gT (t':=.ol bm l) s2 (ĉ a s) rfl (by simp) e2 (λ_ _ _ h=>h) λ_=>⟨by simp,us',si,r2'⟩;exact .inl ⟨⟨us,sq,by rw [r2.length];exact Am _⟩,_,k s,hr a s,s3,(k s).mono (λt q3=>q3.go (g2.trans g3) sr s3) q2⟩
def SF.adt (i:Nat) {f:PV->S->W S} (hs:fs[i]?=ap (ap (.ol q0 l))) (hK:X.K=K) (hN:X.N[i]?=ap y) (hv:zM X.env.scope y) (hp:wS (dL X.prog X.w) X.A X.env X.xe) (hc:X.calm=true)
  (hl:∀a,jh (fs.set i (ap (.ol (ap a) l))) (hd a s0)) (ĉ:∀a s,(hd a s)[i]?=ap (ap (.ol (ap a) l))) (hg:PG X tg (d5 j))
  (hb:∀a s p,SF X K false ((hd a s).set j (ap (.val p))) body (f p s) λs'=>.nc (hd a s')) (hr:∀a s,SF X K x ((hd a s).set i (ap (.ol bm l))) rest (k s) out) (Ĉ:jg y:=by decide) (jB:Ij y:=by decide) (ĺ:∀x,foldedSetIterable (.Name y p) X.env x=pure x:=by intro _;rfl) :
  SF X K x fs (.For tg (.Name y p) body [] pos::rest) (.bind (bz l s0 f) k) out:=SF.ahT (wt:=.ret) (wb:=λp s=>f p s) i hs hK hN hv hp hc hl ĉ (λa s=>g_1 hg) (λ_ _=>rfl) hb hr Ĉ jB ĺ
end
end
end FL
variable {kp cp:Ck}{kc:Nat}
namespace L2
open PySem PySem.Spec PyProof.Rows
section
variable {R:Result->cr->Prop}{I S:ce}{wr:List ce}{P:Nat->bn->Prop}{St:Nat->mo->Prop}
abbrev dfN:List (Str×bn):=[(BB "default",.none)]
abbrev ad0 (l:List bn) (c:Nat):Obj:={cls:=.type "list",dict:=bm,data:=.seq l.toArray c,slots:=#[]}
def Vv {n:Nat} (h:n<=2):n<=sizeLine:=AV h ⋯
theorem Ng (W:Walks prog w A.in1 I fp wr n P St) (bt:Nat->Nat->Bool) (ahx:CmpOf prog w A.in1 .Lt P bt) (hSf:S∉fp) :
  ∀(k j:Nat) (s:cr) (l:List bn) (c:Nat),n-j=k->j<=n->St j s.heap->(j=0/\l=[]\/∃i v,j=i+1/\l=[v,v]/\P (argBest bt i) v)->s.heap.get? S=ap (ad0 l c)->
  (∀v h' tk,(n=0/\v=.none\/0 < n/\P (argBest bt (n-1)) v)->(∀b o,b∉wr->b≠S->s.heap.get? b=ap o->h'.get? b=ap o)->R (.ok (.ret v)) {s with heap:=h',toks:=tk})->
  Ev (dL prog w) A (.builtin "min.loop" ⟨[.ref I,.none,.ref S],dfN⟩) R s:=by
 have hSw:S∉wr:=λh=>hSf (W.sub _ h);have hn:(toString "min"++toString ".loop":String)="min.loop":=by decide
 intro k
 induction k with
 | zero=>
  intro j s l c hk hj o6 hl hS hR;have e:j=n:=by omega
  subst e;refine GM F.entry_min_loop ?_;rw [Ft CH _];refine Aa (Bx hS rfl (Aa (En (W.done s _ _ o6 λh' tk ZC=>?_))));have ZG:=ZC S _ hSw hS;rcases hl with⟨e0,rfl⟩ | ⟨i,v,rfl,rfl,hv⟩
  ·exact Aa (C7 (Ad (hR _ h' tk (.inl ⟨e0,rfl⟩) λb o hb _ z=>ZC b o hb z)))
  ·refine Aa (CU ZG rfl (Aa (CN (Ad ?_))) (Vv (Am _)) (Bc _));exact hR v _ tk (.inr ⟨Nat.succ_pos _,hv⟩) λb o hb Ro z=>(BW _ _ (BP Ro)).trans (ZC b o hb z)
 | succ k ih=>
  intro j s l c hk hj o6 hl hS hR;have ff:j < n:=by omega
  refine GM F.entry_min_loop ?_;rw [Ft CH _];refine Aa (Bx hS rfl (Aa (En (W.item j s _ _ ff o6 λv h' tk hP acY ZC=>?_))));have ZG:=ZC S _ hSw hS;have WO:∀(f:Obj->Obj) b o,b∉wr->b≠S->s.heap.get? b=ap o->(h'.update S f).get? b=ap o:=λf b o hb Ro z=>(BW _ _ (BP Ro)).trans (ZC b o hb z);have frU:∀(f:Obj->Obj),St (j+1) (h'.update S f):=λf=>W.frame _ _ _ acY λb hbf o e=>(BW _ _ (λh:S=b=>hSf (by rw [h];exact hbf))).trans e;refine Aa (Ad ?_);rcases hl with⟨rfl,rfl⟩ | ⟨i,vb,rfl,rfl,hb⟩
  ·refine Aa (CU ZG rfl ?_ (Bc _) (Nat.le_succ_of_le (Vv (Am _))));rw [hn];refine Ad ⟨ww CH _,ih 1 _ [v,v] _ ∅ ff (frU _) (.inr ⟨0,v,rfl,rfl,hP⟩) (BJ _ ZG rfl) λv' h2 ï Rq ZA=>?_⟩;exact hR v' h2 ï Rq λb o hb Ro z=>ZA b o hb Ro (WO _ b o hb Ro z)
  ·refine Aa (En (Bd (Aa (ahx (i+1) (argBest bt i) v vb _ _ _ hP hb ?_))));refine Aa (Bd (C2 (Aa (CN (Ad ?_)))));cases hbt:bt (i+1) (argBest bt i) with
   | true=>
    refine Aa (CU ZG rfl (Aa (CN ?_)) (Vv (Am _)) (Nat.le_succ_of_le (Vv (Am _))));rw [hn];refine Ad ⟨ww CH _,ih (i+2) _ [v,v] _ ∅ ff (frU _) (.inr ⟨i+1,v,rfl,rfl,by simp only [argBest,hbt,if_true];exact hP⟩) (BJ _ ZG rfl) λv' h2 ï Rq ZA=>?_⟩;exact hR v' h2 ï Rq λb o hb Ro z=>ZA b o hb Ro (WO _ b o hb Ro z)
   | false=>
    refine Aa (CN ?_);rw [hn];refine Ad ⟨ww CH _,ih (i+2) _ [vb,vb] c ∅ ff acY (.inr ⟨i+1,vb,rfl,rfl,by simp only [argBest,hbt];exact hb⟩) ZG λv' h2 ï Rq ZA=>?_⟩;exact hR v' h2 ï Rq λb o hb Ro z=>ZA b o hb Ro (ZC b o hb z)
def Og (a:bn):argsOk "min" ⟨[a],dfN⟩:=by unfold argsOk;kernel_rfl
def UL (ns:List Int) (t:Tok):bn:=if ns=[] then .none else .int (qh ns) t
theorem Jl {l:ce} (hh:A.handled=bm) (hl:s.heap.IsList l vs.toArray) (hi:tz vs ns)
  (h:∀(h':mo) (t:Tok) tk,(∀b o,s.heap.get? b=ap o->h'.get? b=ap o)->Q (UL ns t) {s with heap:=h',toks:=tk}):db (dL prog w) A (call (.builtin "min") [.ref l] dfN) Q E s:=by
 obtain⟨xs,e⟩:=hi.allInts.items;have Ip:ns=xs.toList.map (·.1):=by rw [<- hi.numsOf,<- nums_intItems,<- e]
 rw [e] at hl;have hn:(toString "min"++toString ".loop":String)="min.loop":=by decide
 refine kmb_tree F.kind_min F.plain_min F.entry_min (Og _) ?_;refine Aa (Cv (show Builtin.Builtins.bindParams "min" ["key","default"] 0 ⟨[],dfN⟩=pure [bm,ap .none] from rfl) ?_);refine Aa (Ad ?_);refine Aa (iter_intList hl λs₂ e2 st hfp hlI=>?_);subst e2;refine Aa (AE ?_);rw [hn];have W:=Walks.list (A:=A.in1) (prog:=prog) (w:=w) hh s.heap.objs.size l hlI (intItems xs);have hsz:(intItems xs).size=ns.length:=by rw [Ip];simp [intItems]
 refine Ad ⟨ww CH _,Ng W _ (CmpOf.ints_lt (numAt xs) (λ_ _=>intItems_at)) (λhm=>A2 _ (hfp _ hm)) _ 0 _ [] 0 rfl (Bc _) (W.frame _ _ _ st λb _ o e=>Ag _ e) (.inl ⟨rfl,rfl⟩) (Ao _ rfl) λv h' tk hP hk=>?_⟩;have kp:∀b o,s.heap.get? b=ap o->h'.get? b=ap o:=λb o z=>by
  have h1:=Au z;refine hk b o (λy=>AG h1 (A8.mp y)) (λy=>?_) (Ag _ (Ag _ z));rw [y,CG] at h1;exact absurd h1 (Nat.not_lt_of_le (D2 _))
 rcases hP with⟨h0,rfl⟩ | ⟨h0,hP⟩
 ·have e0:ns=[]:=Cf ∅;have:=h h' 0 tk kp;rw [UL,if_pos e0] at this;exact this
 ·obtain⟨t,rfl⟩:=intItems_at hP;have e0:ns≠[]:=λz=>by rw [hsz,z] at h0;exact A2 _ h0
  have h2:=h h' t tk kp;rw [UL,if_neg e0,<- LJ Ip e0] at h2;have ez:(intItems xs).size=xs.size:=by simp [intItems]
  rw [ez];exact h2
end
def abU (K:Ab):List V->Hp->VK->Prop:=λxs H Q=>∃(p:ce) (ns:List Int),xs=[.ref p]/\de K H p (ns.map V.int)/\Q (if ns=[] then .aN else .int (qh ns)) H
def Ue {t:TA} (K:Ab) (hK:X.K=K) (hc:X.calm=true) (hg:Gl X "min") (hm:X.mg "min"=bm) (ha:PA X [e] t) (he:wP pos (f8 [e] X.env)=(false,im e X.env)::wP pos (f8 [] X.env)) (hp:(wP pos (f8 [e] X.env)).any (·.1)=false) :
  PE X (.Call (.Name "min" p) [e] [⟨ap (BB "default"),.Constant .none kc cp,kp⟩] pos) (λσ H Q=>t σ H λvs H'=>abU K vs H' Q):=by
 subst hK;intro Z s σ H Q I h;refine Bz (hV I hg hm boot_min ?_ ⋯ ⋯);refine callWith_kw (cq (ha pos Z s σ H _ I h) λus s1 ⟨vs,H1,I1,r1,q1⟩=>?_) he hp;refine kws_cons (cq (Qc Z s1 σ H1 (λv H2=>v=.aN/\H2=H1) I1 ⟨rfl,rfl⟩) λv s2 ⟨x,H2,I2,r2,e1,e2⟩=>kws_nil ?_);subst e1 e2;cases r2;obtain⟨a,ns,rfl,hq,q⟩:=q1;obtain⟨u,rfl,rx⟩:=vals1 r1;cases rx;obtain⟨au,r',pl,hz⟩:=I2.list hq;refine Jl (I2.ok.hd hc) pl.isList (intsAre_of r') λh' t tk hk=>?_;unfold UL;by_cases c:ns=[]
 ·rw [if_pos c] at q ⊢;exact⟨.aN,_,I2.kept (t':=tk) hk,rfl,q⟩
 ·rw [if_neg c] at q ⊢;exact⟨.int _,_,I2.kept (t':=tk) hk,⟨t,rfl⟩,q⟩
end L2
namespace FL
open PySem PySem.Spec PyProof.Rows L2 PL
def LI (l:List PV):W PV:=.bind (mX l) λns=>.ret (if ns=[] then .aN else .int (qh ns))
def ZZ {K:Ab} (hK:X.K=K) (hc:X.calm=true) (hg:Gl X "min") (hm:X.mg "min"=bm) (ha:Ih X K fs e wl) (hs:gM X e []:=by rfl) (he:wP pos (f8 [e] X.env)=(false,im e X.env)::wP pos (f8 [] X.env):=by rfl) (hp:(wP pos (f8 [e] X.env)).any (·.1)=false:=by rfl) :
  EF X K fs (.Call (.Name "min" p) [e] [⟨ap (BB "default"),.Constant .none kc cp,kp⟩] pos) (.bind wl LI):=⟨PE.imp (Ue K hK hc hg hm (aY ha.p bZ hs) he hp) λσ H Q ⟨sr,q⟩=>⟨sr,wl.mono (λl q1 u1 H1 g1 s1 _ v1=>by
 obtain⟨ns,el,q2⟩:=gJ (l:=l) q1;obtain⟨a,vs,rfl,h1,r1⟩:=v1 H1 .refl s1;rw [el] at r1;have:=jW r1;subst this;refine⟨a,ns,rfl,h1,?_⟩;by_cases c:ns=[]
 ·simp only [if_pos c] at q2 ⊢;exact q2 _ H1 g1 s1 .aN
 ·simp only [if_neg c] at q2 ⊢;exact q2 _ H1 g1 s1 (.int _)) q⟩⟩
end FL
namespace L2
open PySem PySem.Spec PyProof.Rows
def ix3 (x y z q:Str):Nat:=if x=q then 0 else if y=q then 1 else 2
def qi {q:Str}{t2:Tok}:Meets (ut.«tuple.index» ⟨[.ref a,.str q t],[]⟩) (λ_ R s=>(∃o,s.heap.get? a=ap o/\o.data=.seq #[.str x t1,.str y t2,.str z t3] n)/\q∈[x,y,z]/\∀u,R (.ok (.ret (.int (ix3 x y z q:Nat) u))) {s with toks:=s.toks+1}):=by
 refine .of_wp λprog w A R s ⟨⟨o,ho,hd⟩,hq,h⟩=>?_;refine Aa (Ad ?_);refine Aa (Aa (Bx ho hd (Ad ?_)));refine Aa (Ad ?_);refine Aa (Ad ?_);refine Aa ?_;rw [Std.Legacy.Range.forIn_eq_forIn_range'];rw [show List.range' [:min #[Bj x t1,Bj y t2,Bj z t3].size #[Bj x t1,Bj y t2,Bj z t3].size].start [:min #[Bj x t1,Bj y t2,Bj z t3].size #[Bj x t1,Bj y t2,Bj z t3].size].size [:min #[Bj x t1,Bj y t2,Bj z t3].size #[Bj x t1,Bj y t2,Bj z t3].size].step=[0,1,2] from by simp only [Std.Legacy.Range.size,Ai,Ap,Bk];decide];simp only [B5,List.forIn_nil];refine Aa (Aa (DP ?_));have Î:∀k:Nat,ix3 x y z q=k->∃v,Fq (.ret (.int (k:Int) s.toks))=Fq (.ret v)/\R (.ok (.ret v)) {s with toks:=s.toks+1}:=λk e=>⟨_,rfl,by have:=h s.toks;rw [e] at this;exact this⟩;by_cases c1:x=q
 ·subst c1;rw [decide_eq_true rfl,if_pos rfl];exact Aa (Aa (Aa (wpAny_fresh (Ad (Ad (Ad (Ad (Ad (Î 0 (if_pos rfl))))))))))
 ·rw [decide_eq_false c1,if_neg ⋯];refine Ad (Aa (Aa (DP ?_)));by_cases c2:y=q
  ·subst c2;rw [decide_eq_true rfl,if_pos rfl];exact Aa (Aa (Aa (wpAny_fresh (Ad (Ad (Ad (Ad (Ad (Î 1 (by rw [ix3,if_neg c1,if_pos rfl]))))))))))
  ·rw [decide_eq_false c2,if_neg ⋯];refine Ad (Aa (Aa (DP ?_)));have c3:z=q:=by simp at hq;rcases hq with e | e | e <;> first | exact absurd e.symm c1 | exact absurd e.symm c2 | exact e.symm
   subst c3;rw [decide_eq_true rfl,if_pos rfl];exact Aa (Aa (Aa (wpAny_fresh (Ad (Ad (Ad (Ad (Ad (Î 2 (by rw [ix3,if_neg c1,if_neg c2]))))))))))
def abZ (K:Ab):V->List V->Hp->VK->Prop:=λv vs H Q=>∃a x y z q,v=.ref a/\vs=[.str q]/\dR K H a [.str x,.str y,.str z]/\q∈[x,y,z]/\Q (.int (ix3 x y z q:Nat)) H
def UH (K:Ab) (hK:X.K=K):KU X "tuple.index" (abZ K):=by
 subst hK;intro Z s σ H v vs u us Q I rx rv h;obtain⟨a,x,y,z,q,rfl,rfl,hq,hm,qq⟩:=h;cases rx;obtain⟨u,rfl,ru⟩:=rv.one;obtain⟨t,rfl⟩:=ru;obtain⟨au,r,pl,hz⟩:=I.tuple hq;obtain⟨o,ho,hc,n,hd⟩:=pl;cases r with
 | cons q1 r=>cases r with
  | cons q2 r=>cases r with
   | cons q3 r=>
    cases r;obtain⟨t1,rfl⟩:=q1;obtain⟨t2,rfl⟩:=q2;obtain⟨t3,rfl⟩:=q3;exact sB F.slot_tuple_index ⟨_,ho,hc⟩ F.entry_tuple_index (F.args_tuple_index_2 _ _) qi ⟨⟨_,ho,hd⟩,hm,λu=>⟨.int _,H,I.tok _,⟨u,rfl⟩,qq⟩⟩
end L2
namespace FL
open PySem PySem.Spec PyProof.Rows L2 PL
def Ra (ts:List Str):PV->W PV
 | .str q=>match ts with
  | [x,y,z]=>.fj (q∈[x,y,z]) (.ret (.int (ix3 x y z q:Nat)))
  | _=>.fail
 | _=>.fail
def Z0 {K:Ab}{w:W PV}{n:Str}{ad:ce} (hK:X.K=K) (he:EF X K fs e w) (hm:X.mg n=ap (.ref ad)) (T:Sx K ad ts) (hg:Gl X n:=by rfl) (hd:jg n:=by decide)
  (c6:kw (.Name n p) "index" X.env (im (.Name n p) X.env)=im (.Name n p) X.env:=by rfl)
  (nv:Xr X bg [e]:=by rfl)
  (cZ:Oo Â bg:=by rfl) (o6:gM X e []:=by rfl) (eI:kL X bg []:=by rfl) :
  EF X K fs (.Call (.Attribute (.Name n p) "index" Â) [e] [] bg) (.bind w (Ra ts)):=
 ⟨PE.imp (qe K hK PySem.F.plainAttrs_tuple PySem.F.slot_tuple_index PySem.F.type_tuple_index (UH K hK) (rV hg hm (v:=.ref ad) rfl hd) (aY he.p bZ o6) c6 nv cZ o6 eI) λσ H Q ⟨sr,q⟩=>
  ⟨.inr (.inl ⟨rfl,T.tn⟩),sr,w.mono (λx q2 u2 H2 g2 s2 v2=>by
   cases v2 <;> first | exact q2.elim | skip
   match ts,T,q2 with
   | [x,y,z],T,q2=>exact⟨ad,x,y,z,_,rfl,rfl,.inr T.ex,q2.1,q2.2 _ H2 g2 s2 (.int _)⟩
   | [],_,q2=>exact q2.elim
   | [_],_,q2=>exact q2.elim
   | [_,_],_,q2=>exact q2.elim
   | _::_::_::_::_,_,q2=>exact q2.elim) q⟩⟩
section
variable {K:Ab}
def xD (l:List PV):PV->W (List PV×PV)
 | .int k=>.bind (.Im (wd l.length k)) λj=>.bind (.Im l[j]?) λv=>.fj (l.length<=sizeLine) (.ret (l.eraseIdx j,v))
 | _=>.fail
theorem aL.erase:∀{ws:List V}{l:List PV} (j:Nat),aL K [] H ws l->aL K [] H (ws.eraseIdx j) (l.eraseIdx j)
 | _,_,_,.nil=>by simp only [List.eraseIdx_nil];exact .nil
 | _,_,0,.cons _ t=>t
 | _,_,j+1,.cons r t=>by rw [CM,CM];exact .cons r (aL.erase j t)
section
variable {rest:List v4}{T:Type}{out:T->End}{x:Bool}
theorem SF.agn (i j:Nat) {k:List PV×PV->W T} (hs:fs[i]?=ap (ap (.ol q0 l))) (Ą:j≠i) (hK:X.K=K) (hN:X.N[i]?=ap y) (hv:zM X.env.scope y) (Ō:X.N.Nodup) (hj:X.N[j]?=ap z) (hx:Loc X.env.scope z) (he:EF X K fs e we) (hr:∀t:List PV×PV,SF X K x ((fs.set i (ap (.ol q0 t.1))).set j (ap (.val t.2))) rest (k t) out)
  (hd:jg y:=by decide) (jB:Ij y:=by decide) (c6:kw (.Name y p) "pop" X.env (im (.Name y p) X.env)=im (.Name y p) X.env:=by rfl)
  (nv:Xr X bg [e]:=by rfl)
  (cZ:Oo Â bg:=by rfl) (o6:gM X e []:=by rfl) (eI:kL X bg []:=by rfl)
  (vm:lm (.Call (.Attribute (.Name y p) "pop" Â) [e] [] bg) (ap (.Name z p')) pos.line X.env=pure false:=by rfl) (hf:OB X z:=by first | exact .inl rfl | exact .inr rfl | assumption) :
  SF X K x fs (.Assign [.Name z p'] (.Call (.Attribute (.Name y p) "pop" Â) [e] [] bg) pos::rest) (.bind we λn=>.bind (xD l n) k) out:=
 SF.step (tq Ō hj hx (qe K hK BQ Fj Fi Qt (eE hN hv hd jB) (aY he.p bZ o6) c6 nv cZ o6 eI) vm hf) λD σ H ⟨sr,q⟩=>by
  obtain⟨a,ws,e1,h1,r1⟩:=eF sr hs;refine⟨_,e1,.inl ⟨rfl,_,de.of h1⟩,sr,we.mono (λn q1 u H1 g1 s1 v1=>?_) q⟩;obtain⟨a',sL,rH,ib,u7⟩:=eF s1 hs;rw [e1] at rH;cases rH;cases v1 with
  | int kk=>
   have q1:(am (.Im (wd l.length kk)) λj=>.bind (.Im l[j]?) λv=>.fj (l.length<=sizeLine) (.ret (l.eraseIdx j,v))).run λt=>(k t).run λt=>bR K x σ fs H D (out t):=q1;cases hx:wd l.length kk with
   | none=>rw [hx] at q1;exact q1.elim
   | some m=>
   cases hv:l[m]? with
   | none=>rw [hx] at q1;simp only [u8,ga,hv] at q1;exact q1.elim
   | some v=>
   rw [hx] at q1;simp only [u8,ga,hv] at q1;obtain⟨hz,q1⟩:=q1;obtain⟨uu,hu,ru⟩:=u7.get hv;obtain⟨h3,h4,h5,h6⟩:=yj hx;have h9:(sizeLine:Int) < 2 ^ 63:=by decide
   refine⟨a,sL,kk,m,uu,rfl,rfl,ib,by omega,by omega,by rw [u7.length];exact h3,hu,?_⟩;have sx:qY a H1 (upd H1 a (.lst (sL.eraseIdx m))):=λz o n hz=>by rw [ax n];exact hz
   obtain⟨s2,g2⟩:=gT (t':=.ol q0 (l.eraseIdx m)) s1 hs rfl (by simp) e1 sx λtk=>⟨λb hb=>by
    subst hb;obtain⟨u,e2,⟨v,e,_⟩ | ⟨b',e,z,_⟩⟩:=s1.at' i _ hs
    ·cases e
    ·rw [e2] at e1;cases e1;cases e;exact z b rfl,_,aU,aL.tk tk (aL.erase m u7)⟩
   have s3:=s2.dX (g2.vr s1 ru) j;exact⟨_,k _,hr (l.eraseIdx m,v),s3,(k _).mono (λt q2=>q2.go ((g1.f.trans g2).trans (cU.dX s2 _ _ j)) sr s3) q1⟩
  | _=>exact q1.elim
end
end
section
variable {K:Ab}
def Gm (kvs:List (List Key×PV)) (k:List Key) (v:PV):List (List Key×PV):=
 if (kvs.any λkv=>decide (kv.1=k)) then kvs.map λkv=>if kv.1=k then (kv.1,v) else kv else kvs++[(k,v)]
section
theorem bV.ind {C:List (List Key×V)->List (List Key×PV)->Prop} (h0:C [] []) (h1:∀(p:List Key×V) (q:List Key×PV) vs kvs,p.1=q.1->VR K [] H p.2 q.2->bV K H vs kvs->C vs kvs->C (p::vs) (q::kvs)):∀{vs kvs},bV K H vs kvs->C vs kvs
 | [],[],_=>h0
 | [],_::_,h=>by simp [bV] at h
 | _::_,[],h=>by simp [bV] at h
 | p::vs,q::kvs,⟨a,b⟩=>by
  rw [Aq,Aq] at a b;injection a with a1 a2;cases b with
  | cons r t=>exact h1 p q vs kvs a1 r ⟨a2,t⟩ (bV.ind h0 h1 ⟨a2,t⟩)
def bV.mk' {p:List Key×V}{q:List Key×PV}{vs kvs} (e:p.1=q.1) (r:VR K [] H p.2 q.2) (h:bV K H vs kvs):bV K H (p::vs) (q::kvs):=⟨by rw [Aq,Aq,e,h.1],.cons r h.2⟩
def bV.put {vs:List (List Key×V)} (h:bV K H vs kvs) (k:List Key) (r:VR K [] H u v):bV K H (putK vs k u) (Gm kvs k v):=by
 have hh:(vs.any λkv=>decide (kv.1=k))=kvs.any λkv=>decide (kv.1=k):=bV.ind (C:=λvs kvs=>(vs.any λkv=>decide (kv.1=k))=kvs.any λkv=>decide (kv.1=k)) rfl (λp q vs kvs e _ _ ih=>by rw [BM,BM,ih,e]) h;unfold putK Gm;rw [hh]
 split
 ·refine bV.ind (C:=λvs kvs=>bV K H (vs.map λkv=>if kv.1=k then (kv.1,u) else kv) (kvs.map λkv=>if kv.1=k then (kv.1,v) else kv)) ⟨rfl,.nil⟩ (λp q vs kvs e rr _ ih=>?_) h;rw [Aq,Aq];by_cases c:p.1=k
  ·rw [if_pos c,if_pos (e▸c)];exact bV.mk' e r ih
  ·rw [if_neg c,if_neg (e▸c)];exact bV.mk' e rr ih
 ·exact bV.ind (C:=λvs kvs=>bV K H (vs++[(k,u)]) (kvs++[(k,v)])) ⟨rfl,.cons r .nil⟩ (λp q vs kvs e rr _ ih=>bV.mk' e rr ih) h
end
section
variable {a ei:ii}{rest:List v4}{T:Type}{out:T->End}{x:Bool}
def oD (sr:aX K H σ fs) (hs:fs[i]?=ap (ap (.ot kvs))):∃a vs,σ[i]?=ap (ap (.ref a))/\H a=ap (.dT vs)/\bV K H vs kvs:=by
 obtain⟨u,e1,⟨v,e,_⟩ | ⟨a,e,vs,q⟩⟩:=sr.at' i _ hs
 ·cases e
 ·subst e;exact⟨a,vs,e1,q⟩
def SF.abF {k:W T} (hN:X.N.Nodup) (hi:X.N[i]?=ap y) (hx:Loc X.env.scope y) (hr:SF X K x (fs.set i (ap (.ot []))) rest k out) (hs:lm (.Dict [] [] p2) (ap (.Name y p')) pos.line X.env=pure false:=by rfl)
  (hf:OB X y:=by first | exact .inl rfl | exact .inr rfl | assumption):SF X K x fs (.Assign [.Name y p'] (.Dict [] [] p2) pos::rest) k out:=SF.step (tq hN hi hx Qd hs hf) λD σ H ⟨sr,q⟩=>λa n1=>by
 have s1:=jo n1 (.dT []);have no:=sr.noOwn n1;have s2:=(sr.same s1).IV (t:=.ot []) ⟨[],aU,rfl,.nil⟩ no i;exact⟨_,k,hr,s2,k.mono (λt q2=>q2.go (cU.IV (sr.same s1) (cU.same s1 sr) no n1 i) sr s2) q⟩
def acL:PV->Option Key
 | .int i=>ap (.inl i)
 | .str s=>ap (.inr s)
 | _=>bm
def tX:List PV->Option (List Key)
 | []=>ap []
 | p::l=>(acL p).bind λk=>(tX l).bind λks=>ap (k::ks)
def tY:PV->W (List Key)
 | .tup l=>.Im (tX l)
 | _=>.fail
theorem vZ:∀{l:List PV}{ks:List Key},tX l=ap ks->l=ks.map kP
 | [],ks,h=>by cases h;rfl
 | p::l,ks,h=>by
  unfold tX at h;cases e:acL p with
  | none=>rw [e] at h;cases h
  | some k=>
  cases e2:tX l with
  | none=>rw [e,e2] at h;cases h
  | some ks'=>
  rw [e,e2] at h;cases h;rw [vZ e2];cases p <;> first | cases e | skip
  all_goals rfl
def QJ {Q:List Key->Prop} (r:VR K [] H u v) (q:(tY v).run Q):∃b k,u=.ref b/\H b=ap (.tup (k.map kV))/\Q k:=by
 cases r with
 | @tup b vs l e rs=>
  have q:(W.Im (tX l)).run Q:=q;cases h:tX l with
  | none=>rw [h] at q;exact q.elim
  | some k=>
   rw [h] at q;rw [vZ h] at rs;rw [He rs] at e;exact⟨b,k,rfl,e,q⟩
 | _=>exact q.elim
theorem Z1 (i:Nat) (hs:fs[i]?=ap (ap (.ot kvs))) (hu:X.A.units+200 < pc) (ha:EF X K fs a wa) (hN:X.N[i]?=ap y:=by rfl) (hv:zM X.env.scope y:=by first | exact C0 rfl | exact CI (C0 rfl) | exact CI (CI rfl)) (hd:jg y:=by decide) (jB:Ij y:=by decide) (hsl:Wb a) :
  EF X K fs (.Subscript (.Name y p) a pos) (.bind wa λx=>.bind (tY x) λk=>.Im (cL kvs k)):=⟨PE.imp (Lv ∅ (eE hN hv hd jB) ha.p hsl) λσ H Q ⟨sr,q⟩=>by
 obtain⟨a,vs,e1,h1,r1⟩:=oD sr hs;refine⟨_,e1,sr,wa.mono (λv q1 u H1 g1 s1 v1=>?_) q⟩;obtain⟨b,k,rfl,eb,q2⟩:=QJ v1 q1;have q2:(W.Im (cL kvs k)).run _:=q2;obtain⟨a',Oq,rH,ib,u7⟩:=oD s1 hs;rw [e1] at rH;cases rH;cases hg:cL kvs k with
 | none=>rw [hg] at q2;exact q2.elim
 | some z=>
  rw [hg] at q2;obtain⟨u,k1,k2⟩:=u7.get.2 hg;exact⟨a,u,rfl,by rw [<- k1];exact KW.t ib eb,q2 u H1 g1 s1 k2⟩⟩
def PN (kvs:List (List Key×PV)) (n v:PV):W (List (List Key×PV)):=.bind (tY n) λkk=>.fj (kvs.length < sizeLine) (.ret (Gm kvs kk v))
theorem SF.Gm (i:Nat) {k:List (List Key×PV)->W T} (hs:fs[i]?=ap (ap (.ot kvs))) (hu:X.A.units+200 < pc) (hN:X.N[i]?=ap y) (hv:zM X.env.scope y) (he:EF X K fs e we) (hi:EF X K fs ei wi) (hr:∀l',SF X K x (fs.set i (ap (.ot l'))) rest (k l') out)
  (hd:jg y:=by decide) (jB:Ij y:=by decide) (vm:lm e (ap (.Subscript (.Name y p) ei xf)) pos.line X.env=pure false:=by rfl) :
  SF X K x fs (.Assign [.Subscript (.Name y p) ei xf] e pos::rest) (.bind we λv=>.bind wi λn=>.bind (PN kvs n v) k) out:=
 SF.step (TZ ∅ (eE hN hv hd jB) hi.p he.p vm) λD σ H ⟨sr,q⟩=>by
  refine⟨sr,we.mono (λv q1 u H1 g1 s1 v1=>?_) q⟩;obtain⟨a,vs,e1,h1,r1⟩:=oD s1 hs;refine⟨_,e1,s1,wi.mono (λn q2 u2 H2 g2 s2 v2=>?_) q1⟩;obtain⟨b,kk,rfl,eb,hz,q3⟩:=QJ v2 q2;obtain⟨a',Oq,rH,ib,u7⟩:=oD s2 hs;rw [e1] at rH;cases rH;have len:Oq.length=kvs.length:=by have:=congrArg BS u7.1;simpa using this
  refine⟨a,_,rfl,SG.t ib eb (by rw [len];exact hz),?_⟩;have sx:qY a H2 (upd H2 a (.dT (putK Oq kk u))):=λz o n hz=>by rw [ax n];exact hz
  have rp:=u7.put kk (g2.vr s1 v1);obtain⟨s3,g3⟩:=gT (t':=.ot (FL.Gm kvs kk v)) s2 hs rfl (by simp) e1 sx λtk=>⟨_,aU,rp.1,aL.tk tk rp.2⟩;exact⟨_,k _,hr _,s3,(k _).mono (λt q4=>q4.go ((g1.trans g2).f.trans g3) sr s3) q3⟩
end
end
end FL
variable {es:Array PySem.DictEntry}
namespace L2
open PySem PySem.Spec PyProof.Rows
section
def S2:Builtin.Dict_items.ownsTuple "dict_valueiterator"=false:=by decide
def LH {Q:String->cr->Prop} (ty:s.TypeIs (.ref it) "dict_valueiterator") (h:Q "dict_valueiterator" s):db (dL prog w) A (typeNameOfWhole (.ref it)) Q E s:=wpAny_typeNameOfWhole_valiter ty h
theorem Qp {Q:Option bn->cr->Prop} (Î:s.heap.IsValIter it d i es.size ep) (hm:pG s.heap d es ep) (hi:i < es.size)
  (q:∀h',h'.IsValIter it d (i+1) es.size ep->BN it s.heap h'->Q (ap es[i].val) {s with heap:=h'}):db (dL prog w) A (FS (.ref it)) Q E s:=by
 have ty:=Î.typeIs;obtain⟨o,ho,hc,hd⟩:=id Î;obtain⟨od,zK,-,zL⟩:=hm;have Hh:(s.heap.update it (DU (·.setIfInBounds 1 (ss ((i:Int)+1))))).IsValIter it d (i+1) es.size ep:=⟨_,BJ _ ho (DE (Cn hd _)),(EG ..).trans hc,by rw [Cn hd];simp [ss]⟩;refine Aa (CC (AN (name:=BB "__next__") ty BC (A1 BC ty DA ?_ (Dr _))));refine Aa (Ad (Aa (Aa ?_)));refine Aa (LH ty (Ad ?_));refine Aa (Er ho hd ?_);show db _ _ (if (AB d==AL)=true then _ else _) _ _ s;rw [if_neg (λz:(AB d==AL)=true=>AR z)];refine Aa (Ad (Aa (Cw zK zL ?_)));rw [if_neg (by simp)];refine Aa (Ad (Aa (CV zK zL ?_)));rw [if_neg (by simp)];refine Ad ?_;have i0:¬((i:Int) < 0):=by omega
 simp only [i0,if_false,AW,Bq hi];refine Aa ?_;refine Aa (LH ty (Ad ?_));refine Aa (DH ty ?_);show db _ _ (wn (.ref it) 1 (ss ((i:Int)+1)) >>= _) _ _ s;refine Aa (C6 ho hd (by simp) (Aa (Bd ?_)));refine Aa (DH (s:={s with heap:=s.heap.update it (DU (·.setIfInBounds 1 (ss ((i:Int)+1))))}) Hh.typeIs ?_);refine Aa (DH (s:={s with heap:=s.heap.update it (DU (·.setIfInBounds 1 (ss ((i:Int)+1))))}) Hh.typeIs ?_);exact Ad (Ad ⟨_,rfl,Ad (q _ Hh (BN.update ..))⟩)
theorem VD {Q:Option bn->cr->Prop} (hh:A.handled=bm) (Î:s.heap.IsValIter it d i es.size ep) (hm:pG s.heap d es ep) (hi:es.size<=i)
  (q:∀h',EH it s.heap h'->Q bm {s with heap:=h'}):db (dL prog w) A (FS (.ref it)) Q E s:=by
 have ty:=Î.typeIs;obtain⟨o,ho,hc,hd⟩:=id Î;obtain⟨od,zK,-,zL⟩:=hm;refine Aa (CC (AN (name:=BB "__next__") ty BC (A1 BC ty DA ?_ (Dr _))));refine Aa (Ad (Aa (Aa ?_)));refine Aa (LH ty (Ad ?_));refine Aa (Er ho hd ?_);show db _ _ (if (AB d==AL)=true then _ else _) _ _ s;rw [if_neg (λz:(AB d==AL)=true=>AR z)];refine Aa (Ad (Aa (Cw zK zL ?_)));rw [if_neg (by simp)];refine Aa (Ad (Aa (CV zK zL ?_)));rw [if_neg (by simp)];refine Ad ?_;have i0:¬((i:Int) < 0):=by omega
 simp only [i0,if_false,AW,CT hi];refine Aa ?_;refine Aa (LH ty (Ad ?_));show db _ _ (wn (.ref it) 0 .none >>= _) _ _ s;refine Aa (C6 ho hd (by simp) ?_);refine Aa ?_;refine Aa (AE (Aa (m:=firstArgMember _ _) (Cv (a:=AL) (by first | rfl | (simp only [firstArgMember];rfl)) (AE ?_ (by size_fits)))) (by size_fits));unfold raiseNew;refine Aa (FK ?_);rw [show A.in1.handled=bm from hh];refine Aa (Ad (wpAny_throw ?_));refine Aa (Dc (T:="StopIteration") (b:=true) ⟨_,Ao _ rfl,rfl⟩ isSubtype_stop ?_);exact Ad (q _ (((BN.update ..).extBut.push _).push _))
def Q0 {v:ce} (hv:s.heap.IsValuesView v d) (hm:pG s.heap d es ep)
  (q:Q (.ref s.heap.objs.size) {s with heap:=s.heap.push {cls:=.type "dict_valueiterator",data:=.fields #[.ref d,.int 0 0,.int es.size 0,.int ep 0]}}):db (dL prog w) A (pyIter (.ref v)) Q E s:=by
 obtain⟨ov,hov,hcv,hdv⟩:=id hv;obtain⟨od,zK,hx,zL⟩:=hm;refine wpAny_pyIter_slot hv.typeIs EU (A1 EU hv.typeIs F.entry_dict_values_iter ?_ (F.args_dict_values_iter_1 _));unfold ut.«dict_values.__iter__»;refine Aa (Ad (Aa ?_));unfold Builtin.Dict_items.dictOf;refine Aa (AZ hov hdv (x:=.ref d) rfl (Ad (Aa ?_)));unfold Builtin.Dict_items.newIterator;refine Aa (Cw zK zL (Aa (CV zK zL ?_)));simp only [S2,Av,if_false];refine AE (Ad ⟨_,rfl,"dict_valueiterator",_,⟨_,Ao _ rfl,rfl⟩,BC.lookup,?_⟩);simpa [ss] using q
def pG.ext (m:pG h d es ep) (hs:EH b h h') (n:d≠b):pG h' d es ep:=let ⟨o,a,c⟩:=m;⟨o,hs d o n a,c⟩
def OS (hh:A.handled=bm) (I d:ce) (Rg:d≠I) (es:Array DictEntry) (ep:Nat) :
  Walks prog w A I [I,d] [I] es.size (λi v=>∃h:i < es.size,v=es[i].val) (λi h=>h.IsValIter I d i es.size ep/\pG h d es ep) where
 sub:=λb hb=>by simp at hb;simp [hb]
 frame:=λ_ _ _ st hk=>⟨let ⟨o,a,c⟩:=st.1;⟨o,hk I (by simp) o a,c⟩,let ⟨o,a,c⟩:=st.2;⟨o,hk d (by simp) o a,c⟩⟩
 item:=λi s Q E hi st hQ=>Qp st.1 st.2 hi λh' Hh ç=>hQ _ h' s.toks ⟨hi,rfl⟩ ⟨Hh,st.2.ext ç.extBut Rg⟩ λb o hb e=>ç.extBut b o (λh=>hb (by simp [h])) e
 done:=λs Q E st hQ=>VD hh st.1 st.2 (Am _) λh' he'=>hQ h' s.toks λb o hb e=>he' b o (λh=>hb (by simp [h])) e
 self:=λ_ _ _ _ st hQ=>wpAny_pyIter_valiter st.1 hQ
def Th {r:ce}:PySem.W.KdlSrc prog w "dict_values" r d es.size (λi v=>∃h:i < es.size,v=es[i].val) (λh=>h.IsValuesView r d/\pG h d es ep) where
 type:=λ_ hm=>hm.1.typeIs
 there:=λ_ hm=>⟨let ⟨_,ho,_⟩:=hm.1;Au ho,let ⟨_,ho,_⟩:=hm.2;Au ho⟩
 keep:=λ_ _ hm hk=>⟨let ⟨o,ho,x⟩:=hm.1;⟨o,hk r (.inl rfl) o ho,x⟩,let ⟨o,ho,x⟩:=hm.2;⟨o,hk d (.inr rfl) o ho,x⟩⟩
 notList:=by decide
 notTuple:=by decide
 hint:=λ_ _ _ _ hm hq=>PySem.W.kdl_hint_values hm.1.typeIs hq
 iter:=λ_ _ hh hm=>⟨_,_,(λ_ _ hq=>Q0 hm.1 hm.2 hq),OS hh _ d (let ⟨_,ho,_⟩:=hm.2;AG (Au ho)) es ep,⟨⟨_,Ao _ rfl,rfl,rfl⟩,let ⟨o,ho,x⟩:=hm.2;⟨o,Ag _ ho,x⟩⟩⟩
def Jm (hd:(d==sw)=false):MeetsIn prog w (ut.«dict.values» ⟨[.ref d],[]⟩) (λ_ R s=>pG s.heap d es ep/\R (.ok (.ret (.ref s.heap.objs.size))) {s with heap:=s.heap.push {cls:=.type "dict_values",data:=.fields #[.ref d]}}):=
 .of_wp λA R s ⟨⟨o,ho,hx,zL⟩,h⟩=>by
  refine Aa ?_;unfold Builtin.Dict.noArgs;refine Aa (DG ⟨_,ho,hx.1⟩ ?_);show db _ _ (pure d) _ _ s;refine Ad ?_;show db _ _ (Builtin.Dict.showsAll d >>= _) _ _ s;unfold Builtin.Dict.showsAll;rw [if_neg (by rw [hd];exact AR)];exact Aa (Ad (Aa (AE (Ad ⟨_,rfl,h⟩))))
end
def abj (te:TE):TE:=λσ H Q=>te σ H λx H1=>∃a kvs,x=.ref a/\H1 a=ap (.dT kvs)/\kJ H1 (.lst (kvs.map (·.2))) Q
theorem Ub (hc:X.calm=true) (hg:Gl X "list") (hm:X.mg "list"=bm) (he:PE X o te)
  (c6:kw o "values" X.env (im o X.env)=im o X.env:=by rfl) (cZ:Oo Â bg:=by rfl)
  (hs:f8 [.Call (.Attribute o "values" Â) [] [] bg] X.env=(false,im (.Call (.Attribute o "values" Â) [] [] bg) X.env)::f8 [] X.env:=by rfl) :
  PE X (.Call (.Name "list" p1) [.Call (.Attribute o "values" Â) [] [] bg] [] p2) (abj te):=by
 intro Z s σ H Q I h;refine Bz (hV I hg hm boot_list ?_ ⋯ ⋯);refine Bb ?_ hs rfl;refine B9 ?_;refine wpAny_Call_method0_late c6 cZ (cq (he Z s σ H _ I h) λv s1 ⟨x,H1,I1,r1,a,kvs,ex,ha,q⟩=>?_);subst ex;cases r1;obtain⟨z,WZ,xs,r,ob,es,ep,h1,h2,h3,h4,h5⟩:=(show ba X.prog X.w H1 s1.heap a (.dT kvs) from I1.bC a _ ha);have ã:pG s1.heap a es ep:=⟨ob,h1,h2,h3⟩;have hl:es.size=xs.length:=by have:=congrArg BS h4;simpa using this
 have ł:=Paired.length r;refine⟨"dict","dict.values",PySem.F.plainAttrs_dict,EM,PySem.F.type_dict_values,⟨_,h1,h2.1⟩,?_,Ds rfl (FG (call_meetsIn EM ⟨_,h1,h2.1⟩ PySem.F.entry_dict_values (PySem.F.args_dict_values_1 _) (Jm (es:=es) (ep:=ep) WZ) ⟨ã,?_⟩))⟩
 ·exact λb e=>by cases e;exact⟨ob,h1,h2.2.1⟩
 ·refine Cu ?_;have kp:∀b u,s1.heap.get? b=ap u->(s1.heap.push {cls:=.type "dict_values",data:=.fields #[.ref a]}).get? b=ap u:=λb u e=>Ag _ e;refine PySem.W.kdl_call (Th (d:=a) (r:=s1.heap.objs.size) (es:=es) (ep:=ep)) (I1.ok.hd hc) ⟨⟨_,Ao _ rfl,rfl,rfl⟩,let ⟨u,e,x⟩:=ã;⟨u,kp _ _ e,x⟩⟩ ∅ λh' tk Ä c hk hS ha'=>?_;have rv:Vals (kvs.map (·.2)) Ä.toList:=by
   have ea:Ä.toList=xs.map (·.2.2):=by
    obtain⟨z1,z2⟩:=ha';apply Ci;intro j;by_cases hj:j < Ä.size
    ·obtain⟨Rh,e⟩:=z2 j Ä[j] (Bq hj);rw [B7,Bq hj,e];have e4:es.toList[j]?=ap es[j]:=by rw [B7];exact Bq Rh
     rw [h4,Ak] at e4;rw [Ak];cases hx:xs[j]? with
     | none=>rw [hx] at e4;cases e4
     | some x=>rw [hx] at e4;have:=Option.some.inj e4;rw [<- this];rfl
    ·rw [B7,CT ∅,A6 (by rw [Af];omega)]
   rw [ea];clear h4 h5 hl ł z hk hS ha' ea q ha
   induction r with
   | nil=>exact .nil
   | cons h _ ih=>exact .cons h.2.2 ih
  have kk:∀b u,s1.heap.get? b=ap u->h'.get? b=ap u:=λb u e=>hk b u (kp b u e);have qx:s1.heap.objs.size<=(s1.heap.push {cls:=.type "dict_values",data:=.fields #[.ref a]}).objs.size:=by simp [Heap.push]
  refine⟨.ref _,upd H1 _ (.lst (kvs.map (·.2))),I1.laid (t':=tk) kk qx ?_,rfl,q.at _ (I1.bC.fresh qx)⟩;exact⟨by rw [Af];exact z,Ä.toList,c,rv,by rw [Fz];exact hS⟩
end L2
namespace FL
open PySem PySem.Spec PyProof.Rows L2 PL
def Y7 {K:Ab} (i:Nat) (hs:fs[i]?=ap (ap (.ot kvs))) (hc:X.calm=true) (hg:Gl X "list") (hm:X.mg "list"=bm) (hN:X.N[i]?=ap y:=by rfl) (hv:zM X.env.scope y:=by first | exact C0 rfl | exact CI (C0 rfl) | exact CI (CI rfl)) (hd:jg y:=by decide) (jB:Ij y:=by decide)
  (c6:kw (.Name y p) "values" X.env (im (.Name y p) X.env)=im (.Name y p) X.env:=by rfl) (cZ:Oo Â bg:=by rfl)
  (o6:f8 [.Call (.Attribute (.Name y p) "values" Â) [] [] bg] X.env=(false,im (.Call (.Attribute (.Name y p) "values" Â) [] [] bg) X.env)::f8 [] X.env:=by rfl) :
  LF X K fs (.Call (.Name "list" p1) [.Call (.Attribute (.Name y p) "values" Â) [] [] bg] [] p2) (.ret (kvs.map (·.2))):=⟨PE.imp (Ub hc hg hm (eE hN hv hd jB) c6 cZ o6) λσ H Q ⟨sr,q⟩=>by
 obtain⟨a,vs,e1,h1,r1⟩:=oD sr hs;exact⟨_,e1,a,vs,rfl,h1,GJ .refl sr r1.2 q⟩⟩
end FL
variable {es:List BX}
namespace FL
open PySem PySem.Spec PyProof.Rows L2 PL
theorem VM {K:Ab}{G0:List Int->Prop} (G:SX X.prog X.w X.K X.mg X.base x k ps (gz K (.p (lS G0)::ks) m)) (hr:cS k' X.A) (h0:LF X K fs e wl) (ha:AF X K fs es ks B) (hv:∀y∈ks,y=.v:=by simp) (hk:k<=k':=by first | exact DJ rfl | exact Am _ | omega) (hg:Gl X x:=by rfl) (hW:W'=.bind wl λl=>.fj (∃ns:List Int,l=ns.map PV.int/\G0 ns) (B m):=by rfl) (ny:jg x:=by decide)
  (he:gM X e es:=by rfl) (dQ:kL X pos es:=by rfl):EF X K fs (.Call (.Name x p) (e::es) [] pos) W':=by
 subst hW;obtain⟨w,hp,hB⟩:=ha.p;rw [hB];refine⟨PE.imp (Ja G hr hk hg (aY h0.p hp he) ny he dQ) λσ H Q ⟨sr,q⟩=>⟨sr,wl.mono (λl q1 a ws H1 g1 s1 n0 e1 v1=>⟨s1,w.mono (λlv q2 vs2 H2 g2 s2 args=>?_) q1.2⟩) q⟩⟩;obtain⟨ns,el,hG⟩:=q1.1;have na:∀φ,¬iu σ fs φ a:=λφ z=>sr.noOwn n0 z.u9;have e2:H2 a=ap (.lst ws):=g2.keep a _ e1 na;rw [el] at v1;have ew:=jW v1;refine⟨lv,.p e2 ⟨ns,ew,hG⟩ (args.c s2),(m lv).mono (λz q3 u H3 gc r3=>?_) q2⟩;have kp:∀b o,b≠a->H2 b=ap o->H3 b=ap o:=λb o n hb=>gc.keep b o hb λφ ⟨i,z1,z2⟩=>by
  cases i with
  | zero=>simp at z2;exact n z2.symm
  | succ i=>
   have:=hv _ (Bo (show ks[i]?=ap (.p φ) by simpa using z1));cases this
 have s3:aX K H3 σ fs:=⟨s2.len,λi t z=>by
  obtain⟨u,k1,k2⟩:=s2.at' i t z;have tk:bq K H2 H3:=⟨λb vs z=>kp b _ (λy=>by subst y;rw [e2] at z;cases z) z,λb o u z=>kp b _ (λy=>by subst y;rw [e2] at z;cases z) z⟩;exact⟨u,k1,k2.mono tk λx b o eb ow hb zz=>kp b o (λy=>by subst y;subst eb;exact sr.noOwn n0 ⟨i,t,x,z,ow,k1,hb⟩) zz⟩,s2.nd⟩
 have g3:dg σ fs H H3:=⟨λb o hb n=>kp b o (λy=>by subst y;rw [n0] at hb;cases hb) (g2.keep b o (g1.keep b o hb n) n),λb hb=>g1.there b (g2.there b (gc.there b hb))⟩;exact q3 u H3 g3 s3 r3
def iw (ns:List Int):Prop:=∃g s c:Int,ns=[g,s,c]/\0<=g/\0<=s/\s < 2305843009213693951/\0<=c
def drawn (m:Int):W PV:=.any λv=>∃d:Int,v=.int d/\0<=d/\d < m
def bK:PV->W PV
 | .int m=>.fj (0 < m/\m<=2000) (drawn m)
 | _=>.fail
end FL
variable {i j:Int}
namespace FL
open PySem PySem.Spec PyProof.Rows L2 PL
def tu:of2 (aI g) (.int i) (.int j)=.ret (g i j):=xL λQ=>⟨Df,λq=>⟨rfl,q⟩⟩
def rX {C:Int->Int->Prop}:of2 (aIc C g) (.int i) (.int j)=.fj (C i j) (.ret (g i j)):=xL λQ=>⟨λq=>⟨q.1,q.2.2⟩,λq=>⟨q.1,rfl,q.2⟩⟩
section
variable (i j:Int) (a:Bool) (x y:PV) (l m:List PV) (s t:Str)
@[simp] theorem yM:of2 GD (.int i) (.int j)=.ret (.int (i-j)):=tu
@[simp] theorem yO:of2 kI (.int i) (.int j)=.fj (wE i j) (.ret (.int (i*j))):=rX
@[simp] theorem ah1:of2 oDiv (.int i) (.int j)=.fj (Om i j) (.ret (.int (i / j))):=rX
@[simp] theorem RN:of2 oMod (.int i) (.int j)=.fj (0 < j) (.ret (.int (i % j))):=rX
@[simp] theorem RL:of2 Ql (.int i) (.int j)=.fj (SI i j) (.ret (.int (i ^ j.toNat))):=rX
@[simp] theorem L3:of2 oLt (.int i) (.int j)=.ret (.bl (decide (i < j))):=tu
@[simp] theorem adB:of2 oLe (.int i) (.int j)=.ret (.bl (decide (i<=j))):=tu
@[simp] theorem adC:of2 oGt (.int i) (.int j)=.ret (.bl (decide (j < i))):=tu
@[simp] theorem adD:of2 oGe (.int i) (.int j)=.ret (.bl (decide (j<=i))):=tu
def wG:of2 fM x y=.fj (J7 x y) (.ret (.bl (i6 x y))):=xL λQ=>⟨λq=>⟨q.1,q.2.2⟩,λq=>⟨q.1,rfl,q.2⟩⟩
def RM:of2 xJ x y=.fj (J7 x y) (.ret (.bl (!i6 x y))):=xL λQ=>⟨λq=>⟨q.1,q.2.2⟩,λq=>⟨q.1,rfl,q.2⟩⟩
@[simp] theorem yQ:of2 Qn x .aN=.ret (.bl x.lq):=xL λQ=>⟨Df,λq=>⟨rfl,q⟩⟩
@[simp] theorem ae3:of2 GG x .aN=.ret (.bl (!x.lq)):=xL λQ=>⟨Df,λq=>⟨rfl,q⟩⟩
def ZV {c:Nat} (h:cF s.cps.toList i=ap c):of2 M8 (.str s) (.int i)=.fj (s.length<=sizeLine) (.ret (.str ⟨#[c]⟩)):=xL λQ=>by
 show (s.length<=sizeLine/\match cF s.cps.toList i with | some c=>_/\_ | none=>False)↔_;rw [h];exact⟨λq=>⟨q.1,q.2.2⟩,λq=>⟨q.1,rfl,q.2⟩⟩
@[simp] theorem dH:addW (.int i) (.int j)=.ret (.int (i+j)):=(rfl)
@[simp] theorem VC:addW (.str s) (.str t)=.fj (s.length+t.length<=sizeLine) (.ret (.str (s++t))):=(rfl)
@[simp] theorem L5:addW (.tup l) (.tup m)=.fj (l.length+m.length<=sizeLine) (.ret (.tup (l++m))):=(rfl)
@[simp] theorem yN:M9 (.int i)=.ret (.int (-i)):=(rfl)
@[simp] theorem bL:asB (.bl a)=.ret a:=(rfl)
@[simp] theorem aaT (w:W PV):Sg (.bl true) w=w:=(rfl)
@[simp] theorem aaU (w:W PV):Sg (.bl false) w=.ret (.bl false):=(rfl)
@[simp] theorem VB (w:W PV):V4 (.bl true) w=w:=(rfl)
@[simp] theorem afi (w:W PV):V4 (.bl false) w=.ret (.bl false):=(rfl)
@[simp] theorem cO:fH (.bl a)=.ret a:=(rfl)
@[simp] theorem ae1:fH (.int i)=.ret (i != 0):=(rfl)
@[simp] theorem ae0:fH .aN=.ret false:=(rfl)
@[simp] theorem aeZ:fH (.tup l)=.ret (!l.isEmpty):=(rfl)
@[simp] theorem ae2:fH (.cl l)=.ret (!l.isEmpty):=(rfl)
@[simp] theorem aG:aw (.tup l)=.ret l:=(rfl)
@[simp] theorem bU:aw (.cl l)=.ret l:=(rfl)
@[simp] theorem iM:tJ (.cl l)=.ret l:=(rfl)
@[simp] theorem bF:Vc l (.int i)=.Im (cF l i):=(rfl)
@[simp] theorem yP:GY l=.ret (.int l.length):=(rfl)
@[simp] theorem J4:mD l=.ret (.tup l):=(rfl)
@[simp] theorem sj:part (.int i)=.ret (ap i):=(rfl)
@[simp] theorem lF:q9 (.tup [x,y])=.ret (x,y):=(rfl)
@[simp] theorem ZP (z:PV):un3 (.tup [x,y,z])=.ret (x,y,z):=(rfl)
@[simp] theorem J3 (z u:PV):un4 (.tup [x,y,z,u])=.ret (x,y,z,u):=(rfl)
@[simp] theorem afe (k:Kd):f9 k (.int i)=.ret (.bl (k.is (.int i))):=(rfl)
@[simp] theorem so (k:Kd):f9 k (.str s)=.ret (.bl (k.is (.str s))):=(rfl)
@[simp] theorem gG (k:Kd):f9 k (.tup l)=.ret (.bl (k.is (.tup l))):=(rfl)
@[simp] theorem aff (k:Kd):f9 k (.cl l)=.ret (.bl (k.is (.cl l))):=(rfl)
@[simp] theorem afg (k:Kd):f9 k (.bl a)=.ret (.bl (k.is (.bl a))):=(rfl)
@[simp] theorem afd (k:Kd):f9 k .aN=.ret (.bl (k.is .aN)):=(rfl)
@[simp] theorem fC:qf df [.tup l]=.ret (.int l.length):=xL λQ=>⟨Df,λq=>⟨rfl,q⟩⟩
@[simp] theorem fD:qf df [.cl l]=.ret (.int l.length):=xL λQ=>⟨Df,λq=>⟨rfl,q⟩⟩
@[simp] theorem ae4:qf df [.str s]=.fj (s.length<=sizeLine) (.ret (.int s.length)):=xL λQ=>⟨λq=>⟨q.1,q.2.2⟩,λq=>⟨q.1,rfl,q.2⟩⟩
@[simp] theorem ZW:qf HS [.int i]=.ret (.int (if i < 0 then -i else i)):=xL λQ=>⟨Df,λq=>⟨rfl,q⟩⟩
@[simp] theorem afh:qf KA [.int i]=.ret (.int i):=xL λQ=>⟨Df,λq=>⟨rfl,q⟩⟩
@[simp] theorem VA:qf KA [.bl a]=.ret (.int (if a then 1 else 0)):=xL λQ=>⟨Df,λq=>⟨rfl,q⟩⟩
@[simp] theorem ZU:qf Od [.int i,.int j]=.ret (.int (if j > i then j else i)):=xL λQ=>⟨Df,λq=>⟨rfl,q⟩⟩
@[simp] theorem ZT:qf Oc [.int i,.int j]=.ret (.int (if j < i then j else i)):=xL λQ=>⟨Df,λq=>⟨rfl,q⟩⟩
@[simp] theorem J5 (p q:Option Int):MH (.tup l) p q=.ret (.tup (rJ l p q)):=(rfl)
@[simp] theorem Vy:Pl (.tup l) bm bm (ap (-1))=.ret (.tup l.reverse):=lc ⟨rfl,rfl,rfl⟩
@[simp] theorem cP:eL (.int j)=.fj (okN 0 j) (.ret (iJ 0 j.toNat)):=(rfl)
@[simp] theorem Vz (k:Int):Pu (.int i) (.int j) (.int k)=.fj (k = -1/\okN j i) (.ret (qU i (i-j).toNat)):=(rfl)
@[simp] theorem ZR:Gu (l++[x])=.ret (l,x):=by unfold Gu;simp
@[simp] theorem ZQ:TJ l (.int i)=.fj (-(2 ^ 63)<=i/\i < 2 ^ 63/\l.length*i.toNat<=sizeLine) (.ret (An i.toNat l).flatten):=(rfl)
@[simp] theorem ae9:Kd.is .int (.int i)=true:=(rfl)
@[simp] theorem afa:Kd.is .int (.bl a)=true:=(rfl)
@[simp] theorem afc:Kd.is .bool (.bl a)=true:=(rfl)
@[simp] theorem afb:Kd.is .bool (.int i)=false:=(rfl)
@[simp] theorem sk:Kd.is .str (.str s)=true:=(rfl)
@[simp] theorem j6:Kd.is .str (.tup l)=false:=(rfl)
@[simp] theorem ae8:Kd.is .str (.int i)=false:=(rfl)
@[simp] theorem L4:Kd.is .tup (.tup l)=true:=(rfl)
@[simp] theorem ae5:Kd.is .tup (.str s)=false:=(rfl)
@[simp] theorem ae6:Kd.is .tup (.int i)=false:=(rfl)
@[simp] theorem ae7:Kd.is .tup (.bl a)=false:=(rfl)
@[simp] theorem dG (h0:0 < i) (h1:i<=2000):bK (.int i)=drawn i:=lc ⟨h0,h1⟩
def bO {m:Int}{Q:PV->Prop} (h:∀d:Int,0<=d->d < m->Q (.int d)):(drawn m).run Q:=λv ⟨d,e,h0,h1⟩=>e▸h d h0 h1
end
namespace W
variable {α β:Type}
def le (a b:W α):Prop:=∀Q,b.run Q->a.run Q
def le.refl (a:W α):a.le a:=λ_ h=>h
def le.of_eq {a b:W α} (h:a=b):a.le b:=h▸le.refl a
def le.ret {a:W α}{v:α}{f:α->W β}{b:W β} (h:a.le (.ret v)) (hf:(f v).le b):(a.bind f).le b:=λQ q=>h _ (hf Q q)
def le.use {a:W α}{v:α}{Q:α->Prop} (h:a.le (.ret v)) (q:Q v):a.run Q:=h _ q
end W
section
variable {S R:Type}
@[simp] theorem ads (s:S) (f:PV->S->W S):bz [] s f=.ret s:=(rfl)
@[simp] theorem aaN (x:PV) (r:List PV) (s:S) (f:PV->S->W S):bz (x::r) s f=.bind (f x s) λs'=>bz r s' f:=(rfl)
theorem uk {f:PV->S->W S}{Q:S->Prop} (I:List PV->S->Prop):∀{l:List PV}{s:S},I l s->(∀x r s,I (x::r) s->(f x s).run (I r))->(∀s,I [] s->Q s)->(bz l s f).run Q
 | [],s,h0,_,he=>he s h0
 | x::r,s,h0,hs,he=>(f x s).mono (λs' h=>uk I h hs he) (hs x r s h0)
theorem Hx {f:PV->S->W (Lp S R)}{Q:Lp S R->Prop} (I:List PV->S->Prop):∀{l:List PV}{s:S},I l s->(∀x r s,I (x::r) s->(f x s).run λo=>match o with | .go s'=>I r s' | .out t=>Q (.out t))->(∀s,I [] s->Q (.go s))->(FL.mF l s f).run Q
 | [],s,h0,_,he=>he s h0
 | x::r,s,h0,hs,he=>(f x s).mono (λo h=>match o,h with
  | .go s',h=>Hx I h hs he
  | .out t,h=>h) (hs x r s h0)
theorem fB {f:PV->S->W S}{Q:S->Prop} (I:Nat->S->Prop) {s:S} (h0:I 0 s) (hs:∀(i:Nat) (x:PV) s,l[i]?=ap x->I i s->(f x s).run (I (i+1))) (he:∀s,I l.length s->Q s):(bz l s f).run Q:=by
 refine uk (λr s=>∃i,i<=l.length/\r=l.drop i/\I i s) ⟨0,Bc _,rfl,h0⟩ (λx r s ⟨i,hi,e,h⟩=>?_) (λs ⟨i,hi,e,h⟩=>?_)
 ·have ff:i < l.length:=by
   rcases Dw i l.length with h | h
   ·exact h
   ·rw [E9 h] at e;cases e
  rw [Bp ff] at e;injection e with e1 e2;subst e1;exact (f _ s).mono (λs' h'=>⟨i+1,ff,e2,h'⟩) (hs i _ s (Ae ff) h)
 ·have:i=l.length:=by
   have:=congrArg BS e;rw [E1] at this;simp at this;omega
  subst this;exact he s h
theorem LZ {f:PV->S->W (Lp S R)}{Q:Lp S R->Prop} (I:Nat->S->Prop) {s:S} (h0:I 0 s) (hs:∀(i:Nat) (x:PV) s,l[i]?=ap x->I i s->(f x s).run λo=>match o with | .go s'=>I (i+1) s' | .out t=>Q (.out t)) (he:∀s,I l.length s->Q (.go s)):(FL.mF l s f).run Q:=by
 refine Hx (λr s=>∃i,i<=l.length/\r=l.drop i/\I i s) ⟨0,Bc _,rfl,h0⟩ (λx r s ⟨i,hi,e,h⟩=>?_) (λs ⟨i,hi,e,h⟩=>?_)
 ·have ff:i < l.length:=by
   rcases Dw i l.length with h | h
   ·exact h
   ·rw [E9 h] at e;cases e
  rw [Bp ff] at e;injection e with e1 e2;subst e1;exact (f _ s).mono (λo h'=>match o,h' with
   | .go s',h'=>⟨i+1,ff,e2,h'⟩
   | .out t,h'=>h') (hs i _ s (Ae ff) h)
 ·have:i=l.length:=by
   have:=congrArg BS e;simp at this;omega
  subst this;exact he s h
def fc {f:PV->S->W S}{Q:S->Prop} (I:Nat->S->Prop) {s:S} (h0:I 0 s) (hs:∀(i:Nat) s,i < n->I i s->(f (.int (i:Int)) s).run (I (i+1))) (he:∀s,I n s->Q s):(bz (iJ 0 n) s f).run Q:=
 fB I h0 (λi x s hx h=>by obtain⟨hi,rfl⟩:=qv hx;rw [Dz];exact hs i s hi h) (λs h=>he s (by rw [jA] at h;exact h))
def Hy {f:PV->S->W (Lp S R)}{Q:Lp S R->Prop} (I:Nat->S->Prop) {s:S} (h0:I 0 s) (hs:∀(i:Nat) s,i < n->I i s->(f (.int (i:Int)) s).run λo=>match o with | .go s'=>I (i+1) s' | .out t=>Q (.out t)) (he:∀s,I n s->Q (.go s)):(FL.mF (iJ 0 n) s f).run Q:=
 LZ I h0 (λi x s hx h=>by obtain⟨hi,rfl⟩:=qv hx;rw [Dz];exact hs i s hi h) (λs h=>he s (by rw [jA] at h;exact h))
theorem Iu {c:S->W Bool}{b:S->W S}{Q:S->Prop} (I:Nat->S->Prop) {s:S} (h0:I n s) (hs:∀n s,I n s->(c s).run λk=>if k=true then (b s).run (λs'=>∃m,m < n/\I m s') else Q s):(Iv c b s).run Q:=by
 refine⟨n+1,?_⟩;have:∀k n s,n < k->I n s->(m7 c b k s).run Q:=by
  intro k
  induction k with
  | zero=>intro n s h;omega
  | succ k ih=>
   intro n s hn h;refine (c s).mono (λz q=>?_) (hs n s h);cases z with
   | true=>exact (b s).mono (λs' ⟨m,hm,h'⟩=>ih m s' ∅ h') (show (b s).run _ from q)
   | false=>exact q
 exact this (n+1) n s ∅ h0
theorem LL {f:PV->W PV}{g:PV->PV}:∀{l:List PV},(∀x∈l,f x=.ret (g x))->bI l f=.ret (l.map g)
 | [],_=>rfl
 | x::r,h=>by
  show am (f x) (λy=>am (bI r f) λl=>bd (y::l))=_;rw [h x (.head _),LL λy hy=>h y (.tail _ hy)];rfl
theorem xU {g:PV->Option PV}:∀{l:List PV},(∀x∈l,f x=.ret (g x))->nu l f=.ret (l.filterMap g)
 | [],_=>rfl
 | x::r,h=>by
  show am (f x) (λo=>am (nu r f) λl=>bd (o.toList++l))=_;rw [h x (.head _),xU λy hy=>h y (.tail _ hy),Ba];cases g x <;> rfl
@[simp] theorem V3 (bs:List Bool):Oh (bs.map PV.bl)=.ret (.bl (bs.any id)):=by unfold Oh;rw [Mj];rfl
end
section
variable (i j:Int) (a b:Bool) (x y:PV) (l m:List PV) (s t:Str)
@[simp] theorem W8:i6 (.int i) (.int j)=(i==j):=by rw [i6]
@[simp] theorem RI:i6 (.str s) (.str t)=(s==t):=by rw [i6]
@[simp] theorem W9:i6 (.bl a) (.bl b)=(a==b):=by rw [i6]
@[simp] theorem W7:i6 (.tup l) (.tup m)=gb l m:=by rw [i6]
@[simp] theorem ajb:i6 (.cl l) (.cl m)=gb l m:=by rw [i6]
@[simp] theorem ahX:gb [] []=true:=by rw [gb]
@[simp] theorem ZM:gb (x::l) (y::m)=(i6 x y&&gb l m):=by rw [gb]
@[simp] theorem aeV:PV.iL (.int i)=true:=by rw [PV.iL] <;> simp
@[simp] theorem ahV:PV.iL (.bl a)=true:=by rw [PV.iL] <;> simp
@[simp] theorem aeT:PV.iL (.str s)=true:=by rw [PV.iL] <;> simp
@[simp] theorem aeU:PV.iL .aN=true:=by rw [PV.iL] <;> simp
@[simp] theorem aeS:PV.iL (.tup l)=fu l:=by rw [PV.iL]
@[simp] theorem ahU:PV.iL (.cl l)=fu l:=by rw [PV.iL]
@[simp] theorem adu:fu []=true:=by rw [fu]
@[simp] theorem aaO:fu (x::l)=(PV.iL x&&fu l):=by rw [fu]
@[simp] theorem adz:PV.fv (.int i)=0:=by rw [PV.fv] <;> simp
@[simp] theorem aeY:PV.fv (.bl a)=0:=by rw [PV.fv] <;> simp
@[simp] theorem adx:PV.fv (.str s)=0:=by rw [PV.fv] <;> simp
@[simp] theorem ady:PV.fv .aN=0:=by rw [PV.fv] <;> simp
@[simp] theorem adw:PV.fv (.tup l)=d6 l+1:=by rw [PV.fv]
@[simp] theorem aeX:PV.fv (.cl l)=d6 l+1:=by rw [PV.fv]
@[simp] theorem aaQ:d6 []=0:=by rw [d6]
@[simp] theorem ZO:d6 (x::l)=max (PV.fv x) (d6 l):=by rw [d6]
def Hz:J7 (.int i) (.int j):=⟨by simp,by simp,by simp⟩
@[simp] theorem ir:of2 fM (.int i) (.int j)=.ret (.bl (i==j)):=by rw [wG,lc (Hz i j),W8]
@[simp] theorem ZS:of2 xJ (.int i) (.int j)=.ret (.bl (!(i==j))):=by rw [RM,lc (Hz i j),W8]
@[simp] theorem ah0:of2 fM (.bl a) (.bl b)=.ret (.bl (a==b)):=by rw [wG,lc ⟨by simp,by simp,by simp⟩,W9]
@[simp] theorem ahZ:of2 xJ (.bl a) (.bl b)=.ret (.bl (!(a==b))):=by rw [RM,lc ⟨by simp,by simp,by simp⟩,W9]
end
theorem ip:∀{l:List PV},fu l=true↔∀x∈l,PV.iL x=true
 | []=>by simp
 | x::l=>by rw [fu,AO,ip (l:=l)];simp
theorem iq:∀{l:List PV},(∀x∈l,PV.fv x<=n)->d6 l<=n
 | [],_=>by simp
 | x::l,h=>by
  have h1:=h x (.head _);have h2:=iq (l:=l) λy hy=>h y (.tail _ hy);rw [d6];omega
structure EV where
 P:tt
 w:wv
 K:Ab
 mg:Str->Option bn
 base:mo
structure DF where
 x:Str
 s:v4
 ps:List Str
 k:Nat
 sp:Ab->Sp
abbrev DF.C (d:DF) (v:EV):=SX v.P v.w v.K v.mg v.base d.x d.k d.ps (d.sp v.K)
structure DI (v:EV) (d:DF) where
 f:ce
 fd:FB
 fn:SV v.K d.x d.x d.s f fd
 bi:Binds v.K fd d.ps []
 at':v.mg d.x=ap (.ref f)
abbrev DI.O {v:EV}{d:DF} (D:DI v d):Prop:=iB v.P v.w v.K v.mg v.base mz d.k D.f D.fd d.ps (d.sp v.K)
def DI.c {v:EV}{d:DF} (D:DI v d) (h:D.O):d.C v:=⟨D.f,D.fd,h,D.bi,D.fn.kp,D.at'⟩
def DI.cN {v:EV}{d:DF} (D:DI v d) (h:iB v.P v.w v.K v.mg v.base mz k D.f D.fd d.ps sp):SX v.P v.w v.K v.mg v.base d.x k d.ps sp:=⟨D.f,D.fd,h,D.bi,D.fn.kp,D.at'⟩
structure DX (K:Ab) (x:Str) (st:v4):Prop where
 ex:∃f fd,AH K ev x=ap (ap (.ref f))/\SV K x x st f fd
def dx {K:Ab}{st:v4}{f:ce}{kV:bn} (a:AH K ev x=ap (ap (.ref f))) (l:K.lookup f=ap ⟨oc,od,.func (Cb x x (gH st) (a6 st) (ag st) .none kV É pm an cn ct),SM⟩)
  (c:Ei K cn x=true) (k:Eh K (.ref f)=true):DX K x st:=⟨f,_,a,ZK l c k⟩
def ik {N P:List Str} (h1:sc.kind=.function:=by rfl) (h2:sc.isCoroutine=false:=by rfl) (h3:sc.isGenerator=false:=by rfl) (h4:N.Nodup:=by decide +kernel) (h5:N.take P.length=P:=by rfl) (h6:∀x∈P,sc.names.lookup x=ap .local\/sc.names.lookup x=ap .cell:=by decide +kernel) (h7:∀y∈sc.names,y.2≠.free:=by decide +kernel):ar N P sc:=⟨h1,h2,h3,h4,h5,h6,h7⟩
def lcs {N:List Str} (h1:sc.kind=.function:=by rfl) (h2:∀y∈sc.names,y.2≠.cell:=by decide +kernel) (h3:∀y∈sc.names,y.2=.local->sc.names.lookup y.1=ap .local:=by decide +kernel) (h4:∀y∈sc.names,y.2=.free->(Xs.names.lookup y.1=ap .cell\/Xs.names.lookup y.1=ap .free):=by decide +kernel) (h5:N'.Nodup:=by decide +kernel) (h6:ix.length=N'.length:=by rfl)
  (h7:((ix.zip N').all λp=>match p.1 with | none=>true | some j=>decide (N[j]?=ap p.2)&&decide (sc.names.lookup p.2=ap .free))=true:=by decide +kernel):aF Xs N sc N' ix:=⟨h1,h2,h3,h4,h5,h6,h7⟩
abbrev qL (l:List (Str×xz)):pr:={kind:=.function,names:=(BB ".0",.local)::l,isGenerator:=false,isCoroutine:=false,more:=[]}
abbrev lo:xz:=.local
abbrev gi:xz:=.globalImplicit
abbrev fr:xz:=.free
section
variable {v:EV}{st:v4}{N:List Str}
def mkV {m:SW PV n} (D:DI v ⟨x,st,ps,k+1,λK=>gz K ks (cx n m)⟩) (S:ar N ps (ag st)) (Ã:∀l:List PV,l.length=n->∀(cn:bn) (A:o0) (outer:List Env) (s:cr) (H:Hp) (E:XK),cS k (A.deeper (r9 x (ag st) s.heap.objs.size D.f cn))->SF (iy mz v.P v.w v.K v.mg v.base N x (ag st) D.f cn A outer s H E).vT v.K false (iz ks l N.length) (a6 st) (cx n m l) .rt)
  (o7:ks.length=ps.length:=by rfl) (one:jH ks:=by repeat' first | exact cz | exact av (n:=0) | exact av (n:=1) | exact av (n:=2) | exact av (n:=3) | exact av (n:=4) | exact av (n:=5) | exact av (n:=6) | apply dY | apply kq):D.O:=fnV D.fn S o7 one Ã
def mkL {m:SW (List PV) n} (D:DI v ⟨x,st,ps,k+1,λK=>fh K ks (cx n m)⟩) (S:ar N ps (ag st)) (Ã:∀l:List PV,l.length=n->∀(cn:bn) (A:o0) (outer:List Env) (s:cr) (H:Hp) (E:XK),cS k (A.deeper (r9 x (ag st) s.heap.objs.size D.f cn))->SF (iy mz v.P v.w v.K v.mg v.base N x (ag st) D.f cn A outer s H E).vT v.K false (iz ks l N.length) (a6 st) (cx n m l) .rl)
  (o7:ks.length=ps.length:=by rfl) (one:jH ks:=by repeat' first | exact cz | exact av (n:=0) | exact av (n:=1) | exact av (n:=2) | exact av (n:=3) | exact av (n:=4) | exact av (n:=5) | exact av (n:=6) | apply dY | apply kq):D.O:=fnL D.fn S o7 one Ã
def agx {m:W PV} (D:DI v ⟨x,st,ps,k+1,λK=>gz K ks (cx 0 m)⟩) (S:ar N ps (ag st)) (Ã:∀(cn:bn) (A:o0) (outer:List Env) (s:cr) (H:Hp) (E:XK),cS k (A.deeper (r9 x (ag st) s.heap.objs.size D.f cn))->SF (iy mz v.P v.w v.K v.mg v.base N x (ag st) D.f cn A outer s H E).vT v.K false (iz ks [] N.length) (a6 st) (m) .rt)
  (o7:ks.length=ps.length:=by rfl) (one:jH ks:=by repeat' first | exact cz | exact av (n:=0) | exact av (n:=1) | exact av (n:=2) | exact av (n:=3) | exact av (n:=4) | exact av (n:=5) | exact av (n:=6) | apply dY | apply kq):D.O:=mkV (n:=0) (m:=m) D S (λl hl=>match l,hl with | [],_=>Ã) o7 one
def qg {m:PV->W PV} (D:DI v ⟨x,st,ps,k+1,λK=>gz K ks (cx 1 m)⟩) (S:ar N ps (ag st)) (Ã:∀(x0:PV) (cn:bn) (A:o0) (outer:List Env) (s:cr) (H:Hp) (E:XK),cS k (A.deeper (r9 x (ag st) s.heap.objs.size D.f cn))->SF (iy mz v.P v.w v.K v.mg v.base N x (ag st) D.f cn A outer s H E).vT v.K false (iz ks [x0] N.length) (a6 st) (m x0) .rt)
  (o7:ks.length=ps.length:=by rfl) (one:jH ks:=by repeat' first | exact cz | exact av (n:=0) | exact av (n:=1) | exact av (n:=2) | exact av (n:=3) | exact av (n:=4) | exact av (n:=5) | exact av (n:=6) | apply dY | apply kq):D.O:=mkV (n:=1) (m:=m) D S (λl hl=>match l,hl with | [x0],_=>Ã x0) o7 one
def xM {m:PV->PV->W PV} (D:DI v ⟨x,st,ps,k+1,λK=>gz K ks (cx 2 m)⟩) (S:ar N ps (ag st)) (Ã:∀(x0:PV) (x1:PV) (cn:bn) (A:o0) (outer:List Env) (s:cr) (H:Hp) (E:XK),cS k (A.deeper (r9 x (ag st) s.heap.objs.size D.f cn))->SF (iy mz v.P v.w v.K v.mg v.base N x (ag st) D.f cn A outer s H E).vT v.K false (iz ks [x0,x1] N.length) (a6 st) (m x0 x1) .rt)
  (o7:ks.length=ps.length:=by rfl) (one:jH ks:=by repeat' first | exact cz | exact av (n:=0) | exact av (n:=1) | exact av (n:=2) | exact av (n:=3) | exact av (n:=4) | exact av (n:=5) | exact av (n:=6) | apply dY | apply kq):D.O:=mkV (n:=2) (m:=m) D S (λl hl=>match l,hl with | [x0,x1],_=>Ã x0 x1) o7 one
def UJ {m:PV->PV->PV->W PV} (D:DI v ⟨x,st,ps,k+1,λK=>gz K ks (cx 3 m)⟩) (S:ar N ps (ag st)) (Ã:∀(x0:PV) (x1:PV) (x2:PV) (cn:bn) (A:o0) (outer:List Env) (s:cr) (H:Hp) (E:XK),cS k (A.deeper (r9 x (ag st) s.heap.objs.size D.f cn))->SF (iy mz v.P v.w v.K v.mg v.base N x (ag st) D.f cn A outer s H E).vT v.K false (iz ks [x0,x1,x2] N.length) (a6 st) (m x0 x1 x2) .rt)
  (o7:ks.length=ps.length:=by rfl) (one:jH ks:=by repeat' first | exact cz | exact av (n:=0) | exact av (n:=1) | exact av (n:=2) | exact av (n:=3) | exact av (n:=4) | exact av (n:=5) | exact av (n:=6) | apply dY | apply kq):D.O:=mkV (n:=3) (m:=m) D S (λl hl=>match l,hl with | [x0,x1,x2],_=>Ã x0 x1 x2) o7 one
def acr {m:PV->PV->PV->PV->W PV} (D:DI v ⟨x,st,ps,k+1,λK=>gz K ks (cx 4 m)⟩) (S:ar N ps (ag st)) (Ã:∀(x0:PV) (x1:PV) (x2:PV) (x3:PV) (cn:bn) (A:o0) (outer:List Env) (s:cr) (H:Hp) (E:XK),cS k (A.deeper (r9 x (ag st) s.heap.objs.size D.f cn))->SF (iy mz v.P v.w v.K v.mg v.base N x (ag st) D.f cn A outer s H E).vT v.K false (iz ks [x0,x1,x2,x3] N.length) (a6 st) (m x0 x1 x2 x3) .rt)
  (o7:ks.length=ps.length:=by rfl) (one:jH ks:=by repeat' first | exact cz | exact av (n:=0) | exact av (n:=1) | exact av (n:=2) | exact av (n:=3) | exact av (n:=4) | exact av (n:=5) | exact av (n:=6) | apply dY | apply kq):D.O:=mkV (n:=4) (m:=m) D S (λl hl=>match l,hl with | [x0,x1,x2,x3],_=>Ã x0 x1 x2 x3) o7 one
def agw {m:PV->PV->PV->PV->PV->W PV} (D:DI v ⟨x,st,ps,k+1,λK=>gz K ks (cx 5 m)⟩) (S:ar N ps (ag st)) (Ã:∀(x0:PV) (x1:PV) (x2:PV) (x3:PV) (x4:PV) (cn:bn) (A:o0) (outer:List Env) (s:cr) (H:Hp) (E:XK),cS k (A.deeper (r9 x (ag st) s.heap.objs.size D.f cn))->SF (iy mz v.P v.w v.K v.mg v.base N x (ag st) D.f cn A outer s H E).vT v.K false (iz ks [x0,x1,x2,x3,x4] N.length) (a6 st) (m x0 x1 x2 x3 x4) .rt)
  (o7:ks.length=ps.length:=by rfl) (one:jH ks:=by repeat' first | exact cz | exact av (n:=0) | exact av (n:=1) | exact av (n:=2) | exact av (n:=3) | exact av (n:=4) | exact av (n:=5) | exact av (n:=6) | apply dY | apply kq):D.O:=mkV (n:=5) (m:=m) D S (λl hl=>match l,hl with | [x0,x1,x2,x3,x4],_=>Ã x0 x1 x2 x3 x4) o7 one
def YZ {m:PV->W (List PV)} (D:DI v ⟨x,st,ps,k+1,λK=>fh K ks (cx 1 m)⟩) (S:ar N ps (ag st)) (Ã:∀(x0:PV) (cn:bn) (A:o0) (outer:List Env) (s:cr) (H:Hp) (E:XK),cS k (A.deeper (r9 x (ag st) s.heap.objs.size D.f cn))->SF (iy mz v.P v.w v.K v.mg v.base N x (ag st) D.f cn A outer s H E).vT v.K false (iz ks [x0] N.length) (a6 st) (m x0) .rl)
  (o7:ks.length=ps.length:=by rfl) (one:jH ks:=by repeat' first | exact cz | exact av (n:=0) | exact av (n:=1) | exact av (n:=2) | exact av (n:=3) | exact av (n:=4) | exact av (n:=5) | exact av (n:=6) | apply dY | apply kq):D.O:=mkL (n:=1) (m:=m) D S (λl hl=>match l,hl with | [x0],_=>Ã x0) o7 one
def UK {m:PV->PV->W (List PV)} (D:DI v ⟨x,st,ps,k+1,λK=>fh K ks (cx 2 m)⟩) (S:ar N ps (ag st)) (Ã:∀(x0:PV) (x1:PV) (cn:bn) (A:o0) (outer:List Env) (s:cr) (H:Hp) (E:XK),cS k (A.deeper (r9 x (ag st) s.heap.objs.size D.f cn))->SF (iy mz v.P v.w v.K v.mg v.base N x (ag st) D.f cn A outer s H E).vT v.K false (iz ks [x0,x1] N.length) (a6 st) (m x0 x1) .rl)
  (o7:ks.length=ps.length:=by rfl) (one:jH ks:=by repeat' first | exact cz | exact av (n:=0) | exact av (n:=1) | exact av (n:=2) | exact av (n:=3) | exact av (n:=4) | exact av (n:=5) | exact av (n:=6) | apply dY | apply kq):D.O:=mkL (n:=2) (m:=m) D S (λl hl=>match l,hl with | [x0,x1],_=>Ã x0 x1) o7 one
def YY {m:PV->PV->PV->W (List PV)} (D:DI v ⟨x,st,ps,k+1,λK=>fh K ks (cx 3 m)⟩) (S:ar N ps (ag st)) (Ã:∀(x0:PV) (x1:PV) (x2:PV) (cn:bn) (A:o0) (outer:List Env) (s:cr) (H:Hp) (E:XK),cS k (A.deeper (r9 x (ag st) s.heap.objs.size D.f cn))->SF (iy mz v.P v.w v.K v.mg v.base N x (ag st) D.f cn A outer s H E).vT v.K false (iz ks [x0,x1,x2] N.length) (a6 st) (m x0 x1 x2) .rl)
  (o7:ks.length=ps.length:=by rfl) (one:jH ks:=by repeat' first | exact cz | exact av (n:=0) | exact av (n:=1) | exact av (n:=2) | exact av (n:=3) | exact av (n:=4) | exact av (n:=5) | exact av (n:=6) | apply dY | apply kq):D.O:=mkL (n:=3) (m:=m) D S (λl hl=>match l,hl with | [x0,x1,x2],_=>Ã x0 x1 x2) o7 one
def acs {m:PV->PV->PV->PV->W (List PV)} (D:DI v ⟨x,st,ps,k+1,λK=>fh K ks (cx 4 m)⟩) (S:ar N ps (ag st)) (Ã:∀(x0:PV) (x1:PV) (x2:PV) (x3:PV) (cn:bn) (A:o0) (outer:List Env) (s:cr) (H:Hp) (E:XK),cS k (A.deeper (r9 x (ag st) s.heap.objs.size D.f cn))->SF (iy mz v.P v.w v.K v.mg v.base N x (ag st) D.f cn A outer s H E).vT v.K false (iz ks [x0,x1,x2,x3] N.length) (a6 st) (m x0 x1 x2 x3) .rl)
  (o7:ks.length=ps.length:=by rfl) (one:jH ks:=by repeat' first | exact cz | exact av (n:=0) | exact av (n:=1) | exact av (n:=2) | exact av (n:=3) | exact av (n:=4) | exact av (n:=5) | exact av (n:=6) | apply dY | apply kq):D.O:=mkL (n:=4) (m:=m) D S (λl hl=>match l,hl with | [x0,x1,x2,x3],_=>Ã x0 x1 x2 x3) o7 one
def agy {m:PV->PV->PV->PV->PV->W (List PV)} (D:DI v ⟨x,st,ps,k+1,λK=>fh K ks (cx 5 m)⟩) (S:ar N ps (ag st)) (Ã:∀(x0:PV) (x1:PV) (x2:PV) (x3:PV) (x4:PV) (cn:bn) (A:o0) (outer:List Env) (s:cr) (H:Hp) (E:XK),cS k (A.deeper (r9 x (ag st) s.heap.objs.size D.f cn))->SF (iy mz v.P v.w v.K v.mg v.base N x (ag st) D.f cn A outer s H E).vT v.K false (iz ks [x0,x1,x2,x3,x4] N.length) (a6 st) (m x0 x1 x2 x3 x4) .rl)
  (o7:ks.length=ps.length:=by rfl) (one:jH ks:=by repeat' first | exact cz | exact av (n:=0) | exact av (n:=1) | exact av (n:=2) | exact av (n:=3) | exact av (n:=4) | exact av (n:=5) | exact av (n:=6) | apply dY | apply kq):D.O:=mkL (n:=5) (m:=m) D S (λl hl=>match l,hl with | [x0,x1,x2,x3,x4],_=>Ã x0 x1 x2 x3 x4) o7 one
end
section
variable {K:Ab}{WL:W (List PV)}
theorem eC (G:SX X.prog X.w X.K X.mg X.base x k ps (gz K ks m)) (hr:cS k' X.A) (ha:AF X K fs (e::es) ks B) (hk:k<=k':=by first | exact DJ rfl | exact Am _ | omega) (hg:Gl X x:=by rfl) (hW:W'=B m:=by rfl) (ny:jg x:=by decide)
  (he:gM X e es:=by rfl) (dQ:kL X pos es:=by rfl):EF X K fs (.Call (.Name x p) (e::es) [] pos) W':=VL G hr hk hg ha hW ny he dQ
theorem lC {m:List PV->W (List PV)}{B:(List PV->W (List PV))->W (List PV)} (G:SX X.prog X.w X.K X.mg X.base x k ps (fh K ks m)) (hr:cS k' X.A) (ha:AF X K fs (e::es) ks B) (hk:k<=k':=by first | exact DJ rfl | exact Am _ | omega) (hg:Gl X x:=by rfl) (hW:WL=B m:=by rfl) (ny:jg x:=by decide)
  (he:gM X e es:=by rfl) (dQ:kL X pos es:=by rfl):LF X K fs (.Call (.Name x p) (e::es) [] pos) WL:=UY G hr hk hg ha hW ny he dQ
def cC (i:Nat) (hN:X.N.Nodup) (hi:X.N[i]?=ap x:=by rfl) (hx:Loc X.env.scope x:=by first | exact .inl rfl | exact .inr rfl) (hf:OB X x:=by first | exact .inl rfl | exact .inr rfl | assumption):PG X (.Name x pos) (d5 i):=T8 hN hi hx hf
variable {T:Type}{out:T->End}{b:Bool}{rest:List v4}
def sv (i:Nat) {k:PV->W T} (hN:X.N.Nodup) (he:EF X K fs e we) (hr:∀v,SF X K b (fs.set i (ap (.val v))) rest (k v) out) (hi:X.N[i]?=ap y:=by rfl) (hx:Loc X.env.scope y:=by first | exact .inl rfl | exact .inr rfl) (hs:lm e (ap (.Name y p')) pos.line X.env=pure false:=by rfl)
  (hf:OB X y:=by first | exact .inl rfl | exact .inr rfl | assumption):SF X K b fs (.Assign [.Name y p'] e pos::rest) (.bind we k) out:=SF.set hN hi hx he hr hs hf
def sl (i:Nat) {k:List PV->W T} (hN:X.N.Nodup) (he:LF X K fs e wl) (hr:∀l,SF X K b (fs.set i (ap (.ol bm l))) rest (k l) out) (hi:X.N[i]?=ap y:=by rfl) (hx:Loc X.env.scope y:=by first | exact .inl rfl | exact .inr rfl) (hs:lm e (ap (.Name y p')) pos.line X.env=pure false:=by rfl)
  (hf:OB X y:=by first | exact .inl rfl | exact .inr rfl | assumption):SF X K b fs (.Assign [.Name y p'] e pos::rest) (.bind wl k) out:=SF.age hN hi hx he hr hs hf
end
end FL
variable {P:List A3->Prop}{m:PL.PV->FL.W PL.PV}{d:FL.DF}
namespace FL
open PySem PySem.Spec PyProof.Rows L2 PL
def us1 (h:∀a,P [a]):∀us:List bn,us.length=1->P us
 | [_],_=>h _
def us2 (h:∀a b,P [a,b]):∀us:List bn,us.length=2->P us
 | a::_,e=>us1 (P:=λl=>P (a::l)) (h _) _ (F7.inj e)
def us3 (h:∀a b c,P [a,b,c]):∀us:List bn,us.length=3->P us
 | a::_,e=>us2 (P:=λl=>P (a::l)) (h _) _ (F7.inj e)
def us4 (h:∀a b c d,P [a,b,c,d]):∀us:List bn,us.length=4->P us
 | a::_,e=>us3 (P:=λl=>P (a::l)) (h _) _ (F7.inj e)
def us5 (h:∀a b c d e,P [a,b,c,d,e]):∀us:List bn,us.length=5->P us
 | a::_,e=>us4 (P:=λl=>P (a::l)) (h _) _ (F7.inj e)
def DX.mk2 {v:EV} (D:DX v.K d.x d.s) (X:v.K.In h) (G:h.Ns ev v.mg)
  (hb:∀(kV É pm:bn) (an:Option ce) (cn ct:bn) (us:List bn),us.length=d.ps.length->bindArgs (Cb d.x d.x (gH d.s) (a6 d.s) (ag d.s) .none kV É pm an cn ct) ⟨us,[]⟩=pure (d.ps.zip us):=by
   first
    | exact λ_ _ _ _ _ _=>us1 λ_=>rfl
    | exact λ_ _ _ _ _ _=>us2 λ_ _=>rfl
    | exact λ_ _ _ _ _ _=>us3 λ_ _ _=>rfl
    | exact λ_ _ _ _ _ _=>us4 λ_ _ _ _=>rfl
    | exact λ_ _ _ _ _ _=>us5 λ_ _ _ _ _=>rfl
    | exact λ_ _ _ _ _ _=>us6 λ_ _ _ _ _ _=>rfl
    | exact λ_ _ _ _ _ _=>us7 λ_ _ _ _ _ _ _=>rfl
    | exact λ_ _ _ _ _ _=>us8 λ_ _ _ _ _ _ _ _=>rfl):Nonempty (DI v d):=by
 obtain⟨f,fd,a,F⟩:=D.ex;exact⟨⟨f,fd,F,F.binds hb,BV X G a⟩⟩
def DX.go {v:EV} (D:DX v.K d.x d.s) (X:v.K.In h) (G:h.Ns ev v.mg) {P:Prop} (k:∀D:DI v d,D.O) (r:d.C v->P)
  (hb:∀(kV É pm:bn) (an:Option ce) (cn ct:bn) (us:List bn),us.length=d.ps.length->bindArgs (Cb d.x d.x (gH d.s) (a6 d.s) (ag d.s) .none kV É pm an cn ct) ⟨us,[]⟩=pure (d.ps.zip us):=by
   first
    | exact λ_ _ _ _ _ _=>us1 λ_=>rfl
    | exact λ_ _ _ _ _ _=>us2 λ_ _=>rfl
    | exact λ_ _ _ _ _ _=>us3 λ_ _ _=>rfl
    | exact λ_ _ _ _ _ _=>us4 λ_ _ _ _=>rfl
    | exact λ_ _ _ _ _ _=>us5 λ_ _ _ _ _=>rfl
    | exact λ_ _ _ _ _ _=>us6 λ_ _ _ _ _ _=>rfl
    | exact λ_ _ _ _ _ _=>us7 λ_ _ _ _ _ _ _=>rfl
    | exact λ_ _ _ _ _ _=>us8 λ_ _ _ _ _ _ _ _=>rfl):P:=by
 obtain⟨D⟩:=D.mk2 X G hb;exact r (D.c (k D))
def Lf (K:Ab):Sp:=λvs H Q _=>∃(a:ce) (ns:List Int),vs=[.ref a]/\Wa H/\de K H a (ns.map V.int)/\ns.length<=63/\∀H',Q (.bl true) H'
def UT {K:Ab} (ok:∀ns:List Int,ns.length<=63->(m (.cl (ns.map PV.int))).run (·=.bl true)):∀vs H Q E,Lf K vs H Q E->gz K [.v] (cx 1 m) vs H Q E:=λvs H Q E ⟨a,ns,e,hO,hS,hl,q⟩=>by
 subst e;have fz:Xt K H a (ns.map V.int):=by
  rcases hS with (h | ⟨o,h⟩) | h
  ·rcases hO a with z | ⟨o,xs,z⟩
   ·rw [h] at z;cases z
   ·rw [h] at z;cases z
  ·exact .inl ⟨o,h⟩
  ·exact .inr h
 refine⟨[.cl (ns.map PV.int)],.v (.cl fz (o5 _ _ ns)) .nil,(m (.cl (ns.map PV.int))).mono (λv e u H' _ r=>?_) (ok ns hl)⟩;subst e;cases r;exact q H'
structure aea (K:Ab) (mg:Str->Option bn) (d:DF):Prop where
 f:∀v:EV,v.K=K->v.mg=mg->∀D:DI v d,D.O
def mkAll {l:Fd}{K:Ab}{fa:ce}{st:v4} (ok:∀ns:List Int,ns.length<=63->(m (.cl (ns.map PV.int))).run (·=.bl true)) (X:K.In h) (G:h.Ns ev mg) (hfa:mg "law"=ap (.ref fa)) (adJ:DX K "law" st)
  (hb:∀(kV É pm:bn) (an:Option ce) (cn ct:bn) (us:List bn),us.length=1->bindArgs (Cb "law" "law" (gH st) (a6 st) (ag st) .none kV É pm an cn ct) ⟨us,[]⟩=pure (([("_law_script":Str)]:List Str).zip us))
  (F:aea K mg ⟨"law",st,["_law_script"],k,λK=>gz K [.v] (cx 1 m)⟩) :
  ∃fd:FB,(∀(s:cr) (v:bn),BindsTo s fd ⟨[v],[]⟩ [("_law_script",v)])/\∀base:mo,K.In base->base.Ns ev mg->iB l.prog w K mg base mz k fa fd ["_law_script"] (Lf K):=by
 obtain⟨f,fd,a,F'⟩:=adJ.ex;have e:=hfa.symm.trans (BV X G a);cases e;have fb:=F'.binds (ps:=["_law_script"]) hb;obtain⟨oc,od,kV,É,pm,an,cn,ct,SM,rfl,_⟩:=id F'.ex;exact⟨Cb "law" "law" (gH st) (a6 st) (ag st) .none kV É pm an cn ct,λs v=>.of_eq (hb kV É pm an cn ct [v] rfl),λbase _ _=>(F.f ⟨l.prog,w,K,mg,base⟩ rfl rfl ⟨_,_,F',fb,hfa⟩).imp (UT ok)⟩
end FL
namespace My
open PySem PySem.Spec PyProof.Rows L2 PL FL
def jU (c9:PV):W (List PV):=
 []\λnT=>
 am (c9\λx3=>bd [x3]) λpR=>
 am (Iv (λs4=>(s4.2\λl5=>bd (!l5.isEmpty))) (λs4=>(
 am (Gu s4.2) λt7=>
 t7.2\λx9=>am (fx s4.1 x9) λnS=>
 d4 (xi (am (am (bd t7.2) (f9 .str)) fH)) (
 am (am (bd t7.2) aw) λl11=>am (J2 t7.1 l11) λsN=>
 bd (nS,sN)) (
 bd (nS,t7.1)))) (nT,pR)) λs4=>
 (s4.1\λZe=>bd Ze.reverse)
def iI (c9:PV):W PV:=
 []\λjK=>
 []\λxP=>
 am (c9\λx3=>jU x3) λl30=>am (bz l30 (jK,xP) λxE s4=>(
 am (am (am (bd xE) (f9 .str)) fH) λb=>am (if b=true then (
 xE\λuT=>am (fx s4.1 uT) λK4=>
 bd (K4,s4.2)) else (
 am (Gu s4.2) λt20=>
 am (Gu t20.1) λt22=>
 am (t22.2\λOE=>t20.2\λOD=>bd (.tup [OE,OD])) λMr=>am (fx s4.1 Mr) λK3=>
 bd (K3,t22.1))) λX7=>
 am (b2 GD (am (bd X7.1) GY) (bd (.int 1))) λx28=>am (fx X7.2 x28) λGV=>
 bd (X7.1,GV))) λs4=>
 (am (bd s4.1) mD)
def cX (a9:PV):W PV:=
 (d4 (am (am (bd a9) (f9 .str)) fH) (bd (.tup [])) (bd a9))
def fq (c9:PV):W PV:=
 am (c9\λx2=>iI x2) λjK=>
 am (am (am (bd jK) aw) λl4=>bI l4 λp5=>(bd .aN)) λzm=>
 am (am (am (bd jK) aw) λl6=>.fj (l6.length<=sizeLine) (.ret (d7 0 l6))) λZc=>am (bz Zc zm λp8 s7=>am (q9 p8) λt9=>(
 am (am (t9.2\λkG=>cX kG) aw) λUZ=>am (bz UZ s7 λLU X8=>(
 t9.1\λuU=>LU\λpP=>am (iU X8 pP uU) λHW=>
 bd HW)) λX8=>
 bd X8)) λs7=>
 (am (bd s7) mD)
def eN (fy:PV) (ly:PV):W PV:=
 (d4 (am (am (bB (am (bd fy) aw) (bd ly)) (f9 .str)) fH) (bB (am (bd fy) aw) (bd ly)) (bd ly))
def gY (dN:PV):W (List PV):=
 am (dN\λx2=>fq x2) λeg=>
 am (am (am (bd eg) aw) λl4=>bI l4 λp5=>(bd (.tup []))) λmd=>
 am (am (b2 GD (c1 df (bd eg)) (bd (.int 1))) λx6=>am (am (bd (.int 1)) M9) λx7=>am (am (bd (.int 1)) M9) λx8=>Pu x6 x7 x8) λUZ=>am (bz UZ md λlx s9=>(
 am (d4 (t2 Qn (bB (am (bd eg) aw) (bd lx)) (bd .aN)) (bd (.tup [])) (bB (bd s9) (bB (am (bd eg) aw) (bd lx)))) λHX=>
 am (w2 addW (lx\λsJ=>bd (.tup [sJ])) (bd HX)) λuU=>lx\λpP=>am (iU s9 pP uU) λGX=>
 bd GX)) λs9=>
 bd s9
def eY (xR:PV) (ly:PV):W PV:=
 (am (am (am (c1 df (bd xR)) eL) λl2=>nu l2 λp3=>QD (z9 (Q7 true (bd p3) (am (bB (am (bd xR) aw) (bd ly)) aw)) (Q7 true (bd ly) (am (bB (am (bd xR) aw) (bd p3)) aw))) (bd p3)) mD)
def k7 (dN:PV):W PV:=
 am (dN\λx2=>iI x2) λbJ=>
 am (dN\λx4=>gY x4) λmd=>
 (am (am (am (c1 df (bd bJ)) eL) λl6=>bI l6 λp7=>(am (bJ\λx8=>p7\λx9=>eN x8 x9) λkG=>(.int 0)\λnZ=>am (am (bB (am (bd bJ) aw) (bd p7)) λmB=>cX mB) λsJ=>am ((.cl md)\λuU=>p7\λpP=>eY uU pP) λsI=>bd (.tup [kG,nZ,sJ,sI]))) mD)
def dZ (fy:PV) (dP:PV):W (List PV):=
 (am (am (am (bd fy) aw) λl1=>am (am (bd dP) aw) λl2=>Mq l1 l2) λl3=>nu l3 λp4=>am (q9 p4) λt5=>QD (xi (am (am (bd t5.1) (f9 .str)) fH)) (bd t5.2))
def bx (vO:PV):W PV:=
 (bB (am (bd vO) aw) (am (c1 df (bd vO)) λx1=>bK x1))
def gW (dN:PV) (dP:PV) (kl:PV):W (List PV):=
 am (dN\λx2=>fq x2) λeg=>
 []\λxG=>
 am (am (am (bd kl) aw) λl4=>.fj (l4.length<=sizeLine) (.ret (d7 0 l4))) λZc=>am (bz Zc xG λp6 s5=>am (q9 p6) λt7=>(
 am (am (am (bd dP) aw) λl8=>.fj (l8.length<=sizeLine) (.ret (d7 0 l8))) λUZ=>am (bz UZ s5 λį s9=>am (q9 į) λò=>(
 d4 (z9 (t2 oLe (bd ò.2) (bd t7.2)) (tor (t2 Qn (bB (am (bd eg) aw) (bd ò.1)) (bd .aN)) (t2 oLt (bd t7.2) (bB (am (bd dP) aw) (bB (am (bd eg) aw) (bd ò.1)))))) (
 am (ò.1\λsJ=>t7.1\λuU=>bd (.tup [sJ,uU])) λpP=>am (fx s9 pP) λGz=>
 bd Gz) (
 bd s9))) λs9=>
 bd s9)) λs5=>
 bd s5
def jx (fy:PV) (dP:PV) (kl:PV) (oH:PV) (Qf:PV):W PV:=
 am (bB (am (bd Qf) aw) (bd (.int 0))) λmf=>
 am (bB (am (bd Qf) aw) (bd (.int 1))) λoX=>
 am (b2 oLt (bB (am (bd dP) aw) (bd mf)) (bB (am (bd kl) aw) (bd oX))) λwz=>
 am (d4 (am (bd wz) fH) (mf\λx5=>bd (.tup [x5])) (am (bB (am (bd fy) aw) (bd mf)) λx6=>cX x6)) λbelow_4=>
 am (am (am (am (bd below_4) aw) λl8=>bI l8 λp9=>(dgB (bd oH) (p9\λkG=>am (b2 GD (bd oX) (bd (.int 1))) λnZ=>bd (.tup [kG,nZ])))) mD) λK0=>
 am (am (am (am (bd oH) QI) λl13=>nu l13 λú=>QD (z9 (t2 fM (bB (am (bd ú) aw) (bd (.int 1))) (bd oX)) (t2 xJ (bB (am (bd ú) aw) (bd (.int 0))) (bd mf))) (dgB (bd oH) (bd ú))) mD) λwX=>
 (am (fy\λpP=>mf\λsI=>eN pP sI) λw9=>oX\λuT=>K0\λzS=>wX\λMt=>bd (.tup [w9,uT,zS,Mt]))
def ma (dN:PV) (dP:PV):W PV:=
 am (dN\λx2=>iI x2) λbJ=>
 am (am ((.int 0)\λx4=>bd [x4]) λl7=>am (am (bJ\λx5=>dP\λx6=>dZ x5 x6) xq) λl8=>mH l7 l8) λuH=>
 am (dN\λkG=>dP\λnZ=>(.cl uH)\λmB=>gW kG nZ mB) λxF=>
 am (am (am (am (am (bd (.cl xF)) aw) λl14=>.fj (l14.length<=sizeLine) (.ret (d7 0 l14))) λl15=>bI l15 λĖ=>am (q9 Ė) λĬ=>(Ĭ.2\λuT=>Ĭ.1\λzS=>bd (.tup [uT,zS]))) Ko) λtw=>
 (am (am (am (bd (.cl xF)) aw) λl20=>bI l20 λp21=>(bJ\λMs=>dP\λOG=>(.cl uH)\λOE=>tw\λOD=>p21\λMr=>jx Ms OG OE OD Mr)) mD)
def dq (jL:PV) (bD:PV):W PV:=
 (bB (am (bB (am (bd jL) aw) (bd bD)) aw) (bd (.int 2)))
def fR (jL:PV) (bD:PV):W PV:=
 (bB (am (bB (am (bd jL) aw) (bd bD)) aw) (bd (.int 3)))
def jy (jL:PV) (bD:PV) (Wj:PV):W PV:=
 (ah8 (b2 fM (jL\λx1=>bD\λx2=>dq x1 x2) (bd (.tup []))) (b2 fM (bB (am (bB (am (bd jL) aw) (bd bD)) aw) (bd (.int 0))) (bd Wj)))
def fP (aW:PV) (bD:PV):W (List PV):=
 am (aW\λx2=>bD\λx3=>dq x2 x3) λgq=>
 (d4 (t2 fM (c1 df (bd gq)) (bd (.int 2))) (gq\λx4=>am (am (bB (am (bd gq) aw) (bd (.int 1))) λx5=>am (bB (am (bd gq) aw) (bd (.int 0))) λx6=>bd (.tup [x5,x6])) λx7=>bd [x4,x7]) (bd []))
def gX (aW:PV) (bD:PV):W (List PV):=
 am (aW\λx2=>bD\λx3=>fR x2 x3) λuG=>
 (am (am (am (bd uG) aw) λl4=>bI l4 λp5=>(bD\λx6=>p5\λx7=>bd (.tup [x6,x7]))) λZe=>am (am (am (bd uG) aw) λl8=>bI l8 λp9=>(p9\λkG=>bD\λnZ=>bd (.tup [kG,nZ]))) λl13=>mH Ze l13)
def fo (aW:PV) (a9:PV) (bD:PV):W (List PV):=
 d4 (am (am (bd a9) (f9 .str)) fH) (
 (d4 (am (aW\λx1=>bD\λx2=>a9\λx3=>jy x1 x2 x3) fH) (am ((.str "found")\λx4=>(.tup [])\λx5=>bd (.tup [x4,x5])) λx6=>bd [x6]) (bd []))) (
 am (am (aW\λx8=>bD\λx9=>fP x8 x9) λl10=>bI l10 λė=>((.str "split")\λmB=>ė\λsJ=>bd (.tup [mB,sJ]))) λLd=>
 am (am (aW\λpP=>bD\λsI=>gX pP sI) λUZ=>bI UZ λp18=>((.str "over")\λzS=>p18\λMt=>bd (.tup [zS,Mt]))) λLy=>
 (am (am (am (am ((.str "doubled")\λOH=>am (bD\λMs=>bD\λOG=>bd (.tup [Ms,OG])) λOE=>bd (.tup [OH,OE])) λOD=>bd [OD]) λl26=>am (am (bd (.cl Ld)) tJ) λl27=>mH l26 l27) λl28=>am (am (bd (.cl Ly)) tJ) λl29=>mH l28 l29) Pg))
def jw (qF:PV):W PV:=
 (d4 (Q7 false (bd .aN) (am (bd qF) aw)) (bd .aN) (am (am (bd qF) tJ) kR))
def gZ (qF:PV):W PV:=
 (am (am (am (bd qF) aw) λl1=>nu l1 λp2=>QD (t2 GG (bd p2) (bd .aN)) (bd p2)) LI)
def eG (bc:PV) (ux:PV):W PV:=
 (d4 (ux\λx1=>rC false x1 ([("split":Str),("doubled":Str),("over":Str)].map PV.str)) (bB (am (bd bc) aw) (am (bd ux) (Ra ["split","doubled","over"]))) (bd (.int 0)))
def dr (bc:PV) (oz:PV) (a9:PV) (ux:PV):W PV:=
 am (am (am (am (a9\λx2=>cX x2) aw) λl3=>am (am (bB (am (bd ux) aw) (bd (.int 1))) aw) λl4=>Mq l3 l4) λl5=>bI l5 λp6=>am (q9 p6) λt7=>(bB (am (bB (am (bd oz) aw) (bd t7.1)) aw) (bd t7.2))) λGC=>
 (am (lB (am (am (bc\λx8=>am (bB (am (bd ux) aw) (bd (.int 0))) λx9=>eG x8 x9) λkG=>bd [kG]) λl11=>am (am (bd (.cl GC)) tJ) λZe=>mH l11 Ze)) λsJ=>jw sJ)
def eX (aW:PV) (bc:PV) (oz:PV) (a9:PV) (bD:PV):W (List PV):=
 (am (aW\λx1=>a9\λx2=>bD\λx3=>fo x1 x2 x3) λl4=>bI l4 λp5=>(bc\λx6=>oz\λx7=>a9\λx8=>p5\λx9=>dr x6 x7 x8 x9))
def fN (aW:PV) (bc:PV) (bD:PV):W PV:=
 (d4 (t2 fM (c1 df (aW\λx1=>bD\λx2=>dq x1 x2)) (bd (.int 2))) (bB (am (bd bc) aw) (bd (.int 3))) (bd (.int 0)))
def eW (aW:PV) (bc:PV) (abK:PV) (bD:PV):W (List PV):=
 am (aW\λx2=>bc\λx3=>bD\λx4=>fN x2 x3 x4) λWA=>
 (am (am (aW\λx5=>bD\λx6=>dq x5 x6) aw) λl7=>bI l7 λp8=>(am (lB (WA\λx9=>am (bB (am (bd abK) aw) (bd p8)) λkG=>bd [x9,kG])) λnZ=>jw nZ))
def k6 (aW:PV) (bc:PV) (oz:PV) (a9:PV):W PV:=
 []\λPt=>
 am (am (c1 df (bd aW)) eL) λl21=>am (bz l21 Pt λIH s3=>(
 am (am (am (aW\λx6=>bc\λx7=>oz\λx8=>a9\λx9=>IH\λkG=>eX x6 x7 x8 x9 kG) λl15=>am (aW\λnZ=>bc\λmB=>(.cl s3)\λsJ=>IH\λuU=>eW nZ mB sJ uU) λl16=>mH l15 l16) O5) λMg=>
 am ((.cl Mg)\λuT=>gZ uT) λzS=>am (fx s3 zS) λPr=>
 bd Pr)) λs3=>
 (am (bd s3) mD)
def oS (aW:PV) (IJ:PV) (bc:PV):W PV:=
 []\λnh=>
 am (am (IJ\λx2=>iI x2) aw) λZe=>am (bz Ze nh λeV s3=>(
 am (am (aW\λx6=>bc\λx7=>(.cl s3)\λx8=>eV\λx9=>k6 x6 x7 x8 x9) O4) λkG=>am (fx s3 kG) λPo=>
 bd Po)) λs3=>
 (am (bd s3) mD)
def fV (gB:PV) (k_:PV):W (List PV):=
 am (d4 (t2 oLt (bd k_) (c1 df (bd gB))) (bB (am (bd gB) aw) (bd k_)) (bd (.int 0))) λlP=>
 am (b2 kI (c1 HS (bd lP)) (c1 KA (b2 oGe (c1 HS (bd lP)) (b2 Ql (bd (.int 10)) (bd (.int 18)))))) λgE=>
 (gE\λx3=>am (b2 oMod (b2 kI (w2 addW (w2 addW (b2 oMod (bd lP) (bd (.int 2147483629))) (b2 kI (b2 kI (bd (.int 7919)) (bd k_)) (bd k_))) (bd (.int 11))) (bd (.int 48271))) (bd (.int 2147483647))) λx4=>(.int 0)\λx5=>bd [x3,x4,x5])
def iX (dB:List PV) (GR:PV):W (PV×List PV):=
 am (w2 addW (bB (bd dB) (bd (.int 2))) (bd (.int 1))) λx2=>(.int 2)\λx3=>am (iU dB x3 x2) λaP=>
 d4 (z9 (t2 oGt (bB (bd aP) (bd (.int 0))) (bd (.int 0))) (t2 oLe (bB (bd aP) (bd (.int 2))) (bd (.int 60)))) (
 am (b2 oMod (bB (bd aP) (bd (.int 0))) (bd GR)) λsC=>
 am (b2 oDiv (bB (bd aP) (bd (.int 0))) (bd GR)) λx6=>(.int 0)\λx7=>am (iU aP x7 x6) λfX=>
 sC\λx8=>bd (x8,fX)) (
 am (b2 oMod (w2 addW (w2 addW (b2 kI (bB (bd aP) (bd (.int 1))) (bd (.int 48271))) (bd (.int 12345))) (bB (bd aP) (bd (.int 2)))) (bd (.int 2147483647))) λkG=>(.int 1)\λnZ=>am (iU aP nZ kG) λcj=>
 am (b2 oMod (b2 oDiv (b2 oMod (b2 kI (bB (bd cj) (bd (.int 1))) (w2 addW (b2 oMod (bB (bd cj) (bd (.int 1))) (bd (.int 40009))) (bd (.int 3)))) (bd (.int 2147483629))) (bd (.int 7))) (bd GR)) λmB=>bd (mB,cj))
def g9 (GR:PV):W (List PV):=
 (.str "abcdefghijklmnopqrstuvwxyz")\λme=>
 am (am ((.int 26)\λx2=>bK x2) λx3=>am (am (lB ((.int 1)\λx4=>(.int 3)\λx5=>(.int 5)\λx6=>(.int 7)\λx7=>(.int 9)\λx8=>(.int 11)\λx9=>bd [x4,x5,x6,x7,x8,x9])) λkG=>bx kG) λnZ=>bd (.tup [x3,nZ])) λmB=>am (q9 mB) λzJ=>
 am (am (lB ((.str "")\λpP=>(.str "")\λsI=>(.str "a")\λw9=>(.str "zq")\λuT=>(.str "mnopqrs")\λzS=>bd [pP,sI,w9,uT,zS])) λMt=>bx Mt) λrR=>
 (am (am (bd GR) eL) λl22=>bI l22 λĕ=>(w2 addW (b2 M8 (bd me) (b2 oMod (w2 addW (bd zJ.1) (b2 kI (bd zJ.2) (bd ĕ))) (bd (.int 26)))) (bd rR)))
def cv (vO:PV):W PV:=
 am (am (bd vO) aw) λng=>
 am (am (b2 GD (am (bd ng) GY) (bd (.int 1))) eL) λl23=>am (bz l23 ng λXN s3=>(
 am (am (am (bd s3) GY) λx6=>bK x6) λx7=>am (xD s3 x7) λt8=>
 am (am (am (bd t8.1) GY) λkG=>bK kG) λaag=>
 am (t8.2\λmB=>am (bB (bd t8.1) (bd aag)) λsJ=>bd (.tup [mB,sJ])) λxH=>
 am (d4 (t2 fM ((.int 2)\λpP=>bK pP) (bd (.int 0))) (bd xH) (xH\λsI=>bm\λi17=>bm\λj18=>am (am (am (bd (.int 1)) M9) part) λk19=>Pl sI i17 j18 k19)) λMt=>aag\λOH=>am (iU t8.1 OH Mt) λLk=>
 bd Lk)) λs3=>
 (bB (bd s3) (bd (.int 0)))
def k8 (tH:PV):W PV:=
 am (am (w2 addW (bd (.int 1)) (tH\λx2=>bK x2)) λx3=>g9 x3) λdE=>
 (am ((.cl dE)\λx4=>cv x4) λx5=>(.cl dE)\λx6=>bd (.tup [x5,x6]))
def du (qH:PV) (tH:PV):W PV:=
 am (am (am (w2 addW (bd (.int 1)) (tH\λx2=>bK x2)) eL) λl4=>bI l4 λp5=>(qH\λx6=>bx x6)) λng=>
 ((.cl ng)\λx7=>cv x7)
def aV:Nat->PV->W (List PV)
 | 0,_=>W.fail
 | n+1,c9=>
 d4 (am (am (bd c9) (f9 .str)) fH) (
 (c9\λx1=>bd [x1])) (
 am (lB (am (bB (am (bd c9) aw) (bd (.int 0))) λx2=>aV n x2)) λqK=>am (lB (am (bB (am (bd c9) aw) (bd (.int 1))) λx3=>aV n x3)) λoG=>
 []\λpX=>
 am (am (bd oG) aw) λl26=>am (bz l26 pX λtE s7=>(
 am (xi (am (am (bd tE) (f9 .str)) fH)) λb=>am (if b=true then (
 am (am (w2 addW (bB (am (bd tE) aw) (bd (.int 0))) (c1 df (bd qK))) λuU=>am (w2 addW (bB (am (bd tE) aw) (bd (.int 1))) (c1 df (bd qK))) λpP=>bd (.tup [uU,pP])) λLC=>
 bd LC) else (
 bd tE)) λĔ=>
 Ĕ\λw9=>am (fx s7 w9) λsU=>
 bd sU)) λs7=>
 (am (am (am (bd qK) tJ) λl18=>s7\λZc=>mH l18 Zc) λl23=>am (am (am (b2 GD (c1 df (bd qK)) (bd (.int 1))) λMt=>am (b2 GD (w2 addW (c1 df (bd qK)) (c1 df (bd oG))) (bd (.int 1))) λOH=>bd (.tup [Mt,OH])) λMs=>bd [Ms]) λl24=>mH l23 l24))
def dA (ck:PV):W PV:=
 am (ck\λx2=>aV 12 x2) λbJ=>
 am (am ((.int 0)\λx4=>bd [x4]) λl5=>am (c1 df (bd (.cl bJ))) λx6=>TJ l5 x6) λyK=>
 (.int 0)\λKr=>
 am (am (am (am (bd (.cl bJ)) aw) λl9=>.fj (l9.length<=sizeLine) (.ret (d7 0 l9))) λl10=>nu l10 λė=>am (q9 ė) λđ=>QD (xi (am (am (bd đ.2) (f9 .str)) fH)) (bd đ.1)) λlT=>
 am (am (am (bd lT) GY) eL) λl32=>am (bz l32 (yK,Kr,lT) λK1 Gj=>(
 []\λyH=>
 am (bz Gj.2.2 yH λMl Wr=>(
 d4 (z9 (Q7 true (bB (am (bB (am (bd (.cl bJ)) aw) (bd Ml)) aw) (bd (.int 0))) (bd Gj.2.2)) (Q7 true (bB (am (bB (am (bd (.cl bJ)) aw) (bd Ml)) aw) (bd (.int 1))) (bd Gj.2.2))) (
 Ml\λOH=>am (fx Wr OH) λLY=>
 bd LY) (
 bd Wr))) λWr=>
 am ((.cl Wr)\λOG=>bx OG) λSo=>
 am (w2 addW (w2 addW (bd Gj.2.1) (bd (.int 1))) ((.int 12)\λOD=>bK OD)) λzc=>
 zc\λx27=>So\λx28=>am (iU Gj.1 x28 x27) λHv=>
 So\λx30=>am (Ye Gj.2.2 x30) λsM=>
 bd (Hv,zc,sM))) λGj=>
 (am (bd Gj.1) mD)
def e6 (ck:PV):W PV:=
 d4 (t2 fM ((.int 2)\λx1=>bK x1) (bd (.int 0))) (
 (ck\λx2=>k7 x2)) (
 (ck\λx3=>am (ck\λx4=>dA x4) λx5=>ma x3 x5))
def cY:W PV:=
 []\λgF=>
 am (am (bd (.int 4)) eL) λl25=>am (bz l25 gF λk_4 s3=>(
 am ((.int 0)\λx6=>(.int 1)\λx7=>(.int 2)\λx8=>(.int 3)\λx9=>(.int 10)\λkG=>am ((.int 10)\λnZ=>bK nZ) λmB=>am ((.int 1001)\λsJ=>bK sJ) λuU=>bd [x6,x7,x8,x9,kG,mB,uU]) λPj=>
 am (am (am (bd (.cl Pj)) tJ) λZc=>am ((.int 1000)\λsI=>am (w2 addW (b2 Ql (bd (.int 10)) (bd (.int 28))) ((.int 1000)\λw9=>bK w9)) λuT=>bd [sI,uT]) λl20=>mH Zc l20) λLj=>
 am ((.cl Lj)\λMs=>bx Ms) λOG=>am (fx s3 OG) λlE=>
 bd lE)) λs3=>
 (am (bd s3) mD)
def dz (ak:PV) (bu:PV) (a9:PV) (È:PV):W (List PV):=
 am (bB (am (bd ak) aw) (bd È)) λx1=>am (un4 x1) λt3=>
 d4 (am (am (bB (am (bd bu) aw) (bd a9)) (f9 .str)) fH) (
 (d4 (z9 (t2 fM (bd t3.2.2.1) (bd (.tup []))) (t2 fM (bd t3.1) (bB (am (bd bu) aw) (bd a9)))) (am (.aN\λx4=>am (lB (bd [])) λx5=>bd (.tup [x4,x5])) λx6=>bd [x6]) (bd []))) (
 am (bB (am (bd bu) aw) (bd a9)) λx7=>am (q9 x7) λt8=>
 am (am ((.int 1)\λkG=>am (lB (am (t8.1\λnZ=>È\λmB=>bd (.tup [nZ,mB])) λsJ=>am (t8.2\λuU=>È\λpP=>bd (.tup [uU,pP])) λsI=>bd [sJ,sI])) λw9=>bd (.tup [kG,w9])) λuT=>bd [uT]) λyJ=>
 am (am (bd t3.2.2.2) aw) λl83=>am (bz l83 yJ λO3 uQ=>(
 am ((.int 2)\λMs=>am (lB (am (t8.1\λOG=>È\λOE=>bd (.tup [OG,OE])) λOD=>am (t8.2\λMr=>O3\λx27=>bd (.tup [Mr,x27])) λx28=>bd [OD,x28])) λx29=>bd (.tup [Ms,x29])) λx30=>am (fx uQ x30) λlE=>
 am ((.int 2)\λx32=>am (lB (am (t8.1\λx33=>O3\λx34=>bd (.tup [x33,x34])) λx35=>am (t8.2\λx36=>È\λx37=>bd (.tup [x36,x37])) λx38=>bd [x35,x38])) λx39=>bd (.tup [x32,x39])) λx40=>am (fx lE x40) λHu=>
 bd Hu)) λuQ=>
 am (t2 fM (c1 df (bd t3.2.2.1)) (bd (.int 2))) λb=>am (if b=true then (
 am ((.int 0)\λx63=>am (lB (am (t8.1\λx64=>am (bB (am (bd t3.2.2.1) aw) (bd (.int 0))) λx65=>bd (.tup [x64,x65])) λx66=>am (t8.2\λx67=>am (bB (am (bd t3.2.2.1) aw) (bd (.int 1))) λx68=>bd (.tup [x67,x68])) λx69=>bd [x66,x69])) λx70=>bd (.tup [x63,x70])) λx71=>am (fx uQ x71) λHt=>
 am ((.int 0)\λx73=>am (lB (am (t8.1\λx74=>am (bB (am (bd t3.2.2.1) aw) (bd (.int 1))) λx75=>bd (.tup [x74,x75])) λx76=>am (t8.2\λx77=>am (bB (am (bd t3.2.2.1) aw) (bd (.int 0))) λx78=>bd (.tup [x77,x78])) λx79=>bd [x76,x79])) λx80=>bd (.tup [x73,x80])) λx81=>am (fx Ht x81) λHs=>
 bd Hs) else (
 bd uQ)) λē=>
 bd ē)
def eZ (ak:PV) (a9:PV) (È:PV):W (List PV):=
 am (bB (am (bB (am (bd ak) aw) (bd È)) aw) (bd (.int 2))) λgq=>
 am (d4 (t2 fM (c1 df (bd gq)) (bd (.int 2))) (bd (.int 3)) (bd .aN)) λLr=>
 (am (am (bd gq) aw) λl3=>bI l3 λp4=>(Lr\λx5=>am (lB (am (a9\λx6=>p4\λx7=>bd (.tup [x6,x7])) λx8=>bd [x8])) λx9=>bd (.tup [x5,x9])))
def fZ (jY:PV) (ah4:PV):W PV:=
 d4 (tor (xi (am (am (bd jY) (f9 .tup)) fH)) (t2 xJ (bd jY) (bd ah4))) (
 (bd (.bl false))) (
 am (am (bd jY) aw) λl7=>am (mF l7 () λvP s1=>(
 d4 (tor (xi (am (am (bd vP) (f9 .tup)) fH)) (am (am (am (am (bd vP) aw) λl3=>bI l3 λp4=>(am (bd p4) (f9 .bool))) Oh) fH)) (
 (.bl false)\λx5=>bd (Lp.out x5)) (
 bd (.go ())))) (Oy (λs1=>
 (bd (.bl true))) id))
def iW (dB:List PV) (cI:PV):W (PV×List PV):=
 am (w2 addW (bB (bd dB) (bd (.int 2))) (bd (.int 1))) λx2=>(.int 2)\λx3=>am (iU dB x3 x2) λaP=>
 d4 (z9 (t2 oGt (bB (bd aP) (bd (.int 0))) (bd (.int 0))) (t2 oLe (bB (bd aP) (bd (.int 2))) (bd (.int 60)))) (
 am (b2 oMod (bB (bd aP) (bd (.int 0))) (bd cI)) λsC=>
 am (b2 oDiv (bB (bd aP) (bd (.int 0))) (bd cI)) λx6=>(.int 0)\λx7=>am (iU aP x7 x6) λfX=>
 sC\λx8=>bd (x8,fX)) (
 am (b2 oMod (w2 addW (w2 addW (b2 kI (bB (bd aP) (bd (.int 1))) (bd (.int 48271))) (bd (.int 12345))) (bB (bd aP) (bd (.int 2)))) (bd (.int 2147483647))) λkG=>(.int 1)\λnZ=>am (iU aP nZ kG) λcj=>
 am (b2 oMod (b2 oDiv (b2 oMod (b2 kI (bB (bd cj) (bd (.int 1))) (w2 addW (b2 oMod (bB (bd cj) (bd (.int 1))) (bd (.int 40009))) (bd (.int 3)))) (bd (.int 2147483629))) (bd (.int 7))) (bd cI)) λmB=>bd (mB,cj))
def g8 (cI:PV):W (List PV):=
 (.str "abcdefghijklmnopqrstuvwxyz")\λme=>
 am (am ((.int 26)\λx2=>bK x2) λx3=>am (am (lB ((.int 1)\λx4=>(.int 3)\λx5=>(.int 5)\λx6=>(.int 7)\λx7=>(.int 9)\λx8=>(.int 11)\λx9=>bd [x4,x5,x6,x7,x8,x9])) λkG=>bx kG) λnZ=>bd (.tup [x3,nZ])) λmB=>am (q9 mB) λzJ=>
 am (am (lB ((.str "")\λpP=>(.str "")\λsI=>(.str "a")\λw9=>(.str "zq")\λuT=>(.str "mnopqrs")\λzS=>bd [pP,sI,w9,uT,zS])) λMt=>bx Mt) λrR=>
 (am (am (bd cI) eL) λl22=>bI l22 λĕ=>(w2 addW (b2 M8 (bd me) (b2 oMod (w2 addW (bd zJ.1) (b2 kI (bd zJ.2) (bd ĕ))) (bd (.int 26)))) (bd rR)))
def dw (tH:PV):W PV:=
 am (am (w2 addW (bd (.int 1)) (tH\λx2=>bK x2)) λx3=>g8 x3) λdE=>
 (am ((.cl dE)\λx4=>cv x4) λx5=>(.cl dE)\λx6=>bd (.tup [x5,x6]))
def bP:Nat->PV->PV->PV->PV->W (List PV)
 | 0,_,_,_,_=>W.fail
 | n+1,ak,bu,a9,È=>
 []\λgF=>
 am (bB (am (bd bu) aw) (bd a9)) λgN=>
 am (bB (am (bd ak) aw) (bd È)) λx3=>am (un4 x3) λt4=>
 am (am (am (bd gN) (f9 .str)) fH) λb=>am (if b=true then (
 am (d4 (z9 (t2 fM (bd t4.2.2.1) (bd (.tup []))) (t2 fM (bd t4.1) (bd gN))) (am (am (È\λx80=>bd (.tup [x80])) λx81=>(.str "found")\λx82=>bd (.tup [x81,x82])) λx83=>bd [x83]) (bd [])) λHr=>
 bd Hr) else (
 am (am ((.str "doubled")\λx85=>È\λx86=>È\λx87=>bd (.tup [x85,x86,x87])) λx88=>bd [x88]) λxt=>
 am (am (bd t4.2.2.2) aw) λagH=>am (bz agH xt λO2 Wq=>(
 am (Wq\λagO=>am (am ((.str "over")\λx92=>È\λx93=>O2\λx94=>bd (.tup [x92,x93,x94])) λx95=>am ((.str "over")\λx96=>O2\λx97=>È\λx98=>bd (.tup [x96,x97,x98])) λx99=>bd [x95,x99]) λagN=>mH agO agN) λLi=>
 bd Li)) λWq=>
 am (t2 fM (c1 df (bd t4.2.2.1)) (bd (.int 2))) λb=>am (if b=true then (
 am ((.str "split")\λXF=>am (bB (am (bd t4.2.2.1) aw) (bd (.int 0))) λXE=>am (bB (am (bd t4.2.2.1) aw) (bd (.int 1))) λXD=>bd (.tup [XF,XE,XD])) λXC=>am (fx Wq XC) λoo=>
 am ((.str "split")\λXB=>am (bB (am (bd t4.2.2.1) aw) (bd (.int 1))) λXA=>am (bB (am (bd t4.2.2.1) aw) (bd (.int 0))) λXz=>bd (.tup [XB,XA,Xz])) λXy=>am (fx oo Xy) λom=>
 bd om) else (
 bd Wq)) λMU=>
 am (am (bd (.cl MU)) aw) λagI=>am (bz agI gF λago Gk=>am (un3 ago) λIC=>(
 am (ak\λafS=>bu\λafR=>am (bB (am (bd gN) aw) (bd (.int 1))) λafQ=>IC.2.2\λafP=>bP n afS afR afQ afP) λnj=>
 am (ak\λafO=>bu\λafN=>am (bB (am (bd gN) aw) (bd (.int 0))) λafM=>IC.2.1\λafL=>bP n afO afN afM afL) λagJ=>am (bz agJ Gk λLA IQ=>(
 am (am (am (bd (.cl nj)) aw) λagL=>bI agL λUj=>(am (È\λafK=>bd (.tup [afK])) λafJ=>IC.1\λafI=>LA\λafH=>Uj\λafG=>bd (.tup [afJ,afI,afH,afG]))) λagK=>am (J2 IQ agK) λwA=>
 bd wA)) λIQ=>
 bd IQ)) λGk=>
 bd Gk)) λõ=>
 am (am (bd t4.2.2.1) aw) λagF=>am (bz agF õ λmx xy=>(
 am (ak\λafF=>bu\λafE=>a9\λafD=>mx\λafC=>bP n afF afE afD afC) λn6=>
 am (am (am (bd (.cl n6)) aw) λagG=>bI agG λM3=>(w2 addW (am (w2 addW (È\λOL=>bd (.tup [OL])) (bB (am (bd M3) aw) (bd (.int 0)))) λOK=>bd (.tup [OK])) (M3\λOJ=>am (am (bd (.int 1)) part) λRb=>bm\λQY=>MH OJ Rb QY))) λZd=>am (J2 xy Zd) λmh=>
 bd mh)) λxy=>
 bd xy
def fU (ak:PV) (bu:PV):W PV:=
 am (am (c1 df (bd bu)) eL) λl41=>am (bz l41 [] λeV s3=>(
 am (am (c1 df (bd ak)) eL) λl39=>am (bz l39 s3 λOe s6=>(
 (.int 0)\λxg=>
 am (ak\λkG=>bu\λnZ=>eV\λmB=>Oe\λsJ=>dz kG nZ mB sJ) λxr=>
 am (am (am (bd (.cl xr)) tJ) λUZ=>am (ak\λuU=>eV\λpP=>Oe\λsI=>eZ uU pP sI) λl18=>mH UZ l18) λl37=>am (bz l37 xg λp20 uQ=>am (q9 p20) λĐ=>(
 (.int 1)\λjT=>
 am (am (bd Đ.2) aw) λl30=>am (bz l30 jT λpe Tv=>(
 am (b2 kI (bd Tv) (pe\λMr=>am (tY Mr) λk27=>W.Im (cL s6 k27))) λgD=>
 bd gD)) λTv=>
 am (w2 addW (bd uQ) (bd Tv)) λzZ=>
 bd zZ)) λuQ=>
 uQ\λx34=>am (eV\λx32=>Oe\λx33=>bd (.tup [x32,x33])) λx35=>am (PN s6 x35 x34) λG4=>
 bd G4)) λs6=>
 bd s6)) λs3=>
 (am (bd (s3.map (·.2))) kR)
def bM:Nat->PV->PV->PV->W PV
 | 0,_,_,_=>W.fail
 | n+1,ak,aZ,xb=>
 am (am (am (am (am (bB (am (bd xb) aw) (bd (.int 0))) λx4=>bm\λi2=>am (am (am (bd (.int 1)) M9) part) λj3=>MH x4 i2 j3) aw) λl5=>nu l5 λp6=>QD (t2 fM (c1 df (bB (am (bB (am (bd ak) aw) (bd p6)) aw) (bd (.int 2)))) (bd (.int 2))) (bB (am (bd aZ) aw) (bd (.int 3)))) kR) λxh=>
 d4 (t2 fM (bB (am (bd xb) aw) (bd (.int 1))) (bd (.str "found"))) (
 (bd xh)) (
 am (w2 addW (bd xh) (bB (am (bd aZ) aw) (am ((.str "split")\λx8=>(.str "doubled")\λx9=>(.str "over")\λkG=>bd [x8,x9,kG]) λl11=>am (bB (am (bd xb) aw) (bd (.int 1))) λmB=>ND l11 mB))) λK2=>
 am (w2 addW (bd K2) (ak\λuU=>aZ\λpP=>am (bB (am (bd xb) aw) (bd (.int 2))) λsI=>bM n uU pP sI)) λz0=>
 (w2 addW (bd z0) (ak\λw9=>aZ\λuT=>am (bB (am (bd xb) aw) (bd (.int 3))) λzS=>bM n w9 uT zS)))
def hE (lA:PV):W PV:=
 am (lA\λx1=>dw x1) λx2=>am (q9 x2) λt3=>
 am (t3.1\λx5=>e6 x5) λgr=>
 am (t3.2\λx7=>(.int 4)\λx8=>du x7 x8) λjM=>
 am (am (bd (.int 3)) eL) λl23=>am (bz l23 jM λS7 SK=>(
 d4 (t2 oGt (gr\λmB=>am (lB (SK\λsJ=>aV 12 sJ)) λuU=>fU mB uU) (bd (.int 600))) (
 am (bB (am (bd SK) aw) ((.int 2)\λsI=>bK sI)) λmJ=>
 bd mJ) (
 bd SK))) λSK=>
 (gr\λw9=>SK\λuT=>am (lB (SK\λzS=>aV 12 zS)) λMt=>am (cY) λOH=>bd (.tup [w9,uT,Mt,OH]))
def dc (jY:PV) (qC:PV):W PV:=
 d4 (tor (xi (am (am (bd jY) (f9 .tup)) fH)) (t2 xJ (bd jY) (bd qC))) (
 (bd (.bl false))) (
 am (am (bd jY) aw) λl7=>am (mF l7 () λvP s1=>(
 d4 (tor (xi (am (am (bd vP) (f9 .tup)) fH)) (am (am (am (am (bd vP) aw) λl3=>bI l3 λp4=>(am (bd p4) (f9 .bool))) Oh) fH)) (
 (.bl false)\λx5=>bd (Lp.out x5)) (
 bd (.go ())))) (Oy (λs1=>
 (bd (.bl true))) id))
def e7 (ak:PV) (bu:PV) (aZ:PV):W PV:=
 []\λnh=>
 am (am (c1 df (bd bu)) eL) λl28=>am (bz l28 nh λeV s3=>(
 []\λPp=>
 am (am (c1 df (bd ak)) eL) λl26=>am (bz l26 Pp λad1 s7=>(
 am (ak\λkG=>bu\λnZ=>eV\λmB=>ad1\λsJ=>bP 50 kG nZ mB sJ) λOQ=>
 am (am (am (bd (.cl OQ)) aw) λl15=>bI l15 λĖ=>(ak\λw9=>aZ\λuT=>Ė\λzS=>bM 8 w9 uT zS)) λuC=>
 am (d4 (am (am (bd (.cl uC)) tJ) λl21=>bd (!l21.isEmpty)) (am (am (bd (.cl uC)) tJ) GP) (bd .aN)) λMs=>am (fx s7 Ms) λPq=>
 bd Pq)) λs7=>
 am (am (bd s7) mD) λOE=>am (fx s3 OE) λLm=>
 bd Lm)) λs3=>
 (am (bd s3) mD)
def oT (gB:PV):W PV:=
 am (am ((.int 1)\λx3=>am ((.int 4)\λx1=>am (c1 df (bd gB)) λx2=>qf Oc [x1,x2]) λx4=>qf Od [x3,x4]) eL) λl30=>am (mF l30 () λĲ s6=>(
 am (am (gB\λx8=>Ĳ\λx9=>fV x8 x9) λl10=>agm iw l10 ((.int 4)\λnZ=>hE nZ)) λmB=>am (un4 mB) λzJ=>
 am (zJ.1\λpP=>zJ.2.2.1\λsI=>zJ.2.2.2\λw9=>e7 pP sI w9) λlG=>
 am (am (bd (.int 2)) eL) λl28=>am (mF l28 () λS6 uQ=>(
 d4 (xi (am (am (zJ.1\λOH=>zJ.2.1\λMs=>zJ.2.2.2\λOG=>oS OH Ms OG) λOE=>lG\λOD=>dc OE OD) fH)) (
 (.bl false)\λMr=>bd (Lp.out Mr)) (
 bd (.go ())))) (Oy (λuQ=>
 bd (.go ())) Lp.out))) (Oy (λs6=>
 (bd (.bl true))) id)
end My
variable {x:PL.PV}{Q:List PL.PV->Prop}{t:My.Tr}
namespace My
open PySem PySem.Spec PyProof.Rows L2 PL FL
def Tr.pv:Tr->PV
 | .leaf x=>.str x
 | .node l r=>.tup [l.pv,r.pv]
def Ent.pv:Ent->PV
 | .word x=>.str x
 | .pair a b=>.tup [.int (a:Int),.int (b:Int)]
def Tq {l:List α} (h:l≠[]):∃a x,l=a++[x]:=⟨l.dropLast,l.getLast h,(List.dropLast_concat_getLast h).symm⟩
def Pm {a b:List Tr} (h:jr a++b=t.post):fi a+b.length=t.size:=by
 have h1:=congrArg BS h;rw [Ah,t.kW] at h1;have h2:∀l:List Tr,(jr l).length=fi l:=by
  intro l
  induction l with
  | nil=>rfl
  | cons x l ih=>
   have e1:jr (x::l)=x.post++jr l:=rfl;have e2:fi (x::l)=x.size+fi l:=rfl;rw [e1,e2,Ah,ih,x.kW]
 rw [h2] at h1;exact h1
theorem cQ (h:l.length < 1000):fx l x=.ret (l++[x]):=lc (by have:=bW (n:=1000) (Am _);omega)
theorem Qe (t:Tr) (hz:t.size<=900):(jU t.pv).le (.ret (t.post.map Tr.pv)):=λQ q=>by
 refine Iu (λn s=>∃ts bs:List Tr,n=fi ts/\s=(bs.map Tr.pv,ts.map Tr.pv)/\jr ts++bs.reverse=t.post) ⟨[t],[],rfl,rfl,by rw [qc];simp⟩ ?_;rintro n s ⟨ts,bs,rfl,rfl,hp⟩;have hs:=Pm hp;rw [Cj] at hs;by_cases he:ts=[]
 ·subst he;have Ľ:bs.reverse=t.post:=hp;simp;rw [<- List.map_reverse,Ľ];exact q
 ·obtain⟨us,u,rfl⟩:=Tq he;have SQ:=vW us;rw [gA,pW] at hs;simp;rw [cQ (by rw [Af];omega)];cases u with
  | leaf x=>
   simp [Tr.pv];refine⟨_,?_,us,rfl,bs++[.leaf x],⟨by simp [Tr.pv],rfl⟩,?_⟩
   ·rw [gA,pW];show fi us < fi us+1;omega
   ·rw [jP,qc] at hp;rw [FH,<- hp];simp [Tr.post]
  | node c d=>
   have e1:J2 (us.map Tr.pv) [c.pv,d.pv]=.ret (us.map Tr.pv++[c.pv,d.pv]):=lc (bW (by
    have:(Tr.node c d).size=c.size+d.size+1:=rfl;simp;omega))
   simp [Tr.pv,e1];refine⟨_,?_,us++[c,d],rfl,bs++[.node c d],⟨by simp [Tr.pv],by simp⟩,?_⟩
   ·have e2:fi [Tr.node c d]=c.size+d.size+1:=by rw [pW];rfl
    have e3:fi [c,d]=c.size+d.size:=by simp [fi]
    rw [gA,gA,e2,e3];omega
   ·rw [jP,qc] at hp;rw [FH,<- hp,jP,MY];simp [Tr.post]
def aE (l:List Nat):List PV:=l.map λ(n:Nat)=>.int (n:Int)
@[simp] theorem cf (l:List Nat):(aE l).length=l.length:=Af _
@[simp] theorem Qs (a b:List Nat):aE (a++b)=aE a++aE b:=Az
@[simp] theorem jv (a:Nat) (l:List Nat):aE (a::l)=.int (a:Int)::aE l:=rfl
@[simp] theorem kZ:aE []=[]:=rfl
def qu (n:Nat):iJ 0 n=aE (Aw n):=by
 refine Be λi _=>?_;rw [Dz]
theorem QC {p:Nat->Bool}:∀{l:List Nat},(∀k∈l,f (.int ((k:Nat):Int))=.ret (if p k=true then ap (.int ((k:Nat):Int)) else bm))->nu (aE l) f=.ret (aE (l.filter p))
 | [],_=>rfl
 | k::l,h=>by
  show am (f _) (λo=>am (nu (aE l) f) λm=>bd (o.toList++m))=_;rw [h k (.head _),QC λy hy=>h y (.tail _ hy),DS];cases p k <;> rfl
theorem jS {f:PV->W PV}{g:Nat->PV}:∀{l:List Nat},(∀k∈l,f (.int ((k:Nat):Int))=.ret (g k))->bI (aE l) f=.ret (l.map g)
 | [],_=>rfl
 | k::l,h=>by
  show am (f _) (λy=>am (bI (aE l) f) λm=>bd (y::m))=_;rw [h k (.head _),jS λy hy=>h y (.tail _ hy)];rfl
def acy (g:PV->Option PV) (h:∀x∈l,f x=.ret (g x)) (q:Q (l.filterMap g)):(nu l f).run Q:=by rw [xU h];exact q
def Qw {f:PV->W PV} (g:PV->PV) (h:∀x∈l,f x=.ret (g x)) (q:Q (l.map g)):(bI l f).run Q:=by rw [LL h];exact q
def QB {l:List Nat} (p:Nat->Bool) (h:∀k∈l,f (.int ((k:Nat):Int))=.ret (if p k=true then ap (.int ((k:Nat):Int)) else bm)) (q:Q (aE (l.filter p))):(nu (aE l) f).run Q:=by rw [QC h];exact q
def Nh {l:List Nat}{f:PV->W PV} (g:Nat->PV) (h:∀k∈l,f (.int ((k:Nat):Int))=.ret (g k)) (q:Q (l.map g)):(bI (aE l) f).run Q:=by rw [jS h];exact q
theorem oK (t:Tr) (hz:t.size<=900):(iI t.pv).le (.ret (.tup ((t.nd 0).map Ent.pv))):=λQ q=>by
 unfold iI;simp only [ga,ci];refine W.le.use (Qe t hz) ?_;refine uk (λr s=>∃(k:List Tr) (À:List Ent) (ls:List Nat),r=k.map Tr.pv/\s=(À.map Ent.pv,aE ls.reverse)/\run k À ls=ap (t.nd 0,[t.size-1])/\À.length+k.length<=900/\ls.length<=À.length) ⟨t.post,[],[],rfl,rfl,MV t,by simp [t.kW];omega,Am _⟩ ?_ ?_
 ·rintro x r s ⟨k,À,ls,e,rfl,h,hl,ă⟩;cases k with
  | nil=>cases e
  | cons p k=>
   injection e with e1 e2;subst e1;subst e2;rw [Ap] at hl;cases p with
   | leaf x=>
    have a1:∀y,fx (aE ls.reverse) y=.ret (aE ls.reverse++[y]):=λy=>cQ (by simp;omega);simp [Tr.pv,cQ (l:=À.map Ent.pv) (by simp;omega),a1];refine⟨k,rfl,À++[Ent.word x],À.length::ls,⟨by simp [Ent.pv],by simp⟩,h,by simp;omega,by simp;omega⟩
   | node c d=>
    match ls,h,ă with
    | b::a::ls,h,ă=>
     rw [Ap,Ap] at ă;have a0:aE (b::a::ls).reverse=(aE ls.reverse++[.int (a:Int)])++[.int (b:Int)]:=by simp
     have a1:∀y,fx (aE ls.reverse) y=.ret (aE ls.reverse++[y]):=λy=>cQ (by simp;omega);rw [a0];simp only [Tr.pv,ga,gG,j6,cO,Av,if_false,ZR];simp [cQ (l:=À.map Ent.pv) (by simp;omega),a1];refine⟨k,rfl,À++[Ent.pair a b],À.length::ls,⟨by simp [Ent.pv],by simp⟩,h,by simp;omega,by simp;omega⟩
 ·rintro s ⟨k,À,ls,e,rfl,h,hl,ă⟩;cases k with
  | nil=>
   cases h;simpa using q
  | cons p k=>cases e
end My
variable {a b:Int}
namespace My
open PySem PySem.Spec PyProof.Rows L2 PL FL
theorem mulL (h:-1000000000<=a/\a<=1000000000):wE a b:=WD ∅ ∅
theorem mulR (h:-1000000000<=b/\b<=1000000000):wE a b:=mul_r ∅ ∅
theorem aaj (i:Int):0<=(if i < 0 then -i else i):=by split <;> omega
theorem bh (h:-1000<=i/\i<=1000/\-1000<=j/\j<=1000) (h2:j-i<=1000):okN i j:=⟨by omega,by omega,by omega,by omega,bW ∅⟩
structure Mp (t:Tr):Prop where
 ws:t.Ws
 nd:t.ay.Nodup
 few:t.ay.length<=8
 sg:∃b,b<=1/\(t.ay.map λx=>x.cps[b]?).Nodup
end My
variable {a b i j:Nat}{ds:List Int}{d:Int}{left:List Nat}
namespace My
open PySem PySem.Spec PyProof.Rows L2 PL FL
def vk:Ent->Bool
 | .word _=>false
 | .pair _ _=>true
structure Dt (t:Tr) (ds:List Int) (left:List Nat) (d:Int):Prop where
 len:ds.length=t.size
 zero:∀j,j < t.size->(vk (en t 0 j)=false\/j∈left)->ds.getD j 0=0
 up:∀j,j < t.size->j∉left->∀a b,en t 0 j=.pair a b->a∉left/\b∉left/\ds.getD a 0 < ds.getD j 0/\ds.getD b 0 < ds.getD j 0/\1<=ds.getD j 0/\ds.getD j 0<=d
 inj:∀i j,i < t.size->j < t.size->i∉left->j∉left->vk (en t 0 i)=true->vk (en t 0 j)=true->ds.getD i 0=ds.getD j 0->i=j
 pos:0<=d
 lft:∀j∈left,j < t.size/\vk (en t 0 j)=true
 ris:left.Pairwise (· < ·)
def iY {l:List Int}{v:Int} (h:i < l.length):(l.set i v).getD i 0=v:=by rw [Aj,CS h];rfl
def bN {l:List Int}{v:Int} (h:i≠j):(l.set i v).getD j 0=l.getD j 0:=by rw [Aj,Ce h,<- Aj]
def va {l:List Nat} (h:l.Pairwise (· < ·)) {x y:Nat}:y∈l.erase x↔y∈l/\y≠x:=by
 have nd:l.Nodup:=h.imp (λz=>AG z);rw [nd.mem_erase_iff];exact⟨λz=>⟨z.2,z.1⟩,λz=>⟨z.2,z.1⟩⟩
theorem jE (t:Tr) (h:j < t.size) (e:en t 0 j=.pair a b):a < j/\b < j:=by
 rcases Sn t 0 j h with⟨x,e1,_⟩ | ⟨a',b',e1,e2,e3,_⟩
 ·rw [e1] at e;cases e
 ·rw [e1] at e;injection e with h1 h2;omega
theorem Dt.next {x:Int} (D:Dt t ds left d) (hj:j∈left) (e:en t 0 j=.pair a b) (ha:a∉left) (hb:b∉left) (hx:0<=x):Dt t (ds.set j (d+1+x)) (left.erase j) (d+1+x):=by
 obtain⟨hjs,hjp⟩:=D.lft j hj;obtain⟨haj,hbj⟩:=jE t hjs e;have ê:j < ds.length:=by rw [D.len];exact hjs
 have hm:∀y,y∈left.erase j↔y∈left/\y≠j:=λy=>va D.ris;have Ö:∀y,y < t.size->y∉left->ds.getD y 0<=d:=λy hy Ĝ=>by
  cases ey:en t 0 y with
  | word w=>rw [D.zero y hy (.inl (by rw [ey];rfl))];exact D.pos
  | pair p q=>exact (D.up y hy Ĝ p q ey).2.2.2.2.2
 refine⟨by rw [B4];exact D.len,λy hy hc=>?_,λy hy Ĝ p q ey=>?_,λu v hu hv hul hvl pu pv Rc=>?_,by have:=D.pos;omega,λy hy=>D.lft y ((hm y).mp hy).1,List.Pairwise.sublist List.erase_sublist D.ris⟩
 ·have ā:j≠y:=λz=>by
   subst z;rcases hc with hc | hc
   ·rw [hjp] at hc;cases hc
   ·exact ((hm j).mp hc).2 rfl
  rw [bN ā];exact D.zero y hy (hc.imp id λz=>((hm y).mp z).1)
 ·by_cases ā:j=y
  ·subst ā;rw [e] at ey;injection ey with h1 h2;subst h1 h2;have la:=Ö a ∅ ha;have lb:=Ö b ∅ hb;rw [iY ê,bN ∅,bN ∅];have:=D.pos;exact⟨λz=>ha ((hm a).mp z).1,λz=>hb ((hm b).mp z).1,by omega,by omega,by omega,by omega⟩
  ·have agY:y∉left:=λz=>Ĝ ((hm y).mpr ⟨z,BP ā⟩);obtain⟨p1,p2,p3,p4,p5,p6⟩:=D.up y hy agY p q ey;have np:j≠p:=λz=>p1 (z▸hj);have nq:j≠q:=λz=>p2 (z▸hj);rw [bN ā,bN np,bN nq];exact⟨λz=>p1 ((hm p).mp z).1,λz=>p2 ((hm q).mp z).1,p3,p4,p5,by omega⟩
 ·by_cases c1:j=u
  ·by_cases c2:j=v
   ·exact c1.symm.trans c2
   ·exfalso;subst c1;have Zv:v∉left:=λz=>hvl ((hm v).mpr ⟨z,BP c2⟩);rw [iY ê,bN c2] at Rc;have:=Ö v hv Zv;omega
  ·have acX:u∉left:=λz=>hul ((hm u).mpr ⟨z,BP c1⟩);by_cases c2:j=v
   ·exfalso;subst c2;rw [iY ê,bN c1] at Rc;have:=Ö u hu acX;omega
   ·have Zv:v∉left:=λz=>hvl ((hm v).mpr ⟨z,BP c2⟩);rw [bN c1,bN c2] at Rc;exact D.inj u v hu hv acX Zv pu pv Rc
def splits (t:Tr):List Nat:=(Aw t.size).filter λj=>vk (en t 0 j)
def Dt.first (t:Tr):Dt t (An t.size 0) (splits t) 0:=by
 have z:∀j,(An t.size (0:Int)).getD j 0=0:=λj=>by
  rw [Aj,Bv]
  split <;> rfl
 have mem:∀j,j∈splits t↔j < t.size/\vk (en t 0 j)=true:=λj=>by unfold splits;rw [Bg,AX]
 refine⟨Bs,λj _ _=>z j,λj hj hn a b e=>absurd ((mem j).mpr ⟨hj,by rw [e];rfl⟩) hn,λi j hi hj hni _ pi _ _=>absurd ((mem i).mpr ⟨hi,pi⟩) hni,C9 _,λj hj=>(mem j).mp hj,?_⟩;exact List.Pairwise.filter _ Dy
theorem L6 (t:Tr):d7 0 ((t.nd 0).map Ent.pv)=(Aw t.size).map λj=>PV.tup [.int ((j:Nat):Int),(en t 0 j).pv]:=by
 have hl:(d7 0 ((t.nd 0).map Ent.pv)).length=t.size:=by rw [cB,Af,t.bo]
 apply Ci;intro i;by_cases hi:i < t.size
 ·have h1:(d7 0 ((t.nd 0).map Ent.pv))[i]?=ap ((d7 0 ((t.nd 0).map Ent.pv))[i]'∅):=Ae _;obtain⟨y,hy,e⟩:=gL h1;rw [Ak,gU t 0 i hi] at hy;have Zu:=Option.some.inj hy;rw [h1,e,<- Zu,Ak,BI hi,AI];rfl
 ·rw [A6 ∅,A6 (by rw [Af,CA];omega)]
def UQ:PV->Option PV
 | .tup [_,.str _]=>bm
 | .tup [k,_]=>ap k
 | _=>bm
def Y4 (t:Tr):(d7 0 ((t.nd 0).map Ent.pv)).filterMap UQ=aE (splits t):=by
 rw [L6];unfold splits;generalize Aw t.size=l
 induction l with
 | nil=>rfl
 | cons j l ih=>
  rw [Aq,Ba,DS];cases e:en t 0 j with
  | word w=>exact ih
  | pair a b=>
   rw [ih];rfl
def vU (l:List Nat):aE l=(l.map λn=>((n:Nat):Int)).map PV.int:=by unfold aE;rw [Ax];rfl
theorem uq (y:Nat):∀l:List Nat,(l.map λn=>((n:Nat):Int)).erase (y:Int)=(l.erase y).map λn=>((n:Nat):Int)
 | []=>rfl
 | a::l=>by
  rw [Aq,List.erase_cons,List.erase_cons,uq y l];by_cases c:a=y
  ·subst c;simp
  ·have c1:(((a:Nat):Int)==(y:Int))=false:=by simp;omega
   have c2:(a==y)=false:=by simpa using c
   rw [c1,c2];simp
theorem Ln:∀(l:List Nat) (k n:Nat),l.Pairwise (· < ·)->(∀x∈l,k<=x/\x < n)->l.length<=n-k
 | [],_,_,_,_=>Bc _
 | a::l,k,n,h,hb=>by
  have h1:=(Eu.mp h);have h2:=hb a BA;have ih:=Ln l (a+1) n h1.2 λx hx=>⟨h1.1 x hx,(hb x (A4 _ hx)).2⟩;rw [Ap];omega
def X5 (s:Nat):Ent->Ent
 | .word x=>.word x
 | .pair p q=>.pair (p+s) (q+s)
theorem Jh:∀(t:Tr) (o s:Nat),t.nd (o+s)=(t.nd o).map (X5 s)
 | .leaf _,_,_=>rfl
 | .node a b,o,s=>by
  have ha:=a.size_pos;rw [Tr.nd,Tr.nd,Jh a o s,show o+s+a.size=o+a.size+s by omega,Jh b (o+a.size) s,Az,Az];congr 2;congr 1 <;> omega
def gj {m:List PV} (h:l.length+m.length<=1000):mH l m=.ret (l++m):=lc (bW h)
theorem pick_run (h0:l≠[]) (h1:l.length<=1000) {Q:PV->Prop} (q:∀x∈l,Q x):(bx (.cl l)).run Q:=by
 unfold bx;have hp:0 < l.length:=CF.mpr h0;simp only [ga,ci,bU,fD,dG (l.length:Int) ∅ ∅,gl];refine bO λd d0 d1=>?_;obtain⟨v,hv,hv2⟩:=Sq (xs:=l) d0 d1;simp only [bF,hv,u8,gl];exact q v (Bo hv2)
theorem Q6 (k:Nat) (l:List Nat) (b:Bool):rC b (.int (k:Int)) (aE l)=.ret (if b then !decide (k∈l) else decide (k∈l)):=by
 have h1:Hf (.int (k:Int)) (aE l):=⟨by simp,ip.mpr λx hx=>by
  obtain⟨n,_,rfl⟩:=Ar.mp hx;simp,iq λx hx=>by
  obtain⟨n,_,rfl⟩:=Ar.mp hx;simp⟩
 have h2:o8 (.int (k:Int)) (aE l)=decide (k∈l):=by
  unfold o8 aE;rw [FX]
  induction l with
  | nil=>simp
  | cons a l ih=>
   have ih:=ih ⟨by simp,ip.mpr λx hx=>by
    obtain⟨n,_,rfl⟩:=Ar.mp hx;simp,iq λx hx=>by
    obtain⟨n,_,rfl⟩:=Ar.mp hx;simp⟩
   rw [BM,ih];by_cases c:a=k
   ·subst c;simp
   ·have c1:(((a:Nat):Int)==(k:Int))=false:=by simp;omega
    have c2:¬k=a:=λz=>c z.symm;simp [c1,c2]
 unfold rC;rw [lc h1,h2]
def bp (ds:List Int):List PV:=ds.map PV.int
@[simp] theorem fW (ds:List Int):(bp ds).length=ds.length:=Af _
def Q5 (ds:List Int) (y:Nat) (v:Int):(bp ds).set y (.int v)=bp (ds.set y v):=by unfold bp;rw [E6]
def Ot (t:Tr) (left:List Nat) (j:Nat):Bool:=match en t 0 j with
 | .pair a b=>!decide (a∈left)&&!decide (b∈left)
 | _=>false
theorem LQ (h:k < n):wd n (k:Int)=ap k:=by
 unfold wd;rw [if_pos ∅,if_pos ∅];simp
def oq (h:k < l.length):iU l (.int (k:Int)) v=.ret (l.set k v):=by
 unfold iU;simp [LQ h]
def YW (t:Tr) (h:j < t.size):cF ((t.nd 0).map Ent.pv) (j:Int)=ap (en t 0 j).pv:=dJ (by rw [Ak,gU t 0 j h];rfl)
theorem Dt.abN (D:Dt t ds left d) (he:left≠[]):aE (left.filter (Ot t left))≠[]:=by
 obtain⟨l0,l1,rfl⟩:∃l0 l1,left=l0::l1:=by cases left with | nil=>exact absurd rfl he | cons a l=>exact⟨a,l,rfl⟩
 have hr2:Ot t (l0::l1) l0=true:=by
  obtain⟨h1,h2⟩:=D.lft l0 (.head _);unfold Ot;cases e:en t 0 l0 with
  | word w=>rw [e] at h2;cases h2
  | pair a b=>
   obtain⟨g1,g2⟩:=jE t h1 e;have Ö:∀y∈l0::l1,l0<=y:=λy hy=>by
    rcases AD.mp hy with rfl | hy
    ·exact Am _
    ·exact Ef ((Eu.mp D.ris).1 y hy)
   have na:a∉l0::l1:=λz=>by have:=Ö a z;omega
   have nb:b∉l0::l1:=λz=>by have:=Ö b z;omega
   show (!decide _&&!decide _)=true;rw [decide_eq_false na,decide_eq_false nb];rfl
 intro z;have:=congrArg BS z;rw [cf] at this;have m:=Bg.mpr ⟨show l0∈l0::l1 from .head _,hr2⟩;rw [List.length_eq_zero_iff.mp this] at m;cases m
theorem Mp.depth (g:Mp t):t.depth < 8:=by have:=t.lH;have:=g.few;omega
def okJ (t:Tr) (ds:List Int) (j:Nat):Bool:=match en t 0 j with
 | .word _=>ds.getD j 0==0
 | .pair a b=>decide (ds.getD a 0 < ds.getD j 0)&&decide (ds.getD b 0 < ds.getD j 0)&&decide (1<=ds.getD j 0)&&decide (ds.getD j 0<=99)
def Lh (t:Tr) (ds:List Int):List Int:=(splits t).map (ds.getD · 0)
def Vf (t:Tr) (ds:List Int):Bool:=decide (ds.length=t.size)&&(decide (Lh t ds).Nodup&&(Aw t.size).all (okJ t ds))
def int_at (h:j < ds.length):cF (bp ds) (j:Int)=ap (.int (ds.getD j 0)):=dJ (by
 unfold bp;rw [Ak,Ae h,Aj,Ae h];rfl)
theorem Xu (t:Tr) (ds:List Int) (h:ds.length=t.size):pO ((t.nd 0).map Ent.pv) (bp ds)=(Aw t.size).map λj=>PV.tup [(en t 0 j).pv,.int (ds.getD j 0)]:=by
 refine Ci λj=>?_;by_cases hj:j < t.size
 ·have hl:j < (pO ((t.nd 0).map Ent.pv) (bp ds)).length:=by rw [nY];simp [t.bo,h];exact hj
  obtain⟨x,y,hx,hy,e⟩:=sH (Ae hl);rw [Ak,gU t 0 j hj] at hx;have wx:=Option.some.inj hx;have ê:j < ds.length:=by omega
  unfold bp at hy;rw [Ak,Ae ê] at hy;have Zu:=Option.some.inj hy;rw [Ae hl,e,<- wx,<- Zu,Ak,BI hj];show _=ap (PV.tup [_,.int (ds.getD j 0)]);rw [Aj,Ae ê];rfl
 ·rw [A6 (by rw [nY];simp [t.bo,h];omega),A6 (by simp;omega)]
theorem split_le (t:Tr) (ds:List Int) (h:ds.length=t.size) (hz:t.size<=900):dZ (.tup ((t.nd 0).map Ent.pv)) (.tup (bp ds))=.ret (bp (Lh t ds)):=by
 unfold dZ;have c:((t.nd 0).map Ent.pv).length<=sizeLine:=bW (by rw [Af,t.bo];omega);simp only [ga,aG,Mq,lc c,Xu t ds h];rw [xU (g:=λx=>match x with | .tup [.str _,_]=>bm | .tup [_,y]=>ap y | _=>bm) λx hx=>?_]
 ·congr 1;unfold Lh splits bp;generalize Aw t.size=l
  induction l with
  | nil=>rfl
  | cons j l ih=>
   rw [Aq,Ba,DS,ih];cases e:en t 0 j with
   | word w=>rfl
   | pair a b=>rfl
 ·obtain⟨j,hj,rfl⟩:=Ar.mp hx;cases en t 0 j with
  | word w=>simp [Ent.pv]
  | pair a b=>simp [Ent.pv]
end My
variable {e:My.Ent}{es:List My.Ent}
namespace My
open PySem PySem.Spec PyProof.Rows L2 PL FL
section
variable {α β:Type}
theorem Qv {c:α->PV}{f:PV->W PV}{g:α->PV}:∀{l:List α},(∀x∈l,(f (c x)).le (.ret (g x)))->(bI (l.map c) f).le (.ret (l.map g))
 | [],_=>W.le.refl _
 | x::r,h=>W.le.ret (h x (.head _)) (W.le.ret (Qv λy hy=>h y (.tail _ hy)) (W.le.refl _))
theorem WE {c:α->PV}{g:α->Option PV}:∀{l:List α},(∀x∈l,(f (c x)).le (.ret (g x)))->(nu (l.map c) f).le (.ret (l.filterMap g))
 | [],_=>W.le.refl _
 | x::r,h=>W.le.ret (h x (.head _)) (W.le.ret (WE λy hy=>h y (.tail _ hy)) (W.le.of_eq (by rw [Ba];cases g x <;> rfl)))
def iH {c:α->PV}{f:PV->W PV} (g:α->PV) {l:List α} (h:∀x∈l,(f (c x)).le (.ret (g x))) (q:Q (l.map g)):(bI (l.map c) f).run Q:=Qv h Q q
def QA {c:α->PV} (g:α->Option PV) {l:List α} (h:∀x∈l,(f (c x)).le (.ret (g x))) (q:Q (l.filterMap g)):(nu (l.map c) f).run Q:=WE h Q q
theorem W6 {p:α->Bool}{g:α->β}:∀l:List α,l.filterMap (λx=>if p x=true then ap (g x) else bm)=(l.filter p).map g
 | []=>rfl
 | x::l=>by
  rw [Ba,DS,W6 l];cases p x <;> rfl
end
def RT (c:α->PV) (l:List α) (k:Nat):d7 k (l.map c)=(l.zipIdx k).map λp=>PV.tup [.int ((p.2:Nat):Int),c p.1]:=by
 induction l generalizing k with
 | nil=>rfl
 | cons a l ih=>rw [Aq,d7,ih,List.zipIdx_cons,Aq]
def vp:V->PV
 | .int i=>.int i
 | .str x=>.str x
 | .bl b=>.bl b
 | _=>.aN
def ahL (t:Tr):List PV:=(ah (t.nd 0) 0 (An t.size V.aN)).map vp
@[simp] theorem Mn (t:Tr):(ahL t).length=t.size:=by unfold ahL;rw [Af,KC,Bs]
def Mo (t:Tr) (h:j < t.size):(ahL t)[j]?=ap (vp (kK t 0 j .aN)):=by unfold ahL;rw [Ak,aah t h];rfl
def eM (t:Tr):((t.nd 0).map Ent.pv).length=t.size:=by rw [Af,t.bo]
theorem HV (t:Tr) (hz:t.size<=900):(fq t.pv).le (.ret (.tup (ahL t))):=λQ q=>by
 unfold fq;have c:((t.nd 0).map Ent.pv).length<=sizeLine:=bW (by rw [eM];omega);simp only [ga,ci];refine W.le.use (oK t hz) ?_;simp only [aG,gl];refine Qw (λ_=>.aN) (λx hx=>rfl) ?_;simp only [lc c,gl];have e0:((t.nd 0).map Ent.pv).map (λ_=>PV.aN)=(ah ((t.nd 0).take 0) 0 (An t.size V.aN)).map vp:=by
  rw [List.take_zero,ah,List.map_replicate,List.map_const',eM];rfl
 rw [e0];refine fB (λi s=>s=(ah ((t.nd 0).take i) 0 (An t.size V.aN)).map vp) rfl (λi x s hx hs=>?_) (λs hs=>?_)
 ·subst hs;have hi:i < t.size:=by have:=(Al.mp hx).1;rw [cB,eM] at this;exact this
  obtain⟨y,hy,rfl⟩:=gL hx;have e:=gU t 0 i hi;rw [Ak,e] at hy;have hy:=Option.some.inj hy;subst hy;have et:(t.nd 0).take (i+1)=(t.nd 0).take i++[en t 0 i]:=by rw [CJ,e];rfl
  have ea:ah ((t.nd 0).take (i+1)) 0 (An t.size V.aN)=Sv (ah ((t.nd 0).take i) 0 (An t.size V.aN)) (0+i) (en t 0 i):=by
   rw [et,zp,DQ,t.bo];congr 1;omega
  have hal:(ah ((t.nd 0).take i) 0 (An t.size V.aN)).length=t.size:=by rw [KC,Bs]
  rw [ea];generalize hA:ah ((t.nd 0).take i) 0 (An t.size V.aN)=A at hal ⊢;unfold cX;cases en':en t 0 i with
  | word w=>simp [Ent.pv,bz,Sv]
  | pair a b=>
   obtain⟨ha,hb⟩:=jE t hi en';have s1:iU (A.map vp) (.int (a:Int)) (.int ((0+i:Nat):Int))=.ret ((A.map vp).set a (.int ((0+i:Nat):Int))):=oq (by rw [Af];omega);have s2:iU ((A.map vp).set a (.int ((0+i:Nat):Int))) (.int (b:Int)) (.int ((0+i:Nat):Int))=.ret (((A.map vp).set a (.int ((0+i:Nat):Int))).set b (.int ((0+i:Nat):Int))):=oq (by rw [B4,Af];omega);simp only [Ent.pv,lF,gl,gG,j6,cO,ci,Av,if_false,aG,bz,ga,s1,s2];show _=F8 vp ((A.set a _).set b _);rw [E6,E6];rfl
 ·subst hs;simp only [cB,Af];rw [CK];exact q
def Jg (e:Ent) (j:Nat):PV:=match e with | .word x=>.str x | .pair _ _=>.int (j:Int)
def Il (t:Tr) (ds:List Int) (b:Int) (j:Nat):Bool:=decide (ds.getD j 0<=b)&&(match kK t 0 j .aN with | .int a=>decide (b < ds.getD a.toNat 0) | _=>true)
def Ge (t:Tr) (ds:List Int) (b:Int) (n j:Nat):List (Nat×Nat):=((Aw j).filter (Il t ds b)).map λk=>(k,n)
def aH (t:Tr) (ds bs:List Int):Nat->List (Nat×Nat)
 | 0=>[]
 | i+1=>aH t ds bs i++Ge t ds (bs.getD i 0) i t.size
def Ou (l:List (Nat×Nat)):List PV:=l.map λp=>.tup [.int (p.1:Int),.int (p.2:Int)]
def xo (t:Tr) (ds:List Int) (b:Int) (n j:Nat):(Ge t ds b n j).length<=j:=by
 unfold Ge;rw [Af];refine AV (BK _ _) ?_;rw [CA];exact Am _
theorem gQ (t:Tr) (ds bs:List Int):∀i,(aH t ds bs i).length<=i*t.size
 | 0=>Bc _
 | i+1=>by
  rw [aH,Ah];have h1:=gQ t ds bs i;have h2:=xo t ds (bs.getD i 0) i t.size;rw [Ee];omega
def Pd (t:Tr) (ds:List Int) (b:Int) (n j:Nat):Ge t ds b n (j+1)=Ge t ds b n j++(if Il t ds b j then [(j,n)] else []):=by
 unfold Ge;rw [D8,Ez,Az];congr 1;by_cases c:Il t ds b j <;> simp [c]
def tZ (p:Nat×Nat):List Key:=[.inl (p.1:Int),.inl (p.2:Int)]
theorem G5 {p q:Nat×Nat} (h:tZ p=tZ q):p=q:=by
 obtain⟨a,b⟩:=p;obtain⟨c,d⟩:=q;simp [tZ] at h;obtain⟨h1,h2⟩:=h;exact Prod.ext (by show a=c;omega) (by show b=d;omega)
def nk:Nat->List (Nat×Nat)->List (List Key×PV)
 | _,[]=>[]
 | k,p::l=>(tZ p,.int (k:Int))::nk (k+1) l
theorem lZ:∀(k:Nat) (l:List (Nat×Nat)),(nk k l).map (·.1)=l.map tZ
 | _,[]=>rfl
 | k,p::l=>by rw [nk,Aq,Aq,lZ (k+1) l]
def GH (k:Nat) (l:List (Nat×Nat)):(nk k l).length=l.length:=by have:=congrArg BS (lZ k l);simpa using this
theorem tB:∀(k:Nat) (l:List (Nat×Nat)) (p:Nat×Nat),p∈l->cL (nk k l) (tZ p)=ap (.int ((k+l.idxOf p:Nat):Int))
 | k,q::l,p,h=>by
  rw [List.idxOf_cons];by_cases c:q=p
  ·subst c;simp [nk,cL]
  ·have hp:p∈l:=(AD.mp h).elim (λz=>absurd z.symm c) id;have ih:=tB (k+1) l p hp;have c2:tZ q≠tZ p:=λz=>c (G5 z);have c3:(q==p)=false:=by simpa using c
   have e:cL (nk k (q::l)) (tZ p)=cL (nk (k+1) l) (tZ p):=by simp [nk,cL,c2]
   rw [e,ih,c3];congr 2;show ((k+1+l.idxOf p:Nat):Int)=((k+(l.idxOf p+1):Nat):Int);omega
def HQ (e:Ent) (j:Nat) (d b:Int):List Nat:=if d < b then [j] else match e with | .word _=>[] | .pair x y=>[x,y]
def Xp (l:List (Nat×Nat)) (j n:Nat):List Nat:=(l.filter λp=>decide (p.2=n)&&!decide (p.1=j)).map λp=>l.idxOf p
def Ma (e:Ent) (l:List (Nat×Nat)) (j n:Nat) (d b:Int):PV:=.tup [Jg e j,.int (n:Int),.tup (aE ((HQ e j d b).map λx=>l.idxOf (x,n-1))),.tup (aE (Xp l j n))]
def LG {f:α->β} (hf:∀x y,f x=f y->x=y) {l:List α} (h:l.Nodup):(l.map f).Nodup:=List.Pairwise.map f (λa b n z=>n (hf a b z)) h
def MC (t:Tr) (ds:List Int) (b:Int) (n j:Nat):(Ge t ds b n j).Nodup:=by
 exact LG (λx y h=>(Prod.mk.inj h).1) (List.Pairwise.filter _ List.nodup_range)
theorem fm {t:Tr}{ds bs:List Int}:∀{i:Nat}{p:Nat×Nat},p∈aH t ds bs i->p.2 < i/\p.1 < t.size
 | 0,_,h=>by simp [aH] at h
 | i+1,p,h=>by
  rw [aH] at h;rcases A9.mp h with h | h
  ·have:=fm h;omega
  ·obtain⟨k,hk,rfl⟩:=Ar.mp h;have:=AX.mp (Bg.mp hk).1;exact⟨EX _,this⟩
theorem gs (t:Tr) (ds bs:List Int):∀i,(aH t ds bs i).Nodup
 | 0=>Ew
 | i+1=>by
  rw [aH];refine List.nodup_append.mpr ⟨gs t ds bs i,MC _ _ _ _ _,λa ha b hb z=>?_⟩;subst z;have h1:=(fm ha).1;obtain⟨k,_,rfl⟩:=Ar.mp hb;exact A2 _ h1
def lj (h:l[k]?=ap v):Vc l (.int (k:Int))=.ret v:=by
 rw [bF,dJ h];rfl
def HA (ds:List Int) (h:(d7 0 (bp ds))[i]?=ap x):i < ds.length/\x=.tup [.int (i:Int),.int (ds.getD i 0)]:=by
 have hi:i < ds.length:=by have:=(Al.mp h).1;rw [cB,fW] at this;exact this
 obtain⟨y,hy,rfl⟩:=gL h;unfold bp at hy;rw [Ak,Ae hi] at hy;have hy:=Option.some.inj hy;subst hy;refine⟨hi,?_⟩;rw [AI,Aj,Ae hi];rfl
theorem Gd (t:Tr) (ds bs:List Int) (hd:ds.length=t.size) (hz:t.size<=100) (hb:bs.length*t.size<=900) (hb2:bs.length<=900):(gW t.pv (.tup (bp ds)) (.cl (bp bs))).le (.ret (Ou (aH t ds bs bs.length))):=λQ q=>by
 unfold gW;have c1:(bp bs).length<=sizeLine:=bW (by rw [fW];omega);have c2:(bp ds).length<=sizeLine:=bW (by rw [fW];omega);simp only [ga,ci];refine W.le.use (HV t ∅) ?_;simp only [bU,gl,lc c1];refine fB (λi s=>s=Ou (aH t ds bs i)) rfl (λi x s hx hs=>?_) (λs hs=>?_)
 ·subst hs;obtain⟨hi,rfl⟩:=HA bs hx;simp only [lF,gl,ci,aG,lc c2];have hl:=gQ t ds bs i;have hm:i*t.size+t.size<=900:=by
   have:(i+1)*t.size<=bs.length*t.size:=Cy _ hi;rw [Ee] at this;omega
  refine fB (λj s=>s=Ou (aH t ds bs i++Ge t ds (bs.getD i 0) i j)) (by simp [Ge]) (λj x s hx hs=>?_) (λs hs=>?_)
  ·subst hs;obtain⟨hj,rfl⟩:=HA ds hx;have SQ:=xo t ds (bs.getD i 0) i j;simp only [lF,gl,ci];rw [Pd];have é:j < t.size:=by omega
   have ī:Il t ds (bs.getD i 0) j=true->(fx (Ou (aH t ds bs i++Ge t ds (bs.getD i 0) i j)) (PV.tup [.int (j:Int),.int (i:Int)])).run λs=>s=Ou (aH t ds bs i++(Ge t ds (bs.getD i 0) i j++if Il t ds (bs.getD i 0) j=true then [(j,i)] else [])):=λc=>by
    rw [cQ (by unfold Ou;rw [Af,Ah];omega),if_pos c];unfold Ou;rw [<- AA,Az (l₂:=[(j,i)])];rfl
   have no:Il t ds (bs.getD i 0) j=false->Ou (aH t ds bs i++Ge t ds (bs.getD i 0) i j)=Ou (aH t ds bs i++(Ge t ds (bs.getD i 0) i j++if Il t ds (bs.getD i 0) j=true then [(j,i)] else [])):=λc=>by rw [c];simp
   generalize eb:bs.getD i 0=b at ī no ⊢;generalize ed:ds.getD j 0=d at *;simp only [ga,ci,adB,gl,bL,aG,lj (Mo t é)];by_cases c:d<=b
   ·simp only [c,decide_true,if_true,ci,gl];rcases sQ t 0 j .aN [] é with⟨_,e,_⟩ | ⟨a,_,ha,e,_⟩
    ·have sb:Il t ds b j=true:=by unfold Il;rw [e,ed];simp [c]
     rw [e];simp only [vp,yQ,gl,bL,PV.lq,if_true];exact ī sb
    ·rw [AI] at e;have sb:Il t ds b j=decide (b < ds.getD a 0):=by unfold Il;rw [e,ed];simp [c]
     rw [e];have i2:cF (bp ds) (a:Int)=ap (.int (ds.getD a 0)):=int_at ∅;simp only [vp,yQ,gl,bL,PV.lq,Av,if_false,bF,i2,u8,L3,ga];by_cases c2:b < ds.getD a 0
     ·rw [decide_eq_true c2] at sb ⊢;exact ī sb
     ·rw [decide_eq_false c2] at sb ⊢;exact no sb
   ·have sb:Il t ds b j=false:=by unfold Il;rw [ed];simp [c]
    simp only [c,decide_false,Av,if_false,gl];exact no sb
  ·subst hs;rw [cB,fW,hd];rfl
 ·subst hs;rw [cB,fW];exact q
def UC {l:List (Nat×Nat)} (h:l≠[]) (k:Nat):nk k l≠[]:=by cases l with | nil=>exact absurd rfl h | cons a l=>simp [nk]
def Jf (k:Nat) (l:List (Nat×Nat)):((nk k l).map λkv=>PV.tup (kv.1.map kP))=l.map λp=>PV.tup [.int (p.1:Int),.int (p.2:Int)]:=by
 have:=congrArg (F8 λx:List Key=>PV.tup (x.map kP)) (lZ k l);rw [Ax,Ax] at this;exact this
theorem Tg {bs:List Int}{l:List (Nat×Nat)} (h1:es[j]?=ap e) (h2:j < ds.length) (h3:n < bs.length) (hl:l.length<=1000) (h0:l≠[])
  (hb:∀x∈HQ e j (ds.getD j 0) (bs.getD n 0),1<=n/\(x,n-1)∈l) :
  (jx (.tup (es.map Ent.pv)) (.tup (bp ds)) (.cl (bp bs)) (R6 (nk 0 l)) (.tup [.int (j:Int),.int (n:Int)])).le (.ret (Ma e l j n (ds.getD j 0) (bs.getD n 0))):=λQ q=>by
 unfold jx;have i0:cF [PV.int (j:Int),PV.int (n:Int)] 0=ap (.int j):=rfl;have i1:cF [PV.int (j:Int),PV.int (n:Int)] 1=ap (.int n):=rfl;have i2:cF (bp ds) (j:Int)=ap (.int (ds.getD j 0)):=int_at h2;have i3:cF (bp bs) (n:Int)=ap (.int (bs.getD n 0)):=int_at h3;have i4:cF (es.map Ent.pv) (j:Int)=ap e.pv:=dJ (by rw [Ak,h1];rfl);simp only [ga,ci,aG,bU,bF,i0,i1,i2,i3,i4,u8,gl,L3,cO];generalize hdj:ds.getD j 0=d at *;generalize hbn:bs.getD n 0=b at *;have below:∀{R:PV->Prop},R (.tup (aE (HQ e j d b)))->(if decide (d < b)=true then bd (PV.tup [PV.int (j:Int)]) else cX e.pv).run R:=λ{R} r=>by
  unfold HQ at r;unfold cX;by_cases c:d < b
  ·rw [if_pos c] at r;simpa [c] using r
  ·cases e with
   | word w=>simpa [c,Ent.pv] using r
   | pair a b=>simpa [c,Ent.pv] using r
 refine below ?_;refine iH (λx=>.int ((l.idxOf (x,n-1):Nat):Int)) (λk hk=>?_) ?_
 ·obtain⟨g1,g2⟩:=hb k hk;intro R r;have en1:(n:Int)-1=((n-1:Nat):Int):=by omega
  simp only [dgB,ga,ci,yM,gl,en1];rw [show PV.tup [.int (k:Int),.int ((n-1:Nat):Int)]=.tup ((tZ (k,n-1)).map kP) from rfl];refine Mc (tB 0 l (k,n-1) g2) ?_;rw [AI];exact r
 simp only [ci,J4,gl];refine Nn (UC h0 0) (by rw [GH];exact hl) ?_;rw [Jf];refine QA (λp=>if (decide (p.2=n)&&!decide (p.1=j))=true then ap (.int ((l.idxOf p:Nat):Int)) else bm) (λp hp=>?_) ?_
 ·intro R r;obtain⟨u,v⟩:=p;have j0:cF [PV.int (u:Int),PV.int (v:Int)] 0=ap (.int u):=rfl;have j1:cF [PV.int (u:Int),PV.int (v:Int)] 1=ap (.int v):=rfl;simp only [dgB,ga,ci,aG,bF,j0,j1,u8,gl,ir,ZS,bL];have get:∀{R:PV->Prop},R (.int ((l.idxOf (u,v):Nat):Int))->(dgW (R6 (nk 0 l)) (PV.tup [.int (u:Int),.int (v:Int)])).run R:=λ{R} r=>by
   refine Mc (tB 0 l (u,v) hp) ?_;rw [AI];exact r
  by_cases c1:v=n
  ·subst c1;by_cases c2:u=j
   ·subst c2;simp only [beq_self_eq_true,Dk,if_true,gl,Av,if_false];simpa using r
   ·have c3:((u:Int)==(j:Int))=false:=by simp;omega
    simp only [beq_self_eq_true,c3,Fx,if_true,gl,ci];refine get ?_;simpa [c2] using r
  ·have c3:((v:Int)==(n:Int))=false:=by simp;omega
   simp only [c3,Av,if_false,gl];simpa [c1] using r
 rw [W6];have nm:∀{R:PV->Prop},R (Jg e j)->(eN (.tup (es.map Ent.pv)) (.int (j:Int))).run R:=λ{R} r=>by
  unfold eN;simp only [ga,ci,aG,bF,i4,u8,gl];cases e with
  | word w=>simpa [Ent.pv,Jg] using r
  | pair a b=>simpa [Ent.pv,Jg] using r
 refine nm ?_;have e1:(l.filter λp=>decide (p.2=n)&&!decide (p.1=j)).map (λp=>PV.int ((l.idxOf p:Nat):Int))=aE (Xp l j n):=by
  unfold aE Xp;rw [Ax];rfl
 have e2:(HQ e j d b).map (λx=>PV.int ((l.idxOf (x,n-1):Nat):Int))=aE ((HQ e j d b).map λx=>l.idxOf (x,n-1)):=by
  unfold aE;rw [Ax];rfl
 rw [e1,e2];exact q
def dgL (t:Tr) (ds bs:List Int):List PV:=(aH t ds bs bs.length).map λp=>Ma (en t 0 p.1) (aH t ds bs bs.length) p.1 p.2 (ds.getD p.1 0) (bs.getD p.2 0)
def okD (t:Tr) (ds bs:List Int):Prop:=∀p∈aH t ds bs bs.length,∀x∈HQ (en t 0 p.1) p.1 (ds.getD p.1 0) (bs.getD p.2 0),1<=p.2/\(x,p.2-1)∈aH t ds bs bs.length
theorem tD:∀(k:Nat) (l:List (Nat×Nat)),(l.zipIdx k).map (λp=>PV.tup [PV.tup [.int (p.1.1:Int),.int (p.1.2:Int)],.int ((p.2:Nat):Int)])=(nk k l).map Lx
 | _,[]=>rfl
 | k,p::l=>by rw [List.zipIdx_cons,Aq,tD (k+1) l];rfl
def aK (t:Tr) (ds:List Int):List Int:=0::sortI (Lh t ds)
def Tn (t:Tr) (ds:List Int):(Lh t ds).length<=t.size:=by
 unfold Lh splits;rw [Af];have:=BK (λj=>vk (en t 0 j)) (Aw t.size);rw [CA] at this;exact this
def vV {x:Int}{l:List Int}:x∈sortI l↔x∈l:=(Dg l _).mem_iff
def pV (l:List Int):(sortI l).length=l.length:=(Dg l _).length_eq
theorem Sa (t:Tr) (ds:List Int) (hd:ds.length=t.size) (hz:t.size<=25) (h0:aH t ds (aK t ds) (aK t ds).length≠[]) (ok:okD t ds (aK t ds)):(ma t.pv (.tup (bp ds))).le (.ret (.tup (dgL t ds (aK t ds)))):=λQ q=>by
 unfold ma;simp only [ga,ci];refine W.le.use (oK t ∅) ?_;have hs:=Tn t ds;have hl:(aK t ds).length<=t.size+1:=by unfold aK;rw [Ap,pV];omega
 have e2:xq (bp (Lh t ds))=.ret (bp (sortI (Lh t ds))):=by
  unfold xq bp;rw [eO];show W.fj _ _=_;rw [lc ∅]
 have e3:mH [PV.int 0] (bp (sortI (Lh t ds)))=.ret (bp (aK t ds)):=by
  rw [gj (by rw [fW,pV];simp;omega)];rfl
 simp only [split_le t ds hd ∅,gl,e2,e3];have hb:(aK t ds).length*t.size<=900:=by
  have:(aK t ds).length*t.size<=26*25:=Es ∅ hz;omega
 refine W.le.use (Gd t ds (aK t ds) hd ∅ hb ∅) ?_;generalize hL:aH t ds (aK t ds) (aK t ds).length=L at *;have hLl:L.length<=900:=by rw [<- hL];exact AV (gQ _ _ _ _) hb
 have hLm:∀p∈L,p.2 < (aK t ds).length/\p.1 < t.size:=λp hp=>fm (hL▸hp);have c:(Ou L).length<=sizeLine:=bW (by unfold Ou;rw [Af];omega);simp only [bU,gl,lc c,ga];unfold Ou;rw [RT];refine iH (λp:(Nat×Nat)×Nat=>PV.tup [PV.tup [.int (p.1.1:Int),.int (p.1.2:Int)],.int ((p.2:Nat):Int)]) (λp _ R r=>by simpa using r) ?_;rw [tD];refine NU ?_ (by rw [GH];omega) ?_
 ·rw [lZ];exact LG (λ_ _ h=>G5 h) (hL▸gs t ds _ _)
 refine iH (λp:Nat×Nat=>Ma (en t 0 p.1) L p.1 p.2 (ds.getD p.1 0) ((aK t ds).getD p.2 0)) (λp hp=>?_) ?_
 ·obtain⟨g1,g2⟩:=hLm p hp;refine Tg (gU t 0 p.1 g2) ∅ g1 ∅ h0 λx hx=>?_;have:=ok p (by rw [hL];exact hp) x hx;rw [hL] at this;exact this
 ·have:dgL t ds (aK t ds)=L.map λp:Nat×Nat=>Ma (en t 0 p.1) L p.1 p.2 (ds.getD p.1 0) ((aK t ds).getD p.2 0):=by unfold dgL;rw [hL]
  rw [<- this];exact q
theorem i9:∀(t:Tr) (o x:Nat) (p:V),x < t.size->(x=t.size-1/\kK t o x p=p)\/∃a u v,x < a/\a < t.size/\kK t o x p=.int ((o+a:Nat):Int)/\en t o a=.pair u v/\(u=o+x\/v=o+x)
 | .leaf _,o,x,p,h=>.inl ⟨by have:x < 1:=h;show x=0;omega,rfl⟩
 | .node l r,o,x,p,h=>by
  have es:(Tr.node l r).size=l.size+r.size+1:=rfl;have top:en (.node l r) o (l.size+r.size)=.pair (o+l.size-1) (o+l.size+r.size-1):=by rw [en,if_neg ∅,if_neg ∅]
  by_cases c1:x < l.size
  ·rw [show kK (.node l r) o x p=kK l o x (.int (o+l.size+r.size:Nat)) by rw [kK,if_pos c1]];rcases i9 l o x (.int (o+l.size+r.size:Nat)) c1 with⟨h1,h2⟩ | ⟨a,u,v,h1,h2,h3,h4,h5⟩
   ·exact .inr ⟨l.size+r.size,_,_,by omega,by omega,by rw [h2,Bi],top,.inl ∅⟩
   ·exact .inr ⟨a,u,v,h1,by omega,h3,by rw [en,if_pos h2];exact h4,h5⟩
  ·by_cases c2:x < l.size+r.size
   ·rw [show kK (.node l r) o x p=kK r (o+l.size) (x-l.size) (.int (o+l.size+r.size:Nat)) by rw [kK,if_neg c1,if_pos c2]];rcases i9 r (o+l.size) (x-l.size) (.int (o+l.size+r.size:Nat)) ∅ with⟨h1,h2⟩ | ⟨a,u,v,h1,h2,h3,h4,h5⟩
    ·exact .inr ⟨l.size+r.size,_,_,by omega,by omega,by rw [h2,Bi],top,.inr ∅⟩
    ·refine .inr ⟨l.size+a,u,v,by omega,by omega,by rw [h3,Bi],?_,by omega⟩;rw [en,if_neg ∅,if_pos ∅,EY];exact h4
   ·exact .inl ⟨by omega,by rw [kK,if_neg c1,if_neg c2]⟩
theorem J9:∀(t:Tr) (o j:Nat) (p:V) (a b:Nat),j < t.size->en t o j=.pair a b->o<=a/\o<=b/\a < o+j/\b < o+j/\a < b/\kK t o (a-o) p=.int ((o+j:Nat):Int)/\kK t o (b-o) p=.int ((o+j:Nat):Int)
 | .leaf _,o,j,p,a,b,h,e=>by rw [en] at e;cases e
 | .node l r,o,j,p,a,b,h,e=>by
  have es:(Tr.node l r).size=l.size+r.size+1:=rfl;have lp:=l.size_pos;have rp:=r.size_pos;by_cases c1:j < l.size
  ·rw [en,if_pos c1] at e;obtain⟨h1,h2,h3,h4,h5,h6,h7⟩:=J9 l o j (.int (o+l.size+r.size:Nat)) a b c1 e;refine⟨h1,h2,h3,h4,h5,?_,?_⟩
   ·rw [kK,if_pos ∅];exact h6
   ·rw [kK,if_pos ∅];exact h7
  ·by_cases c2:j < l.size+r.size
   ·rw [en,if_neg c1,if_pos c2] at e;obtain⟨h1,h2,h3,h4,h5,h6,h7⟩:=J9 r (o+l.size) (j-l.size) (.int (o+l.size+r.size:Nat)) a b ∅ e;refine⟨by omega,by omega,by omega,by omega,h5,?_,?_⟩
    ·rw [kK,if_neg ∅,if_pos ∅,Nat.sub_sub,h6,show o+l.size+(j-l.size)=o+j by omega]
    ·rw [kK,if_neg ∅,if_pos ∅,Nat.sub_sub,h7,show o+l.size+(j-l.size)=o+j by omega]
   ·rw [en,if_neg c1,if_neg c2] at e;injection e with e1 e2;subst e1;subst e2;have hj:j=l.size+r.size:=by omega
    subst hj;have ø:∀(t:Tr) (o:Nat) (p:V),kK t o (t.size-1) p=p:=λt o p=>by
     have tp:=t.size_pos;rcases i9 t o (t.size-1) p ∅ with⟨_,h⟩ | ⟨a,_,_,h1,h2,_⟩
     ·exact h
     ·omega
    refine⟨by omega,by omega,by omega,by omega,by omega,?_,?_⟩
    ·rw [kK,if_pos ∅,show o+l.size-1-o=l.size-1 by omega,ø,Bi]
    ·rw [kK,if_neg ∅,if_pos ∅,show o+l.size+r.size-1-o-l.size=r.size-1 by omega,ø,Bi]
structure DD (t:Tr) (ds:List Int):Prop where
 len:ds.length=t.size
 leaf:∀j w,j < t.size->en t 0 j=.word w->ds.getD j 0=0
 pair:∀j a b,j < t.size->en t 0 j=.pair a b->ds.getD a 0 < ds.getD j 0/\ds.getD b 0 < ds.getD j 0/\1<=ds.getD j 0
 nd:(Lh t ds).Nodup
def DD.of (h:Vf t ds=true):DD t ds:=by
 unfold Vf at h;rw [AO,AO,decide_eq_true_iff,decide_eq_true_iff] at h;obtain⟨h1,h2,h3⟩:=h;have h4:∀j,j < t.size->okJ t ds j=true:=λj hj=>De.mp h3 j (AX.mpr hj);refine⟨h1,λj w hj e=>?_,λj a b hj e=>?_,h2⟩
 ·have:=h4 j hj;unfold okJ at this;rw [e] at this;exact eq_of_beq this
 ·have:=h4 j hj;unfold okJ at this;rw [e] at this;rw [AO,AO,AO,decide_eq_true_iff,decide_eq_true_iff,decide_eq_true_iff,decide_eq_true_iff] at this;exact⟨this.1.1.1,this.1.1.2,this.1.2⟩
def DD.mem (D:DD t ds) (hj:j < t.size):ds.getD j 0∈aK t ds:=by
 cases e:en t 0 j with
 | word w=>rw [D.leaf j w hj e];exact .head _
 | pair a b=>
  refine A4 _ (vV.mpr ?_);exact Ar.mpr ⟨j,Bg.mpr ⟨AX.mpr hj,by rw [e];rfl⟩,rfl⟩
theorem Pf (l:List Int):(sortI l).Pairwise (·<=·):=(EZ (le:=λa b=>decide (a<=b)) (λa b c=>by simp;omega) (λa b=>by simp;omega) l).imp (by simp)
theorem DD.inc (D:DD t ds):(aK t ds).Pairwise (· < ·):=by
 unfold aK;refine Eu.mpr ⟨λx hx=>?_,?_⟩
 ·have hx:=vV.mp hx;unfold Lh splits at hx;obtain⟨j,hj,rfl⟩:=Ar.mp hx;obtain⟨h1,h2⟩:=Bg.mp hj;cases e:en t 0 j with
  | word w=>rw [e] at h2;cases h2
  | pair a b=>have:=(D.pair j a b (AX.mp h1) e).2.2;omega
 ·have nd:(sortI (Lh t ds)).Nodup:=(Dg _ _).nodup_iff.mpr D.nd;exact (List.Pairwise.and (Pf _) nd).imp λ⟨h1,h2⟩=>Int.lt_iff_le_and_ne.mpr ⟨h1,h2⟩
theorem ud {l:List Int} (h:l.Pairwise (· < ·)) (hn:n < l.length) {x:Int} (hx:x∈l) (lt:x < l.getD n 0):1<=n/\x<=l.getD (n-1) 0:=by
 obtain⟨i,hi,rfl⟩:=Eb hx;have gd:∀{k} (hk:k < l.length),l.getD k 0=l[k]:=λ{k} hk=>by rw [Aj,Ae hk];rfl
 rw [gd hn] at lt;have c:i < n:=by
  rcases Dw i n with c | c
  ·exact c
  ·rcases Et c with c | c
   ·subst c;omega
   ·have:=B6.mp h _ _ hn hi c;omega
 refine⟨by omega,?_⟩;rw [gd ∅];rcases Et (show i<=n-1 by omega) with c2 | c2
 ·subst c2;exact C9 _
 ·have:=B6.mp h _ _ hi ∅ c2;omega
theorem yn {l:List Int} (h:l.Pairwise (· < ·)) (hn:n < l.length) (hi:i < n):l.getD i 0 < l.getD n 0:=by
 have gd:∀{k} (hk:k < l.length),l.getD k 0=l[k]:=λ{k} hk=>by rw [Aj,Ae hk];rfl
 rw [gd hn,gd ∅];exact B6.mp h _ _ ∅ hn hi
theorem cu {t:Tr}{ds bs:List Int}:∀{m:Nat}{j n:Nat},(j,n)∈aH t ds bs m↔n < m/\j < t.size/\Il t ds (bs.getD n 0) j=true
 | 0,j,n=>by simp [aH]
 | m+1,j,n=>by
  rw [aH,A9,cu];unfold Ge;rw [Ar]
  constructor
  ·rintro (⟨h1,h2,h3⟩ | ⟨k,hk,e⟩)
   ·exact⟨by omega,h2,h3⟩
   ·obtain⟨h1,h2⟩:=Bg.mp hk;injection e with e1 e2;subst e1;subst e2;exact⟨by omega,AX.mp h1,h2⟩
  ·rintro⟨h1,h2,h3⟩;by_cases c:n=m
   ·subst c;exact .inr ⟨j,Bg.mpr ⟨AX.mpr h2,h3⟩,rfl⟩
   ·exact .inl ⟨by omega,h2,h3⟩
theorem gw {b:Int} (hj:j < t.size):Il t ds b j=true↔ds.getD j 0<=b/\∀a,kK t 0 j .aN=.int ((a:Nat):Int)->b < ds.getD a 0:=by
 unfold Il;rw [AO,decide_eq_true_iff];rcases i9 t 0 j .aN hj with⟨_,e⟩ | ⟨a,u,v,_,ha,e,_,_⟩
 ·rw [e];exact⟨λh=>⟨h.1,λa z=>by cases z⟩,λh=>⟨h.1,rfl⟩⟩
 ·rw [AI] at e;rw [e];refine⟨λh=>⟨h.1,λa' z=>?_⟩,λh=>⟨h.1,?_⟩⟩
  ·injection z with z;have:a=a':=by omega
   subst this;simpa using h.2
  ·simpa using h.2 a rfl
theorem DD.ok (D:DD t ds):okD t ds (aK t ds):=by
 rintro⟨j,n⟩ hp x hx;obtain⟨hn,hj,hs⟩:=cu.mp hp;obtain⟨Io,qx⟩:=(gw hj).mp hs;have inc:=D.inc;show 1<=n/\(x,n-1)∈_;unfold HQ at hx;by_cases c:ds.getD j 0 < (aK t ds).getD n 0
 ·rw [if_pos c] at hx;have:x=j:=by simpa using hx
  subst this;obtain⟨g1,g2⟩:=ud inc hn (D.mem hj) c;have lt:=yn inc hn (show n-1 < n by omega);exact⟨g1,cu.mpr ⟨by omega,hj,(gw hj).mpr ⟨g2,λa e=>by have:=qx a e;omega⟩⟩⟩
 ·rw [if_neg c] at hx;cases e:en t 0 j with
  | word w=>rw [e] at hx;cases hx
  | pair a b=>
   rw [e] at hx;obtain⟨p1,p2,p3⟩:=D.pair j a b hj e;obtain⟨_,_,a1,a2,_,a3,a4⟩:=J9 t 0 j .aN a b hj e;rw [AI,FU] at *;have hx:x=a\/x=b:=by simpa using hx
   have key:x < t.size/\ds.getD x 0 < ds.getD j 0/\kK t 0 x .aN=.int ((j:Nat):Int):=by
    rcases hx with rfl | rfl
    ·exact⟨by omega,p1,a3⟩
    ·exact⟨by omega,p2,a4⟩
   obtain⟨k1,k2,k3⟩:=key;obtain⟨g1,g2⟩:=ud inc hn (D.mem k1) ∅;have lt:=yn inc hn (show n-1 < n by omega);refine⟨g1,cu.mpr ⟨by omega,k1,(gw k1).mpr ⟨g2,λa' e'=>?_⟩⟩⟩;rw [k3] at e';injection e' with e';have:j=a':=by omega
   subst this;omega
theorem L7:∀(t:Tr) (o:Nat),∃w,en t o 0=.word w
 | .leaf w,o=>⟨w,rfl⟩
 | .node l r,o=>by rw [en,if_pos (show 0 < l.size from l.size_pos)];exact L7 l o
theorem DD.ne (D:DD t ds):aH t ds (aK t ds) (aK t ds).length≠[]:=by
 intro z;have:(0,0)∈aH t ds (aK t ds) (aK t ds).length:=by
  obtain⟨w,e⟩:=L7 t 0;refine cu.mpr ⟨by simp [aK],t.size_pos,(gw t.size_pos).mpr ⟨?_,λa ea=>?_⟩⟩
  ·rw [D.leaf 0 w t.size_pos e];exact C9 _
  ·rcases i9 t 0 0 .aN t.size_pos with⟨_,e⟩ | ⟨a',u,v,_,ha,e,ep,_⟩
   ·rw [e] at ea;cases ea
   ·rw [e,AI] at ea;injection ea with ea;have:a'=a:=by omega
    subst this;have:=(D.pair a' u v ha ep).2.2;show (0:Int) < _;omega
 rw [z] at this;cases this
def R9 (D:DD t ds) (hz:t.size<=25):(ma t.pv (.tup (bp ds))).le (.ret (.tup (dgL t ds (aK t ds)))):=Sa t ds D.len hz D.ne D.ok
def XJ (t:Tr):List PV:=(Aw t.size).map λj=>.tup (aE (up t 0 j []))
@[simp] theorem S5 (t:Tr):(XJ t).length=t.size:=by unfold XJ;simp
def KZ (t:Tr) (h:j < t.size):(XJ t)[j]?=ap (.tup (aE (up t 0 j []))):=by unfold XJ;simp [h]
theorem XI (t:Tr):∀(k j:Nat),j+k+1=t.size->(up t 0 j []).length<=k+1:=λk=>by
 induction k using CW with
 | ind k ih=>
  intro j hj;rcases sQ t 0 j .aN [] ∅ with⟨q1,q2,q3⟩ | ⟨a,q1,q2,q3,q4⟩
  ·rw [q3];show 1<=k+1;omega
  ·rw [q4,Ap];have:=ih (t.size-a-1) ∅ a ∅;omega
theorem abb (t:Tr) (h:j < t.size):(up t 0 j []).length<=t.size:=by
 have:=XI t (t.size-j-1) j ∅;omega
def Iw (t:Tr) (i:Nat):List PV:=(Aw t.size).map λj=>if j+i < t.size then .tup [] else .tup (aE (up t 0 j []))
def rO (t:Tr) (i:Nat):(Iw t i).length=t.size:=by unfold Iw;simp
def KY (t:Tr) (i:Nat) (h:j < t.size) (c:¬j+i < t.size):(Iw t i)[j]?=ap (.tup (aE (up t 0 j []))):=by unfold Iw;simp [h,c]
theorem S3 (t:Tr) (i j:Nat) (h:j+i+1=t.size):(Iw t i).set j (.tup (aE (up t 0 j [])))=Iw t (i+1):=by
 apply Ci;intro k;by_cases hk:k < t.size
 ·by_cases e:j=k
  ·subst e;rw [CS (by rw [rO];exact hk),KY t (i+1) hk ∅]
  ·rw [Ce e];unfold Iw;simp only [Ak,BI hk,Cr];by_cases c:k+i < t.size
   ·rw [if_pos c,if_pos ∅]
   ·rw [if_neg c,if_neg ∅]
 ·rw [A6 (by rw [B4,rO];omega),A6 (by rw [rO];omega)]
def abc (t:Tr):Iw t 0=An t.size (.tup []):=by
 apply Ci;intro k;unfold Iw;by_cases hk:k < t.size
 ·simp [hk]
 ·simp [hk]
theorem S4 (t:Tr):Iw t t.size=XJ t:=by
 apply Be;intro j _;rw [if_neg ∅]
theorem Qy (t:Tr) (hz:t.size<=900):(gY t.pv).le (.ret (XJ t)):=λQ q=>by
 unfold gY;simp only [ga,ci];refine W.le.use (HV t hz) ?_;simp only [aG,gl];refine Qw (λ_=>.tup []) (λx hx=>rfl) ?_;have e0:(ahL t).map (λ_=>PV.tup [])=Iw t 0:=by rw [List.map_const',Mn,abc]
 have en:(((t.size:Nat):Int)-1 - -1).toNat=t.size:=by omega
 rw [e0];simp only [fC,Mn,ga,yM,gl,yN,Vz,en];refine⟨⟨trivial,bh ∅ ∅⟩,?_⟩;show (bz _ _ _).run _;refine fB (λi s=>s=Iw t i) rfl (λi x s hx hs=>?_) (λs hs=>?_)
 ·subst hs;obtain⟨hi,rfl⟩:=wL hx;obtain⟨j,hj⟩:∃j:Nat,j=t.size-1-i:=⟨_,rfl⟩;have ej:(((t.size:Nat):Int)-1-(i:Int))=(j:Int):=by omega
  rw [ej];have é:j < t.size:=by omega
  have fin:∀l:List PV,l.length<=900->.int (j:Int)::l=aE (up t 0 j [])->(am (addW (.tup [.int (j:Int)]) (.tup l)) λx=>iU (Iw t i) (.int (j:Int)) x).run λs=>s=Iw t (i+1):=λl hl he=>by
   rw [L5,lc (bW (by simp;omega))];show (iU _ _ (.tup (.int (j:Int)::l))).run _;rw [he,oq (by rw [rO];exact é),S3 t i j ∅];rfl
  simp only [ga,ci,lj (Mo t é),gl];rcases sQ t 0 j .aN [] é with⟨_,e,e2⟩ | ⟨a,ha1,ha,e,e2⟩
  ·rw [e];simp only [vp,yQ,PV.lq,bL,gl,if_true];have:=fin [] (by simp) (by rw [e2,AI];rfl);simpa using this
  ·rw [AI] at e;rw [e];have i2:Vc (Iw t i) (.int (a:Int))=.ret (.tup (aE (up t 0 a []))):=lj (KY t i ha ∅);simp only [vp,yQ,PV.lq,bL,gl,Av,if_false,i2,ga];have ua:=abb t ha;have:=fin (aE (up t 0 a [])) (by rw [cf];omega) (by rw [e2];simp);simpa using this
 ·subst hs;have el:(qU (((t.size:Nat):Int)-1) t.size).length=t.size:=by unfold qU;simp
  rw [el,S4];exact q
def apt (t:Tr) (j:Nat):List Nat:=(Aw t.size).filter λk=>!decide (k∈up t 0 j [])&&!decide (j∈up t 0 k [])
theorem Sr (t:Tr) (hz:t.size<=900) (hj:j < t.size):(eY (.cl (XJ t)) (.int (j:Int))).le (.ret (.tup (aE (apt t j)))):=λQ q=>by
 unfold eY;simp only [ga,ci,fD,S5,cP,lc (bh (i:=0) (j:=(t.size:Int)) ∅ ∅),gl,AW,qu];refine QB (λk=>!decide (k∈up t 0 j [])&&!decide (j∈up t 0 k [])) (λk hk=>?_) q;have hk:=AX.mp hk;simp only [ga,bU,lj (KZ t hj),lj (KZ t hk),aG,Q6,if_true];by_cases c1:k∈up t 0 j []
 ·simp [c1]
 ·by_cases c2:j∈up t 0 k []
  ·simp [c1,c2]
  ·simp [c1,c2]
def Ov:Ent->List Nat
 | .word _=>[]
 | .pair a b=>[a,b]
def qz (e:Ent):cX e.pv=.ret (.tup (aE (Ov e))):=by
 unfold cX;cases e with
 | word w=>simp [Ent.pv,Ov]
 | pair a b=>simp [Ent.pv,Ov]
def UD (h:es[j]?=ap e):eN (.tup (es.map Ent.pv)) (.int (j:Int))=.ret (Jg e j):=by
 have i1:Vc (es.map Ent.pv) (.int (j:Int))=.ret e.pv:=lj (by rw [Ak,h];rfl);unfold eN;cases e with
 | word w=>simp only [ga,aG,i1];rfl
 | pair a b=>simp only [ga,aG,i1];rfl
def grS (t:Tr) (j:Nat):PV:=.tup [Jg (en t 0 j) j,.int 0,.tup (aE (Ov (en t 0 j))),.tup (aE (apt t j))]
def grL (t:Tr):List PV:=(Aw t.size).map (grS t)
theorem NK (t:Tr) (hz:t.size<=900):(k7 t.pv).le (.ret (.tup (grL t))):=λQ q=>by
 unfold k7;simp only [ga,ci];refine W.le.use (oK t hz) ?_;refine W.le.use (Qy t hz) ?_;simp only [fC,eM,gl,cP,lc (bh (i:=0) (j:=(t.size:Int)) ∅ ∅),AW,qu];unfold aE;refine iH (grS t) (λj hj R r=>?_) q;have hj:=AX.mp hj;have i1:Vc ((t.nd 0).map Ent.pv) (.int (j:Int))=.ret (en t 0 j).pv:=lj (by rw [Ak,gU t 0 j hj];rfl);simp only [UD (gU t 0 j hj),ga,aG,i1,qz,ci,gl];exact W.le.use (Sr t hz hj) r
end My
variable {ws:List Cg}
namespace My
open PySem PySem.Spec PyProof.Rows L2 PL FL
structure Sy where
 nm:PV
 lv:Nat
 un:List Nat
 be:List Nat
def Sy.pv (s:Sy):PV:=.tup [s.nm,.int (s.lv:Int),.tup (aE s.un),.tup (aE s.be)]
def kC (g:List Sy):PV:=.tup (g.map Sy.pv)
def sy (g:List Sy) (i:Nat):Sy:=g.getD i ⟨.aN,0,[],[]⟩
def XY {g:List Sy} (h:i < g.length):g[i]?=ap (sy g i):=by
 unfold sy;rw [Aj,Ae h];rfl
def JV {g:List Sy} (h:i < g.length):Vc (g.map Sy.pv) (.int (i:Int))=.ret (sy g i).pv:=lj (by rw [Ak,XY h];rfl)
def vj (w:Str):PV->Bool
 | .str s=>s==w
 | _=>false
def hm (g:List Sy) (i:Nat) (w:Str):Bool:=(sy g i).un.isEmpty&&vj w (sy g i).nm
inductive SE (g:List Sy):Nat->Nat->Prop
 | refl (i:Nat):SE g i i
 | step {i u j:Nat}:u∈(sy g i).un->SE g u j->SE g i j
structure WG (g:List Sy) (ws:List Str):Prop where
 pos:0 < g.length
 len:g.length<=300
 dn:∀i,i < g.length->∀u∈(sy g i).un,u < i
 q9:∀i,i < g.length->(sy g i).un.length<=2
 be:∀i,i < g.length->∀u∈(sy g i).be,u < g.length
 VX:∀i,i < g.length->(sy g i).be.length<=30
 nm:∀i,i < g.length->(∃s,(sy g i).nm=.str s)\/∃n,(sy g i).nm=.int n
 alc:∀w∈ws,∃i,i < g.length/\SE g (g.length-1) i/\hm g i w=true
 rch:∀i,i < g.length->SE g (g.length-1) i
def n9 {g:List Sy} (h:i < g.length):dq (kC g) (.int (i:Int))=.ret (.tup (aE (sy g i).un)):=by
 unfold dq kC;simp only [ga,aG,JV h];rfl
def Ob {g:List Sy} (h:i < g.length):fR (kC g) (.int (i:Int))=.ret (.tup (aE (sy g i).be)):=by
 unfold fR kC;simp only [ga,aG,JV h];rfl
theorem eq_nil (l:List Nat) (h:l.length<=1000):of2 fM (.tup (aE l)) (.tup [])=.ret (.bl l.isEmpty):=by
 have fk:fu (aE l)=true:=ip.mpr λx hx=>by
  obtain⟨n,_,rfl⟩:=Ar.mp hx;simp
 have fd:d6 (aE l)<=1:=iq λx hx=>by
  obtain⟨n,_,rfl⟩:=Ar.mp hx;simp
 rw [wG,lc ⟨by simp [fk],by simp,by simp;omega⟩];cases l with
 | nil=>simp
 | cons a l=>simp [gb]
def RO (h:(∃s,x=.str s)\/∃n,x=.int n) (w:Str):of2 fM x (.str w)=.ret (.bl (vj w x)):=by
 rcases h with⟨s,rfl⟩ | ⟨n,rfl⟩
 ·rw [wG,lc ⟨by simp,by simp,by simp⟩,RI];rfl
 ·rw [wG,lc ⟨by simp,by simp,by simp⟩];simp [i6,vj]
theorem Vl {g:List Sy} (G:WG g ws) (h:i < g.length) (w:Str):jy (kC g) (.int (i:Int)) (.str w)=.ret (.bl (hm g i w)):=by
 unfold jy;have l2:=G.q9 i h;have i0:cF [(sy g i).nm,PV.int ((sy g i).lv:Int),.tup (aE (sy g i).un),.tup (aE (sy g i).be)] 0=ap (sy g i).nm:=rfl;simp only [ga,n9 h,eq_nil _ (show (sy g i).un.length<=1000 by omega)];unfold kC hm;cases e:(sy g i).un.isEmpty with
 | false=>simp
 | true=>simp only [VB,aG,ga,JV h,Sy.pv,bF,i0,u8,RO (G.nm i h) w,FN]
abbrev Dd:=Str×Nat×Nat
def d3 (d:Dd):PV:=.tup [.str d.1,.int (d.2.1:Int),.int (d.2.2:Int)]
def d2 (d:Dd):PV:=.tup [.str d.1,.tup [.int (d.2.1:Int),.int (d.2.2:Int)]]
abbrev dbl (i:Nat):Dd:=("doubled",i,i)
abbrev M4 (i o:Nat):List Dd:=[("over",i,o),("over",o,i)]
def uP:List Nat->List Dd
 | [a,b]=>[("split",a,b),("split",b,a)]
 | _=>[]
def dds (g:List Sy) (i:Nat):List Dd:=dbl i::(uP (sy g i).un++(sy g i).be.flatMap (M4 i))
theorem jD (i:Nat):∀l:List Nat,(l.flatMap (M4 i)).length=2*l.length
 | []=>rfl
 | a::l=>by rw [Bu,Ah,jD i l];simp;omega
def Ti (l:List Nat):(uP l).length<=2:=by unfold uP;split <;> simp
theorem Z6 {g:List Sy} (G:WG g ws) (h:i < g.length) {d:Dd} (hd:d∈dds g i):d.2.1 < g.length/\d.2.2 < g.length:=by
 rcases AD.mp hd with rfl | hd
 ·exact⟨h,h⟩
 rcases A9.mp hd with hd | hd
 ·have hu:=G.dn i h;revert hu hd;generalize (sy g i).un=l;intro hd hu
  match l with
  | [a,b]=>
   have h1:=hu a (by simp);have h2:=hu b (by simp);simp [uP] at hd;rcases hd with rfl | rfl
   ·exact⟨by show a < _;omega,by show b < _;omega⟩
   ·exact⟨by show b < _;omega,by show a < _;omega⟩
  | []=>simp [uP] at hd
  | [_]=>simp [uP] at hd
  | _::_::_::_=>simp [uP] at hd
 ·obtain⟨o,ho,hd⟩:=BE.mp hd;have:=G.be i h o ho;simp at hd;rcases hd with rfl | rfl
  ·exact⟨h,this⟩
  ·exact⟨this,h⟩
def fa (F:List (List Bool)) (j i:Nat):Bool:=(F.getD j []).getD i false
def lD (g:List Sy) (F:List (List Bool)) (e:Ent) (i:Nat):List Dd:=match e with
 | .word w=>if hm g i w=true then [("found",i,i)] else []
 | .pair a b=>(dds g i).filter λd=>fa F a d.2.1&&fa F b d.2.2
def w5 (n:Nat):Ent->Prop
 | .word _=>True
 | .pair a b=>a < n/\b < n
def jC {l m:List α}{d:α} (h:i < l.length):(l++m).getD i d=l.getD i d:=by
 rw [Aj,AU h,<- Aj]
def gK {l m:List α}{d:α} (h:l.length<=i):(l++m).getD i d=m.getD (i-l.length) d:=by
 rw [Aj,A5 h,<- Aj]
def SS (es:List Ent) (j:Nat):Ent:=es.getD j (.word "")
def ph (t:Tr) (h:j < t.size):w5 j (en t 0 j):=by
 cases e:en t 0 j with
 | word w=>trivial
 | pair a b=>exact jE t h e
def Z7 (l:List PV) (h:a<=l.length):rJ l (ap (a:Int)) bm=l.drop a:=by
 unfold rJ;rw [HT.Gi,HT.Tu,Nat.min_eq_left h,Dx (by simp)]
end My
variable {f:PL.PV->FL.W PL.PV}{g:List My.Sy}
namespace My
open PySem PySem.Spec PyProof.Rows L2 PL FL
def dl (g:List Sy) (i:Nat):List Dd:=dbl i::(uP (sy g i).un++((sy g i).be.map (λo=>(("over",i,o):Dd))++(sy g i).be.map (λo=>(("over",o,i):Dd))))
theorem za (G:WG g ws) (h:i < g.length):(dl g i).length<=63:=by
 unfold dl;simp only [Ap,Ah,Af];have:=Ti (sy g i).un;have:=G.VX i h;omega
theorem VP (d:Dd):qt (d2 d)=true:=rfl
def NC (p:Nat×Nat):PV:=.tup [.int (p.1:Int),.int (p.2:Int)]
def Pe (G:WG g ws) (h:i < g.length):fP (kC g) (.int (i:Int))=.ret ((uP (sy g i).un).map λd=>NC (d.2.1,d.2.2)):=by
 unfold fP;simp only [ga,n9 h];have hu:=G.q9 i h;revert hu;generalize (sy g i).un=l;intro hu
 match l,hu with
 | [],_=>simp only [fC,jv,kZ,Ap,Bk,ir,ga,bL];rfl
 | [a],_=>simp only [fC,jv,kZ,Ap,Bk,ir,ga,bL];rfl
 | [a,b],_=>
  have i0:cF [PV.int (a:Int),PV.int (b:Int)] 0=ap (.int (a:Int)):=rfl;have i1:cF [PV.int (a:Int),PV.int (b:Int)] 1=ap (.int (b:Int)):=rfl;simp only [fC,jv,kZ,Ap,Bk,ir,ga,bL,aG,bF,i0,i1,u8];rfl
theorem Um (G:WG g ws) (h:i < g.length):gX (kC g) (.int (i:Int))=.ret ((sy g i).be.map (λo=>NC (i,o))++(sy g i).be.map (λo=>NC (o,i))):=by
 unfold gX;have l3:=G.VX i h;simp only [ga,Ob h,aG];rw [jS (g:=λo=>NC (i,o)) λk hk=>rfl];rw [jS (g:=λo=>NC (o,i)) λk hk=>rfl];simp only [ga];rw [gj (by simp;omega)]
theorem oQ {c:α->PV}{k:α->PV}:∀{l:List α},(∀x∈l,f (c x)=.ret (k x))->bI (l.map c) f=.ret (l.map k)
 | [],_=>rfl
 | x::r,h=>by
  show am (f (c x)) (λy=>am (bI (r.map c) f) λm=>bd (y::m))=_;rw [h x (.head _),oQ λy hy=>h y (.tail _ hy)];rfl
theorem NV (G:WG g ws) (h:i < g.length) (q:∀m:List PV,m.Perm ((dl g i).map d2)->Q m):(fo (kC g) (Ent.pair a b).pv (.int (i:Int))).run Q:=by
 have l63:=za G h;unfold fo;simp only [Ent.pv,ga,ci,gG,j6,cO,gl,Av,if_false,Pe G h,Um G h];refine iH (λd:Dd=>.tup [.str "split",NC (d.2.1,d.2.2)]) (λd _ R r=>r) ?_;have em:(sy g i).be.map (λo=>NC (i,o))++(sy g i).be.map (λo=>NC (o,i))=((sy g i).be.map (λo=>((i,o):Nat×Nat))++(sy g i).be.map (λo=>(o,i))).map NC:=by
  rw [Az,Ax,Ax];rfl
 rw [em];refine iH (λp:Nat×Nat=>.tup [.str "over",NC p]) (λp _ R r=>r) ?_;simp only [gl,iM,ga];have es:(uP (sy g i).un).map (λd=>PV.tup [.str "split",NC (d.2.1,d.2.2)])=(uP (sy g i).un).map d2:=by
  refine Be λd hd=>?_;have:d.1=("split":Str):=by
   revert hd;generalize (sy g i).un=l;intro hd;unfold uP at hd
   split at hd
   ·simp at hd;rcases hd with rfl | rfl <;> rfl
   ·cases hd
  unfold d2 NC;rw [this]
 have eo:((sy g i).be.map (λo=>((i,o):Nat×Nat))++(sy g i).be.map (λo=>(o,i))).map (λp=>PV.tup [.str "over",NC p])=((sy g i).be.map (λo=>(("over",i,o):Dd))++(sy g i).be.map (λo=>(("over",o,i):Dd))).map d2:=by
  simp only [Az,Ax];rfl
 rw [es,eo];have ll:(dl g i).length=1+(uP (sy g i).un).length+((sy g i).be.map (λo=>(("over",i,o):Dd))++(sy g i).be.map (λo=>(("over",o,i):Dd))).length:=by
  unfold dl;simp only [Ap,Ah];omega
 rw [gj (by simp only [Af,Ap,Bk];omega)];simp only [gl];rw [gj (by simp only [Af,Ah,Ap,Bk] at *;omega)];have e:([PV.tup [.str "doubled",.tup [.int (i:Int),.int (i:Int)]]]++(uP (sy g i).un).map d2)++((sy g i).be.map (λo=>(("over",i,o):Dd))++(sy g i).be.map (λo=>(("over",o,i):Dd))).map d2=(dl g i).map d2:=by
  unfold dl;simp only [Aq,Az,AA];rfl
 simp only [gl];rw [e];refine⟨⟨by rw [Af];omega,De.mpr λx hx=>?_⟩,λm hm=>q m hm⟩;obtain⟨d,_,rfl⟩:=Ar.mp hx;exact VP d
theorem Dt.isD (D:Dt t ds [] d) (h:d<=99):Vf t ds=true:=by
 unfold Vf;rw [AO,AO,decide_eq_true_iff,decide_eq_true_iff];refine⟨D.len,?_,De.mpr λj hj=>?_⟩
 ·unfold Lh;have hp:(splits t).Pairwise (· < ·):=by unfold splits;exact List.Pairwise.filter _ Dy
  rw [List.nodup_iff_pairwise_ne,EK];refine List.Pairwise.imp_of_mem (λ{x y} hx hy lt e=>?_) hp;obtain⟨x1,x2⟩:=Bg.mp hx;obtain⟨y1,y2⟩:=Bg.mp hy;have:=D.inj x y (AX.mp x1) (AX.mp y1) (by simp) (by simp) x2 y2 e;omega
 ·have hj':=AX.mp hj;unfold okJ;cases e:en t 0 j with
  | word w=>
   rw [D.zero j hj' (.inl (by rw [e];rfl))];rfl
  | pair a b=>
   obtain⟨_,_,h1,h2,h3,h4⟩:=D.up j hj' (by simp) a b e;show (decide (ds.getD a 0 < ds.getD j 0)&&decide (ds.getD b 0 < ds.getD j 0)&&decide (1<=ds.getD j 0)&&decide (ds.getD j 0<=99))=true;rw [decide_eq_true h1,decide_eq_true h2,decide_eq_true h3,decide_eq_true ∅];rfl
theorem uB:∀(t:Tr) (o:Nat),(t.nd o).countP vk+1=t.ay.length
 | .leaf _,_=>rfl
 | .node l r,o=>by
  have h1:=uB l o;have h2:=uB r (o+l.size);rw [Tr.nd,List.countP_append,List.countP_append];show _+(List.countP vk [Ent.pair _ _])+1=(l.ay++r.ay).length;simp [vk];omega
theorem YV (t:Tr):t.nd 0=(Aw t.size).map (en t 0):=by
 refine Ci λj=>?_;by_cases h:j < t.size
 ·rw [gU t 0 j h,Ak,BI h];rfl
 ·rw [A6 (by rw [t.bo];omega),A6 (by simp;omega)]
def II (t:Tr):(splits t).length+1=t.ay.length:=by
 rw [<- uB t 0,YV t,List.countP_map];unfold splits;rw [<- List.countP_eq_length_filter];rfl
def SE.snoc {u:Nat} (r:SE g i j) (hu:u∈(sy g j).un):SE g i u:=by
 induction r with
 | refl i=>exact .step hu (.refl _)
 | step h _ ih=>exact .step h (ih hu)
def gS (t:Tr):List Sy:=(Aw t.size).map λj=>⟨Jg (en t 0 j) j,0,Ov (en t 0 j),apt t j⟩
def qP (t:Tr) (h:j < t.size):sy (gS t) j=⟨Jg (en t 0 j) j,0,Ov (en t 0 j),apt t j⟩:=by
 unfold sy gS;rw [Aj,Ak,BI h];rfl
@[simp] theorem i5 (t:Tr):(gS t).length=t.size:=by unfold gS;simp
def adn (t:Tr):kC (gS t)=.tup (grL t):=by
 unfold kC gS grL;rw [Ax];congr 1
def WB (e:Ent) (j:Nat):(∃s,Jg e j=.str s)\/∃n,Jg e j=.int n:=by
 cases e with
 | word w=>exact .inl ⟨w,rfl⟩
 | pair a b=>exact .inr ⟨_,rfl⟩
def Zw (e:Ent):(Ov e).length<=2:=by cases e <;> simp [Ov]
theorem sd:∀(s:Tr) (t:Tr) (o:Nat) (w:Str),(∀k,k < s.size->en t 0 (o+k)=en s o k)->o+s.size<=t.size->w∈s.ay->∃i,i < t.size/\SE (gS t) (o+s.size-1) i/\en t 0 i=.word w
 | .leaf x,t,o,w,hs,hz,hw=>by
  have e0:en t 0 o=.word x:=hs 0 (by show 0 < 1;decide);have hz:o+1<=t.size:=hz;have:w=x:=by simpa [Tr.ay] using hw
  subst this;exact⟨o,by omega,.refl _,e0⟩
 | .node l r,t,o,w,hs,hz,hw=>by
  have es:(Tr.node l r).size=l.size+r.size+1:=rfl;have er:en t 0 (o+(l.size+r.size))=.pair (o+l.size-1) (o+l.size+r.size-1):=by rw [hs _ ∅,en,if_neg ∅,if_neg ∅]
  have ei:o+(Tr.node l r).size-1=o+(l.size+r.size):=by omega
  have hl:∀k,k < l.size->en t 0 (o+k)=en l o k:=λk hk=>by rw [hs k ∅,en,if_pos hk]
  have hr:∀k,k < r.size->en t 0 (o+l.size+k)=en r (o+l.size) k:=λk hk=>by rw [Bi,hs _ ∅,en,if_neg ∅,if_pos ∅,EY]
  have un:(sy (gS t) (o+(l.size+r.size))).un=[o+l.size-1,o+l.size+r.size-1]:=by rw [qP t ∅,er];rfl
  rw [ei];rcases A9.mp (show w∈l.ay++r.ay from hw) with hw | hw
  ·obtain⟨i,h1,h2,h3⟩:=sd l t o w hl ∅ hw;exact⟨i,h1,.step (by rw [un];simp) h2,h3⟩
  ·obtain⟨i,h1,h2,h3⟩:=sd r t (o+l.size) w hr ∅ hw;exact⟨i,h1,.step (by rw [un];simp) h2,h3⟩
theorem vI (hz:t.size<=30):WG (gS t) t.ay:=by
 have tp:=t.size_pos;have Ò:∀k i,i+k+1=t.size->SE (gS t) (t.size-1) i:=λk=>by
  induction k using CW with
  | ind k ih=>
   intro i hk;rcases i9 t 0 i .aN ∅ with⟨e,_⟩ | ⟨a,u,v,ia,ha,_,ep,Rc⟩
   ·rw [<- e];exact .refl _
   ·refine (ih (t.size-a-1) ∅ a ∅).snoc ?_;rw [qP t ha,ep];rw [AI] at Rc;rcases Rc with rfl | rfl <;> simp [Ov]
 refine⟨by rw [i5];omega,by rw [i5];omega,λi hi u hu=>?_,λi hi=>?_,λi hi u hu=>?_,λi hi=>?_,λi hi=>?_,λw hw=>?_,λi hi=>by rw [i5] at hi ⊢;exact Ò (t.size-i-1) i ∅⟩
 ·rw [i5] at hi;rw [qP t hi] at hu;cases e:en t 0 i with
  | word w=>rw [e] at hu;cases hu
  | pair a b=>
   rw [e] at hu;have:=jE t hi e;have hu:u=a\/u=b:=by simpa [Ov] using hu
   omega
 ·rw [i5] at hi;rw [qP t hi];exact Zw _
 ·rw [i5] at hi ⊢;rw [qP t hi] at hu;exact AX.mp (Bg.mp hu).1
 ·rw [i5] at hi;rw [qP t hi];have:=BK (λk=>!decide (k∈up t 0 i [])&&!decide (i∈up t 0 k [])) (Aw t.size);rw [CA] at this;show (apt t i).length<=30;unfold apt;omega
 ·rw [i5] at hi;rw [qP t hi];exact WB _ _
 ·obtain⟨i,h1,h2,h3⟩:=sd t t 0 w (λk hk=>by rw [AI]) ∅ hw;rw [AI] at h2;refine⟨i,by rw [i5];exact h1,by rw [i5];exact h2,?_⟩;unfold hm;rw [qP t h1,h3];simp [Ov,Jg,vj]
def dS (t:Tr) (ds bs:List Int):List Sy:=(aH t ds bs bs.length).map λp=>⟨Jg (en t 0 p.1) p.1,p.2,(HQ (en t 0 p.1) p.1 (ds.getD p.1 0) (bs.getD p.2 0)).map λx=>(aH t ds bs bs.length).idxOf (x,p.2-1),Xp (aH t ds bs bs.length) p.1 p.2⟩
def adS (t:Tr) (ds bs:List Int):kC (dS t ds bs)=.tup (dgL t ds bs):=by
 unfold kC dS dgL;rw [Ax];congr 1
@[simp] theorem Sd (t:Tr) (ds bs:List Int):(dS t ds bs).length=(aH t ds bs bs.length).length:=by unfold dS;rw [Af]
theorem qI (t:Tr) (ds bs:List Int):∀m,(aH t ds bs m).Pairwise λp q=>p.2<=q.2
 | 0=>.nil
 | m+1=>by
  rw [aH];have MD:∀p∈Ge t ds (bs.getD m 0) m t.size,p.2=m:=λp hp=>by
   obtain⟨k,_,rfl⟩:=Ar.mp hp;rfl
  refine List.pairwise_append.mpr ⟨qI t ds bs m,?_,λa ha b hb=>?_⟩
  ·exact B6.mpr λi j hi hj _=>by rw [MD _ (DR hi),MD _ (DR hj)];exact Am _
  ·have h1:=(fm ha).1;rw [MD b hb];omega
theorem vY (t:Tr) (ds bs:List Int) (n:Nat):∀m,((aH t ds bs m).filter λp=>decide (p.2=n)).length<=t.size
 | 0=>Bc _
 | m+1=>by
  rw [aH,Ez,Ah];have ih:=vY t ds bs n m;by_cases c:n=m
  ·subst c;have z:(aH t ds bs n).filter (λp=>decide (p.2=n))=[]:=by
    rw [E8];intro p hp;have:=(fm hp).1;simp;omega
   rw [z];have h1:=BK (λp:Nat×Nat=>decide (p.2=n)) (Ge t ds (bs.getD n 0) n t.size);have h2:=xo t ds (bs.getD n 0) n t.size;simp only [Bk];omega
  ·have z:(Ge t ds (bs.getD m 0) m t.size).filter (λp=>decide (p.2=n))=[]:=by
    rw [E8];intro p hp;obtain⟨k,_,rfl⟩:=Ar.mp hp;simp;omega
   rw [z];simpa using ih
section
theorem DD.above (D:DD t ds) (h:(j,n)∈aH t ds (aK t ds) (aK t ds).length) (hn:n+1 < (aK t ds).length):∃a,(a,n+1)∈aH t ds (aK t ds) (aK t ds).length/\j∈HQ (en t 0 a) a (ds.getD a 0) ((aK t ds).getD (n+1) 0):=by
 obtain⟨hnl,hj,hs⟩:=cu.mp h;obtain⟨s1,s2⟩:=(gw hj).mp hs;have inc:=D.inc;have lt:=yn inc hn (show n < n+1 by omega);have Ü:(∀a,kK t 0 j .aN=.int ((a:Nat):Int)->(aK t ds).getD (n+1) 0 < ds.getD a 0)->∃a,(a,n+1)∈aH t ds (aK t ds) (aK t ds).length/\j∈HQ (en t 0 a) a (ds.getD a 0) ((aK t ds).getD (n+1) 0):=λhx=>
  ⟨j,cu.mpr ⟨hn,hj,(gw hj).mpr ⟨by omega,hx⟩⟩,by unfold HQ;rw [if_pos ∅];exact .head _⟩
 rcases i9 t 0 j .aN hj with⟨_,e⟩ | ⟨a,u,v,ja,ha,e,ep,Rc⟩
 ·exact Ü λa z=>by rw [e] at z;cases z
 ·rw [AI] at e Rc;by_cases c:(aK t ds).getD (n+1) 0 < ds.getD a 0
  ·refine Ü λa' z=>?_;rw [e] at z;injection z with z;have:a=a':=by omega
   subst this;exact c
  ·have sa:=s2 a e;have eq:ds.getD a 0=(aK t ds).getD (n+1) 0:=by
    rcases Int.lt_or_eq_of_le (show ds.getD a 0<=(aK t ds).getD (n+1) 0 by omega) with c2 | c2
    ·have:=(ud inc hn (D.mem ha) c2).2;rw [Nat.add_sub_cancel] at this;omega
    ·exact c2
   refine⟨a,cu.mpr ⟨hn,ha,(gw ha).mpr ⟨by omega,λa2 e2=>?_⟩⟩,?_⟩
   ·rcases i9 t 0 a .aN ha with⟨_,e3⟩ | ⟨a3,u3,v3,_,h3,e3,ep3,acW⟩
    ·rw [e3] at e2;cases e2
    ·rw [e3] at e2;injection e2 with e2;rw [AI] at e2 acW;have:a3=a2:=by omega
     subst this;have:=D.pair a3 u3 v3 h3 ep3;rcases acW with rfl | rfl <;> omega
   ·unfold HQ;rw [if_neg ∅,ep];rcases Rc with rfl | rfl <;> simp
theorem DD.last (D:DD t ds) (h:(j,n)∈aH t ds (aK t ds) (aK t ds).length) (hn:n+1=(aK t ds).length):j=t.size-1:=by
 obtain⟨hnl,hj,hs⟩:=cu.mp h;obtain⟨s1,s2⟩:=(gw hj).mp hs;rcases i9 t 0 j .aN hj with⟨e,_⟩ | ⟨a,u,v,ja,ha,e,ep,Rc⟩
 ·exact e
 ·exfalso;rw [AI] at e;have sa:=s2 a e;have inc:=D.inc;obtain⟨i,hi,ei⟩:=Eb (D.mem ha);have gd:(aK t ds).getD i 0=ds.getD a 0:=by rw [Aj,Ae hi];exact ei
  rcases Dw i n with c | c
  ·have:=yn inc hnl c;omega
  ·have:i=n:=by omega
   subst this;omega
def JL [BEq α] [LawfulBEq α] {l:List α} (nd:l.Nodup) {x:α} (h:l[i]?=ap x):l.idxOf x=i:=by
 obtain⟨hi,e⟩:=Al.mp h;rw [<- e];exact nd.idxOf_getElem i hi
def zj [BEq α] [LawfulBEq α] {l:List α}{x:α} (h:x∈l):l[l.idxOf x]?=ap x:=by
 have:=BU h;rw [Ae this,List.getElem_idxOf this]
theorem OO (D:DD t ds) (hz:t.size<=15) (hb:(aK t ds).length<=16):WG (dS t ds (aK t ds)) t.ay:=by
 have nd:=gs t ds (aK t ds) (aK t ds).length;have Į:=qI t ds (aK t ds) (aK t ds).length;have lay:=λn=>vY t ds (aK t ds) n (aK t ds).length;have ok:=D.ok;have ne:=D.ne;have ll:=gQ t ds (aK t ds) (aK t ds).length;have above:=λj n=>D.above (j:=j) (n:=n);have last:=λj n=>D.last (j:=j) (n:=n);have Ķ:=@cu t ds (aK t ds) (aK t ds).length;unfold okD at ok;have hS:∀i p,(aH t ds (aK t ds) (aK t ds).length)[i]?=ap p->sy (dS t ds (aK t ds)) i=⟨Jg (en t 0 p.1) p.1,p.2,(HQ (en t 0 p.1) p.1 (ds.getD p.1 0) ((aK t ds).getD p.2 0)).map λx=>(aH t ds (aK t ds) (aK t ds).length).idxOf (x,p.2-1),Xp (aH t ds (aK t ds) (aK t ds).length) p.1 p.2⟩:=λi p hp=>by
  unfold sy dS;rw [Aj,Ak,hp];rfl
 have hL:(dS t ds (aK t ds)).length=(aH t ds (aK t ds) (aK t ds).length).length:=Sd t ds _;have Ŀ:=Es hb hz;generalize aH t ds (aK t ds) (aK t ds).length=L at *;have get:∀i,i < (dS t ds (aK t ds)).length->∃p,L[i]?=ap p/\p∈L:=λi hi=>by
  rw [hL] at hi;exact⟨L[i],Ae hi,DR hi⟩
 have pos:=CF.mpr ne;have Ö:∀(i a:Nat) (p r:Nat×Nat),L[i]?=ap p->L[a]?=ap r->r.2 < p.2->a < i:=λi a p r h1 h2 lt=>by
  rcases Dw a i with c | c
  ·exact c
  ·exfalso;obtain⟨g1,e1⟩:=Al.mp h1;obtain⟨g2,e2⟩:=Al.mp h2;rcases Et c with c | c
   ·subst c;rw [h1] at h2;cases h2;omega
   ·have:=B6.mp Į i a g1 g2 c;rw [e1,e2] at this;omega
 have Ò:∀k i,i+k+1=L.length->SE (dS t ds (aK t ds)) (L.length-1) i:=λk=>by
  induction k using CW with
  | ind k ih=>
   intro i hk;obtain⟨⟨j,n⟩,hp,hm⟩:=get i (by rw [hL];omega);have nl:=(Ķ.mp hm).1;by_cases c:n+1 < (aK t ds).length
   ·obtain⟨a,ha,hb⟩:=above j n hm c;have ia:=zj ha;have lt:=Ö _ i (a,n+1) (j,n) ia hp (by show n < n+1;omega);have il:=BU ha;have r:=ih (L.length-L.idxOf (a,n+1)-1) ∅ (L.idxOf (a,n+1)) ∅;refine r.snoc ?_;rw [hS _ _ ia];refine Ar.mpr ⟨j,hb,?_⟩;exact JL nd hp
   ·have hj:=last j n hm ∅;have:i=L.length-1:=by
     obtain⟨⟨j2,n2⟩,yp,è⟩:=get (L.length-1) (by rw [hL];omega);have n2l:=(Ķ.mp è).1;rcases Dw n2 n with c2 | c2
     ·have:=Ö i (L.length-1) _ _ hp yp c2;omega
     ·have en2:n2=n:=by omega
      have Rh:=last j2 n2 è ∅;subst en2;rw [Rh,<- hj] at yp;exact (JL nd hp).symm.trans (JL nd yp)
    rw [this];exact .refl _
 refine⟨by rw [hL];exact pos,by rw [hL];omega,λi hi u hu=>?_,λi hi=>?_,λi hi u hu=>?_,λi hi=>?_,λi hi=>?_,λw hw=>?_,λi hi=>by rw [hL] at hi ⊢;exact Ò (L.length-i-1) i ∅⟩
 ·obtain⟨p,hp,hm⟩:=get i hi;rw [hS i p hp] at hu;obtain⟨x,hx,rfl⟩:=Ar.mp hu;obtain⟨n1,xm⟩:=ok p hm x hx;exact Ö i _ p (x,p.2-1) hp (zj xm) (by show p.2-1 < p.2;omega)
 ·obtain⟨p,hp,hm⟩:=get i hi;rw [hS i p hp];unfold HQ
  split
  ·simp
  ·cases en t 0 p.1 <;> simp
 ·obtain⟨p,hp,hm⟩:=get i hi;rw [hS i p hp] at hu;unfold Xp at hu;obtain⟨x,hx,rfl⟩:=Ar.mp hu;rw [hL];exact BU (Bg.mp hx).1
 ·obtain⟨p,hp,hm⟩:=get i hi;rw [hS i p hp];unfold Xp;rw [Af];have h1:=lay p.2;have h2:(L.filter λq=>decide (q.2=p.2)&&!decide (q.1=p.1)).length<=(L.filter λq=>decide (q.2=p.2)).length:=by
   have e:L.filter (λq=>decide (q.2=p.2)&&!decide (q.1=p.1))=(L.filter λq=>decide (q.2=p.2)).filter λq=>!decide (q.1=p.1):=by
    rw [List.filter_filter];refine congrArg (λf=>L.filter f) (funext λq=>Bool.and_comm _ _)
   rw [e];exact BK _ _
  omega
 ·obtain⟨p,hp,hm⟩:=get i hi;rw [hS i p hp];exact WB _ _
 ·obtain⟨j,hj,_,ej⟩:=sd t t 0 w (λk hk=>by rw [AI]) ∅ hw;have b0:(aK t ds).getD 0 0=0:=rfl;have mem:(j,0)∈L:=Ķ.mpr ⟨by simp [aK],hj,(gw hj).mpr ⟨by rw [D.leaf j w hj ej,b0];exact C9 _,λa ea=>by
   rcases i9 t 0 j .aN hj with⟨_,e⟩ | ⟨a',u,v,_,ha,e,ep,_⟩
   ·rw [e] at ea;cases ea
   ·rw [e,AI] at ea;injection ea with ea;have:a'=a:=by omega
    subst this;have:=(D.pair a' u v ha ep).2.2;rw [b0];omega⟩⟩
  have il:=BU mem;refine⟨L.idxOf (j,0),by rw [hL];exact il,by rw [hL];exact Ò (L.length-L.idxOf (j,0)-1) _ ∅,?_⟩;unfold hm;rw [hS _ _ (zj mem)];unfold HQ;rw [b0,D.leaf j w hj ej,if_neg ∅,ej];simp [Jg,vj]
end
theorem GQ {S:PV->Prop}:∀{l:List PV},(∀x∈l,∀R:PV->Prop,(∀v,S v->R v)->(f x).run R)->∀{Q:List PV->Prop},(∀m,m.length=l.length->(∀v∈m,S v)->Q m)->(bI l f).run Q
 | [],_,Q,q=>q [] rfl (λ_ h=>nomatch h)
 | x::l,h,Q,q=>by
  show (am (f x) λy=>am (bI l f) λm=>bd (y::m)).run Q;simp only [ci];refine h x (.head _) _ λv hv=>?_;refine GQ (λy hy=>h y (.tail _ hy)) λm hm hs=>?_;exact q (v::m) (by simp [hm]) λu hu=>by
   rcases AD.mp hu with rfl | hu
   ·exact hv
   ·exact hs u hu
theorem K9:∀{m:List PV}{ls:List Str},(∀v∈m,∃w∈ls,v=PV.str w)->∃ws:List Str,m=ws.map PV.str/\∀w∈ws,w∈ls
 | [],_,_=>⟨[],rfl,λ_ h=>nomatch h⟩
 | v::m,ls,h=>by
  obtain⟨w,hw,rfl⟩:=h v (.head _);obtain⟨ws,rfl,h2⟩:=K9 (m:=m) (ls:=ls) λu hu=>h u (.tail _ hu);exact⟨w::ws,rfl,λx hx=>by
   rcases AD.mp hx with rfl | hx
   ·exact hw
   ·exact h2 x hx⟩
inductive WT where
 | lf (p:List Nat) (i:Nat)
 | nd (p:List Nat) (i:Nat) (nm:Str) (a b:WT)
namespace WT
def path:WT->List Nat
 | .lf p i=>p++[i]
 | .nd p i _ _ _=>p++[i]
def HL:WT->Str
 | .lf _ _=>"found"
 | .nd _ _ nm _ _=>nm
def kids:WT->List WT
 | .lf _ _=>[]
 | .nd _ _ _ a b=>[a,b]
def pv:WT->PV
 | .lf p i=>.tup [.tup (aE (p++[i])),.str "found"]
 | .nd p i nm a b=>.tup [.tup (aE (p++[i])),.str nm,a.pv,b.pv]
def depth:WT->Nat
 | .lf _ _=>0
 | .nd _ _ _ a b=>max a.depth b.depth+1
def Wy (u:WT):u.pv=.tup (.tup (aE u.path)::.str u.HL::u.kids.map pv):=by cases u <;> rfl
def QH (u:WT):u.kids.length<=2:=by cases u <;> simp [kids]
end WT
def pf (f:Nat->Nat):List Nat->Nat->List Nat
 | [],_=>[]
 | x::r,i=>if f x=f (r.headD i) then pf f r i else f x::pf f r i
def wm (f:Nat->Nat):WT->WT
 | .lf p i=>.lf (pf f p i) (f i)
 | .nd p i nm a b=>.nd (pf f p i) (f i) nm (wm f a) (wm f b)
end My
variable {m:Nat}
namespace My
open PySem PySem.Spec PyProof.Rows L2 PL FL
theorem O7:∀ns l Q,iw ns->((cx 1 bK) l).run Q->((λlo l=>cx 1 (iX lo) l) (ns.map PV.int) l).run λt=>Q t.1/\∃vS:List Int,t.2=vS.map PV.int/\iw vS:=by
 rintro ns l Q ⟨g,s,c,rfl,g0,s0,s1,c0⟩ q
 match l,q with
 | [],q=>exact q.elim
 | _::_::_,q=>exact q.elim
 | [x],q=>
  show (iX _ x).run _;have q:=q;cases x with
  | int m=>
   obtain⟨⟨m0,m1⟩,q⟩:=q;have q:∀d:Int,0<=d->d < m->Q (.int d):=λd h0 h1=>q _ ⟨d,rfl,h0,h1⟩;unfold iX;generalize hA:(2147483647:Int)=A;generalize hB:(2147483629:Int)=B;generalize hD:(40009:Int)=D;have A0:0 < A:=by omega
   have B0:0 < B:=by omega
   have D0:0 < D:=by omega
   have e1:wE s 48271:=mulR ∅;have nx:∀N,N=(s*48271+12345+(c+1)) % A->(wE N (N % D+3))/\((Q (PV.int (N*(N % D+3) % B / 7 % m))))/\∃vS:List Int,[PV.int g,PV.int N,PV.int (c+1)]=vS.map PV.int/\iw vS:=λN hN=>by
    have N0:0<=N:=by rw [hN];exact CY _ ∅
    have N1:N < A:=by rw [hN];exact Cp _ A0
    exact⟨WD ∅ ∅,q _ (CY _ ∅) (Cp _ m0),[g,N,c+1],rfl,_,_,_,rfl,g0,N0,by omega,by omega⟩
   obtain⟨k1,k2,k3⟩:=nx _ rfl;by_cases hg:0 < g
   ·by_cases hc:c+1<=60
    ·simp [cF,wd,hg,hc,m0,iU,Om];refine⟨by omega,q _ (CY _ ∅) (Cp _ m0),[g / m,s,c+1],rfl,_,_,_,rfl,Int.ediv_nonneg g0 ∅,s0,s1,by omega⟩
    ·simp [cF,wd,hg,hc,m0,iU,e1,A0,B0,D0,Om];exact⟨k1,k2,k3⟩
   ·simp [cF,wd,hg,m0,iU,e1,A0,B0,D0,Om];exact⟨k1,k2,k3⟩
  | _=>exact q.elim
theorem Rp {k:Int} (k0:0<=k) (k1:k<=1000) (q:∀l,(∃ms:List Int,l=ms.map PV.int/\iw ms)->Q l):(fV (.cl (ns.map PV.int)) (.int k)).run Q:=by
 unfold fV;generalize hA:(2147483647:Int)=A;generalize hB:(2147483629:Int)=B;have A0:0 < A:=by omega
 have B0:0 < B:=by omega
 have fin:∀x:Int,((PV.int x)\λlP=>am (b2 kI (c1 HS (bd lP)) (c1 KA (b2 oGe (c1 HS (bd lP)) (b2 Ql (bd (.int 10)) (bd (.int 18)))))) λgE=>
  (gE\λx3=>am (b2 oMod (b2 kI (w2 addW (w2 addW (b2 oMod (bd lP) (bd (.int B))) (b2 kI (b2 kI (bd (.int 7919)) (bd (.int k))) (bd (.int k)))) (bd (.int 11))) (bd (.int 48271))) (bd (.int A))) λx4=>(.int 0)\λx5=>bd [x3,x4,x5])).run Q:=by
  intro x;have p2:SI 10 18:=⟨by decide,by decide,by decide⟩;simp only [ga,ZW,RL,lc p2,yO,RN,adD,VA,dH,W.Se,W.Tw,gl,lc (mulL (show -1000000000<=(7919:Int)/\(7919:Int)<=1000000000 by decide)),lc A0,lc B0];refine⟨?_,mulR ∅,mulR ∅,?_⟩
  ·split
   ·exact mulR ∅
   ·exact mulR ∅
  ·refine q _ ⟨[_,_,_],rfl,_,_,_,rfl,Int.mul_nonneg (aaj _) ?_,CY _ ∅,by have:=Cp ((x % B+7919*k*k+11)*48271) A0;omega,C9 _⟩
   split <;> split <;> decide
 by_cases ff:k < (ns.length:Int)
 ·obtain⟨v,e,e2⟩:=Sq (xs:=ns.map PV.int) k0 (by rw [Af];exact ff);rw [Ak] at e2;obtain⟨c,rfl⟩:∃c,v=.int c:=by
   cases z:ns[k.toNat]? with
   | none=>rw [z] at e2;cases e2
   | some c=>rw [z] at e2;exact⟨c,(Option.some.inj e2).symm⟩
  simp only [ga,fD,L3,Af,ff,decide_true,bL,if_true,bU,bF,e,u8];exact fin c
 ·simp only [ga,fD,L3,Af,ff,decide_false,bL,Av,if_false];exact fin 0
def acv (h:x∈[PV.str "",PV.str "",PV.str "a",PV.str "zq",PV.str "mnopqrs"]):∃y:Str,x=.str y/\Part y 7:=by
 simp at h;rcases h with rfl | rfl | rfl | rfl
 ·exact⟨"",rfl,by decide +kernel,by decide +kernel⟩
 ·exact⟨"a",rfl,by decide +kernel,by decide +kernel⟩
 ·exact⟨"zq",rfl,by decide +kernel,by decide +kernel⟩
 ·exact⟨"mnopqrs",rfl,by decide +kernel,by decide +kernel⟩
def acw (h:x∈[PV.int 1,PV.int 3,PV.int 5,PV.int 7,PV.int 9,PV.int 11]):∃st:Int,x=.int st/\(st=1\/st=3\/st=5\/st=7\/st=9\/st=11):=by
 simp at h;rcases h with rfl | rfl | rfl | rfl | rfl | rfl <;> exact⟨_,rfl,by decide⟩
theorem OM {c:Nat} (b:Part y 7) (h0:97<=c) (h1:c < 123):Wd ((⟨#[c]⟩:Str)++y):=by
 have hl:((⟨#[c]⟩:Str)++y).length=1+y.length:=by rw [Str.length_append];rfl
 have:=b.1;refine⟨by omega,by omega,λd hd=>?_⟩;have e:((⟨#[c]⟩:Str)++y).cps.toList=c::y.cps.toList:=by
  show ((⟨#[c]⟩:Str).cps++y.cps).toList=_;simp
 rw [e] at hd;rcases AD.mp hd with rfl | hd
 ·exact⟨h0,h1⟩
 ·exact b.2 d hd
theorem Ir (m1:m<=26) (q:∀ws:List Str,ws.length=m->(∀x∈ws,Wd x)->ws.Nodup->(ws.map λx=>x.cps[0]?).Nodup->Q (ws.map PV.str)):(g9 (.int m)).run Q:=by
 unfold g9;simp only [ga,ci,dG 26 ⋯ ⋯];refine bO λd a b=>?_;refine pick_run (by simp) (by simp) λx hx=>?_;obtain⟨st,rfl,o6⟩:=acw hx;simp only [gl,lF];refine pick_run (by simp) (by simp) λy hy=>?_;obtain⟨tl,rfl,ht⟩:=acv hy;simp only [cP,lc (bh (i:=0) (j:=(m:Int)) ∅ ∅),gl,AW];rw [qu]
 let w:Nat->Str:=λk=>⟨#[97+((d+st*(0+(k:Int))) % 26).toNat]⟩++tl
 refine Nh (λk=>.str (w k)) (λk hk=>?_) ?_
 ·have e0:0<=(d+st*(0+(k:Int))) % 26:=CY _ ⋯;have e1:(d+st*(0+(k:Int))) % 26 < 26:=Cp _ ⋯;have e2:(d+st*(k:Int))=d+st*(0+(k:Int)):=by rw [Dz]
  have c1:wE st (k:Int):=mulL ∅;have c2:("abcdefghijklmnopqrstuvwxyz":Str).length<=sizeLine:=by decide +kernel
  have c3:(⟨#[97+((d+st*(0+(k:Int))) % 26).toNat]⟩:Str).length+tl.length<=sizeLine:=bW (by have:=ht.1;show 1+tl.length<=1000;omega);simp only [ga,yO,lc c1,dH,RN,lc (show (0:Int) < 26 by decide),e2,ZV _ _ (Nm e0 e1),lc c2,VC,lc c3];rfl
 ·have e:(Aw m).map (λk=>PV.str (w k))=((Aw m).map w).map PV.str:=by rw [Ax];rfl
  have nd:(((Aw m).map w).map λx=>x.cps[0]?).Nodup:=by
   have:=vf (d:=d) o6 m1;rw [Ax];have e2:((λx:Str=>x.cps[0]?)∘w)=λk:Nat=>ap (97+((d+st*(0+(k:Int))) % 26).toNat):=by
    funext k;show ((⟨#[97+((d+st*(0+(k:Int))) % 26).toNat]⟩:Str).cps++tl.cps)[0]?=_;rw [Array.getElem?_append_left (by simp)];rfl
   rw [e2];exact this
  rw [e];refine q _ (by simp) (λx hx=>?_) (xK (g:=λx:Str=>x.cps[0]?) nd) nd;obtain⟨k,_,rfl⟩:=Ar.mp hx;have e0:0<=(d+st*(0+(k:Int))) % 26:=CY _ ⋯;have e1:(d+st*(0+(k:Int))) % 26 < 26:=Cp _ ⋯;exact OM ht ∅ ∅
def P4 (h:l[j]?=ap v) (hl:l.length<=1000):xD l (.int (j:Int))=.ret (l.eraseIdx j,v):=by
 have hj:=(Al.mp h).1;unfold xD;simp only [LQ hj,u8,ga,h,lc (bW hl)]
def RD {l:List Tr}{x p y:Tr} (h:l[j]?=ap y) (hp:p.ay.Perm (x.ay++y.ay)):((l.set j p).flatMap Tr.ay).Perm (x.ay++l.flatMap Tr.ay):=by
 induction l generalizing j with
 | nil=>simp at h
 | cons a l ih=>cases j with
  | zero=>
   simp at h;subst h;simp only [List.set_cons_zero,Bu];rw [<- AA];exact hp.append_right _
  | succ j=>
   simp only [List.set_cons_succ,Bu];have:=(ih (j:=j) (by simpa using h)).append_left a.ay;refine this.trans ?_;rw [<- AA,<- AA];exact C1.append_right _
def J0 {l:List Tr}{x:Tr} (h:l[j]?=ap x):(x.ay++(l.eraseIdx j).flatMap Tr.ay).Perm (l.flatMap Tr.ay):=by
 induction l generalizing j with
 | nil=>simp at h
 | cons a l ih=>cases j with
  | zero=>simp at h;subst h;simp
  | succ j=>
   simp only [CM,Bu];have:=(ih (j:=j) (by simpa using h)).append_left a.ay;refine List.Perm.trans ?_ this;rw [<- AA,<- AA];exact C1.append_right _
def Ni {l:List Tr}:(l.map Tr.pv).eraseIdx j=(l.eraseIdx j).map Tr.pv:=by
 induction l generalizing j with
 | nil=>simp
 | cons a l ih=>cases j with
  | zero=>simp
  | succ j=>simp [ih]
theorem ub (hw:ws≠[]) (h8:ws.length<=100) {Q:PV->Prop} (q:∀t:Tr,t.ay.Perm ws->Q t.pv):(cv (.cl (ws.map PV.str))).run Q:=by
 have hp:0 < ws.length:=CF.mpr hw;unfold cv;simp only [ga,ci,bU,gl,yP,yM,Af,cP,lc (bh (i:=0) (j:=(ws.length:Int)-1) ∅ ∅)];refine fc (λi s=>∃ts:List Tr,s=ts.map Tr.pv/\ts.length+i=ws.length/\(ts.flatMap Tr.ay).Perm ws) ⟨ws.map Tr.leaf,by simp [Tr.pv],by simp,?_⟩ ?_ ?_
 ·rw [List.flatMap_map];have:ws.flatMap (λx=>(Tr.leaf x).ay)=ws:=by simp [Tr.ay,List.flatMap_singleton']
  rw [this]
 ·rintro i s hi ⟨ts,rfl,hl,hp⟩;have h2:2<=ts.length:=by omega
  simp only [ga,ci,yP,Af,dG (ts.length:Int) ∅ ∅,gl];refine bO λd d0 d1=>?_;obtain⟨j,rfl⟩:∃j:Nat,d=(j:Int):=⟨d.toNat,by omega⟩;obtain⟨x,hx⟩:∃x,ts[j]?=ap x:=⟨_,Ae ∅⟩;have ň:(ts.eraseIdx j).length=ts.length-1:=by rw [Fv];simp;omega
  simp only [P4 (l:=ts.map Tr.pv) (v:=x.pv) (by rw [Ak,hx];rfl) (by rw [Af];omega),gl,Ni,yP,Af,ň,dG ((ts.length-1:Nat):Int) ∅ ∅];refine bO λe e0 e1=>?_;obtain⟨m,rfl⟩:∃m:Nat,e=(m:Int):=⟨e.toNat,by omega⟩;obtain⟨y,hy⟩:∃y,(ts.eraseIdx j)[m]?=ap y:=⟨_,Ae ∅⟩;have i0:cF ((ts.eraseIdx j).map Tr.pv) (m:Int)=ap y.pv:=dJ (by rw [Ak,hy];rfl);have hm:m < ((ts.eraseIdx j).map Tr.pv).length:=by rw [Af,ň];omega
  simp only [ga,bF,i0,u8,gl,dG 2 ⋯ ⋯];refine bO λf _ _=>?_;have fin:∀p:Tr,p.ay.Perm (x.ay++y.ay)->(iU ((ts.eraseIdx j).map Tr.pv) (.int (m:Int)) p.pv).run λs=>∃ts:List Tr,s=ts.map Tr.pv/\ts.length+(i+1)=ws.length/\(ts.flatMap Tr.ay).Perm ws:=λp ļ=>by
   rw [oq hm];exact⟨(ts.eraseIdx j).set m p,by rw [E6],by rw [B4,ň];omega,(RD hy ļ).trans ((J0 hx).trans hp)⟩
  simp only [ir,bL,gl];cases c:f==0 with
  | true=>exact fin (.node x y) (List.Perm.refl _)
  | false=>
   simp only [Av,if_false,ga,yN,sj,Vy,ci,gl];exact fin (.node y x) C1
 ·rintro s ⟨ts,rfl,hl,hp⟩
  match ts,hl,hp with
  | [],hl,_=>simp at hl;omega
  | [t],_,hp=>
   have:t.ay.Perm ws:=by simpa using hp
   exact q t this
  | _::_::_,hl,_=>simp at hl;omega
end My
variable {Q:PL.PV->Prop}
namespace My
open PySem PySem.Spec PyProof.Rows L2 PL FL
theorem IK (hw:ws≠[]) (h8:ws.length<=100) {n:Int} (n0:0 < n) (n1:n<=10) (q:∀s:Tr,(∀w∈s.ay,w∈ws)->s.ay.length<=n->Q s.pv):(du (.cl (ws.map PV.str)) (.int n)).run Q:=by
 unfold du;simp only [ga,ci,dG n n0 ∅];refine bO λk k0 k1=>?_;obtain⟨m,hm⟩:∃m:Nat,1+k=(m:Int):=⟨(1+k).toNat,by omega⟩;simp only [dH,gl,hm,cP,lc (bh (i:=0) (j:=(m:Int)) ∅ ∅),AW];refine GQ (S:=λv=>∃w∈ws,v=PV.str w) (λx _ R r=>pick_run (by simpa using hw) (by rw [Af];omega) λv hv=>r v (let ⟨w,h1,h2⟩:=Ar.mp hv;⟨w,h1,h2.symm⟩)) λms hl hs=>?_;obtain⟨us,rfl,hu⟩:=K9 hs;rw [jA,Af] at hl;exact ub (λz=>by rw [z] at hl;simp at hl;omega) ∅ λs hp=>q s (λw h=>hu w (hp.mem_iff.mp h)) (by rw [hp.length_eq];omega)
theorem hU:∀(n:Nat) (t:Tr),t.depth < n->t.size<=400->(aV n t.pv).le (.ret ((t.nd 0).map Ent.pv))
 | 0,_,h,_=>by omega
 | n+1,.leaf w,_,_=>λQ q=>by
  unfold aV;simp [Tr.pv];exact q
 | n+1,.node a b,h,hz=>λQ q=>by
  have hs:(Tr.node a b).size=a.size+b.size+1:=rfl;have hpa:=a.size_pos;have hpb:=b.size_pos;have hd:a.depth < n/\b.depth < n:=by simp [Tr.depth] at h;omega
  unfold aV;have i0:cF [a.pv,b.pv] 0=ap a.pv:=rfl;have i1:cF [a.pv,b.pv] 1=ap b.pv:=rfl;simp only [Tr.pv,ga,ci,gG,j6,cO,Av,if_false,aG,bF,i0,i1,u8];refine W.le.use (hU n a hd.1 ∅) ?_;simp only [gl];refine W.le.use (hU n b hd.2 ∅) ?_;simp only [gl,bU];refine fB (λi s=>s=(((b.nd 0).take i).map (X5 a.size)).map Ent.pv) (by simp) (λi x s hx hs=>?_) (λs hs=>?_)
  ·subst hs;rw [Ak] at hx;cases e:(b.nd 0)[i]? with
   | none=>rw [e] at hx;cases hx
   | some en=>
    rw [e] at hx;have ex:=Option.some.inj hx;subst ex;have hi:i < b.size:=by have:=(Al.mp e).1;rw [b.bo] at this;exact this
    have et:(b.nd 0).take (i+1)=(b.nd 0).take i++[en]:=by rw [CJ,e];rfl
    have al:∀y,fx ((((b.nd 0).take i).map (X5 a.size)).map Ent.pv) y=.ret ((((b.nd 0).take i).map (X5 a.size)).map Ent.pv++[y]):=λy=>cQ (by simp;omega);cases en with
    | word w=>
     simp only [Ent.pv,ga,ci,so,sk,cO,al,gl,et,Dk,Av,if_false];simp [X5,Ent.pv]
    | pair u v=>
     have j0:cF [PV.int (u:Int),PV.int (v:Int)] 0=ap (.int u):=rfl;have j1:cF [PV.int (u:Int),PV.int (v:Int)] 1=ap (.int v):=rfl;simp only [Ent.pv,ga,ci,gG,j6,cO,Fx,if_true,aG,bF,j0,j1,u8,dH,fD,Af,a.bo,al,gl,et];simp [X5,Ent.pv]
  ·subst hs;rw [Dx (by rw [Af];exact Am _)];have es:(b.nd 0).map (X5 a.size)=b.nd a.size:=by rw [<- Jh b 0 a.size,AI]
   rw [es];simp only [ga,ci,iM,yM,fD,dH,Af,a.bo,b.bo,gl,gj (l:=(a.nd 0).map Ent.pv) (m:=(b.nd a.size).map Ent.pv) (by simp [a.bo,b.bo];omega)];rw [gj (by simp [a.bo,b.bo];omega)];have e:(Tr.node a b).nd 0=a.nd 0++b.nd a.size++[.pair (a.size-1) (a.size+b.size-1)]:=by rw [Tr.nd];simp
   rw [e] at q;have e1:((a.size:Int)-1)=((a.size-1:Nat):Int):=by omega
   have e2:((a.size:Int)+(b.size:Int)-1)=((a.size+b.size-1:Nat):Int):=by omega
   rw [e1,e2];simpa [Ent.pv] using q
def TK (h:j∈left):Ye (aE left) (.int (j:Int))=.ret (aE (left.erase j)):=by
 show am (mX (aE left)) _=_;rw [vU,eO];show W.fj _ _=_;rw [lc (Ar.mpr ⟨j,h,rfl⟩),uq,<- vU]
def tG {l:List Nat} (h:(aE l)[i]?=ap x):∃k,l[i]?=ap k/\x=.int (k:Int):=by
 unfold aE at h;rw [Ak] at h;cases e:l[i]? with
 | none=>rw [e] at h;cases h
 | some k=>rw [e] at h;exact⟨k,rfl,(Option.some.inj h).symm⟩
theorem Kq (t:Tr) (hz:t.size<=400) (hd:t.depth < 12) (q:∀ds d,Dt t ds [] d->d<=13*((splits t).length:Int)->Q (.tup (bp ds))):(dA t.pv).run Q:=by
 unfold dA;have e1:TJ [PV.int 0] (.int ((t.nd 0).map Ent.pv).length)=.ret (bp (An t.size 0)):=by
  rw [ZQ,lc ⟨by omega,by rw [Af,t.bo];omega,bW (by simp [t.bo];omega)⟩];congr 1;rw [Af,t.bo,AW]
  induction t.size with
  | zero=>rfl
  | succ n ih=>rw [BH,B1,ih];rfl
 have e3:((t.nd 0).map Ent.pv).length<=sizeLine:=bW (by rw [Af,t.bo];omega);simp only [ga,ci];refine W.le.use (hU 12 t hd hz) ?_;simp only [ga,fD,e1,bU,lc e3,gl];refine acy UQ (λx hx=>?_) ?_
 ·rw [L6] at hx;obtain⟨j,hj,rfl⟩:=Ar.mp hx;cases en t 0 j with
  | word w=>simp [Ent.pv,UQ]
  | pair u v=>simp [Ent.pv,UQ]
 rw [Y4 t];have hsl:(splits t).length<=t.size:=by
  have:=Ln (splits t) 0 t.size (Dt.first t).ris λx hx=>⟨Bc _,((Dt.first t).lft x hx).1⟩;omega
 simp only [gl,yP,cf,cP,lc (bh (i:=0) (j:=((splits t).length:Int)) ∅ ∅),AW];refine fc (λi s=>∃(ds:List Int) (left:List Nat) (d:Int),s=(bp ds,PV.int d,aE left)/\left.length+i=(splits t).length/\Dt t ds left d/\d+13*(left.length:Int)<=13*((splits t).length:Int)) ⟨_,_,0,rfl,rfl,Dt.first t,by omega⟩ ?_ ?_
 ·rintro i s hi ⟨ds,left,d,rfl,hl,D,hd⟩;have he:left≠[]:=λz=>by rw [z] at hl;simp at hl;omega
  have ă:left.length<=t.size:=by omega
  simp only [ga,ci,gl];refine fB (λi s=>s=aE ((left.take i).filter (Ot t left))) (by simp [aE]) (λi x s hx hs=>?_) (λs hs=>?_)
  ·obtain⟨k,hk,rfl⟩:=tG hx;subst hs;have hkm:=Bo hk;have et:left.take (i+1)=left.take i++[k]:=by rw [CJ,hk];rfl
   have W2:=(Al.mp hk).1;have fl:((left.take i).filter (Ot t left)).length<=i:=by
    have:=BK (Ot t left) (left.take i);have:=CD i left;omega
   have al:fx (aE ((left.take i).filter (Ot t left))) (.int (k:Int))=.ret (aE ((left.take i).filter (Ot t left))++[.int (k:Int)]):=cQ (by rw [cf];omega);obtain⟨h1,h2⟩:=D.lft k hkm;cases e:en t 0 k with
   | word w=>rw [e] at h2;cases h2
   | pair a b=>
    have j0:cF [PV.int (a:Int),PV.int (b:Int)] 0=ap (.int a):=rfl;have j1:cF [PV.int (a:Int),PV.int (b:Int)] 1=ap (.int b):=rfl;have hr:Ot t left k=(!decide (a∈left)&&!decide (b∈left)):=by unfold Ot;rw [e]
    rw [et,Ez];simp only [ga,bU,bF,YW t h1,e,Ent.pv,u8,aG,j0,j1,Q6,if_true];by_cases ca:a∈left
    ·simp [ca,hr,aE]
    ·by_cases cb:b∈left
     ·simp [ca,cb,hr,aE]
     ·simp [ca,cb,hr,al]
  ·subst hs;rw [cf,CK];have ne:=D.abN he;refine pick_run ne (by rw [cf];have:=BK (Ot t left) left;omega) λx hx=>?_;obtain⟨j,hj,rfl⟩:=Ar.mp hx;obtain⟨ZD,Rh⟩:=Bg.mp hj;obtain⟨js,jp⟩:=D.lft j ZD;cases ej:en t 0 j with
   | word w=>rw [ej] at jp;cases jp
   | pair a b=>
   unfold Ot at Rh;rw [ej] at Rh;simp at Rh;simp only [dH,gl,dG 12 ⋯ ⋯,ga];refine bO λy y0 y1=>?_;simp only [dH,gl,oq (l:=bp ds) (k:=j) (by rw [fW,D.len];exact js),TK ZD,Q5,ga];refine⟨_,left.erase j,_,rfl,by rw [ES ZD];have:=E7 ZD;omega,D.next ZD ej Rh.1 Rh.2 y0,?_⟩;rw [ES ZD];have:=E7 ZD;omega
 ·rintro s ⟨ds,left,d,rfl,hl,D,hd⟩;have:left=[]:=Cf ∅;subst this;simp;exact q ds d D (by simpa using hd)
theorem Gr (q:∀ps:List Int,ps.length=4->(∀p∈ps,0<=p)->Q (.tup (bp ps))):cY.run Q:=by
 unfold cY;have p2:SI 10 28:=⟨by decide,by decide,by decide⟩;simp only [ga,ci,gl,cP,lc (bh (i:=0) (j:=4) ∅ ∅)];refine fc (n:=4) (λi s=>∃ps:List Int,s=bp ps/\ps.length=i/\∀p∈ps,0<=p) ⟨[],rfl,rfl,by simp⟩ ?_ ?_
 ·rintro i s hi ⟨ps,rfl,hl,hp⟩;simp only [ga,ci,gl,dG 10 ⋯ ⋯];refine bO λa a0 a1=>?_;simp only [dG 1001 ⋯ ⋯];refine bO λb b0 b1=>?_;simp only [iM,gl,RL,lc p2,dG 1000 ⋯ ⋯];refine bO λc c0 c1=>?_;simp only [dH,gl];rw [gj (by simp)];refine pick_run (by simp) (by simp) λx hx=>?_;have į:(0:Int)<=10 ^ Int.toNat 28:=by decide +kernel
  obtain⟨v,rfl,hv⟩:∃v:Int,x=.int v/\0<=v:=by
   simp at hx;rcases hx with rfl | rfl | rfl | rfl | rfl | rfl | rfl | rfl | rfl
   all_goals first | exact⟨_,rfl,by omega⟩ | exact⟨_,rfl,by have:=į;simp at this;omega⟩
  rw [cQ (by rw [fW];omega)];exact⟨ps++[v],by simp [bp],by simp [hl],λp h=>by rcases A9.mp h with h | h;exact hp p h;rw [A8.mp h];exact hv⟩
 ·rintro s ⟨ps,rfl,hl,hp⟩;exact q ps hl hp
end My
variable {ps:List Int}{d:Cg}
namespace My
open PySem PySem.Spec PyProof.Rows L2 PL FL
abbrev OI:=Option Int
def oP:OI->PV
 | none=>.aN
 | some i=>.int i
def uR (l:List OI):List Int:=l.filterMap id
def m9 (l:List OI):OI:=if bm∈l then bm else ap (uR l).sum
def gV (l:List OI):OI:=if uR l=[] then bm else ap (qh (uR l))
theorem LB:∀{l:List OI},bm∉l->l.map oP=(uR l).map PV.int
 | [],_=>rfl
 | none::l,h=>absurd (.head _) h
 | some a::l,h=>by
  have:=LB (l:=l) λz=>h (.tail _ z);rw [Aq,this];rfl
def ZL (l:List OI):(l.map oP).filterMap (λx=>if x matches .aN then bm else ap x)=(uR l).map PV.int:=by
 induction l with
 | nil=>rfl
 | cons a l ih=>cases a with
  | none=>rw [Aq,Ba];exact ih
  | some i=>rw [Aq,Ba];exact congrArg _ ih
def Zo (l:List OI):rC false .aN (l.map oP)=.ret (decide (bm∈l)):=by
 have h0:∀x∈l.map oP,PV.iL x=true/\PV.fv x<=150:=λx hx=>by
  obtain⟨o,_,rfl⟩:=Ar.mp hx;cases o <;> simp [oP]
 have h1:Hf .aN (l.map oP):=⟨by simp,ip.mpr λx hx=>(h0 x hx).1,iq λx hx=>(h0 x hx).2⟩;have h2:o8 .aN (l.map oP)=decide (bm∈l):=by
  unfold o8;rw [FX];clear h0 h1
  induction l with
  | nil=>rfl
  | cons a l ih=>
   rw [BM,ih];cases a <;> simp [oP,i6]
 unfold rC;rw [lc h1,h2];simp
def pU (l:List OI):jw (.cl (l.map oP))=.ret (oP (m9 l)):=by
 unfold jw m9;simp only [ga,bU,Zo];by_cases h:bm∈l
 ·simp [h,oP]
 ·rw [if_neg h];simp only [h,decide_false,Av,if_false,iM,ga,LB h,kR,eO];rfl
def UM (l:List OI):LI ((uR l).map PV.int)=.ret (oP (gV l)):=by
 unfold LI gV;rw [eO,ga]
 split <;> rfl
def Sf (l:List OI):(nu (l.map oP) λp2=>QD (am (of2 GG p2 .aN) asB) (bd p2))=.ret ((uR l).map PV.int):=by
 rw [<- ZL];refine xU λx hx=>?_;obtain⟨o,_,rfl⟩:=Ar.mp hx;cases o <;> simp [oP,PV.lq]
def HN (l:List OI):gZ (.cl (l.map oP))=.ret (oP (gV l)):=by
 unfold gZ;simp only [ga,bU,Sf,UM]
def Nf {a b:List Int} (h:a.Perm b):qh a=qh b:=by
 by_cases c:a=[]
 ·subst c;rw [List.nil_perm.mp h]
 ·have c2:b≠[]:=λz=>c (by subst z;exact List.perm_nil.mp h);exact Fh (rZ (h.mem_iff.mpr (oO c2))) (rZ (h.mem_iff.mp (oO c)))
def Nc {a b:List OI} (h:a.Perm b):gV a=gV b:=by
 have h2:(uR a).Perm (uR b):=h.filterMap _;unfold gV;rw [Nf h2];have:(uR a=[])=(uR b=[]):=propext ⟨λz=>List.nil_perm.mp (z▸h2),λz=>List.perm_nil.mp (z▸h2)⟩;simp only [this]
def Sb (l:List OI):vA (l.map oP)=true:=HM.mpr λx hx=>by
 obtain⟨o,_,rfl⟩:=Ar.mp hx;cases o <;> (rw [oP,PV.dat] <;> simp)
def Z4 (d:Str):Nat:=if d="split" then 0 else if d="doubled" then 1 else 2
def P1 (ps:List Int) (d:Str):Int:=ps.getD (Z4 d) 0
theorem Z3 (d:Str):Z4 d < 3:=by unfold Z4;split;omega;split <;> omega
theorem wY (h:ps.length=4) (hk:k < 4):cF (bp ps) (k:Int)=ap (.int (ps.getD k 0)):=dJ (by
 unfold bp;rw [Ak,Ae ∅,Aj,Ae ∅];rfl)
def Nz (d:Str):Prop:=d="split"\/d="doubled"\/d="over"
def LR:rC false (.str d) ([("split":Str),("doubled":Str),("over":Str)].map PV.str)=.ret (decide (d∈[("split":Str),("doubled":Str),("over":Str)])):=by
 unfold rC;rw [lc ⟨by simp,by simp [fu],by simp [d6]⟩];congr 1;simp only [o8,Aq,Cz,BM,List.any_nil,RI,Bool.or_false,Av,if_false];have e:∀a:Str,(a==d)=decide (d=a):=λa=>by
  by_cases c:a=d
  ·subst c;simp
  ·have c2:¬d=a:=λz=>c z.symm;simp [c,c2]
 simp [e,AD]
theorem P0 (h:ps.length=4) (hd:Nz d):eG (.tup (bp ps)) (.str d)=.ret (.int (P1 ps d)):=by
 unfold eG;have hm:d∈[("split":Str),("doubled":Str),("over":Str)]:=by rcases hd with rfl | rfl | rfl <;> simp
 have hi:Ra ["split","doubled","over"] (.str d)=.ret (.int ((Z4 d:Nat):Int)):=by
  show W.fj _ _=_;rw [lc hm];rcases hd with rfl | rfl | rfl <;> rfl
 have:=Z3 d;simp only [ga,LR,hm,decide_true,if_true,aG,hi,bF,wY h (k:=Z4 d) ∅,u8];rfl
def Gs:eG (.tup (bp ps)) (.str "found")=.ret (.int 0):=by
 unfold eG;have hm:("found":Str)∉[("split":Str),("doubled":Str),("over":Str)]:=by decide +kernel
 simp only [ga,LR,hm,decide_false,Av,if_false]
end My
variable {T:List (List My.OI)}{d:My.Dd}
namespace My
open PySem PySem.Spec PyProof.Rows L2 PL FL
def rg (T:List (List OI)) (j i:Nat):OI:=(T.getD j []).getD i bm
def rP (T:List (List OI)):List PV:=T.map λr=>.tup (r.map oP)
def uA (ps:List Int) (R:Nat->Nat->OI) (a b:Nat) (d:Dd):OI:=m9 [ap (P1 ps d.1),R a d.2.1,R b d.2.2]
def R8 (g:List Sy) (ps:List Int) (R:Nat->Nat->OI) (e:Ent) (i:Nat):List OI:=match e with
 | .word w=>if hm g i w=true then [ap 0] else []
 | .pair a b=>(dl g i).map (uA ps R a b)
def jt (g:List Sy) (ps:List Int) (i:Nat):Int:=if (sy g i).un.length=2 then ps.getD 3 0 else 0
def Wo (g:List Sy) (ps:List Int) (row:List OI) (i:Nat):List OI:=(sy g i).un.map λu=>m9 [ap (jt g ps i),row.getD u bm]
def kH (g:List Sy) (ps:List Int) (R:Nat->Nat->OI) (e:Ent):Nat->List OI
 | 0=>[]
 | k+1=>kH g ps R e k++[gV (R8 g ps R e k++Wo g ps (kH g ps R e k) k)]
def fg (g:List Sy) (ps:List Int) (es:List Ent):Nat->List (List OI)
 | 0=>[]
 | j+1=>fg g ps es j++[kH g ps (rg (fg g ps es j)) (SS es j) g.length]
theorem jq (g:List Sy) (ps:List Int) (R:Nat->Nat->OI) (e:Ent):∀k,(kH g ps R e k).length=k
 | 0=>rfl
 | k+1=>by rw [kH,Ah,jq g ps R e k];rfl
theorem jk (g:List Sy) (ps:List Int) (es:List Ent):∀j,(fg g ps es j).length=j
 | 0=>rfl
 | j+1=>by rw [fg,Ah,jk g ps es j];rfl
structure Wide (g:List Sy) (T:List (List OI)) (n:Nat):Prop where
 len:T.length=n
 row:∀j,j < n->(T.getD j []).length=g.length
theorem pT (g:List Sy) (ps:List Int) (es:List Ent):∀j,Wide g (fg g ps es j) j
 | 0=>⟨rfl,λj h=>absurd h (Dl j)⟩
 | j+1=>⟨jk g ps es _,λk hk=>by
  have W:=pT g ps es j;rw [fg];by_cases c:k < j
  ·rw [jC (by rw [W.len];exact c)];exact W.row k c
  ·have:k=j:=by omega
   subst this;rw [gK (by rw [W.len];exact Am _),W.len,CP];exact jq _ _ _ _ _⟩
def Wv (W':Wide g T n) (hj:j < n) (hi:i < g.length):(bB (am (bB (bd (rP T)) (bd (.int (j:Int)))) aw) (bd (.int (i:Int))))=.ret (oP (rg T j i)):=by
 have hl:=W'.row j hj;have h1:cF (rP T) (j:Int)=ap (.tup ((T.getD j []).map oP)):=dJ (by
  unfold rP;rw [Ak,Ae (by rw [W'.len];exact hj),Aj,Ae (by rw [W'.len];exact hj)];rfl)
 have h2:cF ((T.getD j []).map oP) (i:Int)=ap (oP (rg T j i)):=dJ (by
  unfold rg;rw [Ak,Ae (by rw [hl];exact hi),Aj (l:=T.getD j []),Ae (by rw [hl];exact hi)];rfl)
 simp only [ga,bF,h1,u8,aG,h2]
def Xh (h:d∈dl g i):Nz d.1:=by
 unfold dl at h;rcases AD.mp h with rfl | h
 ·exact .inr (.inl rfl)
 rcases A9.mp h with h | h
 ·unfold uP at h
  split at h
  ·simp at h;rcases h with rfl | rfl <;> exact .inl rfl
  ·cases h
 ·rcases A9.mp h with h | h <;> obtain⟨o,_,rfl⟩:=Ar.mp h <;> exact .inr (.inr rfl)
def Qa {f:α->β}{a b:List β} (h:a.Perm b):∀{l:List α},b=l.map f->∃ds:List α,a=ds.map f/\ds.Perm l:=by
 induction h with
 | nil=>intro l e;exact⟨[],rfl,by rw [List.map_eq_nil_iff.mp e.symm]⟩
 | cons x _ ih=>
  intro l e;cases l with
  | nil=>cases e
  | cons y l=>
   injection e with e1 e2;obtain⟨ds,h1,h2⟩:=ih e2;exact⟨y::ds,by rw [Aq,e1,h1],h2.cons y⟩
 | swap x y r=>
  intro l e
  match l,e with
  | u::v::l,e=>
   injection e with e1 e2;injection e2 with e2 e3;exact⟨v::u::l,by rw [Aq,Aq,e1,e2,e3],.swap u v l⟩
 | trans _ _ Q8 SN=>
  intro l e;obtain⟨ds,h1,h2⟩:=SN e;obtain⟨es,h3,h4⟩:=Q8 h1;exact⟨es,h3,h4.trans h2⟩
theorem wB (f h:α->β):∀l:List α,(l.map f++l.map h).Perm (l.flatMap λo=>[f o,h o])
 | []=>.nil
 | a::l=>by
  rw [Aq,Aq,Bu,BF];exact ((List.perm_middle).trans ((wB f h l).cons _)).cons _
def Mb (g:List Sy) (i:Nat):(dl g i).Perm (dds g i):=((wB (λo=>(("over",i,o):Dd)) (λo=>(("over",o,i):Dd)) (sy g i).be).append_left _).cons _
def Xg (G:WG g ws) (h:i < g.length) (hd:d∈dl g i):d.2.1 < g.length/\d.2.2 < g.length:=Z6 G h ((Mb g i).mem_iff.mp hd)
theorem N2 (p4:ps.length=4) (W':Wide g T n) (ha:a < n) (hb:b < n) (hd:Nz d.1) (hx:d.2.1 < g.length) (hy:d.2.2 < g.length):dr (.tup (bp ps)) (.cl (rP T)) (Ent.pair a b).pv (d2 d)=.ret (oP (uA ps (rg T) a b d)):=by
 unfold dr;have i0:cF [PV.str d.1,PV.tup [.int (d.2.1:Int),.int (d.2.2:Int)]] 0=ap (.str d.1):=rfl;have i1:cF [PV.str d.1,PV.tup [.int (d.2.1:Int),.int (d.2.2:Int)]] 1=ap (.tup [.int (d.2.1:Int),.int (d.2.2:Int)]):=rfl;have ez:Mq [PV.int (a:Int),.int (b:Int)] [.int (d.2.1:Int),.int (d.2.2:Int)]=.ret [.tup [.int (a:Int),.int (d.2.1:Int)],.tup [.int (b:Int),.int (d.2.2:Int)]]:=lc (by simp;exact bW ∅);have ec:mH [PV.int (P1 ps d.1)] [oP (rg T a d.2.1),oP (rg T b d.2.2)]=.ret ([ap (P1 ps d.1),rg T a d.2.1,rg T b d.2.2].map oP):=by rw [gj (by simp)];rfl
 have em:(bI [PV.tup [.int (a:Int),.int (d.2.1:Int)],.tup [.int (b:Int),.int (d.2.2:Int)]] λp6=>am (q9 p6) λt7=>(bB (am (bB (bd (rP T)) (bd t7.1)) aw) (bd t7.2)))=.ret [oP (rg T a d.2.1),oP (rg T b d.2.2)]:=by
  simp only [bI,lF,ga];have h1:=Wv W' ha hx;have h2:=Wv W' hb hy;simp only [ga] at h1 h2;simp only [h1,h2,ga]
 simp only [ga] at em;simp only [d2,ga,qz,Ov,aE,Aq,Cz,aG,bF,i0,i1,u8,ez,em,P0 p4 hd,bU,iM,ec];exact pU [ap (P1 ps d.1),rg T a d.2.1,rg T b d.2.2]
def Kp (G:WG g ws) (p4:ps.length=4) (W':Wide g T n) (he:w5 n e) (hi:i < g.length) {Q:List PV->Prop} (q:∀L:List OI,L.Perm (R8 g ps (rg T) e i)->Q (L.map oP)):(eX (kC g) (.tup (bp ps)) (.cl (rP T)) e.pv (.int (i:Int))).run Q:=by
 unfold eX;simp only [ga,ci];cases e with
 | word w=>
  unfold fo;simp only [Ent.pv,ga,ci,so,sk,cO,gl,if_true,Vl G hi];unfold R8 at q;cases h:hm g i w with
  | false=>
   simp only [h,Av,if_false] at q ⊢;exact q [] (List.Perm.refl _)
  | true=>
   simp only [h,if_true] at q ⊢;have ef:dr (.tup (bp ps)) (.cl (rP T)) (.str w) (.tup [.str "found",.tup []])=.ret (.int 0):=by
    unfold dr;have i0:cF [PV.str "found",PV.tup []] 0=ap (.str "found"):=rfl;have i1:cF [PV.str "found",PV.tup []] 1=ap (.tup []):=rfl;have hv:cX (.str w)=.ret (.tup []):=qz (.word w);have ez:Mq [] []=.ret []:=lc (by simp);have ec:mH [PV.int 0] []=.ret ([ap (0:Int)].map oP):=by rw [gj (by simp)];rfl
    simp only [ga,hv,aG,bF,i0,i1,u8,ez,bI,Gs,iM,ec,pU];rfl
   simp only [gl,bI,ga,ef];exact q [ap 0] (List.Perm.refl _)
 | pair a b=>
  refine NV G hi λm hm=>?_;obtain⟨ds,rfl,hp⟩:∃ds:List Dd,m=ds.map d2/\ds.Perm (dl g i):=Qa hm rfl;refine iH (λd=>oP (uA ps (rg T) a b d)) (λd hd=>?_) ?_
  ·have hdl:=hp.mem_iff.mp hd;obtain⟨h1,h2⟩:=Xg G hi hdl;rw [N2 p4 W' he.1 he.2 (Xh hdl) h1 h2];exact λQ q=>q
  ·have e:ds.map (λd=>oP (uA ps (rg T) a b d))=(ds.map (uA ps (rg T) a b)).map oP:=by rw [Ax];rfl
   rw [e];exact q _ (hp.map _)
theorem YC (p4:ps.length=4) (hi:i < g.length):fN (kC g) (.tup (bp ps)) (.int (i:Int))=.ret (.int (jt g ps i)):=by
 unfold fN jt;simp only [ga,n9 hi,fC,cf,ir,bL,aG,bF];by_cases c:(sy g i).un.length=2
 ·have h3:=wY p4 (k:=3) ∅;have c2:(((sy g i).un.length:Int)==2)=true:=by simp [c]
  rw [if_pos c,c2];simp only [if_true];rw [show ((3:Nat):Int)=3 from rfl] at h3;rw [h3];rfl
 ·have c2:(((sy g i).un.length:Int)==2)=false:=by simp;omega
  rw [if_neg c,c2];rfl
theorem Pc (G:WG g ws) (p4:ps.length=4) {row:List OI} (hi:i < g.length) (hr:row.length=i):eW (kC g) (.tup (bp ps)) (.cl (row.map oP)) (.int (i:Int))=.ret ((Wo g ps row i).map oP):=by
 unfold eW Wo;simp only [ga,YC p4 hi,n9 hi,aG];rw [Ax];refine jS λu hu=>?_;have hu:=G.dn i hi u hu;have h1:cF (row.map oP) (u:Int)=ap (oP (row.getD u bm)):=dJ (by rw [Ak,Ae ∅,Aj,Ae ∅];rfl);have e:[PV.int (jt g ps i),oP (row.getD u bm)]=[ap (jt g ps i),row.getD u bm].map oP:=rfl;simp only [ga,bU,bF,h1,u8,e,pU];rfl
theorem Yb (G:WG g ws) (p4:ps.length=4) (W':Wide g T n) (he:w5 n e):(k6 (kC g) (.tup (bp ps)) (.cl (rP T)) e.pv).le (.ret (.tup ((kH g ps (rg T) e g.length).map oP))):=λQ q=>by
 unfold k6;have hg:=G.len;have el:qf df [kC g]=.ret (.int (g.length:Int)):=by simp [kC]
 simp only [ga,ci,gl];simp only [el,gl,cP,lc (bh (i:=0) (j:=(g.length:Int)) ∅ ∅),AW];refine fc (λi s=>s=(kH g ps (rg T) e i).map oP) rfl (λi s hi hs=>?_) (λs hs=>?_)
 ·subst hs;have ğ:=jq g ps (rg T) e i;refine Kp G p4 W' he hi λL hL=>?_;rw [Pc G p4 hi ğ];have h1:L.length<=63:=by
   rw [hL.length_eq];cases e with
   | word w=>show (if hm g i w=true then [ap 0] else []).length<=63;split <;> simp
   | pair a b=>show ((dl g i).map _).length<=63;rw [Af];exact za G hi
  have h2:(Wo g ps (kH g ps (rg T) e i) i).length<=2:=by unfold Wo;rw [Af];exact G.q9 i hi
  simp only [ga,ci];rw [gj (by rw [Af,Af];omega),<- Az];have et:O5 ((L++Wo g ps (kH g ps (rg T) e i) i).map oP)=.ret ((L++Wo g ps (kH g ps (rg T) e i) i).map oP):=lc (Sb _);simp only [gl,et,HN];rw [cQ (by rw [Af];omega)];show _=_;rw [kH,Az,Nc (hL.append_right _)];rfl
 ·subst hs;exact q
theorem O8 (G:WG g ws) (p4:ps.length=4) (hz:t.size<=400):(oS (kC g) t.pv (.tup (bp ps))).le (.ret (.tup (rP (fg g ps (t.nd 0) t.size)))):=λQ q=>by
 unfold oS;simp only [ga,ci,gl];refine W.le.use (oK t ∅) ?_;simp only [aG,gl];refine fB (λi s=>s=rP (fg g ps (t.nd 0) i)) rfl (λi x s hx hs=>?_) (λs hs=>?_)
 ·subst hs;have hi:i < t.size:=by have:=(Al.mp hx).1;rw [eM] at this;exact this
  rw [Ak,gU t 0 i hi] at hx;have ex:=(Option.some.inj hx).symm;subst ex;simp only [ci];refine W.le.use (Yb G p4 (pT g ps (t.nd 0) i) (ph t hi)) ?_;have ed:SS (t.nd 0) i=en t 0 i:=by unfold SS;rw [Aj,gU t 0 i hi];rfl
  have et:O4 (.tup ((kH g ps (rg (fg g ps (t.nd 0) i)) (en t 0 i) g.length).map oP))=.ret (.tup ((kH g ps (rg (fg g ps (t.nd 0) i)) (en t 0 i) g.length).map oP)):=lc (by rw [PV.dat];exact Sb _);simp only [et,gl];rw [cQ (by unfold rP;rw [Af,jk];omega)];show _=_;rw [fg,ed];unfold rP;rw [Az];rfl
 ·subst hs;rw [eM];exact q
abbrev kk (j i:Nat):List Key:=[.inl (j:Int),.inl (i:Int)]
def G3 (j:Nat):Nat->List OI->List (List Key×PV)
 | _,[]=>[]
 | i,v::r=>(kk j i,oP v)::G3 j (i+1) r
def se:Nat->List (List OI)->List (List Key×PV)
 | _,[]=>[]
 | j,r::T=>G3 j 0 r++se (j+1) T
theorem Jv {j' i':Nat} (h:kk j i=kk j' i'):j=j'/\i=i':=by
 injection h with h1 h2;injection h2 with h2 _;injection h1 with h1;injection h2 with h2;omega
def ug (a b:List (List Key×PV)) (k:List Key):cL (a++b) k=(cL a k).or (cL b k):=by
 unfold cL;rw [List.find?_append];cases a.find? λkv=>decide (kv.1=k) <;> rfl
theorem ZI (j:Nat) (k:List Key):∀(r:List OI) (i:Nat),(∀n,n < r.length->k≠kk j (i+n))->cL (G3 j i r) k=bm
 | [],_,_=>rfl
 | v::r,i,h=>by
  have h0:¬kk j i=k:=λz=>h 0 (by simp) z.symm;have:=ZI j k r (i+1) λn hn=>by have:=h (n+1) (by simpa using hn);rw [show i+1+n=i+(n+1) by omega];exact this
  unfold cL at this ⊢;rw [G3,Bl];simp only [h0,decide_false];exact this
theorem LV (j:Nat):∀(r:List OI) (i n:Nat),n < r.length->cL (G3 j i r) (kk j (i+n))=ap (oP (r.getD n bm))
 | v::r,i,0,_=>by
  unfold cL;rw [G3,Bl];simp
 | v::r,i,n+1,h=>by
  have h0:¬kk j i=kk j (i+(n+1)):=λz=>by have:=(Jv z).2;omega
  have:=LV j r (i+1) n (by simpa using h);rw [show i+1+n=i+(n+1) by omega] at this;unfold cL at this ⊢;rw [G3,Bl];simp only [h0,decide_false];exact this
theorem adl (k:List Key):∀(T:List (List OI)) (j:Nat),(∀m n,m < T.length->n < (T.getD m []).length->k≠kk (j+m) n)->cL (se j T) k=bm
 | [],_,_=>rfl
 | r::T,j,h=>by
  rw [se,ug,ZI j k r 0 λn hn=>by rw [AI];exact h 0 n (by simp) hn,adl k T (j+1) λm n hm hn=>by
   rw [show j+1+m=j+(m+1) by omega];exact h (m+1) n (by simpa using hm) (by simpa using hn)]
  rfl
theorem yu:∀(T:List (List OI)) (j m n:Nat),m < T.length->n < (T.getD m []).length->cL (se j T) (kk (j+m) n)=ap (oP (rg T m n))
 | r::T,j,0,n,_,hn=>by
  have:=LV j r 0 n hn;rw [AI] at this;rw [se,ug];show (cL (G3 j 0 r) (kk j n)).or _=_;rw [this];rfl
 | r::T,j,m+1,n,hm,hn=>by
  rw [se,ug,ZI j _ r 0 λn' _ z=>by have:=(Jv z).1;omega];have:=yu T (j+1) m n (by simpa using hm) (by simpa using hn);rw [show j+1+m=j+(m+1) by omega] at this;rw [this];rfl
theorem G1 (j:Nat) (v:OI):∀(r:List OI) (i:Nat),G3 j i (r++[v])=G3 j i r++[(kk j (i+r.length),oP v)]
 | [],i=>rfl
 | u::r,i=>by
  rw [BF,G3,G1 j v r (i+1),G3,BF,Ap,show i+1+r.length=i+(r.length+1) by omega]
theorem oY (r:List OI):∀(T:List (List OI)) (j:Nat),se j (T++[r])=se j T++G3 (j+T.length) 0 r
 | [],j=>by rw [Dm,se,se,se,Cs];rfl
 | u::T,j=>by
  rw [BF,se,oY r T (j+1),se,AA,Ap,show j+1+T.length=j+(T.length+1) by omega]
def TX {k:List Key} (h:cL kvs k=bm):FL.Gm kvs k v=kvs++[(k,v)]:=by
 unfold FL.Gm;rw [if_neg];intro c;obtain⟨x,h1,h2⟩:=List.any_eq_true.mp c;unfold cL at h;rw [E5,List.find?_eq_none] at h;exact h x h1 h2
theorem LP:∀(T:List (List OI)) (j:Nat),(se j T).length=(T.map BS).sum
 | [],_=>rfl
 | r::T,j=>by
  have:∀(r:List OI) (i:Nat),(G3 j i r).length=r.length:=λr=>by
   induction r with
   | nil=>intro i;rfl
   | cons v r ih=>intro i;rw [G3,Ap,ih,Ap]
  rw [se,Ah,this,LP T,Aq,BL]
def Qz (g:List Sy) (i:Nat):List Dd:=dbl i::((sy g i).be.flatMap (M4 i)++uP (sy g i).un)
def jz (g:List Sy) (i:Nat):(Qz g i).Perm (dl g i):=(C1.cons _).trans (Mb g i).symm
def eP (e:Nat×Nat):PV:=.tup [.int (e.1:Int),.int (e.2:Int)]
def loP (a b:Nat) (d:Dd):PV:=.tup [.int ((Z4 d.1:Nat):Int),.cl ([(a,d.2.1),(b,d.2.2)].map eP)]
def ldO (g:List Sy) (e:Ent) (i:Nat):List PV:=match e with
 | .word w=>if hm g i w=true then [.tup [.aN,.cl []]] else []
 | .pair a b=>(Qz g i).map (loP a b)
theorem Ju (G:WG g ws) (he:es[j]?=ap e) (hi:i < g.length):(dz (kC g) (.cl (es.map Ent.pv)) (.int (j:Int)) (.int (i:Int))).le (.ret (ldO g e i)):=λQ q=>by
 unfold dz;have h1:cF (es.map Ent.pv) (j:Int)=ap e.pv:=dJ (by rw [Ak,he];rfl);have hu:=G.q9 i hi;have hb:=G.VX i hi;have gi:=JV hi;simp only [kC,ga,aG,gi,Sy.pv,J3,bU,bF,h1,u8,ci];cases e with
 | word w=>
  simp only [Ent.pv,ga,so,sk,cO,gl,if_true,eq_nil _ (show (sy g i).un.length<=1000 by omega),bL,RO (G.nm i hi) w];have e:hm g i w=((sy g i).un.isEmpty&&vj w (sy g i).nm):=rfl;have q:Q (if hm g i w=true then [.tup [.aN,.cl []]] else []):=q;cases h1:(sy g i).un.isEmpty with
  | false=>rw [e,h1] at q;simpa using q
  | true=>cases h2:vj w (sy g i).nm with
   | false=>rw [e,h1,h2] at q;simpa using q
   | true=>rw [e,h1,h2] at q;simpa using q
 | pair a b=>
  have j0:cF [PV.int (a:Int),PV.int (b:Int)] 0=ap (.int a):=rfl;simp only [Ent.pv,ga,gG,j6,cO,gl,Av,if_false,lF,ci];refine fB (λk s=>s=(dbl i::((sy g i).be.take k).flatMap (M4 i)).map (loP a b)) rfl (λk x s hx hs=>?_) (λs hs=>?_)
  ·obtain⟨o,ho,rfl⟩:=tG hx;subst hs;have hk:=(Al.mp ho).1;have hl:((sy g i).be.take k).length<=k:=CD _ _;have et:(sy g i).be.take (k+1)=(sy g i).be.take k++[o]:=by rw [CJ,ho];rfl
   simp only [ga,ci,gl];rw [cQ (by rw [Af,Ap,jD];omega)];simp only [gl,ga];rw [cQ (by rw [Ah,Af,Ap,jD];simp;omega)];show _=_;rw [et,FI,AA,<- BF,Az];rfl
  ·subst hs;rw [cf,CK];simp only [ga,fC,cf,ir,bL,gl];have q:Q ((dbl i::((sy g i).be.flatMap (M4 i)++uP (sy g i).un)).map (loP a b)):=q;rw [<- BF,Az] at q;have Ň:((dbl i::(sy g i).be.flatMap (M4 i)).map (loP a b)).length<=61:=by rw [Af,Ap,jD];omega
   generalize (dbl i::(sy g i).be.flatMap (M4 i)).map (loP a b)=M at q Ň;revert hu q;generalize (sy g i).un=l;intro hu q
   match l,hu,q with
   | [],_,q=>simpa [uP] using q
   | [u],_,q=>simpa [uP] using q
   | [u,v],_,q=>
    have k0:cF [PV.int (u:Int),PV.int (v:Int)] 0=ap (.int u):=rfl;have k1:cF [PV.int (u:Int),PV.int (v:Int)] 1=ap (.int v):=rfl;have c:((([u,v]:List Nat).length:Int)==2)=true:=rfl;simp only [c,if_true,jv,kZ,aG,ga,bF,k0,k1,u8,ci,gl];rw [cQ ∅];simp only [gl,ga];rw [cQ (by rw [Ah];simp;omega)];rw [AA];exact q
def stO (g:List Sy) (i j u:Nat):PV:=.tup [if (sy g i).un.length=2 then .int 3 else .aN,.cl ([(j,u)].map eP)]
theorem Nj (hi:i < g.length) (j:Nat):eZ (kC g) (.int (j:Int)) (.int (i:Int))=.ret ((sy g i).un.map (stO g i j)):=by
 unfold eZ;have gi:=JV hi;have i2:cF [(sy g i).nm,PV.int (sy g i).lv,.tup (aE (sy g i).un),.tup (aE (sy g i).be)] 2=ap (.tup (aE (sy g i).un)):=rfl;simp only [kC,ga,aG,gi,Sy.pv,bF,i2,u8,fC,cf,ir,bL];by_cases c:(sy g i).un.length=2
 ·have c2:(((sy g i).un.length:Int)==2)=true:=by simp [c]
  rw [c2];simp only [if_true,ga];refine jS λu _=>?_;simp only [ga,stO,c,if_true];rfl
 ·have c2:(((sy g i).un.length:Int)==2)=false:=by simp;omega
  rw [c2];simp only [Av,if_false,ga];refine jS λu _=>?_;simp only [ga,stO,c,if_false];rfl
structure Op where
 pl:PV
 tot:Int
 es:List (Nat×Nat)
def Op.pv (o:Op):PV:=.tup [o.pl,.cl (o.es.map eP)]
def Op.cost (R:Nat->Nat->OI) (o:Op):OI:=m9 (ap o.tot::o.es.map λe=>R e.1 e.2)
def Qj (g:List Sy) (ps:List Int) (e:Ent) (i:Nat):List Op:=match e with
 | .word w=>if hm g i w=true then [⟨.aN,0,[]⟩] else []
 | .pair a b=>(Qz g i).map λd=>⟨.int ((Z4 d.1:Nat):Int),P1 ps d.1,[(a,d.2.1),(b,d.2.2)]⟩
def YN (g:List Sy) (ps:List Int) (i j:Nat):List Op:=(sy g i).un.map λu=>⟨if (sy g i).un.length=2 then .int 3 else .aN,jt g ps i,[(j,u)]⟩
def YO (g:List Sy) (ps:List Int) (e:Ent) (i:Nat):(Qj g ps e i).map Op.pv=ldO g e i:=by
 cases e with
 | word w=>unfold Qj ldO;simp only;split <;> rfl
 | pair a b=>unfold Qj ldO;simp only;rw [Ax];rfl
def YM (g:List Sy) (ps:List Int) (i j:Nat):(YN g ps i j).map Op.pv=(sy g i).un.map (stO g i j):=by
 unfold YN;rw [Ax];rfl
def Qi (g:List Sy) (ps:List Int) (R:Nat->Nat->OI) (e:Ent) (i:Nat):((Qj g ps e i).map (Op.cost R)).Perm (R8 g ps R e i):=by
 cases e with
 | word w=>unfold Qj R8;simp only;split <;> exact List.Perm.refl _
 | pair a b=>unfold Qj R8;simp only;rw [Ax];exact (jz g i).map _
def Zq (l:List OI):(d4 (bd (!((uR l).map PV.int).isEmpty)) (GP ((uR l).map PV.int)) (bd .aN))=.ret (oP (gV l)):=by
 unfold GP gV;simp only [eO,ga];by_cases c:uR l=[]
 ·rw [if_pos c,c];rfl
 ·rw [if_neg c,lc c];have:(!((uR l).map PV.int).isEmpty)=true:=by cases h:uR l with | nil=>exact absurd h c | cons a r=>rfl
  rw [this,if_pos rfl];rfl
def TB {r:List OI} (h:j < T.length):rg (T++[r]) j i=rg T j i:=by unfold rg;rw [jC h]
def Tz {r:List OI}:rg (T++[r]) T.length i=r.getD i bm:=by unfold rg;rw [gK (Am _),CP];rfl
theorem sT {l:List Nat} (h:∀x∈l,x<=m):l.sum<=l.length*m:=by
 induction l with
 | nil=>simp
 | cons a l ih=>
  rw [BL,Ap,Ee];have:=h a (.head _);have:=ih λx hx=>h x (.tail _ hx);omega
def ZN (o:OI):i6 (oP o) (oP o)=true:=by cases o <;> simp [oP,i6]
def wC (h:∀x∈l,i6 x x=true):gb l l=true:=by
 induction l with
 | nil=>simp
 | cons a l ih=>rw [ZM,h a (.head _),ih λx hx=>h x (.tail _ hx)];rfl
def TL (T:List (List OI)):i6 (.tup (rP T)) (.tup (rP T))=true:=by
 rw [W7];refine wC λx hx=>?_;obtain⟨r,_,rfl⟩:=Ar.mp hx;rw [W7];refine wC λy hy=>?_;obtain⟨o,_,rfl⟩:=Ar.mp hy;exact ZN o
theorem Tx (r:List OI):PV.iL (.tup (r.map oP))=true/\PV.fv (.tup (r.map oP))<=1:=by
 have h0:∀x∈r.map oP,PV.iL x=true/\PV.fv x<=0:=λx hx=>by
  obtain⟨o,_,rfl⟩:=Ar.mp hx;cases o <;> simp [oP]
 have h1:=iq (n:=0) λx hx=>(h0 x hx).2;simp only [PV.iL,PV.fv];exact⟨ip.mpr λx hx=>(h0 x hx).1,by omega⟩
theorem IT (T:List (List OI)):PV.iL (.tup (rP T))=true/\PV.fv (.tup (rP T))<=2:=by
 have h0:∀x∈rP T,PV.iL x=true/\PV.fv x<=1:=λx hx=>by
  obtain⟨r,_,rfl⟩:=Ar.mp hx;exact Tx r
 have h1:=iq λx hx=>(h0 x hx).2;simp only [PV.iL,PV.fv];exact⟨ip.mpr λx hx=>(h0 x hx).1,by omega⟩
theorem abR (T U:List (List OI)):J7 (.tup (rP T)) (.tup (rP U)):=⟨(IT T).1,(IT U).1,by have:=(IT T).2;omega⟩
def abT (T:List (List OI)):of2 xJ (.tup (rP T)) (.tup (rP T))=.ret (.bl false):=by rw [RM,lc (abR T T),TL];rfl
def Q3 (T:List (List OI)):(fZ (.tup (rP T)) (.tup (rP T))).le (.ret (.bl true)):=λQ q=>by
 unfold fZ;simp only [ga,gG,L4,cO,Dk,abT,bL,Av,if_false,aG,ci];refine LZ (λ_ s=>s=()) rfl (λk x s hx hs=>?_) (λs hs=>?_)
 ·have hx:=Bo hx;obtain⟨r,_,rfl⟩:=Ar.mp hx;have em:(bI (r.map oP) λp4=>f9 .bool p4)=.ret ((r.map λ_=>false).map PV.bl):=by
   rw [oQ (k:=λ_=>PV.bl false) λo _=>by cases o <;> rfl,Ax];rfl
  have ea:Oh ((r.map λ_=>false).map PV.bl)=.ret (.bl false):=by
   rw [V3,FX];have:r.any (id∘λ_=>false)=false:=by rw [List.any_eq_false];intro x _;exact AR
   rw [this]
  simp only [ga,gG,L4,cO,Dk,Av,if_false,aG,em,ea,gl]
 ·exact q
def O1 (t:Tr):qf df [.cl ((t.nd 0).map Ent.pv)]=.ret (.int (t.size:Int)):=by rw [fD,eM]
end My
variable {x:Nat}{o:My.OI}{b v:Int}{l:List My.OI}
namespace My
open PySem PySem.Spec PyProof.Rows L2 PL FL
section
theorem oA (R:Nat->Nat->OI) (e:Ent):∀{k:Nat},i < k->(kH g ps R e k).getD i bm=gV (R8 g ps R e i++Wo g ps (kH g ps R e i) i)
 | k+1,h=>by
  rw [kH];by_cases c:i < k
  ·rw [jC (by rw [jq];exact c)];exact oA R e c
  ·have:i=k:=by omega
   subst this;rw [gK (by rw [jq];exact Am _),jq,CP];rfl
theorem oe:∀{k:Nat},j < k->(fg g ps es k).getD j []=kH g ps (rg (fg g ps es j)) (SS es j) g.length
 | k+1,h=>by
  rw [fg];by_cases c:j < k
  ·rw [jC (by rw [jk];exact c)];exact oe c
  ·have:j=k:=by omega
   subst this;rw [gK (by rw [jk];exact Am _),jk,CP];rfl
theorem Yc (h:j<=k) (ha:a < j):rg (fg g ps es j) a x=rg (fg g ps es k) a x:=by
 unfold rg;rw [oe ha,oe (show a < k by omega)]
def NW {R R':Nat->Nat->OI} (he:w5 n e) (h:∀a x,a < n->R a x=R' a x):R8 g ps R e i=R8 g ps R' e i:=by
 cases e with
 | word w=>rfl
 | pair a b=>exact Be λd _=>by unfold uA;rw [h a _ he.1,h b _ he.2]
def stC (g:List Sy) (ps:List Int) (f:Nat->OI) (i:Nat):List OI:=(sy g i).un.map λu=>m9 [ap (jt g ps i),f u]
theorem abL (G:WG g ws) (hj:j < n) (hi:i < g.length) (he:w5 j (SS es j)):rg (fg g ps es n) j i=gV (R8 g ps (rg (fg g ps es n)) (SS es j) i++stC g ps (rg (fg g ps es n) j) i):=by
 have e0:∀x,rg (fg g ps es n) j x=(kH g ps (rg (fg g ps es j)) (SS es j) g.length).getD x bm:=λx=>by unfold rg;rw [oe hj];rfl
 rw [e0,oA _ _ hi,NW he λa x ha=>Yc (k:=n) ∅ ha];congr 2;refine Be λu hu=>?_;have hu:=G.dn i hi u hu;rw [e0,oA _ _ hu,oA _ _ (show u < g.length by omega)]
end
theorem QU {P:Nat->Nat->Prop} (h:∀j i,j < n->i < m->(∀a x,a < j->x < m->P a x)->(∀u,u < i->P j u)->P j i):∀j i,j < n->i < m->P j i:=by
 intro j
 induction j using CW with
 | ind j ihj=>
  intro i
  induction i using CW with
  | ind i ihi=>exact λhj hi=>h j i hj hi (λa x ha hx=>ihj a ha x ∅ hx) λu hu=>ihi u hu hj ∅
def LK:v∈uR l↔ap v∈l:=by
 unfold uR;rw [Ex];exact⟨λ⟨o,h1,h2⟩=>by rw [id] at h2;rw [<- h2];exact h1,λh=>⟨_,h,rfl⟩⟩
def rY (h:ap v∈l):∃m,gV l=ap m/\m<=v:=by
 have h:=LK.mpr h;unfold gV;rw [if_neg (λz=>by rw [z] at h;cases h)];exact⟨_,rfl,rZ h⟩
def oM {m:Int} (h:gV l=ap m):ap m∈l:=by
 unfold gV at h
 split at h
 ·cases h
 ·next c=>
  cases h;exact LK.mp (oO c)
def sum2 {a:Int}:m9 [ap a,ap b]=ap (a+b):=by simp [m9,uR]
def abB {a c:Int}:m9 [ap a,ap b,ap c]=ap (a+(b+c)):=by simp [m9,uR]
def Tc {a:Int} (h:m9 [ap a,o]=ap v):∃b,o=ap b/\v=a+b:=by
 cases o with
 | none=>simp [m9] at h
 | some b=>rw [sum2] at h;exact⟨b,rfl,(Option.some.inj h).symm⟩
def Tb {a:Int}{p:OI} (h:m9 [ap a,o,p]=ap v):∃b c,o=ap b/\p=ap c/\v=a+(b+c):=by
 cases o with
 | none=>simp [m9] at h
 | some b=>cases p with
  | none=>simp [m9] at h
  | some c=>rw [abB] at h;exact⟨b,c,rfl,rfl,(Option.some.inj h).symm⟩
section
def uo (h:j < t.size):SS (t.nd 0) j=en t 0 j:=by unfold SS;rw [Aj,gU t 0 j h];rfl
def XR (G:WG g ws) (ps:List Int) (hj:j < t.size) (hi:i < g.length):rg (fg g ps (t.nd 0) t.size) j i=gV (R8 g ps (rg (fg g ps (t.nd 0) t.size)) (en t 0 j) i++stC g ps (rg (fg g ps (t.nd 0) t.size) j) i):=by
 have:=abL (es:=t.nd 0) (ps:=ps) G hj hi (by rw [uo hj];exact ph t hj);rw [uo hj] at this;exact this
end
def O6:∀ns l Q,iw ns->((cx 1 bK) l).run Q->((λlo l=>cx 1 (iW lo) l) (ns.map PV.int) l).run λt=>Q t.1/\∃vS:List Int,t.2=vS.map PV.int/\iw vS:=O7
theorem NL:dw=k8:=rfl
structure Xq (g:List Sy) where
 top:Nat
 ht:Nat->Nat
 le:∀i,i < g.length->ht i<=top
 dn:∀i,i < g.length->∀u∈(sy g i).un,ht u < ht i
 few:g.length*2 ^ top<=600
 len:g.length<=30
 six:top<=6
def rM (g:List Sy) (t:Tr):Prop:=Nonempty (Xq g)/\t.size<=7
def Vs (t:Tr):(gS t).length=t.size:=by unfold gS;rw [Af,CA]
theorem Jq (hz:t.size<=7):Nonempty (Xq (gS t)):=by
 have G:WG (gS t) t.ay:=vI ∅;have hl:=Vs t;exact⟨⟨6,λi=>i,λi hi=>by omega,λi hi u hu=>G.dn i hi u hu,by rw [hl];omega,by omega,by omega⟩⟩
theorem Nk (D:DD t ds) (hz:t.size<=7) (hb:(aK t ds).length<=4):Nonempty (Xq (dS t ds (aK t ds))):=by
 have nd:=gs t ds (aK t ds) (aK t ds).length;have ok:=D.ok;have ll:=gQ t ds (aK t ds) (aK t ds).length;have lt:=@fm t ds (aK t ds) (aK t ds).length;unfold okD at ok;have hS:∀i p,(aH t ds (aK t ds) (aK t ds).length)[i]?=ap p->sy (dS t ds (aK t ds)) i=⟨Jg (en t 0 p.1) p.1,p.2,(HQ (en t 0 p.1) p.1 (ds.getD p.1 0) ((aK t ds).getD p.2 0)).map λx=>(aH t ds (aK t ds) (aK t ds).length).idxOf (x,p.2-1),Xp (aH t ds (aK t ds) (aK t ds).length) p.1 p.2⟩:=λi p hp=>by
  unfold sy dS;rw [Aj,Ak,hp];rfl
 have hL:(dS t ds (aK t ds)).length=(aH t ds (aK t ds) (aK t ds).length).length:=Sd t ds _;have Ŀ:=Es hb hz;generalize aH t ds (aK t ds) (aK t ds).length=L at *;have get:∀i,i < (dS t ds (aK t ds)).length->∃p,L[i]?=ap p/\p∈L:=λi hi=>by
  rw [hL] at hi;exact⟨L[i],Ae hi,DR hi⟩
 refine⟨⟨3,λi=>(L.getD i (0,0)).2,λi hi=>?_,λi hi u hu=>?_,by rw [hL];omega,by rw [hL];omega,by omega⟩⟩
 ·obtain⟨p,hp,hm⟩:=get i hi;have:=(lt hm).1;show (L.getD i (0,0)).2<=3;rw [Aj,hp];show p.2<=3;omega
 ·obtain⟨p,hp,hm⟩:=get i hi;rw [hS i p hp] at hu;obtain⟨x,hx,rfl⟩:=Ar.mp hu;obtain⟨h1,h2⟩:=ok p hm x hx;show (L.getD _ (0,0)).2 < (L.getD i (0,0)).2;rw [Aj,Aj,hp,zj h2];show p.2-1 < p.2;omega
theorem IG (g:Mp t) (h4:t.ay.length<=4) (q:∀s,WG s t.ay->Xq s->Q (kC s)):(e6 t.pv).run Q:=by
 have hz:=t.size_eq;have hdp:=g.depth;unfold e6;simp only [ga,ci,dG 2 ⋯ ⋯];refine bO λd _ _=>?_;simp only [ir,bL,gl];cases c:d==0 with
 | true=>
  simp only [if_true];refine NK t ∅ Q ?_;rw [<- adn];obtain⟨w⟩:=Jq (t:=t) ∅;exact q _ (vI ∅) w
 | false=>
  simp only [Av,if_false,ci];refine Kq t ∅ ∅ λds d D aly=>?_;have Vj:(splits t).length<=3:=by have:=II t;omega
  have Ŕ:=DD.of (D.isD ∅);have hb:(aK t ds).length<=4:=by unfold aK;rw [Ap,pV];unfold Lh;rw [Af];omega
  refine R9 Ŕ ∅ Q ?_;rw [<- adS];obtain⟨w⟩:=Nk Ŕ ∅ hb;exact q _ (OO Ŕ ∅ ∅) w
theorem JP (q:∀(t:Tr) (ws:List Str),Mp t->t.ay.Perm ws->t.ay.length<=4->Q (.tup [t.pv,.cl (ws.map PV.str)])):(dw (.int 4)).run Q:=by
 rw [NL];unfold k8;simp only [ga,ci,dG 4 ⋯ ⋯];refine bO λk k0 k1=>?_;obtain⟨m,hm⟩:∃m:Nat,1+k=(m:Int):=⟨(1+k).toNat,by omega⟩;simp only [dH,gl,hm];refine Ir ∅ λws hl hw hd hb=>?_;refine ub (λz=>by rw [z] at hl;simp at hl;omega) ∅ λt ht=>?_;exact q t ws ⟨λx hx=>hw x (ht.mem_iff.mp hx),ht.nodup_iff.mpr hd,by rw [ht.length_eq,hl];omega,0,by decide,(ht.map _).nodup_iff.mpr hb⟩ ht (by rw [ht.length_eq,hl];omega)
def ID (k:Nat):WT->WT
 | .lf p i=>.lf (k::p) i
 | .nd p i nm a b=>.nd (k::p) i nm a b
def wD (g:List Sy) (R:Nat->Nat->List WT) (e:Ent) (i:Nat):List WT:=match e with
 | .word w=>if hm g i w=true then [.lf [] i] else []
 | .pair a b=>(Qz g i).flatMap λd=>(R a d.2.1).flatMap λone=>(R b d.2.2).map λo=>.nd [] i d.1 one o
def wy (g:List Sy) (es:List Ent):Nat->Nat->Nat->List WT
 | 0,_,_=>[]
 | n+1,j,i=>wD g (wy g es n) (SS es j) i++(sy g i).un.flatMap λu=>(wy g es n j u).map (ID i)
theorem j5 {f h:α->List β}:∀{l:List α},(∀x∈l,f x=h x)->l.flatMap f=l.flatMap h
 | [],_=>rfl
 | x::l,H=>by rw [Bu,Bu,H x (.head _),j5 λy hy=>H y (.tail _ hy)]
def nr (G:WG g ws) (h:i < g.length) (hd:d∈Qz g i):d.2.1 < g.length/\d.2.2 < g.length:=Xg G h ((jz g i).mem_iff.mp hd)
def Y5 (hd:d∈Qz g i):Nz d.1:=Xh ((jz g i).mem_iff.mp hd)
def zU (G:WG g ws) {R R':Nat->Nat->List WT} (hi:i < g.length) (he:w5 n e) (h:∀a x,a < n->x < g.length->R a x=R' a x):wD g R e i=wD g R' e i:=by
 cases e with
 | word w=>rfl
 | pair a b=>
  refine j5 λd hd=>?_;obtain⟨h1,h2⟩:=nr G hi hd;rw [h a _ he.1 h1,h b _ he.2 h2]
theorem rN (G:WG g ws) (Lo:Xq g) (t:Tr):∀(n m j i:Nat),j < t.size->i < g.length->j*7+Lo.ht i < n->j*7+Lo.ht i < m->wy g (t.nd 0) n j i=wy g (t.nd 0) m j i
 | 0,_,_,_,_,_,h,_=>absurd h (Dl _)
 | _+1,0,_,_,_,_,_,h=>absurd h (Dl _)
 | n+1,m+1,j,i,hj,hi,h1,h2=>by
  rw [wy,wy,uo hj];rw [zU G hi (ph t hj) λa x ha hx=>by
   have:=Lo.le x hx;have:=Lo.six;exact rN G Lo t n m a x ∅ hx ∅ ∅]
  congr 1;refine j5 λu hu=>?_;have:=G.dn i hi u hu;have:=Lo.dn i hi u hu;rw [rN G Lo t n m j u hj ∅ ∅ ∅]
theorem aa9 (G:WG g ws) (Lo:Xq g) (hn:t.size*7<=n) (hj:j < t.size) (hi:i < g.length):wy g (t.nd 0) n j i=wD g (wy g (t.nd 0) n) (en t 0 j) i++(sy g i).un.flatMap λu=>(wy g (t.nd 0) n j u).map (ID i):=by
 have:=Lo.le i hi;have:=Lo.six;cases n with
 | zero=>omega
 | succ n=>
  rw [wy,uo hj];rw [zU (R':=wy g (t.nd 0) (n+1)) G hi (ph t hj) λa x ha hx=>by
   have:=Lo.le x hx;exact rN G Lo t n (n+1) a x ∅ hx ∅ ∅]
  congr 1;refine j5 λu hu=>?_;have:=G.dn i hi u hu;have:=Lo.dn i hi u hu;rw [rN G Lo t n (n+1) j u hj ∅ ∅ ∅]
def mC (g:List Sy) (t:Tr):Nat->Nat->List WT:=wy g (t.nd 0) 50
theorem xa (G:WG g ws) (hn:rM g t) (hj:j < t.size) (hi:i < g.length):mC g t j i=wD g (mC g t) (en t 0 j) i++(sy g i).un.flatMap λu=>(mC g t j u).map (ID i):=by
 unfold mC;obtain⟨⟨Lo⟩,h7⟩:=hn;exact aa9 G Lo ∅ hj hi
def wf (g:List Sy):WT->Prop
 | .lf p _=>∀k∈p,k < g.length
 | .nd p _ nm a b=>(∀k∈p,k < g.length)/\Nz nm/\wf g a/\wf g b
def XZ (hk:k < g.length):∀{w:WT},wf g w->wf g (ID k w)
 | .lf p i,h=>λx hx=>by rcases AD.mp hx with rfl | hx;exact hk;exact h x hx
 | .nd p i nm a b,h=>⟨λx hx=>by rcases AD.mp hx with rfl | hx;exact hk;exact h.1 x hx,h.2⟩
def F9 (k:Nat) (w:WT):(ID k w).path=k::w.path:=by cases w <;> rfl
def MB (k:Nat) (w:WT):(ID k w).depth=w.depth:=by cases w <;> rfl
theorem zT (G:WG g ws) (t:Tr):∀(n j i:Nat),j < t.size->i < g.length->∀w∈wy g (t.nd 0) n j i,wf g w/\w.path.length<=i+1/\w.depth<=j
 | 0,_,_,_,_,_,h=>by cases h
 | n+1,j,i,hj,hi,w,h=>by
  rw [wy,uo hj] at h;have ff:=ph t hj;rcases A9.mp h with h | h
  ·revert h ff;cases en t 0 j with
   | word x=>
    intro _ h;have h:w∈(if hm g i x=true then [WT.lf [] i] else []):=h
    split at h
    ·rw [A8.mp h];exact⟨λk hk=>(by cases hk),by show ([]++[i]).length<=_;simp,Bc _⟩
    ·cases h
   | pair a b=>
    intro nA h;obtain⟨d,hd,h⟩:=BE.mp h;obtain⟨one,h1,h⟩:=BE.mp h;obtain⟨o,h2,rfl⟩:=Ar.mp h;obtain⟨x1,x2⟩:=nr G hi hd;have nA:a < j/\b < j:=nA;have r1:=zT G t n a _ ∅ x1 one h1;have r2:=zT G t n b _ ∅ x2 o h2;exact⟨⟨λk hk=>(by cases hk),Y5 hd,r1.1,r2.1⟩,by show ([]++[i]).length<=_;simp,by show max one.depth o.depth+1<=j;omega⟩
  ·obtain⟨u,hu,h⟩:=BE.mp h;obtain⟨v,hv,rfl⟩:=Ar.mp h;have:=G.dn i hi u hu;have r:=zT G t n j u hj ∅ v hv;exact⟨XZ hi r.1,by rw [F9,Ap];omega,by rw [MB];exact r.2.2⟩
theorem mi {c:α->PV}{f:PV->List PV->W (List PV)}{h:α->List WT} (B:Nat):∀(l:List α),(∀x∈l,∀s:List WT,s.length+(h x).length<=B->(f (c x) (s.map WT.pv)).run (·=(s++h x).map WT.pv))->∀(s:List WT),s.length+(l.flatMap h).length<=B->(bz (l.map c) (s.map WT.pv) f).run (·=(s++l.flatMap h).map WT.pv)
 | [],_,s,_=>by show _=_;rw [List.flatMap_nil,Cs]
 | x::l,H,s,hB=>by
  rw [Bu,Ah] at hB;show (f (c x) (s.map WT.pv)).run _;refine W.mono _ (λr hr=>?_) (H x (.head _) s ∅);subst hr;have:=mi B l (λy hy=>H y (.tail _ hy)) (s++h x) (by rw [Ah];omega);rw [AA,<- Bu] at this;exact this
def L1 {l m:List PV} (h:l.length+m.length<=1000):J2 l m=.ret (l++m):=lc (bW h)
theorem X0 {w:WT} (h:w.path.length<=900):(w2 addW (am (w2 addW (am (bd (.int (k:Int))) λOL=>bd (.tup [OL])) (bB (am (bd w.pv) aw) (bd (.int 0)))) λOK=>bd (.tup [OK])) (w.pv\λOJ=>am (am (bd (.int 1)) part) λRb=>bm\λQY=>MH OJ Rb QY))=.ret (ID k w).pv:=by
 rw [w.Wy];have k0:cF (PV.tup (aE w.path)::.str w.HL::w.kids.map WT.pv) 0=ap (.tup (aE w.path)):=by
  show cF _ ((0:Nat):Int)=_;exact dJ rfl
 have hc:rJ (PV.tup (aE w.path)::.str w.HL::w.kids.map WT.pv) (ap 1) bm=.str w.HL::w.kids.map WT.pv:=by
  have:=Z7 (PV.tup (aE w.path)::.str w.HL::w.kids.map WT.pv) (a:=1) (by simp);rw [show ((1:Nat):Int)=1 from rfl] at this;rw [this];rfl
 have hk:=w.QH;simp only [ga,aG,bF,k0,u8,L5,lc (show [PV.int (k:Int)].length+(aE w.path).length<=sizeLine from bW (by rw [cf];simp;omega)),sj,J5,hc,lc (show [PV.tup ([PV.int (k:Int)]++aE w.path)].length+(PV.str w.HL::w.kids.map WT.pv).length<=sizeLine from bW (by simp;omega))];rw [(ID k w).Wy,F9];have e1:(ID k w).HL=w.HL:=by cases w <;> rfl
 have e2:(ID k w).kids=w.kids:=by cases w <;> rfl
 rw [e1,e2];rfl
theorem Ss (G:WG g ws) (Lo:Xq g) (hn:rM g t) (hB:∀j i,j < t.size->i < g.length->(mC g t j i).length<=600):∀(n j i:Nat),j < t.size->i < g.length->j*7+Lo.ht i < n->(bP n (kC g) (.cl ((t.nd 0).map Ent.pv)) (.int (j:Int)) (.int (i:Int))).le (.ret ((mC g t j i).map WT.pv))
 | 0,_,_,_,_,h=>absurd h (Dl _)
 | n+1,j,i,hj,hi,hN=>λQ q=>by
  have ih:=Ss G Lo hn hB n;have hl:=hB j i hj hi;have eq:=xa G hn hj hi;have ff:=ph t hj;have hu:=G.q9 i hi;have hb:=G.VX i hi;have h1:cF ((t.nd 0).map Ent.pv) (j:Int)=ap (en t 0 j).pv:=dJ (by rw [Ak,gU t 0 j hj];rfl);have gi:=JV hi;have es:aw (kC g)=.ret (g.map Sy.pv):=rfl;unfold bP;simp only [ga,bU,bF,h1,u8,es,gi,Sy.pv,J3,ci];rw [eq] at q hl;rw [Ah] at hl;have tail:∀s,s=(wD g (mC g t) (en t 0 j) i).map WT.pv->(bz (aE (sy g i).un) s λmx xy=>am (bP n (kC g) (.cl ((t.nd 0).map Ent.pv)) (.int (j:Int)) mx) λn6=>am (bI n6 λM3=>(w2 addW (am (w2 addW (am (bd (.int (i:Int))) λOL=>bd (.tup [OL])) (bB (am (bd M3) aw) (bd (.int 0)))) λOK=>bd (.tup [OK])) (M3\λOJ=>am (am (bd (.int 1)) part) λRb=>bm\λQY=>MH OJ Rb QY))) λZd=>am (J2 xy Zd) λmh=>bd mh).run Q:=by
   rintro s rfl;refine W.mono _ (λr hr=>?_) (mi (c:=λn:Nat=>PV.int (n:Int)) (h:=λu=>(mC g t j u).map (ID i)) 600 (sy g i).un (λu SO s hs=>?_) (wD g (mC g t) (en t 0 j) i) hl)
   ·rw [hr];exact q
   ·have ul:=G.dn i hi u SO;have ul2:=Lo.dn i hi u SO;simp only [ci];refine W.le.use (ih j u hj ∅ ∅) ?_;rw [oQ (k:=λw=>(ID i w).pv) λw hw=>X0 (by
     have:=(zT G t 50 j u hj ∅ w hw).2.1;have:=G.len;omega)]
    simp only [gl];rw [Af] at hs;rw [L1 (by rw [Af,Af];omega)];show _=_;rw [Az,Ax];rfl
  revert hl q tail ff;cases he:en t 0 j with
  | word w=>
   intro q hl _ tail;simp only [Ent.pv,ga,so,sk,cO,gl,if_true,eq_nil _ (show (sy g i).un.length<=1000 by omega),bL,RO (G.nm i hi) w];have e:hm g i w=((sy g i).un.isEmpty&&vj w (sy g i).nm):=rfl;have tail:=tail _ rfl;have eD:(wD g (mC g t) (.word w) i)=if hm g i w=true then [.lf [] i] else []:=rfl
   rw [eD,e] at tail;cases h1:(sy g i).un.isEmpty with
   | false=>rw [h1] at tail;simpa using tail
   | true=>cases h2:vj w (sy g i).nm with
    | false=>rw [h1,h2] at tail;simpa using tail
    | true=>rw [h1,h2] at tail;simpa [WT.pv] using tail
  | pair a b=>
   intro q hl nA tail;simp only [Ent.pv,ga,gG,j6,cO,gl,Av,if_false,ci,aG];refine fB (λk s=>s=(dbl i::((sy g i).be.take k).flatMap (M4 i)).map d3) rfl (λk x s hx hs=>?_) (λs hs=>?_)
   ·obtain⟨o,ho,rfl⟩:=tG hx;subst hs;have hk:=(Al.mp ho).1;have hl:((sy g i).be.take k).length<=k:=CD _ _;have et:(sy g i).be.take (k+1)=(sy g i).be.take k++[o]:=by rw [CJ,ho];rfl
    rw [gj (by rw [Af,Ap,jD];simp;omega)];show _=_;rw [et,FI,<- BF,Az];rfl
   ·subst hs;rw [cf,CK];have e3:∀Q:List PV->Prop,Q ((Qz g i).map d3)->(am (t2 fM (c1 df (bd (.tup (aE (sy g i).un)))) (bd (.int 2))) λb=>(if b=true then (
      am ((.str "split")\λXF=>am (bB (am (bd (.tup (aE (sy g i).un))) aw) (bd (.int 0))) λXE=>am (bB (am (bd (.tup (aE (sy g i).un))) aw) (bd (.int 1))) λXD=>bd (.tup [XF,XE,XD])) λXC=>am (fx ((dbl i::(sy g i).be.flatMap (M4 i)).map d3) XC) λoo=>
      am ((.str "split")\λXB=>am (bB (am (bd (.tup (aE (sy g i).un))) aw) (bd (.int 1))) λXA=>am (bB (am (bd (.tup (aE (sy g i).un))) aw) (bd (.int 0))) λXz=>bd (.tup [XB,XA,Xz])) λXy=>am (fx oo Xy) λom=>
      bd om) else (bd ((dbl i::(sy g i).be.flatMap (M4 i)).map d3)))).run Q:=by
     intro Q q;simp only [ga,fC,cf,ir,bL,gl,ci];have q:Q ((dbl i::((sy g i).be.flatMap (M4 i)++uP (sy g i).un)).map d3):=q;rw [<- BF,Az] at q;have Ň:((dbl i::(sy g i).be.flatMap (M4 i)).map d3).length<=61:=by rw [Af,Ap,jD];omega
     generalize (dbl i::(sy g i).be.flatMap (M4 i)).map d3=M at q Ň;clear tail hl eq gi;revert hu q;generalize (sy g i).un=l;intro hu q
     match l,hu,q with
     | [],_,q=>simpa [uP] using q
     | [u],_,q=>simpa [uP] using q
     | [u,v],_,q=>
      have k0:cF [PV.int (u:Int),PV.int (v:Int)] 0=ap (.int u):=rfl;have k1:cF [PV.int (u:Int),PV.int (v:Int)] 1=ap (.int v):=rfl;have c:((([u,v]:List Nat).length:Int)==2)=true:=rfl;simp only [c,if_true,jv,kZ,aG,ga,bF,k0,k1,u8,ci,gl];rw [cQ ∅];simp only [gl,ga];rw [cQ (by rw [Ah];simp;omega)];rw [AA];exact q
    refine e3 _ ?_;have nA:a < j/\b < j:=nA;have j0:cF [PV.int (a:Int),PV.int (b:Int)] 0=ap (.int a):=rfl;have j1:cF [PV.int (a:Int),PV.int (b:Int)] 1=ap (.int b):=rfl;have eD:wD g (mC g t) (.pair a b) i=(Qz g i).flatMap λd=>(mC g t a d.2.1).flatMap λone=>(mC g t b d.2.2).map λo=>.nd [] i d.1 one o:=rfl;refine W.mono _ (λr hr=>tail r (by rw [hr,eD,Dm])) (mi (c:=d3) (h:=λd=>(mC g t a d.2.1).flatMap λone=>(mC g t b d.2.2).map λo=>.nd [] i d.1 one o) 600 (Qz g i) (λd hd s hs=>?_) [] (by rw [<- eD];simp;omega));obtain⟨x1,x2⟩:=nr G hi hd;have i1:=Lo.le _ x1;have i2:=Lo.le _ x2;have i3:=Lo.six;simp only [d3,ZP,ga,bF,j0,j1,u8,ci];refine W.le.use (ih b d.2.2 ∅ x2 ∅) ?_;refine W.le.use (ih a d.2.1 ∅ x1 ∅) ?_;refine W.mono _ (λr hr=>hr) (mi (c:=WT.pv) (h:=λone=>(mC g t b d.2.2).map λo=>.nd [] i d.1 one o) 600 (mC g t a d.2.1) (λone _ s hs=>?_) s hs);rw [oQ (c:=WT.pv) (f:=λUj=>bd (PV.tup [PV.tup [PV.int (i:Int)],PV.str d.1,one.pv,Uj])) (k:=λo=>(WT.nd [] i d.1 one o).pv) λo _=>rfl];simp only [ci,gl];rw [Af] at hs;rw [L1 (by rw [Af,Af];omega)];show _=_;rw [Az,Ax];rfl
def cN (g:List Sy) (t:Tr) (j i:Nat):Nat:=(mC g t j i).length
def cR (g:List Sy) (t:Tr) (j k:Nat):List OI:=(Aw k).map λx=>ap ((cN g t j x:Nat):Int)
def cT (g:List Sy) (t:Tr) (n:Nat):List (List OI):=(Aw n).map λj=>cR g t j g.length
def Kz (g:List Sy) (t:Tr) (j k:Nat):(cR g t j k).length=k:=by unfold cR;simp
def aab (g:List Sy) (t:Tr) (n:Nat):(cT g t n).length=n:=by unfold cT;simp
def VW (g:List Sy) (t:Tr) (j k:Nat):cR g t j (k+1)=cR g t j k++[ap ((cN g t j k:Nat):Int)]:=by unfold cR;rw [D8,Az];rfl
def VV (g:List Sy) (t:Tr) (n:Nat):cT g t (n+1)=cT g t n++[cR g t n g.length]:=by unfold cT;rw [D8,Az];rfl
def Xm (g:List Sy) (t:Tr) (j:Nat) (h:x < k):(cR g t j k).getD x bm=ap ((cN g t j x:Nat):Int):=by
 unfold cR;rw [Aj,Ak,BI h];rfl
def Xl (g:List Sy) (t:Tr) (h:j < n):(cT g t n).getD j []=cR g t j g.length:=by
 unfold cT;rw [Aj,Ak,BI h];rfl
theorem Hw {c:α->PV}{f:PV->PV->W PV}{h:α->Nat}:∀(l:List α),(∀x∈l,∀s:Nat,(f (c x) (.int (s:Int))).run (·=.int ((s+h x:Nat):Int)))->∀(s:Nat),(bz (l.map c) (.int (s:Int)) f).run (·=.int ((s+(l.map h).sum:Nat):Int))
 | [],_,s=>by show _=_;simp
 | x::l,H,s=>by
  show (f (c x) (.int (s:Int))).run _;refine W.mono _ (λr hr=>?_) (H x (.head _) s);subst hr;have:=Hw l (λy hy=>H y (.tail _ hy)) (s+h x);rw [Bi] at this;exact this
def vN (C:Nat->Nat->Nat) (o:Op):Nat:=(o.es.map λe=>C e.1 e.2).foldl (·*·) 1
def Gq {γ:Type} (f:α->β->γ) (l:List α) (m:List β):(l.flatMap λx=>m.map (f x)).length=l.length*m.length:=by
 induction l with
 | nil=>simp
 | cons x l ih=>rw [Bu,Ah,ih,Af,Ap,Ee,Nat.add_comm]
def aac (G:WG g ws) (hn:rM g t) (hj:j < t.size) (hi:i < g.length):((Qj g [] (en t 0 j) i++YN g [] i j).map (vN (cN g t))).sum=cN g t j i:=by
 show _=(mC g t j i).length;rw [xa G hn hj hi,Ah,Az,List.sum_append];congr 1
 ·cases en t 0 j with
  | word w=>
   unfold Qj wD;simp only
   split <;> rfl
  | pair a b=>
   unfold Qj wD;simp only;rw [Ax,Dh];congr 1;refine Be λd _=>?_;rw [Gq];show 1*cN g t a d.2.1*cN g t b d.2.2=_;rw [Fu];rfl
 ·unfold YN;rw [Ax,Dh];congr 1;refine Be λu _=>?_;rw [Af];show 1*cN g t j u=_;rw [Fu];rfl
def Bit (g:List Sy) (t:Tr):Prop:=∀j i,j < t.size->i < g.length->Builtin.Int.intBits ((cN g t j i:Nat):Int)<=2 ^ 20
def GK:wE 1 b:=IntMulOk.of_left (intBits_le_64 ⋯ ⋯)
def T3 {C:Nat->Nat->Nat}{o:Op} (hl:o.es.length<=2) (hk:∀e∈o.es,cL kvs (kk e.1 e.2)=ap (.int (C e.1 e.2:Int))/\Builtin.Int.intBits ((C e.1 e.2:Nat):Int)<=2 ^ 20) (q:Q (.int (vN C o:Int))):(bz (o.es.map eP) (.int 1) λpe Tv=>(
 am (b2 kI (bd Tv) (pe\λMr=>am (tY Mr) λk27=>W.Im (cL kvs k27))) λgD=>
 bd gD)).run Q:=by
 have ek:∀e:Nat×Nat,tY (eP e)=.ret (kk e.1 e.2):=λe=>rfl;have q:Q (.int ((((o.es.map λe=>C e.1 e.2).foldl (·*·) 1:Nat)):Int)):=q
 match o.es,hl,hk,q with
 | [],_,_,q=>exact q
 | [e],_,hk,q=>
  have k1:=hk e (.head _);simp only [Aq,Cz,bz,ga,ek,k1.1,u8,yO,lc GK,gl];rw [Int.one_mul];have e1:([e].map λe=>C e.1 e.2).foldl (·*·) 1=C e.1 e.2:=Fu _;rw [e1] at q;exact q
 | [e,f],_,hk,q=>
  have k1:=hk e (.head _);have k2:=hk f (.tail _ (.head _));simp only [Aq,Cz,bz,ga,ek,k1.1,k2.1,u8,yO,lc GK,gl,Int.one_mul,lc (IntMulOk.of_bits k1.2 k2.2)];have e1:([e,f].map λe=>C e.1 e.2).foldl (·*·) 1=C e.1 e.2*C f.1 f.2:=by show 1*_*_=_;rw [Fu]
  rw [e1,Int.natCast_mul] at q;exact q
def og (g:List Sy) (t:Tr):Nat:=((Aw t.size).map λj=>((Aw g.length).map (cN g t j)).sum).sum
theorem OW (j:Nat):∀(r:List OI) (i:Nat),(G3 j i r).map (·.2)=r.map oP
 | [],_=>rfl
 | x::r,i=>by rw [G3,Aq,OW j r (i+1)];rfl
theorem OX:∀(T:List (List OI)) (j:Nat),(se j T).map (·.2)=(T.map λr=>r.map oP).flatten
 | [],_=>rfl
 | r::T,j=>by rw [se,Az,OW,OX T (j+1)];rfl
theorem OV (g:List Sy) (t:Tr):kR ((se 0 (cT g t t.size)).map (·.2))=.ret (.int (og g t:Int)):=by
 have e:((cT g t t.size).map λr=>r.map oP).flatten=(((Aw t.size).map λj=>(Aw g.length).map λi=>(cN g t j i:Int)).flatten).map PV.int:=by
  rw [List.map_flatten,Ax];unfold cT;rw [Ax];congr 1;refine Be λj _=>?_;show (cR g t j g.length).map oP=_;unfold cR;rw [Ax];show _=((Aw g.length).map λi=>(cN g t j i:Int)).map PV.int;rw [Ax];rfl
 rw [OX,e];unfold kR;rw [eO];simp only [ga];congr 2;have h1:∀l:List Nat,(l.map λn:Nat=>(n:Int)).sum=((l.sum:Nat):Int):=λl=>by
  induction l with
  | nil=>rfl
  | cons a l ih=>rw [Aq,BL,ih,BL];omega
 have h0:∀a b:List Int,(a++b).sum=a.sum+b.sum:=λa b=>by
  induction a with
  | nil=>rw [Dm,FW,Dz]
  | cons x a ih=>rw [BF,BL,ih,BL,Int.add_assoc]
 have h2:∀L:List (List Int),L.flatten.sum=(L.map List.sum).sum:=λL=>by
  induction L with
  | nil=>rfl
  | cons a L ih=>rw [B1,h0,ih,Aq,BL]
 unfold og;rw [<- h1,Ax,h2,Ax];congr 1;refine Be λj _=>?_;show ((Aw g.length).map λi=>(cN g t j i:Int)).sum=((((Aw g.length).map (cN g t j)).sum:Nat):Int);rw [<- h1,Ax];rfl
theorem UO (G:WG g ws) (hn:rM g t) (hb:Bit g t) (hz:t.size<=20):(fU (kC g) (.cl ((t.nd 0).map Ent.pv))).le (.ret (.int (og g t:Int))):=λQ q=>by
 unfold fU;have hg:=G.len;have el:qf df [kC g]=.ret (.int (g.length:Int)):=by simp [kC]
 simp only [ga,ci,fD,eM,gl,cP,lc (bh (i:=0) (j:=(t.size:Int)) ∅ ∅),AW];refine fc (λj s=>s=se 0 (cT g t j)) rfl (λj s hj hs=>?_) (λs hs=>by subst hs;rw [OV];exact q);subst hs;simp only [el,ga,ci,gl,cP,lc (bh (i:=0) (j:=(g.length:Int)) ∅ ∅),AW];have ff:=ph t hj;rw [VV];refine fc (λi s=>s=se 0 (cT g t j++[cR g t j i])) (by rw [oY];exact (Cs _).symm) (λi s hi hs=>?_) (λs hs=>hs);subst hs;have ğ:=Kz g t j i;have eT:=aab g t j;simp only [ci];refine W.le.use (Ju G (gU t 0 j hj) hi) ?_;simp only [iM,ga,gl,ci,Nj hi];rw [<- YO g [],<- YM g []];have l1:(Qj g [] (en t 0 j) i).length<=63:=by
  have:=(Qi g [] (λ_ _=>bm) (en t 0 j) i).length_eq;rw [Af] at this;rw [this];cases en t 0 j with
  | word w=>show (if hm g i w=true then [ap 0] else []).length<=63;split <;> simp
  | pair a b=>show ((dl g i).map _).length<=63;rw [Af];exact za G hi
 have l2:(YN g [] i j).length<=2:=by unfold YN;rw [Af];exact G.q9 i hi
 rw [gj (by rw [Af,Af];omega),<- Az];simp only [gl,ga];have gt:∀a x,a < j->x < g.length->cL (se 0 (cT g t j++[cR g t j i])) (kk a x)=ap (.int (cN g t a x:Int)):=λa x ha hx=>by
  have:=yu (cT g t j++[cR g t j i]) 0 a x (by simp;omega) (by rw [jC ∅,Xl g t ha,Kz];exact hx);rw [AI,TB ∅] at this;rw [this];unfold rg;rw [Xl g t ha,Xm g t a hx];rfl
 have gt2:∀u,u < i->cL (se 0 (cT g t j++[cR g t j i])) (kk j u)=ap (.int (cN g t j u:Int)):=λu hu=>by
  have:=yu (cT g t j++[cR g t j i]) 0 j u (by simp;omega) (by rw [gK ∅,eT,CP];show u < (cR g t j i).length;rw [ğ];exact hu);rw [AI] at this;rw [this];have e:rg (cT g t j++[cR g t j i]) j u=(cR g t j i).getD u bm:=by
   have:=Tz (T:=cT g t j) (r:=cR g t j i) (i:=u);rw [eT] at this;exact this
  rw [e,Xm g t j hu];rfl
 refine W.mono _ (λr hr=>?_) (Hw (c:=Op.pv) (h:=vN (cN g t)) (Qj g [] (en t 0 j) i++YN g [] i j) (λo ho s=>?_) 0)
 ·rw [AI,aac G hn hj hi] at hr;subst hr;have ek:tY (.tup [.int (j:Int),.int (i:Int)])=.ret (kk j i):=rfl;have gn:cL (se 0 (cT g t j++[cR g t j i])) (kk j i)=bm:=adl _ _ _ λm n hm hn z=>by
   obtain⟨z1,z2⟩:=Jv z;rw [AI] at z1;subst z1 z2;rw [gK ∅,eT,CP] at hn;have hn:i < (cR g t j i).length:=hn;omega
  have ł:(se 0 (cT g t j++[cR g t j i])).length < sizeLine:=by
   rw [LP];have h1:∀x∈(cT g t j++[cR g t j i]).map BS,x<=300:=λx hx=>by
    obtain⟨r,hr,rfl⟩:=Ar.mp hx;rcases A9.mp hr with hr | hr
    ·obtain⟨m,hm,rfl⟩:=Ar.mp hr;rw [Kz];omega
    ·rw [A8.mp hr];omega
   have h2:=sT h1;rw [Af,Ah,DK,eT] at h2;have h3:(j+1)*300<=401*300:=Cy _ ∅;have h4:(401*300:Nat) < sizeLine:=by decide
   omega
  unfold PN;simp only [ek,ga,lc ł,TX gn,gl];rw [VW,oY,oY,G1,ğ,AI,AI,eT,AA];rfl
 ·simp only [Op.pv,lF,ga,bU,ci];refine T3 (C:=cN g t) ?_ ?_ ?_
  ·rcases A9.mp ho with ho | ho
   ·revert ho;cases en t 0 j with
    | word w=>
     intro ho;have ho:o∈(if hm g i w=true then [(⟨.aN,0,[]⟩:Op)] else []):=ho
     split at ho
     ·rw [A8.mp ho];simp
     ·cases ho
    | pair a b=>
     intro ho;obtain⟨d,hd,rfl⟩:=Ar.mp ho;simp
   ·obtain⟨u,hu,rfl⟩:=Ar.mp ho;simp
  ·intro e he;rcases A9.mp ho with ho | ho
   ·revert ho ff;cases h:en t 0 j with
    | word w=>
     intro _ ho;have ho:o∈(if hm g i w=true then [(⟨.aN,0,[]⟩:Op)] else []):=ho
     split at ho
     ·rw [A8.mp ho] at he;cases he
     ·cases ho
    | pair a b=>
     intro nA ho;have nA:a < j/\b < j:=nA;obtain⟨d,hd,rfl⟩:=Ar.mp ho;obtain⟨h1,h2⟩:=nr G hi hd;have he:e∈[(a,d.2.1),(b,d.2.2)]:=he;simp at he;rcases he with rfl | rfl
     ·exact⟨gt _ _ nA.1 h1,hb _ _ ∅ h1⟩
     ·exact⟨gt _ _ nA.2 h2,hb _ _ ∅ h2⟩
   ·obtain⟨u,hu,rfl⟩:=Ar.mp ho;have he:e∈[(j,u)]:=he;rw [A8.mp he];have:=G.dn i hi u hu;exact⟨gt2 u this,hb _ _ hj ∅⟩
  ·simp only [dH,gl];rw [Int.natCast_add]
def Xn (G:WG g ws) (hn:rM g t) (hj:j < t.size) (hi:i < g.length):cN g t j i=(wD g (mC g t) (en t 0 j) i).length+((sy g i).un.map (cN g t j)).sum:=by
 show (mC g t j i).length=_;rw [xa G hn hj hi,Ah,Dh];congr 2;exact Be λu _=>Af _
def Qg (g:List Sy) (t:Tr) (a b i:Nat):(wD g (mC g t) (.pair a b) i).length=((Qz g i).map λd=>cN g t a d.2.1*cN g t b d.2.2).sum:=by
 unfold wD;simp only;rw [Dh];congr 1;exact Be λd _=>Gq _ _ _
theorem adX (G:WG g ws) (hn:rM g t) (h30:g.length<=30):∀j i,j < t.size->i < g.length->cN g t j i<=2 ^ (2*i+130*3 ^ j):=QU λj i hj hi Q8 SN=>by
 have own:(wD g (mC g t) (en t 0 j) i).length<=2 ^ (130*3 ^ j):=by
  have ff:=ph t hj;revert ff;cases en t 0 j with
  | word w=>
   intro _;show (if hm g i w=true then [WT.lf [] i] else []).length<=_;have:=Nat.one_le_two_pow (n:=130*3 ^ j)
   split <;> simp <;> omega
  | pair a b=>
   intro nA;have nA:a < j/\b < j:=nA;rw [Qg];cases j with
   | zero=>omega
   | succ k=>
    have h3:∀c,c < k+1->3 ^ c<=3 ^ k:=λc hc=>Bn ∅ ∅;have one:3 ^ 0<=3 ^ k:=Bn (show 0 < 3 by omega) (Bc k);have bnd:∀c x,c < k+1->x < g.length->cN g t c x<=2 ^ (60+130*3 ^ k):=λc x hc hx=>by
     refine AV (Q8 c x hc hx) (Bn ∅ ?_);have:=h3 c hc;omega
    have hs:=sT (l:=(Qz g i).map λd=>cN g t a d.2.1*cN g t b d.2.2) (m:=2 ^ (60+130*3 ^ k)*2 ^ (60+130*3 ^ k)) λx hx=>by
     obtain⟨d,hd,rfl⟩:=Ar.mp hx;obtain⟨h1,h2⟩:=nr G hi hd;exact Es (bnd _ _ nA.1 h1) (bnd _ _ nA.2 h2)
    refine AV hs ?_;rw [Af,(jz g i).length_eq,<- F3];refine AV (Cy _ (show (dl g i).length<=2 ^ 6 from AV (za G hi) ⋯)) ?_;rw [<- F3];refine Bn ∅ ?_;rw [FV];omega
 rw [Xn G hn hj hi];generalize 130*3 ^ j=e at own SN ⊢;cases i with
 | zero=>
  have:(sy g 0).un=[]:=by
   cases h:(sy g 0).un with
   | nil=>rfl
   | cons u l=>have:=G.dn 0 hi u (by rw [h];exact .head _);omega
  rw [this];simpa using own
 | succ k=>
  have hs:=sT (l:=(sy g (k+1)).un.map (cN g t j)) (m:=2 ^ (2*k+e)) λx hx=>by
   obtain⟨u,hu,rfl⟩:=Ar.mp hx;have hu:=G.dn _ hi u hu;refine AV (SN u hu) (Bn ∅ ∅)
  rw [Af] at hs;have h2:=Cy (2 ^ (2*k+e)) (G.q9 _ hi);have h3:2 ^ e<=2 ^ (2*k+e):=Bn ∅ ∅;have h4:2 ^ (2*(k+1)+e)=4*2 ^ (2*k+e):=by
   rw [show 2*(k+1)+e=2+(2*k+e) by omega,F3]
  omega
theorem aae (G:WG g ws) (hn:rM g t) (h30:g.length<=30) (hz:t.size<=7):Bit g t:=λj i hj hi=>by
 have h:=adX G hn h30 j i hj hi;have h3:3 ^ j<=3 ^ 6:=Bn ∅ ∅;have h3:3 ^ j<=729:=h3;refine AV (m:=2*i+130*3 ^ j+1) (intBits_le_iff.mpr ?_) ?_
 ·rw [Int.natAbs_natCast,FV];have:=Nat.two_pow_pos (2*i+130*3 ^ j);omega
 ·have:(2:Nat) ^ 20=1048576:=by decide
  omega
theorem GZ (G:WG g ws) (Lo:Xq g) (w:Str):og g (.leaf w)<=600:=by
 have hl:=Lo.len;have hs:(Tr.leaf w).size=1:=rfl;have hn:rM g (Tr.leaf w):=⟨⟨Lo⟩,by rw [hs];omega⟩;have key:∀k i,i < k->i < g.length->cN g (.leaf w) 0 i<=2 ^ Lo.ht i:=λk=>by
  induction k with
  | zero=>intro i h;omega
  | succ k ih=>
   intro i hk hi;rw [Xn G hn (by rw [hs];omega) hi];have e0:en (.leaf w) 0 0=.word w:=rfl;have eD:wD g (mC g (.leaf w)) (en (.leaf w) 0 0) i=if hm g i w=true then [.lf [] i] else []:=by rw [e0];rfl
   rw [eD];have eh:hm g i w=((sy g i).un.isEmpty&&vj w (sy g i).nm):=rfl;have one:=Nat.one_le_two_pow (n:=Lo.ht i);cases hu:(sy g i).un with
   | nil=>split <;> simp <;> omega
   | cons u r=>
    rw [hu] at eh;have eh:hm g i w=false:=eh;rw [eh,<- hu];have ff:∀x∈(sy g i).un,Lo.ht x < Lo.ht i:=Lo.dn i hi;have h0:=ff u (by rw [hu];exact .head _);have WZ:=sT (l:=(sy g i).un.map (cN g (.leaf w) 0)) (m:=2 ^ (Lo.ht i-1)) λx hx=>by
     obtain⟨v,hv,rfl⟩:=Ar.mp hx;have h1:=ff v hv;have h2:=G.dn i hi v hv;exact AV (ih v ∅ ∅) (Bn ∅ ∅)
    rw [Af] at WZ;have h2:=Cy (2 ^ (Lo.ht i-1)) (G.q9 _ hi);have h3:2 ^ (Lo.ht i)=2*2 ^ (Lo.ht i-1):=by
     rw [show Lo.ht i=(Lo.ht i-1)+1 by omega,FV,Nat.mul_comm];simp
    simp only [Av,if_false,Bk];omega
 have e:og g (.leaf w)=((Aw g.length).map (cN g (.leaf w) 0)).sum:=by
  unfold og;rw [hs];show (((Aw g.length).map (cN g (.leaf w) 0)).sum::[]).sum=_;simp
 rw [e];have WZ:=sT (l:=(Aw g.length).map (cN g (.leaf w) 0)) (m:=2 ^ Lo.top) λx hx=>by
  obtain⟨i,hi,rfl⟩:=Ar.mp hx;have hi:=AX.mp hi;exact AV (key (i+1) i ∅ hi) (Bn ∅ (Lo.le i hi))
 rw [Af,CA] at WZ;exact AV WZ Lo.few
theorem Vx (h:og g t<=600):∀j i,j < t.size->i < g.length->(mC g t j i).length<=600:=λj i hj hi=>by
 have s1:∀(l:List Nat) x,x∈l->x<=l.sum:=λl x hx=>by
  induction l with
  | nil=>cases hx
  | cons a l ih=>
   rw [BL];rcases AD.mp hx with rfl | hx
   ·omega
   ·have:=ih hx;omega
 have h1:=s1 _ _ (Ar.mpr ⟨i,AX.mpr hi,rfl⟩:cN g t j i∈(Aw g.length).map (cN g t j));have h2:=s1 _ _ (Ar.mpr ⟨j,AX.mpr hj,rfl⟩:((Aw g.length).map (cN g t j)).sum∈(Aw t.size).map λj=>((Aw g.length).map (cN g t j)).sum);exact AV h1 (AV h2 h)
theorem Vw (q:∀(g:List Sy) (ws:List Str) (t:Tr) (ps:List Int),WG g ws->rM g t->og g t<=600->ps.length=4->Q (.tup [kC g,t.pv,.cl ((t.nd 0).map Ent.pv),.tup (bp ps)])):(hE (.int 4)).run Q:=by
 unfold hE;simp only [ga,ci];refine JP λt0 ws G hp h4=>?_;simp only [lF,gl];refine IG G h4 λg wg Lo=>?_;have hl:=hp.length_eq;have:=t0.jV;have g30:=Lo.len;refine IK (λz=>by rw [z,Bk] at hl;omega) ∅ ⋯ ⋯ λs0 hs hn=>?_;simp only [cP,lc (bh (i:=0) (j:=3) ∅ ∅),gl];have fz:∀s:Tr,s.ay.length<=4->s.size<=7/\rM g s/\s.depth < 12:=λs h=>by
  have h1:=s.size_eq;have h2:=s.lH;exact⟨by omega,⟨⟨Lo⟩,by omega⟩,by omega⟩
 refine fc (n:=3) (λk s=>∃t:Tr,s=t.pv/\t.ay.length<=4/\(t.depth+k<=3\/og g t<=600)) ⟨s0,rfl,by omega,.inl (by have:=s0.lH;omega)⟩ ?_ ?_
 ·rintro k s hk ⟨t,rfl,tl,ht⟩;obtain⟨z1,z2,z3⟩:=fz t tl;simp only [ga,ci];refine W.le.use (hU 12 t z3 ∅) ?_;simp only [gl];refine W.le.use (UO wg z2 (aae wg z2 g30 z1) ∅) ?_;simp only [adC,bL,gl];by_cases c:og g t<=600
  ·have c2:decide (600 < (og g t:Int))=false:=decide_eq_false ∅;rw [c2];exact⟨t,rfl,tl,.inr c⟩
  ·have c2:decide (600 < (og g t:Int))=true:=decide_eq_true ∅;rw [c2];simp only [if_true,ci]
   match t,tl,ht,c with
   | .leaf w,_,_,c=>exact absurd (GZ wg Lo w) c
   | .node l r,tl,ht,c=>
    have ht:(Tr.node l r).depth+k<=3:=ht.resolve_right c;have hd:(Tr.node l r).depth=max l.depth r.depth+1:=rfl;have Ø:(Tr.node l r).ay.length=l.ay.length+r.ay.length:=by show (l.ay++r.ay).length=_;rw [Ah]
    simp only [dG 2 ⋯ ⋯,Tr.pv,aG,gl];refine bO λd d0 d1=>?_;have:d=0\/d=1:=by omega
    rcases this with rfl | rfl
    ·have i0:cF [l.pv,r.pv] 0=ap l.pv:=rfl;simp only [bF,i0,u8,gl];exact⟨l,rfl,by omega,.inl ∅⟩
    ·have i0:cF [l.pv,r.pv] 1=ap r.pv:=rfl;simp only [bF,i0,u8,gl];exact⟨r,rfl,by omega,.inl ∅⟩
 ·rintro s ⟨t,rfl,tl,ht⟩;obtain⟨z1,z2,z3⟩:=fz t tl;have hf:og g t<=600:=by
   rcases ht with ht | ht
   ·match t,ht with
    | .leaf w,_=>exact GZ wg Lo w
    | .node l r,ht=>
     have hd:(Tr.node l r).depth=max l.depth r.depth+1:=rfl;omega
   ·exact ht
  refine W.le.use (hU 12 t z3 ∅) ?_;refine Gr λps p4 p0=>?_;exact q g _ t ps wg z2 hf p4
def cst (g:List Sy) (ps:List Int):WT->Int
 | .lf p _=>(p.map (jt g ps)).sum
 | .nd p _ nm a b=>(p.map (jt g ps)).sum+P1 ps nm+cst g ps a+cst g ps b
theorem Mf (g:List Sy) (ps:List Int) (k:Nat) (w:WT):cst g ps (ID k w)=jt g ps k+cst g ps w:=by
 cases w with
 | lf p i=>show ((k::p).map (jt g ps)).sum=_;rw [Aq,BL];rfl
 | nd p i nm a b=>
  show ((k::p).map (jt g ps)).sum+_+_+_=jt g ps k+((p.map (jt g ps)).sum+_+_+_);rw [Aq,BL];omega
theorem Qu {A B:List OI} (h1:∀v,ap v∈A->∃u,ap u∈B/\u<=v) (h2:∀v,ap v∈B->∃u,ap u∈A/\u<=v):gV A=gV B:=by
 cases ha:gV A with
 | none=>
  cases hb:gV B with
  | none=>rfl
  | some m=>
   obtain⟨u,hu,_⟩:=h2 m (oM hb);obtain⟨x,hx,_⟩:=rY hu;rw [ha] at hx;cases hx
 | some m=>
  obtain⟨u,hu,l1⟩:=h1 m (oM ha);obtain⟨x,hx,l2⟩:=rY hu;obtain⟨y,hy,l3⟩:=h2 x (oM hx);obtain⟨z,hz,l4⟩:=rY hy;rw [ha] at hz;cases hz;rw [hx];congr 1;omega
abbrev qW (g:List Sy) (ps:List Int) (t:Tr) (j i:Nat):List OI:=(mC g t j i).map λw=>ap (cst g ps w)
def mq:ap v∈qW g ps t j i↔∃w∈mC g t j i,cst g ps w=v:=by
 constructor
 ·intro h;obtain⟨w,hw,e⟩:=Ar.mp h;exact⟨w,hw,Option.some.inj e⟩
 ·rintro⟨w,hw,rfl⟩;exact Ar.mpr ⟨w,hw,rfl⟩
theorem OP (G:WG g ws) (ps:List Int) (hn:rM g t):∀j i,j < t.size->i < g.length->gV (qW g ps t j i)=rg (fg g ps (t.nd 0) t.size) j i:=QU λj i hj hi Q8 SN=>by
 rw [XR G ps hj hi];have ff:=ph t hj;have eq:=xa G hn hj hi;generalize rg (fg g ps (t.nd 0) t.size)=R at Q8 SN ⊢;have á:∀a x,gV (qW g ps t a x)=R a x->∀w∈mC g t a x,∃m,R a x=ap m/\m<=cst g ps w:=λa x e w hw=>by
  rw [<- e];exact rY (mq.mpr ⟨w,hw,rfl⟩)
 have Ê:∀a x v,gV (qW g ps t a x)=R a x->R a x=ap v->∃w∈mC g t a x,cst g ps w=v:=λa x v e h=>by
  rw [<- e] at h;exact mq.mp (oM h)
 refine Qu (λv hv=>?_) (λv hv=>?_)
 ·obtain⟨w,hw,rfl⟩:=mq.mp hv;rw [eq] at hw;rcases A9.mp hw with hw | hw
  ·revert hw ff;cases en t 0 j with
   | word x=>
    intro _ hw;have hw:w∈(if hm g i x=true then [WT.lf [] i] else []):=hw
    split at hw
    ·rename_i hh;rw [A8.mp hw];exact⟨0,Cd _ (by show ap 0∈(if hm g i x=true then [ap 0] else []);rw [if_pos hh];exact .head _),C9 _⟩
    ·cases hw
   | pair a b=>
    intro nA hw;have nA:a < j/\b < j:=nA;obtain⟨d,hd,hw⟩:=BE.mp hw;obtain⟨one,h1,hw⟩:=BE.mp hw;obtain⟨o,h2,rfl⟩:=Ar.mp hw;obtain⟨x1,x2⟩:=nr G hi hd;obtain⟨m1,e1,l1⟩:=á _ _ (Q8 a _ nA.1 x1) one h1;obtain⟨m2,e2,l2⟩:=á _ _ (Q8 b _ nA.2 x2) o h2;refine⟨P1 ps d.1+(m1+m2),Cd _ (Ar.mpr ⟨d,(jz g i).mem_iff.mp hd,?_⟩),?_⟩
    ·unfold uA;rw [e1,e2,abB]
    ·show _<=([].map (jt g ps)).sum+P1 ps d.1+cst g ps one+cst g ps o;simp only [Cz,FW];omega
  ·obtain⟨u,hu,hw⟩:=BE.mp hw;obtain⟨v',ĝ,rfl⟩:=Ar.mp hw;obtain⟨m,e1,l1⟩:=á _ _ (SN u (G.dn i hi u hu)) v' ĝ;refine⟨jt g ps i+m,AY _ (Ar.mpr ⟨u,hu,?_⟩),?_⟩
   ·rw [e1,sum2]
   ·rw [Mf];omega
 ·have mk:∀w∈wD g (mC g t) (en t 0 j) i++(sy g i).un.flatMap λu=>(mC g t j u).map (ID i),cst g ps w=v->∃u,ap u∈qW g ps t j i/\u<=v:=λw hw e=>⟨v,mq.mpr ⟨w,by rw [eq];exact hw,e⟩,C9 _⟩;rcases A9.mp hv with hv | hv
  ·revert hv ff mk;cases en t 0 j with
   | word x=>
    intro _ mk hv;have hv:ap v∈(if hm g i x=true then [ap 0] else []):=hv
    split at hv
    ·rename_i hh;have:=Option.some.inj (A8.mp hv);exact mk (.lf [] i) (Cd _ (by show _∈(if hm g i x=true then [WT.lf [] i] else []);rw [if_pos hh];exact .head _)) (by rw [this];rfl)
    ·cases hv
   | pair a b=>
    intro nA mk hv;have nA:a < j/\b < j:=nA;obtain⟨d,hd,e⟩:=Ar.mp hv;have hd:=(jz g i).mem_iff.mpr hd;obtain⟨x1,x2⟩:=nr G hi hd;obtain⟨b1,c1,e1,e2,e3⟩:=Tb e;obtain⟨one,h1,f1⟩:=Ê _ _ _ (Q8 a _ nA.1 x1) e1;obtain⟨o,h2,f2⟩:=Ê _ _ _ (Q8 b _ nA.2 x2) e2;refine mk (.nd [] i d.1 one o) (Cd _ (BE.mpr ⟨d,hd,BE.mpr ⟨one,h1,Ar.mpr ⟨o,h2,rfl⟩⟩⟩)) ?_;show ([].map (jt g ps)).sum+P1 ps d.1+cst g ps one+cst g ps o=v;rw [f1,f2,e3];simp only [Cz,FW];omega
  ·obtain⟨u,hu,e⟩:=Ar.mp hv;obtain⟨b1,e1,e2⟩:=Tc e;obtain⟨w,hw,f⟩:=Ê _ _ _ (SN u (G.dn i hi u hu)) e1;refine mk (ID i w) (AY _ (BE.mpr ⟨u,hu,Ar.mpr ⟨w,hw,rfl⟩⟩)) ?_;rw [Mf,f,e2]
theorem Me (p:List Nat) (i:Nat):rJ (aE (p++[i])) bm (ap (-1))=aE p:=by
 rw [Qs];have e:HT.d9 (aE p++aE [i]).length (aE p++aE [i]).length (ap (-1))=(aE p).length:=by
  simp [HT.d9];try omega
 unfold rJ;rw [HT.Gi,e];simp
def S9 (g:List Sy) (ps:List Int):∀p:List Nat,kR (p.filterMap λk=>if (sy g k).un.length=2 then ap (PV.int (ps.getD 3 0)) else bm)=.ret (.int (p.map (jt g ps)).sum):=λp=>by
 have e:(p.filterMap λk=>if (sy g k).un.length=2 then ap (PV.int (ps.getD 3 0)) else bm)=(p.filterMap λk=>if (sy g k).un.length=2 then ap (ps.getD 3 0) else bm).map PV.int:=by
  rw [Ey];congr 1;funext k
  split <;> rfl
 rw [e];unfold kR;rw [eO];simp only [ga];congr 2
 induction p with
 | nil=>rfl
 | cons k p ih=>
  rw [Ba,Aq,BL];unfold jt;by_cases c:(sy g k).un.length=2
  ·simp only [c,if_true,BL];rw [ih (by rw [Ey];congr 1;funext k;split <;> rfl)];rfl
  ·simp only [c,if_false];rw [ih (by rw [Ey];congr 1;funext k;split <;> rfl),Dz];rfl
theorem O0 (p4:ps.length=4) {p:List Nat} (hp:∀k∈p,k < g.length):(am (nu (aE p) λp6=>QD (t2 fM (c1 df (bB (am (bB (am (bd (kC g)) aw) (bd p6)) aw) (bd (.int 2)))) (bd (.int 2))) (bB (am (bd (.tup (bp ps))) aw) (bd (.int 3)))) kR).le (.ret (.int (p.map (jt g ps)).sum)):=λQ q=>by
 simp only [ci];refine QA (c:=λn:Nat=>PV.int (n:Int)) (λk=>if (sy g k).un.length=2 then ap (PV.int (ps.getD 3 0)) else bm) (λk hk=>?_) ?_
 ·have gi:=JV (hp k hk);have es:aw (kC g)=.ret (g.map Sy.pv):=rfl;have i2:cF [(sy g k).nm,PV.int (sy g k).lv,.tup (aE (sy g k).un),.tup (aE (sy g k).be)] 2=ap (.tup (aE (sy g k).un)):=rfl;have i3:cF (bp ps) 3=ap (.int (ps.getD 3 0)):=wY p4 (k:=3) ∅;intro Q q;simp only [ga,es,gi,Sy.pv,aG,bF,i2,i3,u8,fC,cf,ir,bL];by_cases c:(sy g k).un.length=2
  ·have c2:(((sy g k).un.length:Int)==2)=true:=by simp [c]
   rw [c2];rw [if_pos c] at q;exact q
  ·have c2:(((sy g k).un.length:Int)==2)=false:=by simp;omega
   rw [c2];rw [if_neg c] at q;exact q
 ·rw [S9];exact q
def Zp (nm:Str):Hf (.str nm) [.str "split",.str "doubled",.str "over"]:=by
 simp [Hf]
theorem adR (p4:ps.length=4) {nm:Str} (h:Nz nm):am (ND [.str "split",.str "doubled",.str "over"] (.str nm)) (Vc (bp ps))=.ret (.int (P1 ps nm)):=by
 have a0:cF (bp ps) 0=ap (.int (ps.getD 0 0)):=wY p4 (k:=0) ∅;have a1:cF (bp ps) 1=ap (.int (ps.getD 1 0)):=wY p4 (k:=1) ∅;have a2:cF (bp ps) 2=ap (.int (ps.getD 2 0)):=wY p4 (k:=2) ∅;rcases h with rfl | rfl | rfl
 ·have e:ND [.str "split",.str "doubled",.str "over"] (.str "split")=.ret (.int 0):=lc ⟨Zp _,by decide⟩;rw [e];simp only [ga,bF,a0,u8];rfl
 ·have e:ND [.str "split",.str "doubled",.str "over"] (.str "doubled")=.ret (.int 1):=lc ⟨Zp _,by decide⟩;rw [e];simp only [ga,bF,a1,u8];rfl
 ·have e:ND [.str "split",.str "doubled",.str "over"] (.str "over")=.ret (.int 2):=lc ⟨Zp _,by decide⟩;rw [e];simp only [ga,bF,a2,u8];rfl
def Xb (a b:Str):of2 fM (.str a) (.str b)=.ret (.bl (a==b)):=by rw [wG,lc ⟨by simp,by simp,by simp⟩,RI]
theorem zh (p4:ps.length=4):∀(n:Nat) (w:WT),w.depth < n->wf g w->(bM n (kC g) (.tup (bp ps)) w.pv).le (.ret (.int (cst g ps w)))
 | 0,_,h,_=>absurd h (Dl _)
 | n+1,.lf p i,_,hw=>λQ q=>by
  unfold bM;have i0:cF [PV.tup (aE (p++[i])),.str "found"] 0=ap (.tup (aE (p++[i]))):=rfl;have i1:cF [PV.tup (aE (p++[i])),.str "found"] 1=ap (.str "found"):=rfl;simp only [WT.pv,ga,aG,bF,i0,i1,u8,yN,sj,J5,Me,ci];refine O0 (g:=g) p4 hw _ ?_;simp only [gl,Xb,beq_self_eq_true,bL,if_true];exact q
 | n+1,.nd p i nm a b,hd,hw=>λQ q=>by
  unfold bM;have hdp:max a.depth b.depth+1 < n+1:=hd;have i0:cF [PV.tup (aE (p++[i])),.str nm,a.pv,b.pv] 0=ap (.tup (aE (p++[i]))):=rfl;have i1:cF [PV.tup (aE (p++[i])),.str nm,a.pv,b.pv] 1=ap (.str nm):=rfl;have i2:cF [PV.tup (aE (p++[i])),.str nm,a.pv,b.pv] 2=ap a.pv:=rfl;have i3:cF [PV.tup (aE (p++[i])),.str nm,a.pv,b.pv] 3=ap b.pv:=rfl;simp only [WT.pv,ga,aG,bF,i0,i1,i2,i3,u8,yN,sj,J5,Me,ci];refine O0 (g:=g) p4 hw.1 _ ?_;have nf:(nm==("found":Str))=false:=by
   rcases hw.2.1 with rfl | rfl | rfl <;> decide
  simp only [gl,Xb,nf,bL,Av,if_false];have dx:=adR p4 hw.2.1;simp only [dx,ga,dH,ci];refine W.le.use (zh p4 n a ∅ hw.2.2.1) ?_;simp only [dH,gl];refine W.le.use (zh p4 n b ∅ hw.2.2.2) ?_;simp only [dH,gl];exact q
theorem Nw:dc=fZ:=rfl
def M6 (g:List Sy) (ps:List Int) (t:Tr) (j i:Nat):(uR (qW g ps t j i)).map PV.int=(mC g t j i).map λw=>PV.int (cst g ps w):=by
 unfold uR qW;rw [List.filterMap_map];show ((mC g t j i).filterMap λw=>ap (cst g ps w)).map PV.int=_;rw [List.filterMap_eq_map',Ax];rfl
theorem VN (G:WG g ws) (p4:ps.length=4) (hn:rM g t) (hB:og g t<=600):(e7 (kC g) (.cl ((t.nd 0).map Ent.pv)) (.tup (bp ps))).le (.ret (.tup (rP (fg g ps (t.nd 0) t.size)))):=λQ q=>by
 unfold e7;obtain⟨⟨Lo⟩,hz⟩:=id hn;have hg:=G.len;have el:qf df [kC g]=.ret (.int (g.length:Int)):=by simp [kC]
 have Wd:=pT g ps (t.nd 0) t.size;have ð:=OP G ps hn;generalize fg g ps (t.nd 0) t.size=T at q Wd ð;simp only [ga,ci,O1,gl,cP,lc (bh (i:=0) (j:=(t.size:Int)) ∅ ∅),AW];refine fc (λj s=>s=rP (T.take j)) (by simp [rP]) (λj s hj hs=>?_) (λs hs=>?_)
 ·subst hs;have Rh:j < T.length:=by rw [Wd.len];exact hj
  simp only [el,ga,ci,gl,cP,lc (bh (i:=0) (j:=(g.length:Int)) ∅ ∅),AW];refine fc (λi s=>s=((T.getD j []).take i).map oP) rfl (λi s hi hs=>?_) (λs hs=>?_)
  ·subst hs;have hb:=Lo.le i hi;have hb2:=Lo.six;simp only [ci];refine W.le.use (Ss G Lo hn (Vx hB) 50 j i hj hi ∅) ?_;simp only [bU,gl];refine iH (c:=WT.pv) (λw=>PV.int (cst g ps w)) (λw hw=>?_) ?_
   ·have r:=zT G t 50 j i hj hi w hw;exact zh p4 8 w ∅ r.1
   ·rw [<- M6];have em:=Zq (qW g ps t j i);simp only [iM,ga] at em ⊢;simp only [em,gl,ð j i hj hi];have hl:=Wd.row j hj;have W2:i < (T.getD j []).length:=by omega
    have et:(T.getD j []).take (i+1)=(T.getD j []).take i++[rg T j i]:=by
     rw [CJ];unfold rg;rw [Aj (l:=T.getD j []),Ae W2];rfl
    have Ø:(((T.getD j []).take i).map oP).length<=i:=by rw [Af];exact CD _ _
    rw [cQ ∅];show _=_;rw [et,Az];rfl
  ·subst hs;have hl:=Wd.row j hj;rw [<- hl,CK];have et:T.take (j+1)=T.take j++[T.getD j []]:=by rw [CJ,Aj,Ae Rh];rfl
   have Ø:(rP (T.take j)).length<=j:=by unfold rP;rw [Af];exact CD _ _
   simp only [J4,gl,ga];rw [cQ ∅];show _=_;rw [et];unfold rP;rw [Az];rfl
 ·subst hs;rw [<- Wd.len,CK];simp only [J4,gl];exact q
theorem law25_ok:∀ns:List Int,ns.length<=63->(oT (.cl (ns.map PV.int))).run (·=.bl true):=by
 intro ns hn;unfold oT;obtain⟨m,hm,m0,m1⟩:∃m:Nat,(am ((PV.int 1)\λx3=>am ((PV.int 4)\λx1=>am (c1 df (bd (PV.cl (ns.map PV.int)))) λx2=>qf Oc [x1,x2]) λx4=>qf Od [x3,x4]) eL)=.ret (iJ 0 m)/\1<=m/\m<=4:=by
  simp only [ga,fD,Af,ZT,ZU];generalize hx:(if (if (ns.length:Int) < 4 then (ns.length:Int) else 4) > 1 then (if (ns.length:Int) < 4 then (ns.length:Int) else 4) else 1)=x;have h1:1<=x/\x<=4:=by rw [<- hx];split <;> split <;> omega
  refine⟨x.toNat,?_,by omega,by omega⟩;rw [cP,lc (bh ∅ ∅)]
 rw [hm];simp only [ga,ci];refine Hy (λ_ s=>s=()) rfl (λk s hk hs=>?_) (λs hs=>rfl);simp only [ci];refine Rp ∅ ∅ λl hl=>?_;refine⟨hl,?_⟩;refine Vw λg ws t ps G hN hB p4=>?_;have hz:=hN.2;simp only [J3,gl];refine W.le.use (VN G p4 hN hB) ?_;rw [Nw];have two:(am (bd (PV.int 2)) eL)=.ret (iJ 0 2):=by
  simp only [ga];rw [cP,lc (bh ∅ ∅)];rfl
 simp only [ga] at two;simp only [two,gl];refine Hy (λ_ s=>s=()) rfl (λ_ _ _ _=>?_) (λs hs=>trivial);simp only [ci];refine W.le.use (O8 G p4 ∅) ?_;refine W.le.use (Q3 _) ?_;simp only [cO,gl,Dk,Av,if_false]
end My
variable {K5 Fl Pa K7 K6 O9 vK Pb:PySem.Tok}{sD:BG}
namespace My
section
open PySem PySem.Spec PyProof.Rows L2 PL FL
def top (i:Nat):v4:=PySem.Challenge.pw_treewithin_k25_tables_by_all_ways.main.body.getD i (.Pass ⟨0,0,0,0⟩)
def iC:ar ["tree","backward","waiting","part"] ["tree"] (ag (top 1)):=ik
def jm:ar ["tree","told","loose","part","other","one"] ["tree"] (ag (top 2)):=ik
def MP:ar ["node"] ["node"] (ag (top 3)):=ik
abbrev uN:List Str:=["tree","told","node","ahead","number","half"]
def eK:ar uN ["tree"] (ag (top 4)):=ik
abbrev tR:pr:=qL [("node",lo)]
def mT:aF (ag (top 4)) uN tR ["node"] [bm]:=lcs
def Gf:ar ["stays","stay"] ["stays","stay"] (ag (top 9)):=ik
def xw:ar ["stays","stay"] ["stays","stay"] (ag (top 10)):=ik
def IP:ar ["stays","stay","word"] ["stays","stay","word"] (ag (top 11)):=ik
def IM:ar ["houses","house"] ["houses","house"] (ag (top 12)):=ik
abbrev uL:List Str:=["great","ahead","house","lines","above"]
def fK:ar uL ["great"] (ag (top 13)):=ik
abbrev tM:pr:=qL [("house",lo)]
def mP:aF (ag (top 13)) uL tM ["house"] [bm]:=lcs
abbrev pJ:List Str:=["lines","house"]
def u4:ar pJ ["lines","house"] (ag (top 14)):=ik
abbrev ql:pr:=qL [("far",lo),("house",fr),("lines",fr)]
def kx:aF (ag (top 14)) pJ ql ["far","house","lines"] [bm,ap 1,ap 0]:=lcs
abbrev Ii:List Str:=["great","houses","lines"]
def pY:ar Ii ["great"] (ag (top 15)):=ik
abbrev xO:pr:=qL [("house",lo),("name_of",gi),("halves",gi),("apart_from",gi),("houses",fr),("lines",fr)]
def qN:aF (ag (top 15)) Ii xO ["house","houses","lines"] [bm,ap 1,ap 2]:=lcs
def ou:ar ["ground","stay","under"] ["ground","stay"] (ag (top 22)):=ik
abbrev nU:List Str:=["ground","stay","beside"]
def qJ:ar nU ["ground","stay"] (ag (top 23)):=ik
abbrev tL:pr:=qL [("far",lo),("stay",fr)]
abbrev tK:pr:=qL [("far",lo),("stay",fr)]
def mO:aF (ag (top 23)) nU tL ["far","stay"] [bm,ap 1]:=lcs
def mN:aF (ag (top 23)) nU tK ["far","stay"] [bm,ap 1]:=lcs
abbrev nV:List Str:=["ground","node","stay","split","over"]
def kT:ar nV ["ground","node","stay"] (ag (top 24)):=ik
abbrev tP:pr:=qL [("ins",lo),("SPLIT",gi)]
abbrev tN:pr:=qL [("ins",lo),("OVER",gi)]
def mR:aF (ag (top 24)) nV tP ["ins"] [bm]:=lcs
def mQ:aF (ag (top 24)) nV tN ["ins"] [bm]:=lcs
def MN:ar ["costs"] ["costs"] (ag (top 27)):=ik
abbrev uM:List Str:=["costs"]
def Gh:ar uM ["costs"] (ag (top 28)):=ik
abbrev tQ:pr:=qL [("cost",lo)]
def mS:aF (ag (top 28)) uM tQ ["cost"] [bm]:=lcs
def Gg:ar ["prices","deed"] ["prices","deed"] (ag (top 29)):=ik
abbrev qZ:List Str:=["prices","rows","node","deed","onward"]
def ox:ar qZ ["prices","rows","node","deed"] (ag (top 30)):=ik
abbrev rk:pr:=qL [("half",lo),("stay",lo),("rows",fr)]
def hX:aF (ag (top 30)) qZ rk ["half","stay","rows"] [bm,bm,ap 1]:=lcs
abbrev pI:List Str:=["ground","prices","rows","node","stay"]
def u0:ar pI ["ground","prices","rows","node","stay"] (ag (top 31)):=ik
abbrev qk:pr:=qL [("deed",lo),("deed_cost",gi),("node",fr),("prices",fr),("rows",fr)]
def ku:aF (ag (top 31)) pI qk ["deed","node","prices","rows"] [bm,ap 3,ap 1,ap 2]:=lcs
def xv:ar ["ground","prices","stay"] ["ground","prices","stay"] (ag (top 32)):=ik
abbrev pH:List Str:=["ground","prices","row","stay","own"]
def mK:ar pH ["ground","prices","row","stay"] (ag (top 33)):=ik
abbrev qj:pr:=qL [("below",lo),("summed",gi),("own",fr),("row",fr)]
def kr:aF (ag (top 33)) pH qj ["below","own","row"] [bm,ap 4,ap 2]:=lcs
def lX:ar ["ground","prices","rows","node","row","stay","costs"] ["ground","prices","rows","node"] (ag (top 34)):=ik
def sX:ar ["ground","small","prices","rows","node"] ["ground","small","prices"] (ag (top 35)):=ik
abbrev m6:List Str:=["houses","dates"]
def sY:ar m6 ["houses","dates"] (ag (top 37)):=ik
abbrev oU:pr:=qL [("house",lo),("date",lo),("isinstance",gi),("str",gi)]
def ft:aF (ag (top 37)) m6 oU ["house","date"] [bm,bm]:=lcs
def dh:ar ["great","dates","begins","ahead","pairs","number","begin","house","date"] ["great","dates","begins"] (ag (top 38)):=ik
abbrev qG:List Str:=["houses","dates","begins","numbers","pair","house","layer","goes_on","below","under","beside"]
def eA:ar qG ["houses","dates","begins","numbers","pair"] (ag (top 39)):=ik
abbrev vd:pr:=qL [("each",lo),("layer",fr),("numbers",fr)]
abbrev vc:pr:=qL [("far",lo),("house",fr),("layer",fr),("numbers",fr)]
def oW:aF (ag (top 39)) qG vd ["each","layer","numbers"] [bm,ap 6,ap 3]:=lcs
def oV:aF (ag (top 39)) qG vc ["far","house","layer","numbers"] [bm,ap 5,ap 6,ap 3]:=lcs
abbrev zH:List Str:=["great","dates","houses","begins","pairs","numbers"]
def kU:ar zH ["great","dates"] (ag (top 40)):=ik
abbrev GU:pr:=qL [("number",lo),("pair",lo)]
abbrev GS:pr:=qL [("pair",lo),("stay_of",gi),("begins",fr),("dates",fr),("houses",fr),("numbers",fr)]
def nt:aF (ag (top 40)) zH GU ["number","pair"] [bm,bm]:=lcs
def tV:aF (ag (top 40)) zH GS ["pair","begins","dates","houses","numbers"] [bm,ap 3,ap 1,ap 2,ap 5]:=lcs
def jN:ar ["_law_script","_law_k","_law_cell","_law_great_here"] ["_law_script","_law_k"] (ag (top 42)):=ik
def oy:ar ["_law_hand_here","_law_many_here","_law_digit"] ["_law_hand_here","_law_many_here"] (ag (top 43)):=ik
def xx:ar ["_law_hand_here","_law_some"] ["_law_hand_here","_law_some"] (ag (top 44)):=ik
abbrev pK:List Str:=["_law_hand_here","_law_many_here","_law_letters","_law_first","_law_turn","_law_tail"]
def dU:ar pK ["_law_hand_here","_law_many_here"] (ag (top 45)):=ik
abbrev qm:pr:=qL [("_law_k",lo),("_law_first",fr),("_law_letters",fr),("_law_tail",fr),("_law_turn",fr)]
def kz:aF (ag (top 45)) pK qm ["_law_k","_law_first","_law_letters","_law_tail","_law_turn"] [bm,ap 3,ap 2,ap 5,ap 4]:=lcs
def cA:ar ["_law_hand_here","_law_some","_law_turn","_law_one","_law_at","_law_pair"] ["_law_hand_here","_law_some"] (ag (top 46)):=ik
def mM:ar ["_law_hand_here","_law_most","_law_words_here"] ["_law_hand_here","_law_most"] (ag (top 47)):=ik
abbrev pM:List Str:=["_law_hand_here","_law_words_here","_law_most","_law_some"]
def mL:ar pM ["_law_hand_here","_law_words_here","_law_most"] (ag (top 48)):=ik
abbrev qp:pr:=qL [("_law_k",lo),("_law_pick",gi),("_law_hand_here",fr),("_law_words_here",fr)]
def kB:aF (ag (top 48)) pM qp ["_law_k","_law_hand_here","_law_words_here"] [bm,ap 0,ap 1]:=lcs
def dW:ar ["_law_tree","_law_one","_law_other","_law_shifted","_law_node"] ["_law_tree"] (ag (top 49)):=ik
abbrev pN:List Str:=["_law_hand_here","_law_great_here","_law_houses","_law_found","_law_date","_law_at","_law_waiting","_law_turn","_law_free"]
def bb:ar pN ["_law_hand_here","_law_great_here"] (ag (top 50)):=ik
abbrev qr:pr:=qL [("_law_at",lo),("_law_house",lo),("isinstance",gi),("str",gi)]
def f6:aF (ag (top 50)) pN qr ["_law_at","_law_house"] [bm,bm]:=lcs
def u5:ar ["_law_hand_here","_law_great_here"] ["_law_hand_here","_law_great_here"] (ag (top 51)):=ik
def di:ar ["_law_hand_here","_law_found","_law_k","_law_some"] ["_law_hand_here"] (ag (top 52)):=ik
def br:ar ["_law_stays_here","_law_told","_law_node","_law_at","_law_name","_law_piece","_law_under","_law_beside","_law_one","_law_other","_law_found","_law_to"] ["_law_stays_here","_law_told","_law_node","_law_at"] (ag (top 53)):=ik
abbrev pL:List Str:=["_law_stays_here","_law_node","_law_at","_law_under","_law_place"]
def iV:ar pL ["_law_stays_here","_law_node","_law_at"] (ag (top 54)):=ik
abbrev qo:pr:=qL [("_law_below",lo),("_law_node",fr),("_law_place",fr)]
def kA:aF (ag (top 54)) pL qo ["_law_below","_law_node","_law_place"] [bm,ap 1,ap 4]:=lcs
abbrev nW:List Str:=["_law_stays_here","_law_told","_law_node","_law_at","_law_found","_law_word","_law_name","_law_piece","_law_under","_law_beside","_law_some","_law_to","_law_deed","_law_here","_law_there","_law_others","_law_one","_law_below","_law_ways"]
def aO:ar nW ["_law_stays_here","_law_told","_law_node","_law_at"] (ag (top 55)):=ik
abbrev tU:pr:=qL [("_law_other",lo),("_law_at",fr),("_law_deed",fr),("_law_one",fr)]
abbrev tT:pr:=qL [("_law_way",lo),("_law_at",fr)]
def mW:aF (ag (top 55)) nW tU ["_law_other","_law_at","_law_deed","_law_one"] [bm,ap 3,ap 12,ap 16]:=lcs
def mV:aF (ag (top 55)) nW tT ["_law_way","_law_at"] [bm,ap 3]:=lcs
def a8:ar ["_law_stays_here","_law_told","_law_known","_law_node","_law_at","_law_total","_law_some","_law_place","_law_comings","_law_many_here","_law_entry"] ["_law_stays_here","_law_told"] (ag (top 56)):=ik
abbrev q8:List Str:=["_law_stays_here","_law_prices_here","_law_way","_law_total"]
def gC:ar q8 ["_law_stays_here","_law_prices_here","_law_way"] (ag (top 57)):=ik
abbrev rm:pr:=qL [("_law_at",lo),("len",gi),("_law_prices_here",fr),("_law_stays_here",fr)]
def lg:aF (ag (top 57)) q8 rm ["_law_at","_law_prices_here","_law_stays_here"] [bm,ap 1,ap 0]:=lcs
def dj:ar ["_law_hand_here","_law_great_most","_law_great_here","_law_words_here","_law_stays_here","_law_small_here","_law_turn"] ["_law_hand_here","_law_great_most"] (ag (top 58)):=ik
abbrev kF:List Str:=["_law_found","_law_due_here","_law_row"]
def jn:ar kF ["_law_found","_law_due_here"] (ag (top 59)):=ik
abbrev mE:pr:=qL [("_law_one",lo),("isinstance",gi),("bool",gi)]
def hZ:aF (ag (top 59)) kF mE ["_law_one"] [bm]:=lcs
abbrev uO:List Str:=["_law_stays_here","_law_told","_law_prices_here","_law_rows","_law_node","_law_row","_law_at","_law_ways","_law_costs"]
def dm:ar uO ["_law_stays_here","_law_told","_law_prices_here"] (ag (top 60)):=ik
abbrev tS:pr:=qL [("_law_way",lo),("_law_cost",gi),("_law_prices_here",fr),("_law_stays_here",fr)]
def mU:aF (ag (top 60)) uO tS ["_law_way","_law_prices_here","_law_stays_here"] [bm,ap 2,ap 0]:=lcs
def kS:ar ["_law_script","_law_k","_law_stays_here","_law_small_here","_law_told","_law_prices_here","_law_due_here","_law_turn"] ["_law_script"] (ag (top 61)):=ik
structure NB (v:EV):Prop where
 isinstance:v.mg "isinstance"=bm
 str:v.mg "str"=bm
 list:v.mg "list"=bm
 reversed:v.mg "reversed"=bm
 len:v.mg "len"=bm
 tuple:v.mg "tuple"=bm
 enumerate:v.mg "enumerate"=bm
 range:v.mg "range"=bm
 sorted:v.mg "sorted"=bm
 sum:v.mg "sum"=bm
 min:v.mg "min"=bm
 zip:v.mg "zip"=bm
 dict:v.mg "dict"=bm
 abs:v.mg "abs"=bm
 int:v.mg "int"=bm
 bool:v.mg "bool"=bm
 any:v.mg "any"=bm
 max:v.mg "max"=bm
variable {v:EV}
abbrev nH:DF:=⟨"parts_of",top 1,["tree"],1,λK=>fh K [.v] (cx 1 jU)⟩
def Jz (D:DI v nH) (q:NB v):D.O:=
 YZ (m:=jU) D iC λc9 _ _ _ _ _ _ hr=>
 (sl 1 iC.nd (aM (n:=0) ai rfl) λnT=>
 (sl 2 iC.nd (aM (n:=1) (aa (ae 0) ai) rfl) λpR=>
 (SF.aba (hd:=(λ(s4:List PV×List PV)=>([ap (.val c9),ap (.ol bm s4.1),ap (.ol bm s4.2),bm]:bj))) (s0:=(nT,pR)) Ay (.refl _) (λs4=>(abf rfl (cy 2) (λ_=>rfl))) (λs4=>
 (SF.IX 2 3 rfl ⋯ rfl rfl (.inl rfl) iC.nd rfl (C0 rfl) λt7=>
 (SF.append 1 rfl rfl rfl (.inl rfl) (ae 3) λnS=>
 (SF.ifT (sS (fJ rfl (iP rfl .str rfl q.isinstance (ae 3) rfl q.str wT) (λ_=>rfl)))
 (SF.extend 2 rfl rfl rfl (.inl rfl) (aA (ae 3)) λsN=>
 (SF.dM rfl (.keep (.keep (.keep (.drop (.refl _)))))))
 (SF.dM rfl (.keep (.keep (.keep (.drop (.refl _)))))))))) λs4=>
 (SF.iD (acz rfl rfl rfl q.list rfl q.reversed (IU 1)) λ_=>rfl))))
abbrev mm:DF:=⟨"nodes",top 2,["tree"],2,λK=>gz K [.v] (cx 1 iI)⟩
def U5 (D:DI v mm) (q:NB v) (JS:nH.C v):D.O:=
 qg (m:=iI) D jm λc9 _ _ _ _ _ _ hr=>
 (sl 1 jm.nd (aM (n:=0) ai rfl) λjK=>
 (sl 2 jm.nd (aM (n:=0) ai rfl) λxP=>
 (SF.jZ (hd:=(λ(s4:List PV×List PV)=>([ap (.val c9),ap (.ol bm s4.1),ap (.ol bm s4.2),bm,bm,bm]:bj))) (s0:=(jK,xP)) Ay rfl (bf rfl (wu (lC JS hr (aa (ae 0) ai)))) (.refl _) (cC 3 jm.nd) (λs4 xE=>
 (SF.ifS (out1:=λ(X7:List PV×List PV)=>.nx ([ap (.val c9),ap (.ol bm X7.1),ap (.ol bm X7.2),ap (.val xE),bm,bm]:bj)) (fJ rfl (iP rfl .str rfl q.isinstance (ae 3) rfl q.str wT) (λ_=>rfl))
 (SF.append 1 rfl rfl rfl (.inl rfl) (ae 3) λK4=>
 (SF.nil rfl (.refl _)))
 (SF.IX 2 4 rfl ⋯ rfl rfl (.inl rfl) jm.nd rfl (C0 rfl) λt20=>
 (SF.IX 2 5 rfl ⋯ rfl rfl (.inl rfl) jm.nd rfl (C0 rfl) λt22=>
 (SF.append 1 rfl rfl rfl (.inl rfl) (az (n:=2) (aa (ae 5) (aa (ae 4) ai)) rfl) λK3=>
 (SF.nil rfl (.keep (.keep (.keep (.keep (.drop (.drop (.refl _)))))))))))
 λX7=>(SF.append 2 rfl rfl rfl (.inl rfl) (wI (uv rfl rfl q.len (cy 1)) ao) λGV=>
 (SF.dM rfl (.keep (.keep (.keep (.drop (.refl _))))))))) λs4=>
 (SF.dF (dI rfl rfl q.tuple (cy 1)) λ_=>rfl))))
abbrev jF:DF:=⟨"halves",top 3,["node"],1,λK=>gz K [.v] (cx 1 cX)⟩
def QP (D:DI v jF) (q:NB v):D.O:=
 qg (m:=cX) D MP λa9 _ _ _ _ _ _ hr=>
 (SF.dF (uw (fJ rfl (iP rfl .str rfl q.isinstance (ae 0) rfl q.str wT) (λ_=>rfl)) (az (n:=0) ai rfl) (ae 0)) λ_=>rfl)
abbrev ka:DF:=⟨"ahead_of",top 4,["tree"],3,λK=>gz K [.v] (cx 1 fq)⟩
def JG (D:DI v ka) (q:NB v) (jX:mm.C v) (ic:jF.C v):D.O:=
 qg (m:=fq) D eK λc9 _ _ _ _ _ _ hr=>
 (sv 1 eK.nd (eC jX hr (aa (ae 0) ai)) λjK=>
 (SF.lW (i:=3) rfl eK.nd rfl rfl mT (bf rfl (bE (ae 1))) (λ_ _ _ _ _=>(cC 0 mT.nd)) (λ_ _ _ _ _ p5=>pj) rfl λzm=>
 (SF.Rz (hd:=(λ(s7:List PV)=>([ap (.val c9),ap (.val jK),bm,ap (.ol bm s7),bm,bm]:bj))) (s0:=zm) Ay rfl (o4 rfl rfl q.enumerate (bE (ae 1))) (.refl _) (λ_=>(Rx rfl (eB rfl (aB (cC 4 eK.nd) (aB (cC 2 eK.nd) cH))))) (λs7 t9=>
 (SF.jZ (hd:=(λ(X8:List PV)=>([ap (.val c9),ap (.val jK),ap (.val t9.2),ap (.ol bm X8),ap (.val t9.1),bm]:bj))) (s0:=s7) Ay rfl (bf rfl (bE (eC ic hr (aa (ae 2) ai)))) (.refl _) (cC 5 eK.nd) (λX8 LU=>
 (SF.IL 3 rfl rfl (.inl rfl) (ae 4) (ae 5) λHW=>
 (SF.dM rfl (.keep (.keep (.keep (.keep (.keep (.drop (.refl _)))))))))) λX8=>
 (SF.dM rfl (.keep (.keep (.drop (.keep (.drop (.refl _))))))))) λs7=>
 (SF.dF (dI rfl rfl q.tuple (cy 3)) λ_=>rfl))))
abbrev fw:DF:=⟨"under_at",top 9,["stays","stay"],1,λK=>gz K [.v,.v] (cx 2 dq)⟩
def Jw (D:DI v fw) (pw:v.mg "UNDER"=ap (.int 2 K5)):D.O:=
 xM (m:=dq) D Gf λjL bD _ _ _ _ _ _ hr=>
 (SF.dF (aQ rfl (aA (aQ rfl (aA (ae 0)) (ae 1))) (yT pw rfl)) λ_=>rfl)
abbrev lL:DF:=⟨"beside_at",top 10,["stays","stay"],1,λK=>gz K [.v,.v] (cx 2 fR)⟩
def G9 (D:DI v lL) (lQ:v.mg "BESIDE"=ap (.int 3 Fl)):D.O:=
 xM (m:=fR) D xw λjL bD _ _ _ _ _ _ hr=>
 (SF.dF (aQ rfl (aA (aQ rfl (aA (ae 0)) (ae 1))) (yT lQ rfl)) λ_=>rfl)
abbrev qE:DF:=⟨"is_home",top 11,["stays","stay","word"],2,λK=>gz K [.v,.v,.v] (cx 3 jy)⟩
def Nu (D:DI v qE) (uE:v.mg "NAME"=ap (.int 0 Pa)) (eJ:fw.C v):D.O:=
 UJ (m:=jy) D IP λjL bD Wj _ _ _ _ _ _ hr=>
 (SF.dF (adN (L9 (gk rfl (a7 hr)) (eC eJ hr (aa (ae 0) (aa (ae 1) ai))) (az (n:=0) ai rfl)) (adG (L9 (gk rfl (a7 hr)) (aQ rfl (aA (aQ rfl (aA (ae 0)) (ae 1))) (yT uE rfl)) (ae 2)))) λ_=>rfl)
abbrev mn:DF:=⟨"name_of",top 12,["houses","house"],1,λK=>gz K [.v,.v] (cx 2 eN)⟩
def Nt (D:DI v mn) (q:NB v):D.O:=
 xM (m:=eN) D IM λfy ly _ _ _ _ _ _ hr=>
 (SF.dF (uw (fJ rfl (iP rfl .str rfl q.isinstance (aQ rfl (aA (ae 0)) (ae 1)) rfl q.str wT) (λ_=>rfl)) (aQ rfl (aA (ae 0)) (ae 1)) (ae 1)) λ_=>rfl)
abbrev nJ:DF:=⟨"lines_up",top 13,["great"],4,λK=>fh K [.v] (cx 1 gY)⟩
def JB (D:DI v nJ) (q:NB v) (nC:ka.C v):D.O:=
 YZ (m:=gY) D fK λdN _ _ _ _ _ _ hr=>
 (sv 1 fK.nd (eC nC hr (aa (ae 0) ai)) λeg=>
 (SF.lW (i:=3) rfl fK.nd rfl rfl mP (bf rfl (bE (ae 1))) (λ_ _ _ _ _=>(cC 0 mP.nd)) (λ_ _ _ _ _ p5=>(az (n:=0) ai rfl)) rfl λmd=>
 (SF.jZ (hd:=(λ(s9:List PV)=>([ap (.val dN),ap (.val eg),bm,ap (.ol bm s9),bm]:bj))) (s0:=md) Ay rfl (Vd rfl q.range (wI (dC rfl rfl q.len (ae 1)) ao) (L8 ao) (L8 ao)) (.refl _) (cC 2 fK.nd) (λs9 lx=>
 (sv 4 fK.nd (uw (cW QX (aQ rfl (aA (ae 1)) (ae 2)) pj) (az (n:=0) ai rfl) (aQ rfl (cy 3) (aQ rfl (aA (ae 1)) (ae 2)))) λHX=>
 (SF.IL 3 rfl rfl (.inl rfl) (bQ rfl (az (n:=1) (aa (ae 2) ai) rfl) (ae 4)) (ae 2) λGX=>
 (SF.dM rfl (.keep (.keep (.drop (.keep (.drop (.refl _)))))))))) λs9=>
 (SF.TC 3 rfl rfl))))
abbrev j9:DF:=⟨"apart_from",top 14,["lines","house"],1,λK=>gz K [.v,.v] (cx 2 eY)⟩
def ya (D:DI v j9) (q:NB v):D.O:=
 xM (m:=eY) D u4 λxR ly _ _ _ _ _ _ hr=>
 (SF.dF (dI rfl rfl q.tuple (tm (LO rfl kx (cJ rfl q.range (dC rfl rfl q.len (ae 0))) (λ_ _ _ _ _=>(cC 0 kx.nd)) (λ_ _ _ _ _ p3=>(zN.t (m8 (xl rfl (a7 hr) (ae 0) (aA (aQ rfl (aA (ae 2)) (ae 1)))) (jJ (xl rfl (a7 hr) (ae 1) (aA (aQ rfl (aA (ae 2)) (ae 0)))))))) (λ_ _ _ _ _ p3=>(ae 0)) rfl))) λ_=>rfl)
abbrev uz:DF:=⟨"ground",top 15,["great"],5,λK=>gz K [.v] (cx 1 k7)⟩
def QQ (D:DI v uz) (q:NB v) (jX:mm.C v) (JU:nJ.C v) (qA:mn.C v) (ic:jF.C v) (yz:j9.C v):D.O:=
 qg (m:=k7) D pY λdN _ _ _ _ _ _ hr=>
 (sv 1 pY.nd (eC jX hr (aa (ae 0) ai)) λbJ=>
 (sl 2 pY.nd (lC JU hr (aa (ae 0) ai)) λmd=>
 SF.cV 2 rfl (SF.dF (dI rfl rfl q.tuple (tm (f7 rfl qN (cJ rfl q.range (dC rfl rfl q.len (ae 1))) (λ_ _ _ _ _=>(cC 0 qN.nd)) (λ_ _ _ _ _ p7=>(az (n:=4) (aa (eC qA hr (aa (ae 1) (aa (ae 0) ai))) (aa ao (aa (eC ic hr (aa (aQ rfl (aA (ae 1)) (ae 0)) ai)) (aa (eC yz hr (aa (ae 2) (aa (ae 0) ai))) ai)))) rfl)) rfl))) λ_=>rfl)))
abbrev lJ:DF:=⟨"split_ins",top 22,["ground","stay"],2,λK=>fh K [.v,.v] (cx 2 fP)⟩
def G7 (D:DI v lJ) (q:NB v) (eJ:fw.C v):D.O:=
 UK (m:=fP) D ou λaW bD _ _ _ _ _ _ hr=>
 (sv 2 ou.nd (eC eJ hr (aa (ae 0) (aa (ae 1) ai))) λgq=>
 (SF.iD (UX (cW (gk rfl (a7 hr)) (dC rfl rfl q.len (ae 2)) ao) (aM (n:=2) (aa (ae 2) (aa (az (n:=2) (aa (aQ rfl (aA (ae 2)) ao) (aa (aQ rfl (aA (ae 2)) ao) ai)) rfl) ai)) rfl) (aM (n:=0) ai rfl)) λ_=>rfl))
abbrev nI:DF:=⟨"over_ins",top 23,["ground","stay"],2,λK=>fh K [.v,.v] (cx 2 gX)⟩
def JA (D:DI v nI) (Hn:lL.C v):D.O:=
 UK (m:=gX) D qJ λaW bD _ _ _ _ _ _ hr=>
 (sv 2 qJ.nd (eC Hn hr (aa (ae 0) (aa (ae 1) ai))) λuG=>
 (SF.iD (lh rfl (bX (f7 rfl mO (bf rfl (bE (ae 2))) (λ_ _ _ _ _=>(cC 0 mO.nd)) (λ_ _ _ _ _ p5=>(az (n:=2) (aa (ae 1) (aa (ae 0) ai)) rfl)) rfl)) (bX (f7 rfl mN (bf rfl (bE (ae 2))) (λ_ _ _ _ _=>(cC 0 mN.nd)) (λ_ _ _ _ _ p9=>(az (n:=2) (aa (ae 0) (aa (ae 1) ai)) rfl)) rfl))) λ_=>rfl))
abbrev nK:DF:=⟨"deeds_at",top 24,["ground","node","stay"],3,λK=>fh K [.v,.v,.v] (cx 3 fo)⟩
def JD (D:DI v nK) (q:NB v) (pA:v.mg "FOUND"=ap (.str "found" K7)) (pz:v.mg "SPLIT"=ap (.str "split" K6)) (uD:v.mg "OVER"=ap (.str "over" O9)) (jG:v.mg "DOUBLED"=ap (.str "doubled" vK)) (NP:qE.C v) (Hl:lJ.C v) (JT:nI.C v):D.O:=
 YY (m:=fo) D kT λaW a9 bD _ _ _ _ _ _ hr=>
 (SF.Zr (fJ rfl (iP rfl .str rfl q.isinstance (ae 1) rfl q.str wT) (λ_=>rfl))
 (SF.iD (UX (fJ rfl (eC NP hr (aa (ae 0) (aa (ae 2) (aa (ae 1) ai)))) (λ_=>rfl)) (aM (n:=1) (aa (az (n:=2) (aa (yS pA rfl) (aa (az (n:=0) ai rfl) ai)) rfl) ai) rfl) (aM (n:=0) ai rfl)) λ_=>rfl)
 (SF.lW (i:=3) rfl kT.nd rfl rfl mR (bf rfl (wu (lC Hl hr (aa (ae 0) (aa (ae 2) ai))))) (λ_ _ _ _ _=>(cC 0 mR.nd)) (λ_ _ _ _ _ ė=>(az (n:=2) (aa (yS pz rfl) (aa (ae 0) ai)) rfl)) rfl λLd=>
 SF.cV 3 rfl (SF.lW (i:=4) rfl kT.nd rfl rfl mQ (bf rfl (wu (lC JT hr (aa (ae 0) (aa (ae 2) ai))))) (λ_ _ _ _ _=>(cC 0 mQ.nd)) (λ_ _ _ _ _ p18=>(az (n:=2) (aa (yS uD rfl) (aa (ae 0) ai)) rfl)) rfl λLy=>
 SF.cV 4 rfl (SF.iD (UU rfl (a7 hr) rfl q.sorted (bX (lh rfl (bX (lh rfl (bX (aM (n:=1) (aa (az (n:=2) (aa (yS jG rfl) (aa (az (n:=2) (aa (ae 2) (aa (ae 2) ai)) rfl) ai)) rfl) ai) rfl)) (jO (ae 3)))) (jO (ae 4))))) λ_=>rfl))))
abbrev pq:DF:=⟨"summed",top 27,["costs"],1,λK=>gz K [.v] (cx 1 jw)⟩
def QM (D:DI v pq) (q:NB v):D.O:=
 qg (m:=jw) D MN λqF _ _ _ _ _ _ hr=>
 (SF.dF (uw (abi rfl (a7 hr) pj (aA (ae 0))) pj (Kb rfl rfl rfl q.sum (jO (ae 0)))) λ_=>rfl)
abbrev nM:DF:=⟨"cheapest",top 28,["costs"],1,λK=>gz K [.v] (cx 1 gZ)⟩
def JE (D:DI v nM) (q:NB v):D.O:=
 qg (m:=gZ) D Gh λqF _ _ _ _ _ _ hr=>
 (SF.dF (ZZ rfl rfl rfl q.min (bX (LO rfl mS (bf rfl (bE (ae 0))) (λ_ _ _ _ _=>(cC 0 mS.nd)) (λ_ _ _ _ _ p2=>(cW U9 (ae 0) pj)) (λ_ _ _ _ _ p2=>(ae 0)) rfl))) λ_=>rfl)
abbrev nG:DF:=⟨"price_of",top 29,["prices","deed"],1,λK=>gz K [.v,.v] (cx 2 eG)⟩
def Jy (D:DI v nG) (mr:v.mg "DEEDS"=ap (.ref sD)) (sh:Sx v.K sD ["split","doubled","over"]):D.O:=
 xM (m:=eG) D Gg λbc ux _ _ _ _ _ _ hr=>
 (SF.dF (uw (abh rfl (a7 hr) (ae 1) mr sh) (aQ rfl (aA (ae 0)) (Z0 rfl (ae 1) mr sh)) ao) λ_=>rfl)
abbrev lK:DF:=⟨"deed_cost",top 30,["prices","rows","node","deed"],2,λK=>gz K [.v,.v,.v,.v] (cx 4 dr)⟩
def G8 (D:DI v lK) (q:NB v) (ic:jF.C v) (uh:pq.C v) (JR:nG.C v):D.O:=
 acr (m:=dr) D ox λbc oz a9 ux _ _ _ _ _ _ hr=>
 (SF.Ll (i:=4) rfl ox.nd rfl rfl hX (Q2 rfl rfl q.zip (bE (eC ic hr (aa (ae 2) ai))) (bE (aQ rfl (aA (ae 3)) ao))) (λ_ _ _ _ _=>(Rx rfl (eB rfl (aB (cC 0 hX.nd) (aB (cC 1 hX.nd) cH))))) (λ_ _ _ _ _ t7=>(aQ rfl (aA (aQ rfl (aA (ae 2)) (ae 0))) (ae 1))) (US rfl rfl ⋯) ⋯ λGC=>
 SF.cV 4 rfl (SF.dF (eC uh hr (aa (gp (lh rfl (bX (aM (n:=1) (aa (eC JR hr (aa (ae 0) (aa (aQ rfl (aA (ae 3)) ao) ai))) ai) rfl)) (jO (ae 4)))) ai)) λ_=>rfl))
abbrev j8:DF:=⟨"deed_costs",top 31,["ground","prices","rows","node","stay"],4,λK=>fh K [.v,.v,.v,.v,.v] (cx 5 eX)⟩
def xZ (D:DI v j8) (JW:nK.C v) (Hm:lK.C v):D.O:=
 agy (m:=eX) D u0 λaW bc oz a9 bD _ _ _ _ _ _ hr=>
 (SF.iD (f7 rfl ku (bf rfl (wu (lC JW hr (aa (ae 0) (aa (ae 3) (aa (ae 4) ai)))))) (λ_ _ _ _ _=>(cC 0 ku.nd)) (λ_ _ _ _ _ p5=>(eC Hm hr (aa (ae 2) (aa (ae 3) (aa (ae 1) (aa (ae 0) ai)))))) rfl) λ_=>rfl)
abbrev lI:DF:=⟨"step_cost",top 32,["ground","prices","stay"],2,λK=>gz K [.v,.v,.v] (cx 3 fN)⟩
def G6 (D:DI v lI) (q:NB v) (uF:v.mg "LOST"=ap (.int 3 Pb)) (eJ:fw.C v):D.O:=
 UJ (m:=fN) D xv λaW bc bD _ _ _ _ _ _ hr=>
 (SF.dF (uw (cW (gk rfl (a7 hr)) (dC rfl rfl q.len (eC eJ hr (aa (ae 0) (aa (ae 2) ai)))) ao) (aQ rfl (aA (ae 1)) (yT uF rfl)) ao) λ_=>rfl)
abbrev j7:DF:=⟨"step_costs",top 33,["ground","prices","row","stay"],3,λK=>fh K [.v,.v,.v,.v] (cx 4 eW)⟩
def xW (D:DI v j7) (Hk:lI.C v) (eJ:fw.C v) (uh:pq.C v):D.O:=
 acs (m:=eW) D mK λaW bc abK bD _ _ _ _ _ _ hr=>
 (sv 4 mK.nd (eC Hk hr (aa (ae 0) (aa (ae 1) (aa (ae 3) ai)))) λWA=>
 (SF.iD (f7 rfl kr (bf rfl (bE (eC eJ hr (aa (ae 0) (aa (ae 3) ai))))) (λ_ _ _ _ _=>(cC 0 kr.nd)) (λ_ _ _ _ _ p8=>(eC uh hr (aa (gp (aM (n:=2) (aa (ae 1) (aa (aQ rfl (aA (ae 2)) (ae 0)) ai)) rfl)) ai))) rfl) λ_=>rfl))
abbrev uy:DF:=⟨"row_of",top 34,["ground","prices","rows","node"],5,λK=>gz K [.v,.v,.v,.v] (cx 4 k6)⟩
def QN (D:DI v uy) (q:NB v) (yx:j8.C v) (yw:j7.C v) (JX:nM.C v):D.O:=
 acr (m:=k6) D lX λaW bc oz a9 _ _ _ _ _ _ hr=>
 (sl 4 lX.nd (aM (n:=0) ai rfl) λPt=>
 (SF.jZ (hd:=(λ(s3:List PV)=>([ap (.val aW),ap (.val bc),ap (.val oz),ap (.val a9),ap (.ol bm s3),bm,bm]:bj))) (s0:=Pt) Ay rfl (cJ rfl q.range (dC rfl rfl q.len (ae 0))) (.refl _) (cC 5 lX.nd) (λs3 IH=>
 (sl 6 lX.nd (acC 4 rfl (lh rfl (bX (lC yx hr (aa (ae 0) (aa (ae 1) (aa (ae 2) (aa (ae 3) (aa (ae 5) ai))))))) (bX (lC yw hr (aa (ae 0) (aa (ae 1) (aa (ae 4) (aa (ae 5) ai)))))))) λMg=>
 SF.cV 6 rfl (SF.append 4 rfl rfl rfl (.inl rfl) (eC JX hr (aa (ae 6) ai)) λPr=>
 (SF.dM rfl (.keep (.keep (.keep (.keep (.keep (.drop (.drop (.refl _)))))))))))) λs3=>
 (SF.dF (dI rfl rfl q.tuple (cy 4)) λ_=>rfl)))
abbrev zd:DF:=⟨"table",top 35,["ground","small","prices"],6,λK=>gz K [.v,.v,.v] (cx 3 oS)⟩
def U4 (D:DI v zd) (q:NB v) (jX:mm.C v) (Ru:uy.C v):D.O:=
 UJ (m:=oS) D sX λaW IJ bc _ _ _ _ _ _ hr=>
 (sl 3 sX.nd (aM (n:=0) ai rfl) λnh=>
 (SF.jZ (hd:=(λ(s3:List PV)=>([ap (.val aW),ap (.val IJ),ap (.val bc),ap (.ol bm s3),bm]:bj))) (s0:=nh) Ay rfl (bf rfl (bE (eC jX hr (aa (ae 1) ai)))) (.refl _) (cC 4 sX.nd) (λs3 eV=>
 (SF.append 3 rfl rfl rfl (.inl rfl) (adL 3 rfl (eC Ru hr (aa (ae 0) (aa (ae 2) (aa (ae 3) (aa (ae 4) ai)))))) λPo=>
 (SF.dM rfl (.keep (.keep (.keep (.keep (.drop (.refl _))))))))) λs3=>
 (SF.dF (dI rfl rfl q.tuple (cy 3)) λ_=>rfl)))
abbrev i7:DF:=⟨"split_dates",top 37,["houses","dates"],1,λK=>fh K [.v,.v] (cx 2 dZ)⟩
def vg (D:DI v i7) (q:NB v):D.O:=
 UK (m:=dZ) D sY λfy dP _ _ _ _ _ _ hr=>
 (SF.iD (acB rfl ft (Q2 rfl rfl q.zip (bE (ae 0)) (bE (ae 1))) (λ_ _ _ _ _=>(Rx rfl (eB rfl (aB (cC 0 ft.nd) (aB (cC 1 ft.nd) cH))))) (λ_ _ _ _ _ t5=>(sS (fJ rfl (iP rfl .str rfl q.isinstance (ae 0) rfl q.str wT) (λ_=>rfl)))) (λ_ _ _ _ _ t5=>(ae 1)) (US rfl rfl ⋯) ⋯) λ_=>rfl)
abbrev nF:DF:=⟨"standing",top 38,["great","dates","begins"],4,λK=>fh K [.v,.v,.v] (cx 3 gW)⟩
def Jx (D:DI v nF) (q:NB v) (nC:ka.C v):D.O:=
 YY (m:=gW) D dh λdN dP kl _ _ _ _ _ _ hr=>
 (sv 3 dh.nd (eC nC hr (aa (ae 0) ai)) λeg=>
 (sl 4 dh.nd (aM (n:=0) ai rfl) λxG=>
 (SF.Rz (hd:=(λ(s5:List PV)=>([ap (.val dN),ap (.val dP),ap (.val kl),ap (.val eg),ap (.ol bm s5),bm,bm,bm,bm]:bj))) (s0:=xG) Ay rfl (o4 rfl rfl q.enumerate (bE (ae 2))) (.refl _) (λ_=>(Rx rfl (eB rfl (aB (cC 5 dh.nd) (aB (cC 6 dh.nd) cH))))) (λs5 t7=>
 (SF.Rz (hd:=(λ(s9:List PV)=>([ap (.val dN),ap (.val dP),ap (.val kl),ap (.val eg),ap (.ol bm s9),ap (.val t7.1),ap (.val t7.2),bm,bm]:bj))) (s0:=s5) Ay rfl (o4 rfl rfl q.enumerate (bE (ae 1))) (.refl _) (λ_=>(Rx rfl (eB rfl (aB (cC 7 dh.nd) (aB (cC 8 dh.nd) cH))))) (λs9 ò=>
 (SF.ifT (zN.t (m8 (cW WU (ae 8) (ae 6)) (jJ (zN.t (OZ (cW QX (aQ rfl (aA (ae 3)) (ae 7)) pj) (Iy (cW QW (ae 6) (aQ rfl (aA (ae 1)) (aQ rfl (aA (ae 3)) (ae 7))))))))))
 (SF.append 4 rfl rfl rfl (.inl rfl) (az (n:=2) (aa (ae 7) (aa (ae 5) ai)) rfl) λGz=>
 (SF.dM rfl (.keep (.keep (.keep (.keep (.keep (.keep (.keep (.drop (.drop (.refl _))))))))))))
 (SF.dM rfl (.keep (.keep (.keep (.keep (.keep (.keep (.keep (.drop (.drop (.refl _))))))))))))) λs9=>
 (SF.dM rfl (.keep (.keep (.keep (.keep (.keep (.drop (.drop (.refl _))))))))))) λs5=>
 (SF.TC 4 rfl rfl))))
abbrev qD:DF:=⟨"stay_of",top 39,["houses","dates","begins","numbers","pair"],2,λK=>gz K [.v,.v,.v,.v,.v] (cx 5 jx)⟩
def Nr (D:DI v qD) (q:NB v) (ic:jF.C v) (qA:mn.C v):D.O:=
 agw (m:=jx) D eA λfy dP kl oH Qf _ _ _ _ _ _ hr=>
 (sv 5 eA.nd (aQ rfl (aA (ae 4)) ao) λmf=>
 (sv 6 eA.nd (aQ rfl (aA (ae 4)) ao) λoX=>
 (sv 7 eA.nd (L9 QW (aQ rfl (aA (ae 1)) (ae 5)) (aQ rfl (aA (ae 2)) (ae 6))) λwz=>
 (sv 8 eA.nd (uw (fJ rfl (ae 7) (λ_=>rfl)) (az (n:=1) (aa (ae 5) ai) rfl) (eC ic hr (aa (aQ rfl (aA (ae 0)) (ae 5)) ai))) λbelow_4=>
 (sv 9 eA.nd (dI rfl rfl q.tuple (tm (f7 rfl oW (bf rfl (bE (ae 8))) (λ_ _ _ _ _=>(cC 0 oW.nd)) (λ_ _ _ _ _ p9=>(R1 (a7 hr) (ae 2) (az (n:=2) (aa (ae 0) (aa (wI (ae 1) ao) ai)) rfl) (λ_ _=>rfl))) rfl))) λK0=>
 (sv 10 eA.nd (dI rfl rfl q.tuple (tm (LO rfl oV (Ve (ae 3)) (λ_ _ _ _ _=>(cC 0 oV.nd)) (λ_ _ _ _ _ ú=>(zN.t (m8 (cW (gk rfl (a7 hr)) (aQ rfl (aA (ae 0)) ao) (ae 2)) (jJ (cW (WS rfl (a7 hr)) (aQ rfl (aA (ae 0)) ao) (ae 1)))))) (λ_ _ _ _ _ ú=>(R1 (a7 hr) (ae 3) (ae 0) (λ_ _=>rfl))) rfl))) λwX=>
 (SF.dF (az (n:=4) (aa (eC qA hr (aa (ae 0) (aa (ae 5) ai))) (aa (ae 6) (aa (ae 9) (aa (ae 10) ai)))) rfl) λ_=>rfl)))))))
abbrev zf:DF:=⟨"dated",top 40,["great","dates"],5,λK=>gz K [.v,.v] (cx 2 ma)⟩
def U6 (D:DI v zf) (q:NB v) (jX:mm.C v) (vo:i7.C v) (JQ:nF.C v) (NN:qD.C v):D.O:=
 xM (m:=ma) D kU λdN dP _ _ _ _ _ _ hr=>
 (sv 2 kU.nd (eC jX hr (aa (ae 0) ai)) λbJ=>
 (sl 3 kU.nd (lh rfl (bX (aM (n:=1) (aa ao ai) rfl)) (bX (UW rfl rfl q.sorted (bX (lC vo hr (aa (ae 2) (aa (ae 1) ai))))))) λuH=>
 SF.cV 3 rfl (sl 4 kU.nd (lC JQ hr (aa (ae 0) (aa (ae 1) (aa (ae 3) ai)))) λxF=>
 SF.cV 4 rfl (sv 5 kU.nd (ah3 (VT rfl rfl (a7 hr) rfl q.dict (bX (Y8 rfl nt (o4 rfl rfl q.enumerate (bE (ae 4))) (λ_ _ _ _ _=>(Rx rfl (eB rfl (aB (cC 0 nt.nd) (aB (cC 1 nt.nd) cH))))) (λ_ _ _ _ _ Ĭ=>(az (n:=2) (aa (ae 1) (aa (ae 0) ai)) rfl)) (US rfl rfl ⋯) ⋯)))) λtw=>
 (SF.dF (dI rfl rfl q.tuple (tm (f7 rfl tV (bf rfl (bE (ae 4))) (λ_ _ _ _ _=>(cC 0 tV.nd)) (λ_ _ _ _ _ p21=>(eC NN hr (aa (ae 3) (aa (ae 2) (aa (ae 1) (aa (ae 4) (aa (ae 0) ai))))))) rfl))) λ_=>rfl)))))
abbrev lN:DF:=⟨"_law_hand",top 42,["_law_script","_law_k"],1,λK=>fh K [.v,.v] (cx 2 fV)⟩
def Hd (D:DI v lN) (q:NB v):D.O:=
 UK (m:=fV) D jN λgB k_ _ _ _ _ _ _ hr=>
 (sv 2 jN.nd (uw (cW QW (ae 1) (dC rfl rfl q.len (ae 0))) (aQ rfl (aA (ae 0)) (ae 1)) ao) λlP=>
 (sv 3 jN.nd (qS (Xf rfl q.abs (ae 2)) (VF rfl q.int (L9 acN (Xf rfl q.abs (ae 2)) (Xd ao ao)))) λgE=>
 (SF.iD (aM (n:=3) (aa (ae 3) (aa (qT (qS (bQ rfl (bQ rfl (qT (ae 2) ao) (qS (qS ao (ae 1)) (ae 1))) ao) ao) ao) (aa ao ai))) rfl) λ_=>rfl)))
abbrev bA:DF:=⟨"_law_take",top 43,["_law_hand_here","_law_many_here"],1,λK=>gz K [.p (lS iw),.v] (cx 1 bK)⟩
def Ha (D:DI v bA):D.O:=
 Yv (n:=1) (fnO (n:=1) (m:=iW) D.fn oy rfl λad dB l hl=>match l,hl with | [cI],_=>λ_ _ _ _ _ _ hr=>show SF _ _ _ [ap (.ol (ap ad) dB),ap (.val cI),bm] _ (iW dB cI) _ from
 (SF.IL 0 rfl rfl (.inl rfl) (bQ rfl (aQ rfl (cy 0) ao) ao) ao λaP=>
 (SF.Zr (zN.t (m8 (cW WV (aQ rfl (cy 0) ao) ao) (jJ (cW WU (aQ rfl (cy 0) ao) ao))))
 (sv 2 oy.nd (qT (aQ rfl (cy 0) ao) (ae 1)) λsC=>
 (SF.IL 0 rfl rfl (.inl rfl) (Xe (aQ rfl (cy 0) ao) (ae 1)) ao λfX=>
 (SF.abM 0 (k:=λx8=>(x8,fX)) rfl (ae 2) λ_=>rfl)))
 (SF.IL 0 rfl rfl (.inl rfl) (qT (bQ rfl (bQ rfl (qS (aQ rfl (cy 0) ao) ao) ao) (aQ rfl (cy 0) ao)) ao) ao λcj=>
 (SF.abM 0 (k:=λmB=>(mB,cj)) rfl (qT (Xe (qT (qS (aQ rfl (cy 0) ao) (bQ rfl (qT (aQ rfl (cy 0) ao) ao) ao)) ao) ao) (ae 1)) λ_=>rfl))))) O6
abbrev eQ:DF:=⟨"_law_pick",top 44,["_law_hand_here","_law_some"],2,λK=>gz K [.p (lS iw),.v] (cx 1 bx)⟩
def Hb (D:DI v eQ) (q:NB v) (aJ:bA.C v):D.O:=
 qg (m:=bx) D xx λvO _ _ _ _ _ _ hr=>
 (SF.dF (aQ rfl (aA (ae 1)) (eC aJ hr (cG 0 (aa (dC rfl rfl q.len (ae 1)) ai)))) λ_=>rfl)
abbrev kd:DF:=⟨"_law_words",top 45,["_law_hand_here","_law_many_here"],3,λK=>fh K [.p (lS iw),.v] (cx 1 g8)⟩
def yb (D:DI v kd) (q:NB v) (aJ:bA.C v) (cE:eQ.C v):D.O:=
 YZ (m:=g8) D dU λcI _ _ _ _ _ _ hr=>
 (sv 2 dU.nd gm λme=>
 (SF.MK (az (n:=2) (aa (eC aJ hr (cG 0 (aa ao ai))) (aa (eC cE hr (cG 0 (aa (gp (aM (n:=6) (aa ao (aa ao (aa ao (aa ao (aa ao (aa ao ai)))))) rfl)) ai))) ai)) rfl) (Rx rfl (eB rfl (aB (cC 3 dU.nd) (aB (cC 4 dU.nd) cH)))) λzJ=>
 (sv 5 dU.nd (eC cE hr (cG 0 (aa (gp (aM (n:=5) (aa gm (aa gm (aa gm (aa gm (aa gm ai))))) rfl)) ai))) λrR=>
 (SF.iD (f7 rfl kz (cJ rfl q.range (ae 1)) (λ_ _ _ _ _=>(cC 0 kz.nd)) (λ_ _ _ _ _ ĕ=>(bQ rfl (adK (ae 2) (qT (bQ rfl (ae 1) (qS (ae 4) (ae 0))) ao) (λ_ _=>rfl)) (ae 3))) rfl) λ_=>rfl))))
abbrev fF:DF:=⟨"_law_joined",top 46,["_law_hand_here","_law_some"],2,λK=>gz K [.p (lS iw),.v] (cx 1 cv)⟩
def vi (D:DI v fF) (q:NB v) (aJ:bA.C v):D.O:=
 qg (m:=cv) D cA λvO _ _ _ _ _ _ hr=>
 (sl 1 cA.nd (Y9 rfl rfl q.list (aA (ae 1))) λng=>
 (SF.jZ (hd:=(λ(s3:List PV)=>([ap (.qb (lS iw)),ap (.ol bm s3),bm,bm,bm,bm]:bj))) (s0:=ng) Ay rfl (cJ rfl q.range (wI (uv rfl rfl q.len (cy 1)) ao)) (.refl _) (cC 2 cA.nd) (λs3 XN=>
 (SF.agn 1 3 rfl ⋯ rfl rfl (.inl rfl) cA.nd rfl (C0 rfl) (eC aJ hr (cG 0 (aa (uv rfl rfl q.len (cy 1)) ai))) λt8=>
 (sv 4 cA.nd (eC aJ hr (cG 0 (aa (uv rfl rfl q.len (cy 1)) ai))) λaag=>
 (sv 5 cA.nd (az (n:=2) (aa (ae 3) (aa (aQ rfl (cy 1) (ae 4)) ai)) rfl) λxH=>
 (SF.IL 1 rfl rfl (.inl rfl) (uw (cW (gk rfl (a7 hr)) (eC aJ hr (cG 0 (aa ao ai))) ao) (ae 5) (ZX rfl (ae 5) xI xI (Je (L8 ao)))) (ae 4) λLk=>
 (SF.dM rfl (.keep (.keep (.drop (.drop (.drop (.drop (.refl _))))))))))))) λs3=>
 (SF.dF (aQ rfl (cy 1) ao) λ_=>rfl)))
abbrev kh:DF:=⟨"_law_great",top 47,["_law_hand_here","_law_most"],4,λK=>gz K [.p (lS iw),.v] (cx 1 dw)⟩
def yf (D:DI v kh) (yA:kd.C v) (aJ:bA.C v) (iZ:fF.C v):D.O:=
 qg (m:=dw) D mM λtH _ _ _ _ _ _ hr=>
 (sl 2 mM.nd (lC yA hr (cG 0 (aa (bQ rfl ao (eC aJ hr (cG 0 (aa (ae 1) ai)))) ai))) λdE=>
 SF.cV 2 rfl (SF.dF (az (n:=2) (aa (eC iZ hr (cG 0 (aa (ae 2) ai))) (aa (ae 2) ai)) rfl) λ_=>rfl))
abbrev kg:DF:=⟨"_law_small",top 48,["_law_hand_here","_law_words_here","_law_most"],3,λK=>gz K [.p (lS iw),.v,.v] (cx 2 du)⟩
def ye (D:DI v kg) (q:NB v) (aJ:bA.C v) (cE:eQ.C v) (iZ:fF.C v):D.O:=
 xM (m:=du) D mL λqH tH _ _ _ _ _ _ hr=>
 (SF.lW (i:=3) rfl mL.nd rfl rfl kB (cJ rfl q.range (bQ rfl ao (eC aJ hr (cG 0 (aa (ae 2) ai))))) (λ_ _ _ _ _=>(cC 0 kB.nd)) (λ_ _ _ _ _ p5=>(eC cE hr (cG 1 (aa (ae 2) ai)))) rfl λng=>
 SF.cV 3 rfl (SF.dF (eC iZ hr (cG 0 (aa (ae 3) ai))) λ_=>rfl))
abbrev gI:DF:=⟨"_law_nodes",top 49,["_law_tree"],12,λK=>fh K [.v] (cx 1 (aV 12))⟩
theorem oZ (D:DI v gI) (q:NB v):∀n,iB v.P v.w v.K v.mg v.base mz (n+0) D.f D.fd ["_law_tree"] (fh v.K [.v] (cx 1 (aV n)))
 | 0=>RB (Lg λl Q hl=>match l,hl with | [c9],_=>λh=>h.elim)
 | n+1=>have cM:=D.cN (oZ D q n)
  fnL (k:=n+0) (n:=1) (m:=aV (n+1)) D.fn dW rfl (dY cz) λl hl=>match l,hl with | [c9],_=>λ_ _ _ _ _ _ hr=>show SF _ _ _ [ap (.val c9),bm,bm,bm,bm] _ (aV (n+1) c9) _ from
 (SF.Zr (fJ rfl (iP rfl .str rfl q.isinstance (ae 0) rfl q.str wT) (λ_=>rfl))
 (SF.iD (aM (n:=1) (aa (ae 0) ai) rfl) λ_=>rfl)
 (SF.par (i:=1) (j:=2) rfl dW.nd rfl rfl ⋯ rfl rfl (gp (lC cM hr (aa (aQ rfl (aA (ae 0)) ao) ai))) (gp (lC cM hr (aa (aQ rfl (aA (ae 0)) ao) ai))) λqK oG=>
 (sl 3 dW.nd (aM (n:=0) ai rfl) λpX=>
 (SF.jZ (hd:=(λ(s7:List PV)=>([ap (.val c9),ap (.val qK),ap (.val oG),ap (.ol bm s7),bm]:bj))) (s0:=pX) Ay rfl (bf rfl (bE (ae 2))) (.refl _) (cC 4 dW.nd) (λs7 tE=>
 (SF.ifS (out1:=λ(Ĕ:PV)=>.nx ([ap (.val c9),ap (.val qK),ap (.val oG),ap (.ol bm s7),ap (.val Ĕ)]:bj)) (sS (fJ rfl (iP rfl .str rfl q.isinstance (ae 4) rfl q.str wT) (λ_=>rfl)))
 (sv 4 dW.nd (az (n:=2) (aa (bQ rfl (aQ rfl (aA (ae 4)) ao) (dC rfl rfl q.len (ae 1))) (aa (bQ rfl (aQ rfl (aA (ae 4)) ao) (dC rfl rfl q.len (ae 1))) ai)) rfl) λLC=>
 (SF.nil rfl (.refl _)))
 (SF.nil rfl (.refl _))
 λĔ=>(SF.append 3 rfl rfl rfl (.inl rfl) (ae 4) λsU=>
 (SF.dM rfl (.keep (.keep (.keep (.keep (.drop (.refl _)))))))))) λs7=>
 (SF.iD (lh rfl (bX (lh rfl (jO (ae 1)) (IU 3))) (bX (aM (n:=1) (aa (az (n:=2) (aa (wI (dC rfl rfl q.len (ae 1)) ao) (aa (wI (bQ rfl (dC rfl rfl q.len (ae 1)) (dC rfl rfl q.len (ae 2))) ao) ai)) rfl) ai) rfl))) λ_=>rfl)))))
abbrev kj:DF:=⟨"_law_dates",top 50,["_law_hand_here","_law_great_here"],13,λK=>gz K [.p (lS iw),.v] (cx 1 dA)⟩
def yh (D:DI v kj) (q:NB v) (cM:gI.C v) (cE:eQ.C v) (aJ:bA.C v):D.O:=
 qg (m:=dA) D bb λck _ _ _ _ _ _ hr=>
 (sl 2 bb.nd (lC cM hr (aa (ae 1) ai)) λbJ=>
 SF.cV 2 rfl (sl 3 bb.nd (acA (aM (n:=1) (aa ao ai) rfl) (dC rfl rfl q.len (ae 2))) λyK=>
 (sv 4 bb.nd ao λKr=>
 (SF.X6 (i:=6) rfl bb.nd rfl rfl f6 (o4 rfl rfl q.enumerate (bE (ae 2))) (λ_ _ _ _ _=>(Rx rfl (eB rfl (aB (cC 0 f6.nd) (aB (cC 1 f6.nd) cH))))) (λ_ _ _ _ _ đ=>(sS (fJ rfl (iP rfl .str rfl q.isinstance (ae 1) rfl q.str wT) (λ_=>rfl)))) (λ_ _ _ _ _ đ=>(ae 0)) (US rfl rfl ⋯) ⋯ λlT=>
 (SF.jZ (hd:=(λ(Gj:List PV×PV×List PV)=>([ap (.qb (lS iw)),ap (.val ck),ap (.val (.cl bJ)),ap (.ol bm Gj.1),ap (.val Gj.2.1),bm,ap (.ol bm Gj.2.2),bm,bm]:bj))) (s0:=(yK,Kr,lT)) Ay rfl (cJ rfl q.range (uv rfl rfl q.len (cy 6))) (.refl _) (cC 7 bb.nd) (λGj K1=>
 (sl 8 bb.nd (aM (n:=0) ai rfl) λyH=>
 (SF.adt 6 (hd:=(λaai (Wr:List PV)=>([ap (.qb (lS iw)),ap (.val ck),ap (.val (.cl bJ)),ap (.ol bm Gj.1),ap (.val Gj.2.1),bm,ap (.ol (ap aai) Gj.2.2),ap (.val K1),ap (.ol bm Wr)]:bj))) (s0:=yH) rfl rfl rfl (.inl rfl) Ay rfl (λ_=>(.refl _)) (λ_ _=>rfl) (cC 5 bb.nd) (λaai Wr Ml=>
 (SF.ifT (zN.t (m8 (xl rfl (a7 hr) (aQ rfl (aA (aQ rfl (aA (ae 2)) (ae 5))) ao) (cy 6)) (jJ (xl rfl (a7 hr) (aQ rfl (aA (aQ rfl (aA (ae 2)) (ae 5))) ao) (cy 6)))))
 (SF.append 8 rfl rfl rfl (.inl rfl) (ae 5) λLY=>
 (SF.dM rfl (.keep (.keep (.keep (.keep (.keep (.drop (.refl _)))))))))
 (SF.dM rfl (.keep (.keep (.keep (.keep (.keep (.drop (.refl _)))))))))) λaai Wr=>
 (SF.cV 8 rfl (sv 5 bb.nd (eC cE hr (cG 0 (aa (ae 8) ai))) λSo=>
 (sv 4 bb.nd (bQ rfl (bQ rfl (ae 4) ao) (eC aJ hr (cG 0 (aa ao ai)))) λzc=>
 (SF.IL 3 rfl rfl (.inl rfl) (ae 4) (ae 5) λHv=>
 (SF.remove 6 rfl rfl rfl (.inl rfl) (ae 5) λsM=>
 (SF.dM rfl (.keep (.keep (.keep (.keep (.keep (.drop (.keep (.drop (.drop (.refl _))))))))))))))))))) λGj=>
 (SF.dF (dI rfl rfl q.tuple (cy 3)) λ_=>rfl))))))
abbrev kf:DF:=⟨"_law_stays",top 51,["_law_hand_here","_law_great_here"],14,λK=>gz K [.p (lS iw),.v] (cx 1 e6)⟩
def yd (D:DI v kf) (aJ:bA.C v) (Rv:uz.C v) (Vq:zf.C v) (yG:kj.C v):D.O:=
 qg (m:=e6) D u5 λck _ _ _ _ _ _ hr=>
 (SF.Zr (cW (gk rfl (a7 hr)) (eC aJ hr (cG 0 (aa ao ai))) ao)
 (SF.dF (eC Rv hr (aa (ae 1) ai)) λ_=>rfl)
 (SF.dF (eC Vq hr (aa (ae 1) (aa (eC yG hr (cG 0 (aa (ae 1) ai))) ai))) λ_=>rfl))
abbrev i8:DF:=⟨"_law_prices",top 52,["_law_hand_here"],3,λK=>gz K [.p (lS iw)] (cx 0 cY)⟩
def vh (D:DI v i8) (q:NB v) (aJ:bA.C v) (cE:eQ.C v):D.O:=
 agx (m:=cY) D di λ_ _ _ _ _ _ hr=>
 (sl 1 di.nd (aM (n:=0) ai rfl) λgF=>
 (SF.jZ (hd:=(λ(s3:List PV)=>([ap (.qb (lS iw)),ap (.ol bm s3),bm,bm]:bj))) (s0:=gF) Ay rfl (cJ rfl q.range ao) (.refl _) (cC 2 di.nd) (λs3 k_4=>
 (sl 3 di.nd (aM (n:=7) (aa ao (aa ao (aa ao (aa ao (aa ao (aa (eC aJ hr (cG 0 (aa ao ai))) (aa (eC aJ hr (cG 0 (aa ao ai))) ai))))))) rfl) λPj=>
 SF.cV 3 rfl (sl 3 di.nd (lh rfl (jO (ae 3)) (bX (aM (n:=2) (aa ao (aa (bQ rfl (Xd ao ao) (eC aJ hr (cG 0 (aa ao ai)))) ai)) rfl))) λLj=>
 SF.cV 3 rfl (SF.append 1 rfl rfl rfl (.inl rfl) (eC cE hr (cG 0 (aa (ae 3) ai))) λlE=>
 (SF.dM rfl (.keep (.keep (.drop (.drop (.refl _)))))))))) λs3=>
 (SF.dF (dI rfl rfl q.tuple (cy 1)) λ_=>rfl)))
abbrev ki:DF:=⟨"_law_deeds",top 53,["_law_stays_here","_law_told","_law_node","_law_at"],1,λK=>fh K [.v,.v,.v,.v] (cx 4 dz)⟩
def yg (D:DI v ki) (q:NB v):D.O:=
 acs (m:=dz) D br λak bu a9 È _ _ _ _ _ _ hr=>
 (SF.MK (aQ rfl (aA (ae 0)) (ae 3)) (g_4 rfl (eB rfl (aB (cC 4 br.nd) (aB (cC 5 br.nd) (aB (cC 6 br.nd) (aB (cC 7 br.nd) cH)))))) λt3=>
 (SF.Zr (fJ rfl (iP rfl .str rfl q.isinstance (aQ rfl (aA (ae 1)) (ae 2)) rfl q.str wT) (λ_=>rfl))
 (SF.iD (UX (zN.t (m8 (cW (gk rfl (a7 hr)) (ae 6) (az (n:=0) ai rfl)) (jJ (cW (gk rfl (a7 hr)) (ae 4) (aQ rfl (aA (ae 1)) (ae 2)))))) (aM (n:=1) (aa (az (n:=2) (aa pj (aa (gp (aM (n:=0) ai rfl)) ai)) rfl) ai) rfl) (aM (n:=0) ai rfl)) λ_=>rfl)
 (SF.MK (aQ rfl (aA (ae 1)) (ae 2)) (Rx rfl (eB rfl (aB (cC 8 br.nd) (aB (cC 9 br.nd) cH)))) λt8=>
 (sl 10 br.nd (aM (n:=1) (aa (az (n:=2) (aa ao (aa (gp (aM (n:=2) (aa (az (n:=2) (aa (ae 8) (aa (ae 3) ai)) rfl) (aa (az (n:=2) (aa (ae 9) (aa (ae 3) ai)) rfl) ai)) rfl)) ai)) rfl) ai) rfl) λyJ=>
 (SF.jZ (hd:=(λ(uQ:List PV)=>([ap (.val ak),ap (.val bu),ap (.val a9),ap (.val È),ap (.val t3.1),ap (.val t3.2.1),ap (.val t3.2.2.1),ap (.val t3.2.2.2),ap (.val t8.1),ap (.val t8.2),ap (.ol bm uQ),bm]:bj))) (s0:=yJ) Ay rfl (bf rfl (bE (ae 7))) (.refl _) (cC 11 br.nd) (λuQ O3=>
 (SF.append 10 rfl rfl rfl (.inl rfl) (az (n:=2) (aa ao (aa (gp (aM (n:=2) (aa (az (n:=2) (aa (ae 8) (aa (ae 3) ai)) rfl) (aa (az (n:=2) (aa (ae 9) (aa (ae 11) ai)) rfl) ai)) rfl)) ai)) rfl) λlE=>
 (SF.append 10 rfl rfl rfl (.inl rfl) (az (n:=2) (aa ao (aa (gp (aM (n:=2) (aa (az (n:=2) (aa (ae 8) (aa (ae 11) ai)) rfl) (aa (az (n:=2) (aa (ae 9) (aa (ae 3) ai)) rfl) ai)) rfl)) ai)) rfl) λHu=>
 (SF.dM rfl (.keep (.keep (.keep (.keep (.keep (.keep (.keep (.keep (.keep (.keep (.keep (.drop (.refl _))))))))))))))))) λuQ=>
 (SF.ifS (out1:=λ(ē:List PV)=>.nx ([ap (.val ak),ap (.val bu),ap (.val a9),ap (.val È),ap (.val t3.1),ap (.val t3.2.1),ap (.val t3.2.2.1),ap (.val t3.2.2.2),ap (.val t8.1),ap (.val t8.2),ap (.ol bm ē),bm]:bj)) (cW (gk rfl (a7 hr)) (dC rfl rfl q.len (ae 6)) ao)
 (SF.append 10 rfl rfl rfl (.inl rfl) (az (n:=2) (aa ao (aa (gp (aM (n:=2) (aa (az (n:=2) (aa (ae 8) (aa (aQ rfl (aA (ae 6)) ao) ai)) rfl) (aa (az (n:=2) (aa (ae 9) (aa (aQ rfl (aA (ae 6)) ao) ai)) rfl) ai)) rfl)) ai)) rfl) λHt=>
 (SF.append 10 rfl rfl rfl (.inl rfl) (az (n:=2) (aa ao (aa (gp (aM (n:=2) (aa (az (n:=2) (aa (ae 8) (aa (aQ rfl (aA (ae 6)) ao) ai)) rfl) (aa (az (n:=2) (aa (ae 9) (aa (aQ rfl (aA (ae 6)) ao) ai)) rfl) ai)) rfl)) ai)) rfl) λHs=>
 (SF.nil rfl (.refl _))))
 (SF.nil rfl (.refl _))
 λē=>(SF.TC 10 rfl rfl)))))))
abbrev ke:DF:=⟨"_law_steps",top 54,["_law_stays_here","_law_node","_law_at"],1,λK=>fh K [.v,.v,.v] (cx 3 eZ)⟩
def yc (D:DI v ke) (q:NB v):D.O:=
 YY (m:=eZ) D iV λak a9 È _ _ _ _ _ _ hr=>
 (sv 3 iV.nd (aQ rfl (aA (aQ rfl (aA (ae 0)) (ae 2))) ao) λgq=>
 (sv 4 iV.nd (uw (cW (gk rfl (a7 hr)) (dC rfl rfl q.len (ae 3)) ao) ao pj) λLr=>
 (SF.iD (f7 rfl kA (bf rfl (bE (ae 3))) (λ_ _ _ _ _=>(cC 0 kA.nd)) (λ_ _ _ _ _ p4=>(az (n:=2) (aa (ae 2) (aa (gp (aM (n:=1) (aa (az (n:=2) (aa (ae 1) (aa (ae 0) ai)) rfl) ai) rfl)) ai)) rfl)) rfl) λ_=>rfl)))
abbrev nQ:DF:=⟨"_law_all",top 55,["_law_stays_here","_law_told","_law_node","_law_at"],50,λK=>fh K [.v,.v,.v,.v] (cx 4 (bP 50))⟩
theorem t6 (D:DI v nQ) (q:NB v):∀n,iB v.P v.w v.K v.mg v.base mz (n+0) D.f D.fd ["_law_stays_here","_law_told","_law_node","_law_at"] (fh v.K [.v,.v,.v,.v] (cx 4 (bP n)))
 | 0=>RB (Lg λl Q hl=>match l,hl with | [ak,bu,a9,È],_=>λh=>h.elim)
 | n+1=>have ig:=D.cN (t6 D q n)
  fnL (k:=n+0) (n:=4) (m:=bP (n+1)) D.fn aO rfl (dY (dY (dY (dY cz)))) λl hl=>match l,hl with | [ak,bu,a9,È],_=>λ_ _ _ _ _ _ hr=>show SF _ _ _ [ap (.val ak),ap (.val bu),ap (.val a9),ap (.val È),bm,bm,bm,bm,bm,bm,bm,bm,bm,bm,bm,bm,bm,bm,bm] _ (bP (n+1) ak bu a9 È) _ from
 (sl 4 aO.nd (aM (n:=0) ai rfl) λgF=>
 (sv 5 aO.nd (aQ rfl (aA (ae 1)) (ae 2)) λgN=>
 (SF.MK (aQ rfl (aA (ae 0)) (ae 3)) (g_4 rfl (eB rfl (aB (cC 6 aO.nd) (aB (cC 7 aO.nd) (aB (cC 8 aO.nd) (aB (cC 9 aO.nd) cH)))))) λt4=>
 (SF.ifS (out1:=λ(õ:List PV)=>.nx ([ap (.val ak),ap (.val bu),ap (.val a9),ap (.val È),ap (.ol bm õ),ap (.val gN),ap (.val t4.1),ap (.val t4.2.1),ap (.val t4.2.2.1),ap (.val t4.2.2.2),bm,bm,bm,bm,bm,bm,bm,bm,bm]:bj)) (fJ rfl (iP rfl .str rfl q.isinstance (ae 5) rfl q.str wT) (λ_=>rfl))
 (sl 4 aO.nd (UX (zN.t (m8 (cW (gk rfl (a7 hr)) (ae 8) (az (n:=0) ai rfl)) (jJ (cW (gk rfl (a7 hr)) (ae 6) (ae 5))))) (aM (n:=1) (aa (az (n:=2) (aa (az (n:=1) (aa (ae 3) ai) rfl) (aa gm ai)) rfl) ai) rfl) (aM (n:=0) ai rfl)) λHr=>
 (SF.nil rfl (.refl _)))
 (sl 10 aO.nd (aM (n:=1) (aa (az (n:=3) (aa gm (aa (ae 3) (aa (ae 3) ai))) rfl) ai) rfl) λxt=>
 (SF.jZ (hd:=(λ(Wq:List PV)=>([ap (.val ak),ap (.val bu),ap (.val a9),ap (.val È),ap (.ol bm gF),ap (.val gN),ap (.val t4.1),ap (.val t4.2.1),ap (.val t4.2.2.1),ap (.val t4.2.2.2),ap (.ol bm Wq),bm,bm,bm,bm,bm,bm,bm,bm]:bj))) (s0:=xt) Ay rfl (bf rfl (bE (ae 9))) (.refl _) (cC 11 aO.nd) (λWq O2=>
 (sl 10 aO.nd (lh rfl (IU 10) (bX (aM (n:=2) (aa (az (n:=3) (aa gm (aa (ae 3) (aa (ae 11) ai))) rfl) (aa (az (n:=3) (aa gm (aa (ae 11) (aa (ae 3) ai))) rfl) ai)) rfl))) λLi=>
 (SF.dM rfl (.keep (.keep (.keep (.keep (.keep (.keep (.keep (.keep (.keep (.keep (.keep (.drop (.refl _)))))))))))))))) λWq=>
 (SF.ifS (out1:=λ(MU:List PV)=>.nx ([ap (.val ak),ap (.val bu),ap (.val a9),ap (.val È),ap (.ol bm gF),ap (.val gN),ap (.val t4.1),ap (.val t4.2.1),ap (.val t4.2.2.1),ap (.val t4.2.2.2),ap (.ol bm MU),bm,bm,bm,bm,bm,bm,bm,bm]:bj)) (cW (gk rfl (a7 hr)) (dC rfl rfl q.len (ae 8)) ao)
 (SF.append 10 rfl rfl rfl (.inl rfl) (az (n:=3) (aa gm (aa (aQ rfl (aA (ae 8)) ao) (aa (aQ rfl (aA (ae 8)) ao) ai))) rfl) λoo=>
 (SF.append 10 rfl rfl rfl (.inl rfl) (az (n:=3) (aa gm (aa (aQ rfl (aA (ae 8)) ao) (aa (aQ rfl (aA (ae 8)) ao) ai))) rfl) λom=>
 (SF.nil rfl (.refl _))))
 (SF.nil rfl (.refl _))
 λMU=>(SF.cV 10 rfl (SF.Rz (hd:=(λ(Gk:List PV)=>([ap (.val ak),ap (.val bu),ap (.val a9),ap (.val È),ap (.ol bm Gk),ap (.val gN),ap (.val t4.1),ap (.val t4.2.1),ap (.val t4.2.2.1),ap (.val t4.2.2.2),ap (.val (.cl MU)),bm,bm,bm,bm,bm,bm,bm,bm]:bj))) (s0:=gF) Ay rfl (bf rfl (bE (ae 10))) (.refl _) (λ_=>(g_3 rfl (eB rfl (aB (cC 12 aO.nd) (aB (cC 13 aO.nd) (aB (cC 14 aO.nd) cH)))))) (λGk IC=>
 (sl 15 aO.nd (lC ig hr (aa (ae 0) (aa (ae 1) (aa (aQ rfl (aA (ae 5)) ao) (aa (ae 14) ai))))) λnj=>
 SF.cV 15 rfl (SF.jZ (hd:=(λ(IQ:List PV)=>([ap (.val ak),ap (.val bu),ap (.val a9),ap (.val È),ap (.ol bm IQ),ap (.val gN),ap (.val t4.1),ap (.val t4.2.1),ap (.val t4.2.2.1),ap (.val t4.2.2.2),ap (.val (.cl MU)),bm,ap (.val IC.1),ap (.val IC.2.1),ap (.val IC.2.2),ap (.val (.cl nj)),bm,bm,bm]:bj))) (s0:=Gk) Ay rfl (bf rfl (wu (lC ig hr (aa (ae 0) (aa (ae 1) (aa (aQ rfl (aA (ae 5)) ao) (aa (ae 13) ai))))))) (.refl _) (cC 16 aO.nd) (λIQ LA=>
 (SF.extend 4 rfl rfl rfl (.inl rfl) (tm (f7 rfl mW (bf rfl (bE (ae 15))) (λ_ _ _ _ _=>(cC 0 mW.nd)) (λ_ _ _ _ _ Uj=>(az (n:=4) (aa (az (n:=1) (aa (ae 1) ai) rfl) (aa (ae 2) (aa (ae 3) (aa (ae 0) ai)))) rfl)) rfl)) λwA=>
 (SF.dM rfl (.keep (.keep (.keep (.keep (.keep (.keep (.keep (.keep (.keep (.keep (.keep (.keep (.keep (.keep (.keep (.keep (.drop (.refl _))))))))))))))))))))) λIQ=>
 (SF.dM rfl (.keep (.keep (.keep (.keep (.keep (.keep (.keep (.keep (.keep (.keep (.keep (.keep (.drop (.drop (.drop (.drop (.refl _))))))))))))))))))))) λGk=>
 (SF.nil rfl (.keep (.keep (.keep (.keep (.keep (.keep (.keep (.keep (.keep (.keep (.drop (.refl _))))))))))))))))))
 λõ=>(SF.jZ (hd:=(λ(xy:List PV)=>([ap (.val ak),ap (.val bu),ap (.val a9),ap (.val È),ap (.ol bm xy),ap (.val gN),ap (.val t4.1),ap (.val t4.2.1),ap (.val t4.2.2.1),ap (.val t4.2.2.2),bm,bm,bm,bm,bm,bm,bm,bm,bm]:bj))) (s0:=õ) Ay rfl (bf rfl (bE (ae 8))) (.refl _) (cC 17 aO.nd) (λxy mx=>
 (sl 18 aO.nd (lC ig hr (aa (ae 0) (aa (ae 1) (aa (ae 2) (aa (ae 17) ai))))) λn6=>
 SF.cV 18 rfl (SF.extend 4 rfl rfl rfl (.inl rfl) (tm (f7 rfl mV (bf rfl (bE (ae 18))) (λ_ _ _ _ _=>(cC 0 mV.nd)) (λ_ _ _ _ _ M3=>(bQ rfl (az (n:=1) (aa (bQ rfl (az (n:=1) (aa (ae 1) ai) rfl) (aQ rfl (aA (ae 0)) ao)) ai) rfl) (Xc rfl (ae 0) (Je ao) xI))) rfl)) λmh=>
 (SF.dM rfl (.keep (.keep (.keep (.keep (.keep (.keep (.keep (.keep (.keep (.keep (.keep (.keep (.keep (.keep (.keep (.keep (.keep (.drop (.drop (.refl _)))))))))))))))))))))))) λxy=>
 (SF.TC 4 rfl rfl))))))
abbrev lM:DF:=⟨"_law_many",top 56,["_law_stays_here","_law_told"],2,λK=>gz K [.v,.v] (cx 2 fU)⟩
def Hc (D:DI v lM) (q:NB v) (yF:ki.C v) (yB:ke.C v):D.O:=
 xM (m:=fU) D a8 λak bu _ _ _ _ _ _ hr=>
 (SF.abF (i:=2) a8.nd rfl (C0 rfl)
 (SF.jZ (hd:=(λ(s3:List (List Key×PV))=>([ap (.val ak),ap (.val bu),ap (.ot s3),bm,bm,bm,bm,bm,bm,bm,bm]:bj))) (s0:=[]) Ay rfl (cJ rfl q.range (dC rfl rfl q.len (ae 1))) (.refl _) (cC 3 a8.nd) (λs3 eV=>
 (SF.jZ (hd:=(λ(s6:List (List Key×PV))=>([ap (.val ak),ap (.val bu),ap (.ot s6),ap (.val eV),bm,bm,bm,bm,bm,bm,bm]:bj))) (s0:=s3) Ay rfl (cJ rfl q.range (dC rfl rfl q.len (ae 0))) (.refl _) (cC 4 a8.nd) (λs6 Oe=>
 (sv 5 a8.nd ao λxg=>
 (sl 6 a8.nd (lC yF hr (aa (ae 0) (aa (ae 1) (aa (ae 3) (aa (ae 4) ai))))) λxr=>
 SF.cV 6 rfl (SF.Rz (hd:=(λ(uQ:PV)=>([ap (.val ak),ap (.val bu),ap (.ot s6),ap (.val eV),ap (.val Oe),ap (.val uQ),ap (.val (.cl xr)),bm,bm,bm,bm]:bj))) (s0:=xg) Ay rfl (bf rfl (wu (lh rfl (jO (ae 6)) (bX (lC yB hr (aa (ae 0) (aa (ae 3) (aa (ae 4) ai)))))))) (.refl _) (λ_=>(Rx rfl (eB rfl (aB (cC 7 a8.nd) (aB (cC 8 a8.nd) cH))))) (λuQ Đ=>
 (sv 9 a8.nd ao λjT=>
 (SF.jZ (hd:=(λ(Tv:PV)=>([ap (.val ak),ap (.val bu),ap (.ot s6),ap (.val eV),ap (.val Oe),ap (.val uQ),ap (.val (.cl xr)),ap (.val Đ.1),ap (.val Đ.2),ap (.val Tv),bm]:bj))) (s0:=jT) Ay rfl (bf rfl (bE (ae 8))) (.refl _) (cC 10 a8.nd) (λTv pe=>
 (sv 9 a8.nd (qS (ae 9) (Z1 2 rfl (a7 hr) (ae 10) (hsl:=λ_ _=>rfl))) λgD=>
 (SF.dM rfl (.keep (.keep (.keep (.keep (.keep (.keep (.keep (.keep (.keep (.keep (.drop (.refl _))))))))))))))) λTv=>
 (sv 5 a8.nd (bQ rfl (ae 5) (ae 9)) λzZ=>
 (SF.dM rfl (.keep (.keep (.keep (.keep (.keep (.keep (.keep (.drop (.drop (.drop (.refl _)))))))))))))))) λuQ=>
 (SF.Gm 2 rfl (a7 hr) rfl (.inl rfl) (ae 5) (az (n:=2) (aa (ae 3) (aa (ae 4) ai)) rfl) λG4=>
 (SF.dM rfl (.keep (.keep (.keep (.keep (.drop (.drop (.drop (.refl _)))))))))))))) λs6=>
 (SF.dM rfl (.keep (.keep (.keep (.drop (.refl _)))))))) λs3=>
 (SF.dF (Kb rfl rfl rfl q.sum (bX (Y7 2 rfl rfl rfl q.list))) λ_=>rfl)))
abbrev lO:DF:=⟨"_law_cost",top 57,["_law_stays_here","_law_prices_here","_law_way"],8,λK=>gz K [.v,.v,.v] (cx 3 (bM 8))⟩
theorem qO (D:DI v lO) (q:NB v):∀n,iB v.P v.w v.K v.mg v.base mz (n+0) D.f D.fd ["_law_stays_here","_law_prices_here","_law_way"] (gz v.K [.v,.v,.v] (cx 3 (bM n)))
 | 0=>RB (X3 λl Q hl=>match l,hl with | [ak,aZ,xb],_=>λh=>h.elim)
 | n+1=>have iK:=D.cN (qO D q n)
  fnV (k:=n+0) (n:=3) (m:=bM (n+1)) D.fn gC rfl (dY (dY (dY cz))) λl hl=>match l,hl with | [ak,aZ,xb],_=>λ_ _ _ _ _ _ hr=>show SF _ _ _ [ap (.val ak),ap (.val aZ),ap (.val xb),bm] _ (bM (n+1) ak aZ xb) _ from
 (sv 3 gC.nd (Kb rfl rfl rfl q.sum (bX (LO rfl lg (bf rfl (bE (Xc rfl (aQ rfl (aA (ae 2)) ao) xI (Je (L8 ao))))) (λ_ _ _ _ _=>(cC 0 lg.nd)) (λ_ _ _ _ _ p6=>(cW (gk rfl (a7 hr)) (dC rfl rfl q.len (aQ rfl (aA (aQ rfl (aA (ae 2)) (ae 0))) ao)) ao)) (λ_ _ _ _ _ p6=>(aQ rfl (aA (ae 1)) ao)) rfl))) λxh=>
 (SF.Zr (cW (gk rfl (a7 hr)) (aQ rfl (aA (ae 2)) ao) gm)
 (SF.dF (ae 3) λ_=>rfl)
 (sv 3 gC.nd (bQ rfl (ae 3) (aQ rfl (aA (ae 1)) (VI rfl (a7 hr) (bX (aM (n:=3) (aa gm (aa gm (aa gm ai))) rfl)) (aQ rfl (aA (ae 2)) ao)))) λK2=>
 (sv 3 gC.nd (bQ rfl (ae 3) (eC iK hr (aa (ae 0) (aa (ae 1) (aa (aQ rfl (aA (ae 2)) ao) ai))))) λz0=>
 (SF.dF (bQ rfl (ae 3) (eC iK hr (aa (ae 0) (aa (ae 1) (aa (aQ rfl (aA (ae 2)) ao) ai))))) λ_=>rfl)))))
abbrev nN:DF:=⟨"_law_few",top 58,["_law_hand_here","_law_great_most"],15,λK=>gz K [.p (lS iw),.v] (cx 1 hE)⟩
def JH (D:DI v nN) (q:NB v) (yE:kh.C v) (yC:kf.C v) (yD:kg.C v) (Ho:lM.C v) (cM:gI.C v) (aJ:bA.C v) (vq:i8.C v):D.O:=
 qg (m:=hE) D dj λlA _ _ _ _ _ _ hr=>
 (SF.MK (eC yE hr (cG 0 (aa (ae 1) ai))) (Rx rfl (eB rfl (aB (cC 2 dj.nd) (aB (cC 3 dj.nd) cH)))) λt3=>
 (sv 4 dj.nd (eC yC hr (cG 0 (aa (ae 2) ai))) λgr=>
 (sv 5 dj.nd (eC yD hr (cG 0 (aa (ae 3) (aa ao ai)))) λjM=>
 (SF.jZ (hd:=(λ(SK:PV)=>([ap (.qb (lS iw)),ap (.val lA),ap (.val t3.1),ap (.val t3.2),ap (.val gr),ap (.val SK),bm]:bj))) (s0:=jM) Ay rfl (cJ rfl q.range ao) (.refl _) (cC 6 dj.nd) (λSK S7=>
 (SF.ifT (cW WV (eC Ho hr (aa (ae 4) (aa (gp (lC cM hr (aa (ae 5) ai))) ai))) ao)
 (sv 5 dj.nd (aQ rfl (aA (ae 5)) (eC aJ hr (cG 0 (aa ao ai)))) λmJ=>
 (SF.dM rfl (.keep (.keep (.keep (.keep (.keep (.keep (.drop (.refl _))))))))))
 (SF.dM rfl (.keep (.keep (.keep (.keep (.keep (.keep (.drop (.refl _))))))))))) λSK=>
 (SF.dF (az (n:=4) (aa (ae 4) (aa (ae 5) (aa (gp (lC cM hr (aa (ae 5) ai))) (aa (eC vq hr (cG 0 ai)) ai)))) rfl) λ_=>rfl)))))
abbrev gh:DF:=⟨"_law_is_table",top 59,["_law_found","_law_due_here"],1,λK=>gz K [.v,.v] (cx 2 dc)⟩
def rA (D:DI v gh) (q:NB v):D.O:=
 xM (m:=dc) D jn λjY qC _ _ _ _ _ _ hr=>
 (SF.Zr (zN.t (OZ (sS (fJ rfl (iP rfl .tup rfl q.isinstance (ae 0) rfl q.tuple boot_tuple) (λ_=>rfl))) (Iy (cW (WS rfl (a7 hr)) (ae 0) (ae 1)))))
 (SF.dF R5 λ_=>rfl)
 (SF.RA (hd:=(λ(s1:Unit)=>([ap (.val jY),ap (.val qC),bm]:bj))) (s0:=()) (inj:=id) Ay rfl (bf rfl (bE (ae 0))) (.refl _) (cC 2 jn.nd) (λ_=>trivial) (λs1 vP=>
 (SF.ifT (zN.t (OZ (sS (fJ rfl (iP rfl .tup rfl q.isinstance (ae 2) rfl q.tuple boot_tuple) (λ_=>rfl))) (Iy (fJ rfl (adM rfl rfl rfl q.any (bX (f7 rfl hZ (bf rfl (bE (ae 2))) (λ_ _ _ _ _=>(cC 0 hZ.nd)) (λ_ _ _ _ _ p4=>(iP rfl .bool rfl q.isinstance (ae 0) rfl q.bool boot_bool)) rfl))) (λ_=>rfl)))))
 (SF.ret (k:=λx5=>(Lp.out x5)) R5 λ_=>rfl)
 (SF.dM rfl (.keep (.keep (.drop (.refl _))))))) λs1=>
 (SF.dF R5 λ_=>rfl)))
abbrev nP:DF:=⟨"_law_due",top 60,["_law_stays_here","_law_told","_law_prices_here"],51,λK=>gz K [.v,.v,.v] (cx 3 e7)⟩
def JI (D:DI v nP) (q:NB v) (ig:nQ.C v) (iK:lO.C v):D.O:=
 UJ (m:=e7) D dm λak bu aZ _ _ _ _ _ _ hr=>
 (sl 3 dm.nd (aM (n:=0) ai rfl) λnh=>
 (SF.jZ (hd:=(λ(s3:List PV)=>([ap (.val ak),ap (.val bu),ap (.val aZ),ap (.ol bm s3),bm,bm,bm,bm,bm]:bj))) (s0:=nh) Ay rfl (cJ rfl q.range (dC rfl rfl q.len (ae 1))) (.refl _) (cC 4 dm.nd) (λs3 eV=>
 (sl 5 dm.nd (aM (n:=0) ai rfl) λPp=>
 (SF.jZ (hd:=(λ(s7:List PV)=>([ap (.val ak),ap (.val bu),ap (.val aZ),ap (.ol bm s3),ap (.val eV),ap (.ol bm s7),bm,bm,bm]:bj))) (s0:=Pp) Ay rfl (cJ rfl q.range (dC rfl rfl q.len (ae 0))) (.refl _) (cC 6 dm.nd) (λs7 ad1=>
 (sl 7 dm.nd (lC ig hr (aa (ae 0) (aa (ae 1) (aa (ae 4) (aa (ae 6) ai))))) λOQ=>
 SF.cV 7 rfl (SF.lW (i:=8) rfl dm.nd rfl rfl mU (bf rfl (bE (ae 7))) (λ_ _ _ _ _=>(cC 0 mU.nd)) (λ_ _ _ _ _ Ė=>(eC iK hr (aa (ae 2) (aa (ae 1) (aa (ae 0) ai))))) rfl λuC=>
 SF.cV 8 rfl (SF.append 5 rfl rfl rfl (.inl rfl) (uw (abg rfl (a7 hr) (jO (ae 8))) (ZY rfl rfl rfl q.min (jO (ae 8))) pj) λPq=>
 (SF.dM rfl (.keep (.keep (.keep (.keep (.keep (.keep (.drop (.drop (.drop (.refl _))))))))))))))) λs7=>
 (SF.append 3 rfl rfl rfl (.inl rfl) (dI rfl rfl q.tuple (cy 5)) λLm=>
 (SF.dM rfl (.keep (.keep (.keep (.keep (.drop (.drop (.refl _)))))))))))) λs3=>
 (SF.dF (dI rfl rfl q.tuple (cy 3)) λ_=>rfl)))
abbrev Xi:DF:=⟨"law",top 61,["_law_script"],52,λK=>gz K [.v] (cx 1 oT)⟩
def acM (D:DI v Xi) (q:NB v) (JY:nN.C v) (Hq:lN.C v) (JZ:nP.C v) (rE:gh.C v) (Vp:zd.C v):D.O:=
 qg (m:=oT) D kS λgB _ _ _ _ _ _ hr=>
 (SF.RA (hd:=(λ(s6:Unit)=>([ap (.val gB),bm,bm,bm,bm,bm,bm,bm]:bj))) (s0:=()) (inj:=id) Ay rfl (cJ rfl q.range (adI rfl rfl q.max ao (adH rfl rfl q.min ao (dC rfl rfl q.len (ae 0))))) (.refl _) (cC 1 kS.nd) (λ_=>trivial) (λs6 Ĳ=>
 (SF.MK (VM JY hr (lC Hq hr (aa (ae 0) (aa (ae 1) ai))) (aa ao ai)) (g_4 rfl (eB rfl (aB (cC 2 kS.nd) (aB (cC 3 kS.nd) (aB (cC 4 kS.nd) (aB (cC 5 kS.nd) cH)))))) λzJ=>
 (sv 6 kS.nd (eC JZ hr (aa (ae 2) (aa (ae 4) (aa (ae 5) ai)))) λlG=>
 (SF.RA (hd:=(λ(uQ:Unit)=>([ap (.val gB),ap (.val Ĳ),ap (.val zJ.1),ap (.val zJ.2.1),ap (.val zJ.2.2.1),ap (.val zJ.2.2.2),ap (.val lG),bm]:bj))) (s0:=()) (inj:=Lp.out) Ay rfl (cJ rfl q.range ao) (.refl _) (cC 7 kS.nd) (λ_=>trivial) (λuQ S6=>
 (SF.ifT (sS (fJ rfl (eC rE hr (aa (eC Vp hr (aa (ae 2) (aa (ae 3) (aa (ae 5) ai)))) (aa (ae 6) ai))) (λ_=>rfl)))
 (SF.ret (k:=λMr=>(Lp.out Mr)) R5 λ_=>rfl)
 (SF.dM rfl (.keep (.keep (.keep (.keep (.keep (.keep (.keep (.drop (.refl _)))))))))))) λuQ=>
 (SF.dM rfl (.keep (.drop (.drop (.drop (.drop (.drop (.drop (.refl _))))))))))))) λs6=>
 (SF.dF R5 λ_=>rfl))
end
open PySem PySem.Spec PyProof.Rows L2 PL FL
def all_d {K:Ab} (X:K.In h) (G:h.Ns ev mg) (Kf:DX K "parts_of" (top 1)) (VH:DX K "nodes" (top 2)) (RZ:DX K "halves" (top 3)) (Kk:DX K "ahead_of" (top 4)) (Ka:DX K "under_at" (top 9)) (HE:DX K "beside_at" (top 10)) (NS:DX K "is_home" (top 11)) (NR:DX K "name_of" (top 12)) (Kh:DX K "lines_up" (top 13)) (yV:DX K "apart_from" (top 14)) (R0:DX K "ground" (top 15)) (HC:DX K "split_ins" (top 22)) (Kg:DX K "over_ins" (top 23)) (Ki:DX K "deeds_at" (top 24)) (RV:DX K "summed" (top 27)) (Kj:DX K "cheapest" (top 28)) (Ke:DX K "price_of" (top 29)) (HD:DX K "deed_cost" (top 30)) (yU:DX K "deed_costs" (top 31)) (HB:DX K "step_cost" (top 32)) (yR:DX K "step_costs" (top 33)) (RX:DX K "row_of" (top 34)) (VG:DX K "table" (top 35)) (vt:DX K "split_dates" (top 37)) (Kc:DX K "standing" (top 38)) (NQ:DX K "stay_of" (top 39)) (VJ:DX K "dated" (top 40)) (HI:DX K "_law_hand" (top 42)) (HF:DX K "_law_take" (top 43)) (HG:DX K "_law_pick" (top 44)) (yW:DX K "_law_words" (top 45)) (vz:DX K "_law_joined" (top 46)) (y7:DX K "_law_great" (top 47)) (yZ:DX K "_law_small" (top 48)) (y6:DX K "_law_nodes" (top 49)) (y9:DX K "_law_dates" (top 50)) (yY:DX K "_law_stays" (top 51)) (vv:DX K "_law_prices" (top 52)) (y8:DX K "_law_deeds" (top 53)) (yX:DX K "_law_steps" (top 54)) (Kn:DX K "_law_all" (top 55)) (HH:DX K "_law_many" (top 56)) (HJ:DX K "_law_cost" (top 57)) (Kl:DX K "_law_few" (top 58)) (rG:DX K "_law_is_table" (top 59)) (Km:DX K "_law_due" (top 60)) (pw:AH K ev "UNDER"=ap (ap (.int 2 K5))) (lQ:AH K ev "BESIDE"=ap (ap (.int 3 Fl))) (uE:AH K ev "NAME"=ap (ap (.int 0 Pa))) (pA:AH K ev "FOUND"=ap (ap (.str "found" K7))) (pz:AH K ev "SPLIT"=ap (ap (.str "split" K6))) (uD:AH K ev "OVER"=ap (ap (.str "over" O9))) (jG:AH K ev "DOUBLED"=ap (ap (.str "doubled" vK))) (mr:AH K ev "DEEDS"=ap (ap (.ref sD))) (sh:Sx K sD ["split","doubled","over"]) (uF:AH K ev "LOST"=ap (ap (.int 3 Pb))) (w6:AH K ev "isinstance"=ap bm) (aa1:AH K ev "str"=ap bm) (Xv:AH K ev "list"=ap bm) (Iq:AH K ev "reversed"=ap bm) (aa4:AH K ev "len"=ap bm) (SY:AH K ev "tuple"=ap bm) (zR:AH K ev "enumerate"=ap bm) (S0:AH K ev "range"=ap bm) (OC:AH K ev "sorted"=ap bm) (aa0:AH K ev "sum"=ap bm) (aa2:AH K ev "min"=ap bm) (aaZ:AH K ev "zip"=ap bm) (Xw:AH K ev "dict"=ap bm) (aa7:AH K ev "abs"=ap bm) (aa5:AH K ev "int"=ap bm) (Xx:AH K ev "bool"=ap bm) (aa6:AH K ev "any"=ap bm) (aa3:AH K ev "max"=ap bm):aea K mg Xi:=by
 constructor
 rintro v rfl rfl D;have q:NB v:=⟨AJ X G w6,AJ X G aa1,AJ X G Xv,AJ X G Iq,AJ X G aa4,AJ X G SY,AJ X G zR,AJ X G S0,AJ X G OC,AJ X G aa0,AJ X G aa2,AJ X G aaZ,AJ X G Xw,AJ X G aa7,AJ X G aa5,AJ X G Xx,AJ X G aa6,AJ X G aa3⟩;replace pw:=BV X G pw;replace lQ:=BV X G lQ;replace uE:=BV X G uE;replace pA:=BV X G pA;replace pz:=BV X G pz;replace uD:=BV X G uD;replace jG:=BV X G jG;replace mr:=BV X G mr;replace uF:=BV X G uF;refine Kf.go (d:=nH) X G (λD=>Jz D q) λKJ=>?_;refine VH.go (d:=mm) X G (λD=>U5 D q KJ) λsE=>?_;refine RZ.go (d:=jF) X G (λD=>QP D q) λpE=>?_;refine Kk.go (d:=ka) X G (λD=>JG D q sE pE) λuI=>?_;refine Ka.go (d:=fw) X G (λD=>Jw D pw) λko=>?_;refine HE.go (d:=lL) X G (λD=>G9 D lQ) λIb=>?_;refine NS.go (d:=qE) X G (λD=>Nu D uE ko) λOj=>?_;refine NR.go (d:=mn) X G (λD=>Nt D q) λwZ=>?_;refine Kh.go (d:=nJ) X G (λD=>JB D q uI) λKN=>?_;refine yV.go (d:=j9) X G (λD=>ya D q) λzv=>?_;refine R0.go (d:=uz) X G (λD=>QQ D q sE KN wZ pE zv) λSA=>?_;refine HC.go (d:=lJ) X G (λD=>G7 D q ko) λH9=>?_;refine Kg.go (d:=nI) X G (λD=>JA D Ib) λKL=>?_;refine Ki.go (d:=nK) X G (λD=>JD D q pA pz uD jG Oj H9 KL) λKO=>?_;refine RV.go (d:=pq) X G (λD=>QM D q) λHZ=>?_;refine Kj.go (d:=nM) X G (λD=>JE D q) λKP=>?_;refine Ke.go (d:=nG) X G (λD=>Jy D mr sh) λKI=>?_;refine HD.go (d:=lK) X G (λD=>G8 D q pE HZ KI) λIa=>?_;refine yU.go (d:=j8) X G (λD=>xZ D KO Ia) λzu=>?_;refine HB.go (d:=lI) X G (λD=>G6 D q uF ko) λH0=>?_;refine yR.go (d:=j7) X G (λD=>xW D H0 ko HZ) λzr=>?_;refine RX.go (d:=uy) X G (λD=>QN D q zu zr KP) λSz=>?_;refine VG.go (d:=zd) X G (λD=>U4 D q sE Sz) λV7=>?_;refine vt.go (d:=i7) X G (λD=>vg D q) λvD=>?_;refine Kc.go (d:=nF) X G (λD=>Jx D q uI) λKH=>?_;refine NQ.go (d:=qD) X G (λD=>Nr D q pE wZ) λOi=>?_;refine VJ.go (d:=zf) X G (λD=>U6 D q sE vD KH Oi) λV8=>?_;refine HI.go (d:=lN) X G (λD=>Hd D q) λIe=>?_;refine HF.go (d:=bA) X G (λD=>Ha D) λcm=>?_;refine HG.go (d:=eQ) X G (λD=>Hb D q cm) λiR=>?_;refine yW.go (d:=kd) X G (λD=>yb D q cm iR) λzw=>?_;refine vz.go (d:=fF) X G (λD=>vi D q cm) λm5=>?_;refine y7.go (d:=kh) X G (λD=>yf D zw cm m5) λzB=>?_;refine yZ.go (d:=kg) X G (λD=>ye D q cm iR m5) λzA=>?_;refine y6.go (d:=gI) X G (λD=>oZ D q 12) λpF=>?_;refine y9.go (d:=kj) X G (λD=>yh D q pF iR cm) λzD=>?_;refine yY.go (d:=kf) X G (λD=>yd D cm SA V8 zD) λzy=>?_;refine vv.go (d:=i8) X G (λD=>vh D q cm iR) λvE=>?_;refine y8.go (d:=ki) X G (λD=>yg D q) λzC=>?_;refine yX.go (d:=ke) X G (λD=>yc D q) λzx=>?_;refine Kn.go (d:=nQ) X G (λD=>t6 D q 50) λKS=>?_;refine HH.go (d:=lM) X G (λD=>Hc D q zC zx) λIc=>?_;refine HJ.go (d:=lO) X G (λD=>qO D q 8) λIg=>?_;refine Kl.go (d:=nN) X G (λD=>JH D q zB zy zA Ic pF cm vE) λKQ=>?_;refine rG.go (d:=gh) X G (λD=>rA D q) λrL=>?_;refine Km.go (d:=nP) X G (λD=>JI D q KS Ig) λKR=>?_;exact acM D q KQ Ie KR rL V7
def walk {l:Fd}{q:tt}{d:DefRec}{K:Params->Ab} (hn:l.most=ap 63) (ć:d.params.defaults=[])
  (hY:∀(w:wv) (h:mo),YP w h->(K w.params).In h)
  (F:∀(w:wv) (mg:Str->Option bn) (fa:ce) (h:mo),(K w.params).In h->h.Ns ev mg->mg d.name=ap (.ref fa)->
   ∃fd:FB,(∀(s:cr) (u:bn),BindsTo s fd ⟨[u],[]⟩ [("_law_script",u)])/\∀base:mo,(K w.params).In base->base.Ns ev mg->iB l.prog w (K w.params) mg base mz 52 fa fd ["_law_script"] (Lf (K w.params))) :
  PySem.W.WalkO q Ó XP YP l.row.toRowW d [] (λf vs=>F6 f vs):=
 L2.S1 (n:=63) (k:=52) (x:="_law_script") (CX:=λ_=>mz) (sp:=λw=>Lf (K w.params)) hn ⋯ ć ⟨rfl,by decide,by decide,rfl⟩ hY F (λ_ _ a ns hl hO hS=>⟨a,ns,rfl,hO,hS,hl,λ_=>rfl⟩) λ_ _ _ _ _ z=>z
end My
end
open PySem PySem.W PyProof.Rows
inductive PySem.W.Fast:Prop|tw15673443886552996867|tw16909419032539475741|tw7696830835765178238|tw7410261121526193623|tw15826194401776391855|tw2235502714753520874|tw18156544129401488571|tw7254627649168366209|tw2667522326418706458|tw2156837750876414746|tw7070818895638866915|tw4449841606201534676|tw456339560228479318|tw11463989498721708507|tw10790874378335053335|tw8076898980355991909|tw14150731982873210062|tw3224330546112395575|tw16151659761342583833|tw12898339869629157160|tw12035928733218613836|tw12125841964403255250|tw15422519192905730930|tw3400489036788821347|tw4594335637502389338|tw13101224544810506440|tw10909753523778092350|tw14582984097570293793|tw17130013065544721056|tw1262680808997637785|tw9708908561547593103|tw5420530015578866629|tw6729955448015689183|tw11362386936315301564|tw6736896530817410705|tw17147117054352299663|tw12729612321552795228|tw10416386035266016485|tw15995246173684586532|tw14208220093887688591|tw1432782675059344246|tw3217173602043616858|tw16952743795080355047|tw974636307719854008|tw4140572470334055925|tw1008909316049420896|tw17294832374437195597|tw3946254768221709321|tw17985490271551346791|tw8226990077880018925|tw7920145050490756265|tw14746688617402820887|tw10383132799335843873|tw8543841241267072748|tw4473628374189976522|tw10464550192872350649|tw6672406111161463602|tw2814611554614533020|tw5428466115684663121|tw4095626239796622067|tw10766487119368953222|tw15948036200382987110|tw15659319570625237338|tw13527561406535564146|tw4296497296219413223|tw15231033006292351528|tw5195592045278822990|tw17937007976906437923|tw4838747519977901241|tw3768373646098772203|tw10096471462270680638|tw1052996207855699092|tw10568893879765014115|tw2085146829202567103|tw15623607705787040198|tw1231716052686683529|tw348910120660349919|tw9180946039937385048|tw11367525614624793750|tw9574828785440610373|tw13026943540819606603|tw11517816889122862190|tw8632982115331115167|tw5747288899754394259|tw14491366891312603059|tw9790622636534262208|tw2110483569357969989|tw13644765530802423046|tw2807401534083248832|tw1390700361511795930|tw1614592205008587646|tw545256479124510792|tw329643609368480598|tw1714616122596309774|tw2711681765070360480|tw16115617408995118350|tw4304528758546438683|tw3452010395930866321|tw11147176507009394869|tw4977010462451915828
def PySem.W.Fast.tw14645304340894903747:=PySem.Challenge.pw_treewithin_k25_tables_by_all_ways
theorem PySem.W.Fast.te14645304340894903747:PySem.Challenge.pw_treewithin_k25_tables_by_all_ways=PySem.W.Fast.tw14645304340894903747:=rfl
set_option maxRecDepth 100000 in
set_option maxHeartbeats 0 in
theorem PySem.Challenge.cw_treewithin_k25_tables_by_all_ways_holds : PySem.Challenge.rw_treewithin_k25_tables_by_all_ways.Holds := by
 w_on;o_law;k_head;(case hw=>w_witness2)
 k_fill
 refine My.walk (l:=PySem.Challenge.rw_treewithin_k25_tables_by_all_ways) rfl rfl (fun w h Y=>PySem.W.kIn_of Y) ?F
 case F=>
  intro w mg fa h KX G hmg;refine' FL.mkAll (st:=My.top 61) (k:=52) My.law25_ok KX G hmg ?e (fun _ _ _ _ _ _=>FL.us1 fun _=>rfl) (My.all_d KX G ..)
  all_goals try first | (refine' FL.dx ?a ?l ?c ?k;(case a=>k_is);(case l=>k_is);(case c=>k_is);(case k=>k_is)) | (refine' FL.tup3K ?a;(case a=>k_is)) | k_is
#print axioms PySem.Challenge.cw_treewithin_k25_tables_by_all_ways_holds
