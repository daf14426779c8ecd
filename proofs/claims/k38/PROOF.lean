import PyProof.Rows.All
import Wide.All
import OpenK.AllK
import Wide.FinOn
import Lean
import PyProof.EqAt
import PyProof.EqKinds
import PyProof.TupleCall
import PyProof.NeKinds
import PyProof.FactsAll.tuple_2
import PyProof.FactsAll.str_0
import PyProof.FactsAll.str_1
import PyProof.FactsAll.str_2
import PyProof.FactsAll.str_3
import PyProof.Rows.MinMaxN
import PyProof.Rows.SumAny
import PyProof.Rows.SetFrom
import PyProof.ReprRoads
import PyProof.Rows.StrKeys3
import PyProof.CallFns
import KE.KSortTup
import KE.KDictSum
import PyProof.Rows.CallKwBuiltin
import KE.KMinBuiltin
import KE.KDictList
import PySem.Challenge.RW_treewithin_k38_whole_what_is_taken_is_le
local macro_rules | `(tactic| omega) => `(tactic| lia)
open PySem renaming wpAny_bind -> Aa, wpAny_pure -> Af, wpAny_newObj_type -> AO, wpAny_callSpecial?_slot -> AX, wpAny_field -> A7, wpAny_call_entry -> A8, Value -> Be, wpAny_holding -> Bj, wpAny_setField_rec -> Bp, wpAny_truthy_bool -> Bv, wpAny_Call_Name_kw -> BD, wpAny_seqItems -> BK, Addr -> BU, Expr -> B8, wpAny_mono -> B9, mem_of_lookup -> Cd, wpAny_typeNameOfWhole_keyiter -> Cr, Str -> Cu, Pos -> Cz, wpAny_passesOwn -> CF, wpAny_of_eq -> CJ, wpAny_dictEntries -> CK, wpAny_typeNameOf_keyiter -> CN, wpAny_attempt -> CO, wpAny_letGo -> C0, wpAny_typeOf -> C2, wpAny_updateSeq -> C4, wpAny_dictEpoch -> C5, wpAny_pyIter_list -> Dg, wpAny_setField -> Dk, wpAny_rule -> Dl, wpAny_newTuple -> Dm, wpAny_isInstance -> Dp, wpAny_pyIter_tuple -> Dz, Shared -> DH, wpAny_pyIter_enum -> DJ, wpAny_notOrdered_dict -> DV, wpAny_isOneOf_valiter -> DW, wpAny_eqBool_str -> D2, wpAny_updateSeq_pair -> Ed, wpAny_execs_nil -> Ej, wpAny_tryCatch -> EE, wpAny_letOwnedTupleGo_enum -> EG, wpAny_fieldsOf -> EH, wpAny_sequenceKey -> E1, wpAny_standAt -> E4, wpAny_onRaise -> E5, wpAny_comprehension_free -> E6, wpAny_specialOf -> Fw, evalArgs_none -> FX, wpAny_handled -> FZ, Heap -> F3, Obj -> F9, call -> Ge
open PySem.W renaming Frag -> Ab, nsIn -> AQ, mg_none_of -> AR, kia_one -> Bl, kitOne -> BJ, mg_of -> BN, fnOf -> Cp, keepIn -> Di, KasT -> Et, codeIn -> EA, methodObj -> EU, kitx_list -> EW, kitx_dict -> EX, cellsFrom_some -> Ff, kas_rev -> Ft, instObj -> Fu, OpenLaw -> Fv, lookIn -> FG, kitx_tuple -> F0, callWith_K -> F1, plainGet -> F6, kat_cons -> F7, kas_sort -> F8
open List renaming getElem?_eq_getElem -> Ad, length_map -> Ae, length_append -> Ah, getD_eq_getElem?_getD -> Ai, getElem?_map -> Aj, size_toArray -> Ak, getElem?_eq_some_iff -> Al, mem_map -> Am, length_cons -> Ap, map_cons -> Aq, replicate -> Au, range -> Av, map_map -> Ay, map_append -> Az, mem_cons -> AA, mem_flatMap -> AE, mem_range -> AG, append_assoc -> AH, mem_append_right -> AI, mem_append -> AJ, getElem?_eq_none -> AL, mem_singleton -> AN, mem_append_left -> AZ, getElem?_append_left -> A4, mem_cons_of_mem -> A6, map_congr_left -> A9, getElem?_append_right -> Bc, length_nil -> Bd, filterMap_cons -> Bf, sum_cons -> Bh, mem_of_getElem? -> Bi, mem_filter -> Bm, all_eq_true -> Bn, getElem?_range -> Bs, find?_cons -> Bt, lookup_cons -> Bu, flatMap_cons -> Bw, getElem?_set_ne -> Bx, drop_eq_getElem_cons -> Bz, length_replicate -> BF, length_filter_le -> BG, ext_getElem? -> BH, mem_cons_self -> BL, length -> BM, not_mem_nil -> BQ, getElem?_set_self -> BR, cons_append -> BS, replicate_succ -> BV, any_cons -> BZ, length_set -> B3, getElem?_replicate -> B5, idxOf_lt_length_of_mem -> B6, length_range -> Cb, flatten_cons -> Cc, length_reverse -> Ce, forIn_cons -> Cg, append_nil -> Ci, pairwise_iff_getElem -> Cj, map_nil -> Cq, eq_nil_of_length_eq_zero -> Cs, flatMap_append -> Cw, length_pos_iff -> CP, length_flatMap -> CS, getElem_mem -> CV, filter_cons -> CW, eraseIdx_cons_succ -> CY, nil_append -> C7, perm_append_comm -> De, length_singleton -> Df, reverse_cons -> Dh, getElem?_of_mem -> Dn, length_take -> Dq, all_map -> Dr, mergeSort_perm -> Du, foldl_cons -> Dx, take_succ -> DL, take_of_length_le -> DM, pairwise_lt_range -> DN, nodup_append -> DP, replicate_append_replicate -> DS, eraseIdxIfInBounds_toArray -> DT, take_length -> D4, length_drop -> D5, drop_length -> D6, getElem_toArray -> Ef, range_succ -> Ek, nodup_cons -> El, mem_zipIdx_iff_getElem? -> Em, map_const' -> En, reverse_append -> Ep, length_take_le -> Er, getElem_of_mem -> Es, pairwise_cons -> EK, nodup_nil -> EL, mem_filterMap -> EM, map_filterMap -> EN, filter_append -> EO, countP_append -> ER, pairwise_map -> E2, length_erase_of_mem -> E7, pairwise_mergeSort -> Fc, countP_cons -> Fd, any_eq_true -> Fe, sum_nil -> Fm, map_set -> Fo, length_pos_of_mem -> Fp, filter_eq_nil_iff -> Fq, drop_eq_nil_of_le -> Fs, sum_append -> Fx, of_mem_zip -> Fy, getElem?_toArray -> FE, length_eraseIdx -> FP, map -> Gf
open PySem.Heap renaming get?_push_of_some -> Ag, get?_push_size -> Ar, lt_size -> Aw, get?_update_self -> BX, SameBut -> B1, get?_update_other -> B7, size_push -> CT, ExtBut -> EZ, size_update -> E8, IsSliceOf -> FH, get?_update_ne -> FW
open Nat renaming le_refl -> An, zero_add -> AD, ne_of_lt -> AM, lt_of_lt_of_le -> AV, le_trans -> AW, zero_le -> A3, lt_irrefl -> Ba, pow_le_pow_right -> Bb, add_assoc -> Bk, le_add_right -> B4, strongRecOn -> Cv, sub_self -> Cy, mul_le_mul_right -> CM, not_lt_zero -> C6, le_of_ble_eq_true -> Dc, add_sub_cancel_left -> DB, lt_or_ge -> DK, lt_succ_self -> D3, le_succ -> Ee, succ_mul -> Ew, pow_succ -> Ex, le_of_lt -> Ey, mul_le_mul -> EI, eq_or_lt_of_le -> EJ, sub_zero -> Fj, sub_sub -> FN, one_mul -> FO, pow_add -> Ga
open Bool renaming false_eq_true -> Ao, false_ne_true -> AY, and_eq_true -> A1, not_true -> Bq, eq_iff_iff -> Dy, not_false -> DQ, true_and -> D8, and_false -> ES, false_and -> FQ
open PySem.PassesOwn renaming never -> Ax
open PySem.Value renaming ref -> AB, none -> AU, str -> Br, type -> C1, bool -> Dj, int -> Ez
open PyProof.Rows renaming slot_tuple_getitem -> A2, callWith_type1 -> Bg
open Int renaming toNat_natCast -> A5, le_refl -> Ct, emod_lt_of_pos -> CD, emod_nonneg -> C8, zero_add -> Ds, natCast_add -> Fz, le_antisymm -> FA
open PySem.NameKind renaming free -> Bo, cell -> FY
open Array renaming getElem?_eq_getElem -> BA, length_toList -> Cf, getElem?_toList -> Ck, getElem?_eq_none -> C3, perm_iff_toList_perm -> ET, toArray_toList -> FR
open PySem.Obj renaming mapSeq -> BC, data_mapFields -> CB, isFreed_of_fields -> DU, mapFields -> D7, cls_mapFields -> EY
open False renaming elim -> BE
open PySem.F renaming plainAttrs_list -> BI, slot_dict_valueiterator_next -> BP, slot_dict_keyiterator_next -> B2, slot_tuple_iterator_next -> CC, plain_min_loop -> CU, slot_enumerate_next -> C9, args_tuple_add_2 -> Dv, slot_list_getattribute -> Dw, entry_tuple_add -> DA, slot_tuple_add -> DC, args_dict_valueiterator_next_1 -> DE, entry_dict_valueiterator_next -> DR, args_dict_keyiterator_next_1 -> DZ, entry_dict_keyiterator_next -> D9, args_list_extend_2 -> Ea, slot_zip_next -> Eg, args_tuple_iterator_next_1 -> Eh, entry_list_extend -> Eo, entry_tuple_iterator_next -> Eu, slot_list_extend -> EC, slot_dict_values -> E3, slot_dict_values_iter -> E9, args_enumerate_next_1 -> Fb, entry_enumerate_next -> Fg, type_list_pop -> FC, slot_list_pop -> FD
open PySem.Str renaming ofString -> BO
open Ne renaming symm -> BW
open Or renaming inr -> Ca, inl -> Co
open PySem.Calls renaming spliced_cons -> Cm, spliced_nil -> CI, callWith_builtin -> DG, Name_function_global -> ED
open PySem.AutoSeq1 renaming wpAny_loadPart' -> Cn, sub_tuple_tuple -> D1, sub_tuple_list -> Eb, sub_list_tuple -> Ec, sub_list_list -> Ei, idx_int -> Fh
open True renaming intro -> CA
open Option renaming map_some -> CG, map_eq_none_iff -> Fi, isSome_map -> F5
open ForInStep renaming yield -> CH
open And renaming right -> CZ
open PySem.SeqAt renaming EqAt -> DY
open PySem.SeqAt.EqAt renaming int_int -> EB, of_refs -> F2, same -> Gb
open PySem.Fin renaming done -> FI
open PySem.Data renaming seq -> FJ
open PySem.Around renaming under_plainId -> FK
open Sum renaming inr -> FT, inl -> FU
open PyProof.Rows.IsTup renaming new -> FV
open PySem.SeqAt.RcAt renaming tuples -> F4
open PySem.Flow renaming ret -> Gd
set_option compiler.extract_closed false
set_option Elab.async false
set_option linter.all false
set_option maxRecDepth 100000
set_option maxHeartbeats 1000000
open Option renaming some→ap,none→bm
open PyProof.Rows renaming seqObj→wv,IntsAre→ww,boot_str→wE,envOfC→Fk,AllBare→KF
open PySem renaming Value→ce,Addr→ci,Shared→cr,wpAny→db,model→ev,mainGlobals→f8,starEach→im,Expr→lc,eval→lw,Scope→nn,compareOp→nw,attributeBase→o0,swapsWith→pc,Heap→pr,bootBuiltins→re,tupleKind→r9,behindInMarks→sn,cLine→ss,sysModules→sB,call_meets→sK,binaryOp→tt,rawInt→tz,IntMulOk→ut,Stmt→u8,Program→wn,Builtin→wP,setField→wS,World→wT,PassesOwn→xz,plainId_quiet→xL,backTo→BT,Around→Da,NameKind→Db,assignEach→Ev,sliceBounds→EQ,tupleKind_room_in1→Fa,FuncData→FB,storedH→FM,holding→FS,getItem→Gc,codeAny→GE,swapsWithSole→GM,swappedStores→GT,assign→Ix,typeLookup→IR,pyNext→KB,letOwnedTupleGo→KM,codeAny_builtin→Os
set_option genSizeOf false
local macro_rules | `(command|def $i:declId $s:optDeclSig $v:declVal)=>`(command|noncomputable def $i:declId $s:optDeclSig $v:declVal)
local macro_rules | `(command|abbrev $i:declId $s:optDeclSig $v:declVal)=>`(command|noncomputable abbrev $i:declId $s:optDeclSig $v:declVal)
theorem rT(h:0=0:=by rfl):0=0:=h
local macro_rules | `(‹$p›)=>`(autoParam $p rT._auto_1)
local macro_rules | `(‹_›)=>`(by assumption)
theorem dT(h:0=0:=by decide):0=0:=h
local macro_rules | `(~~~$p)=>`(autoParam $p dT._auto_1)
local macro_rules | `(∅)=>`(by omega)
local macro_rules | `(⋯)=>`(by decide)
open PySem PySem.Spec PyProof.Rows
abbrev O.{u}(α:Type u):=List α
namespace L2
end L2
namespace My
end My
namespace PL
end PL
namespace FL
end FL
open L2 My PL FL
namespace L2
abbrev Key:=Sum Int Str
def GJ:Key->ce->Bool
 | .inl k,v=>Value.isInt k v
 | .inr x,v=>Value.isStrOf x v
def am8(w:wT):Key->Int
 | .inl k=>hashInt k
 | .inr x=>hashStr w x
def cL:∀{k:Key}{v:ce},GJ k v=true->(∃i t,k=FU i/\v=Ez i t)\/(∃x t,k=FT x/\v=Br x t)
 | .inl i,v,h=>by
  obtain⟨t,e⟩:=Value.isInt_shape (k:=i) (v:=v) h;exact .inl ⟨i,t,rfl,e⟩
 | .inr x,v,h=>by
  obtain⟨t,e⟩:=Value.isStrOf_shape (x:=x) (v:=v) h;exact .inr ⟨x,t,rfl,e⟩
def SQ(i:Int)(t:Tok):GJ (.inl i) (.int i t)=true:=by simp[GJ,Value.isInt]
def SO(x:Str)(t:Tok):GJ (.inr x) (.str x t)=true:=by simp[GJ,Value.isStrOf]
def afm(a b:Int):decide ((FU a:Key)=FU b)=(a==b):=by
 by_cases e:a=b
 ·subst e;simp
 ·have h:¬(FU a:Key)=FU b:=λq=>e (FU.inj q);rw[decide_eq_false h];exact(beq_eq_false_iff_ne.mpr e).symm
def afj(a b:Str):decide ((FT a:Key)=FT b)=decide (a=b):=by
 by_cases e:a=b
 ·subst e;simp
 ·have h:¬(FT a:Key)=FT b:=λq=>e (FT.inj q);rw[decide_eq_false h,decide_eq_false e]
def afl(a:Int)(b:Str):decide ((FU a:Key)=FT b)=false:=decide_eq_false (λq=>nomatch q)
def afk(a:Str)(b:Int):decide ((FT a:Key)=FU b)=false:=decide_eq_false (λq=>nomatch q)
def cD(prog:wn)(w:wT):PySem.KeyKind prog w Key where
 is:=GJ
 hash:=am8 w
 inj:=λv a b ha hb=>by
  rcases cL ha with⟨i,t,rfl,rfl⟩ | ⟨x,t,rfl,rfl⟩
  ·rcases cL hb with⟨j,u,rfl,e⟩ | ⟨y,u,rfl,e⟩
   ·injection e with e1 _;rw[e1]
   ·exact nomatch e
  ·rcases cL hb with⟨j,u,rfl,e⟩ | ⟨y,u,rfl,e⟩
   ·exact nomatch e
   ·injection e with e1 _;rw[e1]
 byValue:=λk v h=>by
  rcases cL h with⟨i,t,rfl,rfl⟩ | ⟨x,t,rfl,rfl⟩ <;> rfl
 pyHash:=λhv h=>by
  rcases cL hv with⟨i,t,rfl,rfl⟩ | ⟨x,t,rfl,rfl⟩
  ·exact wpAny_pyHash_int h
  ·exact wpAny_pyHash_str h
 eqBool:=λhu hv h=>by
  rcases cL hu with⟨i,t,rfl,rfl⟩ | ⟨x,t,rfl,rfl⟩
  ·rcases cL hv with⟨j,u,rfl,rfl⟩ | ⟨y,u,rfl,rfl⟩
   ·rw[afm]at h;exact wpAny_eqBool_int h
   ·rw[afl]at h;exact DY.int_str i t y u _ _ _ _ h
  ·rcases cL hv with⟨j,u,rfl,rfl⟩ | ⟨y,u,rfl,rfl⟩
   ·rw[afk]at h;exact DY.str_int x t j u _ _ _ _ h
   ·rw[afj]at h;exact D2 h
 «strs»:=λk x t v h=>by
  rcases cL h with⟨i,u,rfl,e⟩ | ⟨y,u,rfl,e⟩
  ·exact nomatch e
  ·injection e with e1 _;subst e1;cases v <;> rfl
def KY(prog:wn)(w:wT)(i:Int)(t:Tok):(cD prog w).is (.inl i) (.int i t)=true:=SQ i t
def KW(prog:wn)(w:wT)(x:Str)(t:Tok):(cD prog w).is (.inr x) (.str x t)=true:=SO x t
end L2
variable{us:O Be}{u:Be}{κ α β:Type}{a b e:BU}{P:PySem.Program}{w:PySem.World}{h h':F3}{ob:F9}
namespace L2
inductive V where
 | aL | bl (b:Bool) | int (i:Int) | str (x:Str) | byt (b:Array UInt8) | flt (b:UInt64) | ref (a:ci) | ty (n:String)
 deriving DecidableEq
def RelV:V->ce->Prop
 | .aL,u=>u=AU
 | .bl b,u=>u=Dj b
 | .int i,u=>∃t,u=Ez i t
 | .str x,u=>∃t,u=Br x t
 | .byt b,u=>∃t,u=Value.bytes b t
 | .flt b,u=>∃t,u=Value.float b t
 | .ref a,u=>u=AB a
 | .ty n,u=>u=C1 n
abbrev Vals:O V->O ce->Prop:=Paired RelV
def Vals.length{xs:O V}(r:Vals xs us):xs.length=us.length:=Paired.length r
theorem Vals.get:∀{xs:O V}{us:O ce}{i:Nat}{x:V},Vals xs us->xs[i]?=ap x->∃u,us[i]?=ap u/\RelV x u
 | _,_,_,_,.nil,e=>by simp at e
 | _,_,0,_,.cons r _,e=>by simp at e;subst e;exact⟨_,rfl,r⟩
 | _,_,i+1,x,.cons _ t,e=>by
  obtain⟨u,h1,h2⟩:=Vals.get (i:=i) (x:=x) t (by simpa using e);exact⟨u,by simpa using h1,h2⟩
theorem Vals.set{x:V}(r:RelV x u):∀{xs:O V}{us:O ce} (i:Nat),Vals xs us->Vals (xs.set i x) (us.set i u)
 | _,_,_,.nil=>.nil
 | _,_,0,.cons _ t=>.cons r t
 | _,_,i+1,.cons q t=>.cons q (Vals.set r i t)
theorem Vals.append:∀{xs ys:O V}{us ws:O ce},Vals xs us->Vals ys ws->Vals (xs++ys) (us++ws)
 | _,_,_,_,.nil,s=>s
 | _,_,_,_,.cons r t,s=>.cons r (Vals.append t s)
theorem Vals.take:∀{xs:O V}{us:O ce} (n:Nat),Vals xs us->Vals (xs.take n) (us.take n)
 | _,_,0,_=>.nil
 | _,_,_+1,.nil=>.nil
 | _,_,n+1,.cons r t=>.cons r (Vals.take n t)
theorem Vals.drop:∀{xs:O V}{us:O ce} (n:Nat),Vals xs us->Vals (xs.drop n) (us.drop n)
 | _,_,0,r=>r
 | _,_,_+1,.nil=>.nil
 | _,_,n+1,.cons _ t=>Vals.drop n t
def yN:Option V->Option ce->Prop
 | some v,ap u=>RelV v u
 | none,bm=>True
 | _,_=>False
def KV:O (κ×V)->O (κ×ce)->Prop:=Paired λ(p:κ×V) (q:κ×ce)=>p.1=q.1/\RelV p.2 q.2
def kV:Key->V
 | .inl i=>.int i
 | .inr x=>.str x
inductive HO where
 | lst (xs:List V)
 | tup (xs:List V)
 | dK (kvs:List (Key×V)) | dT (kvs:List (List Key×V))
 | set (S:Int->Bool) (n:Nat)
 | ins (C dx:ci) (fs:List (Str×V))
 | own (x:ci)
 | xd (fs:List (Str×V))
 | met (f x:ci)
 | rng (lo hi:Int)
 | c6 (o:Obj) (u:HO)
 | tbl (ps:Array ce)
 | ext (φ:pr->Prop)
abbrev Hp:=ci->Option HO
def upd(H:Hp)(a:ci)(o:HO):Hp:=λb=>if b=a then ap o else H b
def aW{H:Hp}{o:HO}:upd H a o a=ap o:=by unfold upd;rw[if_pos rfl]
def aD{H:Hp}{o:HO}(h:b≠a):upd H a o b=H b:=by unfold upd;rw[if_neg h]
def QI{H:Hp}{o u:HO}(h:H a=ap o)(h':H b=ap u)(d:o≠u):a≠b:=by
 intro e;subst e;rw[h]at h';exact d (Option.some.inj h')
def b9{H:Hp}{o:HO}(h:H a=ap o)(h':H b=bm):a≠b:=by
 intro e;subst e;rw[h]at h';cases h'
section
variable(P:wn)(w:wT)
def bA(H:Hp)(h:pr)(a:ci):HO->Prop
 | .lst xs=>xs.length<=sizeLine/\∃(aw:O ce) (n:Nat),Vals xs aw/\h.get? a=ap {cls:=.type "list",data:=.seq aw.toArray n}
 | .tup xs=>xs.length<=sizeLine/\∃aw:O ce,Vals xs aw/\IsTup h a aw.toArray
 | .dK kvs=>kvs.length<=sizeLine/\(a==sB)=false/\∃vs,KV kvs vs/\h.DictOf (cD P w) a vs
 | .dT kvs=>kvs.length<=sizeLine/\(a==sB)=false/\∃xs:O (O Key×ci×ce),
   Paired (λ(p:O Key×V) (q:O Key×ci×ce)=>p.1=q.1/\H q.2.1=ap (.tup (p.1.map kV))/\RelV p.2 q.2.2) kvs xs/\
   ∃o es ep,h.get? a=ap o/\o.ExactDict/\o.data=.dict es ep/\es.toList=xs.map (entryOfKey (r9 (cD P w)))/\(xs.map (·.1)).Nodup
 | .set S n=>h.SetOf (intKind P w) a S n
 | .ins C dx fs=>H dx=ap (.own a)/\fs.length<=1000/\dx≠a/\h.get? a=ap (Fu C dx)/\
   ∃mA,h.Ns1 dx mA/\(∀f,yN (fs.lookup f) (mA f))/\PySem.Within mA (fs.map (·.1))
 | .own _=>∃o,h.get? a=ap o
 | .xd fs=>∃mA,h.Ns1 a mA/\∀f,yN (fs.lookup f) (mA f)
 | .rng lo hi=>∃t u v,h.get? a=ap {cls:=.type "range",data:=.fields #[.int lo t,.int hi u,.int 1 v]}
 | .c6 o u=>h.get? a=ap o/\bA H h a u
 | .tbl ps=>h.get? a=ap {cls:=.none,data:=.fields ps}
 | .met f x=>h.get? a=ap (EU (.ref f) (.ref x))
 | .ext φ=>φ h/\(∃o,h.get? a=ap o)/\∀h1 h2:pr,φ h1->(∀o,h1.get? a=ap o->h2.get? a=ap o)->φ h2
def pJ(H:Hp)(h:pr):Prop:=∀a o,H a=ap o->bA P w H h a o
end
section
variable{H H':Hp}{o:HO}
def bA.lt(x:bA P w H h a o):a < h.objs.size:=by
 cases o with
 | lst xs=>obtain⟨_,_,_,_,e⟩:=x;exact Aw e
 | tup xs=>obtain⟨_,_,_,p⟩:=x;exact p.lt
 | dK kvs=>obtain⟨_,_,_,_,o,_,_,e,_⟩:=x;exact Aw e
 | dT kvs=>obtain⟨_,_,_,_,o,_,_,e,_⟩:=x;exact Aw e
 | set S n=>obtain⟨o,_,_,_,e,_⟩:=x;exact Aw e
 | ins C dx fs=>obtain⟨_,_,_,e,_⟩:=x;exact Aw e
 | own y=>obtain⟨_,e⟩:=x;exact Aw e
 | xd fs=>obtain⟨_,⟨_,_,_,e,_⟩,_⟩:=x;exact Aw e
 | rng lo hi=>obtain⟨_,_,_,e⟩:=x;exact Aw e
 | c6 ob u=>obtain⟨e,_⟩:=x;exact Aw e
 | tbl ps=>exact Aw (show h.get? a=ap _ from x)
 | met f y=>exact Aw (show h.get? a=ap _ from x)
 | ext φ=>obtain⟨_,⟨_,e⟩,_⟩:=x;exact Aw e
theorem Paired.ae5{F G:α->β->Prop}:∀{l₁:List α}{l₂:List β},Paired F l₁ l₂->(∀a b,F a b->G a b)->Paired G l₁ l₂
 | _,_,.nil,_=>.nil
 | _,_,.cons r t,f=>.cons (f _ _ r) (Paired.ae5 t f)
def bA.Hu(x:bA P w H h a o)(k:∀b u,(b=a\/H b=ap (.own a))->h.get? b=ap u->h'.get? b=ap u)
  (ho:∀b,H b=ap (.own a)->H' b=ap (.own a)) (ht:∀b xs,H b=ap (.tup xs)->H' b=ap (.tup xs)):bA P w H' h' a o:=by
 induction o with
 | lst xs=>obtain⟨z,aw,n,r,e⟩:=x;exact⟨z,aw,n,r,k _ _ (.inl rfl) e⟩
 | tup xs=>obtain⟨z,aw,r,ob,e,c⟩:=x;exact⟨z,aw,r,ob,k _ _ (.inl rfl) e,c⟩
 | dK kvs=>obtain⟨z,y,vs,r,ob,es,ep,e,c⟩:=x;exact⟨z,y,vs,r,ob,es,ep,k _ _ (.inl rfl) e,c⟩
 | dT kvs=>
  obtain⟨z,y,xs,r,ob,es,ep,e,c⟩:=x;exact⟨z,y,xs,Paired.ae5 r λp q z=>⟨z.1,ht _ _ z.2.1,z.2.2⟩,ob,es,ep,k _ _ (.inl rfl) e,c⟩
 | set S n=>obtain⟨ob,es,ep,t,e,c⟩:=x;exact⟨ob,es,ep,t,k _ _ (.inl rfl) e,c⟩
 | ins C dx fs=>
  obtain⟨d,z,ne,e,mA,⟨od,es,ep,e2,c⟩,r⟩:=x;exact⟨ho _ d,z,ne,k _ _ (.inl rfl) e,mA,⟨od,es,ep,k _ _ (.inr d) e2,c⟩,r⟩
 | own y=>obtain⟨ob,e⟩:=x;exact⟨ob,k _ _ (.inl rfl) e⟩
 | xd fs=>obtain⟨mA,⟨od,es,ep,e,c⟩,r⟩:=x;exact⟨mA,⟨od,es,ep,k _ _ (.inl rfl) e,c⟩,r⟩
 | rng lo hi=>obtain⟨t,u,v,e⟩:=x;exact⟨t,u,v,k _ _ (.inl rfl) e⟩
 | c6 ob u ih=>obtain⟨e,q⟩:=x;exact⟨k _ _ (.inl rfl) e,ih q⟩
 | tbl ps=>
  have e:h.get? a=ap {cls:=.none,data:=.fields ps}:=x;show h'.get? a=ap {cls:=.none,data:=.fields ps};exact k a _ (.inl rfl) e
 | met f y=>
  have e:h.get? a=ap (EU (.ref f) (.ref y)):=x;show h'.get? a=ap (EU (.ref f) (.ref y));exact k a _ (.inl rfl) e
 | ext φ=>obtain⟨p,⟨o,e⟩,st⟩:=x;exact⟨st _ _ p λo q=>k _ _ (.inl rfl) q,⟨o,k _ _ (.inl rfl) e⟩,st⟩
def pJ.lt(x:pJ P w H h)(e:H a=ap o):a < h.objs.size:=(x a o e).lt
def pJ.fresh(x:pJ P w H h)(e:h.objs.size<=a):H a=bm:=by
 cases q:H a with
 | none=>rfl
 | some u=>exact absurd (AV (x.lt q) e) (Ba _)
def pJ.kept(x:pJ P w H h)(k:∀b u,h.get? b=ap u->h'.get? b=ap u):pJ P w H h':=λa o e=>
 (x a o e).Hu (λb u _ q=>k b u q) (λ_ q=>q) λ_ _ q=>q
def pJ.laid(x:pJ P w H h)(k:∀b u,h.get? b=ap u->h'.get? b=ap u)(hp:h.objs.size<=a)(new:bA P w (upd H a o) h' a o):pJ P w (upd H a o) h':=λb u e=>by
 have hn:=x.fresh hp;by_cases hb:b=a
 ·subst hb;rw[aW]at e;cases e;exact new
 ·rw[aD hb]at e;exact(x b u e).Hu (λc v _ q=>k c v q) (λc q=>by rw[aD (b9 q hn)];exact q) λc xs q=>by rw[aD (b9 q hn)];exact q
end
def Rd(H:Hp)(a:ci)(u:HO):Prop:=H a=ap u\/∃o,H a=ap (.c6 o u)
def Rd.ok{H:Hp}{u:HO}(r:Rd H a u)(x:pJ P w H h):bA P w H h a u:=by
 rcases r with r | ⟨o,r⟩
 ·exact x a u r
 ·obtain⟨_,q⟩:=x a _ r;exact q
def Mut:Option HO->Prop
 | some (.lst _)=>True
 | some (.dK _)=>True
 | some (.dT _)=>True
 | some (.set _ _)=>True
 | some (.ins _ _ _)=>True
 | some (.ext _)=>True
 | _=>False
section
variable{H:Hp}{x:ci}{o':HO}
def pJ.write(ok:pJ P w H h)(mu:Mut (H x))(he:e=x\/H e=ap (.own x))(k:∀b u,b≠e->h.get? b=ap u->h'.get? b=ap u)(ď:∃u,h'.get? e=ap u)
  (new:bA P w (upd H x o') h' x o'):pJ P w (upd H x o') h':=λb u q=>by
 have aiD:∀c y,H c=ap (.own y)->c≠x:=λc y r z=>by subst z;rw[r]at mu;exact mu
 have amJ:∀c xs,H c=ap (.tup xs)->c≠x:=λc xs r z=>by subst z;rw[r]at mu;exact mu
 by_cases hb:b=x
 ·subst hb;rw[aW]at q;cases q;exact new
 ·rw[aD hb]at q;by_cases hbe:b=e
  ·have q':H b=ap (.own x):=by
    rcases he with z | z
    ·exact absurd (hbe.trans z) hb
    ·rw[hbe];exact z
   rw[q]at q';cases q';obtain⟨v,hv⟩:=ď;exact⟨v,by rw[hbe];exact hv⟩
  ·refine(ok b u q).Hu (λc v hc r=>k c v ?_ r) (λc r=>by rw[aD (aiD c b r)];exact r) λc xs r=>by rw[aD (amJ c xs r)];exact r
   rcases hc with rfl | hc
   ·exact hbe
   ·rintro rfl;rcases he with z | z
    ·exact aiD c b hc z
    ·rw[hc]at z;cases z;exact hb rfl
end
structure Un(fs ex:List ci)(H H':Hp)(h h':pr):Prop where
 keep:∀b o,h.get? b=ap o->H b=bm->b∉fs->b∉ex->h'.get? b=ap o
 slot:∀b o,h.get? b=ap o->H b=bm->b∈fs->b∉ex->∃sl,h'.get? b=ap {o with slots:=sl}
 free:∀b o,h.get? b=ap o->H b=bm->b∉ex->H' b=bm
 there:∀b o,h.get? b=ap o->b∉ex->∃o',h'.get? b=ap o'
 fN:∀b xs,H b=ap (.tup xs)->H' b=ap (.tup xs)
 xY:∀b o u,H b=ap (.c6 o u)->H' b=ap (.c6 o u)
 Hr:∀b ps,H b=ap (.tbl ps)->∃more,H' b=ap (.tbl (ps++more))
section
variable{fs ex:O ci}{H H1:Hp}{h1:pr}{x:ci}{o:HO}
def Un.any(u:Un fs ex H H1 h h1)(q:h.get? b=ap ob)(n:H b=bm)(hx:b∉ex):∃sl,h1.get? b=ap {ob with slots:=sl}:=by
 by_cases hb:b∈fs
 ·exact u.slot b ob q n hb hx
 ·exact⟨ob.slots,u.keep b ob q n hb hx⟩
def Un.kept(k:∀b u,h.get? b=ap u->h'.get? b=ap u):Un fs ex H H h h':=
 ⟨λb ob q _ _ _=>k b ob q,λb ob q _ _ _=>⟨ob.slots,k b ob q⟩,λ_ _ _ n _=>n,λb ob q _=>⟨ob,k b ob q⟩,λ_ _ q=>q,λ_ _ _ q=>q,λ_ ps q=>⟨#[],by rw[q];simp⟩⟩
def Un.refl:Un fs ex H H h h:=Un.kept λ_ _ q=>q
def Un.laid(k:∀b u,h.get? b=ap u->h'.get? b=ap u)(hp:h.objs.size<=a)(hn:H a=bm):Un fs ex H (upd H a o) h h' where
 keep:=λb u q _ _ _=>k b u q
 slot:=λb u q _ _ _=>⟨u.slots,k b u q⟩
 free:=λb u q n _=>by rw[aD (AM (AV (Aw q) hp))];exact n
 there:=λb u q _=>⟨u,k b u q⟩
 fN:=λb xs q=>by rw[aD (b9 q hn)];exact q
 xY:=λb u xs q=>by rw[aD (b9 q hn)];exact q
 Hr:=λb ps q=>⟨#[],by rw[aD (b9 q hn),q];simp⟩
def Un.write(mu:Mut (H x))(he:e=x\/H e=ap (.own x))(k:∀b u,b≠e->h.get? b=ap u->h'.get? b=ap u)(ď:∃u,h'.get? e=ap u):Un fs ex H (upd H x o) h h':=by
 have hx:∀b,H b=bm->b≠x:=λb n z=>by subst z;rw[n]at mu;exact mu
 have hb:∀b,H b=bm->b≠e:=λb n z=>by
  subst z;rcases he with r | r
  ·exact hx b n r
  ·rw[n]at r;cases r
 have hm:∀b u,H b=ap u->¬Mut (ap u)->b≠x:=λb u q nm z=>by subst z;rw[q]at mu;exact nm mu
 refine⟨λb u q n _ _=>k b u (hb b n) q,λb u q n _ _=>⟨u.slots,k b u (hb b n) q⟩,λb u q n _=>by rw[aD (hx b n)];exact n,λb u q _=>?_,
  λb xs q=>by rw[aD (hm b _ q λz=>z)];exact q,λb u xs q=>by rw[aD (hm b _ q λz=>z)];exact q,λb ps q=>⟨#[],by rw[aD (hm b _ q λz=>z),q];simp⟩⟩
 by_cases hbe:b=e
 ·subst hbe;exact ď
 ·exact⟨u,k b u hbe q⟩
end
def trk(h:pr)(H:Hp):O ci:=(Av h.objs.size).filter λa=>(H a).isSome
def IK(h:pr)(H:Hp):pr:=PySem.W.hideAll h (trk h H)
def Te(h:pr)(H:Hp):(IK h H).objs.size=h.objs.size:=PySem.W.hideAll_size _ _
def XD{H:Hp}{o:Obj}(e:h.get? b=ap o)(n:H b=bm):(IK h H).get? b=ap o:=
 PySem.W.hideAll_get _ e λhm=>by
  have q:=(Bm.mp hm).2;rw[n]at q;simp at q
def aat{H:Hp}{o:Obj}(e:(IK h H).get? b=ap o):h.get? b=ap o/\H b=bm:=by
 have e':=PySem.W.of_hideAll (trk h H) e;refine⟨e',?_⟩;cases q:H b with
 | none=>rfl
 | some x=>
  have hm:b∈trk h H:=Bm.mpr ⟨AG.mpr (Aw e'),by simp[q]⟩;have z:(IK h H).get? b=bm:=PySem.W.hideAll_none (trk h H) hm;rw[z]at e;cases e
def ab9(g h:pr)(L:ci):O (ci×Obj):=(Av h.objs.size).filterMap λa=>if a=L\/(g.get? a).isSome=true then bm else (h.get? a).map λo=>(a,o)
def rest(g h:pr)(L d:ci):O (ci×Obj):=(ab9 g h L).filter λp=>decide (p.1≠d)
end L2
variable{H H':L2.Hp}{o:F9}{Z:O (BU×F9)}{s s':DH}{g':Array PySem.GenState}{ch:O BU}{it:BU}{i j:Nat}{M:PySem.Model}{A:PySem.Around}{E:Be->DH->Prop}{v:L2.V}{Q:Unit->DH->Prop}
namespace L2
structure Mod(K:Ab)(mg:Str->Option ce)(base:pr):Prop where
 kin:K.In base
 glob:base.Ns f8 mg
 blt:∃mb,base.Ns builtinsNs mb/\∀x:Str,x≠"__name__"->mb x=re x
 nolimit:base.NoLimit
structure Cx where
 prog:wn
 w:wT
 K:Ab
 mg:Str->Option ce
 base:pr
 A:Da
 N:List Str
 s₀:cr
 H₀:Hp
 env:Env
 outer:List Env
 stack:List Env
 ex:List ci
 fn:Str->Bool
 calm:Bool
 pn:List (ci×Obj)
 xe:ce->cr->Prop
abbrev jN(x:Str):Prop:=(x==("__debug__":Str))=false
abbrev zY(x:Str):Prop:=(x==("__classdict__":Str))=false
abbrev iq(X:Cx)(e:lc)(es:O lc):Prop:=im (e::es) X.env=(false,lw e X.env)::im es X.env
abbrev m6(X:Cx)(p:Pos)(es:O lc):Prop:=(BT p (im es X.env)).any (·.1)=false
abbrev J6(X:Cx)(e:lc):Prop:=∀x,foldedSetIterable e X.env x=pure x
abbrev HWa(X:Cx)(p:Pos)(l:O lc):Prop:=((BT p (im l X.env)).all (λx=>!x.1)&&(backToKw p (keywordEach [] X.env)).all (λx=>x.1.isSome)&&decide (l.length+([]:O Keyword).length+(if ([]:O Keyword).isEmpty then 0 else 1) < 30))=true
abbrev RG(p q:Pos):Prop:=(p.endLine==q.line)=true
abbrev UG(X:Cx)(y:Str):Prop:=X.fn y=true\/X.env.scope.names.lookup y=ap .local
def US(l:O Env):O ci:=l.filterMap (·.frame)
abbrev Cx.fs(X:Cx):O ci:=US X.outer
def yT(sc:nn)(x:Str):Prop:=sc.names.lookup x=ap .local\/sc.names.lookup x=ap .cell\/sc.names.lookup x=ap .free
def Loc(sc:nn)(x:Str):Prop:=sc.names.lookup x=ap .local\/sc.names.lookup x=ap .cell
def Look(env:Env)(h:pr)(m:Str->Option ce)(x:Str)(u:ce):Prop:=
 (env.kindOf x=ap .local/\m x=ap u)\/((env.kindOf x=ap .cell\/env.kindOf x=ap .free)/\∃c,env.cells.lookup x=ap c/\h.IsCell c (ap u))
structure Cx.Ok(X:Cx):Prop where
 mod:Mod X.K X.mg X.base
 kind:X.env.scope.kind=.function
 glob:X.env.globals=f8
 blt:X.env.builtins=builtinsNs
 above:X.s₀.heap.objs.size<=X.env.locals
 inj:∀x y c,X.env.cells.lookup x=ap c->X.env.cells.lookup y=ap c->x=y
 has:∀x,(X.env.kindOf x=ap .cell\/X.env.kindOf x=ap .free)->∃c,X.env.cells.lookup x=ap c
 cab:∀x c,X.fn x=true->X.env.cells.lookup x=ap c->X.s₀.heap.objs.size<=c
 hd:X.calm=true->X.A.handled=bm
 frames:X.A.frames=ap X.stack
 stk:X.stack=X.outer\/(X.stack=X.env::X.outer/\X.env.frame=ap X.env.locals)
 exf:∀b∈X.ex,b≠X.env.locals/\∀x c,X.env.cells.lookup x=ap c->c≠b
 bs:∀b o,X.base.get? b=ap o->X.s₀.heap.get? b=ap o/\X.H₀ b=bm
 bsz:X.base.objs.size<=X.s₀.heap.objs.size
 WM:∀b o,X.base.get? b=ap o->b∉X.ex
 X5:∀b∈X.ex,b∉X.fs
 xX:X.s₀.heap.FunFrames X.base X.outer
 frf:∀b∈X.fs,X.H₀ b=bm
structure Inv(X:Cx)(Z:List (ci×Obj))(σ:List (Option V))(H:Hp)(s:cr):Prop where
 ok:X.Ok
 os:s.os=X.s₀.os
 bare:KF s.gens
 base:Un X.fs X.ex X.H₀ H X.s₀.heap s.heap
 loc:∃m,s.heap.Ns X.env.locals m/\∀(i:Nat) (x:Str) (v:V),X.N[i]?=ap x->σ[i]?=ap (ap v)->yT X.env.scope x->∃u,RelV v u/\Look X.env s.heap m x u
 cell:∀x c,X.env.cells.lookup x=ap c->∃v,s.heap.IsCell c v
 free:H X.env.locals=bm
 mY:∀x c,X.env.cells.lookup x=ap c->H c=bm
 pin:∀p∈X.pn++Z,s.heap.get? p.1=ap p.2/\H p.1=bm/\p.1≠X.env.locals/\p.1∉X.fs/\∀v,p.2.data≠.cell v
 bN:pJ X.prog X.w H s.heap
 len:σ.length=X.N.length
section
variable{X:Cx}{σ:O (Option V)}
def Cx.Ok.amL(ok:X.Ok)(e:X.base.get? b=ap o):b∉X.fs:=λhb=>by
 have:=(ok.xX.mem hb).1;rw[e]at this;cases this
def Inv.bs(I:Inv X Z σ H s):∀b o,X.base.get? b=ap o->s.heap.get? b=ap o/\H b=bm:=λb o e=>
 ⟨I.base.keep b o (I.ok.bs b o e).1 (I.ok.bs b o e).2 (I.ok.amL e) (I.ok.WM b o e),I.base.free b o (I.ok.bs b o e).1 (I.ok.bs b o e).2 (I.ok.WM b o e)⟩
def Inv.bk(I:Inv X Z σ H s):∀b o,X.base.get? b=ap o->s.heap.get? b=ap o:=λb o e=>(I.bs b o e).1
def Inv.mod(I:Inv X Z σ H s):Mod X.K X.mg X.base:=I.ok.mod
def Inv.zC(I:Inv X Z σ H s):X.K.In s.heap:=I.ok.mod.kin.keeps I.bk
def Inv.lt(I:Inv X Z σ H s):X.env.locals < s.heap.objs.size:=let ⟨_,hn,_⟩:=I.loc;hn.lt
def Inv.sz(I:Inv X Z σ H s):X.s₀.heap.objs.size<=s.heap.objs.size:=AW I.ok.above (Ey I.lt)
def Inv.amK(I:Inv X Z σ H s)(h:s.heap.objs.size<=a):a∉X.fs:=λhb=>by
 obtain⟨_,o,ho,_⟩:=I.ok.xX.mem hb;exact absurd (AV (Aw ho) (AW I.sz h)) (Ba _)
def Inv.cne(I:Inv X Z σ H s):∀x c,X.env.cells.lookup x=ap c->c≠X.env.locals:=λx c e z=>by
 obtain⟨v,o,ho,hd⟩:=I.cell x c e;obtain⟨m,⟨o',es,ep,XB,ų,_⟩,_⟩:=I.loc;rw[z,XB]at ho;cases ho;rw[ų]at hd;cases hd
def Inv.xX(I:Inv X Z σ H s):s.heap.FunFrames X.base X.outer:=by
 have all:∀(l:O Env),(∀b∈US l,b∈X.fs)->X.s₀.heap.FunFrames X.base l->s.heap.FunFrames X.base l:=by
  intro l
  induction l with
  | nil=>intro _ _;trivial
  | cons env r ih=>
   intro hs hl;obtain⟨hk,⟨L,o,hf,hn,ho,hd⟩,hr⟩:=hl;have hL:=hs L (by unfold US;rw[Bf,hf];exact BL);obtain⟨sl,e⟩:=I.base.slot L o ho (I.ok.frf L hL) hL λz=>I.ok.X5 L z hL;exact⟨hk,⟨L,_,hf,hn,e,hd⟩,ih (λb hb=>hs b (by unfold US;rw[Bf,hf];exact A6 _ hb)) hr⟩
 exact all X.outer (λ_ hb=>hb) I.ok.xX
def Inv.stack(I:Inv X Z σ H s):s.heap.FunFrames X.base X.stack:=by
 rcases I.ok.stk with e | ⟨e,hf⟩
 ·rw[e];exact I.xX
 ·rw[e];obtain⟨m,hn,_⟩:=I.loc;refine .cons (by rw[I.ok.kind];decide) hf hn ?_ I.xX;exact Heap.get?_none_of_le (AW I.ok.bsz I.ok.above)
def Inv.Nc(I:Inv X Z σ H s):∀b∈US X.stack,b∈X.env.locals::X.fs:=λb hb=>by
 rcases I.ok.stk with e | ⟨e,hf⟩
 ·rw[e]at hb;exact A6 _ hb
 ·rw[e]at hb;unfold US at hb;rw[Bf,hf]at hb;exact hb
def Inv.Qd(I:Inv X Z σ H s):∀b∈US X.stack,H b=bm:=λb hb=>by
 rcases AA.mp (I.Nc b hb) with e | hb
 ·rw[e];exact I.free
 ·obtain⟨_,o,ho,_⟩:=I.ok.xX.mem hb;exact I.base.free b o ho (I.ok.frf b hb) λz=>I.ok.X5 b z hb
def Inv.step{t':Nat}{d':Drawn}(I:Inv X Z σ H s)
  (Y3:∀b∈ch,(b∈X.ex\/X.s₀.heap.objs.size<=b)/\b≠X.env.locals/\(∀x c,X.env.cells.lookup x=ap c->c≠b)/\∀p∈X.pn++Z,p.1≠b)
  (keep:∀b o,b≠X.env.locals->b∉X.fs->b∉ch->s.heap.get? b=ap o->H b=bm->h'.get? b=ap o)
  (slot:∀b o,b≠X.env.locals->b∈X.fs->b∉ch->s.heap.get? b=ap o->H b=bm->∃sl,h'.get? b=ap {o with slots:=sl}) (free:∀b o,b∉ch->s.heap.get? b=ap o->H b=bm->H' b=bm)
  (there:∀b o,b∉ch->s.heap.get? b=ap o->∃o',h'.get? b=ap o')
  (fN:∀b xs,H b=ap (.tup xs)->H' b=ap (.tup xs)) (xY:∀b o u,H b=ap (.c6 o u)->H' b=ap (.c6 o u)) (Hr:∀b ps,H b=ap (.tbl ps)->∃more,H' b=ap (.tbl (ps++more)))
  (ns:∀m,s.heap.Ns X.env.locals m->h'.Ns X.env.locals m) (bN:pJ X.prog X.w H' h') (hg:KF g') :
  Inv X Z σ H' {s with heap:=h',gens:=g',drawn:=d',toks:=t'}:=by
 have neL:∀b o,X.s₀.heap.get? b=ap o->b≠X.env.locals:=λb o e=>AM (AV (Aw e) I.ok.above);have ĺ:∀b o,X.s₀.heap.get? b=ap o->b∉X.ex->b∉ch:=λb o e hx hb=>by
  rcases (Y3 b hb).1 with z | z
  ·exact hx z
  ·exact absurd (AV (Aw e) z) (Ba _)
 have î:∀x c,X.env.cells.lookup x=ap c->∀v,s.heap.IsCell c v->h'.IsCell c v:=λx c e v ⟨o,ho,hd⟩=>by
  have Ğ:c∉ch:=λz=>(Y3 c z).2.2.1 x c e rfl;by_cases hc:c∈X.fs
  ·obtain⟨sl,q⟩:=slot c o (I.cne x c e) hc Ğ ho (I.mY x c e);exact⟨_,q,hd⟩
  ·exact⟨o,keep c o (I.cne x c e) hc Ğ ho (I.mY x c e),hd⟩
 refine⟨I.ok,I.os,hg,⟨λb o e n hb hx=>?_,λb o e n hb hx=>?_,λb o e n hx=>?_,λb o e hx=>?_,λb xs e=>fN b xs (I.base.fN b xs e),λb o xs e=>xY b o xs (I.base.xY b o xs e),λb ps e=>?_⟩,?_,λx c e=>?_,?_,λx c e=>?_,λp hp=>?_,bN,I.len⟩
 ·exact keep b o (neL b o e) hb (ĺ b o e hx) (I.base.keep b o e n hb hx) (I.base.free b o e n hx)
 ·obtain⟨sl,e1⟩:=I.base.slot b o e n hb hx;obtain⟨sl',e2⟩:=slot b _ (neL b o e) hb (ĺ b o e hx) e1 (I.base.free b o e n hx);exact⟨sl',e2⟩
 ·obtain⟨o',e1⟩:=I.base.there b o e hx;exact free b o' (ĺ b o e hx) e1 (I.base.free b o e n hx)
 ·obtain⟨o',e1⟩:=I.base.there b o e hx;exact there b o' (ĺ b o e hx) e1
 ·obtain⟨m1,e1⟩:=I.base.Hr b ps e;obtain⟨m2,e2⟩:=Hr b _ e1;exact⟨m1++m2,by rw[e2,Array.append_assoc]⟩
 ·obtain⟨m,hn,hl⟩:=I.loc;refine⟨m,ns m hn,λi x v e1 e2 e3=>?_⟩;obtain⟨u,r,l⟩:=hl i x v e1 e2 e3;refine⟨u,r,?_⟩;rcases l with l | ⟨k,c,e,z⟩
  ·exact .inl l
  ·exact .inr ⟨k,c,e,î x c e _ z⟩
 ·obtain⟨v,z⟩:=I.cell x c e;exact⟨v,î x c e v z⟩
 ·obtain⟨m,⟨o,_,_,ho,_⟩,_⟩:=I.loc;exact free _ o (λz=>(Y3 _ z).2.1 rfl) ho I.free
 ·obtain⟨v,o,ho,hd⟩:=I.cell x c e;exact free c o (λz=>(Y3 c z).2.2.1 x c e rfl) ho (I.mY x c e)
 ·obtain⟨e,n,ne,nf,d⟩:=I.pin p hp;have Ğ:p.1∉ch:=λz=>(Y3 p.1 z).2.2.2 p hp rfl;exact⟨keep p.1 p.2 ne nf Ğ e n,free p.1 p.2 Ğ e n,ne,nf,d⟩
def Inv.un{t':Nat}(I:Inv X Z σ H s)(u:Un X.fs [] H H' s.heap h')(bN:pJ X.prog X.w H' h'):Inv X Z σ H' {s with heap:=h',toks:=t'}:=by
 obtain⟨m,⟨o,es,ep,ho,r⟩,_⟩:=id I.loc;obtain⟨sl,hL⟩:=u.any ho I.free (by simp);exact I.step (g':=s.gens) (d':=s.drawn) (ch:=[]) (λ_ z=>nomatch z) (λb o _ hb _ e n=>u.keep b o e n hb (by simp)) (λb o _ hb _ e n=>u.slot b o e n hb (by simp)) (λb o _ e n=>u.free b o e n (by simp)) (λb o _ e=>u.there b o e (by simp)) u.fN u.xY u.Hr (λm' hm=>by
  obtain⟨o',Ň,ň,XB,r'⟩:=hm;rw[ho]at XB;cases XB;exact⟨_,Ň,ň,hL,r'⟩) bN I.bare
def Inv.call{t':Nat}{d':Drawn}(I:Inv X Z σ H s)(u:Un (US X.stack) ch H H' s.heap h')(bN:pJ X.prog X.w H' h')(hg:KF g')
  (Y3:∀b∈ch,(b∈X.ex\/X.s₀.heap.objs.size<=b)/\b≠X.env.locals/\(∀x c,X.env.cells.lookup x=ap c->c≠b)/\∀p∈X.pn++Z,p.1≠b) :
  Inv X Z σ H' {s with heap:=h',gens:=g',drawn:=d',toks:=t'}:=by
 obtain⟨m,⟨o,es,ep,ho,r⟩,_⟩:=id I.loc;obtain⟨sl,hL⟩:=u.any ho I.free λz=>(Y3 _ z).2.1 rfl;exact I.step (ch:=ch) Y3 (λb o hL hb hc e n=>u.keep b o e n (λz=>(AA.mp (I.Nc b z)).elim hL hb) hc) (λb o _ _ hc e n=>u.any e n hc) (λb o hc e n=>u.free b o e n hc) (λb o hc e=>u.there b o e hc) u.fN u.xY u.Hr (λm' hm=>by
  obtain⟨o',Ň,ň,XB,r'⟩:=hm;rw[ho]at XB;cases XB;exact⟨_,Ň,ň,hL,r'⟩) bN hg
def Inv.turned{t':Nat}(I:Inv X Z σ H s)(k:∀b o,b≠it->s.heap.get? b=ap o->h'.get? b=ap o)(hn:H it=bm)(hL:it≠X.env.locals)
  (h1:it∈X.ex\/X.s₀.heap.objs.size<=it) (h2:∀x c,X.env.cells.lookup x=ap c->c≠it) (h3:∀p∈X.pn++Z,p.1≠it):Inv X Z σ H {s with heap:=h',toks:=t'}:=by
 have è:∀b u,H b=ap u->b≠it:=λb u e z=>by rw[z,hn]at e;cases e
 refine I.step (g':=s.gens) (d':=s.drawn) (ch:=[it]) (λb hb=>?_) (λb o _ _ hc e _=>k b o (λz=>hc (by simp[z])) e) (λb o _ _ hc e _=>⟨o.slots,k b o (λz=>hc (by simp[z])) e⟩) (λ_ _ _ _ n=>n)
  (λb o hc e=>⟨o,k b o (λz=>hc (by simp[z])) e⟩) (λ_ _ e=>e) (λ_ _ _ e=>e) (λb ps e=>⟨#[],by rw[e];simp⟩) (λm hm=>?_) (λb u e=>?_) I.bare
 ·have e:b=it:=by simpa using hb
  subst e;exact⟨h1,hL,h2,h3⟩
 ·obtain⟨o,es,ep,ho,r⟩:=hm;exact⟨o,es,ep,k _ o (BW hL) ho,r⟩
 ·refine(I.bN b u e).Hu (λc v hc q=>k c v ?_ q) (λ_ q=>q) λ_ _ q=>q;rcases hc with z | z
  ·rw[z];exact è b u e
  ·exact è c _ z
def Inv.tok(I:Inv X Z σ H s)(t:Nat):Inv X Z σ H {s with toks:=t}:=I.un (h':=s.heap) (t':=t) Un.refl I.bN
def Inv.kept{t':Nat}(I:Inv X Z σ H s)(k:∀b u,s.heap.get? b=ap u->h'.get? b=ap u):Inv X Z σ H {s with heap:=h',toks:=t'}:=I.un (Un.kept k) (I.bN.kept k)
def Inv.laid{o:HO}{t':Nat}(I:Inv X Z σ H s)(k:∀b u,s.heap.get? b=ap u->h'.get? b=ap u)(hp:s.heap.objs.size<=a)(new:bA X.prog X.w (upd H a o) h' a o) :
  Inv X Z σ (upd H a o) {s with heap:=h',toks:=t'}:=I.un (Un.laid k hp (I.bN.fresh hp)) (I.bN.laid k hp new)
def Inv.write{x:ci}{o:HO}{t':Nat}(I:Inv X Z σ H s)(mu:Mut (H x))(he:e=x\/H e=ap (.own x))(k:∀b u,b≠e->s.heap.get? b=ap u->h'.get? b=ap u)(ď:∃u,h'.get? e=ap u)
  (new:bA X.prog X.w (upd H x o) h' x o):Inv X Z σ (upd H x o) {s with heap:=h',toks:=t'}:=I.un (Un.write mu he k ď) (I.bN.write mu he k ď new)
def Inv.Qw{Kz:O (ci×Obj)}(I:Inv X Z σ H s)(h:∀p∈Kz,s.heap.get? p.1=ap p.2/\H p.1=bm/\p.1≠X.env.locals/\p.1∉X.fs/\∀v,p.2.data≠.cell v):Inv X Kz σ H s:=
 ⟨I.ok,I.os,I.bare,I.base,I.loc,I.cell,I.free,I.mY,λp hp=>(AJ.mp hp).elim (λz=>I.pin p (AZ _ z)) (h p),I.bN,I.len⟩
def KR{N:O Str}(hN:N.Nodup){x:Str}(a:N[i]?=ap x)(b:N[j]?=ap x):i=j:=by
 obtain⟨h1,e1⟩:=Al.mp a;obtain⟨h2,e2⟩:=Al.mp b;exact(List.getElem_inj hN).mp (e1.trans e2.symm)
def Gm{x:Str}(I:Inv X Z σ H s)(hN:X.N.Nodup)(hi:X.N[i]?=ap x)(hx:Loc X.env.scope x)(r:RelV v u)
  (h:∀s',Inv X Z (σ.set i (ap v)) H s'->(∃a,B1 a s.heap s'.heap/\(a=X.env.locals\/X.env.cells.lookup x=ap a))->Q () s') (hf:UG X x:=by first | exact .inl rfl | exact .inr rfl | assumption):db M A (storeName X.env x u) Q E s:=by
 obtain⟨m,hn,hl⟩:=id I.loc;have anS:(X.env.scope.kind==.class||(X.env.scope.kind==.module&&X.env.locals != X.env.globals))=false:=by rw[I.ok.kind];rfl
 have ajo:i < σ.length:=by rw[I.len];exact(Al.mp hi).1
 have cne:=I.cne;have Ò:∀{a:ci}{h':pr},(∃o,s.heap.get? a=ap o/\H a=bm)->B1 a s.heap h'->pJ X.prog X.w H h':=λ{a h'} ha hs b ob e=>by
  obtain⟨_,_,ac6⟩:=ha;refine(I.bN b ob e).Hu (λc w' hc q=>(hs.2 c ?_).trans q) (λ_ q=>q) λ_ _ q=>q;rintro rfl;rcases hc with rfl | hc
  ·rw[ac6]at e;cases e
  ·rw[ac6]at hc;cases hc
 rcases hx with hk | hk
 ·refine wpAny_storeName_local hk hn (λh' hn' hs=>?_) anS;obtain⟨oL,_,_,ł,_⟩:=id hn;refine h _ ⟨I.ok,I.os,I.bare,⟨λb o e n hb hx=>?_,λb o e n hb hx=>?_,I.base.free,λb o e hx=>?_,I.base.fN,I.base.xY,I.base.Hr⟩,⟨_,hn',λj y v' e1 e2 e3=>?_⟩,λy c e=>?_,I.free,I.mY,λp hp=>?_,Ò ⟨oL,ł,I.free⟩ hs,by simpa using I.len⟩ ⟨_,hs,.inl rfl⟩
  ·exact(hs.2 b (AM (AV (Aw e) I.ok.above))).trans (I.base.keep b o e n hb hx)
  ·obtain⟨sl,e1⟩:=I.base.slot b o e n hb hx;exact⟨sl,(hs.2 b (AM (AV (Aw e) I.ok.above))).trans e1⟩
  ·obtain⟨o',e1⟩:=I.base.there b o e hx;exact⟨o',(hs.2 b (AM (AV (Aw e) I.ok.above))).trans e1⟩
  ·by_cases hj:j=i
   ·subst hj;rw[hi]at e1;cases e1;rw[BR ajo]at e2;cases e2;exact⟨u,r,.inl ⟨hk,by simp⟩⟩
   ·rw[Bx (BW hj)]at e2;obtain⟨u',r',q⟩:=hl j y v' e1 e2 e3;refine⟨u',r',?_⟩;rcases q with⟨k,e⟩ | ⟨k,c,e,z⟩
    ·refine .inl ⟨k,?_⟩;have:y≠x:=λe=>hj (KR hN e1 (e▸hi));simp[this,e]
    ·exact .inr ⟨k,c,e,z.sameBut hs (cne y c e)⟩
  ·obtain⟨w',z⟩:=I.cell y c e;exact⟨w',z.sameBut hs (cne y c e)⟩
  ·obtain⟨e,n,ne,nf,d⟩:=I.pin p hp;exact⟨(hs.2 p.1 ne).trans e,n,ne,nf,d⟩
 ·have ĩ:X.fn x=true:=by
   rcases hf with z | z
   ·exact z
   ·rw[z]at hk;cases hk
  obtain⟨c,hc⟩:=I.ok.has x (.inl hk);obtain⟨w',z⟩:=I.cell x c hc;refine wpAny_storeName_cell I.ok.kind hk hc z (λh' Y4 hs=>?_);obtain⟨oc,hoc,anC⟩:=id z;refine h {s with heap:=h'} ⟨I.ok,I.os,I.bare,⟨λb o e n hb hx=>?_,λb o e n hb hx=>?_,I.base.free,λb o e hx=>?_,I.base.fN,I.base.xY,I.base.Hr⟩,⟨m,hn.sameBut hs (BW (cne x c hc)),λj y v' e1 e2 e3=>?_⟩,λy c' e=>?_,I.free,I.mY,λp hp=>?_,Ò ⟨oc,hoc,I.mY x c hc⟩ hs,by simpa using I.len⟩ ⟨c,hs,.inr hc⟩
  ·exact(hs.2 b (AM (AV (Aw e) (I.ok.cab x c ĩ hc)))).trans (I.base.keep b o e n hb hx)
  ·obtain⟨sl,e1⟩:=I.base.slot b o e n hb hx;exact⟨sl,(hs.2 b (AM (AV (Aw e) (I.ok.cab x c ĩ hc)))).trans e1⟩
  ·obtain⟨o',e1⟩:=I.base.there b o e hx;exact⟨o',(hs.2 b (AM (AV (Aw e) (I.ok.cab x c ĩ hc)))).trans e1⟩
  ·by_cases hj:j=i
   ·subst hj;rw[hi]at e1;cases e1;rw[BR ajo]at e2;cases e2;exact⟨u,r,.inr ⟨.inl hk,c,hc,Y4⟩⟩
   ·rw[Bx (BW hj)]at e2;obtain⟨u',r',q⟩:=hl j y v' e1 e2 e3;refine⟨u',r',?_⟩;rcases q with q | ⟨k,c',e,z'⟩
    ·exact .inl q
    ·refine .inr ⟨k,c',e,z'.sameBut hs ?_⟩;rintro rfl;exact hj (KR hN e1 (I.ok.inj _ _ _ e hc▸hi))
  ·by_cases hcc:c'=c
   ·subst hcc;exact⟨_,Y4⟩
   ·obtain⟨w2,z2⟩:=I.cell y c' e;exact⟨w2,z2.sameBut hs hcc⟩
  ·obtain⟨e,n,ne,nf,d⟩:=I.pin p hp;refine⟨(hs.2 p.1 ?_).trans e,n,ne,nf,d⟩;intro q;rw[q,hoc]at e;have q':oc=p.2:=Option.some.inj e;exact d w' (by rw[<- q'];exact anC)
def rq{x:Str}(I:Inv X Z σ H s)(hN:X.N.Nodup)(hi:X.N[i]?=ap x)(hx:Loc X.env.scope x)(r:RelV v u)
  (h:∀s',Inv X Z (σ.set i (ap v)) H s'->Q () s') (hf:UG X x:=by first | exact .inl rfl | exact .inr rfl | assumption):db M A (storeName X.env x u) Q E s:=
 Gm I hN hi hx r (λs' I' _=>h s' I') hf
def Inv.aj9(I:Inv X Z σ H s)(ho:s'.os=s.os)(u:Un (US X.stack) ch H H' s.heap s'.heap)(bN:pJ X.prog X.w H' s'.heap)(hg:KF s'.gens)
  (Y3:∀b∈ch,(b∈X.ex\/X.s₀.heap.objs.size<=b)/\b≠X.env.locals/\(∀x c,X.env.cells.lookup x=ap c->c≠b)/\∀p∈X.pn++Z,p.1≠b):Inv X Z σ H' s':=by
 obtain⟨h',g',d',t',o'⟩:=s';have e:o'=s.os:=ho;subst e;exact I.call (g':=g') (t':=t') (d':=d') u bN hg Y3
end
abbrev XK:=ce->Option ci->Hp->Prop
abbrev St:=O (Option V)
abbrev VK:=V->Hp->Prop
abbrev TE:=St->Hp->VK->Prop
abbrev TT:=St->Hp->(Bool->Hp->Prop)->Prop
abbrev TA:=St->Hp->(O V->Hp->Prop)->Prop
structure Ends where
 nx:St->Hp->Prop
 rt:VK
 bk:St->Hp->Prop:=λ_ _=>False
 ct:St->Hp->Prop:=λ_ _=>False
abbrev TS:=Ends->St->Hp->Prop
def EP(X:Cx)(Z:O (ci×Obj))(σ:St)(Q:VK)(u:ce)(s':cr):Prop:=∃v H',Inv X Z σ H' s'/\RelV v u/\Q v H'
def TP(X:Cx)(Z:O (ci×Obj))(σ:St)(Q:Bool->Hp->Prop)(b:Bool)(s':cr):Prop:=∃H',Inv X Z σ H' s'/\Q b H'
def AP(X:Cx)(Z:O (ci×Obj))(σ:St)(Q:O V->Hp->Prop)(us:O ce)(s':cr):Prop:=∃vs H',Inv X Z σ H' s'/\Vals vs us/\Q vs H'
def SP(X:Cx)(Z:O (ci×Obj))(D:Ends)(f:Flow)(s':cr):Prop:=
 match f with
 | .next=>∃σ' H',Inv X Z σ' H' s'/\D.nx σ' H'
 | .brk=>∃σ' H',Inv X Z σ' H' s'/\D.bk σ' H'
 | .cont=>∃σ' H',Inv X Z σ' H' s'/\D.ct σ' H'
 | .ret u=>∃v σ' H',Inv X Z σ' H' s'/\RelV v u/\D.rt v H'
def PE(X:Cx)(e:lc)(t:TE):Prop:=
 ∀(Z:O (ci×Obj)) (s:cr) (σ:St) (H:Hp) (Q:VK),Inv X Z σ H s->t σ H Q->db (ev X.prog X.w) X.A (lw e X.env) (EP X Z σ Q) X.xe s
def PT(X:Cx)(e:lc)(t:TT):Prop:=
 ∀(Z:O (ci×Obj)) (s:cr) (σ:St) (H:Hp) (Q:Bool->Hp->Prop),Inv X Z σ H s->t σ H Q->db (ev X.prog X.w) X.A (isTrue e X.env (lw e X.env)) (TP X Z σ Q) X.xe s
def PW(X:Cx)(e:lc)(t:TT):Prop:=
 ∀(Ä:Sem ce) (Z:O (ci×Obj)) (s:cr) (σ:St) (H:Hp) (Q:Bool->Hp->Prop),Inv X Z σ H s->t σ H Q->db (ev X.prog X.w) X.A (isTrue e X.env Ä) (TP X Z σ Q) X.xe s
def PW.pt{X:Cx}{e:lc}{t:TT}(h:PW X e t):PT X e t:=h _
def PA(X:Cx)(es:O lc)(t:TA):Prop:=
 ∀(pos:Pos) (Z:O (ci×Obj)) (s:cr) (σ:St) (H:Hp) (Q:O V->Hp->Prop),Inv X Z σ H s->t σ H Q->db (ev X.prog X.w) X.A (spliced (BT pos (im es X.env))) (AP X Z σ Q) X.xe s
def PS(X:Cx)(st:u8)(t:TS):Prop:=
 ∀(Z:O (ci×Obj)) (s:cr) (σ:St) (H:Hp) (D:Ends),Inv X Z σ H s->t D σ H->db (ev X.prog X.w) X.A (exec st X.env) (SP X Z D) X.xe s
def wG(X:Cx)(st:O u8)(t:TS):Prop:=
 ∀(Z:O (ci×Obj)) (s:cr) (σ:St) (H:Hp) (D:Ends),Inv X Z σ H s->t D σ H->db (ev X.prog X.w) X.A (execs st X.env) (SP X Z D) X.xe s
def bS{t:Sem α}{Q Q':α->cr->Prop}(h:db M A t Q E s)(hQ:∀a s,Q a s->Q' a s):db M A t Q' E s:=B9 h hQ λ_ _ x=>x
end L2
variable{x:Cu}{a:B8}{X:L2.Cx}{σ:L2.St}{Q:Be->DH->Prop}{ta tb:L2.TE}{R:L2.V->L2.V->L2.Hp->Prop}{pos:Cz}{op:PySem.CmpOp}
namespace L2
section
def bin{b:lc}(ha:PE X a ta)(hb:PE X b tb)(I:Inv X Z σ H s)(h:ta σ H λx H1=>tb σ H1 λy H2=>R x y H2){Q:α->cr->Prop}{f:ce->ce->Sem α}
  (hf:∀v u s2 x y H2,Inv X Z σ H2 s2->RelV x v->RelV y u->R x y H2->db (ev X.prog X.w) X.A (f v u) Q X.xe s2) :
  db (ev X.prog X.w) X.A (lw a X.env) (λv s₁=>db (ev X.prog X.w) X.A (lw b X.env) (λu s₂=>db (ev X.prog X.w) X.A (f v u) Q X.xe s₂) X.xe s₁) X.xe s:=by
 refine bS (ha Z s σ H _ I h) λv s1 ⟨x,H1,I1,r1,q1⟩=>?_;refine bS (hb Z s1 σ H1 _ I1 q1) λu s2 ⟨y,H2,I2,r2,q2⟩=>?_;exact hf v u s2 x y H2 I2 r1 r2 q2
def ahz(i:Nat):TE:=λσ H Q=>∃v,σ[i]?=ap (ap v)/\Q v H
def tC(v:V):TE:=λ_ H Q=>Q v H
def dI(hN:X.N[i]?=ap x)(hv:yT X.env.scope x)(hd: ~~~(jN x))(iG: ~~~(zY x)):PE X (.Name x pos) (ahz i):=by
 intro Z s σ H Q I h;obtain⟨v,e,h⟩:=h;obtain⟨m,hn,hl⟩:=I.loc;obtain⟨u,r,l⟩:=hl i x v hN e hv;have fin:EP X Z σ Q u s:=⟨v,H,I,r,h⟩;rcases l with⟨hk,hm⟩ | ⟨hk,c,hc,ac8⟩
 ·exact wpAny_Name (wpAny_loadName_local I.ok.kind hk hn hm fin) hd
 ·rcases hk with hk | hk
  ·exact wpAny_Name (wpAny_loadName_cell I.ok.kind hk hc ac8 fin) hd
  ·exact wpAny_Name (wpAny_loadName_free I.ok.kind hk hc ac8 fin iG) hd
def aeI{i j pos}:PE X (.Constant (.int i) j pos) (tC (.int i)):=λ_ _ _ H _ I h=>wpAny_Constant_int ⟨.int i,H,I.tok _,⟨_,rfl⟩,h⟩
def air{b j pos}:PE X (.Constant (.bool b) j pos) (tC (.bl b)):=λ_ _ _ H _ I h=>Constant_bool ⟨.bl b,H,I,rfl,h⟩
def Wn{j pos}:PE X (.Constant .none j pos) (tC .aL):=λ_ _ _ H _ I h=>Constant_none ⟨.aL,H,I,rfl,h⟩
def aeF{x j pos}:PE X (.Constant (.str x) j pos) (tC (.str x)):=λ_ _ _ H _ I h=>Calls.Constant_str ⟨.str x,H,I.tok _,⟨_,rfl⟩,h⟩
def Gl(X:Cx)(x:Str):Prop:=X.env.kindOf x=ap .globalImplicit
def QQ(I:Inv X Z σ H s)(hg:Gl X x)(hm:X.mg x=ap u)(h:Q u s)
  (hd: ~~~(jN x)):db (ev X.prog X.w) X.A (lw (.Name x pos) X.env) Q E s:=
 ED I.ok.kind hg (Calls.loadGlobal_global (by rw[I.ok.glob];exact I.mod.glob.keeps I.bk) hm h) hd
def jx(I:Inv X Z σ H s)(hg:Gl X x)(hm:X.mg x=bm)(hv:re x=ap u)(h:Q u s)
  (hn: ~~~(x≠"__name__")) (hd: ~~~(jN x)):db (ev X.prog X.w) X.A (lw (.Name x pos) X.env) Q E s:=by
 obtain⟨mb,h1,h2⟩:=I.mod.blt;exact ED I.ok.kind hg (Calls.loadGlobal_builtin (by rw[I.ok.glob];exact I.mod.glob.keeps I.bk) hm (by rw[I.ok.blt];exact h1.keeps I.bk) ((h2 x hn).trans hv) h) hd
def oK(hg:Gl X x)(hm:X.mg x=ap u)(r:RelV v u)(hd: ~~~(jN x)):PE X (.Name x pos) (tC v):=
 λ_ _ _ H _ I h=>QQ I hg hm ⟨v,H,I,r,h⟩ hd
def aae(hg:Gl X x)(hm:X.mg x=bm)(hv:re x=ap u)(r:RelV v u)(hn: ~~~(x≠"__name__"))(hd: ~~~(jN x)):PE X (.Name x pos) (tC v):=
 λ_ _ _ H _ I h=>jx I hg hm hv ⟨v,H,I,r,h⟩ hn hd
variable{b:lc}
def PC(X:Cx)(op:CmpOp)(a b:lc)(t:TE):Prop:=
 ∀(Z:O (ci×Obj)) (s:cr) (σ:St) (H:Hp) (Q:VK),Inv X Z σ H s->t σ H Q->
  db (ev X.prog X.w) X.A (lw a X.env) (λv s₁=>db (ev X.prog X.w) X.A (lw b X.env) (λu s₂=>db (ev X.prog X.w) X.A (nw op v u) (EP X Z σ Q) X.xe s₂) X.xe s₁) X.xe s
def tB(t:TE):TT:=λσ H Q=>t σ H λx H1=>∃c,x=.bl c/\Q c H1
def aey{t:TE}(h:PC X op a b t)(h1:sn op b=false:=by first | exact aiE _ ⋯ ⋯ | rfl):PT X (.Compare a [op] [b] pos) (tB t):=by
 intro Z s σ H Q I hw;refine wpAny_isTrue_Compare1 (bS (h Z s σ H _ I hw) λv s1 h1=>bS h1 λu s2 h2=>bS h2 λc s3 ⟨x,H1,I1,r1,q1⟩=>?_) h1;obtain⟨d,rfl,q⟩:=q1;cases r1;exact Bv ⟨H1,I1,q⟩
variable{tA Ĳ:TT}{rest:O lc}
def amq(t u:TT):TT:=λσ H Q=>t σ H λc H1=>if c=true then u σ H1 Q else Q false H1
def tOr(t u:TT):TT:=λσ H Q=>t σ H λc H1=>if c=true then Q true H1 else u σ H1 Q
def amj(t:TT):TT:=λσ H Q=>t σ H λc H1=>Q (!c) H1
def ZX(ha:PT X a tA):PW X (.BoolOp .And [a] pos) tA:=by
 intro wh Z s σ H Q I h;refine isTrue_and (bS (ha Z s σ H Q I h) λc s1 e=>?_);cases c with
 | true=>exact isTrue_and_nil e
 | false=>exact e
def aeu(ha:PT X a tA):PW X (.BoolOp .Or [a] pos) tA:=by
 intro wh Z s σ H Q I h;refine isTrue_or (bS (ha Z s σ H Q I h) λc s1 e=>?_);cases c with
 | false=>exact isTrue_or_nil e
 | true=>exact e
def aev(ha:PT X a tA)(hb:PW X (.BoolOp .And (b::rest) pos) Ĳ):PW X (.BoolOp .And (a::b::rest) pos) (amq tA Ĳ):=by
 intro wh Z s σ H Q I h;refine isTrue_and (bS (ha Z s σ H _ I h) λc s1 ⟨H1,I1,q1⟩=>?_);cases c with
 | true=>exact hb wh Z s1 σ H1 Q I1 q1
 | false=>exact⟨H1,I1,q1⟩
def ail(ha:PT X a tA)(hb:PW X (.BoolOp .Or (b::rest) pos) Ĳ):PW X (.BoolOp .Or (a::b::rest) pos) (tOr tA Ĳ):=by
 intro wh Z s σ H Q I h;refine isTrue_or (bS (ha Z s σ H _ I h) λc s1 ⟨H1,I1,q1⟩=>?_);cases c with
 | true=>exact⟨H1,I1,q1⟩
 | false=>exact hb wh Z s1 σ H1 Q I1 q1
def aex(ha:PT X a tA):PT X (.UnaryOp .Not a pos) (amj tA):=by
 intro Z s σ H Q I h;exact isTrue_not (ha Z s σ H (λc H1=>Q (!c) H1) I h)
def ahO(ta tb:TE):TE:=λσ H Q=>ta σ H λx H1=>∃c,x=.bl c/\if c=true then tb σ H1 Q else Q (.bl false) H1
def ami(ta tb:TE):TE:=λσ H Q=>ta σ H λx H1=>∃c,x=.bl c/\if c=true then Q (.bl true) H1 else tb σ H1 Q
def ahE(ta:TE):TE:=λσ H Q=>ta σ H λx H1=>∃c,x=.bl c/\Q (.bl (!c)) H1
def aeG{op}{t:TE}(h:PE X a t):PE X (.BoolOp op [a] pos) t:=λZ s σ H Q I hw=>BoolOp_one (h Z s σ H Q I hw)
def aeK(ha:PE X a ta)(hb:PE X (.BoolOp .And (b::rest) pos) tb):PE X (.BoolOp .And (a::b::rest) pos) (ahO ta tb):=by
 intro Z s σ H Q I h;refine BoolOp_and (bS (ha Z s σ H _ I h) λv s1 ⟨x,H1,I1,r1,q1⟩=>?_);obtain⟨c,rfl,q1⟩:=q1;cases r1;refine Bv ?_;cases c with
 | true=>exact hb Z s1 σ H1 Q I1 q1
 | false=>exact⟨.bl false,H1,I1,rfl,q1⟩
def aio(ha:PE X a ta)(hb:PE X (.BoolOp .Or (b::rest) pos) tb):PE X (.BoolOp .Or (a::b::rest) pos) (ami ta tb):=by
 intro Z s σ H Q I h;refine BoolOp_or (bS (ha Z s σ H _ I h) λv s1 ⟨x,H1,I1,r1,q1⟩=>?_);obtain⟨c,rfl,q1⟩:=q1;cases r1;refine Bv ?_;cases c with
 | false=>exact hb Z s1 σ H1 Q I1 q1
 | true=>exact⟨.bl true,H1,I1,rfl,q1⟩
def aeH(ha:PE X a ta):PE X (.UnaryOp .Not a pos) (ahE ta):=by
 intro Z s σ H Q I h;refine UnaryOp_ (bS (ha Z s σ H _ I h) λv s1 ⟨x,H1,I1,r1,q1⟩=>?_);obtain⟨c,rfl,q1⟩:=q1;cases r1;exact not_of (Bv ⟨.bl (!c),H1,I1,rfl,q1⟩)
def tIf(t:TT)(ta tb:TE):TE:=λσ H Q=>t σ H λc H1=>if c=true then ta σ H1 Q else tb σ H1 Q
def KD{c:lc}(hc:PT X c tA)(ha:PE X a ta)(hb:PE X b tb):PE X (.IfExp c a b pos) (tIf tA ta tb):=by
 intro Z s σ H Q I h;refine wpAny_IfExp (bS (hc Z s σ H _ I h) λd s1 ⟨H1,I1,q1⟩=>?_);cases d with
 | true=>exact ha Z s1 σ H1 Q I1 q1
 | false=>exact hb Z s1 σ H1 Q I1 q1
end
end L2
variable{xs ys:O L2.V}{e tg:B8}{y:L2.V}{D:L2.Ends}{te:L2.TE}{es:O B8}{n:Nat}{Ù px py pt:Cz}{body:O PySem.Stmt}
namespace L2
def eN(K:Ab)(H:Hp)(a:ci)(xs:O V):Prop:=
 Rd H a (.lst xs)\/
  ∃(o:Obj) (aw:Array ce) (n:Nat),K.lookup a=ap o/\o.cls=.type "list"/\o.dict=bm/\o.data=.seq aw n/\aw.size<=sizeLine/\Vals xs aw.toList
def eW(K:Ab)(H:Hp)(a:ci)(xs:O V):Prop:=
 Rd H a (.tup xs)\/
  ∃(o:Obj) (aw:Array ce) (n:Nat),K.lookup a=ap o/\o.cls=.type "tuple"/\o.data=.seq aw n/\aw.size<=sizeLine/\Vals xs aw.toList
def aou:ce->Option V
 | .none=>ap .aL
 | .bool b=>ap (.bl b)
 | .int i _=>ap (.int i)
 | .str x _=>ap (.str x)
 | .bytes b _=>ap (.byt b)
 | .float b _=>ap (.flt b)
 | .ref a=>ap (.ref a)
 | .type n=>ap (.ty n)
 | _=>bm
def RelV.abs{x:V}(r:RelV x u):aou u=ap x:=by
 cases x with
 | aL=>cases r;rfl
 | bl _=>cases r;rfl
 | int _=>obtain⟨t,rfl⟩:=r;rfl
 | str _=>obtain⟨t,rfl⟩:=r;rfl
 | byt _=>obtain⟨t,rfl⟩:=r;rfl
 | flt _=>obtain⟨t,rfl⟩:=r;rfl
 | ref _=>cases r;rfl
 | ty _=>cases r;rfl
def RelV.inj{x:V}(r:RelV x u)(q:RelV y u):x=y:=Option.some.inj (r.abs.symm.trans q.abs)
theorem Vals.inj:∀{xs ys:O V}{us:O ce},Vals xs us->Vals ys us->xs=ys
 | _,_,_,.nil,.nil=>rfl
 | _,_,_,.cons r t,.cons r' t'=>by rw[r.inj r',Vals.inj t t']
section
variable{a:ci}
def eN.of{K:Ab}(h:H a=ap (.lst xs)):eN K H a xs:=.inl (.inl h)
def eW.of{K:Ab}(h:H a=ap (.tup xs)):eW K H a xs:=.inl (.inl h)
theorem Inv.list(I:Inv X Z σ H s)(h:eN X.K H a xs):∃aw:O ce,Vals xs aw/\PlainL s.heap a aw.toArray/\xs.length<=sizeLine:=by
 rcases h with h | ⟨o,aw,n,hk,hc,hd,hs,hz,r⟩
 ·obtain⟨z,aw,n,r,e⟩:=h.ok I.bN;exact⟨aw,r,⟨_,n,e,rfl,rfl,rfl⟩,z⟩
 ·refine⟨aw.toList,r,⟨o,n,I.zC a o hk,hc,hd,by simpa using hs⟩,?_⟩;have e:=r.length;simp only[Cf]at e;omega
theorem Inv.tuple(I:Inv X Z σ H s)(h:eW X.K H a xs):∃aw:O ce,Vals xs aw/\IsTup s.heap a aw.toArray/\xs.length<=sizeLine:=by
 rcases h with h | ⟨o,aw,n,hk,hc,hs,hz,r⟩
 ·obtain⟨z,aw,r,p⟩:=h.ok I.bN;exact⟨aw,r,p,z⟩
 ·refine⟨aw.toList,r,⟨o,I.zC a o hk,hc,n,by simpa using hs⟩,?_⟩;have e:=r.length;simp only[Cf]at e;omega
def Inv.K5(I:Inv X Z σ H s)(h:eN X.K H a xs)(h':eN X.K H a ys):xs=ys:=by
 obtain⟨aw,r,⟨o,n,e,_,_,d⟩,_⟩:=I.list h;obtain⟨its',r',⟨o',n',e',_,_,d'⟩,_⟩:=I.list h';rw[e]at e';cases e';rw[d]at d';injection d' with d1 _;have:aw=its':=by simpa using congrArg Array.toList d1
 subst this;exact r.inj r'
def Inv.oD(I:Inv X Z σ H s)(h:eW X.K H a xs)(h':eW X.K H a ys):xs=ys:=by
 obtain⟨aw,r,⟨o,e,_,n,d⟩,_⟩:=I.tuple h;obtain⟨its',r',⟨o',e',_,n',d'⟩,_⟩:=I.tuple h';rw[e]at e';cases e';rw[d]at d';injection d' with d1 _;have:aw=its':=by simpa using congrArg Array.toList d1
 subst this;exact r.inj r'
end
abbrev Cx.yZ(X:Cx)(E:ce->cr->Prop):Cx:={X with xe:=E}
abbrev Cx.nox(X:Cx):Cx:=X.yZ λ_ _=>False
def Cx.Ok.yZ(ok:X.Ok)(E:ce->cr->Prop):(X.yZ E).Ok:=
 ⟨ok.mod,ok.kind,ok.glob,ok.blt,ok.above,ok.inj,ok.has,ok.cab,ok.hd,ok.frames,ok.stk,ok.exf,ok.bs,ok.bsz,ok.WM,ok.X5,ok.xX,ok.frf⟩
def Cx.Ok.nr(ok:(X.yZ E).Ok):X.Ok:=
 ⟨ok.mod,ok.kind,ok.glob,ok.blt,ok.above,ok.inj,ok.has,ok.cab,ok.hd,ok.frames,ok.stk,ok.exf,ok.bs,ok.bsz,ok.WM,ok.X5,ok.xX,ok.frf⟩
section
def Inv.yZ(I:Inv X Z σ H s)(E:ce->cr->Prop):Inv (X.yZ E) Z σ H s:=⟨I.ok.yZ E,I.os,I.bare,I.base,I.loc,I.cell,I.free,I.mY,I.pin,I.bN,I.len⟩
def Inv.nr(I:Inv (X.yZ E) Z σ H s):Inv X Z σ H s:=⟨I.ok.nr,I.os,I.bare,I.base,I.loc,I.cell,I.free,I.mY,I.pin,I.bN,I.len⟩
def SP.nr{f:Flow}(h:SP (X.yZ E) Z D f s'):SP X Z D f s':=by
 cases f with
 | next=>obtain⟨σ',H',I,q⟩:=h;exact⟨σ',H',I.nr,q⟩
 | brk=>obtain⟨σ',H',I,q⟩:=h;exact⟨σ',H',I.nr,q⟩
 | cont=>obtain⟨σ',H',I,q⟩:=h;exact⟨σ',H',I.nr,q⟩
 | ret u=>obtain⟨v,σ',H',I,r,q⟩:=h;exact⟨v,σ',H',I.nr,r,q⟩
def wG.nox{st:O u8}{t:TS}(h:wG X.nox st t):wG X st t:=λZ s σ H D I hw=>
 B9 (h Z s σ H D (I.yZ _) hw) (λ_ _ q=>q.nr) λ_ _ z=>BE z
end
section
variable{st:u8}{rest:O u8}{t u:TS}
def ahG:TS:=λD σ H=>D.nx σ H
def amf(t u:TS):TS:=λD σ H=>t {D with nx:=u D} σ H
def HH:wG X [] ahG:=λ_ _ σ H _ I h=>Ej ⟨σ,H,I,h⟩
def Kt(h1:PS X st t)(h2:wG X rest u):wG X (st::rest) (amf t u):=by
 intro Z s σ H D I h;refine wpAny_execs_cons (bS (h1 Z s σ H {D with nx:=u D} I h) λf s1 q=>?_);cases f with
 | next=>
  obtain⟨σ',H',I',q⟩:=q;exact h2 Z s1 σ' H' D I' q
 | ret v=>exact q
 | brk=>exact q
 | cont=>exact q
def ZZ(h1:PS X st t):wG X [st] t:=by
 intro Z s σ H D I h;refine wpAny_execs_cons (bS (h1 Z s σ H D I h) λf s1 q=>?_);cases f with
 | next=>exact Ej q
 | ret v=>exact q
 | brk=>exact q
 | cont=>exact q
def ahK:TS:=λD σ H=>D.ct σ H
def Kv:PS X (.Continue pos) ahK:=λ_ _ σ H _ I h=>wpAny_Continue ⟨σ,H,I,h⟩
def Inv.quiet(I:Inv X Z σ H s):interactive X.env=false:=by simp[interactive,I.ok.kind]
def ahI(te:TE):TS:=λD σ H=>te σ H λ_ H1=>D.nx σ H1
def vW(he:PE X e te)(hs:‹pc e bm pos.line X.env=pure false›):PS X (.Expr e pos) (ahI te):=by
 intro Z s σ H D I h;exact wpAny_Expr_any (bS (he Z s σ H _ I h) λv s1 ⟨x,H1,I1,r1,q1⟩=>⟨σ,H1,I1,q1⟩) I.quiet hs
def amg(te:TE):TS:=λD σ H=>te σ H D.rt
def HI(he:PE X e te):PS X (.Return (ap e) pos) (amg te):=by
 intro Z s σ H D I h;exact wpAny_Return_some (bS (he Z s σ H _ I h) λv s1 ⟨x,H1,I1,r1,q1⟩=>⟨x,σ,H1,I1,r1,q1⟩)
def aml(c:TT)(t u:TS):TS:=λD σ H=>c σ H λb H1=>if b=true then t D σ H1 else u D σ H1
def Wc{c:lc}{a b:O u8}{tc:TT}(hc:PT X c tc)(ha:wG X a t)(hb:wG X b u):PS X (.If c a b pos) (aml tc t u):=by
 intro Z s σ H D I h;refine wpAny_If (bS (hc Z s σ H _ I h) λd s1 ⟨H1,I1,q1⟩=>?_);cases d with
 | true=>exact ha Z s1 σ H1 D I1 q1
 | false=>exact hb Z s1 σ H1 D I1 q1
def adY:TS:=λ_ _ _=>False
end
abbrev TG:=V->St->Hp->(St->Hp->Prop)->Prop
abbrev TGs:=O V->St->Hp->(St->Hp->Prop)->Prop
def PG(X:Cx)(Ê:lc)(t:TG):Prop:=
 ∀(Z:O (ci×Obj)) (s:cr) (σ:St) (H:Hp) (v:V) (u:ce) (Q:St->Hp->Prop),Inv X Z σ H s->RelV v u->t v σ H Q->
  db (ev X.prog X.w) X.A (Ix Ê X.env u) (λ_ s'=>∃σ' H',Inv X Z σ' H' s'/\Q σ' H') X.xe s
def PGs(X:Cx)(ts:O lc)(t:TGs):Prop:=
 ∀(Z:O (ci×Obj)) (s:cr) (σ:St) (H:Hp) (vs:O V) (us:O ce) (Q:St->Hp->Prop),Inv X Z σ H s->Vals vs us->t vs σ H Q->
  db (ev X.prog X.w) X.A (assignInOrder ((Ev ts X.env).map (·.2)) us) (λ_ s'=>∃σ' H',Inv X Z σ' H' s'/\Q σ' H') X.xe s
abbrev YX:=V->V->V->Hp->(Hp->Prop)->Prop
def UE(X:Cx)(t:YX):Prop:=
 ∀(Z:O (ci×Obj)) (s:cr) (σ:St) (H:Hp) (o i v:V) (ov iv u:ce) (Q:Hp->Prop),Inv X Z σ H s->RelV o ov->RelV i iv->RelV v u->t o i v H Q->
  db (ev X.prog X.w) X.A (setItem ov iv u) (λ_ s'=>∃H',Inv X Z σ H' s'/\Q H') X.xe s
section
def fc(i:Nat):TG:=λv σ H Q=>Q (σ.set i (ap v)) H
def Z5(hN:X.N.Nodup)(hi:X.N[i]?=ap x)(hx:Loc X.env.scope x)(hf:UG X x:=by first | exact .inl rfl | exact .inr rfl | assumption):PG X (.Name x pos) (fc i):=by
 intro Z s σ H v u Q I r h;exact wpAny_assign_Name (rq I hN hi hx r (λs' I'=>⟨_,H,I',h⟩) hf)
def abq:TGs:=λvs σ H Q=>vs=[]/\Q σ H
def qc(t:TG)(u:TGs):TGs:=λvs σ H Q=>∃v r,vs=v::r/\t v σ H λσ' H'=>u r σ' H' Q
def bW:PGs X [] abq:=by
 intro Z s σ H vs us Q I r h;obtain⟨e,h⟩:=h;subst e;cases r;exact assignInOrder_nil ⟨σ,H,I,h⟩
def aB{t:TG}{u:TGs}(h1:PG X e t)(h2:PGs X es u)
  (hs:‹(Ev (e::es) X.env).map (·.2)=Ix e X.env::(Ev es X.env).map (·.2)›):PGs X (e::es) (qc t u):=by
 intro Z s σ H vs us Q I r h;obtain⟨v,vr,e1,h⟩:=h;subst e1;cases r with
 | cons r rr=>
  rw[hs];refine assignInOrder_cons (bS (h1 Z s σ H _ _ _ I r h) λ_ s1 ⟨σ1,H1,I1,q1⟩=>?_);exact h2 Z s1 σ1 H1 _ _ Q I1 rr q1
def abo(K:Ab)(n:Nat)(t:TGs):TG:=λv σ H Q=>∃a xs,v=.ref a/\eW K H a xs/\xs.length=n/\t xs σ H Q
def c8{k:Nat}{t:TGs}(hc:X.calm=true)(h:PGs X es t)
  (hn:‹(Ev es X.env).length=n›) (pj:‹(Ev es X.env).findIdx? (·.1)=bm›):PG X (.Tuple es k pos) (abo X.K n t):=by
 intro Z s σ H v u Q I r hw;obtain⟨a,xs,e1,hq,hl,hw⟩:=hw;subst e1;cases r;obtain⟨aw,rv,ht,hz⟩:=I.tuple hq;refine assign_Tuple_tuple (I.ok.hd hc) ht (by simp[hn,<- hl,rv.length]) pj λh' hx=>?_;have I1:Inv X Z σ H {s with heap:=h'}:=I.kept (t':=s.toks) λb o e=>hx b o (AM (Aw e)) e;exact h Z _ σ H xs _ Q I1 (by simpa using rv) hw
def an4(to ti:TE)(t:YX):TG:=λv σ H Q=>to σ H λo H1=>ti σ H1 λi H2=>t o i v H2 λH3=>Q σ H3
def aeE{o i:lc}{to ti:TE}{t:YX}(ho:PE X o to)(hi:PE X i ti)(hs:UE X t)
  (ha:∀v,Ix (.Subscript o i pos) X.env v=(do
   let ov <- FS [v] (lw o X.env)
   let iv <- FS [v,ov] (lw i X.env)
   standAt pos
   FS [v,ov,iv] (setItem ov iv v)
   release [v,ov,iv] []):=by intro _;rfl):PG X (.Subscript o i pos) (an4 to ti t):=by
 intro Z s σ H v u Q I r h;refine Aa (Bj (bS (ho Z s σ H _ I h) λov s1 ⟨x,H1,I1,r1,q1⟩=>?_));refine Aa (Bj (bS (hi Z s1 σ H1 _ I1 q1) λiv s2 ⟨y,H2,I2,r2,q2⟩=>?_));refine Aa (E4 (Aa (Bj (bS (hs Z s2 σ H2 x y v ov iv u _ I2 r1 r2 r q2) λ_ s3 ⟨H3,I3,q3⟩=>?_))));exact wpAny_release ⟨σ,H3,I3,q3⟩
def ad3(te:TE)(g:TG):TS:=λD σ H=>te σ H λx H1=>g x σ H1 D.nx
def We{g:TG}(he:PE X e te)(hg:PG X tg g)(hs:‹GM [tg] e pos.line X.env=pure false›)(hw:‹GT [tg] e X.env=pure bm›)
  (h1:‹(Ev [tg] X.env).map (·.2)=[Ix tg X.env]›):PS X (.Assign [tg] e pos) (ad3 te g):=by
 intro Z s σ H D I h;refine wpAny_Assign_stores (bS (he Z s σ H _ I h) λv s1 ⟨x,H1,I1,r1,q1⟩=>?_) hs hw;rw[h1];exact bS (hg Z s1 σ H1 x v _ I1 r1 q1) λ_ s2 q=>q
def tN(hN:X.N.Nodup)(hi:X.N[i]?=ap x)(hx:Loc X.env.scope x)(he:PE X e te)(hs:‹pc e (ap (.Name x Ù)) pos.line X.env=pure false›)(hf:UG X x:=by first | exact .inl rfl | exact .inr rfl | assumption) :
  PS X (.Assign [.Name x Ù] e pos) (ad3 te (fc i)):=by
 intro Z s σ H D I h;refine wpAny_Assign_Name (bS (he Z s σ H _ I h) λv s1 ⟨y,H1,I1,r1,q1⟩=>?_) hs;exact rq I1 hN hi hx r1 (λs2 I2=>⟨_,H1,I2,q1⟩) hf
def amh(i j:Nat)(ta:TA):TS:=λD σ H=>ta σ H λvs H1=>∃v w,vs=[v,w]/\D.nx ((σ.set i (ap v)).set j (ap w)) H1
def aeA{y:Str}{b:lc}{ta:TA}{kt k2 ø}(hc:X.calm=true)(hN:X.N.Nodup)(hi:X.N[i]?=ap x)(hj:X.N[j]?=ap y)(ħ:i≠j)
  (hx:X.env.scope.names.lookup x=ap .local) (hy:X.env.scope.names.lookup y=ap .local) (ha:PA X [a,b] ta)
  (hw:GT [.Tuple [.Name x px,.Name y py] kt pt] (.Tuple [a,b] k2 ø) X.env=pure (ap [x,y]))
  (hs:‹GM [.Tuple [.Name x px,.Name y py] kt pt] (.Tuple [a,b] k2 ø) pos.line X.env=pure false›) :
  PS X (.Assign [.Tuple [.Name x px,.Name y py] kt pt] (.Tuple [a,b] k2 ø) pos) (amh i j ta):=by
 intro Z s σ H D I h;refine Aa (E4 ?_);refine Aa (Af ?_);rw[if_neg ⋯];refine Aa (Tuple_ (bS (ha _ Z s σ H _ I h) λus s1 ⟨vs,H1,I1,r1,q1⟩=>?_));obtain⟨v,w,e1,q1⟩:=q1;subst e1;obtain⟨u1,u2,rfl,rv,HE⟩:∃u1 u2,us=[u1,u2]/\RelV v u1/\RelV w u2:=by
  cases r1 with
  | cons p q=>
   cases q with
   | cons p' q'=>
    cases q';exact⟨_,_,rfl,p,p'⟩
 refine AO ?_ (by show 2<=sizeLine;decide);have I2:Inv X Z σ H1 {s1 with heap:=s1.heap.push {cls:=.type "tuple",data:=.seq [u1,u2].toArray}}:=I1.kept (t':=s1.toks) λb o e=>Ag _ e;rw[hw];refine Aa (Af ?_);refine Aa (Dl (Aa (unpackItems_tuple (items:=#[u1,u2]) (I.ok.hd hc) (FV s1.heap _) λh' yS=>?_)));have I3:=I2.kept (h':=h') (t':=s1.toks) λb o e=>yS b o (AM (Aw e)) e;show db _ _ (assignInOrder [λv=>bindName X.env y v,λv=>bindName X.env x v] [u2,u1] >>= λ_=>pure Flow.next) _ _ _;refine Aa (assignInOrder_cons (wpAny_bindName (rq I3 hN hj (.inl hy) HE (λs2 I4=>?_) (.inr hy))));refine assignInOrder_cons (wpAny_bindName (rq I4 hN hi (.inl hx) rv (λs3 I5=>assignInOrder_nil (Af ?_)) (.inr hx)));rw[List.set_comm _ _ (BW ħ)]at I5;exact⟨_,H1,I5,q1⟩
end
section
def adW(c:TT)(tb:TS):TS:=λD σ H=>∃W:Nat->St->Hp->Prop,(∃m,W m σ H)/\∀m σ H,W m σ H->
 c σ H λb H1=>if b=true then ∃N:St->Hp->Prop,(∀σ' H',N σ' H'->∃m',m' < m/\W m' σ' H')/\tb {D with nx:=N,ct:=N,bk:=D.nx} σ H1 else D.nx σ H1
def Ku{c:lc}{tc:TT}{tb:TS}(hp:xz (ev X.prog X.w) X.A X.env X.xe)(hc:PT X c tc)(hb:wG X body tb):PS X (.While c body [] pos) (adW tc tb):=by
 intro Z s σ H D I h;obtain⟨W,⟨m0,w0⟩,turn⟩:=h;refine wpAny_While (codeAny_whileLoop (λn s'=>∃σ' H',Inv X Z σ' H' s'/\W n σ' H') ?_ m0 ⟨σ,H,I,w0⟩);rintro n s1 ⟨σ1,H1,I1,w1⟩;refine CF hp (bS (hc Z s1 σ1 H1 _ I1 (turn n σ1 H1 w1)) λb s2 ⟨H2,I2,q2⟩=>?_);cases b with
 | true=>
  obtain⟨N,hN,q2⟩:=q2;refine CF hp (bS (hb Z s2 σ1 H2 _ I2 q2) λf s3 q3=>?_);cases f with
  | next=>
   obtain⟨σ3,H3,I3,n3⟩:=q3;obtain⟨m',hm,w3⟩:=hN σ3 H3 n3;exact⟨m',hm,σ3,H3,I3,w3⟩
  | cont=>
   obtain⟨σ3,H3,I3,n3⟩:=q3;obtain⟨m',hm,w3⟩:=hN σ3 H3 n3;exact⟨m',hm,σ3,H3,I3,w3⟩
  | brk=>exact q3
  | ret v=>exact q3
 | false=>
  exact Ej ⟨σ1,H2,I2,q2⟩
end
structure It where
 go:Nat->Hp->Prop
 yld:Nat->Hp->V->Hp->Prop
 stop:Nat->Hp->Prop
def z0(X:Cx)(Z:O (ci×Obj))(H:Hp)(b:ci):Prop:=
 H b=bm/\b≠X.env.locals/\b∉X.fs/\(b∈X.ex\/X.s₀.heap.objs.size<=b)/\(∀x c,X.env.cells.lookup x=ap c->c≠b)/\∀p∈X.pn++Z,p.1≠b
def Inv.xZ(I:Inv X Z σ H s)(hb:s.heap.objs.size<=b)(hn:H' b=bm):z0 X Z H' b:=by
 refine⟨hn,Nat.ne_of_gt (AV I.lt hb),I.amK hb,.inr (AW I.sz hb),λx c e z=>?_,λp hp z=>?_⟩
 ·obtain⟨v,q⟩:=I.cell x c e;exact absurd (AV q.lt (by rw[z];exact hb)) (Ba _)
 ·exact absurd (AV (Aw (I.pin p hp).1) (by rw[z];exact hb)) (Ba _)
structure Turn(P:wn)(w:wT)(K:Ab)(tg:lc)(J:It)(fp:List ci)(it:ci)(tn:Nat->pr->Prop):Prop where
 mem:it∈fp
 obj:∀i h,tn i h->∀b∈fp,∃o,h.get? b=ap o/\∀v,o.data≠.cell v
 keep:∀i h h',tn i h->(∀b∈fp,∀o,h.get? b=ap o->h'.get? b=ap o)->tn i h'
 item:∀(X:Cx),X.prog=P->X.w=w->X.K=K->X.calm=true->∀(i:Nat) (Z:List (ci×Obj)) (s:cr) (σ:St) (H:Hp) (E:ce->cr->Prop),Inv X Z σ H s->(∀b∈fp,z0 X Z H b)->tn i s.heap->J.go i H->
  db (ev P w) X.A (KB (.ref it)) (λr s1=>∃u,r=ap u/\
   db (ev P w) X.A (KM tg (.ref it) u) (λ_ s2=>∃x H',Inv X Z σ H' s2/\RelV x u/\J.yld i H x H'/\tn (i+1) s2.heap/\∀b∈fp,H' b=bm) E s1) E s
 done:∀(X:Cx),X.prog=P->X.w=w->X.K=K->X.calm=true->∀(i:Nat) (Z:List (ci×Obj)) (s:cr) (σ:St) (H:Hp) (E:ce->cr->Prop),Inv X Z σ H s->(∀b∈fp,z0 X Z H b)->tn i s.heap->J.stop i H->
  db (ev P w) X.A (KB (.ref it)) (λr s1=>r=bm/\Inv X Z σ H s1) E s
 self:∀(A:Da) (i:Nat) (s:cr) (Q:ce->cr->Prop) (E:ce->cr->Prop),tn i s.heap->Q (.ref it) s->db (ev P w) A (pyIter (.ref it)) Q E s
abbrev TI:=St->Hp->(It->Hp->Prop)->Prop
def PIE(X:Cx)(Z:O (ci×Obj))(σ:St)(tg:lc)(R:It->Hp->Prop)(ļ:ce)(s2:cr):Prop:=
 ∃(it:ci) (fp:O ci) (tn:Nat->pr->Prop) (J:It) (H':Hp),ļ=.ref it/\Inv X Z σ H' s2/\Turn X.prog X.w X.K tg J fp it tn/\tn 0 s2.heap/\(∀b∈fp,z0 X Z H' b)/\R J H'
def PI(X:Cx)(tg iter:lc)(wi:TI):Prop:=
 ∀(Z:O (ci×Obj)) (s:cr) (σ:St) (H:Hp) (R:It->Hp->Prop),Inv X Z σ H s->wi σ H R->
  db (ev X.prog X.w) X.A (lw iter X.env) (λv s1=>db (ev X.prog X.w) X.A (pyIter v) (PIE X Z σ tg R) X.xe s1) X.xe s
def xT{n:String}{vs:Array ce}{Q:Unit->cr->Prop}(ho:s.heap.get? it=ap o)(hc:o.cls=.type n)(hd:o.data=.fields vs)
  (hn:["enumerate","zip","dict_itemiterator","dict_reverseitemiterator","odict_iterator","itertools.zip_longest","itertools.pairwise"].contains n=false) (hQ:Q () s):db M A (KM tg (.ref it) u) Q E s:=by
 unfold KM;cases tg <;> first
  | exact Af hQ
  | (cases u <;> first
    | exact Af hQ
    | (
      refine Aa (wpAny_load ho ?_);rw[hc,hd];show db M A (if (["enumerate","zip","dict_itemiterator","dict_reverseitemiterator","odict_iterator","itertools.zip_longest","itertools.pairwise"].contains n&&vs[0]?==ap (tz _))=true then _ else _) Q E s;rw[if_neg (by intro h;rw[hn,FQ]at h;cases h)];exact Af hQ))
def Itl(K:Ab)(a:ci):It:=
 ⟨λi H=>∃xs x,eN K H a xs/\xs[i]?=ap x,λi H x H'=>H'=H/\∀xs,eN K H a xs->xs[i]?=ap x,λi H=>∃xs,eN K H a xs/\xs.length<=i⟩
def Itt(K:Ab)(a:ci):It:=
 ⟨λi H=>∃xs x,eW K H a xs/\xs[i]?=ap x,λi H x H'=>H'=H/\∀xs,eW K H a xs->xs[i]?=ap x,λi H=>∃xs,eW K H a xs/\xs.length<=i⟩
def Itr(lo:Int)(n:Nat):It:=⟨λi _=>i < n,λi H x H'=>H'=H/\x=.int (lo+i),λi _=>n<=i⟩
theorem Gi{K:Ab}(a it:ci):Turn P w K tg (Itl K a) [it] it (λi h=>h.IsListIter it a i) where
 mem:=by simp
 obj:=λi h st b hb=>by
  have e:b=it:=by simpa using hb
  subst e;obtain⟨o,e,c,d⟩:=st;exact⟨o,e,λv z=>by rw[d]at z;cases z⟩
 keep:=λi h h' st k=>st.at λo e=>k it (by simp) o e
 item:=by
  intro X hP hw hK hc i Z s σ H E I hf st hg;subst hP hw hK;obtain⟨xs,x,hq,hx⟩:=hg;obtain⟨aw,rv,p,hz⟩:=I.list hq;obtain⟨u,hu,ru⟩:=rv.get hx;obtain⟨f0,f1,f2,f3,f4,f5⟩:=hf it (by simp);refine wpAny_pyNext_list_item st p.isList (x:=u) (by simpa using hu) λh' qU sb=>?_;have I1:Inv X Z σ H {s with heap:=h'}:=I.turned (t':=s.toks) (λb o hb e=>(sb.2 b hb).trans e) f0 f1 f3 f4 f5;obtain⟨o,e,c,d⟩:=id qU;exact⟨u,rfl,xT (s:={s with heap:=h'}) e c d ⋯ ⟨x,H,I1,ru,⟨rfl,λys hy=>by rw[I.K5 hy hq];exact hx⟩,qU,λb hb=>(hf b hb).1⟩⟩
 done:=by
  intro X hP hw hK hc i Z s σ H E I hf st hg;subst hP hw hK;obtain⟨xs,hq,hx⟩:=hg;obtain⟨aw,rv,p,hz⟩:=I.list hq;obtain⟨f0,f1,f2,f3,f4,f5⟩:=hf it (by simp);have hl:=rv.length;exact wpAny_pyNext_list_end (I.ok.hd hc) st p.isList (by simp;omega) λh' eb=>⟨rfl,I.turned (t':=s.toks) (λb o hb e=>eb b o hb e) f0 f1 f3 f4 f5⟩
 self:=λ_ _ _ _ _ st h=>wpAny_pyIter_listiter st h
theorem wM{K:Ab}(a it:ci):Turn P w K tg (Itt K a) [it] it (λi h=>h.IsTupleIter it a i) where
 mem:=by simp
 obj:=λi h st b hb=>by
  have e:b=it:=by simpa using hb
  subst e;obtain⟨o,e,c,d⟩:=st;exact⟨o,e,λv z=>by rw[d]at z;cases z⟩
 keep:=λi h h' st k=>st.at λo e=>k it (by simp) o e
 item:=by
  intro X hP hw hK hc i Z s σ H E I hf st hg;subst hP hw hK;obtain⟨xs,x,hq,hx⟩:=hg;obtain⟨aw,rv,p,hz⟩:=I.tuple hq;obtain⟨u,hu,ru⟩:=rv.get hx;obtain⟨f0,f1,f2,f3,f4,f5⟩:=hf it (by simp);refine wpAny_pyNext_tuple_item st (show s.heap.IsTuple a aw.toArray from p) (x:=u) (by simpa using hu) λh' qU sb=>?_;have I1:Inv X Z σ H {s with heap:=h'}:=I.turned (t':=s.toks) (λb o hb e=>(sb.2 b hb).trans e) f0 f1 f3 f4 f5;obtain⟨o,e,c,d⟩:=id qU;exact⟨u,rfl,xT (s:={s with heap:=h'}) e c d ⋯ ⟨x,H,I1,ru,⟨rfl,λys hy=>by rw[I.oD hy hq];exact hx⟩,qU,λb hb=>(hf b hb).1⟩⟩
 done:=by
  intro X hP hw hK hc i Z s σ H E I hf st hg;subst hP hw hK;obtain⟨xs,hq,hx⟩:=hg;obtain⟨aw,rv,p,hz⟩:=I.tuple hq;obtain⟨f0,f1,f2,f3,f4,f5⟩:=hf it (by simp);have hl:=rv.length;exact wpAny_pyNext_tuple_end (I.ok.hd hc) st (show s.heap.IsTuple a aw.toArray from p) (by simp;omega) λh' eb=>⟨rfl,I.turned (t':=s.toks) (λb o hb e=>eb b o hb e) f0 f1 f3 f4 f5⟩
 self:=λ_ _ _ _ _ st h=>wpAny_pyIter_tupleiter st h
theorem M6{K:Ab}(it:ci)(lo:Int)(n:Nat):Turn P w K tg (Itr lo n) [it] it (λi h=>IsRangeIter h it (lo+(i:Nat)*1) ((n:Int)-(i:Nat)) 1) where
 mem:=by simp
 obj:=λi h st b hb=>by
  have e:b=it:=by simpa using hb
  subst e;exact⟨_,st,λv z=>by
   have z':=z;cases z'⟩
 keep:=λi h h' st k=>k it (by simp) _ st
 item:=by
  intro X hP hw hK hc i Z s σ H E I hf st hg;subst hP hw hK;obtain⟨f0,f1,f2,f3,f4,f5⟩:=hf it (by simp);have W:=Walks.range (prog:=X.prog) (w:=X.w) (I.ok.hd hc) it lo 1 n;refine W.item i s _ _ hg st λv h' tk hv qU kk=>?_;obtain⟨t,rfl⟩:=hv;have I1:Inv X Z σ H {s with heap:=h',toks:=tk}:=I.turned (λb o hb e=>kk b o (by simpa using hb) e) f0 f1 f3 f4 f5;refine⟨_,rfl,xT (s:={s with heap:=h',toks:=tk}) (n:="range_iterator") qU rfl rfl ⋯ ⟨.int (lo+i),H,I1,⟨t,?_⟩,⟨rfl,rfl⟩,qU,λb hb=>(hf b hb).1⟩⟩;rw[Int.mul_one]
 done:=by
  intro X hP hw hK hc i Z s σ H E I hf st hg;obtain⟨f0,f1,f2,f3,f4,f5⟩:=hf it (by simp);exact wpAny_pyNext_range_end (I.ok.hd hc) st (by have:n<=i:=hg;omega) λh' eb=>⟨rfl,I.turned (t':=s.toks) (λb o hb e=>eb b o hb e) f0 f1 f3 f4 f5⟩
 self:=λ_ _ _ _ _ st h=>wpAny_pyIter_rangeiter st h
end L2
variable{tl:L2.TE}{p:Cz}{fp:O BU}{iter:B8}{wi:L2.TI}
namespace L2
section
def ac0(K:Ab)(tl:TE):TI:=λσ H R=>tl σ H λx H1=>∃a,x=.ref a/\(∃xs,eN K H1 a xs)/\R (Itl K a) H1
def Z4{l:lc}(hl:PE X l tl):PI X tg l (ac0 X.K tl):=by
 intro Z s σ H R I h;refine bS (hl Z s σ H _ I h) λv s1 ⟨x,H1,I1,r1,q1⟩=>?_;obtain⟨a,e,⟨xs,hq⟩,q⟩:=q1;subst e;cases r1;obtain⟨aw,rv,p,hz⟩:=I1.list hq;refine Dg p.isList ?_;refine⟨s1.heap.objs.size,[s1.heap.objs.size],_,_,H1,rfl,I1.kept (t':=s1.toks) λb o e=>Ag _ e,Gi a _,⟨_,Ar _ rfl,rfl,rfl⟩,λb hb=>?_,q⟩;have e:b=s1.heap.objs.size:=by simpa using hb
 subst e;exact I1.xZ (An _) (I1.bN.fresh (An _))
theorem VY{R:It->Hp->Prop}{lo hi:Int}{t u v:Tok}{tk:Nat}(I:Inv X Z σ H s)(h1:-(2 ^ 62)<=lo)(h2:lo < 2 ^ 62)(h3:-(2 ^ 62)<=hi)(h4:hi < 2 ^ 62)
  (q:R (Itr lo (hi-lo).toNat) H):db (ev X.prog X.w) X.A (pyIter (.ref s.heap.objs.size)) (PIE X Z σ tg R) E {s with heap:=s.heap.push {cls:=.type "range",data:=.fields #[.int lo t,.int hi u,.int 1 v]},toks:=tk}:=by
 refine wpAny_pyIter_range (IsRange.new ..) (small_one h1 h2 h3 h4) ?_;have I1:Inv X Z σ H {s with heap:=s.heap.push {cls:=.type "range",data:=.fields #[.int lo t,.int hi u,.int 1 v]},toks:=tk}:=I.kept λb o e=>Ag _ e;refine⟨(s.heap.push {cls:=.type "range",data:=.fields #[.int lo t,.int hi u,.int 1 v]}).objs.size,[(s.heap.push {cls:=.type "range",data:=.fields #[.int lo t,.int hi u,.int 1 v]}).objs.size],_,_,H,rfl,
  I1.kept (t':=tk) λb o e=>Ag _ e,M6 _ lo (hi-lo).toNat,?_,λb hb=>?_,q⟩
 ·have e1:lo+((0:Nat):Int)*1=lo:=by simp
  have e2:(((hi-lo).toNat:Nat):Int)-((0:Nat):Int)=Builtin.Range.rangeSize lo hi 1:=by rw[rangeSize_one];split <;> omega
  show IsRangeIter _ _ (lo+((0:Nat):Int)*1) ((((hi-lo).toNat:Nat):Int)-((0:Nat):Int)) 1;rw[e1,e2];exact Ar _ rfl
 ·have e:b=(s.heap.push {cls:=.type "range",data:=.fields #[.int lo t,.int hi u,.int 1 v]}).objs.size:=by simpa using hb
  subst e;exact I1.xZ (An _) (I1.bN.fresh (An _))
def ai7(ta:TA):TI:=λσ H R=>ta σ H λvs H1=>∃j:Int,vs=[.int j]/\-(2 ^ 62)<=j/\j < 2 ^ 62/\R (Itr 0 j.toNat) H1
theorem Si{ta:TA}(hg:Gl X "range")(hm:X.mg "range"=bm)(ha:PA X [a] ta)(hs:‹im [a] X.env=[(false,lw a X.env)]›):PI X tg (.Call (.Name "range" p) [a] [] pos) (ai7 ta):=by
 intro Z s σ H R I h;refine Call_ (jx I hg hm boot_range (Bg (bS (ha pos Z s σ H _ I h) λus s1 ⟨vs,H1,I1,r1,q1⟩=>?_) hs rfl));obtain⟨j,e,q1,q2,q⟩:=q1;subst e;cases r1 with
 | cons r rr=>
  cases rr;obtain⟨t,rfl⟩:=r;exact call_range_1 (VY I1 ∅ ∅ q1 q2 (by simpa using q))
def amm(wi:TI)(g:TG)(tb:TS):TS:=λD σ H=>wi σ H λJ H1=>∃W:Nat->Nat->St->Hp->Prop,(∃m,W 0 m σ H1)/\∀i m σ H,W i m σ H->
 (J.stop i H/\D.nx σ H)\/(J.go i H/\∃N:St->Hp->Prop,(∀σ' H',N σ' H'->∃m',m' < m/\W (i+1) m' σ' H')/\∀x H',J.yld i H x H'->g x σ H' λσ2 H2=>tb {D with nx:=N,ct:=N,bk:=D.nx} σ2 H2)
def tQ(fp:O ci)(h:pr):O (ci×Obj):=fp.filterMap λb=>(h.get? b).map λo=>(b,o)
def lR(hb:b∈fp)(e:h.get? b=ap o):(b,o)∈tQ fp h:=EM.mpr ⟨b,hb,by rw[e];rfl⟩
def Sm{p:ci×Obj}(hp:p∈tQ fp h):p.1∈fp/\h.get? p.1=ap p.2:=by
 obtain⟨b,hb,e⟩:=EM.mp hp;cases q:h.get? b with
 | none=>rw[q]at e;cases e
 | some o=>
  rw[q]at e;have e':=Option.some.inj e;subst e';exact⟨hb,q⟩
def Inv.pinned(I:Inv X Z σ H s)(hf:∀b∈fp,z0 X Z H b)(ho:∀b∈fp,∃o,s.heap.get? b=ap o/\∀v,o.data≠.cell v):Inv X (Z++tQ fp s.heap) σ H s:=
 I.Qw λp hp=>(AJ.mp hp).elim (λz=>I.pin p (AI _ z)) λz=>by
  obtain⟨hb,e⟩:=Sm z;obtain⟨f0,f1,f2,_⟩:=hf p.1 hb;obtain⟨o,e',d⟩:=ho p.1 hb;rw[e]at e';cases e';exact⟨e,f0,f1,f2,d⟩
def Inv.nt{pl:O (ci×Obj)}(I:Inv X (Z++pl) σ H s):Inv X Z σ H s:=I.Qw λp hp=>I.pin p (AI _ (AZ _ hp))
def Np{g:TG}{tb:TS}(hp:xz (ev X.prog X.w) X.A X.env X.xe)(hc:X.calm=true)(hi:PI X tg iter wi)(hg:PG X tg g)(hb:wG X body tb)
  (hs:J6 X iter:=by intro _;rfl):PS X (.For tg iter body [] pos) (amm wi g tb):=by
 intro Z s σ H D I h;refine wpAny_For (bS (hi Z s σ H _ I h) λv s1 h1=>bS h1 λļ s2 h2=>?_) hs;obtain⟨it,fp,tn,J,H2,e,I2,T,RV,f2,W,⟨m0,w0⟩,turn⟩:=h2;subst e;have ad9:∀{H':Hp},(∀b∈fp,H' b=bm)->∀b∈fp,z0 X Z H' b:=λhn b hb=>⟨hn b hb,(f2 b hb).2⟩;refine codeAny_forLoop_any (λn s'=>∃i σ' H',Inv X Z σ' H' s'/\tn i s'.heap/\(∀b∈fp,H' b=bm)/\W i n σ' H') ?_ m0 ⟨0,σ,H2,I2,RV,λb hb=>(f2 b hb).1,w0⟩;rintro n s3 ⟨i,σ3,H3,I3,Ė,į,w3⟩;rcases turn i n σ3 H3 w3 with⟨stop,qn⟩ | ⟨go,N,hN,step⟩
 ·refine CF hp (bS (T.done X rfl rfl rfl hc i Z s3 σ3 H3 X.xe I3 (ad9 į) Ė stop) λr s4 ⟨hr,I4⟩=>?_);subst hr;exact Ej ⟨σ3,H3,I4,qn⟩
 ·refine CF hp (bS (T.item X rfl rfl rfl hc i Z s3 σ3 H3 X.xe I3 (ad9 į) Ė go) λr s4 ⟨u,hr,h4⟩=>?_);subst hr;refine CF hp (bS h4 λ_ s5 ⟨x,H5,I5,r5,y5,ò,Ÿ⟩=>?_);have I5':=I5.pinned (ad9 Ÿ) (T.obj _ _ ò);refine CF hp (bS (hg _ s5 σ3 H5 x u _ I5' r5 (step x H5 y5)) λ_ s6 ⟨σ6,H6,I6,q6⟩=>?_);refine CF hp (bS (hb _ s6 σ6 H6 _ I6 q6) λf s7 q7=>?_);have again:∀{σ7:St}{H7:Hp},Inv X (Z++tQ fp s5.heap) σ7 H7 s7->N σ7 H7->∃m,m < n/\∃i σ' H',Inv X Z σ' H' s7/\tn i s7.heap/\(∀b∈fp,H' b=bm)/\W i m σ' H':=λ{σ7 H7} I7 n7=>by
   obtain⟨m',hm,w7⟩:=hN σ7 H7 n7;refine⟨m',hm,i+1,σ7,H7,I7.nt,T.keep _ _ _ ò λb hb o e=>(I7.pin (b,o) (AI _ (AI _ (lR hb e)))).1,λb hb=>?_,w7⟩;obtain⟨o,e,d⟩:=T.obj _ _ ò b hb;exact(I7.pin (b,o) (AI _ (AI _ (lR hb e)))).2.1
  cases f with
  | next=>obtain⟨σ7,H7,I7,n7⟩:=q7;exact again I7 n7
  | cont=>obtain⟨σ7,H7,I7,n7⟩:=q7;exact again I7 n7
  | brk=>obtain⟨σ7,H7,I7,q7⟩:=q7;exact⟨σ7,H7,I7.nt,q7⟩
  | ret v=>obtain⟨x7,σ7,H7,I7,r7,q7⟩:=q7;exact⟨x7,σ7,H7,I7.nt,r7,q7⟩
end
end L2
variable{i:Int}{g:Int->Int->Int}{UM:PySem.CmpOp}{aw:O Be}
namespace L2
abbrev R2:=V->V->Hp->VK->Prop
def jV(X:Cx)(f:ce->ce->Sem ce)(r:R2):Prop:=
 ∀(Z:O (ci×Obj)) (s:cr) (σ:St) (H:Hp) (x y:V) (v u:ce) (Q:VK),Inv X Z σ H s->RelV x v->RelV y u->r x y H Q->
  db (ev X.prog X.w) X.A (f v u) (EP X Z σ Q) X.xe s
def UnR(X:Cx)(f:ce->Sem ce)(r:V->Hp->VK->Prop):Prop:=
 ∀(Z:O (ci×Obj)) (s:cr) (σ:St) (H:Hp) (x:V) (v:ce) (Q:VK),Inv X Z σ H s->RelV x v->r x H Q->
  db (ev X.prog X.w) X.A (f v) (EP X Z σ Q) X.xe s
def cC(X:Cx)(f:ce)(r:O V->Hp->VK->Prop):Prop:=
 ∀(Z:O (ci×Obj)) (s:cr) (σ:St) (H:Hp) (xs:O V) (us:O ce) (Q:VK),Inv X Z σ H s->Vals xs us->r xs H Q->
  db (ev X.prog X.w) X.A (call f us) (EP X Z σ Q) X.xe s
def aox(X:Cx)(r:V->Hp->(Bool->Hp->Prop)->Prop):Prop:=
 ∀(Z:O (ci×Obj)) (s:cr) (σ:St) (H:Hp) (x:V) (v:ce) (Q:Bool->Hp->Prop),Inv X Z σ H s->RelV x v->r x H Q->
  db (ev X.prog X.w) X.A (truthy v) (TP X Z σ Q) X.xe s
def tOp(r:R2)(ta tb:TE):TE:=λσ H Q=>ta σ H λx H1=>tb σ H1 λy H2=>r x y H2 Q
def tUn(r:V->Hp->VK->Prop)(ta:TE):TE:=λσ H Q=>ta σ H λx H1=>r x H1 Q
def rI(C:Int->Int->Prop)(g:Int->Int->V):R2:=λx y H Q=>∃i j,x=.int i/\y=.int j/\C i j/\Q (g i j) H
def ZT(g:Int->Int->V):R2:=λx y H Q=>∃i j,x=.int i/\y=.int j/\Q (g i j) H
def rU(g:Int->V):V->Hp->VK->Prop:=λx H Q=>∃i,x=.int i/\Q (g i) H
section
variable{b:lc}
def agl(ha:PE X a ta)(hb:PE X b tb)(I:Inv X Z σ H s)
  (h:ta σ H λx H1=>tb σ H1 λy H2=>R x y H2) {f:ce->ce->Sem ce}
  (hf:∀v u s2 x y H2,Inv X Z σ H2 s2->RelV x v->RelV y u->R x y H2->db (ev X.prog X.w) X.A (f v u) Q X.xe s2) :
  db (ev X.prog X.w) X.A (lw a X.env) (λv s₁=>db (ev X.prog X.w) X.A (lw b X.env) (λu s₂=>db (ev X.prog X.w) X.A (f v u) Q X.xe s₂) X.xe s₁) X.xe s:=by
 refine bS (ha Z s σ H _ I h) λv s1 ⟨x,H1,I1,r1,q1⟩=>?_;refine bS (hb Z s1 σ H1 _ I1 q1) λu s2 ⟨y,H2,I2,r2,q2⟩=>?_;exact hf v u s2 x y H2 I2 r1 r2 q2
def Qx{op:Operator}{r:R2}(ho:jV X (tt op) r)(ha:PE X a ta)(hb:PE X b tb):PE X (.BinOp a op b pos) (tOp r ta tb):=by
 intro Z s σ H Q I h;exact wpAny_BinOp (agl ha hb I h λv u s2 x y H2 I2 rx ry q=>ho Z s2 σ H2 x y v u Q I2 rx ry q)
def ain{op:UnaryOp}{r:V->Hp->VK->Prop}(ho:UnR X (unaryOp op) r)(ha:PE X a ta):PE X (.UnaryOp op a pos) (tUn r ta):=by
 intro Z s σ H Q I h;exact UnaryOp_ (bS (ha Z s σ H _ I h) λv s1 ⟨x,H1,I1,r1,q1⟩=>ho Z s1 σ H1 x v Q I1 r1 q1)
def opI{f:ce->ce->Sem ce}{C:Int->Int->Prop}
  (rule:∀(i j:Int) (t u:Tok) (s:cr) (Q:ce->cr->Prop) (E:ce->cr->Prop),C i j->Q (.int (g i j) s.toks) {s with toks:=s.toks+1}->db (ev X.prog X.w) X.A (f (.int i t) (.int j u)) Q E s) :
  jV X f (rI C λi j=>.int (g i j)):=by
 intro Z s σ H x y v u Q I rx ry h;obtain⟨i,j,rfl,rfl,hc,q⟩:=h;obtain⟨t,rfl⟩:=rx;obtain⟨t',rfl⟩:=ry;exact rule i j t t' s _ _ hc ⟨.int (g i j),H,I.tok _,⟨_,rfl⟩,q⟩
def aiy{f:ce->ce->Sem ce}
  (rule:∀(i j:Int) (t u:Tok) (s:cr) (Q:ce->cr->Prop) (E:ce->cr->Prop),Q (.int (g i j) s.toks) {s with toks:=s.toks+1}->db (ev X.prog X.w) X.A (f (.int i t) (.int j u)) Q E s) :
  jV X f (ZT λi j=>.int (g i j)):=by
 intro Z s σ H x y v u Q I rx ry h;obtain⟨i,j,rfl,rfl,q⟩:=h;obtain⟨t,rfl⟩:=rx;obtain⟨t',rfl⟩:=ry;exact rule i j t t' s _ _ ⟨.int (g i j),H,I.tok _,⟨_,rfl⟩,q⟩
def aas{f:ce->ce->Sem ce}{g:Int->Int->Bool}
  (rule:∀(i j:Int) (t u:Tok) (s:cr) (Q:ce->cr->Prop) (E:ce->cr->Prop),Q (.bool (g i j)) s->db (ev X.prog X.w) X.A (f (.int i t) (.int j u)) Q E s) :
  jV X f (ZT λi j=>.bl (g i j)):=by
 intro Z s σ H x y v u Q I rx ry h;obtain⟨i,j,rfl,rfl,q⟩:=h;obtain⟨t,rfl⟩:=rx;obtain⟨t',rfl⟩:=ry;exact rule i j t t' s _ _ ⟨.bl (g i j),H,I,rfl,q⟩
def UH(i j:Int):Prop:=0 < j/\j < 1073741824
def YY(i j:Int):Prop:=0<=j/\j<=1000000/\i.natAbs < 2 ^ 64
def acp(i j:Int):Prop:=(-(2 ^ 64) < i/\i < 2 ^ 64)\/(-(2 ^ 64) < j/\j < 2 ^ 64)
def acp.ok{j:Int}(h:acp i j):ut i j:=by
 rcases h with⟨h1,h2⟩ | ⟨h1,h2⟩
 ·exact .of_left (intBits_le_64 h1 h2)
 ·exact .of_right (intBits_le_64 h1 h2)
def aeU:jV X (tt .Add) (ZT λi j=>.int (i+j)):=aiy λ_ _ _ _ _ _ _ q=>add_int q
def aeM:jV X (tt .Sub) (ZT λi j=>.int (i-j)):=aiy λ_ _ _ _ _ _ _ q=>sub_int q
theorem aan:jV X (tt .FloorDiv) (rI UH λi j=>.int (i / j)):=opI λi j _ _ _ _ _ hc q=>by
 have h1:(0:Int) < j:=hc.1;have h2:j < 1073741824:=hc.2;exact floordiv_int ∅ (by rw[Int.fdiv_eq_ediv_of_nonneg i ∅];exact q) (.inl (PyProof.noPylong_small ∅))
theorem aeQ:jV X (tt .Mod) (rI (λ_ j=>0 < j) λi j=>.int (i % j)):=opI λi j _ _ _ _ _ hc q=>by
 have h1:(0:Int) < j:=hc;exact mod_int' ∅ (by rw[Int.fmod_eq_emod_of_nonneg i ∅];exact q)
def aeO:jV X (tt .Pow) (rI YY λi j=>.int (i ^ j.toNat)):=opI λ_ _ _ _ _ _ _ hc q=>pow_int_small hc.1 hc.2.1 hc.2.2 q
def unI{f:ce->Sem ce}{g:Int->Int}
  (rule:∀(i:Int) (t:Tok) (s:cr) (Q:ce->cr->Prop) (E:ce->cr->Prop),Q (.int (g i) s.toks) {s with toks:=s.toks+1}->db (ev X.prog X.w) X.A (f (.int i t)) Q E s) :
  UnR X f (rU λi=>.int (g i)):=by
 intro Z s σ H x v Q I rx h;obtain⟨i,rfl,q⟩:=h;obtain⟨t,rfl⟩:=rx;exact rule i t s _ _ ⟨.int (g i),H,I.tok _,⟨_,rfl⟩,q⟩
def adS:UnR X (unaryOp .USub) (rU λi=>.int (-i)):=unI λ_ _ _ _ _ q=>neg_int q
end
section
variable{b c:lc}{tc:TE}
def OL{Q:VK}{k k':Bool}(I:Inv X Z σ H s)(q:Q (.bl k) H)(e:k=k'):EP X Z σ Q (.bool k') s:=by
 subst e;exact⟨.bl k,H,I,rfl,q⟩
def aiu:jV X (nw .Lt) (ZT λi j=>.bl (decide (i < j))):=aas λ_ _ _ _ _ _ _ q=>lt_int q
def aiv:jV X (nw .LtE) (ZT λi j=>.bl (decide (i<=j))):=aas λ_ _ _ _ _ _ _ q=>le_int q
def aiw:jV X (nw .Gt) (ZT λi j=>.bl (decide (j < i))):=aas λ_ _ _ _ _ _ _ q=>gt_int q
def aix:jV X (nw .GtE) (ZT λi j=>.bl (decide (j<=i))):=aas λ_ _ _ _ _ _ _ q=>ge_int q
def Sl:jV X (nw .In) (λx y H Q=>∃i j,x=.str i/\y=.str j/\Q (.bl (!(Builtin.Str.occurrences j i 0 j.length 1).isEmpty)) H):=by
 intro Z s σ H x y v u Q I rx ry h;obtain⟨i,j,rfl,rfl,q⟩:=h;obtain⟨t,rfl⟩:=rx;obtain⟨t',rfl⟩:=ry;exact in_str (OL I q rfl)
def aeR:jV X (nw .Is) (λx y H Q=>y=.aL/\Q (.bl (decide (x=.aL))) H):=by
 intro Z s σ H x y v u Q I rx ry h;obtain⟨rfl,q⟩:=h;cases ry;refine is_none_gen (OL I q ?_);cases x <;> first
  | (cases rx;rfl)
  | (obtain⟨t,rfl⟩:=rx;rfl)
def aak:jV X (nw .IsNot) (λx y H Q=>y=.aL/\Q (.bl (!decide (x=.aL))) H):=by
 intro Z s σ H x y v u Q I rx ry h;obtain⟨rfl,q⟩:=h;cases ry;refine isnot_none_gen (OL I q ?_);cases x <;> first
  | (cases rx;rfl)
  | (obtain⟨t,rfl⟩:=rx;rfl)
def jV.or{f:ce->ce->Sem ce}{r r':R2}(h:jV X f r)(h':jV X f r'):jV X f (λx y H Q=>r x y H Q\/r' x y H Q):=by
 intro Z s σ H x y v u Q I rx ry q;rcases q with q | q
 ·exact h Z s σ H x y v u Q I rx ry q
 ·exact h' Z s σ H x y v u Q I rx ry q
def lP(b:lc)(h: ~~~(op≠.In))(h2: ~~~(op≠.NotIn)):sn op b=false:=by
 have e1:(op==CmpOp.In)=false:=by cases op <;> first | rfl | exact absurd rfl h
 have e2:(op==CmpOp.NotIn)=false:=by cases op <;> first | rfl | exact absurd rfl h2
 cases b <;> simp[sn,e1,e2]
def Qz{r:R2}(ho:jV X (nw op) r)(ha:PE X a ta)(hb:PE X b tb)(hm:sn op b=false):PE X (.Compare a [op] [b] pos) (tOp r ta tb):=by
 intro Z s σ H Q I h;exact wpAny_Compare1 (agl ha hb I h λv u s2 x y H2 I2 rx ry q=>ho Z s2 σ H2 x y v u Q I2 rx ry q) hm
def acu(t:TE):TT:=λσ H Q=>t σ H λx H'=>∃k,x=.bl k/\Q k H'
def vV{r:R2}(ho:jV X (nw op) r)(ha:PE X a ta)(hb:PE X b tb)(hm:sn op b=false):PT X (.Compare a [op] [b] pos) (acu (tOp r ta tb)):=by
 intro Z s σ H Q I h;refine wpAny_isTrue_Compare1 (bS (ha Z s σ H _ I h) λv s1 ⟨x,H1,I1,r1,q1⟩=>bS (hb Z s1 σ H1 _ I1 q1) λu s2 ⟨y,H2,I2,r2,q2⟩=>
  bS (ho Z s2 σ H2 x y v u _ I2 r1 r2 q2) λc s3 ⟨z,H3,I3,r3,k,e,q3⟩=>?_) hm
 subst e;cases r3;exact Bv ⟨H3,I3,q3⟩
def Na(r r':R2)(ta tb tc:TE):TE:=λσ H Q=>ta σ H λx H1=>tb σ H1 λy H2=>r x y H2 λz H3=>∃k,z=.bl k/\
 (if k=true then tc σ H3 λw' H4=>r' y w' H4 Q else Q (.bl false) H3)
def Wt{r r':R2}(ho:jV X (nw op) r)(XB:jV X (nw UM) r')(ha:PE X a ta)(hb:PE X b tb)(hc:PE X c tc)
  (hm:lastMarks [op,UM] [b,c]=false:=by with_unfolding_all rfl):PE X (.Compare a [op,UM] [b,c] pos) (Na r r' ta tb tc):=by
 intro Z s σ H Q I h;refine Compare_chain (bS (ha Z s σ H _ I h) λv s1 ⟨x,H1,I1,r1,q1⟩=>chain_link (bS (hb Z s1 σ H1 _ I1 q1) λu s2 ⟨y,H2,I2,r2,q2⟩=>
  bS (ho Z s2 σ H2 x y v u _ I2 r1 r2 q2) λd s3 ⟨z,H3,I3,r3,k,e,q3⟩=>?_)) hm
 subst e;cases r3;refine Bv ?_;cases k with
 | false=>exact ite_ff ⟨.bl false,H3,I3,rfl,q3⟩
 | true=>exact ite_tt (chain_last (bS (hc Z s3 σ H3 _ I3 q3) λw' s4 ⟨z',H4,I4,r4,q4⟩=>XB Z s4 σ H4 y z' u w' Q I4 r2 r4 q4))
def Wa{r r':R2}(ho:jV X (nw op) r)(XB:jV X (nw UM) r')(ha:PE X a ta)(hb:PE X b tb)(hc:PE X c tc)
  (hm:lastMarks [op,UM] [b,c]=false:=by with_unfolding_all rfl):PT X (.Compare a [op,UM] [b,c] pos) (acu (Na r r' ta tb tc)):=by
 intro Z s σ H Q I h;refine isTrue_chain (bS (ha Z s σ H _ I h) λv s1 ⟨x,H1,I1,r1,q1⟩=>test_link (bS (hb Z s1 σ H1 _ I1 q1) λu s2 ⟨y,H2,I2,r2,q2⟩=>
  bS (ho Z s2 σ H2 x y v u _ I2 r1 r2 q2) λd s3 ⟨z,H3,I3,r3,k,e,q3⟩=>?_)) hm
 subst e;cases r3;refine Bv ?_;cases k with
 | false=>
  obtain⟨k',e',q'⟩:=q3;cases e';exact ite_ff ⟨H3,I3,q'⟩
 | true=>
  refine ite_tt (test_last (bS (hc Z s3 σ H3 _ I3 q3) λw' s4 ⟨z',H4,I4,r4,q4⟩=>bS (XB Z s4 σ H4 y z' u w' _ I4 r2 r4 q4) λd' s5 ⟨z2,H5,I5,r5,k2,e2,q5⟩=>?_));subst e2;cases r5;exact Bv ⟨H5,I5,q5⟩
def agu(K:Ab)(x:V)(H:Hp)(k:Bool):Prop:=
 match x with
 | .aL=>k=false
 | .bl b=>k=b
 | .int i=>k=(i != 0)
 | .str y=>y.length<=sizeLine/\k=((y.length:Int) != 0)
 | .byt y=>y.size<=sizeLine/\k=((y.size:Int) != 0)
 | .ref p=>(∃xs,eN K H p xs/\k=!xs.isEmpty)\/(∃xs,eW K H p xs/\k=!xs.isEmpty)\/∃kvs,H p=ap (.dK kvs)/\k=!kvs.isEmpty
 | _=>False
def Oh{kvs:O (κ×V)}{vs:O (κ×ce)}(r:KV kvs vs):(!vs.isEmpty)=!kvs.isEmpty:=by
 cases r <;> rfl
def xN(r:Vals xs aw):(!aw.toArray.isEmpty)=!xs.isEmpty:=by
 cases r <;> simp
def Ih:(sizeLine:Nat) < 2 ^ 63:=by rw[sizeLine_eq];decide
theorem adU:aox X (λx H Q=>∃k,agu X.K x H k/\Q k H):=by
 intro Z s σ H x v Q I rx h;obtain⟨k,e,q⟩:=h;have hs:=sizeLine_eq;cases x with
 | aL=>
  cases rx;have e':=e;subst e';exact truthy_none ⟨H,I,q⟩
 | bl b=>
  cases rx;have e':=e;subst e';exact Bv ⟨H,I,q⟩
 | int i=>
  obtain⟨t,rfl⟩:=rx;have e':=e;subst e';exact PySem.P.truthy_int ⟨H,I,q⟩
 | str y=>
  obtain⟨t,rfl⟩:=rx;obtain⟨hy,e'⟩:y.length<=sizeLine/\k=((y.length:Int) != 0):=e;subst e';exact PySem.P.truthy_str ∅ ⟨H,I.tok _,q⟩
 | byt y=>
  obtain⟨t,rfl⟩:=rx;obtain⟨hy,e'⟩:y.size<=sizeLine/\k=((y.size:Int) != 0):=e;subst e';exact PySem.W.truthy_bytes ∅ ⟨H,I.tok _,q⟩
 | ref p=>
  cases rx;have e':=e;rcases e' with⟨xs,hx,e'⟩ | ⟨xs,hx,e'⟩ | ⟨kvs,hx,e'⟩
  ·subst e';obtain⟨aw,r,pl,hz⟩:=I.list hx;have Â:=r.length;exact wpAny_truthy_list pl.isList (by simp only[Ak];omega) ⟨H,I.tok _,by rw[xN r];exact q⟩
  ·subst e';obtain⟨aw,r,pl,hz⟩:=I.tuple hx;have Â:=r.length;exact truthy_tuple pl (by simp only[Ak];omega) ⟨H,I.tok _,by rw[xN r];exact q⟩
  ·subst e';obtain⟨hz,hS,vs,r,m⟩:kvs.length<=sizeLine/\(p==sB)=false/\∃vs,KV kvs vs/\s.heap.DictOf (cD X.prog X.w) p vs:=I.bN p _ hx;have Â:=Paired.length r;exact wpAny_truthy_dict hS m ∅ ⟨H,I.tok _,by rw[Oh r];exact q⟩
 | _=>exact(show False from e).elim
def V9(ha:PE X a ta)(he:∀Ä,isTrue a X.env Ä=(do let v <- Ä;standAt a.pos;FS [v] (truthy v))) :
  PT X a (λσ H Q=>ta σ H λx H'=>∃k,agu X.K x H' k/\Q k H'):=by
 intro Z s σ H Q I h;exact isTrue_plain (bS (ha Z s σ H _ I h) λv s1 ⟨x,H1,I1,r1,q1⟩=>adU Z s1 σ H1 x v Q I1 r1 q1) (he _)
def Nw:jV X (tt .Add) (λx y H Q=>∃i j,x=.str i/\y=.str j/\i.length+j.length<=sizeLine/\Q (.str (i++j)) H):=by
 intro Z s σ H x y v u Q I rx ry h;obtain⟨i,j,rfl,rfl,hz,q⟩:=h;obtain⟨t,rfl⟩:=rx;obtain⟨t',rfl⟩:=ry;exact add_str (λt' tk=>⟨.str (i++j),H,I.tok _,⟨_,rfl⟩,q⟩) hz
def vals1{x:V}(r:Vals [x] us):∃u,us=[u]/\RelV x u:=by
 cases r with
 | cons r1 r2=>cases r2;exact⟨_,rfl,r1⟩
def vals2{x:V}(r:Vals [x,y] us):∃u w',us=[u,w']/\RelV x u/\RelV y w':=by
 cases r with
 | cons r1 r2=>
  cases r2 with
  | cons r3 r4=>cases r4;exact⟨_,_,rfl,r1,r3⟩
def YF:cC X (.builtin "abs") (λxs H Q=>∃i,xs=[.int i]/\Q (.int (if i < 0 then -i else i)) H):=by
 intro Z s σ H xs us Q I r h;obtain⟨i,rfl,q⟩:=h;obtain⟨u,rfl,t,rfl⟩:=vals1 r;exact call_abs_int λu tk=>⟨.int (if i < 0 then -i else i),H,I.tok _,⟨_,rfl⟩,q⟩
def Uh(hc:X.calm=true):cC X (.builtin "max") (λxs H Q=>∃i j,xs=[.int i,.int j]/\Q (.int (if j > i then j else i)) H):=by
 intro Z s σ H xs us Q I r h;obtain⟨i,j,rfl,q⟩:=h;obtain⟨u,w',rfl,⟨t,rfl⟩,⟨t',rfl⟩⟩:=vals2 r;refine max_two_ints (I.ok.hd hc) λh' tk k=>⟨_,H,I.kept k,?_,q⟩;by_cases hj:j > i
 ·rw[if_pos hj,if_pos hj];exact⟨_,rfl⟩
 ·rw[if_neg hj,if_neg hj];exact⟨_,rfl⟩
def Ug(hc:X.calm=true):cC X (.builtin "min") (λxs H Q=>∃i j,xs=[.int i,.int j]/\Q (.int (if j < i then j else i)) H):=by
 intro Z s σ H xs us Q I r h;obtain⟨i,j,rfl,q⟩:=h;obtain⟨u,w',rfl,⟨t,rfl⟩,⟨t',rfl⟩⟩:=vals2 r;refine min_two_ints (I.ok.hd hc) λh' tk k=>⟨_,H,I.kept k,?_,q⟩;by_cases hj:j < i
 ·rw[if_pos hj,if_pos hj];exact⟨_,rfl⟩
 ·rw[if_neg hj,if_neg hj];exact⟨_,rfl⟩
def Uk:cC X (.type "int") (λxs H Q=>(∃i,xs=[.int i]/\Q (.int i) H)\/∃k,xs=[.bl k]/\Q (.int (if k then 1 else 0)) H):=by
 intro Z s σ H xs us Q I r h;rcases h with⟨i,rfl,q⟩ | ⟨k,rfl,q⟩
 ·obtain⟨u,rfl,t,rfl⟩:=vals1 r;exact call_int_int ⟨.int i,H,I,⟨_,rfl⟩,q⟩
 ·obtain⟨u,rfl,r1⟩:=vals1 r;cases r1;exact call_int_bool ⟨.int (if k then 1 else 0),H,I.tok _,⟨_,rfl⟩,q⟩
def akh(K:Ab)(x:V)(H:Hp)(n:Nat):Prop:=
 match x with
 | .str y=>y.length<=sizeLine/\n=y.length
 | .byt y=>y.size<=sizeLine/\n=y.size
 | .ref p=>(∃xs,eN K H p xs/\n=xs.length)\/∃xs,eW K H p xs/\n=xs.length
 | _=>False
theorem YE:cC X (.builtin "len") (λxs H Q=>∃x n,xs=[x]/\akh X.K x H n/\Q (.int n) H):=by
 intro Z s σ H xs us Q I r h;obtain⟨x,n,rfl,e,q⟩:=h;obtain⟨u,rfl,rx⟩:=vals1 r;have hs:=sizeLine_eq;cases x with
 | str y=>
  obtain⟨t,rfl⟩:=rx;obtain⟨hy,e'⟩:y.length<=sizeLine/\n=y.length:=e;subst e';exact len_str ∅ ⟨.int _,H,I.tok _,⟨_,rfl⟩,q⟩
 | byt y=>
  obtain⟨t,rfl⟩:=rx;obtain⟨hy,e'⟩:y.size<=sizeLine/\n=y.size:=e;subst e';exact PySem.W.len_bytes ∅ ⟨.int _,H,I.tok _,⟨_,rfl⟩,q⟩
 | ref p=>
  cases rx;have e':=e;rcases e' with⟨xs,hx,e'⟩ | ⟨xs,hx,e'⟩
  ·subst e';obtain⟨aw,r',pl,hz⟩:=I.list hx;have Â:=r'.length;exact Calls.call_len_list pl.isList (by simp only[Ak];omega) ⟨.int xs.length,H,I.tok _,⟨_,by simp only[Ak];rw[Â]⟩,q⟩
  ·subst e';obtain⟨aw,r',pl,hz⟩:=I.tuple hx;have Â:=r'.length;exact len_tuple pl (by simp only[Ak];omega) ⟨.int xs.length,H,I.tok _,⟨_,by simp only[Ak];rw[Â]⟩,q⟩
 | _=>exact(show False from e).elim
end
end L2
variable{a:BU}{mA:Cu->Option Be}
namespace L2
structure agx(h:pr)(x dx C:ci)(mA:Str->Option ce):Prop where
 obj:h.get? x=ap (Fu C dx)
 ns:h.Ns1 dx mA
 ne:dx≠x
def SI{dx:ci}(n:h.Ns1 dx mA):∃od,h.get? dx=ap od/\∀name,FG name od=ap (mA name):=by
 obtain⟨o,es,ep,ho,hd,hk,_,hm⟩:=n;refine⟨o,ho,λname=>?_⟩;have e:=hm name;unfold nsFind findBy at e;rw[<- Array.find?_toList]at e;unfold FG;rw[hd];dsimp only
 split
 ·rename_i y q;rw[q]at e;exact congrArg ap e
 ·rename_i q;rw[q]at e;have a:es.toList.any (·.refKey)=false:=by
   rw[List.any_eq_false];intro y hy;obtain⟨z,t,anH⟩:=hk y (Array.mem_toList_iff.mp hy);simp[DictEntry.refKey,anH]
  have a':¬es.toList.any (·.refKey)=true:=by rw[a];exact AY
  rw[if_neg a'];exact congrArg ap e
def agx.look{x dx C:ci}(I:agx h x dx C mA):∃od,PySem.W.InstAt h x (Fu C dx) C (ap od)/\∀name,FG name od=ap (mA name):=
 let ⟨od,ho,hl⟩:=SI I.ns
 ⟨od,⟨I.obj,rfl,rfl,ho⟩,hl⟩
def yN.some_of{o:Option ce}(r:yN (ap v) o):∃u,o=ap u/\RelV v u:=by
 cases o with
 | none=>exact(show False from r).elim
 | some u=>exact⟨u,rfl,r⟩
section
variable{C dx:ci}{fs:O (Str×V)}
def abb(bN:pJ P w H h)(e:H a=ap (.ins C dx fs)):∃mA,agx h a dx C mA/\(∀f,yN (fs.lookup f) (mA f))/\PySem.Within mA (fs.map (·.1))/\fs.length<=1000/\H dx=ap (.own a):=by
 obtain⟨d,z,ne,ob,mA,n,r,q⟩:=(show bA P w H h a (.ins C dx fs) from bN a _ e);exact⟨mA,⟨ob,n,ne⟩,r,q,z,d⟩
end
structure Cls(K:Ab)(C:ci):Prop where
 pg:F6 K C Str.empty=true
 hd:PySem.W.hasDictIn K C=true
 po:PySem.W.plainOver K C=true
 sa:PySem.W.findIn K (.ref C) "__setattr__"=ap (ap (.builtin "object.__setattr__"))
def Cls.get{K:Ab}{C:ci}(c:Cls K C)(f:Str):F6 K C f=true:=c.pg
section
variable{c:ce}{b:Bool}
inductive pP(K:Ab)(H:Hp):V->ce->Prop where
 | aL:pP K H .aL (.type "NoneType")
 | bl (x:Bool):pP K H (.bl x) (.type "bool")
 | int (i:Int):pP K H (.int i) (.type "int")
 | str (x:Str):pP K H (.str x) (.type "str")
 | flt (x:UInt64):pP K H (.flt x) (.type "float")
 | lst {a:ci}{xs:List V} (e:H a=ap (.lst xs)):pP K H (.ref a) (.type "list")
 | c6 {a:ci}{o:Obj}{xs:List V} (e:H a=ap (.c6 o (.lst xs))):pP K H (.ref a) (.type "list")
 | tup {a:ci}{xs:List V} (e:H a=ap (.tup xs)):pP K H (.ref a) (.type "tuple")
 | dK {a:ci}{kvs:List (Key×V)} (e:H a=ap (.dK kvs)):pP K H (.ref a) (.type "dict")
 | dT {a:ci}{kvs:List (List Key×V)} (e:H a=ap (.dT kvs)):pP K H (.ref a) (.type "dict")
 | ins {a C dx:ci}{fs:List (Str×V)} (e:H a=ap (.ins C dx fs)) (cl:Cls K C) (ha:PySem.W.findIn K (.ref C) "__class__"=ap (ap (.builtin "object.__class__")))
   (hn:PySem.W.specialIn K (.builtin "object.__class__") "__get__"=ap (ap (.builtin "getset_descriptor.__get__"))) (htk:PySem.W.takesIn K (.builtin "object.__class__")=ap true)
   (hm:PySem.W.mroIn K C (.type "object")=ap true):pP K H (.ref a) (.ref C)
def S6{x:V}{t:ce}(I:Inv X Z σ H s)(rx:RelV x u)(ty:pP X.K H x t)(e:BJ X.K t c=ap b)(h:∀tk,Q (.bool b) {s with toks:=tk}) :
  db (ev X.prog X.w) A (call (.builtin "isinstance") [u,c]) Q E s:=by
 cases ty with
 | aL=>cases (show u=AU from rx);exact Bl PySem.W.kitx_none I.zC CA e (λz=>nomatch z) h
 | bl y=>cases (show u=Dj y from rx);exact Bl PySem.W.kitx_bool I.zC CA e (λz=>nomatch z) h
 | int i=>obtain⟨t,q⟩:=(show ∃t,u=Ez i t from rx);cases q;exact Bl PySem.W.kitx_int I.zC CA e (λz=>nomatch z) h
 | str y=>obtain⟨t,q⟩:=(show ∃t,u=Br y t from rx);cases q;exact Bl PySem.W.kitx_str I.zC CA e (λz=>nomatch z) h
 | flt y=>obtain⟨t,q⟩:=(show ∃t,u=Value.float y t from rx);cases q;exact Bl PySem.W.kitx_float I.zC CA e (λz=>nomatch z) h
 | @lst a xs ea=>
  cases (show u=AB a from rx);obtain⟨_,_,n,_,h1⟩:=(show bA X.prog X.w H s.heap a (.lst xs) from I.bN a _ ea);exact Bl EW I.zC ⟨_,h1,rfl⟩ e (λz=>nomatch z) h
 | @c6 a ob xs ea=>
  cases (show u=AB a from rx);obtain⟨_,_,_,n,_,h1⟩:=(show bA X.prog X.w H s.heap a (.c6 ob (.lst xs)) from I.bN a _ ea);exact Bl EW I.zC ⟨_,h1,rfl⟩ e (λz=>nomatch z) h
 | @tup a xs ea=>
  cases (show u=AB a from rx);obtain⟨_,_,_,p⟩:=(show bA X.prog X.w H s.heap a (.tup xs) from I.bN a _ ea);obtain⟨o,h1,h2,_⟩:=p;exact Bl F0 I.zC ⟨o,h1,h2⟩ e (λz=>nomatch z) h
 | @dK a kvs ea=>
  cases (show u=AB a from rx);obtain⟨_,_,vs,_,p⟩:=(show bA X.prog X.w H s.heap a (.dK kvs) from I.bN a _ ea);obtain⟨o,es,ep,h1,h2,_⟩:=p;exact Bl EX I.zC ⟨o,h1,h2.1⟩ e (λz=>nomatch z) h
 | @dT a kvs ea=>
  cases (show u=AB a from rx);obtain⟨_,_,xs,_,o,es,ep,h1,h2,_⟩:=(show bA X.prog X.w H s.heap a (.dT kvs) from I.bN a _ ea);exact Bl EX I.zC ⟨o,h1,h2.1⟩ e (λz=>nomatch z) h
 | @ins a C dx fs ea cl ha hn htk hm=>
  cases (show u=AB a from rx);obtain⟨mA,O_,_⟩:=abb I.bN ea;obtain⟨od,J,_⟩:=O_.look;exact Bl (PySem.W.kitx_own (cl.get _) cl.hd ha hn htk hm) I.zC J e (λz=>nomatch z) h
end
end L2
variable{v È pm gU ct oc:Be}{vs:O L2.V}{mg:Cu->Option Be}{base:F3}{fd:PySem.FuncData}{ps:O Cu}{Á:Cz}{sc scope:PySem.Scope}{qual:Cu}{an od:Option BU}{Y1:Array (Option Be)}
namespace L2
structure gj(k:Nat)(A:Da):Prop where
 hd:A.handled=bm
 dp:A.depth+3*k+5 < recursionLimit
 un:A.units+16*k+200 < ss
 gd:A.guards=ap []
theorem gj.mono{k:Nat}(r:gj k A)(h:j<=k):gj j A:=⟨r.hd,by have:=r.dp;omega,by have:=r.un;omega,r.gd⟩
theorem gj.deeper{k:Nat}(r:gj (k+1) A)(env:Env):gj k (A.deeper env):=
 ⟨r.hd,by have:=r.dp;show A.depth+1+3*k+5 < _;omega,by have:=r.un;show A.units+3+16*k+200 < _;omega,r.gd⟩
theorem gj.depth{k:Nat}(r:gj k A):A.depth < recursionLimit:=by have:=r.dp;omega
def ahF:TA:=λ_ H Q=>Q [] H
def acv(ta:TE)(tr:TA):TA:=λσ H Q=>ta σ H λx H1=>tr σ H1 λxs H2=>Q (x::xs) H2
section
variable{t:TA}
def cv:PA X [] ahF:=λ_ _ _ _ H Q I h=>CI ⟨[],H,I,.nil,h⟩
def a9(ha:PE X e te)(hr:PA X es t)(hs:‹iq X e es›):PA X (e::es) (acv te t):=by
 intro pos Z s σ H Q I h;rw[hs];refine Cm (bS (ha Z s σ H _ I h) λu s1 ⟨x,H1,I1,r1,q1⟩=>?_);exact bS (hr pos Z s1 σ H1 _ I1 q1) λus s2 ⟨xs,H2,I2,r2,q2⟩=>⟨x::xs,H2,I2,.cons r1 r2,q2⟩
end
abbrev Sp:=O V->Hp->VK->XK->Prop
abbrev UW:=O Env->Hp->cr->XK->ce->cr->Prop
structure acm(P:wn)(w:wT)(K:Ab)(mg:Str->Option ce)(base:pr)(A:Da)(outer:List Env)(s:cr)(H:Hp):Prop where
 frames:A.frames=ap outer
 mod:Mod K mg base
 bs:∀b o,base.get? b=ap o->s.heap.get? b=ap o/\H b=bm
 bsz:base.objs.size<=s.heap.objs.size
 xX:s.heap.FunFrames base outer
 frf:∀b∈US outer,H b=bm
 bN:pJ P w H s.heap
 bare:KF s.gens
def CE(outer:O Env)(P:wn)(w:wT)(H:Hp)(s:cr)(Q:VK)(u:ce)(s':cr):Prop:=
 ∃v H',s'.os=s.os/\KF s'.gens/\Un (US outer) [] H H' s.heap s'.heap/\pJ P w H' s'.heap/\RelV v u/\Q v H'
def CR(CX:UW)(outer:O Env)(P:wn)(w:wT)(H:Hp)(s:cr)(Q:VK)(E:XK)(r:Result)(s':cr):Prop:=
 match r with
 | .ok (.ret u)=>CE outer P w H s Q u s'
 | .ok _=>False
 | .error e=>CX outer H s E e s'
structure iU(P:wn)(w:wT)(K:Ab)(mg:Str->Option ce)(base:pr)(CX:UW)(k:Nat)(f:ci)(fd:FB)(ps:List Str)(sp:Sp):Prop where
 len:∀vs H Q E,sp vs H Q E->vs.length=ps.length
 run:∀(A:Da) (outer:List Env) (s:cr) (H:Hp) (args:Args) (us:List ce) (vs:List V) (Q:VK) (E:XK),gj k A->acm P w K mg base A outer s H->BindsTo s fd args (ps.zip us)->Vals vs us->sp vs H Q E->
  GE (ev P w) A (.call (.ref f) args) (CR CX outer P w H s Q E) s
def iU.imp{K:Ab}{CX:UW}{k:Nat}{f:ci}{sp sp':Sp}(F:iU P w K mg base CX k f fd ps sp)
  (h:∀vs H Q E,sp' vs H Q E->sp vs H Q E):iU P w K mg base CX k f fd ps sp':=
 ⟨λvs H Q E q=>F.len vs H Q E (h _ _ _ _ q),λA outer s H args us vs Q E hr he hb hv hs=>F.run A outer s H args us vs Q E hr he hb hv (h _ _ _ _ hs)⟩
section
def Inv.aom(I:Inv X Z σ H s):acm X.prog X.w X.K X.mg X.base X.A X.stack s H:=
 ⟨I.ok.frames,I.ok.mod,I.bs,AW I.ok.bsz I.sz,I.stack,I.Qd,I.bN,I.bare⟩
def Inv.after{Q:VK}(I:Inv X Z σ H s)(h:CE X.stack X.prog X.w H s Q u s'):EP X Z σ Q u s':=by
 obtain⟨v,H',os,bare,un,bN,r,q⟩:=h;obtain⟨hh,g,d,t,os'⟩:=s';obtain rfl:os'=s.os:=os;exact⟨v,H',I.call (h':=hh) (g':=g) (d':=d) (t':=t) (ch:=[]) un bN bare (λb z=>absurd z (by simp)),r,q⟩
end
def Binds(K:Ab)(fd:FB)(ps:O Str)(ds:O ce):Prop:=
 ∀(s:cr) (us:O ce),K.In s.heap->(us++ds).length=ps.length->BindsTo s fd ⟨us,[]⟩ (ps.zip (us++ds))
def Binds.all{K:Ab}(h:∀us:O ce,us.length=ps.length->bindArgs fd ⟨us,[]⟩=pure (ps.zip us)):Binds K fd ps []:=λs us _ hl=>by
 rw[Ci]at hl ⊢;exact .of_eq (h us hl)
def Passes(CX:UW)(X:Cx)(E:XK):Prop:=∀(Z:O (ci×Obj)) (σ:St) (H:Hp) (s:cr) (e:ce) (s':cr),Inv X Z σ H s->CX X.stack H s E e s'->X.xe e s'
section
variable{CX:UW}{k:Nat}{f:ci}{sp:Sp}{dvs:O V}{ds:O ce}{E:XK}
def VO{Q:VK}(F:iU X.prog X.w X.K X.mg X.base CX k f fd ps sp)(hr:gj k X.A)(hb:Binds X.K fd ps ds)(hd:Vals dvs ds)(hx:Passes CX X E)
  (I:Inv X Z σ H s) (r:Vals vs us) (h:sp (vs++dvs) H Q E):db (ev X.prog X.w) X.A (call (.ref f) us) (EP X Z σ Q) X.xe s:=by
 have r2:Vals (vs++dvs) (us++ds):=r.append hd;have hl:(us++ds).length=ps.length:=by rw[<- r2.length];exact F.len _ _ _ _ h
 refine wpAny_call (codeAny_mono (F.run X.A X.stack s H ⟨us,[]⟩ (us++ds) (vs++dvs) Q E hr I.aom (hb s us I.zC hl) r2 h) λr s' hq=>?_);cases r with
 | error e=>exact hx Z σ H s e s' I hq
 | ok fl=>
  cases fl with
  | ret u=>exact I.after hq
  | next=>exact BE hq
  | brk=>exact BE hq
  | cont=>exact BE hq
end
structure eK(N P:List Str)(sc:nn):Prop where
 kind:sc.kind=.function
 co:sc.isCoroutine=false
 gen:sc.isGenerator=false
 nd:N.Nodup
 pre:N.take P.length=P
 par:∀x∈P,sc.names.lookup x=ap .local\/sc.names.lookup x=ap .cell
 aeZ:∀y∈sc.names,y.2≠.free
theorem G6{kindOf:Str->Option Db}:∀{binds:O (Str×ce)}{m:Str->Option ce},(∀v,(x,v)∉binds)->bindL kindOf binds m x=m x
 | [],_,_=>rfl
 | (n,v)::r,m,h=>by
  unfold bindL;rw[G6 λw hw=>h w (A6 _ hw)]
  split
  ·have:x≠n:=by rintro rfl;exact h v BL
   simp[this]
  ·rfl
theorem G8{kindOf:Str->Option Db}:∀{binds:O (Str×ce)}{m:Str->Option ce},(∀v,(x,v)∉binds)->bindC kindOf binds m x=m x
 | [],_,_=>rfl
 | (n,v)::r,m,h=>by
  unfold bindC;rw[G8 λw hw=>h w (A6 _ hw)]
  split
  ·rfl
  ·have:x≠n:=by rintro rfl;exact h v BL
   simp[this]
theorem G7{kindOf:Str->Option Db}:∀{P:O Str}{vs:O ce}{i:Nat}{m:Str->Option ce},P.Nodup->P[i]?=ap x->vs[i]?=ap v->kindOf x=ap .local->
  bindL kindOf (P.zip vs) m x=ap v
 | [],_,_,_,_,h,_,_=>by simp at h
 | _::_,[],_,_,_,_,h,_=>by simp at h
 | p::P,w::vs,0,m,nd,h1,h2,hk=>by
  simp at h1 h2;subst h1;subst h2;show bindL kindOf ((p,w)::P.zip vs) m p=_;unfold bindL;rw[G6 λv hv=>(El.mp nd).1 (Fy hv).1,if_pos hk];simp
 | p::P,w::vs,i+1,m,nd,h1,h2,hk=>by
  show bindL kindOf ((p,w)::P.zip vs) m x=_;unfold bindL;exact G7 (i:=i) (El.mp nd).2 (by simpa using h1) (by simpa using h2) hk
theorem G9{kindOf:Str->Option Db}:∀{P:O Str}{vs:O ce}{i:Nat}{m:Str->Option ce},P.Nodup->P[i]?=ap x->vs[i]?=ap v->kindOf x≠ap .local->
  bindC kindOf (P.zip vs) m x=ap v
 | [],_,_,_,_,h,_,_=>by simp at h
 | _::_,[],_,_,_,_,h,_=>by simp at h
 | p::P,w::vs,0,m,nd,h1,h2,hk=>by
  simp at h1 h2;subst h1;subst h2;show bindC kindOf ((p,w)::P.zip vs) m p=_;unfold bindC;rw[G8 λv hv=>(El.mp nd).1 (Fy hv).1,if_neg hk];simp
 | p::P,w::vs,i+1,m,nd,h1,h2,hk=>by
  show bindC kindOf ((p,w)::P.zip vs) m x=_;unfold bindC;exact G9 (i:=i) (El.mp nd).2 (by simpa using h1) (by simpa using h2) hk
def start(N:O Str)(vs:O V):St:=vs.map ap++Au (N.length-vs.length) bm
def zQ(CX:UW)(P:wn)(w:wT)(K:Ab)(mg:Str->Option ce)(base:pr)(N:O Str)(qual:Str)(scope:nn)(f:ci)(cd:ce)(A:Da)(outer:O Env)(s:cr)(H:Hp)(E:XK):Cx where
 prog:=P
 w:=w
 K:=K
 mg:=mg
 base:=base
 A:=A.deeper (Fk qual scope s.heap.objs.size f cd)
 N:=N
 s₀:=s
 H₀:=H
 env:=Fk qual scope s.heap.objs.size f cd
 outer:=outer
 stack:=Fk qual scope s.heap.objs.size f cd::outer
 ex:=[]
 calm:=true
 fn:=λ_=>true
 pn:=[]
 xe:=λe s'=>db (ev P w) (A.deeper (Fk qual scope s.heap.objs.size f cd)) (leaving (Fk qual scope s.heap.objs.size f cd) e) (λ_ Ę=>CX outer H s E e Ę) (λe' Ę=>CX outer H s E e' Ę) s'
def Mi(h:sc.names.lookup x=ap .cell):∃c,(cellsFrom n sc.names []).lookup x=ap c:=by
 have q:=Ff sc.names n [] (.inl h);exact Option.isSome_iff_exists.mp q
theorem S8{CX:UW}{K:Ab}{N:O Str}{f:ci}{cd:ce}{outer:O Env}{s1:cr}{E:XK}
  (S:eK N ps scope) (hd:A.handled=bm) (e0:acm P w K mg base A outer s H) (hl:vs.length=ps.length) (r:Vals vs us)
  (x:InCallC s s.heap.objs.size (bindL (Fk qual scope s.heap.objs.size f cd).kindOf (ps.zip us) λ_=>bm) (cellsFrom (s.heap.objs.size+1) scope.names []) (bindC (Fk qual scope s.heap.objs.size f cd).kindOf (ps.zip us) λ_=>bm) s1) :
  Inv (zQ CX P w K mg base N qual scope f cd A outer s H E) [] (start N vs) H s1:=by
 have eM:ps.length<=N.length:=by have:=congrArg BM S.pre;rw[Dq]at this;omega
 obtain⟨h1,tk,rfl,hk⟩:=x.done;have ĝ:∀b:ci,b∉(zQ CX P w K mg base N qual scope f cd A outer s H E).ex:=λb z=>absurd (show b∈([]:O ci) from z) (by simp);refine⟨⟨e0.mod,S.kind,rfl,rfl,An _,λy z c h1 h2=>?_,λy hy=>?_,λy c _ h=>?_,λ_=>hd,Around.frames_deeper e0.frames,.inr ⟨rfl,rfl⟩,λb z=>absurd z (ĝ b),e0.bs,e0.bsz,λb _ _=>ĝ b,λb z=>absurd z (ĝ b),e0.xX,e0.frf⟩,
  rfl,e0.bare,Un.kept hk,⟨_,x.toInCall.ns,λi y v h1 h2 h3=>?_⟩,λy c h=>⟨_,x.cell y c h⟩,e0.bN.fresh (An _),λy c h=>?_,λp hp=>absurd (show p∈([]:O (ci×Obj)) from hp) (by simp),e0.bN.kept hk,?_⟩
 ·exact name_of_addr x.apart (Cd h1) (Cd h2)
 ·rcases hy with hy | hy
  ·exact Mi hy
  ·exact absurd rfl (S.aeZ _ (Cd hy))
 ·exact Ey (x.above y c (Cd h))
 ·have hi:i < vs.length:=by
   unfold start at h2;by_cases hi:i < vs.length
   ·exact hi
   ·rw[Bc (by simpa using hi)]at h2;rw[B5]at h2
    split at h2 <;> cases h2
  have ha:vs[i]?=ap v:=by
   unfold start at h2;rw[A4 (by simpa using hi),Aj]at h2;cases e:vs[i]? with
   | none=>rw[e]at h2;cases h2
   | some a=>rw[e]at h2;cases h2;rfl
  obtain⟨u,hu,rv⟩:=r.get ha;have hp:ps[i]?=ap y:=by
   rw[<- S.pre,List.getElem?_take_of_lt ∅];exact h1
  have ndP:ps.Nodup:=by rw[<- S.pre];exact S.nd.sublist (List.take_sublist _ _)
  refine⟨u,rv,?_⟩;rcases S.par y (Bi hp) with k | k
  ·exact .inl ⟨k,G7 ndP hp hu k⟩
  ·obtain⟨c,e⟩:=Mi (n:=s.heap.objs.size+1) k;refine .inr ⟨.inl k,c,e,?_⟩;have q:=x.cell y c e;rw[G9 ndP hp hu (by show scope.names.lookup y≠_;rw[k];decide)]at q;exact q
 ·exact e0.bN.fresh (Ey (x.above y c (Cd h)))
 ·unfold start;show _=N.length;rw[Ah,Ae,BF];omega
def ajK{CX:UW}{K:Ab}{k:Nat}{f:ci}{name:Str}{params:Arguments}{dV kV:ce}{N:O Str}{sp:Sp}(lk:K.lookup f=ap ⟨oc,od,.func (Cp name qual params body scope dV kV È pm an gU ct),Y1⟩)(iG:EA K gU qual=true)(S:eK N ps scope)
  (len:∀vs H Q E,sp vs H Q E->vs.length=ps.length)
  (XG:∀(A:Da) (outer:O Env) (s:cr) (H:Hp) (vs:O V) (Q:VK) (E:XK),gj k (A.deeper (Fk qual scope s.heap.objs.size f gU))->sp vs H Q E->
   ∃t,wG (zQ CX P w K mg base N qual scope f gU A outer s H E) body t/\t {nx:=λ_ H'=>Q .aL H',rt:=Q} (start N vs) H) :
  iU P w K mg base CX (k+1) f (Cp name qual params body scope dV kV È pm an gU ct) ps sp:=by
 refine⟨len,λA outer s H args us vs Q E hr e0 hb r Þ=>?_⟩;have hl:=len _ _ _ _ Þ;have KX:K.In s.heap:=e0.mod.kin.keeps λb o e=>(e0.bs b o e).1;have lim:s.heap.NoLimit:=e0.mod.nolimit.keeps λb o e=>(e0.bs b o e).1;have ajn:∀y∈ps.zip us,scope.names.lookup y.1=ap .local\/(scope.names.lookup y.1=ap .cell/\((cellsFrom (s.heap.objs.size+1) scope.names []).lookup y.1).isSome=true):=λ⟨n,v⟩ hy=>by
  rcases S.par n (Fy hy).1 with q | q
  ·exact .inl q
  ·exact .inr ⟨q,Ff _ _ _ (.inl q)⟩
 refine codeAny_call_function hr.depth (KX _ _ lk) rfl S.co S.gen rfl (PySem.W.codeRec_of KX iG) (hb _ _ _ _ ?_);refine wpAny_newFunctionEnv_cells S.kind ajn λenv he s1 x=>?_;subst he;refine⟨lim.keeps x.toInCall.keep,codeAny_func ?_⟩;obtain⟨t,ht,hq⟩:=XG A outer s H vs Q E (hr.deeper _) Þ;have I:Inv (zQ CX P w K mg base N qual scope f gU A outer s H E) [] (start N vs) H s1:=S8 S hr.hd e0 hl r x;refine B9 (ht [] s1 (start N vs) H _ I hq) (λfl s' hs=>?_) λe s' hs=>hs;have fin:∀{σ':St}{H':Hp}{v:V}{u:ce},Inv (zQ CX P w K mg base N qual scope f gU A outer s H E) [] σ' H' s'->RelV v u->Q v H'->CE outer P w H s Q u s':=
  λ{σ' H' v u} J rv q=>⟨v,H',J.os,J.bare,J.base,J.bN,rv,q⟩
 cases fl with
 | ret u=>
  obtain⟨v,σ',H',J,rv,q⟩:=hs;exact fin J rv q
 | next=>
  obtain⟨σ',H',J,q⟩:=hs;exact fin (v:=V.aL) (u:=AU) J rfl q
 | brk=>
  obtain⟨_,_,_,q⟩:=hs;exact BE q
 | cont=>
  obtain⟨_,_,_,q⟩:=hs;exact BE q
end L2
variable{T:String}
namespace L2
section
variable{t:TA}{id:String}{r:O V->Hp->VK->Prop}
def tCB(r:O V->Hp->VK->Prop)(t:TA):TE:=λσ H Q=>t σ H λvs H1=>r vs H1 Q
def fU(hc:cC X (.builtin id) r)(hg:Gl X x)(hm:X.mg x=bm)(hv:re x=ap (.builtin id))(ha:PA X (e::es) t)(hn: ~~~(x≠"__name__"))(sD: ~~~(jN x))
  (he:‹iq X e es›) (eM:‹m6 X pos es›):PE X (.Call (.Name x p) (e::es) [] pos) (tCB r t):=by
 intro Z s σ H Q I h;refine BD (jx I hg hm hv ?_ hn sD);exact PyProof.Rows.callWith_builtin1 (bS (ha pos Z s σ H _ I h) λus s1 ⟨vs,H1,I1,r1,q1⟩=>hc Z s1 σ H1 vs us Q I1 r1 q1) he eM
def oM(hc:cC X (.type T) r)(hg:Gl X x)(hm:X.mg x=bm)(hv:re x=ap (.type T))(ha:PA X (e::es) t)(hn: ~~~(x≠"__name__"))(sD: ~~~(jN x))
  (he:‹iq X e es›) (eM:‹m6 X pos es›):PE X (.Call (.Name x p) (e::es) [] pos) (tCB r t):=by
 intro Z s σ H Q I h;refine BD (jx I hg hm hv ?_ hn sD);exact Bg (bS (ha pos Z s σ H _ I h) λus s1 ⟨vs,H1,I1,r1,q1⟩=>hc Z s1 σ H1 vs us Q I1 r1 q1) he eM
end
end L2
variable{l:BU}{hi:Option Int}{prog:PySem.Program}{items:Array Be}{ns ms:O Int}{vl vu:Be}
namespace HT
open PySem PyProof.Rows
def lexLt:O Int->O Int->Bool
 | [],[]=>false
 | [],_::_=>true
 | _::_,[]=>false
 | x::xs,y::ys=>if x=y then lexLt xs ys else decide (x < y)
theorem NS(x y:Int)(xs ys:O Int):lexLt (x::xs) (y::ys)=if x=y then lexLt xs ys else decide (x < y):=rfl
def Ye(A:Da)(s:cr)(a:Int)(t:Tok)(c:Int)(u:Tok):∃e,DY A s (.int a t) (.int c u) e/\(e=true↔a=c):=
 ⟨(a==c),EB a t c u,by simp⟩
def VX(A:Da)(s:cr)(a:Int)(t:Tok)(c:Int)(u:Tok)(prog:wn)(w:wT)(E:ce->cr->Prop)(Q:ce->cr->Prop)(h:Q (.bool (decide (a < c))) s) :
  db (ev prog w) A (richCompare .Lt (.int a t) (.int c u)) Q E s:=
 (PyProof.Rows.lt_int h:db (ev prog w) A (nw .Lt (.int a t) (.int c u)) Q E s)
section
open PySem.SeqAt
open PySem.AutoSeq1 (wpAny_loadPart')
open PySem.MeetsSeq PySem.MeetsSeq2 PySem.MeetsSeq3
theorem y7(l b:ci)(items cH:Array ce)(n n2:Nat)(dd ã:Option ci)(sl Y0:Array (Option ce))(ns ms:O Int)(hi:ww items.toList ns)(hj:ww cH.toList ms) :
  Meets (wP.«tuple.__lt__» ⟨[.ref l,.ref b],[]⟩)
   (λ_ R s=>s.heap.get? l=ap {cls:=.type "tuple",dict:=dd,data:=.seq items n,slots:=sl}/\s.heap.get? b=ap {cls:=.type "tuple",dict:=ã,data:=.seq cH n2,slots:=Y0}/\
    R (.ok (.ret (.bool (lexLt ns ms)))) s):=
 .of_wp λprog w A R s h=>by
  obtain⟨hp,g,d,tk,os⟩:=s;obtain⟨hl,hb,h⟩:=h;have f2:=AutoSeq1.sub_tuple_tuple;have z1:items.size=ns.length:=by rw[<- hi.length];simp
  have z2:cH.size=ms.length:=by rw[<- hj.length];simp
  wp_walk using wpAny_loadPart' hl,wpAny_loadPart' hb,wpAny_forIn_list _ (λrest b s'=>b.1=bm/\s'=⟨hp,g,d,tk,os⟩/\∃(vs ws:O ce) (Gx Ĉ:O Int),rest=vs.zip ws/\
   ww vs Gx/\ww ws Ĉ/\Gx.length+cH.size=Ĉ.length+items.size/\R (.ok (.ret (.bool (lexLt Gx Ĉ)))) ⟨hp,g,d,tk,os⟩) _
  case turn=>
   rintro⟨y,x⟩ rest b s' ⟨ņ,rfl,vs,ws,Gx,Ĉ,hz,hvi,hwi,Â,hR⟩;cases hvi with
   | nil=>rw[List.zip_nil_left]at hz;cases hz
   | cons a t anm=>
    cases hwi with
    | nil=>rw[List.zip_nil_right]at hz;cases hz
    | cons c u ank=>
     rw[List.zip_cons_cons]at hz;injection hz with hyx ajf;injection hyx with hy hx;subst hy hx;rw[NS]at hR;simp only[Ap]at Â;obtain⟨e,he,ajq⟩:=Ye A.in1 ⟨hp,g,d,tk,os⟩ a t c u;refine Aa (he prog w _ _ ?_);cases e with
     | true=>
      rw[if_pos (ajq.mp rfl)]at hR
      wp_walk
      exact⟨rfl,rfl,_,_,_,_,ajf,anm,ank,by omega,hR⟩
     | false=>
      rw[if_neg (λq=>absurd (ajq.mpr q) AY)]at hR;have hri:=VX A.in1 ⟨hp,g,d,tk,os⟩ a t c u prog w
      wp_walk using hri
      exact⟨_,rfl,by simpa using hR⟩
  case fin=>
   rintro⟨b1,b2⟩ s' ⟨ņ,rfl,vs,ws,Gx,Ĉ,hz,hvi,hwi,Â,hR⟩;simp only at ņ;subst ņ;have hv:lexLt Gx Ĉ=decide (items.size < cH.size):=by
    cases hvi with
    | nil=>
     cases hwi with
     | nil=>
      exact(decide_eq_false ∅).symm
     | cons c u hw=>
      simp only[Bd,Ap]at Â;exact(decide_eq_true ∅).symm
    | cons a t hv=>
     cases hwi with
     | nil=>
      simp only[Bd,Ap]at Â;exact(decide_eq_false ∅).symm
     | cons c u hw=>
      rw[List.zip_cons_cons]at hz;cases hz
   rw[hv]at hR
   wp_walk
   exact⟨_,rfl,by simpa[Builtin.Tuple.tupleCompareSizes]using hR⟩
  case h=>
   exact⟨rfl,rfl,items.toList,cH.toList,ns,ms,rfl,hi,hj,by omega,h⟩
end
section
def NN{cH:Array ce}(hl:IsTup s.heap l items)(hb:IsTup s.heap b cH)(hi:ww items.toList ns)(hj:ww cH.toList ms)
  (hu:A.units < ss) (h:Q (.bool (lexLt ns ms)) s):db (ev prog w) A (nw .Lt (.ref l) (.ref b)) Q E s:=by
 obtain⟨⟨cls,dd,data,sl⟩,ho,hc,n,hd⟩:=id hl;obtain⟨⟨ž,ã,data2,Y0⟩,Ot,XF,n2,Õ⟩:=id hb;simp only at hc hd XF Õ;subst hc hd XF Õ;exact richCompare_meets_room (op:=.Lt) ⟨_,ho,rfl⟩ ⟨_,Ot,rfl⟩ PySem.F.slot_tuple_lt PySem.F.entry_tuple_lt (PySem.F.args_tuple_lt_2 _ _) (y7 l b items cH n n2 dd ã sl Y0 ns ms hi hj)
  ⟨ho,Ot,show Dj (lexLt ns ms)≠Value.notImplemented/\Q (.bool (lexLt ns ms)) s from⟨(λx=>nomatch x),h⟩⟩ hu
def ab0{t:ci}{vs ws:O ce}(ht:IsTup s.heap t vs.toArray)(hb:IsTup s.heap b ws.toArray)(hv:vs≠[])
  (h1:ws=[]->Q (.ref t) s) (h2:ws≠[]->Q (.ref s.heap.objs.size) {s with heap:=s.heap.push {cls:=.type "tuple",data:=.seq (vs++ws).toArray}})
  (hsz:vs.length+ws.length<=sizeLine):db (ev prog w) A (tt .Add (.ref t) (.ref b)) Q E s:=by
 obtain⟨⟨cls,dd,data,sl⟩,ho,hc,n,hd⟩:=id ht;obtain⟨⟨ž,ã,data2,Y0⟩,Ot,XF,n2,Õ⟩:=id hb;simp only at hc hd XF Õ;subst hc hd XF Õ;have e:vs.toArray++ws.toArray=(vs++ws).toArray:=by simp
 by_cases hw:ws=[]
 ·exact concat_meets ⟨_,ho,rfl⟩ ⟨_,Ot,rfl⟩ noFill_tuple_add seq_tuple_add DC DA (Dv _ _)
   (tuple_addW1 t b vs.toArray ws.toArray n n2 dd ã sl Y0 (by simpa using hv) (by simp[hw])) ⟨ho,Ot,h1 hw⟩
 ·refine concat_meets ⟨_,ho,rfl⟩ ⟨_,Ot,rfl⟩ noFill_tuple_add seq_tuple_add DC DA (Dv _ _)
   (tuple_addW2 t b vs.toArray ws.toArray n n2 dd ã sl Y0 (by simpa using hv) (by simpa using hw) (by rw[Ak,Ak];exact hsz)) ⟨ho,Ot,?_⟩
  rw[e];exact h2 hw
def eE(n d:Nat):Option Int->Nat
 | none=>d
 | some v=>if v < 0 then (v+(n:Int)).toNat else min v.toNat n
theorem w4(n d:Nat):eE n d bm=d:=rfl
theorem ZJ(n d k:Nat):eE n d (ap (k:Int))=min k n:=by
 show(if (k:Int) < 0 then ((k:Int)+(n:Int)).toNat else min (k:Int).toNat n)=min k n;rw[if_neg ∅,A5]
theorem Rx(v:Int)(n d:Nat):(if v < 0 then max (v+(n:Int)) 0 else min v (n:Int))=((eE n d (ap v):Nat):Int):=by
 show(if v < 0 then max (v+(n:Int)) 0 else min v (n:Int))=(((if v < 0 then (v+(n:Int)).toNat else min v.toNat n):Nat):Int);by_cases hv:v < 0
 ·simp only[if_pos hv];omega
 ·simp only[if_neg hv];omega
theorem Pt(lo hi:Option Int)(n:Nat):Builtin.Slice.sliceAdjust lo hi 1 (n:Int)=(((eE n 0 lo:Nat):Int),((eE n n hi:Nat):Int)):=by
 have h1:¬((1:Int) < 0):=by omega
 unfold Builtin.Slice.sliceAdjust;refine Prod.ext ?_ ?_
 ·cases lo with
  | none=>rfl
  | some v=>exact Rx v n 0
 ·cases hi with
  | none=>rfl
  | some v=>exact Rx v n n
theorem Nt(i j:Nat):Builtin.Slice.slicePlaces (i:Int) (j:Int) 1=j-i:=by
 unfold Builtin.Slice.slicePlaces;have h1:(1:Int) > 0:=by omega
 split <;> omega
def jk{o:Option Int}{Q:Option Int->cr->Prop}(p:IsPart v o)(h:Q o s):db (ev prog w) A (Builtin.Slice.slicePartIndex v) Q E s:=by
 cases p with
 | none=>exact slicePart_none h
 | int i t=>exact slicePart_int h
def kU{sl:ci}{lo:Option Int}{Q:Int×Int×Nat->cr->Prop}(hs:s.heap.IsSliceOf sl vl vu .none)(pl:IsPart vl lo)(pu:IsPart vu hi)
  (h:Q (((eE n 0 lo:Nat):Int),1,eE n n hi-eE n 0 lo) s):db (ev prog w) A (Builtin.Slice.sliceApplied (.ref sl) (pure (n:Int))) Q E s:=by
 obtain⟨os,UP,Đ,á⟩:=id hs;refine Aa (Aa (A7 UP á (x:=vl) rfl (Aa (A7 UP á (x:=vu) rfl (Aa (A7 UP á (x:=.none) rfl (Af ?_)))))));refine Aa (slicePart_none ?_);refine Aa (jk pl (Aa (jk pu (Aa (Af ?_)))));show db _ _ (match Builtin.Slice.sliceAdjust lo hi 1 (n:Int) with | (lo,hi)=>pure (lo,(1:Int),Builtin.Slice.slicePlaces lo hi 1)) _ _ s;rw[Pt lo hi n];show db _ _ (pure (((eE n 0 lo:Nat):Int),(1:Int),Builtin.Slice.slicePlaces ((eE n 0 lo:Nat):Int) ((eE n n hi:Nat):Int) 1)) _ _ s;rw[Nt];exact Af h
theorem Wh(xs:Array ce)(i k:Nat):((Av k).filterMap λ(m:Nat)=>xs[((i:Int)+(m:Int)*1).toNat]?).toArray=((xs.toList.drop i).take k).toArray:=by
 have e:(λ(m:Nat)=>xs[((i:Int)+(m:Int)*1).toNat]?)=λm=>xs[i+m]?:=by
  funext m;have:((i:Int)+(m:Int)*1).toNat=i+m:=by omega
  rw[this]
 rw[e];have:=pick_run xs i k;rw[List.filterMap_map]at this;have e2:((λx=>xs[x]?)∘λx=>i+x)=λm=>xs[i+m]?:=rfl;rw[e2]at this;rw[this]
theorem sE{t sl:ci}{lo:Option Int}(ht:IsTup s.heap t items)(hs:s.heap.IsSliceOf sl vl vu .none)(pl:IsPart vl lo)(pu:IsPart vu hi)
  (hw:¬(eE items.size 0 lo=0/\eE items.size items.size hi=items.size))
  (h:Q (.ref s.heap.objs.size) {s with heap:=s.heap.push {cls:=.type "tuple",data:=.seq ((items.toList.drop (eE items.size 0 lo)).take (eE items.size items.size hi-eE items.size 0 lo)).toArray}})
  (hsz:items.size<=sizeLine):db (ev prog w) A (Gc (.ref t) (.ref sl)) Q E s:=by
 have Q5:sizeOk (.seq ((items.toList.drop (eE items.size 0 lo)).take (eE items.size items.size hi-eE items.size 0 lo)).toArray):=by
  show((items.toList.drop (eE items.size 0 lo)).take (eE items.size items.size hi-eE items.size 0 lo)).toArray.size<=sizeLine;rw[Ak,Dq,D5,Cf];omega
 obtain⟨os,UP,Đ,á⟩:=id hs;have ĭ:s.TypeIs (.ref sl) "slice":=⟨os,UP,Đ⟩;unfold Gc
 try with_reducible refine Bj ?_
 first | refine Aa (Af ?_) | skip
 refine Aa (E1 ht.typeIs ⋯ ?_);refine Aa (AX (name:=BO "__getitem__") ht.typeIs A2
  (A8 A2 ht.typeIs entry_tuple_getitem ?_ (args_tuple_getitem _ _)))
 show db _ _ (Builtin.Tuple.tupleItemsOf (.ref t) >>= _) _ _ s;refine Aa (tupleItemsOf_ ht ?_);refine Aa (C2 ĭ ?_);refine Aa (kU hs pl pu ?_);have hno:¬((((eE items.size 0 lo:Nat):Int)==0&&(1:Int)==1&&(eE items.size items.size hi-eE items.size 0 lo)==items.size)=true):=by
  intro q;rw[A1,A1]at q;have q1:=eq_of_beq q.1.1;have q2:=eq_of_beq q.2;exact hw ⟨by omega,by omega⟩
 show db _ _ (if (((eE items.size 0 lo:Nat):Int)==0&&(1:Int)==1&&(eE items.size items.size hi-eE items.size 0 lo)==items.size)=true then _ else _) _ _ s;rw[if_neg hno,Wh]
 first
  | exact Aa (m:=Builtin.Tuple.tupleExact _) (AO (Af ⟨_,rfl,Af h⟩) Q5)
  | exact Aa (m:=Builtin.Tuple.tupleExact _) (AO (Aa (Af (Af ⟨_,rfl,Af h⟩))) Q5)
  | exact Aa (Aa (m:=Builtin.Tuple.tupleExact _) (AO (Af (Af ⟨_,rfl,Af h⟩)) Q5))
  | exact Aa (Aa (m:=Builtin.Tuple.tupleExact _) (AO (Af ⟨_,rfl,Af h⟩) Q5))
end
end HT
variable{p2:Cz}
namespace L2
abbrev TO:=St->Hp->(Option Int->Hp->Prop)->Prop
def PO(X:Cx)(e:Option lc)(t:TO):Prop:=
 ∀(Z:O (ci×Obj)) (s:cr) (σ:St) (H:Hp) (Q:Option Int->Hp->Prop),Inv X Z σ H s->t σ H Q->
  db (ev X.prog X.w) X.A (evalPart e X.env) (λu s'=>∃o H',Inv X Z σ H' s'/\IsPart u o/\Q o H') X.xe s
def Zq:TO:=λ_ H Q=>Q bm H
def ahD(t:TE):TO:=λσ H Q=>t σ H λx H1=>∃i,x=.int i/\Q (ap i) H1
def intsAre_of:∀{us:O ce},Vals (ns.map V.int) us->ww us ns:=by
 induction ns with
 | nil=>intro us r;rw[Cq]at r;cases r;exact .nil
 | cons n ns ih=>
  intro us r;rw[Aq]at r;cases r with
  | cons r1 r2=>
   obtain⟨t,e⟩:=r1;subst e;exact .cons n t (ih r2)
section
variable{lo hi:Option lc}{tl th:TO}
def Z2:PO X bm Zq:=by
 intro Z s σ H Q I h;exact Af ⟨bm,H,I,.none,h⟩
def Z1(h:PE X e te):PO X (ap e) (ahD te):=by
 intro Z s σ H Q I hw;refine bS (h Z s σ H _ I hw) λu s1 ⟨x,H1,I1,r1,q1⟩=>?_;obtain⟨i,rfl,q⟩:=q1;obtain⟨t,rfl⟩:=r1;exact⟨ap i,H1,I1,.int i t,q⟩
def SlR(X:Cx)(r:V->Option Int->Option Int->Hp->VK->Prop):Prop:=
 ∀(Z:O (ci×Obj)) (s:cr) (σ:St) (H:Hp) (x:V) (v vl vu:ce) (lo hi:Option Int) (sl:ci) (Q:VK),Inv X Z σ H s->RelV x v->s.heap.IsSliceOf sl vl vu .none->IsPart vl lo->IsPart vu hi->r x lo hi H Q->
  ∃T id,IR (.type T) "__getitem__"=pure (ap (.builtin id))/\s.TypeIs v T/\db (ev X.prog X.w) X.A (Gc v (.ref sl)) (EP X Z σ Q) X.xe s
def tSl(r:V->Option Int->Option Int->Hp->VK->Prop)(te:TE)(tl th:TO):TE:=λσ H Q=>te σ H λx H1=>tl σ H1 λl H2=>th σ H2 λu H3=>r x l u H3 Q
def KC{r:V->Option Int->Option Int->Hp->VK->Prop}(hr:SlR X r)(he:PE X e te)(hl:PO X lo tl)(hu:PO X hi th):PE X (.Subscript e (.Slice lo hi bm p2) pos) (tSl r te tl th):=by
 intro Z s σ H Q I h;refine Subscript_ (bS (he Z s σ H _ I h) λv s1 ⟨x,H1,I1,r1,q1⟩=>?_);refine wpAny_Slice (bS (hl Z s1 σ H1 _ I1 q1) λvl s2 ⟨l,H2,I2,pl,q2⟩=>bS (hu Z s2 σ H2 _ I2 q2) λvu s3 ⟨u,H3,I3,pu,q3⟩=>?_);rw[evalPart_none];refine Af ?_;have I4:Inv X Z σ H3 {s3 with heap:=s3.heap.push {cls:=.type "slice",data:=.fields #[vl,vu,.none]}}:=I3.kept (t':=s3.toks) λb ob q=>Ag _ q;obtain⟨T,id,hT,ht,hg⟩:=hr Z {s3 with heap:=s3.heap.push {cls:=.type "slice",data:=.fields #[vl,vu,.none]}} σ H3 x v vl vu l u s3.heap.objs.size Q I4 r1 (FH.new ..) pl pu q3;show db (ev X.prog X.w) X.A (subscriptTail e (.Slice lo hi bm p2) v (.ref s3.heap.objs.size)) (EP X Z σ Q) X.xe {s3 with heap:=s3.heap.push {cls:=.type "slice",data:=.fields #[vl,vu,.none]}};exact tail_any (ops:=[.ref s3.heap.objs.size,v]) ht hT hg (by with_unfolding_all rfl)
def zR(xs:O V)(lo hi:Option Int):O V:=(xs.drop (HT.eE xs.length 0 lo)).take (HT.eE xs.length xs.length hi-HT.eE xs.length 0 lo)
theorem vd(xs:O V)(lo hi:Option Int):(zR xs lo hi).length<=xs.length:=by
 unfold zR;rw[Dq,D5];omega
def amB(K:Ab):V->Option Int->Option Int->Hp->VK->Prop:=λx lo hi H Q=>∃a xs,x=.ref a/\eW K H a xs/\
 ¬(HT.eE xs.length 0 lo=0/\HT.eE xs.length xs.length hi=xs.length)/\∀p,H p=bm->Q (.ref p) (upd H p (.tup (zR xs lo hi)))
def aec:SlR X (amB X.K):=by
 intro Z s σ H x v vl vu lo hi sl Q I rx hs pl pu h;obtain⟨a,xs,rfl,hx,hw,q⟩:=h;cases rx;obtain⟨aw,r,ht,hz⟩:=I.tuple hx;have Â:aw.toArray.size=xs.length:=by rw[Ak];exact r.length.symm
 refine⟨"tuple",_,A2.lookup,ht.typeIs,?_⟩;refine HT.sE ht hs pl pu (by rw[Â];exact hw) ?_ (by rw[Â];exact hz);rw[Â];refine⟨.ref s.heap.objs.size,_,I.laid (t':=s.toks) (o:=.tup (zR xs lo hi)) (λb ob q=>Ag _ q) (An _) ?_,rfl,q _ (I.bN.fresh (An _))⟩;exact⟨AW (vd xs lo hi) hz,_,(r.drop (HT.eE xs.length 0 lo)).take (HT.eE xs.length xs.length hi-HT.eE xs.length 0 lo),FV _ _⟩
def acF(K:Ab):R2:=λx y H Q=>∃a b xs ys,x=.ref a/\y=.ref b/\eW K H a xs/\eW K H b ys/\xs≠[]/\xs.length+ys.length<=sizeLine/\
 (ys=[]->Q (.ref a) H)/\(ys≠[]->∀p,H p=bm->Q (.ref p) (upd H p (.tup (xs++ys))))
def Vals.lQ(r:Vals xs us):us=[]↔xs=[]:=by
 cases r with
 | nil=>simp
 | cons _ _=>simp
def QE:jV X (tt .Add) (acF X.K):=by
 intro Z s σ H x y v u Q I rx ry h;obtain⟨a,b,xs,ys,rfl,rfl,ha,hb,hx,hz,q1,q2⟩:=h;cases rx;cases ry;obtain⟨aw,r1,p1,_⟩:=I.tuple ha;obtain⟨d4,r2,p2,_⟩:=I.tuple hb;refine HT.ab0 p1 p2 (λz=>hx (r1.lQ.mp z)) (λz=>⟨.ref a,H,I,rfl,q1 (r2.lQ.mp z)⟩) (λz=>?_) (by rw[<- r1.length,<- r2.length];exact hz);refine⟨.ref s.heap.objs.size,_,I.laid (t':=s.toks) (o:=.tup (xs++ys)) (λb ob q=>Ag _ q) (An _) ?_,rfl,q2 (λw=>z (r2.lQ.mpr w)) _ (I.bN.fresh (An _))⟩;exact⟨by rw[Ah];exact hz,_,r1.append r2,FV _ _⟩
end
end L2
variable{r':L2.R2}{its':O Be}
namespace L2
def uh(n:Nat)(i:Int):Option Nat:=if 0<=i then (if i < n then ap i.toNat else bm) else if -(n:Int)<=i then ap (i+n).toNat else bm
def bV(xs:List α)(i:Int):Option α:=(uh xs.length i).bind λj=>xs[j]?
theorem IE(h:uh n i=ap j):seqIndex? i n=ap j/\j < n/\-(n:Int)<=i/\i < n:=by
 unfold uh at h;by_cases h0:0<=i
 ·rw[if_pos h0]at h;by_cases h1:i < n
  ·rw[if_pos h1]at h;have e:=Option.some.inj h;exact⟨by rw[seqIndex_of h0 h1,e],by omega,by omega,h1⟩
  ·rw[if_neg h1]at h;cases h
 ·rw[if_neg h0]at h;by_cases h1:-(n:Int)<=i
  ·rw[if_pos h1]at h;have e:=Option.some.inj h;exact⟨by rw[seqIndex_neg ∅ h1,e],by omega,h1,by omega⟩
  ·rw[if_neg h1]at h;cases h
def JE{xs:List α}{v:α}(h:bV xs i=ap v):∃j,seqIndex? i xs.length=ap j/\xs[j]?=ap v/\j < xs.length/\-(xs.length:Int)<=i/\i < xs.length:=by
 unfold bV at h;cases e:uh xs.length i with
 | none=>rw[e]at h;cases h
 | some j=>
  rw[e]at h;obtain⟨h1,h2,h3,h4⟩:=IE e;exact⟨j,h1,h,h2,h3,h4⟩
theorem bJ{xs:List α}{v:α}(h:xs[j]?=ap v):bV xs (j:Int)=ap v:=by
 have hj:=(Al.mp h).1;have e:uh xs.length (j:Int)=ap j:=by
  unfold uh;rw[if_pos ∅,if_pos ∅];simp
 unfold bV;rw[e];exact h
theorem YL(xs:List α)(v:α):bV (xs++[v]) (-1)=ap v:=by
 have hl:(xs++[v]).length=xs.length+1:=by simp
 have e:uh (xs++[v]).length (-1)=ap xs.length:=by
  unfold uh;rw[hl,if_neg ⋯,if_pos ∅];congr 1;omega
 unfold bV;rw[e];simp
def JX(b:lc):Prop:=∀o i,subscripted b false o i=operate [o,i] (Gc o i)
def Y6(X:Cx)(r:R2):Prop:=
 ∀(value Å:lc) (Z:O (ci×Obj)) (s:cr) (σ:St) (H:Hp) (x y:V) (v u:ce) (Q:VK),Inv X Z σ H s->RelV x v->RelV y u->r x y H Q->
  subscripted Å false v u=operate [v,u] (Gc v u)->db (ev X.prog X.w) X.A (subscriptTail value Å v u) (EP X Z σ Q) X.xe s
def MtR(X:Cx)(id:String)(r:V->O V->Hp->VK->Prop):Prop:=
 ∀(Z:O (ci×Obj)) (s:cr) (σ:St) (H:Hp) (x:V) (xs:O V) (v:ce) (us:O ce) (Q:VK),Inv X Z σ H s->RelV x v->Vals xs us->r x xs H Q->
  db (ev X.prog X.w) X.A (call (.builtin id) (v::us)) (EP X Z σ Q) X.xe s
section
variable{X:Cx}{a b:lc}{ta tb:TE}{pos:Pos}
def Y6.or{r:R2}(h:Y6 X r)(h':Y6 X r'):Y6 X (λx y H Q=>r x y H Q\/r' x y H Q):=by
 intro value Å Z s σ H x y v u Q I rx ry q hs;rcases q with q | q
 ·exact h value Å Z s σ H x y v u Q I rx ry q hs
 ·exact h' value Å Z s σ H x y v u Q I rx ry q hs
def acG{r:R2}(hr:Y6 X r)(ha:PE X a ta)(hb:PE X b tb)(hs:JX b):PE X (.Subscript a b pos) (tOp r ta tb):=by
 intro Z s σ H Q I h;exact Subscript_ (agl ha hb I h λv u s2 x y H2 I2 rx ry q=>hr a b Z s2 σ H2 x y v u Q I2 rx ry q (hs _ _))
def aib(K:Ab):R2:=λx y H Q=>∃p xs i v,x=.ref p/\y=.int i/\eN K H p xs/\bV xs i=ap v/\Q v H
def aia(K:Ab):R2:=λx y H Q=>∃p xs i v,x=.ref p/\y=.int i/\eW K H p xs/\bV xs i=ap v/\Q v H
def aes:R2:=λx y H Q=>∃z i c,x=.str z/\y=.int i/\z.length<=sizeLine/\bV z.cps.toList i=ap c/\Q (.str ⟨#[c]⟩) H
theorem aa7:Y6 X (aib X.K):=by
 intro value Å Z s σ H x y v u Q I rx ry h hs;obtain⟨p,xs,i,z,rfl,rfl,hq,he,q⟩:=h;cases rx;obtain⟨t,rfl⟩:=ry;obtain⟨aw,r,pl,hz⟩:=I.list hq;obtain⟨j,h1,h2,h3,h4,h5⟩:=JE he;obtain⟨w,ew,HE⟩:=r.get h2;have hl:=r.length;have hn:=Ih;have fin:EP X Z σ Q w s:=⟨z,H,I,HE,q⟩;by_cases h0:0<=i
 ·have hj:i.toNat=j:=by
   rw[seqIndex_of h0 h5]at h1;exact Option.some.inj h1
  exact item_listR pl.isList h0 ∅ (by rw[hj];simpa using ew) fin hs
 ·have hj:(i+(aw.toArray.size:Int)).toNat=j:=by
   rw[seqIndex_neg ∅ h4]at h1;rw[Ak,<- hl];exact Option.some.inj h1
  exact subscriptTail_builtinR (x:=w) pl.isList.typeIs slot_list_getitem.lookup
   (wpAny_getItem_list_neg (Q:=λr s'=>r=w/\EP X Z σ Q r s') pl.isList ∅ (by rw[Ak] <;> omega) ∅ (by rw[hj];simpa using ew) ⟨rfl,fin⟩) hs
theorem afr:Y6 X (aia X.K):=by
 intro value Å Z s σ H x y v u Q I rx ry h hs;obtain⟨p,xs,i,z,rfl,rfl,hq,he,q⟩:=h;cases rx;obtain⟨t,rfl⟩:=ry;obtain⟨aw,r,pl,hz⟩:=I.tuple hq;obtain⟨j,h1,h2,h3,h4,h5⟩:=JE he;obtain⟨w,ew,HE⟩:=r.get h2;have hl:=r.length;have hn:=Ih;have fin:EP X Z σ Q w s:=⟨z,H,I,HE,q⟩;exact subscriptTail_builtinR (x:=w) pl.typeIs slot_tuple_getitem.lookup
  (getItem_tuple (j:=j) (Q:=λr s'=>r=w/\EP X Z σ Q r s') pl ∅ ∅ (by rw[Ak,<- hl];exact h1) (by simpa using ew) ⟨rfl,fin⟩) hs
theorem Xp:Y6 X aes:=by
 intro value Å Z s σ H x y v u Q I rx ry h hs;obtain⟨z,i,c,rfl,rfl,hz,he,q⟩:=h;obtain⟨t,rfl⟩:=rx;obtain⟨t',rfl⟩:=ry;obtain⟨j,h1,h2,h3,h4,h5⟩:=JE he;have hl:z.cps.toList.length=z.length:=by simp[Str.length]
 rw[hl]at h1 h4 h5;have hn:=Ih;exact tail_any (typeIs_str s z t) slot_str_getitem.lookup (getItem_str (c:=c) (by
  have e1:decide (i < -(2 ^ 63:Int))=false:=decide_eq_false ∅;have e2:decide (i≥2 ^ 63)=false:=decide_eq_false ∅;rw[e1,e2,Bool.or_false]) (by rw[h1];simpa using h2) ⟨.str ⟨#[c]⟩,H,I.tok _,⟨_,rfl⟩,q⟩) hs
def rIx(K:Ab):R2:=λx y H Q=>aib K x y H Q\/aia K x y H Q\/aes x y H Q
def afs:Y6 X (rIx X.K):=aa7.or (afr.or Xp)
def NM(aw:O ce)(n j:Nat)(u:ce):BC (·.setIfInBounds j u) {cls:=.type "list",data:=.seq aw.toArray n}={cls:=.type "list",data:=.seq (aw.set j u).toArray n}:=by
 simp[BC]
def Inv.lst{Z:O (ci×Obj)}{σ:St}{H:Hp}{s:cr}{p:ci}{xs:O V}(I:Inv X Z σ H s)(h:H p=ap (.lst xs)) :
  ∃(aw:O ce) (n:Nat),Vals xs aw/\s.heap.get? p=ap {cls:=.type "list",data:=.seq aw.toArray n}/\xs.length<=sizeLine:=by
 obtain⟨z,aw,n,r,e⟩:=I.bN p _ h;exact⟨aw,n,r,e,z⟩
def Inv.ae6{p:ci}{n':Nat}{f:Obj->Obj}(I:Inv X Z σ H s)(h:H p=ap (.lst xs))
  (ho:s.heap.get? p=ap {cls:=.type "list",data:=.seq aw.toArray n}) (hf:f {cls:=.type "list",data:=.seq aw.toArray n}={cls:=.type "list",data:=.seq its'.toArray n'}) (r:Vals ys its') (hz:ys.length<=sizeLine) (t:Nat) :
  Inv X Z σ (upd H p (.lst ys)) {s with heap:=s.heap.update p f,toks:=t}:=by
 have e:(s.heap.update p f).get? p=ap {cls:=.type "list",data:=.seq its'.toArray n'}:=by
  rw[BX f ho (by rw[hf] <;> rfl),hf]
 refine I.write (x:=p) (e:=p) (by rw[h];trivial) (.inl rfl) (λb u hb q=>(B7 _ _ (BW hb)).trans q) ⟨_,e⟩ ?_;exact⟨hz,its',n',r,e⟩
def ah7:V->V->V->Hp->(Hp->Prop)->Prop:=λo i v H Q=>∃p xs k j,o=.ref p/\i=.int k/\H p=ap (.lst xs)/\uh xs.length k=ap j/\Q (upd H p (.lst (xs.set j v)))
theorem set_list:UE X ah7:=by
 intro Z s σ H o i v ov iv u Q I ro ri rv h;obtain⟨p,xs,k,j,rfl,rfl,hp,hj,q⟩:=h;cases ro;obtain⟨t,rfl⟩:=ri;obtain⟨aw,n,r,ho,hz⟩:=I.lst hp;obtain⟨h1,h2,h3,h4⟩:=IE hj;have hl:=r.length;have hn:=Ih;have I':Inv X Z σ (upd H p (.lst (xs.set j v))) {s with heap:=s.heap.update p (BC (·.setIfInBounds j u))}:=
  I.ae6 hp ho (NM aw n j u) (r.set rv j) (by rw[B3];exact hz) s.toks
 by_cases h0:0<=k
 ·have hk:k.toNat=j:=by
   rw[seqIndex_of h0 h4]at h1;exact Option.some.inj h1
  exact PySem.W.ki_setAt ho h0 ∅ (by rw[Ak,<- hl];exact h4) (by rw[hk];exact⟨_,I',q⟩)
 ·have hk:(k+(aw.toArray.size:Int)).toNat=j:=by
   rw[seqIndex_neg ∅ h3]at h1;rw[Ak,<- hl];exact Option.some.inj h1
  exact PySem.W.ki_setBack ho ∅ (by rw[Ak,<- hl];exact h3) ∅ (by rw[hk];exact⟨_,I',q⟩)
theorem HB(lo hi:Option Int)(n:Nat):(EQ lo hi bm n).1=((HT.eE n 0 lo:Nat):Int)/\(EQ lo hi bm n).2.1=((HT.eE n n hi:Nat):Int)/\(EQ lo hi bm n).2.2=1:=by
 refine⟨?_,?_,rfl⟩
 ·cases lo with
  | none=>simp[EQ,HT.eE]
  | some i=>
   simp only[EQ,HT.eE,Option.getD_none,show(1:Int) > 0 by decide,if_true];by_cases h:i < 0
   ·simp only[h,if_true] <;> omega
   ·simp only[h,if_false] <;> omega
 ·cases hi with
  | none=>simp[EQ,HT.eE]
  | some i=>
   simp only[EQ,HT.eE,Option.getD_none,show(1:Int) > 0 by decide,if_true];by_cases h:i < 0
   ·simp only[h,if_true] <;> omega
   ·simp only[h,if_false] <;> omega
def za(aw:O ce)(lo hi:Option Int):slicePick aw.toArray lo hi bm=((aw.drop (HT.eE aw.length 0 lo)).take (HT.eE aw.length aw.length hi-HT.eE aw.length 0 lo)).toArray:=by
 obtain⟨h1,h2,h3⟩:=HB lo hi aw.toArray.size;unfold slicePick;rw[h1,h2,h3];simp only[sliceRange_one,pick_run,Ak] <;> rfl
def amC(K:Ab):V->Option Int->Option Int->Hp->VK->Prop:=λx lo hi H Q=>∃a xs,x=.ref a/\eN K H a xs/\∀p,H p=bm->Q (.ref p) (upd H p (.lst (zR xs lo hi)))
theorem ZI:SlR X (amC X.K):=by
 intro Z s σ H x v vl vu lo hi sl Q I rx hs pl pu h;obtain⟨a,xs,rfl,hx,q⟩:=h;cases rx;obtain⟨aw,r,ht,hz⟩:=I.list hx;have Â:=r.length;refine⟨"list",_,slot_list_getitem.lookup,ht.isList.typeIs,?_⟩;refine wpAny_getItem_list_slice ht.isList hs pl pu .none (by simp) ?_ (by rw[Ak] <;> omega);rw[za,<- Â];refine⟨.ref s.heap.objs.size,_,I.laid (t':=s.toks) (o:=.lst (zR xs lo hi)) (λb ob q=>Ag _ q) (An _) ?_,rfl,q _ (I.bN.fresh (An _))⟩;exact⟨AW (vd xs lo hi) hz,_,0,(r.drop (HT.eE xs.length 0 lo)).take (HT.eE xs.length xs.length hi-HT.eE xs.length 0 lo),Ar _ rfl⟩
theorem JB:cC X (.type "list") (λxs H Q=>∃p ys,xs=[.ref p]/\(eN X.K H p ys\/eW X.K H p ys)/\∀l,H l=bm->Q (.ref l) (upd H l (.lst ys))):=by
 intro Z s σ H xs us Q I r h;obtain⟨p,ys,rfl,hq,q⟩:=h;obtain⟨u,rfl,rx⟩:=vals1 r;cases rx;have fin:∀(aw:O ce),Vals ys aw->ys.length<=sizeLine->∀(h':pr) (c':Nat),(∀b o',s.heap.get? b=ap o'->h'.get? b=ap o')->
   h'.get? s.heap.objs.size=ap {cls:=.type "list",dict:=bm,data:=.seq aw.toArray c',slots:=#[]}->EP X Z σ Q (.ref s.heap.objs.size) {s with heap:=h'}:=λaw r' hz h' c' kp e=>
  ⟨.ref s.heap.objs.size,_,I.laid (t':=s.toks) kp (An _) (show bA X.prog X.w _ h' _ (.lst ys) from⟨hz,aw,c',r',e⟩),rfl,q _ (I.bN.fresh (An _))⟩
 rcases hq with hq | hq
 ·obtain⟨aw,r',pl,hz⟩:=I.list hq;have Â:=r'.length;obtain⟨o,ho,hc,n,hd⟩:=pl.isList;exact call_list_seq p (.inl rfl) ho hc hd (λh' c' kp e=>fin aw r' hz h' c' kp e) (by simp only[Ak] <;> omega)
 ·obtain⟨aw,r',pl,hz⟩:=I.tuple hq;have Â:=r'.length;obtain⟨o,ho,hc,n,hd⟩:=pl;exact call_list_seq p (.inr rfl) ho hc hd (λh' c' kp e=>fin aw r' hz h' c' kp e) (by simp only[Ak] <;> omega)
theorem zS:cC X (.type "tuple") (λxs H Q=>∃p ys,xs=[.ref p]/\((eN X.K H p ys/\∀l,H l=bm->Q (.ref l) (upd H l (.tup ys)))\/(eW X.K H p ys/\Q (.ref p) H))):=by
 intro Z s σ H xs us Q I r h;obtain⟨p,ys,rfl,h⟩:=h;obtain⟨u,rfl,rx⟩:=vals1 r;cases rx;rcases h with⟨hq,q⟩ | ⟨hq,q⟩
 ·obtain⟨aw,r',pl,hz⟩:=I.list hq;have Â:=r'.length;refine call_tuple_list pl.isList (λh' kp=>?_) (by simp only[Ak] <;> omega);have I1:Inv X Z σ H {s with heap:=h'}:=I.kept (t':=s.toks) kp;have I2:Inv X Z σ (upd H h'.objs.size (.tup ys)) {s with heap:=h'.push {cls:=.type "tuple",data:=.seq aw.toArray}}:=
   I1.laid (t':=s.toks) (λb o e=>Ag _ e) (An _) (show bA X.prog X.w _ _ _ (.tup ys) from⟨hz,aw,r',FV _ _⟩)
  exact⟨.ref h'.objs.size,_,I2,rfl,q _ (I1.bN.fresh (An _))⟩
 ·obtain⟨aw,r',pl,hz⟩:=I.tuple hq;exact call_tuple_same pl ⟨.ref p,H,I,rfl,q⟩
def tyV(K:Ab)(T:String)(x:V)(H:Hp):Prop:=match x with
 | .str _=>T="str"
 | .int _=>T="int"
 | .ref p=>(T="list"/\∃xs,eN K H p xs)\/(T="tuple"/\∃o,K.lookup p=ap o/\o.cls=.type "tuple"/\o.dict=bm)\/
   (T="dict"/\((∃kvs,H p=ap (.dK kvs))\/∃kvs,H p=ap (.dT kvs)))\/(T="set"/\∃S n,H p=ap (.set S n))
 | _=>False
def Ve{x:V}(I:Inv X Z σ H s)(r:RelV x v)(ty:tyV X.K T x H) :
  s.TypeIs v T/\∀a,v=.ref a->∃ob,s.heap.get? a=ap ob/\ob.dict=bm:=by
 cases x with
 | str z=>
  obtain⟨t,rfl⟩:=r;cases (show T="str" from ty);exact⟨typeIs_str s z t,λ_ e=>nomatch e⟩
 | int i=>
  obtain⟨t,rfl⟩:=r;cases (show T="int" from ty);exact⟨typeIs_int s i t,λ_ e=>nomatch e⟩
 | ref p=>
  cases r;rcases ty with⟨rfl,xs,hq⟩ | ⟨rfl,o,hk,hc,hd⟩ | ⟨rfl,hk⟩ | ⟨rfl,S,n,hk⟩
  ·obtain⟨aw,_,pl,_⟩:=I.list hq;refine⟨pl.isList.typeIs,λa e=>?_⟩;cases e;obtain⟨o,n,e,c,hd,_⟩:=pl;exact⟨o,e,hd⟩
  ·refine⟨⟨o,I.zC p o hk,hc⟩,λa e=>?_⟩;cases e;exact⟨o,I.zC _ o hk,hd⟩
  ·have z:∃o,s.heap.get? p=ap o/\o.ExactDict:=by
    rcases hk with⟨kvs,hk⟩ | ⟨kvs,hk⟩
    ·obtain⟨_,_,_,_,o,_,_,e,ex,_⟩:=I.bN p _ hk;exact⟨o,e,ex⟩
    ·obtain⟨_,_,_,_,o,_,_,e,ex,_⟩:=I.bN p _ hk;exact⟨o,e,ex⟩
   obtain⟨o,e,ex⟩:=z;refine⟨⟨o,e,ex.1⟩,λa e2=>?_⟩;cases e2;exact⟨o,e,ex.2.1⟩
  ·obtain⟨o,_,_,_,e,ex,_⟩:=I.bN p _ hk;refine⟨⟨o,e,ex.1⟩,λa e2=>?_⟩;cases e2;exact⟨o,e,ex.2.1⟩
 | _=>exact BE ty
def ahN(K:Ab)(T:String)(r:V->O V->Hp->VK->Prop)(to:TE):TE:=λσ H Q=>to σ H λx H1=>tyV K T x H1/\r x [] H1 Q
def tBM(K:Ab)(T:String)(r:V->O V->Hp->VK->Prop)(to:TE)(t:TA):TE:=λσ H Q=>to σ H λx H1=>tyV K T x H1/\t σ H1 λxs H2=>r x xs H2 Q
variable{o e:lc}{es:O lc}{to:TE}{t:TA}{name:Str}{Á bC:Pos}{T id:String}{r:V->O V->Hp->VK->Prop}
def aeJ(pa:PlainAttrs T)(slot:Slot T name id)(Q4:typeOf (.builtin id)=pure (.type "method_descriptor"))(hm:MtR X id r)(ho:PE X o to)
  (da:‹o0 o name X.env (lw o X.env)=lw o X.env›) (c9:‹RG Á bC›):PE X (.Call (.Attribute o name Á) [] [] bC) (ahN X.K T r to):=by
 intro Z s σ H Q I h;refine wpAny_Call_method0_late da c9 (bS (ho Z s σ H _ I h) λv s1 ⟨x,H1,I1,r1,ty,q1⟩=>?_);obtain⟨h1,h2⟩:=Ve I1 r1 ty;exact⟨T,id,pa,slot,Q4,h1,h2,DG rfl (FX (hm Z s1 σ H1 x [] v [] Q I1 r1 .nil q1))⟩
def aiq(pa:PlainAttrs T)(slot:Slot T name id)(Q4:typeOf (.builtin id)=pure (.type "method_descriptor"))(hm:MtR X id r)(ho:PE X o to)(ha:PA X (e::es) t)
  (da:‹o0 o name X.env (lw o X.env)=lw o X.env›)
  (nU:‹HWa X bC (e::es)›)
  (c9:‹RG Á bC›) (hs:‹iq X e es›) (d5:‹m6 X bC es›) :
  PE X (.Call (.Attribute o name Á) (e::es) [] bC) (tBM X.K T r to t):=by
 intro Z s σ H Q I h;refine wpAny_Call_method_late da nU c9 rfl (bS (ho Z s σ H _ I h) λv s1 ⟨x,H1,I1,r1,ty,q1⟩=>?_);obtain⟨h1,h2⟩:=Ve I1 r1 ty;refine⟨T,id,pa,slot,Q4,h1,h2,?_⟩;have hA:=ha bC Z s1 σ H1 _ I1 q1;rw[hs]at hA ⊢;refine DG (by show(false||(BT bC (im es X.env)).any (·.1))=false;rw[d5] <;> rfl) (Calls.evalArgs_plain ?_);exact bS hA λus s2 ⟨vs,H2,I2,r2,q2⟩=>hm Z s2 σ H2 x vs v us Q I2 r1 r2 q2
end
def MR(X:Cx)(id:String)(r:V->O V->Hp->VK->Prop):Prop:=
 ∀(Z:O (ci×Obj)) (s:cr) (σ:St) (H:Hp) (x:V) (xs:O V) (v:ce) (us:O ce) (Q:VK),Inv X Z σ H s->RelV x v->Vals xs us->r x xs H Q->
  db (ev X.prog X.w) X.A (call (.builtin id) (v::us)) (EP X Z σ Q) X.xe s
def Vals.one:∀{x:V}{us:O ce},Vals [x] us->∃u,us=[u]/\RelV x u
 | _,_,.cons r .nil=>⟨_,rfl,r⟩
def Vals.zero:∀{us:O ce},Vals [] us->us=[]
 | _,.nil=>rfl
def Vals.dropLast(h:Vals xs us):Vals xs.dropLast us.dropLast:=by
 induction h with
 | nil=>exact .nil
 | cons r t ih=>
  cases t with
  | nil=>exact .nil
  | cons q t'=>exact .cons r ih
theorem Vals.eraseIdx:∀{xs:O V}{us:O ce} (i:Nat),Vals xs us->Vals (xs.eraseIdx i) (us.eraseIdx i)
 | _,_,_,.nil=>.nil
 | _,_,0,.cons _ t=>t
 | _,_,i+1,.cons r t=>.cons r (Vals.eraseIdx i t)
theorem Vals.rep(h:Vals xs us):∀k:Nat,Vals (Au k xs).flatten (Au k us).flatten
 | 0=>.nil
 | k+1=>by
  rw[BV,BV,Cc,Cc];exact Vals.append h (Vals.rep h k)
theorem OQ(l:List α):l.eraseIdx (l.length-1)=l.dropLast:=by
 induction l with
 | nil=>rfl
 | cons a r ih=>
  cases r with
  | nil=>rfl
  | cons b r=>
   have e:(a::b::r).length-1=((b::r).length-1)+1:=by
    have h1:(a::b::r).length=r.length+2:=rfl;have h2:(b::r).length=r.length+1:=rfl;omega
   rw[e,CY,ih]
   all_goals rfl
theorem GD:∀(l:List α) (i:Nat),(l.eraseIdx i).length<=l.length
 | [],_=>An _
 | _::_,0=>Ee _
 | _::r,i+1=>Nat.succ_le_succ (GD r i)
theorem foldl_rep(aw:O ce):∀(k:Nat) (Ã:O ce),
  List.foldl (λx1 x2=>x1++x2) Ã.toArray (Au k aw.toArray)=(Ã++(Au k aw).flatten).toArray
 | 0,Ã=>by simp
 | k+1,Ã=>by
  have e:Ã.toArray++aw.toArray=(Ã++aw).toArray:=by simp
  have e2:(Ã++aw)++(Au k aw).flatten=Ã++(Au (k+1) aw).flatten:=by
   rw[BV,Cc,AH]
  rw[<- e2,<- foldl_rep aw k (Ã++aw),<- e,BV,Dx]
section
def Inv.NP{f:Array ce->Array ce}{t':Nat}(I:Inv X Z σ H s)(hH:H l=ap (.lst xs))
  (e:s.heap.get? l=ap {cls:=.type "list",data:=.seq aw.toArray n}) (hf:f aw.toArray=its'.toArray) (hv:Vals ys its') (hz:ys.length<=sizeLine) :
  Inv X Z σ (upd H l (.lst ys)) {s with heap:=s.heap.update l (BC f),toks:=t'}:=by
 have q:=PySem.IsL.update e f;rw[hf]at q;refine I.write (x:=l) (e:=l) (by rw[hH];exact trivial) (.inl rfl) (λb' u hb hu=>(B7 s.heap (BC f) (BW hb)).trans hu) ⟨_,q⟩ ?_;exact⟨hz,its',_,hv,q⟩
def Inv.ae7{t':Nat}(I:Inv X Z σ H s)(hv:Vals ys aw)(hz:ys.length<=sizeLine) :
  Inv X Z σ (upd H s.heap.objs.size (.lst ys)) {s with heap:=s.heap.push {cls:=.type "list",data:=.seq aw.toArray},toks:=t'}:=
 I.laid (λ_ _ q=>Ag _ q) (An _) ⟨hz,aw,0,hv,Ar _ rfl⟩
def Inv.fresh(I:Inv X Z σ H s):H s.heap.objs.size=bm:=I.bN.fresh (An _)
def Inv.vq(I:Inv X Z σ H s)(hH:H l=ap (.lst xs)):xs.length<=sizeLine/\∃(aw:O ce) (n:Nat),Vals xs aw/\xs.length=aw.length/\s.heap.get? l=ap {cls:=.type "list",data:=.seq aw.toArray n}:=by
 obtain⟨z,aw,n,r,e⟩:=I.bN l _ hH;exact⟨z,aw,n,r,r.length,e⟩
theorem rK(h:n<=sizeLine):Builtin.List.listTooLong n=false:=by
 exact decide_eq_false ∅
end
section
def ZW:V->O V->Hp->VK->Prop:=λx vs H Q=>∃l xs y,x=.ref l/\vs=[y]/\H l=ap (.lst xs)/\xs.length < sizeLine/\Q .aL (upd H l (.lst (xs++[y])))
theorem So:MR X "list.append" ZW:=by
 intro Z s σ H x vs v us Q I rx rv h;obtain⟨l,xs,y,rfl,rfl,hH,hz,q⟩:=h;cases rx;obtain⟨u,rfl,ru⟩:=rv.one;obtain⟨z,aw,n,r,hl,e⟩:=I.vq hH;refine sK F.slot_list_append ⟨_,e,rfl⟩ F.entry_list_append (F.args_list_append_2 _ _) (PySem.list_append l aw.toArray n u (by rw[Ak];omega)) ⟨e,?_⟩;refine⟨.aL,_,I.NP (its':=aw++[u]) hH e (by simp) (r.append (.cons ru .nil)) ?_,rfl,q⟩;rw[Ah,Df];omega
def ZU:V->O V->Hp->VK->Prop:=λx vs H Q=>∃l b xs zs,x=.ref l/\vs=[.ref b]/\H l=ap (.lst xs)/\H b=ap (.lst zs)/\xs.length+zs.length<=sizeLine/\Q .aL (upd H l (.lst (xs++zs)))
theorem agJ:MR X "list.extend" ZU:=by
 intro Z s σ H x vs v us Q I rx rv h;obtain⟨l,b,xs,zs,rfl,rfl,hH,hB,hz,q⟩:=h;cases rx;obtain⟨u,rfl,ru⟩:=rv.one;cases ru;obtain⟨z,aw,n,r,hl,e⟩:=I.vq hH;obtain⟨z2,d4,n2,r2,UQ,e2⟩:=I.vq hB;have hsz:aw.toArray.size+d4.toArray.size<=sizeLine:=by rw[Ak,Ak];omega
 have xR:¬(!aw.toArray.isEmpty&&Builtin.List.listTooLong (aw.toArray.size+d4.toArray.size))=true:=by
  rw[rK hsz,ES];exact AY
 refine sK EC ⟨_,e,rfl⟩ Eo (Ea _ _)
  (AutoSeq1.list_extend_list_list_0 l aw.toArray n b d4.toArray n2 xR (by rw[Ak];omega) ∅) ⟨e,e2,?_⟩
 refine⟨.aL,_,I.NP (its':=aw++d4) hH e (by simp) (r.append r2) ?_,rfl,q⟩;rw[Ah];omega
def amE:V->O V->Hp->VK->Prop:=λx vs H Q=>∃l xs y,x=.ref l/\vs=[]/\H l=ap (.lst xs)/\xs[xs.length-1]?=ap y/\Q y (upd H l (.lst xs.dropLast))
theorem ae4:MR X "list.pop" amE:=by
 intro Z s σ H x vs v us Q I rx rv h;obtain⟨l,xs,y,rfl,rfl,hH,hy,q⟩:=h;cases rx;have Ţ:=rv.zero;subst Ţ;obtain⟨z,aw,n,r,hl,e⟩:=I.vq hH;obtain⟨u,hu,ru⟩:=r.get hy;have Ü:aw.toArray[aw.toArray.size-1]?=ap u:=by
  show aw.toArray[aw.length-1]?=ap u;rw[<- Ck,<- hl];exact hu
 refine sK F.slot_list_pop ⟨_,e,rfl⟩ F.entry_list_pop (F.args_list_pop_1 _) (MeetsSeq.list_pop_last l aw.toArray n u Ü (by rw[Ak];omega)) ⟨e,?_⟩;refine⟨y,_,I.NP (its':=aw.dropLast) hH e ?_ r.dropLast ?_,ru,q⟩
 ·rw[Ak,DT,OQ]
 ·rw[List.length_dropLast];omega
def aeq:V->O V->Hp->VK->Prop:=λx vs H Q=>∃l xs i k y,x=.ref l/\vs=[.int i]/\H l=ap (.lst xs)/\-(2 ^ 63)<=i/\i < 2 ^ 63/\seqIndex? i xs.length=ap k/\xs[k]?=ap y/\Q y (upd H l (.lst (xs.eraseIdx k)))
theorem WU:MR X "list.pop" aeq:=by
 intro Z s σ H x vs v us Q I rx rv h;obtain⟨l,xs,i,k,y,rfl,rfl,hH,h1,h2,hk,hy,q⟩:=h;cases rx;obtain⟨u,rfl,ru⟩:=rv.one;obtain⟨t,rfl⟩:=ru;obtain⟨z,aw,n,r,hl,e⟩:=I.vq hH;obtain⟨w,hw,HE⟩:=r.get hy;refine sK F.slot_list_pop ⟨_,e,rfl⟩ F.entry_list_pop (F.args_list_pop_2 _ _)
  (MeetsSeq.list_pop_at l aw.toArray n i t k w (fitsIndex_both h1 h2) (by rw[Ak,<- hl];exact hk) (by rw[<- Ck];exact hw) (by rw[Ak];omega)) ⟨e,?_⟩
 refine⟨y,_,I.NP (its':=aw.eraseIdx k) hH e ?_ (r.eraseIdx k) ?_,HE,q⟩
 ·show aw.toArray.eraseIdxIfInBounds k=(aw.eraseIdx k).toArray;rw[DT]
 ·have:=GD xs k;omega
def amF:R2:=λx y H Q=>∃l b xs zs,x=.ref l/\y=.ref b/\H l=ap (.lst xs)/\H b=ap (.lst zs)/\xs.length+zs.length<=sizeLine/\∀p,H p=bm->Q (.ref p) (upd H p (.lst (xs++zs)))
theorem aeT:jV X (tt .Add) amF:=by
 intro Z s σ H x y v u Q I rx ry h;obtain⟨l,b,xs,zs,rfl,rfl,hH,hB,hz,q⟩:=h;cases rx;cases ry;obtain⟨z,aw,n,r,hl,e⟩:=I.vq hH;obtain⟨z2,d4,n2,r2,UQ,e2⟩:=I.vq hB;refine PySem.P.add_list e e2 ?_ (by rw[Ak,Ak];omega);have ea:aw.toArray++d4.toArray=(aw++d4).toArray:=by simp
 rw[ea];exact⟨.ref _,_,I.ae7 (t':=s.toks) (r.append r2) (by rw[Ah];omega),rfl,q _ I.fresh⟩
def amD:R2:=λx y H Q=>∃l k xs,x=.ref l/\y=.int k/\H l=ap (.lst xs)/\-(2 ^ 63)<=k/\k < 2 ^ 63/\xs.length*k.toNat<=sizeLine/\
 ∀p,H p=bm->Q (.ref p) (upd H p (.lst (Au k.toNat xs).flatten))
def len_rep(xs:List α)(k:Nat):(Au k xs).flatten.length=k*xs.length:=by
 induction k with
 | zero=>simp
 | succ k ih=>rw[BV,Cc,Ah,ih,Ew,Nat.add_comm]
theorem aeN:jV X (tt .Mult) amD:=by
 intro Z s σ H x y v u Q I rx ry h;obtain⟨l,k,xs,rfl,rfl,hH,h1,h2,hz,q⟩:=h;cases rx;obtain⟨t,rfl⟩:=ry;obtain⟨z,aw,n,r,hl,e⟩:=I.vq hH;have Â:aw.toArray.size*k.toNat<=sizeLine:=by rw[Ak,<- hl];exact hz
 have anT:¬aw.toArray.size*k.toNat > (2 ^ 63-1) / 8:=by
  have:(sizeLine:Nat)<=(2 ^ 63-1) / 8:=by decide
  omega
 have anN:¬(!Builtin.List.listFitsIndex k)=true:=by
  rw[fitsIndex_both h1 h2];exact AY
 have xR:¬Builtin.List.listTooLong (aw.toArray.size*k.toNat)=true:=by
  rw[rK Â];exact AY
 have ō:List.foldl (λx1 x2=>x1++x2) #[] (Au (if aw.toArray.isEmpty=true then 0 else k.toNat) aw.toArray)=(Au k.toNat aw).flatten.toArray:=by
  have f0:∀m:Nat,List.foldl (λx1 x2=>x1++x2) #[] (Au m aw.toArray)=(Au m aw).flatten.toArray:=λm=>by
   have:=foldl_rep aw m [];exact this
  rw[f0];cases aw with
  | nil=>simp
  | cons a r'=>rw[if_neg (by simp)]
 refine wpAny_binaryOp_repeat_ref (T:="list") (U:="int") ⋯ ⟨_,e,rfl⟩ (λs'=>typeIs_int s' k t) noFill_list_mul F.fills_int_mul F.slot_int_rmul repeat_list F.slot_int_index.lookup
  (sK F.slot_int_rmul (typeIs_int s k t) F.entry_int_rmul (F.args_int_rmul_2 _ _) (int___rmul___int_list k t l aw.toArray n)
   ⟨e,rfl,⟨_,e,rfl⟩,sK F.slot_list_mul ⟨_,e,rfl⟩ F.entry_list_mul (F.args_list_mul_2 _ _) (AutoListH.list___mul___list_int_3 l aw.toArray n k t anN anT xR) ⟨e,?_⟩⟩)
 rw[ō];exact⟨.ref _,_,I.ae7 (t':=s.toks) (r.rep k.toNat) (by rw[len_rep,Nat.mul_comm];exact hz),rfl,q _ I.fresh⟩
end
end L2
variable{xs:O (O L2.Key×BU×Be)}{o:Option L2.V}{v:L2.V}{kvs:O (O L2.Key×L2.V)}{env:PySem.Env}{value:B8}{wO:Cz}
namespace L2
section
variable{κ:Type}[DecidableEq κ]
def jQ(kvs:O (κ×V))(k:κ):Option V:=(kvs.find? λkv=>decide (kv.1=k)).map (·.2)
def putK(kvs:O (κ×V))(k:κ)(v:V):O (κ×V):=
 if (kvs.any λkv=>decide (kv.1=k))=true then kvs.map (λkv=>if kv.1=k then (kv.1,v) else kv) else kvs++[(k,v)]
def nj{p:κ×V}{r:O (κ×V)}{k:κ}(e:p.1=k):jQ (p::r) k=ap p.2:=by simp[jQ,Bt,e]
def nk{p:κ×V}{r:O (κ×V)}{k:κ}(e:¬p.1=k):jQ (p::r) k=jQ r k:=by simp[jQ,Bt,e]
theorem rh(k:κ):∀kvs:O (κ×V),(kvs.any λkv=>decide (kv.1=k))=(jQ kvs k).isSome
 | []=>rfl
 | p::r=>by
  rw[BZ];by_cases e:p.1=k
  ·simp only[nj e,decide_eq_true e,Bool.true_or,Option.isSome_some]
  ·rw[nk e,decide_eq_false e,Bool.false_or];exact rh k r
theorem uV(kvs:O (κ×V))(k:κ)(v:V):(putK kvs k v).length<=kvs.length+1:=by
 unfold putK
 split
 ·rw[Ae];omega
 ·rw[Ah,Ap,Bd];omega
def yN.uj{u:Option ce}(r:yN o u):o.isSome=u.isSome:=by
 cases o with
 | none=>cases u with
  | none=>rfl
  | some _=>exact(show False from r).elim
 | some _=>cases u with
  | none=>exact(show False from r).elim
  | some _=>rfl
def KV.val{kvs:O (κ×V)}{vs:O (κ×ce)}(r:KV kvs vs)(k:κ):yN (jQ kvs k) (valueAt vs k):=by
 unfold KV at r
 induction r with
 | nil=>exact CA
 | @cons p q ps qs h t ih=>
  obtain⟨h1,h2⟩:=h;by_cases e:p.1=k
  ·have e':q.1=k:=h1.symm.trans e;have b:valueAt (q::qs) k=ap q.2:=by simp[valueAt,Bt,e']
   rw[nj e,b];exact h2
  ·have e':¬q.1=k:=λz=>e (h1.trans z);have b:valueAt (q::qs) k=valueAt qs k:=by simp[valueAt,Bt,e']
   rw[nk e,b];exact ih
def KV.any{kvs:O (κ×V)}{vs:O (κ×ce)}(r:KV kvs vs)(k:κ):(kvs.any λkv=>decide (kv.1=k))=vs.any λkv=>decide (kv.1=k):=by
 induction r with
 | nil=>rfl
 | cons h t ih=>rw[BZ,BZ,ih,h.1]
def KV.aem{kvs:O (κ×V)}{vs:O (κ×ce)}(r:KV kvs vs)(k:κ)(ry:RelV y u) :
  KV (kvs.map λkv=>if kv.1=k then (kv.1,y) else kv) (vs.map λkv=>if kv.1=k then (kv.1,u) else kv):=by
 induction r with
 | nil=>exact .nil
 | @cons p q ps qs h t ih=>
  rw[Aq,Aq];refine .cons ?_ ih;obtain⟨h1,h2⟩:=h;by_cases e:p.1=k
  ·rw[if_pos e,if_pos (h1.symm.trans e)];exact⟨h1,ry⟩
  ·rw[if_neg e,if_neg (λz=>e (h1.trans z))];exact⟨h1,h2⟩
def KV.put{kvs:O (κ×V)}{vs:O (κ×ce)}(r:KV kvs vs)(k:κ)(ry:RelV y u):KV (putK kvs k y) (stored vs k u):=by
 unfold putK stored;rw[r.any k];by_cases e:(vs.any λkv=>decide (kv.1=k))=true
 ·rw[if_pos e,if_pos e];exact r.aem k ry
 ·rw[if_neg e,if_neg e];exact Paired.snoc r ⟨rfl,ry⟩
def KV.length{kvs:O (κ×V)}{vs:O (κ×ce)}(r:KV kvs vs):kvs.length=vs.length:=Paired.length r
end
def QU{k:Key}(r:RelV (kV k) u):(cD P w).is k u=true:=by
 cases k with
 | inl i=>obtain⟨t,e⟩:=(show ∃t,u=Ez i t from r);subst e;exact KY P w i t
 | inr x=>obtain⟨t,e⟩:=(show ∃t,u=Br x t from r);subst e;exact KW P w x t
theorem GO:∀{ks:O Key}{us:O ce},Vals (ks.map kV) us->ItemsAre (cD P w) ks us
 | [],_,r=>by rw[Cq]at r;cases r;exact .nil
 | k::ks,_,r=>by
  rw[Aq]at r;cases r with
  | cons h t=>exact .cons (QU h) (GO t)
abbrev KT(H:Hp):O (O Key×V)->O (O Key×ci×ce)->Prop:=Paired λp q=>p.1=q.1/\H q.2.1=ap (.tup (p.1.map kV))/\RelV p.2 q.2.2
def KT.val(r:KT H kvs xs)(k:O Key):yN (jQ kvs k) ((atKey xs k).map (·.2)):=by
 induction r with
 | nil=>exact CA
 | @cons p q ps qs h t ih=>
  obtain⟨h1,_,h2⟩:=h;by_cases e:p.1=k
  ·have e':q.1=k:=h1.symm.trans e;have b:atKey (q::qs) k=ap q.2:=by simp[atKey,Bt,e']
   rw[nj e,b];exact h2
  ·have e':¬q.1=k:=λz=>e (h1.trans z);have b:atKey (q::qs) k=atKey qs k:=by simp[atKey,Bt,e']
   rw[nk e,b];exact ih
def KT.aem(r:KT H kvs xs)(k:O Key)(ry:RelV y u) :
  KT H (kvs.map λkv=>if kv.1=k then (kv.1,y) else kv) (xs.map (putAt k u)):=by
 induction r with
 | nil=>exact .nil
 | @cons p q ps qs h t ih=>
  rw[Aq,Aq];refine .cons ?_ ih;obtain⟨h1,h2,h3⟩:=h;unfold putAt;by_cases e:p.1=k
  ·rw[if_pos e,if_pos (h1.symm.trans e)];exact⟨h1,h2,ry⟩
  ·rw[if_neg e,if_neg (λz=>e (h1.trans z))];exact⟨h1,h2,h3⟩
def KT.put(r:KT H kvs xs)(k:O Key)(hb:H b=ap (.tup (k.map kV)))(ry:RelV y u) :
  KT H (putK kvs k y) (FM xs k b u):=by
 have e:(kvs.any λkv=>decide (kv.1=k))=(atKey xs k).isSome:=by
  rw[rh,(r.val k).uj,F5]
 unfold putK FM;rw[e];by_cases q:(atKey xs k).isSome=true
 ·rw[if_pos q,if_pos q];exact r.aem k ry
 ·rw[if_neg q,if_neg q];exact Paired.snoc r ⟨rfl,hb,ry⟩
def KT.keeps(r:KT H kvs xs)(ht:∀b ys,H b=ap (.tup ys)->H' b=ap (.tup ys)):KT H' kvs xs:=
 Paired.ae5 r λ_ _ z=>⟨z.1,ht _ _ z.2.1,z.2.2⟩
section
def acA{u:HO}(ok:pJ P w H h)(e:Rd H a u):bA P w H h a u:=e.ok ok
def yq{kvs:O (Key×V)}(ok:pJ P w H h)(e:Rd H a (.dK kvs)):kvs.length<=sizeLine/\(a==sB)=false/\∃vs,KV kvs vs/\h.DictOf (cD P w) a vs:=
 show bA P w H h a (.dK kvs) from acA ok e
def aj3{kvs:O (Key×V)}(ok:pJ P w H h)(e:H a=ap (.dK kvs)):kvs.length<=sizeLine/\(a==sB)=false/\∃vs,KV kvs vs/\h.DictOf (cD P w) a vs:=yq ok (.inl e)
def xG{ks:O Key}(ok:pJ P w H h)(e:H a=ap (.tup (ks.map kV))):(r9 (cD P w)).is h ks a:=by
 obtain⟨_,aw,r,o,h1,h2,n,h3⟩:=(show bA P w H h a (.tup (ks.map kV)) from ok a _ e);exact⟨o,aw.toArray,n,h1,h2,h3,by simpa using GO r⟩
def yo(ok:pJ P w H h)(e:Rd H a (.dT kvs)):kvs.length<=sizeLine/\(a==sB)=false/\
  ∃xs,KT H kvs xs/\h.DictOfH (r9 (cD P w)) a xs:=by
 obtain⟨z,y,xs,r,o,es,ep,h1,h2,h3,h4,h5⟩:=(show bA P w H h a (.dT kvs) from acA ok e);refine⟨z,y,xs,r,o,es,ep,h1,h2,h3,h4,λx hx=>?_,h5⟩;have all:∀{l:O (O Key×V)}{m:O (O Key×ci×ce)},KT H l m->∀x∈m,(r9 (cD P w)).is h x.1 x.2.1:=by
  intro l m q
  induction q with
  | nil=>intro x hx;exact nomatch hx
  | @cons p q ps qs hq t ih=>
   intro x hx;rcases AA.mp hx with e | hx
   ·subst e;exact xG ok (by rw[<- hq.1];exact hq.2.1)
   ·exact ih x hx
 exact all r x hx
def aj2(ok:pJ P w H h)(e:H a=ap (.dT kvs)):kvs.length<=sizeLine/\(a==sB)=false/\
  ∃xs,KT H kvs xs/\h.DictOfH (r9 (cD P w)) a xs:=yo ok (.inl e)
end
def uM(H:Hp)(a:ci)(y:V)(r:Option V):Prop:=
 (∃kvs k,Rd H a (.dK kvs)/\y=kV k/\r=jQ kvs k)\/∃kvs k b,Rd H a (.dT kvs)/\y=.ref b/\H b=ap (.tup (k.map kV))/\r=jQ kvs k
def MC(H:Hp)(a:ci)(y v:V)(H':Hp):Prop:=
 (∃kvs k,H a=ap (.dK kvs)/\y=kV k/\kvs.length < sizeLine/\H'=upd H a (.dK (putK kvs k v)))\/
 ∃kvs k b,H a=ap (.dT kvs)/\y=.ref b/\H b=ap (.tup (k.map kV))/\kvs.length < sizeLine/\H'=upd H a (.dT (putK kvs k v))
theorem uM.k{kvs:O (Key×V)}{k:Key}(e:H a=ap (.dK kvs)):uM H a (kV k) (jQ kvs k):=.inl ⟨kvs,k,.inl e,rfl,rfl⟩
def uM.t{k:O Key}(e:H a=ap (.dT kvs))(eb:H b=ap (.tup (k.map kV))):uM H a (.ref b) (jQ kvs k):=.inr ⟨kvs,k,b,.inl e,rfl,eb,rfl⟩
theorem MC.k{kvs:O (Key×V)}{k:Key}(e:H a=ap (.dK kvs))(hl:kvs.length < sizeLine):MC H a (kV k) v (upd H a (.dK (putK kvs k v))):=.inl ⟨kvs,k,e,rfl,hl,rfl⟩
def MC.t{k:O Key}(e:H a=ap (.dT kvs))(eb:H b=ap (.tup (k.map kV)))(hl:kvs.length < sizeLine) :
  MC H a (.ref b) v (upd H a (.dT (putK kvs k v))):=.inr ⟨kvs,k,b,e,rfl,eb,hl,rfl⟩
section
variable{r:ce}
def Inv.big(I:Inv X Z σ H s):sB < s.heap.objs.size:=by
 have h:=(I.mod.glob.keeps I.bk).lt;exact Nat.lt_trans ⋯ h
def Ua(hu:A.units+1 < ss)(I:Inv X Z σ H s)(g:uM H a y (ap v))(ry:RelV y u)(h:∀w' s',Inv X Z σ H s'->RelV v w'->Q w' s') :
  db (ev X.prog X.w) A (Gc (.ref a) u) Q E s:=by
 rcases g with⟨kvs,k,e,ey,l⟩ | ⟨kvs,k,b,e,ey,eb,l⟩
 ·subst ey;obtain⟨z,hd,vs,Ð,dd⟩:=yq I.bN e;obtain⟨w',hw,HE⟩:=yN.some_of (v:=v) (o:=valueAt vs k) (by rw[l];exact Ð.val k);exact wpAny_getItem_of (QU ry) dd.mapOf hw (h w' _ (I.tok _) HE)
 ·subst ey;cases (show u=AB b from ry);obtain⟨z,hd,xs,Ð,dd⟩:=yo I.bN e;obtain⟨w',hw,HE⟩:=yN.some_of (v:=v) (o:=(atKey xs k).map (·.2)) (by rw[l];exact Ð.val k);obtain⟨p,hp,II⟩:=Option.map_eq_some_iff.mp hw;refine wpAny_getItem_heap (Fa hu) (xG I.bN eb) dd hp ?_;rw[II];exact h w' _ (I.tok _) HE
def aor(hu:A.units+1 < ss)(I:Inv X Z σ H s)(g:uM H a y o)(ry:RelV y u)(h:∀s',Inv X Z σ H s'->Q (.bool o.isSome) s') :
  db (ev X.prog X.w) A (nw .In u (.ref a)) Q E s:=by
 rcases g with⟨kvs,k,e,ey,l⟩ | ⟨kvs,k,b,e,ey,eb,l⟩
 ·subst ey;obtain⟨z,hd,vs,Ð,dd⟩:=yq I.bN e;refine wpAny_in_of (QU ry) hd dd.mapOf ?_;rw[<- (Ð.val k).uj,<- l];exact h _ (I.tok _)
 ·subst ey;cases (show u=AB b from ry);obtain⟨z,hd,xs,Ð,dd⟩:=yo I.bN e;refine wpAny_in_heap (Fa hu) (xG I.bN eb) hd dd ?_;have q:=(Ð.val k).uj;rw[F5]at q;rw[<- q,<- l];exact h _ (I.tok _)
def Rp{t':Nat}{ob:HO}(I:Inv X Z σ H s)(mu:Mut (H a))(hs:B1 a s.heap h')(he:∃q,h'.get? a=ap q)(new:bA X.prog X.w (upd H a ob) h' a ob) :
  Inv X Z σ (upd H a ob) {s with heap:=h',toks:=t'}:=
 I.write (x:=a) (e:=a) mu (.inl rfl) (λb q hb z=>(hs.2 b hb).trans z) he new
def af8{kvs:O (Key×V)}{vs:O (Key×ce)}(z:kvs.length<=sizeLine)(hd:(a==sB)=false)(Ð:KV kvs vs)(dd:h'.DictOf (cD P w) a vs) :
  bA P w H' h' a (.dK kvs):=⟨z,hd,vs,Ð,dd⟩
theorem T9{Q:Unit->cr->Prop}(hu:A.units+1 < ss)(I:Inv X Z σ H s)(g:MC H a y v H')(ry:RelV y u)(rv:RelV v r)(h:∀s',Inv X Z σ H' s'->Q () s') :
  db (ev X.prog X.w) A (setItem (.ref a) u r) Q E s:=by
 rcases g with⟨kvs,k,e,ey,l,eH⟩ | ⟨kvs,k,b,e,ey,eb,l,eH⟩
 ·subst ey eH;obtain⟨z,hd,vs,Ð,dd⟩:=aj3 I.bN e;have hz:vs.length<=sizeLine:=by rw[<- Ð.length];exact z
  have hl:(putK kvs k v).length<=sizeLine:=by have:=uV kvs k v;omega
  refine wpAny_setItem_pairs (hsz:=hz) (QU ry) dd λh' Ŋ hs=>h _ ?_;have he:∃q,h'.get? a=ap q:=let ⟨q,_,_,hq,_⟩:=Ŋ;⟨q,hq⟩;exact Rp I (by rw[e];exact CA) hs he (af8 hl hd (Ð.put k rv) Ŋ)
 ·subst ey eH;cases (show u=AB b from ry);obtain⟨z,hd,xs,Ð,dd⟩:=aj2 I.bN e;have hz:xs.length<=sizeLine:=by rw[<- Paired.length Ð];exact z
  have hl:(putK kvs k v).length<=sizeLine:=by have:=uV kvs k v;omega
  refine wpAny_setItem_heap (hsz:=hz) (Fa hu) (xG I.bN eb) dd λh' Ŋ hs=>h _ ?_;obtain⟨q,es,ep,hq,h2,h3,h4,_,h5⟩:=Ŋ;refine Rp I (by rw[e];exact CA) hs ⟨q,hq⟩ ⟨hl,hd,_,(Ð.put k eb rv).keeps λc ys ec=>?_,q,es,ep,hq,h2,h3,h4,h5⟩;rw[aD (QI ec e (λz=>nomatch z))];exact ec
end
def ach(i:lc):Prop:=∀ov iv,subscripted i false ov iv=operate [ov,iv] (Gc ov iv)
def Zv{Å:lc}{id:String}
  (hl:IR (.type T) "__getitem__"=pure (ap (.builtin id))) (hs:ach Å)
  (h:db (ev prog w) A (lw value env) (λo s₁=>db (ev prog w) A (lw Å env) (λi s₂=>s₂.TypeIs o T/\db (ev prog w) A (Gc o i) Q E s₂) E s₁) E s) :
  db (ev prog w) A (lw (.Subscript value Å pos) env) Q E s:=by
 refine Subscript_ (B9 h (λo s₁ h₁=>B9 h₁ (λi s₂ h₂=>?_) λ_ _ x=>x) λ_ _ x=>x);obtain⟨hT,h₂⟩:=h₂;refine Aa ?_;refine Aa (Fw hT hl ?_);have fin:db (ev prog w) A (subscripted Å false o i) (λr s₃=>db (ev prog w) A (letTemporaryGo value o r >>= λ_=>pure r) Q E s₃) E s₂:=by
  rw[hs o i];exact wpAny_operating (B9 h₂ (λr s₃ h₃=>Aa (wpAny_letTemporaryGo (Af h₃))) λ_ _ x=>x)
 first
  | exact Af (Aa fin)
  | exact Aa (Af (Aa fin))
  | exact Aa fin
def Mf(I:Inv X Z σ H s)(g:uM H a y o):s.TypeIs (.ref a) "dict":=by
 rcases g with⟨kvs,k,e,_,_⟩ | ⟨kvs,k,b,e,_,_,_⟩
 ·obtain⟨_,_,vs,_,dd⟩:=yq I.bN e;exact dd.typeIs
 ·obtain⟨_,_,xs,_,dd⟩:=yo I.bN e;exact dd.typeIs
def ahJ(td ty:TE):TE:=λσ H Q=>td σ H λx H1=>ty σ H1 λy H2=>∃a v,x=.ref a/\uM H2 a y (ap v)/\Q v H2
def amn(ty td:TE):TE:=λσ H Q=>ty σ H λy H1=>td σ H1 λx H2=>∃a o,x=.ref a/\uM H2 a y o/\Q (.bl o.isSome) H2
def ahX(td ty tv:TE):TS:=λD σ H=>tv σ H λv H1=>td σ H1 λx H2=>ty σ H2 λy H3=>∃a H4,x=.ref a/\MC H3 a y v H4/\D.nx σ H4
section
variable{o i:lc}{td ty tv:TE}
def Qy(hu:X.A.units+1 < ss)(ho:PE X o td)(hi:PE X i ty)(hs:ach i):PE X (.Subscript o i pos) (ahJ td ty):=by
 intro Z s σ H Q I h;refine Zv PySem.F.slot_dict_getitem.lookup hs (bS (ho Z s σ H _ I h) λu s1 ⟨x,H1,I1,rx,q1⟩=>bS (hi Z s1 σ H1 _ I1 q1) λiv s2 ⟨y,H2,I2,ry,a,v,ex,g,q2⟩=>?_);subst ex;obtain rfl:u=AB a:=rx;exact⟨Mf I2 g,Ua hu I2 g ry λw' s3 I3 HE=>⟨v,H2,I3,HE,q2⟩⟩
def aeL(hu:X.A.units+1 < ss)(hi:PE X i ty)(ho:PE X o td):PC X .In i o (amn ty td):=by
 intro Z s σ H Q I h;refine bS (hi Z s σ H _ I h) λiv s1 ⟨y,H1,I1,ry,q1⟩=>bS (ho Z s1 σ H1 _ I1 q1) λu s2 ⟨x,H2,I2,rx,a,ov,ex,g,q2⟩=>?_;subst ex;obtain rfl:u=AB a:=rx;exact aor hu I2 g ry λs3 I3=>⟨.bl ov.isSome,H2,I3,rfl,q2⟩
def Qt(hu:X.A.units+1 < ss)(ho:PE X o td)(hi:PE X i ty)(hv:PE X value tv)(hs:pc value (ap (.Subscript o i Ù)) pos.line X.env=pure false) :
  PS X (.Assign [.Subscript o i Ù] value pos) (ahX td ty tv):=by
 intro Z s σ H D I h;refine wpAny_Assign_Subscript (bS (hv Z s σ H _ I h) λr s1 ⟨v,H1,I1,rv,q1⟩=>bS (ho Z s1 σ H1 _ I1 q1) λu s2 ⟨x,H2,I2,rx,q2⟩=>bS (hi Z s2 σ H2 _ I2 q2) λiv s3 ⟨y,H3,I3,ry,a,H4,ex,g,q3⟩=>?_) hs;subst ex;obtain rfl:u=AB a:=rx;exact T9 hu I3 g ry rv λs4 I4=>⟨σ,H4,I4,q3⟩
end
def Yv(h:pr)(hb:sB < h.objs.size):bA P w H (h.push {cls:=.type "dict",data:=.dict #[]}) h.objs.size (.dK []):=
 ⟨A3 _,beq_eq_false_iff_ne.mpr (BW (AM hb)),[],.nil,Heap.DictOf.new h⟩
def Yt(h:pr)(hb:sB < h.objs.size):bA P w H (h.push {cls:=.type "dict",data:=.dict #[]}) h.objs.size (.dT []):=
 ⟨A3 _,beq_eq_false_iff_ne.mpr (BW (AM hb)),[],.nil,_,#[],0,Ar _ rfl,⟨rfl,rfl,rfl⟩,rfl,rfl,EL⟩
def ad1:TE:=λ_ H Q=>∀p,H p=bm->Q (.ref p) (upd H p (.dK []))
def ad0:TE:=λ_ H Q=>∀p,H p=bm->Q (.ref p) (upd H p (.dT []))
section
def Wq:PE X (.Dict [] [] pos) ad1:=λZ s σ H Q I h=>
 wpAny_Dict_empty ⟨.ref s.heap.objs.size,_,I.laid (a:=s.heap.objs.size) (o:=.dK []) (t':=s.toks) (λ_ _ q=>Ag _ q) (An _) (Yv s.heap I.big),rfl,h _ (I.bN.fresh (An _))⟩
def Wo:PE X (.Dict [] [] pos) ad0:=λZ s σ H Q I h=>
 wpAny_Dict_empty ⟨.ref s.heap.objs.size,_,I.laid (a:=s.heap.objs.size) (o:=.dT []) (t':=s.toks) (λ_ _ q=>Ag _ q) (An _) (Yt s.heap I.big),rfl,h _ (I.bN.fresh (An _))⟩
end
structure M2(X:Cx)(o:lc)(m:Str)(Á:Pos)(e f:lc)(bC:Pos):Prop where
 base:o0 o m X.env (lw o X.env)=lw o X.env
 few:((BT bC (im [e,f] X.env)).all (λx=>!x.1)&&(backToKw bC (keywordEach [] X.env)).all (λx=>x.1.isSome)
  && decide (([e,f]:List lc).length+([]:List Keyword).length+(if ([]:List Keyword).isEmpty then 0 else 1) < 30))=true
 line:(Á.endLine==bC.line)=true
 trees:BT bC (im [e,f] X.env)=[(false,lw e X.env),(false,lw f X.env)]
def IsD(H:Hp)(a:ci):Prop:=(∃kvs,Rd H a (.dK kvs))\/∃kvs,Rd H a (.dT kvs)
end L2
variable{Ô:O Cu}{XP:(Cu->Option Be)->F3->Prop}{YP:PySem.World->F3->Prop}{d:PySem.DefRec}
namespace Att
open PySem PySem.W PySem.Calls PyProof.Rows
def vE{P:Params}:∀(ns:O Int) (vs:O ce),WellAll P h vs (ns.map WData.int)->ww vs ns:=by
 intro ns
 induction ns with
 | nil=>
  intro vs w;cases w;exact .nil
 | cons n ns ih=>
  intro vs w;cases w with
  | cons a b=>
   cases a;exact .cons _ _ (ih _ b)
theorem R4{l:OpenLaw}(hn:l.most=ap n){P:Params}{args:O WData}{ï:O ce}
  (Ŏ:l.row.toRowW.claim.pre args=true) (Š:WellAll P h ï args) :
  ∃a vs ns,ï=[AB a]/\args=[WData.list (ns.map WData.int)]/\h.get? a=ap {cls:=.type "list",data:=.seq vs.toArray}/\ww vs ns/\ns.length<=n:=by
 have hsh:=(pre_splitW Ŏ).1;have hc:l.pre.holds [] {args:=args}=true:=(pre_splitW Ŏ).2;obtain⟨d,r,rfl,h1,h2⟩:=hasAllW_cons hsh;obtain rfl:=hasAllW_nil h2;obtain⟨xs,rfl,h3⟩:=hasW_list h1;obtain⟨ns,rfl⟩:=items_int h3;have Â:ns.length<=n:=by
  unfold OpenLaw.pre at hc;have h4:(WTm.not (.lt (.lit (.int (n:Int))) (.len (.arg 0)))).holds [] {args:=[.list (ns.map .int)]}=true:=by
   have h4:=(holds_andW hc).1;rw[hn]at h4;exact h4
  have h5:=condW_of h4 (w_not (w_lt w_lit (w_len_list (w_arg rfl))));refine Nat.le_of_not_lt λq=>?_
  first
   | (rw[decide_eq_true q']at h5;exact absurd h5 ⋯)
   | (simp at h5;omega)
 cases Š with
 | cons w1 w2=>
  cases w2;cases w1 with
  | list ho anV=>exact⟨_,_,ns,rfl,rfl,ho,vE ns _ anV,Â⟩
def Sf(l:OpenLaw)(args:O WData):l.row.toRowW.claim.post args (.bool true) args=true:=
 postW_of (r:=l.row.toRowW) (X:=(true==true))
  (show WShape.has [] (.bool true) .bool=true by first | rfl | decide | simp[WShape.has,WShape.arms,WShape.armsAll])
  (show(WTm.eq .res (.lit (.bool true))).value [] {args:=args,res:=ap (.bool true),after:=args}=ap (.bool (true==true)) from w_eq_bool (w_res rfl) w_lit) rfl
def Ml{l:OpenLaw}{q:wn}
  (hn:l.most=ap n) (Ī:d.params.defaults=[])
  (call:∀(w:wT) (s₀ s₁:cr) (mg mb:Str->Option ce) (fa:ci) (o:Obj) (pm cd È:ce) (a:ci) (vs:O ce) (ns:O Int),
   Ground q Ô [] XP w s₀ mg mb s₁.heap->YP w s₁.heap->
   s₁.heap.get? fa=ap o->o.data=.func (docDef d.name d.params d.body d.scope pm cd È)->s₁.heap.CodeRec cd d.name->mg d.name=ap (.ref fa)->
   s₁.heap.get? a=ap {cls:=.type "list",data:=.seq vs.toArray}->ww vs ns->ns.length<=n->s₁.gens=#[]->
   GE (ev l.prog w) callerA (.call (.ref fa) ⟨[.ref a],[]⟩) (λr s'=>r=.ok (.ret (.bool true))/\OldK s₁.heap s'.heap/\s'.os=s₁.os/\KF s'.gens) s₁) :
  WalkO q Ô XP YP l.row.toRowW d [] (λf vs=>Ge f vs):=by
 intro w s₀ s₁ mg mb G Y fa o pm cd È dV kV ho hd iG hD hmg hg args ï as Ŏ asf hrd Š hlo;obtain rfl:dV=.none:=Dflts.none hD Ī;obtain rfl:kV=.none:=Dflts.noKw hD;obtain⟨a,vs,ns,rfl,rfl,afC,Ø,Â⟩:=R4 hn Ŏ Š;refine enter_call (codeAny_mono (call w s₀ s₁ mg mb fa o pm cd È a vs ns G Y ho (fd_plain hd) iG hmg afC Ø Â hg) λr s' hq=>?_);obtain⟨rfl,h2,h3,h4⟩:=hq;exact⟨.inl ⟨.bool true,.bool true,[],rfl,λ_=>rfl,.bool true,Sf l _,λ_=>⟨List.Pairwise.nil,λ_ hm=>(nomatch hm)⟩⟩,h2,h3,h4⟩
end Att
variable{k:Nat}{sp:L2.Sp}
namespace L2
theorem tG:∀{vs:O ce}{ns:O Int},ww vs ns->Vals (ns.map V.int) vs
 | _,_,.nil=>.nil
 | _,_,.cons n t h=>.cons ⟨t,rfl⟩ (tG h)
def acg(H:Hp):Prop:=∀b,H b=bm\/∃o xs,H b=ap (.c6 o (.lst xs))
def W4{K:Ab}{mb:Str->Option ce}{CX:UW}{fa:ci}{s₁:cr}{vs:O ce}
  (KX:K.In s₁.heap) (MK:s₁.heap.Ns f8 mg) (hb:s₁.heap.Ns builtinsNs mb) (hbb:∀x:Str,x≠"__name__"->mb x=re x) (anD:s₁.heap.NoLimit) (hg:s₁.gens=#[])
  (ha:s₁.heap.get? a=ap {cls:=.type "list",data:=.seq vs.toArray}) (hi:ww vs ns) (hl:ns.length<=sizeLine) (hr:gj k callerA)
  (F:∀base:pr,K.In base->base.Ns f8 mg->iU P w K mg base CX k fa fd [x] sp) (ajv:∀(s:cr) (u:ce),BindsTo s fd ⟨[u],[]⟩ [(x,u)])
  (Þ:∀H:Hp,acg H->eN K H a (ns.map V.int)->sp [.ref a] H (λv _=>v=.bl true) λ_ _ _=>False)
  (Ŷ:∀H e s',CX [] H s₁ (λ_ _ _=>False) e s'->False) :
  GE (ev P w) callerA (.call (.ref fa) ⟨[.ref a],[]⟩) (λr s'=>r=.ok (.ret (.bool true))/\OldK s₁.heap s'.heap/\s'.os=s₁.os/\KF s'.gens) s₁:=by
 have rv:=tG hi;have amQ:=hi.length;have ä:∀H:Hp,acg H->eN K H a (ns.map V.int)->pJ P w H s₁.heap->(∀b,H b≠bm->b=a)->(H a≠bm->K.lookup a=bm)->
   GE (ev P w) callerA (.call (.ref fa) ⟨[.ref a],[]⟩) (λr s'=>r=.ok (.ret (.bool true))/\OldK s₁.heap s'.heap/\s'.os=s₁.os/\KF s'.gens) s₁:=by
  intro H hO hS bN hA hK;have RA:∀{b:ci}{o:Obj},s₁.heap.get? b=ap o->H b=bm->(IK s₁.heap H).get? b=ap o:=λe n=>XD e n;have ĝ:∀{b:ci}{o:Obj}{es:Array DictEntry}{ep:Nat},s₁.heap.get? b=ap o->o.data=.dict es ep->H b=bm:=λ{b o es ep} e d=>by
   cases q:H b with
   | none=>rfl
   | some u=>
    have e':b=a:=hA b (by rw[q];simp);subst e';rw[ha]at e;cases e;have d':FJ vs.toArray _=Data.dict es ep:=d;cases d'
  have Ĺ:∀{b:ci}{m:Str->Option ce},s₁.heap.Ns b m->(IK s₁.heap H).Ns b m:=λ{b m} ⟨o,es,ep,e,d,r⟩=>⟨o,es,ep,RA e (ĝ e d),d,r⟩;have hKb:K.In (IK s₁.heap H):=λb o e=>RA (KX b o e) (by
   cases q:H b with
   | none=>rfl
   | some u=>
    have e':b=a:=hA b (by rw[q];simp);subst e';rw[hK (by rw[q];simp)]at e;cases e)
  have hM:Mod K mg (IK s₁.heap H):=⟨hKb,Ĺ MK,⟨mb,Ĺ hb,hbb⟩,let ⟨mc,h1,h2⟩:=anD;⟨mc,Ĺ h1,h2⟩⟩;have e0:acm P w K mg (IK s₁.heap H) callerA [] s₁ H:=⟨rfl,hM,λb o e=>aat e,Nat.le_of_eq (Te _ _),trivial,λb hb=>absurd (show b∈([]:O ci) from hb) (by simp),bN,.of_eq hg⟩;refine codeAny_mono ((F _ hKb (Ĺ MK)).run callerA [] s₁ H ⟨[.ref a],[]⟩ [.ref a] [.ref a] _ _ hr e0 (ajv s₁ (.ref a)) (.cons rfl .nil) (Þ H hO hS)) λr s' h=>?_;cases r with
  | error e=>exact(Ŷ H e s' h).elim
  | ok fl=>
   cases fl with
   | next=>exact BE h
   | brk=>exact BE h
   | cont=>exact BE h
   | ret u=>
    obtain⟨v,H',os,bare,un,anB,r',q⟩:=h;have q':v=.bl true:=q;subst q';obtain rfl:u=Dj true:=r';refine⟨rfl,OldK.of_keep λb o e=>?_,os,bare⟩;cases q:H b with
    | none=>exact un.keep b o e q (by intro z;exact absurd (show b∈([]:O ci) from z) (by simp)) (by simp)
    | some u=>
     rcases hO b with z | ⟨ob,xs,z⟩
     ·rw[q]at z;cases z
     ·have z2:=un.xY b ob _ z;obtain⟨e1,_⟩:=bN b _ z;obtain⟨e2,_⟩:=anB b _ z2;rw[e]at e1;cases e1;exact e2
 cases hk:K.lookup a with
 | some o=>
  have e:=KX a o hk;rw[ha]at e;cases e;refine ä (λ_=>bm) (λ_=>.inl rfl) (.inr ⟨_,vs.toArray,_,hk,rfl,rfl,rfl,by rw[Ak,amQ];exact hl,by simpa using rv⟩) (λb u z=>by have z':(bm:Option HO)=ap u:=z;cases z') (λb z=>absurd rfl z) λz=>absurd rfl z
 | none=>
  refine ä (λb=>if b=a then ap (.c6 {cls:=.type "list",data:=.seq vs.toArray} (.lst (ns.map V.int))) else bm) (λb=>?_) (.inl (.inr ⟨{cls:=.type "list",data:=.seq vs.toArray},if_pos rfl⟩)) (λb u z=>?_) (λb z=>?_) λ_=>hk
  ·by_cases hb:b=a
   ·exact .inr ⟨_,_,if_pos hb⟩
   ·exact .inl (if_neg hb)
  ·by_cases hb:b=a
   ·have z':=(if_pos hb).symm.trans z;cases z';subst hb;exact⟨ha,by rw[Ae];exact hl,vs,_,rv,ha⟩
   ·have z':=(if_neg hb).symm.trans z;cases z'
  ·by_cases hb:b=a
   ·exact hb
   ·exact absurd (if_neg hb) z
def Zf{l:Fv}{q:wn}{K:Params->Ab}{CX:wT->UW}{sp:wT->Sp}
  (hn:l.most=ap n) (hn2:n<=sizeLine) (Ī:d.params.defaults=[]) (hr:gj k callerA)
  (hY:∀(w:wT) (h:pr),YP w h->(K w.params).In h)
  (F:∀(w:wT) (mg:Str->Option ce) (fa:ci) (h:pr),(K w.params).In h->h.Ns f8 mg->mg d.name=ap (.ref fa)->
   ∃fd:FB,(∀(s:cr) (u:ce),BindsTo s fd ⟨[u],[]⟩ [(x,u)])/\
    ∀base:pr,(K w.params).In base->base.Ns f8 mg->iU l.prog w (K w.params) mg base (CX w) k fa fd [x] (sp w))
  (Þ:∀(w:wT) (H:Hp) (a:ci) (ns:O Int),ns.length<=n->acg H->eN (K w.params) H a (ns.map V.int)->sp w [.ref a] H (λv _=>v=.bl true) λ_ _ _=>False)
  (Ŷ:∀(w:wT) (H:Hp) (s:cr) (e:ce) (s':cr),CX w [] H s (λ_ _ _=>False) e s'->False) :
  PySem.W.WalkO q Ô XP YP l.row.toRowW d [] (λf vs=>Ge f vs):=by
 refine Att.Ml hn Ī λw s₀ s₁ mg mb fa o pm cd È a vs ns G Y ho hd iG hmg afC Ø Â hg=>?_;have KX:=hY w _ Y;obtain⟨fd,hb,hF⟩:=F w mg fa _ KX G.T.g hmg;exact W4 KX G.T.g G.T.b G.T.builtins G.T.nolimit hg afC Ø (AW Â hn2) hr hF hb (λH hO hS=>Þ w H a ns Â hO hS) λH e s'=>Ŷ w H s₁ e s'
end L2
variable{B:Prop}
namespace L2
def gQ(s:u8):Arguments:=match s with
 | .FunctionDef _ a _ _ _ _ _ _ _ _=>a
 | _=>{posonlyargs:=[],args:=[],vararg:=bm,kwonlyargs:=[],kw_defaults:=[],kwarg:=bm,defaults:=[]}
def dP(s:u8):O u8:=match s with
 | .FunctionDef _ _ b _ _ _ _ _ _ _=>b
 | _=>[]
def aP(s:u8):nn:=match s with
 | .FunctionDef _ _ _ _ _ _ sc _ _ _=>sc
 | _=>{kind:=.function,names:=[],isGenerator:=false,isCoroutine:=false}
abbrev yQ:UW:=λ_ _ _ _ _ _=>False
abbrev E0:XK:=λ_ _ _=>False
def acI:Passes yQ X E0:=λ_ _ _ _ _ _ _ h=>h.elim
structure Y7(K:Ab)(x qual:Str)(st:u8)(f:ci)(fd:FB):Prop where
 ex:∃(oc:ce) (od:Option ci) (kV È pm:ce) (an:Option ci) (gU ct:ce) (Y1:Array (Option ce)),
  fd=Cp x qual (gQ st) (dP st) (aP st) .none kV È pm an gU ct/\K.lookup f=ap ⟨oc,od,.func fd,Y1⟩/\EA K gU qual=true
 kp:Di K (.ref f)=true
section
variable{K:Ab}
def Y7.ok{st:u8}{f:ci}{N:O Str}(F:Y7 K x qual st f fd)(S:eK N ps (aP st))(len:∀vs H Q E,sp vs H Q E->vs.length=ps.length)
  (XG:∀(gU:ce) (A:Da) (outer:O Env) (s:cr) (H:Hp) (vs:O V) (Q:VK) (E:XK),gj k (A.deeper (Fk qual (aP st) s.heap.objs.size f gU))->sp vs H Q E->
   ∃t,wG (zQ yQ P w K mg base N qual (aP st) f gU A outer s H E).nox (dP st) t/\t {nx:=λ_ H'=>Q .aL H',rt:=Q} (start N vs) H):iU P w K mg base yQ (k+1) f fd ps sp:=by
 obtain⟨oc,od,kV,È,pm,an,gU,ct,Y1,rfl,lk,iG⟩:=F.ex;refine ajK lk iG S len λA outer s H vs Q E hr Þ=>?_;obtain⟨t,h,q⟩:=XG gU A outer s H vs Q E hr Þ;exact⟨t,h.nox,q⟩
def Y7.binds{st:u8}{f:ci}(F:Y7 K x qual st f fd)
  (h:∀(kV È pm:ce) (an:Option ci) (gU ct:ce) (us:O ce),us.length=ps.length->bindArgs (Cp x qual (gQ st) (dP st) (aP st) .none kV È pm an gU ct) ⟨us,[]⟩=pure (ps.zip us)):Binds K fd ps []:=by
 obtain⟨oc,od,kV,È,pm,an,gU,ct,Y1,rfl,lk,iG⟩:=F.ex;exact .all (h kV È pm an gU ct)
def afO{st:u8}{f:ci}{kV:ce}(l:K.lookup f=ap ⟨oc,od,.func (Cp x qual (gQ st) (dP st) (aP st) .none kV È pm an gU ct),Y1⟩)
  (c:EA K gU qual=true) (k:Di K (.ref f)=true):Y7 K x qual st f (Cp x qual (gQ st) (dP st) (aP st) .none kV È pm an gU ct):=⟨⟨oc,od,kV,È,pm,an,gU,ct,Y1,rfl,l,c⟩,k⟩
end
def Gq(h:n<=1000):n < sizeLine:=Nat.lt_of_le_of_lt h ⋯
def zE{A:Prop}(h:B):if false=true then A else B:=by
 exact h
def zD{A:Prop}(h:A):if true=true then A else B:=by
 exact h
def mP(H H':Hp):Prop:=∀b o,H b=ap o->H' b=ap o
def mP.refl(H:Hp):mP H H:=λ_ _ h=>h
end L2
variable{a b:Nat}{H2:L2.Hp}{R:PySem.Result->DH->Prop}{Xs:PySem.Scope}{N':O Cu}{ix:O (Option Nat)}{Æ:B8}{Ì:O B8}{y9:Cz}
namespace L2
def lsz{o:Obj}(e:h.get? b=ap o):b < h.objs.size:=Aw e
def neN(h:a≠b):a≠b:=h
def ltN(h:a < b):a < b:=h
def adq{c:Nat}{v:Option ce}(q:h.IsCell c v):c < h.objs.size:=q.lt
structure cF(Xs:nn)(N:List Str)(sc:nn)(N':List Str)(ix:List (Option Nat)):Prop where
 kind:sc.kind=.function
 nc:∀y∈sc.names,y.2≠.cell
 loc:∀y∈sc.names,y.2=.local->sc.names.lookup y.1=ap .local
 fr:∀y∈sc.names,y.2=.free->(Xs.names.lookup y.1=ap .cell\/Xs.names.lookup y.1=ap .free)
 nd:N'.Nodup
 len:ix.length=N'.length
 map:((ix.zip N').all λp=>match p.1 with | none=>true | some j=>decide (N[j]?=ap p.2)&&decide (sc.names.lookup p.2=ap .free))=true
def cF.at{N:O Str}(S:cF Xs N sc N' ix){i:Nat}(h1:ix[i]?=ap (ap j))(h2:N'[i]?=ap x) :
  N[j]?=ap x/\sc.names.lookup x=ap .free:=by
 have hm:((ap j,x):Option Nat×Str)∈ix.zip N':=by
  refine Bi (i:=i) ?_;rw[List.getElem?_zip_eq_some];exact⟨h1,h2⟩
 have q:=Bn.mp S.map _ hm;simp only[A1,decide_eq_true_eq]at q;exact q
def sX(ix:O (Option Nat))(σ:St):St:=ix.map λo=>match o with | some j=>(σ[j]?).getD bm | none=>bm
def kl(X:Cx)(sc:nn)(N':O Str)(cl:O (Str×ci))(C:ci)(s2:cr)(H2:Hp)(fp:O ci):Cx where
 prog:=X.prog
 w:=X.w
 K:=X.K
 mg:=X.mg
 base:=X.base
 A:=X.A
 N:=N'
 s₀:=s2
 H₀:=H2
 env:=compEnvC sc cl C X.env
 outer:=X.stack
 stack:=X.stack
 ex:=fp
 calm:=X.calm
 fn:=λ_=>false
 pn:=[]
 xe:=λ_ _=>False
theorem qR:∀(names:O (Str×Db)) (cs:O (Str×ci)),(∀y∈names,y.2=.free->∃c,env.cells.lookup y.1=ap c)->
  ∃cl,(forIn names cs λ(x:Str×Db) (c:O (Str×ci))=>(match x with | (name,kind)=>do
    let c <- if (kind==Bo)=true then do let a <- cellOf env name;pure ((name,a)::c) else pure c
    pure (CH c):Sem (ForInStep (O (Str×ci)))))=pure cl/\(∀x c,cl.lookup x=ap c->cs.lookup x=ap c\/(env.cells.lookup x=ap c/\(x,Bo)∈names))/\(∀x,((x,Bo)∈names\/(∃c,cs.lookup x=ap c))->∃c,cl.lookup x=ap c)
 | [],cs,_=>⟨cs,rfl,λ_ _ h=>.inl h,λx h=>h.elim (λz=>nomatch z) λz=>z⟩
 | (n,k)::r,cs,h=>by
  by_cases hk:k=.free
  ·subst hk;obtain⟨c,hc⟩:=h (n,.free) BL rfl;obtain⟨cl,e,h1,h2⟩:=qR r ((n,c)::cs) λy hy=>h y (A6 _ hy);refine⟨cl,?_,λx d hd=>?_,λx hx=>?_⟩
   ·rw[Cg,<- e];simp only[beq_self_eq_true,if_true,cellOf,hc,pure_bind]
   ·rcases h1 x d hd with z | ⟨z1,z2⟩
    ·rw[Bu]at z;by_cases hx:(x==n)=true
     ·rw[hx]at z;have yS:x=n:=eq_of_beq hx;subst yS;cases z;exact .inr ⟨hc,BL⟩
     ·have yS:(x==n)=false:=by simpa using hx
      rw[yS]at z;exact .inl z
    ·exact .inr ⟨z1,A6 _ z2⟩
   ·refine h2 x ?_;rcases hx with hx | ⟨d,hd⟩
    ·rcases AA.mp hx with z | z
     ·injection z with z1 _;subst z1;exact .inr ⟨c,by rw[Bu];simp⟩
     ·exact .inl z
    ·by_cases hx:(x==n)=true
     ·exact .inr ⟨c,by rw[Bu,hx]⟩
     ·have yS:(x==n)=false:=by simpa using hx
      exact .inr ⟨d,by rw[Bu,yS];exact hd⟩
  ·obtain⟨cl,e,h1,h2⟩:=qR r cs λy hy=>h y (A6 _ hy);refine⟨cl,?_,λx d hd=>?_,λx hx=>?_⟩
   ·have hb:(k==Bo)=false:=by simpa using hk
    rw[Cg,<- e];simp only[hb,Ao,if_false,pure_bind]
   ·rcases h1 x d hd with z | ⟨z1,z2⟩
    ·exact .inl z
    ·exact .inr ⟨z1,A6 _ z2⟩
   ·refine h2 x ?_;rcases hx with hx | hx
    ·rcases AA.mp hx with z | z
     ·injection z with _ z2;exact absurd z2.symm hk
     ·exact .inl z
    ·exact .inr hx
def qf(h:∀y∈sc.names,y.2=.free->∃c,env.cells.lookup y.1=ap c) :
  ∃cl,closureFor sc env=pure cl/\(∀x c,cl.lookup x=ap c->env.cells.lookup x=ap c/\(x,Bo)∈sc.names)/\(∀x,(x,Bo)∈sc.names->∃c,cl.lookup x=ap c):=by
 obtain⟨cl,e,h1,h2⟩:=qR (env:=env) sc.names [] h;refine⟨cl,?_,λx c hc=>(h1 x c hc).resolve_left (λz=>nomatch z),λx hx=>h2 x (.inl hx)⟩;unfold closureFor;have e':(forIn sc.names ([]:O (Str×ci)) λx r=>(match x with | (name,kind)=>if (kind==Bo)=true then do let a <- cellOf env name;pure (CH ((name,a)::r)) else pure (CH r):Sem (ForInStep (O (Str×ci)))))=pure cl:=by
  rw[<- e]
  first
   | rfl
   | (
     congr 1;funext x r;obtain⟨n,k⟩:=x;by_cases hk:(k==Bo)=true
     ·simp only[hk,if_true,pure_bind]
     ·simp only[hk,if_false,pure_bind,Ao])
   | simp only[pure_bind]
 simpa using e'
theorem jv{env:Env}:∀{names:O (Str×Db)}{x:Str},
  (names.map λ(n,k)=>if (k==Bo&&env.scope.kind==.function&&env.kindOf n==ap .cell) then (n,FY) else (n,k)).lookup x =
   (names.lookup x).map λk=>if (k==Bo&&env.scope.kind==.function&&env.kindOf x==ap .cell) then FY else k
 | [],_=>rfl
 | (n,k)::r,x=>by
  have ih:=@jv env r x;show List.lookup x ((if (k==Bo&&env.scope.kind==.function&&env.kindOf n==ap .cell)=true then (n,FY) else (n,k))::_)=_;cases hx:x==n with
  | true=>
   have e:=eq_of_beq hx;subst e;by_cases hc:(k==Bo&&env.scope.kind==.function&&env.kindOf x==ap .cell)=true
   ·rw[if_pos hc,Bu,Bu,hx];simp only[CG,hc,if_true]
   ·rw[if_neg hc,Bu,Bu,hx];simp only[CG,hc,if_false];simp
  | false=>
   by_cases hc:(k==Bo&&env.scope.kind==.function&&env.kindOf n==ap .cell)=true
   ·rw[if_pos hc,Bu,Bu,hx];exact ih
   ·rw[if_neg hc,Bu,Bu,hx];exact ih
def PFs(X:Cx)(Ì:O lc)(t:TT):Prop:=
 ∀(Z:O (ci×Obj)) (s:cr) (σ:St) (H:Hp) (Q:Bool->Hp->Prop),Inv X Z σ H s->t σ H Q->
  db (ev X.prog X.w) X.A (forIn Ì true λc r=>if r=true then do let ok <- isTrue c X.env (lw c X.env);pure (CH ok) else pure (CH r)) (TP X Z σ Q) X.xe s
def amr:TT:=λ_ H Q=>Q true H
def Z7:PFs X [] amr:=λZ s σ H Q I h=>by
 exact Af ⟨H,I,h⟩
def Z6{c:lc}{t:TT}(hc:PT X c t):PFs X [c] t:=λZ s σ H Q I h=>by
 rw[Cg];simp only[if_true,bind_assoc,pure_bind];refine Aa (bS (hc Z s σ H Q I h) λb s1 q=>?_);exact Af q
def tLc(ix:O (Option Nat))(wi:TI)(g:TG)(tf:TT)(te:TE):TE:=λσ H Q=>wi σ H λJ H1=>∀D,H1 D=bm->∃W:Nat->Nat->St->O V->Hp->Prop,
 (∃m,W 0 m (sX ix σ) [] (upd H1 D (.lst [])))/\∀i m σ' ys H,W i m σ' ys H->H D=ap (.lst ys)/\
  ((J.stop i H/\Q (.ref D) H)\/(J.go i H/\∀x H',J.yld i H x H'->g x σ' H' λσ2 H2=>tf σ2 H2 λb H3=>
   if b=true then te σ2 H3 λy H4=>H4 D=ap (.lst ys)/\ys.length+1<=sizeLine/\∃m',m' < m/\W (i+1) m' σ2 (ys++[y]) (upd H4 D (.lst (ys++[y]))) else ∃m',m' < m/\W (i+1) m' σ2 ys H3))
def pO{Ê:lc}{it Ã:ce}(I:Nat->cr->Prop)
  (turn:∀n s,I n s->db (ev prog w) A (KB it) (λr s₁=>match r with
   | none=>R (.ok .next) s₁
   | some v=>db (ev prog w) A (KM Ê it v) (λ_ acw=>db (ev prog w) A (Ix Ê env v) (λ_ s₂=>
     db (ev prog w) A (forIn Ì true λc r=>if r=true then do let ok <- isTrue c env (lw c env);pure (CH ok) else pure (CH r)) (λok s₃=>
      if ok=true then db (ev prog w) A (lw Æ env) (λx s₄=>
       db (ev prog w) A (call (.builtin "list.append") [Ã,x]) (λ_ s₅=>∃m,m < n/\I m s₅) (λ_ _=>False) s₄) (λ_ _=>False) s₃
      else ∃m,m < n/\I m s₃) (λ_ _=>False) s₂) (λ_ _=>False) acw) (λ_ _=>False) s₁) (λ_ _=>False) s)
  (n:Nat) (h:I n s) :
  GE (ev prog w) A (.compLoop (.ListComp Æ [⟨Ê,iter,Ì,0⟩] scope pos) 0 it Ã env) R s:=by
 refine codeAny_loop rfl I (λn s hI=>?_) n h;refine wpAny_noted ?_;rw[compTurn_list];refine Aa (E4 (Aa (B9 (turn n s hI) (λr s₁ h₁=>?_) λ_ _ h'=>h'.elim)));cases r with
 | none=>exact Af h₁
 | some v=>
  refine Aa (B9 h₁ (λ_ acw ai9=>?_) λ_ _ h'=>h'.elim);refine Aa (B9 ai9 (λ_ s₂ h₂=>Aa (B9 h₂ (λok s₃ h₃=>?_) λ_ _ h'=>h'.elim)) λ_ _ h'=>h'.elim);cases ok with
  | false=>exact Af ⟨rfl,h₃⟩
  | true=>
   have ai8:db (ev prog w) A (lw Æ env) (λx s₄=>
       db (ev prog w) A (call (.builtin "list.append") [Ã,x]) (λ_ s₅=>∃m,m < n/\I m s₅) (λ_ _=>False) s₄) (λ_ _=>False) s₃:=h₃
   exact Aa (Aa (B9 ai8 (λx s₄ h₄=>Aa (B9 h₄ (λ_ s₅ h₅=>Af (Af ⟨rfl,h₅⟩)) λ_ _ h'=>h'.elim)) λ_ _ h'=>h'.elim))
section
variable{g:TG}{tf:TT}
structure akm(X:Cx)(Z:List (ci×Obj))(H:Hp)(C:ci):Prop where
 hn:H C=bm
 hL:C≠X.env.locals
 ab:X.s₀.heap.objs.size<=C
 cl:∀x c,X.env.cells.lookup x=ap c->c≠C
 pn:∀p∈X.pn++Z,p.1≠C
theorem QR(hc:X.calm=true)(S:cF X.env.scope X.N sc N' ix)
  (hg:∀cl C s2 H2 fp,PG (kl X sc N' cl C s2 H2 fp) tg g) (hf:∀cl C s2 H2 fp,PFs (kl X sc N' cl C s2 H2 fp) Ì tf) (he:∀cl C s2 H2 fp,PE (kl X sc N' cl C s2 H2 fp) Æ te) {s2:cr}{cl:O (Str×ci)} (xS:∀x c,cl.lookup x=ap c->X.env.cells.lookup x=ap c/\(x,Bo)∈sc.names) (Tg:∀x,(x,Bo)∈sc.names->∃c,cl.lookup x=ap c) {tn:Nat->pr->Prop}{J:It}{Q:VK} (I2:Inv X Z σ H2 s2) (T:Turn X.prog X.w X.K tg J fp it tn) (RV:tn 0 s2.heap) (f2:∀b∈fp,z0 X Z H2 b)
  (hW:∀D,H2 D=bm->∃W:Nat->Nat->St->O V->Hp->Prop,
   (∃m,W 0 m (sX ix σ) [] (upd H2 D (.lst [])))/\∀i m σ' ys H,W i m σ' ys H->H D=ap (.lst ys)/\
    ((J.stop i H/\Q (.ref D) H)\/(J.go i H/\∀x H',J.yld i H x H'->g x σ' H' λσ2 H2=>tf σ2 H2 λb H3=>
     if b=true then te σ2 H3 λy H4=>H4 D=ap (.lst ys)/\ys.length+1<=sizeLine/\∃m',m' < m/\W (i+1) m' σ2 (ys++[y]) (upd H4 D (.lst (ys++[y]))) else ∃m',m' < m/\W (i+1) m' σ2 ys H3)))
  {RR:ce->ci->Result->cr->Prop}{E:ce->cr->Prop}
  (hRR:∀D C m s' H',Inv X Z σ H' s'->Q (.ref D) H'->s'.heap.Ns C m->akm X Z H' C->RR (.ref D) C (.ok .next) s') :
  db (ev X.prog X.w) X.A (newList []) (λÃ s₃=>db (ev X.prog X.w) X.A (newFunctionEnv sc X.env.globals cl [] X.env.qual bm .none (ap X.env)) (λaj8 s₄=>
   GE (ev X.prog X.w) X.A (.compStart (.ListComp Æ [⟨tg,iter,Ì,0⟩] sc pos) 0 (.ref it) Ã {aj8 with scope:=relabel sc X.env}) (RR Ã aj8.locals) s₄) E s₃) E s2:=by
 refine AO (wpAny_newFunctionEnv S.nc (by intro y hy;simp at hy) (λh₁ Ou IH=>?_) S.kind);generalize hH2:s2.heap.push {cls:=.type "list",dict:=bm,data:=.seq ([]:O ce).toArray}=G2 at Ou IH ⊢;have hC:G2.objs.size=s2.heap.objs.size+1:=by rw[<- hH2,CT]
 obtain⟨D,hD⟩:∃D:Nat,s2.heap.objs.size=D:=⟨_,rfl⟩;obtain⟨C,hCC⟩:∃C:Nat,G2.objs.size=C:=⟨_,rfl⟩;simp only[hD,hCC]at Ou IH hC ⊢;have hDC:D≠C:=by omega
 have Ë:∀b o,s2.heap.get? b=ap o->h₁.get? b=ap o:=λb o e=>by
  have hb:=lsz e;exact IH.extBut b o (neN ∅) (Ag _ (hH2▸Ag _ e))
 have ajx:h₁.get? D=ap {cls:=.type "list",data:=.seq ([]:O ce).toArray}:=by
  refine IH.extBut D _ hDC (Ag _ ?_);rw[<- hH2,<- hD];exact Ar _ rfl
 have hD2:H2 D=bm:=I2.bN.fresh ∅;have hC2:H2 C=bm:=I2.bN.fresh ∅;obtain⟨W,⟨m0,w0⟩,turn⟩:=hW D hD2;have adp:∀x c,cl.lookup x=ap c->∃v,s2.heap.IsCell c v:=λx c e=>I2.cell x c (xS x c e).1;have aot:∀x c,cl.lookup x=ap c->c < D:=λx c e=>by
  obtain⟨v,q⟩:=adp x c e;have:=adq q;exact ltN ∅
 have ź:∀b∈fp,b < D:=λb hb=>by
  obtain⟨o,e,_⟩:=T.obj 0 _ RV b hb;have:=lsz e;exact ltN ∅
 have Yok:(kl X sc N' cl C s2 H2 fp).Ok:=by
  refine⟨I2.ok.mod,S.kind,I2.ok.glob,I2.ok.blt,?_,?_,?_,?_,I2.ok.hd,I2.ok.frames,.inl rfl,?_,I2.bs,?_,?_,?_,I2.stack,I2.Qd⟩
  ·show s2.heap.objs.size<=C;omega
  ·intro x y c e1 e2;exact I2.ok.inj x y c (xS x c e1).1 (xS y c e2).1
  ·intro x hx;have yS:(relabel sc X.env).names.lookup x=ap .cell\/(relabel sc X.env).names.lookup x=ap .free:=hx;unfold relabel at yS;rw[jv]at yS;cases q:sc.names.lookup x with
   | none=>rw[q]at yS;simp at yS
   | some k=>
    have hm:=Cd q;by_cases hk:k=.free
    ·subst hk;exact Tg x hm
    ·have ü:k≠.cell:=S.nc _ hm;rw[q]at yS;have hb:(k==Bo)=false:=by simpa using hk
     simp only[CG,hb,FQ,Ao,if_false]at yS;rcases yS with z | z
     ·exact absurd (Option.some.inj z) ü
     ·exact absurd (Option.some.inj z) hk
  ·intro x c ĩ;exact absurd ĩ AY
  ·intro b hb;refine⟨?_,λx c e z=>(f2 b hb).2.2.2.2.1 x c (xS x c e).1 z⟩;show b≠C;have:=ltN (ź b hb);exact neN ∅
  ·exact AW I2.ok.bsz I2.sz
  ·intro b o e hb;rcases (f2 b hb).2.2.2.1 with z | z
   ·exact I2.ok.WM b o e z
   ·have h1:=lsz (h:=X.base) e;have h2:=I2.ok.bsz;omega
  ·intro b hb z;rcases AA.mp (I2.Nc b z) with q | q
   ·exact(f2 b hb).2.1 q
   ·exact(f2 b hb).2.2.1 q
 have un0:Un (US X.stack) fp H2 (upd H2 D (.lst [])) s2.heap h₁:=Un.laid Ë ∅ hD2;have anA:pJ X.prog X.w (upd H2 D (.lst [])) h₁:=I2.bN.laid Ë ∅ ⟨A3 _,[],0,.nil,ajx⟩;have IY:∀tk,Inv (kl X sc N' cl C s2 H2 fp) [] (sX ix σ) (upd H2 D (.lst [])) {s2 with heap:=h₁,toks:=tk}:=λtk=>by
  refine⟨Yok,rfl,I2.bare,un0,⟨_,Ou,λi x v e1 e2 e3=>?_⟩,λx c e=>?_,?_,λx c e=>?_,λp hp=>absurd (show p∈([]:O (ci×Obj)) from hp) (by simp),anA,?_⟩
  ·have tE:N'[i]?=ap x:=e1;unfold sX at e2;rw[Aj]at e2;cases q:ix[i]? with
   | none=>rw[q]at e2;cases e2
   | some o=>
    cases o with
    | none=>rw[q]at e2;cases e2
    | some j=>
     rw[q]at e2;have ŉ:(σ[j]?).getD bm=ap v:=Option.some.inj e2;have e4:σ[j]?=ap (ap v):=by
      cases z:σ[j]? with
      | none=>rw[z]at ŉ;cases ŉ
      | some y=>rw[z]at ŉ;exact congrArg ap ŉ
     obtain⟨a1,a2⟩:=S.at q tE;have ajk:=Cd a2;have hk:=S.fr _ ajk rfl;obtain⟨m,_,hl⟩:=I2.loc;obtain⟨u,r,l⟩:=hl j x v a1 e4 (.inr hk);refine⟨u,r,.inr ⟨?_,?_⟩⟩
     ·show(relabel sc X.env).names.lookup x=ap .cell\/(relabel sc X.env).names.lookup x=ap .free;unfold relabel;rw[jv,a2];by_cases hb:(X.env.scope.kind==.function&&X.env.kindOf x==ap .cell)=true
      ·left
       simp only[CG,beq_self_eq_true,D8,hb,if_true]
      ·right
       simp only[CG,beq_self_eq_true,D8,hb,if_false,Ao]
     ·obtain⟨c,hcx⟩:=Tg x ajk;have hcX:=(xS x c hcx).1;refine⟨c,hcx,?_⟩;rcases l with⟨k,_⟩ | ⟨k,c',e',z⟩
      ·have k':X.env.scope.names.lookup x=ap .local:=k;rcases hk with y | y <;> rw[k']at y <;> cases y
      ·rw[hcX]at e';cases e';obtain⟨o,ho,hd⟩:=z;exact⟨o,Ë _ _ ho,hd⟩
  ·obtain⟨v,o,ho,hd⟩:=adp x c e;exact⟨v,o,Ë _ _ ho,hd⟩
  ·show upd H2 D (.lst []) C=bm;rw[aD (BW hDC)];exact hC2
  ·have fC:=ltN (aot x c e);show upd H2 D (.lst []) c=bm;rw[aD (neN ∅)];exact I2.mY x c (xS x c e).1
  ·unfold sX;rw[Ae];exact S.len
 have Ź:∀{Kz:O (ci×Obj)}{H':Hp},(∀b∈fp,H' b=bm)->(∀p∈Kz,p.1∉fp)->∀b∈fp,z0 (kl X sc N' cl C s2 H2 fp) Kz H' b:=λhn hp b hb=>by
  refine⟨hn b hb,?_,?_,.inl hb,λx c e z=>(f2 b hb).2.2.2.2.1 x c (xS x c e).1 z,λp ŧ z=>?_⟩
  ·show b≠C;have:=ltN (ź b hb);exact neN ∅
  ·exact Yok.X5 b hb
  ·have anu:p∈([]:O (ci×Obj))++_:=ŧ;exact hp p anu (z▸hb)
 have ğ:∀s₃:cr,s₃={s2 with heap:=h₁,toks:=s2.toks+([]:O (Str×ce)).length}->
   GE (ev X.prog X.w) X.A (.compLoop (.ListComp Æ [⟨tg,iter,Ì,0⟩] sc pos) 0 (.ref it) (.ref D) (compEnvC sc cl C X.env)) (RR (.ref D) C) s₃:=by
  rintro s₃ rfl;refine pO (λn s'=>∃i σ' ys H',Inv (kl X sc N' cl C s2 H2 fp) [] σ' H' s'/\tn i s'.heap/\(∀b∈fp,H' b=bm)/\W i n σ' ys H') ?_ m0
   ⟨0,_,[],_,IY _,T.keep _ _ _ RV (λb _ o e=>Ë b o e),λb hb=>by rw[aD (AM (ź b hb))];exact(f2 b hb).1,w0⟩
  rintro n s3 ⟨i,σ3,ys,H3,I3,Ė,į,w3⟩;obtain⟨hDl,w3⟩:=turn i n σ3 ys H3 w3;rcases w3 with⟨stop,qn⟩ | ⟨go,step⟩
  ·refine bS (T.done (kl X sc N' cl C s2 H2 fp) rfl rfl rfl hc i [] s3 σ3 H3 _ I3 (Ź į (by simp)) Ė stop) λr s4 ⟨hr,I4⟩=>?_;subst hr;obtain⟨m,hn,_⟩:=I4.loc;refine hRR D C m s4 H3 (I2.aj9 (ch:=fp) I4.os I4.base I4.bN I4.bare λb hb=>?_) qn hn ?_
   ·obtain⟨a0,a1,a2,a3,a4,a5⟩:=f2 b hb;exact⟨a3,a1,a4,a5⟩
   ·refine⟨I4.free,?_,?_,λx c e z=>?_,λp hp z=>?_⟩
    ·have:=ltN I2.lt;exact neN ∅
    ·have:=I2.sz;omega
    ·obtain⟨v,q⟩:=I2.cell x c e;have:=adq q;exact neN (a:=c) (b:=C) ∅ z
    ·have:=lsz (I2.pin p hp).1;exact neN (a:=p.1) (b:=C) ∅ z
  ·refine bS (T.item (kl X sc N' cl C s2 H2 fp) rfl rfl rfl hc i [] s3 σ3 H3 (λ_ _=>False) I3 (Ź į (by simp)) Ė go) λr s4 ⟨u,hr,h4⟩=>?_;subst hr;refine bS h4 λ_ s5 ⟨x,H5,I5,r5,y5,ò,Ÿ⟩=>?_;have I5':=I5.pinned (Ź Ÿ (by simp)) (T.obj _ _ ò);refine bS (hg _ _ _ _ _ _ s5 σ3 H5 x u _ I5' r5 (step x H5 y5)) λ_ s6 ⟨σ6,H6,I6,q6⟩=>?_;refine bS (hf _ _ _ _ _ _ s6 σ6 H6 _ I6 q6) λb s7 ⟨H7,I7,q7⟩=>?_;have Xb:∀{s8:cr}{σ8:St}{H8:Hp},Inv (kl X sc N' cl C s2 H2 fp) ([]++tQ fp s5.heap) σ8 H8 s8->tn (i+1) s8.heap/\∀b∈fp,H8 b=bm:=λ{s8 σ8 H8} I8=>by
    refine⟨T.keep _ _ _ ò λb hb o e=>(I8.pin (b,o) (AI _ (AI _ (lR hb e)))).1,λb hb=>?_⟩;obtain⟨o,e,d⟩:=T.obj _ _ ò b hb;exact(I8.pin (b,o) (AI _ (AI _ (lR hb e)))).2.1
   cases b with
   | false=>
    have q7':=q7;obtain⟨m',hm,w7⟩:=q7';obtain⟨t7,fr7⟩:=Xb I7;exact⟨m',hm,i+1,σ6,ys,H7,I7.nt,t7,fr7,w7⟩
   | true=>
    refine bS (he _ _ _ _ _ _ s7 σ6 H7 _ I7 q7) λyv s8 ⟨y,H8,I8,r8,hD8,hz8,m',hm,w8⟩=>?_;obtain⟨z,aw,k,rv,hl8,e8⟩:=I8.vq hD8;obtain⟨t8,fr8⟩:=Xb I8;refine wpAny_list_append_plain (s:=s8) (items:=aw.toArray) (hsz:=by rw[Ak];omega) ⟨_,e8⟩ λh9 hl9 hs9=>?_;obtain⟨k9,e9⟩:=hl9;have hv9:=Vals.append rv (.cons r8 .nil);have I9:Inv (kl X sc N' cl C s2 H2 fp) ([]++tQ fp s5.heap) σ6 (upd H8 D (.lst (ys++[y]))) {s8 with heap:=h9,toks:=s8.toks}:=by
     refine I8.write (x:=D) (e:=D) (by rw[hD8];exact trivial) (.inl rfl) (λb u hb hu=>(hs9.2 b hb).trans hu) ⟨_,e9⟩ ?_;refine⟨by rw[Ah,Df];exact hz8,aw++[yv],k9,hv9,?_⟩;rw[e9];simp
    obtain⟨t9,fr9⟩:=Xb I9;exact⟨m',hm,i+1,σ6,_,_,I9.nt,t9,fr9,w8⟩
 exact codeAny_compStart_list (ğ _ rfl) (T.self _ 0 _ _ _ (T.keep _ _ _ RV λb _ o e=>Ë b o e) (ğ _ rfl))
def aip(hc:X.calm=true)(S:cF X.env.scope X.N sc N' ix)(hi:PI X tg iter wi)
  (hg:∀cl C s2 H2 fp,PG (kl X sc N' cl C s2 H2 fp) tg g) (hf:∀cl C s2 H2 fp,PFs (kl X sc N' cl C s2 H2 fp) Ì tf) (he:∀cl C s2 H2 fp,PE (kl X sc N' cl C s2 H2 fp) Æ te)
  (hs:J6 X iter:=by intro _;rfl):PE X (.ListComp Æ [⟨tg,iter,Ì,0⟩] sc pos) (tLc ix wi g tf te):=by
 intro Z s σ H Q I h;have Ov:∀y∈sc.names,y.2=.free->∃c,X.env.cells.lookup y.1=ap c:=λy hy hk=>I.ok.has y.1 (S.fr y hy hk);obtain⟨cl,XE,xS,Tg⟩:=qf Ov;refine E6 (use:=bm) rfl hs XE S.kind S.loc (bS (hi Z s σ H _ I h) λv s1 h1=>bS h1 λļ s2 h2=>?_);obtain⟨it,fp,tn,J,H2,rfl,I2,T,RV,f2,hW⟩:=h2;refine QR (RR:=λÃ C=>compPost (ev X.prog X.w) X.A X.xe bm (EP X Z σ Q) Ã C) hc S hg hf he xS Tg I2 T RV f2 hW λD C m s' H' I' q hn F=>?_;refine⟨m,hn,λh' ċ=>⟨.ref D,H',?_,rfl,q⟩⟩;exact I'.turned (it:=C) (t':=s'.toks) (λb o hb e=>(ċ.2 b hb).trans e) F.hn F.hL (.inr F.ab) F.cl F.pn
def Wb{i:Nat}(hc:X.calm=true)(hN:X.N.Nodup)(Tf:X.N[i]?=ap x)(hx:X.env.scope.names.lookup x=ap .local)(S:cF X.env.scope X.N sc N' ix)(hi:PI X tg iter wi)
  (hg:∀cl C s2 H2 fp,PG (kl X sc N' cl C s2 H2 fp) tg g) (hf:∀cl C s2 H2 fp,PFs (kl X sc N' cl C s2 H2 fp) Ì tf) (he:∀cl C s2 H2 fp,PE (kl X sc N' cl C s2 H2 fp) Æ te)
  (xQ:‹pc (.ListComp Æ [⟨tg,iter,Ì,0⟩] sc pos) (ap (.Name x px)) y9.line X.env=pure true›)
  (hs:J6 X iter:=by intro _;rfl):PS X (.Assign [.Name x px] (.ListComp Æ [⟨tg,iter,Ì,0⟩] sc pos) y9) (ad3 (tLc ix wi g tf te) (fc i)):=by
 intro Z s σ H D0 I h;rw[exec_Assign_Name_used _ _ _ _ xQ];refine Aa (E4 (Aa ?_));show db _ X.A (do let _ <- comprehension (.ListComp Æ [⟨tg,iter,Ì,0⟩] sc pos) sc X.env _ (newList []) false (lw iter X.env) (ap (Ix (.Name x px) X.env))) _ _ s;have Ov:∀y∈sc.names,y.2=.free->∃c,X.env.cells.lookup y.1=ap c:=λy hy hk=>I.ok.has y.1 (S.fr y hy hk);obtain⟨cl,XE,xS,Tg⟩:=qf Ov;refine Aa (B9 (E6 (use:=ap (Ix (.Name x px) X.env)) (Q:=λ_ s'=>SP X Z D0 .next s') rfl hs XE S.kind S.loc (bS (hi Z s σ H _ I h) λv s1 h1=>bS h1 λļ s2 h2=>?_)) (λ_ s' hq=>Af (Af hq)) λ_ _ e=>e);obtain⟨it,fp,tn,J,H2,rfl,I2,T,RV,f2,hW⟩:=h2;refine QR (RR:=λÃ C=>compPost (ev X.prog X.w) X.A X.xe (ap (Ix (.Name x px) X.env)) (λ_ s'=>SP X Z D0 .next s') Ã C) (Q:=λx H1=>fc i x σ H1 D0.nx) hc S hg hf he xS Tg I2 T RV f2 hW λD C m s' H' I' q hn F=>?_;show db _ X.A (Ix (.Name x px) X.env (.ref D)) _ _ _;refine wpAny_assign_Name (Gm (v:=.ref D) I' hN Tf (.inl hx) rfl (λĘ I'' Ŧ=>?_) (.inr hx));obtain⟨a,Ŧ,ha⟩:=Ŧ;have haC:C≠a:=by
  rcases ha with z | z
  ·rw[z];exact F.hL
  ·exact BW (F.cl _ _ z)
 refine⟨m,hn.sameBut Ŧ haC,λh' ċ=>⟨_,H',?_,q⟩⟩;exact I''.turned (it:=C) (t':=Ę.toks) (λb o hb e=>(ċ.2 b hb).trans e) F.hn F.hL (.inr F.ab) F.cl F.pn
end
end L2
variable{a b:B8}
namespace L2
section
def vf:cC X (.builtin "isinstance") (λxs H Q=>∃x c t b,xs=[x,.ty c]/\pP X.K H x t/\BJ X.K t (.type c)=ap b/\Q (.bl b) H):=by
 intro Z s σ H xs us Q I r h;obtain⟨x,c,t,b,rfl,ty,hk,q⟩:=h;obtain⟨u,w',rfl,ru,HE⟩:=vals2 r;cases (show w'=C1 c from HE);exact S6 I ru ty hk λtk=>⟨.bl b,H,I.tok _,rfl,q⟩
def WC:jV X (nw .Is) (λx y H Q=>∃i j,x=.bl i/\y=.bl j/\Q (.bl (i==j)) H):=by
 intro Z s σ H x y v u Q I rx ry h;obtain⟨i,j,rfl,rfl,q⟩:=h;cases rx;cases ry;exact Af ⟨.bl (i==j),H,I,by cases i <;> cases j <;> rfl,q⟩
def YH{bs:O Bool}:∀{us:O ce},Vals (bs.map V.bl) us->us=bs.map Dj:=by
 induction bs with
 | nil=>intro us r;rw[Cq]at r;cases r;rfl
 | cons n ns ih=>
  intro us r;cases r with
  | cons r1 r2=>
   cases r1;rw[ih r2];rfl
def Pl(hc:X.calm=true):cC X (.builtin "all") (λxs H Q=>∃(p:ci) (bs:O Bool),xs=[.ref p]/\eN X.K H p (bs.map V.bl)/\Q (.bl (bs.all id)) H):=by
 intro Z s σ H xs us Q I r h;obtain⟨p,bs,rfl,hp,q⟩:=h;obtain⟨u,rfl,ru⟩:=vals1 r;cases ru;obtain⟨aw,rv,pl,hz⟩:=I.list hp;have eb:=YH rv;subst eb;have hl:=pl.isList;have fC:p < s.heap.objs.size:=by obtain⟨_,e,_⟩:=hl;exact Aw e
 refine call_all_walk (Dg hl ?_);refine⟨s.heap.objs.size,[s.heap.objs.size,p],[s.heap.objs.size],(bs.map Dj).toArray.size,_,_,λi=>(bs[i]?).getD true,rfl,Walks.list (A:=X.A.in1) (I.ok.hd hc) _ p (AM fC) (bs.map Dj).toArray,
  ⟨⟨_,Ar _ rfl,rfl,rfl⟩,hl.push _⟩,λi v s' Q' E' hP hQ=>?_,λh' tk hk=>?_⟩
 ·have XJ:(bs.map Dj)[i]?=ap v:=by simpa using hP
  rw[Aj]at XJ;cases e:bs[i]? with
  | none=>rw[e]at XJ;cases XJ
  | some b=>
   rw[e]at XJ;cases XJ;simp only[e,Option.getD_some]at hQ;exact Bv hQ
 ·have e:((Av (bs.map Dj).toArray.size).all λi=>(bs[i]?).getD true)=bs.all id:=by
   rw[Ak,Ae];exact LSm.range_all bs
  rw[e];exact⟨.bl (bs.all id),H,I.kept (LSm.kept_iter hk),rfl,q⟩
def vA(l:ci)(items:Array ce)(n:Nat)(b:ci)(cH:Array ce)(n2:Nat)(dd:Option ci)(sl:Array (Option ce))(hs0:¬(!items.isEmpty&&Builtin.List.listTooLong (items.size+cH.size))=true)(J1:items.size<=sizeLine)(sC:items.size+cH.size<=sizeLine+1) :
  Meets (wP.«list.extend» ⟨[.ref l,.ref b],[]⟩) (λ_ R s=>s.heap.get? l=ap {cls:=.type "list",dict:=bm,data:=.seq items n,slots:=#[]}/\s.heap.get? b=ap {cls:=.type "tuple",dict:=dd,data:=.seq cH n2,slots:=sl}/\R (.ok (.ret AU)) {s with heap:=s.heap.update l (BC λx=>x++cH),toks:=s.toks}):=
 .of_wp λprog w A R s h=>by
  obtain⟨hp,g,d,tk,os⟩:=s;obtain⟨hl,hb,h⟩:=h;have f1:=Fh;have f2:=D1;have f3:=Ei;have f4:=Eb;have f5:=Ec;have Tb:(items++cH).size<=sizeLine+1:=by rw[Array.size_append];exact sC
  wp_walk using (C4 hl rfl (hz:=J1) (_hz':=Tb)),Cn hl,Cn hb;exact⟨_,rfl,h⟩
def V5(K:Ab):V->O V->Hp->VK->Prop:=λx vs H Q=>∃l b xs zs,x=.ref l/\vs=[.ref b]/\H l=ap (.lst xs)/\eW K H b zs/\xs.length+zs.length<=sizeLine/\Q .aL (upd H l (.lst (xs++zs)))
theorem NG:MR X "list.extend" (V5 X.K):=by
 intro Z s σ H x vs v us Q I rx rv h;obtain⟨l,b,xs,zs,rfl,rfl,hH,hB,hz,q⟩:=h;cases rx;obtain⟨u,rfl,ru⟩:=rv.one;cases ru;obtain⟨z,aw,n,r,hl,e⟩:=I.vq hH;obtain⟨d4,r2,⟨⟨cls,dd,data,sl⟩,e2,hc,n2,hd⟩,z2⟩:=I.tuple hB;simp only at hc hd;subst hc hd;have UQ:=r2.length;have hsz:aw.toArray.size+d4.toArray.size<=sizeLine:=by rw[Ak,Ak];omega
 have xR:¬(!aw.toArray.isEmpty&&Builtin.List.listTooLong (aw.toArray.size+d4.toArray.size))=true:=by
  rw[rK hsz,ES];exact AY
 refine sK EC ⟨_,e,rfl⟩ Eo (Ea _ _)
  (vA l aw.toArray n b d4.toArray n2 dd sl xR (by rw[Ak];omega) ∅) ⟨e,e2,?_⟩
 refine⟨.aL,_,I.NP (its':=aw++d4) hH e (by simp) (r.append r2) ?_,rfl,q⟩;rw[Ah];omega
def Its(x:Str):It:=⟨λi _=>i < x.cps.size,λi H v H'=>H'=H/\∃c,x.cps[i]?=ap c/\v=.str ⟨#[c]⟩,λi _=>x.cps.size<=i⟩
def M5{K:Ab}(it:ci)(x:Str)(t:Tok)(ty:String)(Q4:ty="str_ascii_iterator"\/ty="str_iterator"):Turn P w K tg (Its x) [it] it (λi h=>h.IsStrIter it ty x t i/\i<=x.cps.size) where
 mem:=by simp
 obj:=λi h st b hb=>by
  have e:b=it:=by simpa using hb
  subst e;obtain⟨⟨o,e,c,d⟩,_⟩:=st;exact⟨o,e,λv z=>by rw[d]at z;cases z⟩
 keep:=λi h h' st k=>⟨let ⟨o,ho,r⟩:=st.1;⟨o,k it (by simp) o ho,r⟩,st.2⟩
 item:=by
  intro X hP hw hK hc i Z s σ H E I hf st hg;subst hP hw hK;obtain⟨f0,f1,f2,f3,f4,f5⟩:=hf it (by simp);have ë:i < x.cps.size:=hg;obtain⟨st,_⟩:=st;rcases Q4 with rfl | rfl
  ·refine wpAny_pyNext_ascii_item st (c:=x.cps[i]) (by simp[ë]) λh' qU sb=>?_;have I1:Inv X Z σ H {s with heap:=h',toks:=s.toks+1}:=I.turned (λb o hb e=>(sb.2 b hb).trans e) f0 f1 f3 f4 f5;obtain⟨o,e,c,d⟩:=id qU;exact⟨_,rfl,xT (s:={s with heap:=h',toks:=s.toks+1}) e c d ⋯ ⟨.str ⟨#[x.cps[i]]⟩,H,I1,⟨_,rfl⟩,⟨rfl,_,by simp[ë],rfl⟩,⟨qU,ë⟩,λb hb=>(hf b hb).1⟩⟩
  ·refine wpAny_pyNext_wide_item st (c:=x.cps[i]) (by simp[ë]) λh' qU sb=>?_;have I1:Inv X Z σ H {s with heap:=h',toks:=s.toks+1}:=I.turned (λb o hb e=>(sb.2 b hb).trans e) f0 f1 f3 f4 f5;obtain⟨o,e,c,d⟩:=id qU;exact⟨_,rfl,xT (s:={s with heap:=h',toks:=s.toks+1}) e c d ⋯ ⟨.str ⟨#[x.cps[i]]⟩,H,I1,⟨_,rfl⟩,⟨rfl,_,by simp[ë],rfl⟩,⟨qU,ë⟩,λb hb=>(hf b hb).1⟩⟩
 done:=by
  intro X hP hw hK hc i Z s σ H E I hf st hg;obtain⟨f0,f1,f2,f3,f4,f5⟩:=hf it (by simp);obtain⟨st,_⟩:=st;have hn:x.cps[i]?=bm:=by
   have ë:x.cps.size<=i:=hg;simp[ë]
  rcases Q4 with rfl | rfl
  ·exact wpAny_pyNext_ascii_end (I.ok.hd hc) st hn λh' eb=>⟨rfl,I.turned (t':=s.toks) (λb o hb e=>eb b o hb e) f0 f1 f3 f4 f5⟩
  ·exact wpAny_pyNext_wide_end (I.ok.hd hc) st hn λh' eb=>⟨rfl,I.turned (t':=s.toks) (λb o hb e=>eb b o hb e) f0 f1 f3 f4 f5⟩
 self:=λ_ _ _ _ _ st h=>by
  obtain⟨st,_⟩:=st;rcases Q4 with rfl | rfl
  ·exact wpAny_pyIter_striter_ascii st h
  ·exact wpAny_pyIter_striter_wide st h
def anf(tl:TE):TI:=λσ H R=>tl σ H λx H1=>∃z,x=.str z/\R (Its z) H1
def aeD{l:lc}(hl:PE X l tl):PI X tg l (anf tl):=by
 intro Z s σ H R I h;refine bS (hl Z s σ H _ I h) λv s1 ⟨x,H1,I1,r1,q1⟩=>?_;obtain⟨z,e,q⟩:=q1;subst e;obtain⟨t,rfl⟩:=r1;have fin:∀(ty:String) (Q4:ty="str_ascii_iterator"\/ty="str_iterator") (o:Obj),(s1.heap.push o).IsStrIter s1.heap.objs.size ty z t 0->PIE X Z σ tg R (.ref s1.heap.objs.size) {s1 with heap:=s1.heap.push o}:=λty Q4 o st=>by
  refine⟨s1.heap.objs.size,[s1.heap.objs.size],_,_,H1,rfl,I1.kept (t':=s1.toks) λb o e=>Ag _ e,M5 _ z t ty Q4,⟨st,A3 _⟩,λb hb=>?_,q⟩;have e:b=s1.heap.objs.size:=by simpa using hb
  subst e;exact I1.xZ (An _) (I1.bN.fresh (An _))
 cases ha:z.cps.all (· < 128)
 ·exact wpAny_pyIter_wide ha (fin _ (.inr rfl) _ ⟨_,Ar _ rfl,rfl,rfl⟩)
 ·exact wpAny_pyIter_ascii ha (fin _ (.inl rfl) _ ⟨_,Ar _ rfl,rfl,rfl⟩)
end
section
variable{CX:UW}{f:ci}{dvs:O V}{ds:O ce}{E:XK}{t:TA}
def ad2(f:ci)(sp:Sp)(dvs:O V)(E:XK)(ta:TE)(t:TA):TE:=λσ H Q=>ta σ H λx H1=>x=.ref f/\t σ H1 λvs H2=>sp (vs++dvs) H2 Q E
def Wu(F:iU X.prog X.w X.K X.mg X.base CX k f fd ps sp)(hr:gj k X.A)(hf:PE X (.Name x p) ta)(hk:Di X.K (.ref f)=true)(hb:Binds X.K fd ps ds)(hd:Vals dvs ds)(hx:Passes CX X E)
  (ha:PA X (e::es) t) (he:‹iq X e es›) (eM:‹m6 X pos es›) :
  PE X (.Call (.Name x p) (e::es) [] pos) (ad2 f sp dvs E ta t):=by
 intro Z s σ H Q I h;refine BD (bS (hf Z s σ H _ I h) λv s1 ⟨y,H1,I1,r1,ey,q1⟩=>?_);subst ey;cases r1;refine F1 (h₀:=X.base) I.ok.mod.kin hk (bS (ha pos Z s1 σ H1 _ I1 q1) λus s2 ⟨vs,H2,I2,r,q⟩=>⟨I2.zC,?_⟩) he eM;exact VO F hr hb hd hx I2 r q
end
end L2
variable{o:L2.HO}{k':Nat}{bC:Cz}
namespace L2
def qj(l:ci)(H H':Hp):Prop:=∀b u,b≠l->H b=ap u->H' b=ap u
def kW{p:ci}(h:H p=bm)(o:HO):mP H (upd H p o):=λb u q=>by rw[aD (b9 q h)];exact q
def R5{p:ci}(o:HO):qj p H (upd H p o):=λb u n q=>by rw[aD n];exact q
def k6(H:Hp)(o:HO)(Q:VK):Prop:=∀p H',mP H H'->H' p=ap o->H p=bm->Q (.ref p) H'
def k6.at{Q:VK}(h:k6 H o Q)(p:ci)(hp:H p=bm):Q (.ref p) (upd H p o):=h p _ (kW hp o) aW hp
def Kb(H:Hp)(l:ci)(o:HO)(Q:Hp->Prop):Prop:=∀H',qj l H H'->H' l=ap o->Q H'
def Kb.at{Q:Hp->Prop}(h:Kb H l o Q):Q (upd H l o):=h _ (R5 o) aW
def jV.mono{f:ce->ce->Sem ce}{r:R2}(h:jV X f r)(hr:∀x y H Q,r' x y H Q->r x y H Q):jV X f r':=λZ s σ H x y v u Q I rx ry q=>h Z s σ H x y v u Q I rx ry (hr _ _ _ _ q)
def cC.mono{f:ce}{r r':O V->Hp->VK->Prop}(h:cC X f r)(hr:∀xs H Q,r' xs H Q->r xs H Q):cC X f r':=λZ s σ H xs us Q I rx q=>h Z s σ H xs us Q I rx (hr _ _ _ q)
def MR.mono{id:String}{r r':V->O V->Hp->VK->Prop}(h:MR X id r)(hr:∀x xs H Q,r' x xs H Q->r x xs H Q):MR X id r':=λZ s σ H x xs v us Q I rx rv q=>h Z s σ H x xs v us Q I rx rv (hr _ _ _ _ q)
def UE.mono{r r':YX}(h:UE X r)(hr:∀o i v H Q,r' o i v H Q->r o i v H Q):UE X r':=λZ s σ H o i v ov iv u Q I ro ri rv q=>h Z s σ H o i v ov iv u Q I ro ri rv (hr _ _ _ _ _ q)
def SlR.mono{r r':V->Option Int->Option Int->Hp->VK->Prop}(h:SlR X r)(hr:∀x lo hi H Q,r' x lo hi H Q->r x lo hi H Q):SlR X r':=λZ s σ H x v vl vu lo hi sl Q I rx hs pl pu q=>h Z s σ H x v vl vu lo hi sl Q I rx hs pl pu (hr _ _ _ _ _ q)
section
variable{o:lc}{t:TA}
def ahB(t:TA):TE:=λσ H Q=>t σ H λxs H1=>xs.length<=sizeLine/\k6 H1 (.tup xs) Q
def ahH(t:TA):TE:=λσ H Q=>t σ H λxs H1=>xs.length<=sizeLine/\k6 H1 (.lst xs) Q
def Z9{x1}(h:PA X es t):PE X (.Tuple es x1 pos) (ahB t):=by
 intro Z s σ H Q I hq;refine wpAny_Tuple_spliced (bS (h pos Z s σ H _ I hq) λus s1 ⟨xs,H1,I1,r,z,q⟩=>⟨by rw[<- r.length];exact z,?_⟩);have hf:=I1.bN.fresh (An _);refine⟨.ref s1.heap.objs.size,upd H1 s1.heap.objs.size (.tup xs),I1.laid (t':=s1.toks) (λb u e=>Ag _ e) (An _) ?_,rfl,q.at _ hf⟩;exact⟨z,us,r,⟨_,Ar _ rfl,rfl,_,rfl⟩⟩
def aac(h:PA X es t):PE X (.List es pos) (ahH t):=by
 intro Z s σ H Q I hq;refine wpAny_List_spliced (bS (h pos Z s σ H _ I hq) λus s1 ⟨xs,H1,I1,r,z,q⟩=>⟨by rw[<- r.length];exact z,?_⟩);have hf:=I1.bN.fresh (An _);refine⟨.ref s1.heap.objs.size,upd H1 s1.heap.objs.size (.lst xs),I1.laid (t':=s1.toks) (λb u e=>Ag _ e) (An _) ?_,rfl,q.at _ hf⟩;exact⟨z,us,0,r,Ar _ rfl⟩
def adZ:TE:=λ_ H Q=>k6 H (.dK []) Q
def Wr:PE X (.Dict [] [] pos) adZ:=λZ s σ H Q I h=>Wq Z s σ H Q I λp hp=>h.at p hp
def acC(K:Ab):R2:=λx y H Q=>match x with
 | .int i=>∃j,y=.int j/\Q (.int (i+j)) H
 | .str i=>∃j,y=.str j/\i.length+j.length<=sizeLine/\Q (.str (i++j)) H
 | .ref a=>(∃b xs zs,y=.ref b/\H a=ap (.lst xs)/\H b=ap (.lst zs)/\xs.length+zs.length<=sizeLine/\k6 H (.lst (xs++zs)) Q)\/acF K x y H Q
 | _=>False
def aar:jV X (tt .Add) (acC X.K):=by
 refine((aeU.or Nw).or (aeT.or QE)).mono λx y H Q h=>?_;cases x with
 | int i=>obtain⟨j,rfl,q⟩:=h;exact .inl (.inl ⟨i,j,rfl,rfl,q⟩)
 | str i=>obtain⟨j,rfl,hl,q⟩:=h;exact .inl (.inr ⟨i,j,rfl,rfl,hl,q⟩)
 | ref a=>
  rcases h with⟨b,xs,zs,rfl,h1,h2,hz,q⟩ | h
  ·exact .inr (.inl ⟨a,b,xs,zs,rfl,rfl,h1,h2,hz,λp hp=>q.at p hp⟩)
  ·exact .inr (.inr h)
 | _=>exact h.elim
def aam:jV X (tt .Mult) (rI ut λi j=>.int (i*j)):=opI λ_ _ _ _ _ _ _ hc q=>mul_int q hc
def acB(K:Ab):V->Option Int->Option Int->Hp->VK->Prop:=λx lo hi H Q=>∃a xs,x=.ref a/\eN K H a xs/\k6 H (.lst (zR xs lo hi)) Q
def VJ:SlR X (acB X.K):=ZI.mono λx lo hi H Q ⟨a,xs,e,h,q⟩=>⟨a,xs,e,h,λp hp=>q.at p hp⟩
def Ph:cC X (.type "list") (λxs H Q=>∃p ys,xs=[.ref p]/\(eN X.K H p ys\/eW X.K H p ys)/\k6 H (.lst ys) Q):=JB.mono λxs H Q ⟨p,ys,e,h,q⟩=>⟨p,ys,e,h,λl hl=>q.at l hl⟩
def V6:V->O V->Hp->VK->Prop:=λx vs H Q=>∃l xs y,x=.ref l/\vs=[y]/\H l=ap (.lst xs)/\xs.length < sizeLine/\Kb H l (.lst (xs++[y])) (Q .aL)
def NH:MR X "list.append" V6:=So.mono λx xs H Q ⟨l,ys,y,e1,e2,h,hz,q⟩=>⟨l,ys,y,e1,e2,h,hz,q.at⟩
def Sa(K:Ab):V->O V->Hp->VK->Prop:=λx vs H Q=>∃l b xs zs,x=.ref l/\vs=[.ref b]/\H l=ap (.lst xs)/\eW K H b zs/\xs.length+zs.length<=sizeLine/\Kb H l (.lst (xs++zs)) (Q .aL)
def KU:MR X "list.extend" (Sa X.K):=NG.mono λx xs H Q ⟨l,b,ys,zs,e1,e2,h1,h2,hz,q⟩=>⟨l,b,ys,zs,e1,e2,h1,h2,hz,q.at⟩
def ah8:V->O V->Hp->VK->Prop:=λx vs H Q=>∃l xs y,x=.ref l/\vs=[]/\H l=ap (.lst (xs++[y]))/\Kb H l (.lst xs) (Q y)
def aaD:MR X "list.pop" ah8:=ae4.mono λx xs H Q ⟨l,ys,y,e1,e2,h,q⟩=>⟨l,ys++[y],y,e1,e2,h,by simp,by rw[List.dropLast_concat];exact q.at⟩
def aep:YX:=λo i v H Q=>∃p xs k j,o=.ref p/\i=.int k/\H p=ap (.lst xs)/\uh xs.length k=ap j/\Kb H p (.lst (xs.set j v)) Q
def R1:UE X aep:=set_list.mono λo i v H Q ⟨p,xs,k,j,e1,e2,h,hj,q⟩=>⟨p,xs,k,j,e1,e2,h,hj,q.at⟩
end
section
variable(K:Ab)(hK:X.K=K){o:lc}{to:TE}{t:TA}{name:Str}{ĉ:String}{r:V->O V->Hp->VK->Prop}{l:lc}
include hK
def aa6:Y6 X (rIx K):=hK▸afs
def aaq:jV X (tt .Add) (acC K):=hK▸aar
def VI:SlR X (acB K):=hK▸VJ
def aer(K:Ab):O V->Hp->VK->Prop:=λxs H Q=>∃x n,xs=[x]/\akh K x H n/\Q (.int n) H
def G3:cC X (.builtin "len") (aer K):=hK▸YE
def V3(K:Ab):O V->Hp->VK->Prop:=λxs H Q=>∃p ys,xs=[.ref p]/\(eN K H p ys\/eW K H p ys)/\k6 H (.lst ys) Q
def Pg:cC X (.type "list") (V3 K):=hK▸Ph
def aik(K:Ab):O V->Hp->VK->Prop:=λxs H Q=>∃(p:ci) (bs:O Bool),xs=[.ref p]/\eN K H p (bs.map V.bl)/\Q (.bl (bs.all id)) H
def Ul(hc:X.calm=true):cC X (.builtin "all") (aik K):=hK▸Pl hc
def ame(K:Ab)(ta:TE):TT:=λσ H Q=>ta σ H λx H'=>∃k,agu K x H' k/\Q k H'
def Gs(ha:PE X a ta)(he:∀Ä,isTrue a X.env Ä=(do let v <- Ä;standAt a.pos;FS [v] (truthy v))):PT X a (ame K ta):=hK▸V9 ha he
def Wi(hl:PE X l tl):PI X tg l (ac0 K tl):=hK▸Z4 hl
def aad(pa:PlainAttrs T)(slot:Slot T name ĉ)(Q4:typeOf (.builtin ĉ)=pure (.type "method_descriptor"))(hm:MtR X ĉ r)(ho:PE X o to)
  (da:‹o0 o name X.env (lw o X.env)=lw o X.env›) (c9:‹RG Á bC›):PE X (.Call (.Attribute o name Á) [] [] bC) (ahN K T r to):=hK▸aeJ pa slot Q4 hm ho da c9
def qr(pa:PlainAttrs T)(slot:Slot T name ĉ)(Q4:typeOf (.builtin ĉ)=pure (.type "method_descriptor"))(hm:MtR X ĉ r)(ho:PE X o to)(ha:PA X (e::es) t)
  (da:‹o0 o name X.env (lw o X.env)=lw o X.env›)
  (nU:‹HWa X bC (e::es)›)
  (c9:‹RG Á bC›) (hs:‹iq X e es›) (d5:‹m6 X bC es›) :
  PE X (.Call (.Attribute o name Á) (e::es) [] bC) (tBM K T r to t):=hK▸aiq pa slot Q4 hm ho ha da nU c9 hs d5
omit hK
end
structure Cal(P:wn)(w:wT)(K:Ab)(mg:Str->Option ce)(base:pr)(x:Str)(k:Nat)(ps:List Str)(sp:Sp) where
 f:ci
 fd:FB
 ok:iU P w K mg base yQ k f fd ps sp
 bi:Binds K fd ps []
 kp:Di K (.ref f)=true
 at':mg x=ap (.ref f)
section
variable{t:TA}
def ahM(sp:Sp)(t:TA):TE:=λσ H Q=>t σ H λvs H1=>sp vs H1 Q E0
def Wv(G:Cal X.prog X.w X.K X.mg X.base x k ps sp)(hr:gj k' X.A)(hk:k<=k')(hg:Gl X x)(ha:PA X (e::es) t)(sD: ~~~(jN x))
  (he:‹iq X e es›) (eM:‹m6 X pos es›) :
  PE X (.Call (.Name x p) (e::es) [] pos) (ahM sp t):=by
 intro Z s σ H Q I h;refine BD (QQ I hg G.at' ?_ sD);refine F1 (h₀:=X.base) I.ok.mod.kin G.kp (bS (ha pos Z s σ H _ I h) λus s1 ⟨vs,H1,I1,r,q⟩=>⟨I1.zC,?_⟩) he eM;refine VO (dvs:=[]) (ds:=[]) G.ok (hr.mono hk) G.bi .nil acI I1 r ?_;rw[Ci];exact q
end
section
theorem YK{xs:List α}(h0:0<=i)(h1:i < xs.length):∃v,bV xs i=ap v/\xs[i.toNat]?=ap v:=by
 have hk:i.toNat < xs.length:=by omega
 have q:=bJ (by rw[Ad hk]);have e:((i.toNat:Nat):Int)=i:=by omega
 rw[e]at q;exact⟨_,q,by rw[Ad hk]⟩
def acN{j:Int}(h1:-18446744073709551616 < i)(h2:i < 18446744073709551616):ut i j:=acp.ok (.inl ⟨h1,h2⟩)
def mul_r{j:Int}(h1:-18446744073709551616 < j)(h2:j < 18446744073709551616):ut i j:=acp.ok (.inr ⟨h1,h2⟩)
end
def bB(h:n<=1000):n<=sizeLine:=Ey (Gq h)
end L2
variable{p1:Cz}
namespace L2
theorem Vals.w9:∀{xs:O V}{us:O ce},Vals xs us->Vals xs.reverse us.reverse
 | _,_,.nil=>.nil
 | _,_,.cons h t=>by rw[Dh,Dh];exact(Vals.w9 t).append (.cons h .nil)
def ae8:IR (.type "list_reverseiterator") (BO "__len__")=pure bm:=by kernel_rfl
def aaL:IR (.type "list_reverseiterator") (BO "__length_hint__")=pure (ap (.builtin "list_reverseiterator.__length_hint__")):=by kernel_rfl
def ZD:splitId "list_reverseiterator.__length_hint__"=ap ("list_reverseiterator","__length_hint__"):=by kernel_rfl
def Zu:isSubtype (.type "list_reverseiterator") (.type "list_reverseiterator")=pure true:=by kernel_rfl
def XC{r:ci}{Q:Bool->cr->Prop}(h:s.heap.IsRevIter r l i)(q:Q false s):db (ev prog w) A (Builtin.List.listLengthHint (AB r)) Q E s:=by
 refine Aa (Fw h.typeIs ae8 ?_);refine Aa (Fw h.typeIs aaL ?_);dsimp only;rw[ZD];dsimp only;refine Aa (Dp h.typeIs Zu ?_);rw[if_neg ⋯];exact Af q
def zr{r S:ci}(hA:A.handled=bm)(h:s.heap.IsRevIter r l (items.size-1))(hl:s.heap.IsList l items)(Td:l≠r)(Ŵ:S≠r)(hSl:S≠l)(hz:items.size<=sizeLine)
  (hS:s.heap.get? S=ap {cls:=C1 "list",data:=FJ #[]})
  (q:∀(h':pr) (tk:Nat) (Ã:Array ce) (c:Nat),(∀b o,b≠S->b≠r->s.heap.get? b=ap o->h'.get? b=ap o)->h'.get? S=ap {cls:=C1 "list",data:=FJ Ã c}->ItemsOf (λi v=>items[items.size-1-i]?=ap v) Ã items.size->R (.ok (.ret .none)) {s with heap:=h',toks:=tk}) :
  db (ev prog w) A.in1 (wP.«list.__init__» {pos:=[AB S,AB r]})
   (λfin s'=>match fin with | FI f=>R (Except.ok f) s' | Fin.again c'=>c'.quiet=true/\GE (ev prog w) A c' R s') (λe s'=>R (Except.error e) s') s:=by
 unfold wP.«list.__init__»;refine Aa (wpAny_listItems hS rfl ?_);refine Aa ?_;refine C4 hS rfl ?_ (by simp) (by simp);refine Aa (C0 ?_);have k1:∀b o,b≠S->s.heap.get? b=ap o->(s.heap.update S (BC λ_=>#[])).get? b=ap o:=λb o hb e=>by rw[B7 _ _ (BW hb)];exact e
 have hS1:=BX (BC λ_=>#[]) hS rfl;generalize s.heap.update S (BC λ_=>#[])=h1 at k1 hS1 ⊢;have ŀ:h1.IsRevIter r l (items.size-1):=let ⟨o,e,p⟩:=h;⟨o,k1 _ _ (BW Ŵ) e,p⟩;have Ū:h1.IsList l items:=let ⟨o,e,p⟩:=hl;⟨o,k1 _ _ (BW hSl) e,p⟩;unfold Builtin.List.listExtendWith;refine Aa (C2 (T:="list_reverseiterator") ŀ.typeIs ?_);rw[if_neg (by
  have e1:Builtin.List.listSameRef (AB S) (AB r)=false:=by
   unfold Builtin.List.listSameRef;simpa using Ŵ
  rw[e1];decide)]
 refine Aa (wpAny_pyIter_revIter ŀ ?_);refine Aa (Bj (XC ŀ ?_));rw[if_neg ⋯];refine Af ⟨xL F.plain_extend_loop _,?_⟩;refine codeAny_extend_loopS (Walks.toS (Walks.listRev (A:=A.in1) hA r l Td items)) hz S (by simp[Ŵ,hSl]) .none items.size 0 _ #[] _ (Fj _) (A3 _) ⟨A3 _,by simpa using ŀ,Ū⟩ hS1 (ItemsOf.nil _) ?_;intro s' Ã c mv e io;rw[mv.eq_with];exact q s'.heap s'.toks Ã c (λb o n1 n2 e'=>mv.heap b o (by simp[n1,n2]) (k1 b o n1 e')) e io
def zT{r:ci}(hA:A.handled=bm)(h:s.heap.IsRevIter r l (items.size-1))(hl:s.heap.IsList l items)(Td:l≠r)(hz:items.size<=sizeLine)
  (q:∀(h':pr) (tk:Nat) (Ã:Array ce) (c:Nat),(∀b o,b≠r->s.heap.get? b=ap o->h'.get? b=ap o)->h'.get? s.heap.objs.size=ap {cls:=C1 "list",data:=FJ Ã c}->ItemsOf (λi v=>items[items.size-1-i]?=ap v) Ã items.size->Q (.ref s.heap.objs.size) {s with heap:=h',toks:=tk}) :
  db (ev prog w) A (call (C1 "list") [AB r]) Q E s:=by
 have lr:=let ⟨_,e,_⟩:=h;Aw e;have ll:=let ⟨_,e,_⟩:=hl;Aw e;refine callType_codes F.called_list (F.typeCall_list_1 _) F.entry_list_init (code_list_new (Q₁:=λv s₁=>v=.ref s.heap.objs.size/\s₁={s with heap:=s.heap.push {cls:=C1 "list",data:=FJ #[]}}) _ ⟨rfl,rfl⟩) ?_;rintro obj s₁ ⟨rfl,rfl⟩;refine⟨⟨_,Ar _ rfl,rfl⟩,F.args_list_init_2 _ _,?_⟩;have kp:∀b o,s.heap.get? b=ap o->(s.heap.push {cls:=C1 "list",data:=FJ #[]}).get? b=ap o:=λb o e=>Ag _ e;refine zr (A:=A.in1) (items:=items) (l:=l) hA (let ⟨o,e,p⟩:=h;⟨o,kp _ _ e,p⟩) (let ⟨o,e,p⟩:=hl;⟨o,kp _ _ e,p⟩) Td (λz=>by rw[z]at lr;exact Ba _ lr) (λz=>by rw[z]at ll;exact Ba _ ll) hz (Ar _ rfl) ?_;intro h' tk Ã c k e io;exact⟨rfl,q h' tk Ã c (λb o n e'=>k b o (λz=>by rw[z]at e';exact Ba _ (Aw e')) n (kp b o e')) e io⟩
def tLR(K:Ab)(te:TE):TE:=λσ H Q=>te σ H λx H1=>∃p ys,x=.ref p/\eN K H1 p ys/\k6 H1 (.lst ys.reverse) Q
section
variable(K:Ab)(hK:X.K=K){q1 q2:Pos}
include hK
theorem Nu(hc:X.calm=true)(Ů:Gl X "list")(ĥ:X.mg "list"=bm)(ŭ:Gl X "reversed")(Č:X.mg "reversed"=bm)(he:PE X e te)
  (J1:‹im [.Call (.Name "reversed" q1) [e] [] q2] X.env=(false,lw (.Call (.Name "reversed" q1) [e] [] q2) X.env)::im [] X.env›) (sC:‹iq X e []›) :
  PE X (.Call (.Name "list" p1) [.Call (.Name "reversed" q1) [e] [] q2] [] p2) (tLR K te):=by
 intro Z s σ H Q I h;subst hK;refine BD (jx I Ů ĥ boot_list ?_ ⋯ ⋯);refine Bg ?_ J1 rfl;refine Cm ?_;refine BD (jx I ŭ Č boot_reversed ?_ ⋯ ⋯);refine Bg ?_ sC rfl;rw[sC];refine Cm (bS (he Z s σ H _ I h) λu s1 ⟨x,H1,I1,r1,pa,ys,ex,hS,q⟩=>CI ?_);subst ex;cases r1;obtain⟨aw,rv,pl,hz⟩:=I1.list hS;have Â:=rv.length;have lp:=let ⟨_,e,_⟩:=pl.isList;Aw e;refine call_reversed_list pl.isList ?_;refine CI ?_;have kp:∀b o,s1.heap.get? b=ap o->(s1.heap.push (revObj pa (aw.toArray.size-1))).get? b=ap o:=λb o e=>Ag _ e;refine zT (items:=aw.toArray) (l:=pa) (r:=s1.heap.objs.size) (I1.ok.hd hc) ⟨_,Ar _ rfl,rfl,rfl⟩ (let ⟨o,e,p⟩:=pl.isList;⟨o,kp _ _ e,p⟩) (λz=>by rw[z]at lp;exact Ba _ lp) (by rw[Ak];omega) ?_;intro h' tk Ã c k e io;have kk:∀b o,s1.heap.get? b=ap o->h'.get? b=ap o:=λb o eb=>k b o (λz=>by rw[z]at eb;exact Ba _ (Aw eb)) (kp b o eb);have ea:Ã=aw.reverse.toArray:=by
  obtain⟨z1,z2⟩:=io;apply Array.ext
  ·rw[z1,Ak,Ak,Ce]
  ·intro j h1 h2;have:=z2 j Ã[j] (BA h1);rw[Ak]at this;have hj:j < aw.length:=by rw[z1,Ak]at h1;exact h1
   rw[FE]at this;have e3:aw.reverse[j]?=ap Ã[j]:=by rw[List.getElem?_reverse hj];exact this
   rw[Ef];exact(Option.some.inj (((Ad (by rw[Ce];exact hj)).symm.trans e3))).symm
 subst ea;have sC:s1.heap.objs.size<=(s1.heap.push (revObj pa (aw.toArray.size-1))).objs.size:=by simp[Heap.push]
 refine⟨.ref _,upd H1 _ (.lst ys.reverse),I1.laid (t':=tk) kk sC ?_,rfl,q.at _ (I1.bN.fresh sC)⟩;exact⟨by rw[Ce];exact hz,aw.reverse,c,rv.w9,e⟩
end
end L2
namespace My
def Wd(x:Str):Prop:=1<=x.length/\x.length<=8/\∀c∈x.cps.toList,97<=c/\c < 123
def Part(x:Str)(n:Nat):Prop:=x.length<=n/\∀c∈x.cps.toList,97<=c/\c < 123
theorem zu{d st:Int}(h:st=1\/st=3\/st=5\/st=7\/st=9\/st=11)(hn:n<=26):((Av n).map λk:Nat=>ap (97+((d+st*(0+(k:Int))) % 26).toNat)).Nodup:=by
 unfold List.Nodup;rw[E2];refine List.Pairwise.imp_of_mem ?_ DN;intro a b ha hb mi hz;have ņ:=AG.mp hb;have Tb:=Option.some.inj hz;rcases h with rfl | rfl | rfl | rfl | rfl | rfl <;> omega
def HX{g:α->β}{l:List α}(h:(l.map g).Nodup):l.Nodup:=(E2.mp h).imp λh e=>h (congrArg g e)
def NT:∀k:_root_.Fin 26,bV ("abcdefghijklmnopqrstuvwxyz":Str).cps.toList (k.val:Int)=ap (97+k.val):=by decide +kernel
theorem SJ{n:Int}(h0:0<=n)(h1:n < 26):bV ("abcdefghijklmnopqrstuvwxyz":Str).cps.toList n=ap (97+n.toNat):=by
 have e:=NT ⟨n.toNat,by omega⟩;have e2:((n.toNat:Nat):Int)=n:=by omega
 rw[e2]at e;exact e
inductive Tr where
 | leaf (x:Str)
 | node (l r:Tr)
def Tr.az:Tr->O Str
 | .leaf x=>[x]
 | .node l r=>l.az++r.az
def Tr.size:Tr->Nat
 | .leaf _=>1
 | .node l r=>l.size+r.size+1
def Tr.depth:Tr->Nat
 | .leaf _=>0
 | .node l r=>max l.depth r.depth+1
def Tr.Ws(t:Tr):Prop:=∀x∈t.az,Wd x
theorem Tr.ma:∀t:Tr,1<=t.az.length
 | .leaf _=>An _
 | .node l r=>by have:=l.ma;show 1<=(l.az++r.az).length;rw[Ah];omega
theorem Tr.n6:∀t:Tr,t.depth < t.az.length
 | .leaf _=>D3 0
 | .node l r=>by
  have h1:=l.n6;have h2:=r.n6;have h3:=l.ma;have h4:=r.ma;show max l.depth r.depth+1 < (l.az++r.az).length;rw[Ah];omega
theorem Tr.size_eq:∀t:Tr,t.size+1=2*t.az.length
 | .leaf _=>rfl
 | .node l r=>by
  have h1:=l.size_eq;have h2:=r.size_eq;show l.size+r.size+1+1=2*(l.az++r.az).length;rw[Ah];omega
def xP:∀k:_root_.Fin 26,(!(Builtin.Str.occurrences ("abcdefghijklmnopqrstuvwxyz":Str) ⟨#[97+k.val]⟩ 0 ("abcdefghijklmnopqrstuvwxyz":Str).length 1).isEmpty)=true:=by decide +kernel
theorem Ol{c:Nat}(h0:97<=c)(h1:c < 123):(!(Builtin.Str.occurrences ("abcdefghijklmnopqrstuvwxyz":Str) ⟨#[c]⟩ 0 ("abcdefghijklmnopqrstuvwxyz":Str).length 1).isEmpty)=true:=by
 have e:=xP ⟨c-97,by omega⟩;have e2:97+(c-97)=c:=by omega
 simp only[e2]at e;exact e
def bj(ts:O Tr):Nat:=(ts.map Tr.size).sum
def cg(a b:O Tr):bj (a++b)=bj a+bj b:=by unfold bj;rw[Az,Fx]
def gr(t:Tr):bj [t]=t.size:=by simp[bj]
theorem Tr.size_pos:∀t:Tr,1<=t.size
 | .leaf _=>An _
 | .node l r=>by show 1<=l.size+r.size+1;omega
theorem k7:∀ts:O Tr,ts.length<=bj ts
 | []=>An _
 | t::r=>by have:=k7 r;have:=t.size_pos;show r.length+1<=t.size+bj r;omega
def Tr.post:Tr->O Tr
 | .leaf x=>[.leaf x]
 | .node l r=>l.post++r.post++[.node l r]
def Tr.dU:∀t:Tr,t.post.length=t.size
 | .leaf _=>rfl
 | .node l r=>by show(l.post++r.post++[_]).length=l.size+r.size+1;rw[Ah,Ah,l.dU,r.dU];rfl
def cY(ts:O Tr):O Tr:=(ts.map Tr.post).flatten
def lO(a b:O Tr):cY (a++b)=cY a++cY b:=by unfold cY;rw[Az,List.flatten_append]
def tP(t:Tr):cY [t]=t.post:=by simp[cY]
def Sd(t u:Tr):cY [t,u]=t.post++u.post:=by simp[cY]
inductive Ent where
 | word (x:Str)
 | pair (a b:Nat)
def Tr.nd:Tr->Nat->O Ent
 | .leaf x,_=>[.word x]
 | .node l r,o=>l.nd o++r.nd (o+l.size)++[.pair (o+l.size-1) (o+l.size+r.size-1)]
def Tr.bG:∀(t:Tr) (o:Nat),(t.nd o).length=t.size
 | .leaf _,_=>rfl
 | .node l r,o=>by show(l.nd o++r.nd (o+l.size)++[_]).length=l.size+r.size+1;rw[Ah,Ah,l.bG,r.bG];rfl
def run:O Tr->O Ent->O Nat->Option (O Ent×O Nat)
 | [],À,ls=>ap (À,ls)
 | .leaf x::k,À,ls=>run k (À++[.word x]) (À.length::ls)
 | .node _ _::k,À,b::a::ls=>run k (À++[.pair a b]) (À.length::ls)
 | .node _ _::_,_,_=>bm
theorem w5:∀(t:Tr) (k:O Tr) (À:O Ent) (ls:O Nat),run (t.post++k) À ls=run k (À++t.nd À.length) ((À.length+t.size-1)::ls)
 | .leaf x,k,À,ls=>rfl
 | .node l r,k,À,ls=>by
  have e1:(Tr.node l r).post++k=l.post++(r.post++(Tr.node l r::k)):=by show l.post++r.post++[_]++k=_;simp
  rw[e1,w5 l,w5 r];have e2:(À++l.nd À.length).length=À.length+l.size:=by rw[Ah,l.bG]
  rw[e2];show run k _ _=run k _ _;have e3:(À++l.nd À.length++r.nd (À.length+l.size)).length=À.length+(Tr.node l r).size-1:=by
   rw[Ah,Ah,l.bG,r.bG];show _=À.length+(l.size+r.size+1)-1;omega
  rw[e3];have e4:À++(Tr.node l r).nd À.length=À++l.nd À.length++r.nd (À.length+l.size)++[.pair (À.length+l.size-1) (À.length+l.size+r.size-1)]:=by
   show À++(l.nd À.length++r.nd (À.length+l.size)++[_])=_;simp
  rw[e4]
def R8(t:Tr):run t.post [] []=ap (t.nd 0,[t.size-1]):=by
 have:=w5 t [] [] [];rw[Ci]at this;rw[this];show ap ([]++t.nd 0,[0+t.size-1])=_;simp
end My
variable{xs:O L2.V}{x:Be}{σ:L2.St}{i:Nat}
namespace L2
def j5{t:ci}(h:s.heap.IsTupleIter it t i)(ht:s.heap.IsTuple t items)(hx:items[i]?=ap x)
  (q:∀h':pr,h'.IsTupleIter it t (i+1)->B1 it s.heap h'->Q x {s with heap:=h'}):db (ev prog w) A (Builtin.SmallTypes.nextOf (.ref it)) Q E s:=by
 unfold Builtin.SmallTypes.nextOf;refine Aa (AX h.typeIs CC (A8 CC h.typeIs Eu ?_ (Eh _)));obtain⟨o,ho,hc,hd⟩:=id h;obtain⟨ot,Ũ,htc,n,Ť⟩:=id ht;show db _ _ (field (.ref it) 0 >>= λseq=>_) _ _ s;refine Aa (A7 ho hd rfl ?_);refine Aa (A7 ho hd rfl ?_);refine Aa (BK Ũ Ť ?_);show db _ _ (match items[i]? with | some x=>(do wS (.ref it) 1 (tz ((i:Int)+1));ret x) | none=>_) _ _ s;rw[hx];refine Aa (Dk ho hd (show 1 < 2 by decide) ?_);refine Af ⟨x,rfl,Af (q _ ⟨_,BX _ ho (by rw[DU (CB hd _)]),by rw[EY];exact hc,by rw[CB hd];rfl⟩ (B1.update ..))⟩
def Zw{Q:α->cr->Prop}(hA:A.handled=bm)
  (q:∀(h':pr) (e:ci),(∀b o,s.heap.get? b=ap o->h'.get? b=ap o)->(∃o,h'.get? e=ap o/\o.cls=.type "StopIteration")->E (.ref e) {s with heap:=h'}):db (ev prog w) A (Builtin.SmallTypes.stopIteration (α:=α)) Q E s:=by
 refine Aa ?_;refine Aa (Dm ?_ (by show 0<=sizeLine;decide));refine Aa (CJ (a:=AU) rfl ?_);refine AO ?_ (sizeOk_excFields ..);unfold raiseNew;refine Aa (FZ ?_);rw[hA];refine wpAny_throw (q _ _ (λb o e=>Ag _ (Ag _ e)) ⟨_,Ar _ rfl,rfl⟩)
def kZ{t:ci}(hA:A.handled=bm)(h:s.heap.IsTupleIter it t i)(ht:s.heap.IsTuple t items)(hx:items[i]?=bm)
  (q:∀(h':pr) (e:ci),EZ it s.heap h'->(∃o,h'.get? e=ap o/\o.cls=.type "StopIteration")->E (.ref e) {s with heap:=h'}):db (ev prog w) A (Builtin.SmallTypes.nextOf (.ref it)) Q E s:=by
 unfold Builtin.SmallTypes.nextOf;refine Aa (AX h.typeIs CC (A8 CC h.typeIs Eu ?_ (Eh _)));obtain⟨o,ho,hc,hd⟩:=id h;obtain⟨ot,Ũ,htc,n,Ť⟩:=id ht;show db _ _ (field (.ref it) 0 >>= λseq=>_) _ _ s;refine Aa (A7 ho hd rfl ?_);refine Aa (A7 ho hd rfl ?_);refine Aa (BK Ũ Ť ?_);show db _ _ (match items[i]? with | some x=>(do wS (.ref it) 1 (tz ((i:Int)+1));ret x) | none=>(do rule _;wS (.ref it) 0 .none;Builtin.SmallTypes.stopIteration)) _ _ s;rw[hx];refine Aa (Dl ?_);refine Aa (Dk ho hd (show 0 < 2 by decide) ?_);refine Zw (A:=A.in1) hA λh' e k ex=>q h' e (λb o n eb=>k b o ?_) ex;rw[(B1.update _ _ _).2 b n];exact eb
def Inv.wN{t':Nat}{a:ci}(I:Inv X Z σ H s)(hf:∀b∈ch,z0 X Z H b)(k:∀b u,b∉ch->s.heap.get? b=ap u->h'.get? b=ap u)
  (hp:s.heap.objs.size<=a) (new:bA X.prog X.w (upd H a o) h' a o):Inv X Z σ (upd H a o) {s with heap:=h',toks:=t'}:=by
 have hn:=I.bN.fresh hp;have è:∀b u,H b=ap u->b∉ch:=λb u e z=>by rw[(hf b z).1]at e;cases e
 have nL:X.env.locals∉ch:=λz=>(hf _ z).2.1 rfl;refine I.step (g':=s.gens) (d':=s.drawn) (ch:=ch) (λb hb=>⟨(hf b hb).2.2.2.1,(hf b hb).2.1,(hf b hb).2.2.2.2.1,(hf b hb).2.2.2.2.2⟩) (λb u _ _ hc e _=>k b u hc e) (λb u _ _ hc e _=>⟨u.slots,k b u hc e⟩)
  (λb u _ e n=>by rw[aD (AM (AV (Aw e) hp))];exact n) (λb u hc e=>⟨u,k b u hc e⟩) (λb xs e=>by rw[aD (b9 e hn)];exact e) (λb u xs e=>by rw[aD (b9 e hn)];exact e)
  (λb ps e=>⟨#[],by rw[aD (b9 e hn),e];simp⟩) (λm hm=>?_) (λb u e=>?_) I.bare
 ·obtain⟨o',es,ep,ho,r⟩:=hm;exact⟨o',es,ep,k _ o' nL ho,r⟩
 ·by_cases hb:b=a
  ·subst hb;rw[aW]at e;cases e;exact new
  ·rw[aD hb]at e;refine(I.bN b u e).Hu (λc v hc q=>k c v ?_ q) (λc q=>by rw[aD (b9 q hn)];exact q) λc xs q=>by rw[aD (b9 q hn)];exact q
   rcases hc with z | z
   ·rw[z];exact è b u e
   ·exact è c _ z
def Inv.Hl{t':Nat}(I:Inv X Z σ H s)(hf:∀b∈ch,z0 X Z H b)(k:∀b u,b∉ch->s.heap.get? b=ap u->h'.get? b=ap u) :
  Inv X Z σ H {s with heap:=h',toks:=t'}:=by
 have è:∀b u,H b=ap u->b∉ch:=λb u e z=>by rw[(hf b z).1]at e;cases e
 have nL:X.env.locals∉ch:=λz=>(hf _ z).2.1 rfl;refine I.step (g':=s.gens) (d':=s.drawn) (ch:=ch) (λb hb=>⟨(hf b hb).2.2.2.1,(hf b hb).2.1,(hf b hb).2.2.2.2.1,(hf b hb).2.2.2.2.2⟩) (λb u _ _ hc e _=>k b u hc e) (λb u _ _ hc e _=>⟨u.slots,k b u hc e⟩)
  (λ_ _ _ _ n=>n) (λb u hc e=>⟨u,k b u hc e⟩) (λ_ _ e=>e) (λ_ _ _ e=>e) (λb ps e=>⟨#[],by rw[e];simp⟩) (λm hm=>?_) (λb u e=>?_) I.bare
 ·obtain⟨o',es,ep,ho,r⟩:=hm;exact⟨o',es,ep,k _ o' nL ho,r⟩
 ·refine(I.bN b u e).Hu (λc v hc q=>k c v ?_ q) (λ_ q=>q) λ_ _ q=>q;rcases hc with z | z
  ·rw[z];exact è b u e
  ·exact è c _ z
def rf(h:Vals xs us):∀{i:Nat}{x:V},xs[i]?=ap x->∃u,us[i]?=ap u/\RelV x u:=by
 induction h with
 | nil=>intro i x e;simp at e
 | cons r t ih=>
  intro i x e;cases i with
  | zero=>simp at e;subst e;exact⟨_,rfl,r⟩
  | succ i=>exact ih (by simpa using e)
end L2
variable{e:BU}{Ë:Be}{Ñ:O B8}
namespace L2
def vJ{E:ce->cr->Prop}{t:ci}(UR:e≠it)(ľ:t≠e)(Ý:t≠it)
  (hz:IsEnum s.heap e it i Ë) (hi:s.heap.IsTupleIter it t i) (ht:s.heap.IsTuple t items) (hx:items[i]?=ap x)
  (q:∀(h':pr) (tk:Nat),IsEnumOut h' e it (i+1:Nat) x s.heap.objs.size->h'.IsTupleIter it t (i+1)->IsPair h' s.heap.objs.size (.int i s.toks) x->(∀c o,c≠e->c≠it->s.heap.get? c=ap o->h'.get? c=ap o)->Q (.ref s.heap.objs.size) {s with heap:=h',toks:=tk}) :
  db (ev prog w) A (wP.«enumerate.__next__» {pos:=[.ref e]}) (λfin s'=>∃v,fin=FI (Gd v)/\Q v s') E s:=by
 show db _ _ (field (.ref e) 2 >>= λr=>_) _ _ s;refine Aa (A7 hz rfl rfl ?_);refine Aa (j5 hi ht hx λh1 j1 b1=>?_);have z1:=(b1.2 _ UR).trans hz;refine Aa (A7 z1 rfl rfl ?_);refine Aa (A7 z1 rfl rfl ?_);refine Aa (wpAny_mkInt ?_);refine Aa (Bp z1 (show 3 < 6 by decide) λh2 z2 b2=>?_);refine Aa (Bp z2 (show 4 < 6 by decide) λh3 z3 b3=>?_);have sz3:=b3.1.trans (b2.1.trans b1.1);have Î:∀b,b≠e->b≠it->h3.get? b=s.heap.get? b:=λb n1 n2=>(b3.2 b n1).trans ((b2.2 b n1).trans (b1.2 b n2));refine Aa (Dm ?_ (by show 2<=sizeLine;decide));have kp:∀b o,h3.get? b=ap o->(h3.push {cls:=.type "tuple",data:=.seq [Ez i s.toks,x].toArray}).get? b=ap o:=λb o e=>Ag _ e;have ae2:(h3.push {cls:=.type "tuple",data:=.seq [Ez i s.toks,x].toArray}).get? h3.objs.size=ap {cls:=.type "tuple",data:=.seq #[.int i s.toks,x]}:=Ar _ rfl;generalize h3.push {cls:=.type "tuple",data:=.seq [Ez i s.toks,x].toArray}=h4 at kp ae2 ⊢;have z4:h4.get? e=ap {cls:=.type "enumerate",data:=.fields #[.none,.bool false,.ref it,tz (i+1),.none,Ë]}:=kp _ _ z3;refine Aa ?_;refine Aa (A7 z4 rfl rfl ?_);refine Af ?_;refine Aa (Dl ?_);refine Aa (A7 z4 rfl rfl ?_);refine Aa (Bp z4 (show 5 < 6 by decide) λh5 z5 b5=>?_);refine Aa ?_;refine Aa (Bp z5 (show 0 < 6 by decide) λh6 z6 b6=>?_);refine Bp z6 (show 1 < 6 by decide) λh7 z7 b7=>?_;refine Aa (C0 ?_);have afN:∀b,b≠e->h7.get? b=h4.get? b:=λb n=>(b7.2 b n).trans ((b6.2 b n).trans (b5.2 b n));have ne:s.heap.objs.size≠e:=λz=>by have:=Aw hz;rw[<- z]at this;exact Ba _ this
 refine Af ⟨.ref h3.objs.size,rfl,?_⟩;rw[sz3]at z7 ae2 ⊢;refine q h7 _ ?_ ?_ ?_ ?_
 ·exact z7
 ·obtain⟨o,eo,p⟩:=j1;refine⟨o,?_,p⟩;rw[afN _ (BW UR)];exact kp _ _ ((b3.2 _ (BW UR)).trans ((b2.2 _ (BW UR)).trans eo))
 ·rw[IsPair,afN _ ne];exact ae2
 ·intro c o n1 n2 ec;rw[afN _ n1];exact kp _ _ ((Î _ n1 n2).trans ec)
def yh{t:ci}{Q:PySem.Fin->cr->Prop}(hA:A.handled=bm)
  (hz:IsEnum s.heap e it i Ë) (hi:s.heap.IsTupleIter it t i) (ht:s.heap.IsTuple t items) (hx:items[i]?=bm)
  (q:∀(h':pr) (x:ci),(∀c o,c≠it->s.heap.get? c=ap o->h'.get? c=ap o)->(∃o,h'.get? x=ap o/\o.cls=.type "StopIteration")->E (.ref x) {s with heap:=h'}) :
  db (ev prog w) A (wP.«enumerate.__next__» {pos:=[.ref e]}) Q E s:=by
 show db _ _ (field (.ref e) 2 >>= λr=>_) _ _ s;refine Aa (A7 hz rfl rfl ?_);exact Aa (kZ hA hi ht hx λh' x k ex=>q h' x (λc o n e'=>k c o n e') ex)
def rD{t:ci}{Q:Option ce->cr->Prop}(UR:e≠it)(ľ:t≠e)(Ý:t≠it)
  (hz:IsEnum s.heap e it i Ë) (hi:s.heap.IsTupleIter it t i) (ht:s.heap.IsTuple t items) (hx:items[i]?=ap x)
  (q:∀(h':pr) (tk:Nat),IsEnumOut h' e it (i+1:Nat) x s.heap.objs.size->h'.IsTupleIter it t (i+1)->IsPair h' s.heap.objs.size (.int i s.toks) x->(∀c o,c≠e->c≠it->s.heap.get? c=ap o->h'.get? c=ap o)->Q (ap (.ref s.heap.objs.size)) {s with heap:=h',toks:=tk}) :
  db (ev prog w) A (KB (.ref e)) Q E s:=by
 have ty:s.TypeIs (.ref e) "enumerate":=⟨_,hz,rfl⟩;refine Aa (CO (AX ty C9 (A8 C9 ty Fg ?_ (Fb _))));exact vJ UR ľ Ý hz hi ht hx λh' tk a b c d=>Af (q h' tk a b c d)
def tM{t:ci}{Q:Option ce->cr->Prop}(hA:A.handled=bm)
  (hz:IsEnum s.heap e it i Ë) (hi:s.heap.IsTupleIter it t i) (ht:s.heap.IsTuple t items) (hx:items[i]?=bm)
  (q:∀h':pr,(∀c o,c≠it->s.heap.get? c=ap o->h'.get? c=ap o)->Q bm {s with heap:=h'}) :
  db (ev prog w) A (KB (.ref e)) Q E s:=by
 have ty:s.TypeIs (.ref e) "enumerate":=⟨_,hz,rfl⟩;refine Aa (CO (AX ty C9 (A8 C9 ty Fg ?_ (Fb _))));refine yh (A:=A.in1) hA hz hi ht hx λh' x k ex=>?_;obtain⟨o,eo,hc⟩:=ex;refine Aa (Dp (T:="StopIteration") ⟨o,eo,hc⟩ isSubtype_stop ?_);exact Af (q h' k)
def vo(t:ci)(items:Array ce):Meets (wP.«enumerate.__new__» {pos:=[.type "enumerate",.ref t]}) (λ_ R s=>s.heap.IsTuple t items/\
  ∀h':pr,IsEnum h' (s.heap.objs.size+1) s.heap.objs.size (0:Nat) .none->h'.IsTupleIter s.heap.objs.size t 0->(∀b o,s.heap.get? b=ap o->h'.get? b=ap o)->R (.ok (.ret (.ref (s.heap.objs.size+1)))) {s with heap:=h'}):=
 .of_wp λprog w A R s h=>by
  obtain⟨h1,q⟩:=h;refine Aa ?_;refine Aa (CJ (a:=true) rfl ?_);refine Aa (CJ sub_enumerate ?_);refine Af ?_;refine Aa ?_;refine Aa (wpAny_stack_any λst=>Af ?_);have fin:db (ev prog w) A.in1 (pyIter (.ref t) >>= λit=>(Builtin.SmallTypes.newRecord (.type "enumerate") (Builtin.SmallTypes.ownedTupleFields++[it,tz 0,.none,.none]) >>= λr=>ret r)) (λfin s'=>∃v,fin=FI (Gd v)/\R (Except.ok (Gd v)) s') (λe s'=>R (Except.error e) s') s:=by
   refine Aa (Dz h1 ?_);have k1:∀b o,s.heap.get? b=ap o->(s.heap.push {cls:=.type "tuple_iterator",data:=.fields #[.ref t,.int 0 0]}).get? b=ap o:=λb o e=>Ag _ e;have g1:(s.heap.push {cls:=.type "tuple_iterator",data:=.fields #[.ref t,.int 0 0]}).get? s.heap.objs.size=ap {cls:=.type "tuple_iterator",data:=.fields #[.ref t,.int 0 0]}:=Ar _ rfl;have z1:(s.heap.push {cls:=.type "tuple_iterator",data:=.fields #[.ref t,.int 0 0]}).objs.size=s.heap.objs.size+1:=CT ..;generalize s.heap.push {cls:=.type "tuple_iterator",data:=.fields #[.ref t,.int 0 0]}=IJ at k1 g1 z1 ⊢;show db _ _ (newObj (.type "enumerate") (.fields #[.none,.bool false,.ref s.heap.objs.size,tz 0,.none,.none]) >>= λr=>ret r) _ _ _;refine Aa (AO ?_ (by simp[sizeOk];decide));have g2:(IJ.push {cls:=.type "enumerate",data:=.fields #[.none,.bool false,.ref s.heap.objs.size,tz 0,.none,.none]}).get? IJ.objs.size=ap {cls:=.type "enumerate",data:=.fields #[.none,.bool false,.ref s.heap.objs.size,tz 0,.none,.none]}:=Ar _ rfl;refine Af ⟨.ref IJ.objs.size,rfl,?_⟩;rw[z1]at g2 ⊢;exact q _ g2 ⟨_,Ag _ g1,rfl,rfl⟩ λb o e=>Ag _ (k1 _ _ e)
  refine wpAny_ite_split (λ_=>?_) (λ_=>?_)
  ·exact Aa (CJ (a:=(AB t,bm)) rfl fin)
  ·exact Aa (CJ (a:=(AB t,bm)) rfl fin)
def Pj{t:ci}(h1:s.heap.IsTuple t items)
  (q:∀h':pr,IsEnum h' (s.heap.objs.size+1) s.heap.objs.size (0:Nat) .none->h'.IsTupleIter s.heap.objs.size t 0->(∀b o,s.heap.get? b=ap o->h'.get? b=ap o)->Q (.ref (s.heap.objs.size+1)) {s with heap:=h'}) :
  db (ev prog w) A (call (.type "enumerate") [.ref t]) Q E s:=
 callType_new F.called_enumerate ⋯ (F.typeCall_enumerate_1 _) (F.newCall_enumerate_1 _) (λo=>F.args_object_init_2 o _) F.entry_enumerate_new (vo t items) ⟨h1,λh' z i k=>⟨⟨_,z,rfl⟩,q h' z i k⟩⟩
def Ite(K:Ab)(a:ci):It where
 go:=λi H=>∃xs x,eW K H a xs/\xs[i]?=ap x
 yld:=λi H v H'=>∃p x,v=.ref p/\H p=bm/\H'=upd H p (.tup [.int i,x])/\∀xs,eW K H a xs->xs[i]?=ap x
 stop:=λi H=>∃xs,eW K H a xs/\xs.length<=i
theorem RL{K:Ab}{kk:Nat}{t:ci}(UR:e≠it)(ľ:t≠e)(Ý:t≠it):Turn P w K (.Tuple Ñ kk pos) (Ite K t) [e,it] e (λi h=>(∃Ë,IsEnum h e it (i:Nat) Ë)/\h.IsTupleIter it t i) where
 mem:=by simp
 obj:=λi h st b hb=>by
  simp only[AA,BQ,or_false]at hb;rcases hb with rfl | rfl
  ·obtain⟨⟨_,e⟩,_⟩:=st;exact⟨_,e,λv z=>by cases z⟩
  ·obtain⟨_,⟨o,e,_,d⟩⟩:=st;exact⟨o,e,λv z=>by rw[d]at z;cases z⟩
 keep:=λi h h' st k=>⟨let ⟨o,e'⟩:=st.1;⟨o,k e (by simp) _ e'⟩,let ⟨o,e',p⟩:=st.2;⟨o,k it (by simp) _ e',p⟩⟩
 item:=by
  intro X hP hw hK hc i Z s σ H E I hf st hg;subst hP hw hK;obtain⟨xs,x,hx,gx⟩:=hg;obtain⟨aw,rx,tx,_⟩:=I.tuple hx;obtain⟨u,gu,ru⟩:=rf rx gx;obtain⟨⟨Ë,hz⟩,hi⟩:=st;refine rD UR ľ Ý hz hi tx (by simpa using gu) λh' tk zo j np k=>?_;refine⟨_,rfl,?_⟩;refine EG zo λh2 z2 b2=>?_;have le:=Aw hz;have li:=let ⟨_,e',_⟩:=hi;Aw e';have lt:∀b∈[e,it],b < s.heap.objs.size:=λb hb=>by
   simp only[AA,BQ,or_false]at hb;rcases hb with rfl | rfl
   ·exact le
   ·exact li
  have nz:s.heap.objs.size≠e:=λz=>Ba _ (by have:=le;rw[<- z]at this;exact this);have Ġ:∀b o,b∉[e,it]->s.heap.get? b=ap o->h2.get? b=ap o:=λb o hb e'=>by
   have Tb:b≠e:=λq=>hb (by simp[q]);rw[b2.2 b Tb];exact k b o Tb (λq=>hb (by simp[q])) e'
  have Ĝ:h2.get? s.heap.objs.size=ap {cls:=.type "tuple",data:=.seq #[.int i s.toks,u]}:=(b2.2 _ nz).trans np;have Ĩ:=I.bN.fresh (An s.heap.objs.size);refine⟨.ref s.heap.objs.size,upd H s.heap.objs.size (.tup [.int i,x]),I.wN (t':=tk) hf Ġ (An _) ⟨by show 2<=sizeLine;decide,[.int i s.toks,u],.cons ⟨_,rfl⟩ (.cons ru .nil),⟨_,Ĝ,rfl,_,rfl⟩⟩,rfl,⟨_,x,rfl,Ĩ,rfl,λxs' h'=>by rw[I.oD h' hx];exact gx⟩,⟨⟨_,z2⟩,let ⟨o,e',p⟩:=j;⟨o,(b2.2 _ (BW UR)).trans e',p⟩⟩,λb hb=>?_⟩;rw[aD (AM (lt b hb))];exact(hf b hb).1
 done:=by
  intro X hP hw hK hc i Z s σ H E I hf st hg;subst hP hw hK;obtain⟨xs,hx,hl⟩:=hg;obtain⟨aw,rx,tx,_⟩:=I.tuple hx;have el:=rx.length;obtain⟨⟨Ë,hz⟩,hi⟩:=st;refine tM (I.ok.hd hc) hz hi tx (by simp;omega) λh' k=>⟨rfl,I.Hl (t':=s.toks) hf λb o hb e'=>k b o (λz=>hb (by simp[z])) e'⟩
 self:=λA i s Q E st h=>let ⟨_,e'⟩:=st.1;DJ e' h
end L2
namespace My
def YQ(l:O V)(i:Nat):Ent->O V
 | .word _=>l
 | .pair a b=>(l.set a (.int i)).set b (.int i)
def ah:O Ent->Nat->O V->O V
 | [],_,l=>l
 | e::es,i,l=>ah es (i+1) (YQ l i e)
theorem JJ:∀(es:O Ent) (e:Ent) (i:Nat) (l:O V),ah (es++[e]) i l=YQ (ah es i l) (i+es.length) e
 | [],e,i,l=>rfl
 | x::es,e,i,l=>by
  show ah (es++[e]) (i+1) (YQ l i x)=YQ (ah es (i+1) (YQ l i x)) (i+(es.length+1)) e;rw[JJ es e];congr 1;omega
def aca(l:O V)(i:Nat)(e:Ent):(YQ l i e).length=l.length:=by cases e with
 | word=>rfl
 | pair=>show((l.set _ _).set _ _).length=_;rw[B3,B3]
theorem Pq:∀(es:O Ent) (i:Nat) (l:O V),(ah es i l).length=l.length
 | [],_,_=>rfl
 | e::es,i,l=>by show(ah es (i+1) (YQ l i e)).length=_;rw[Pq es,aca]
end My
namespace L2
def Itd(lo:Int)(n:Nat):It:=⟨λi _=>i < n,λi H x H'=>H'=H/\x=.int (lo-i),λi _=>n<=i⟩
theorem Ke{K:Ab}(it:ci)(lo:Int)(n:Nat):Turn P w K tg (Itd lo n) [it] it (λi h=>IsRangeIter h it (lo+(i:Nat)*(-1)) ((n:Int)-(i:Nat)) (-1)) where
 mem:=by simp
 obj:=λi h st b hb=>by
  have e:b=it:=by simpa using hb
  subst e;exact⟨_,st,λv z=>by
   have z':=z;cases z'⟩
 keep:=λi h h' st k=>k it (by simp) _ st
 item:=by
  intro X hP hw hK hc i Z s σ H E I hf st hg;subst hP hw hK;obtain⟨f0,f1,f2,f3,f4,f5⟩:=hf it (by simp);have W:=Walks.range (prog:=X.prog) (w:=X.w) (I.ok.hd hc) it lo (-1) n;refine W.item i s _ _ hg st λv h' tk hv qU kk=>?_;obtain⟨t,rfl⟩:=hv;have I1:Inv X Z σ H {s with heap:=h',toks:=tk}:=I.turned (λb o hb e=>kk b o (by simpa using hb) e) f0 f1 f3 f4 f5;refine⟨_,rfl,xT (s:={s with heap:=h',toks:=tk}) (n:="range_iterator") qU rfl rfl ⋯ ⟨.int (lo-i),H,I1,⟨t,?_⟩,⟨rfl,rfl⟩,qU,λb hb=>(hf b hb).1⟩⟩;rw[show lo+(i:Int)*(-1)=lo-i by omega]
 done:=by
  intro X hP hw hK hc i Z s σ H E I hf st hg;obtain⟨f0,f1,f2,f3,f4,f5⟩:=hf it (by simp);exact wpAny_pyNext_range_end (I.ok.hd hc) st (by have:n<=i:=hg;omega) λh' eb=>⟨rfl,I.turned (t':=s.toks) (λb o hb e=>eb b o hb e) f0 f1 f3 f4 f5⟩
 self:=λ_ _ _ _ _ st h=>wpAny_pyIter_rangeiter st h
section
theorem R9{σ:St}{R:It->Hp->Prop}{lo hi:Int}{t u v:Tok}{tk:Nat}(I:Inv X Z σ H s)(h1:-(2 ^ 62)<=lo)(h2:lo < 2 ^ 62)(h3:-(2 ^ 62)<=hi)(h4:hi < 2 ^ 62)
  (q:R (Itd lo (lo-hi).toNat) H):db (ev X.prog X.w) X.A (pyIter (.ref s.heap.objs.size)) (PIE X Z σ tg R) E {s with heap:=s.heap.push {cls:=.type "range",data:=.fields #[.int lo t,.int hi u,.int (-1) v]},toks:=tk}:=by
 refine wpAny_pyIter_range (IsRange.new ..) (PySem.W.small_down h1 h2 h3 h4) ?_;have I1:Inv X Z σ H {s with heap:=s.heap.push {cls:=.type "range",data:=.fields #[.int lo t,.int hi u,.int (-1) v]},toks:=tk}:=I.kept λb o e=>Ag _ e;refine⟨(s.heap.push {cls:=.type "range",data:=.fields #[.int lo t,.int hi u,.int (-1) v]}).objs.size,[(s.heap.push {cls:=.type "range",data:=.fields #[.int lo t,.int hi u,.int (-1) v]}).objs.size],_,_,H,rfl,
  I1.kept (t':=tk) λb o e=>Ag _ e,Ke _ lo (lo-hi).toNat,?_,λb hb=>?_,q⟩
 ·have e1:lo+((0:Nat):Int)*(-1)=lo:=by simp
  have e2:(((lo-hi).toNat:Nat):Int)-((0:Nat):Int)=Builtin.Range.rangeSize lo hi (-1):=by rw[PySem.W.rangeSize_down];split <;> omega
  show IsRangeIter _ _ (lo+((0:Nat):Int)*(-1)) ((((lo-hi).toNat:Nat):Int)-((0:Nat):Int)) (-1);rw[e1,e2];exact Ar _ rfl
 ·have e:b=(s.heap.push {cls:=.type "range",data:=.fields #[.int lo t,.int hi u,.int (-1) v]}).objs.size:=by simpa using hb
  subst e;exact I1.xZ (An _) (I1.bN.fresh (An _))
def ai6(ta:TA):TI:=λσ H R=>ta σ H λvs H1=>∃i j:Int,vs=[.int i,.int j,.int (-1)]/\(-(2 ^ 62)<=i/\i < 2 ^ 62/\-(2 ^ 62)<=j/\j < 2 ^ 62)/\R (Itd i (i-j).toNat) H1
def Sg{c:lc}{ta:TA}(hg:Gl X "range")(hm:X.mg "range"=bm)(ha:PA X [a,b,c] ta)(hs:‹im [a,b,c] X.env=[(false,lw a X.env),(false,lw b X.env),(false,lw c X.env)]›)(sC:‹im [b,c] X.env=[(false,lw b X.env),(false,lw c X.env)]›) :
  PI X tg (.Call (.Name "range" p) [a,b,c] [] pos) (ai6 ta):=by
 intro Z s σ H R I h;refine Call_ (jx I hg hm boot_range (Bg (bS (ha pos Z s σ H _ I h) λus s1 ⟨vs,H1,I1,r1,q1⟩=>?_) (by show im _ _=_;rw[hs,sC]) (by rw[sC];rfl)));obtain⟨i,j,e,⟨q1,q2,q3,q4⟩,q⟩:=q1;subst e;cases r1 with
 | cons r rr=>
  cases rr with
  | cons r' rr=>
   cases rr with
   | cons r'' rr=>
    cases rr;obtain⟨t,rfl⟩:=r;obtain⟨t',rfl⟩:=r';obtain⟨t'',rfl⟩:=r'';refine call_range_3 ⋯ (R9 I1 q1 q2 q3 q4 q) (.inl ?_);unfold Builtin.divisionGoesByPylong;have e1:decide ((if ((-1:Int)==0)=true then 0 else (-1:Int).natAbs.log2 / 30+1) > 300)=false:=by decide
    simp only[e1,FQ]
end
def akj(K:Ab)(a:ci):It where
 go:=λi H=>∃xs x,eN K H a xs/\xs[i]?=ap x
 yld:=λi H v H'=>∃p x,v=.ref p/\H p=bm/\H'=upd H p (.tup [.int i,x])/\∀xs,eN K H a xs->xs[i]?=ap x
 stop:=λi H=>∃xs,eN K H a xs/\xs.length<=i
theorem M7{K:Ab}{kk:Nat}{t:ci}(UR:e≠it):Turn P w K (.Tuple Ñ kk pos) (akj K t) [e,it] e (λi h=>(∃Ë,IsEnum h e it (i:Nat) Ë)/\h.IsListIter it t i) where
 mem:=by simp
 obj:=λi h st b hb=>by
  simp only[AA,BQ,or_false]at hb;rcases hb with rfl | rfl
  ·obtain⟨⟨_,e⟩,_⟩:=st;exact⟨_,e,λv z=>by cases z⟩
  ·obtain⟨_,⟨o,e,_,d⟩⟩:=st;exact⟨o,e,λv z=>by rw[d]at z;cases z⟩
 keep:=λi h h' st k=>⟨let ⟨o,e'⟩:=st.1;⟨o,k e (by simp) _ e'⟩,let ⟨o,e',p⟩:=st.2;⟨o,k it (by simp) _ e',p⟩⟩
 item:=by
  intro X hP hw hK hc i Z s σ H E I hf st hg;subst hP hw hK;obtain⟨xs,x,hx,gx⟩:=hg;obtain⟨aw,rx,tx,_⟩:=I.list hx;obtain⟨u,gu,ru⟩:=rf rx gx;obtain⟨⟨Ë,hz⟩,hi⟩:=st;refine wpAny_pyNext_enum_item hz hi tx.isList (by simpa using gu) UR λh' zo j np _ k=>?_;refine⟨_,rfl,?_⟩;refine EG zo λh2 z2 b2=>?_;have le:=Aw hz;have li:=let ⟨_,e',_⟩:=hi;Aw e';have lt:∀b∈[e,it],b < s.heap.objs.size:=λb hb=>by
   simp only[AA,BQ,or_false]at hb;rcases hb with rfl | rfl
   ·exact le
   ·exact li
  have nz:s.heap.objs.size≠e:=λz=>Ba _ (by have:=le;rw[<- z]at this;exact this);have Ġ:∀b o,b∉[e,it]->s.heap.get? b=ap o->h2.get? b=ap o:=λb o hb e'=>by
   have Tb:b≠e:=λq=>hb (by simp[q]);rw[b2.2 b Tb];exact k b o Tb (λq=>hb (by simp[q])) e'
  have Ĝ:h2.get? s.heap.objs.size=ap {cls:=.type "tuple",data:=.seq #[.int i s.toks,u]}:=(b2.2 _ nz).trans np;have Ĩ:=I.bN.fresh (An s.heap.objs.size);refine⟨.ref s.heap.objs.size,upd H s.heap.objs.size (.tup [.int i,x]),I.wN (t':=s.toks+1) hf Ġ (An _) ⟨by show 2<=sizeLine;decide,[.int i s.toks,u],.cons ⟨_,rfl⟩ (.cons ru .nil),⟨_,Ĝ,rfl,_,rfl⟩⟩,rfl,⟨_,x,rfl,Ĩ,rfl,λxs' h'=>by rw[I.K5 h' hx];exact gx⟩,⟨⟨_,z2⟩,let ⟨o,e',p⟩:=j;⟨o,(b2.2 _ (BW UR)).trans e',p⟩⟩,λb hb=>?_⟩;rw[aD (AM (lt b hb))];exact(hf b hb).1
 done:=by
  intro X hP hw hK hc i Z s σ H E I hf st hg;subst hP hw hK;obtain⟨xs,hx,hl⟩:=hg;obtain⟨aw,rx,tx,_⟩:=I.list hx;have el:=rx.length;obtain⟨⟨Ë,hz⟩,hi⟩:=st;refine wpAny_pyNext_enum_end (I.ok.hd hc) hz hi tx.isList (by simp;omega) λh' k=>⟨rfl,I.Hl (t':=s.toks) hf λb o hb e'=>k b o (λz=>hb (by simp[z])) e'⟩
 self:=λA i s Q E st h=>let ⟨_,e'⟩:=st.1;DJ e' h
end L2
namespace My
def en:Tr->Nat->Nat->Ent
 | .leaf x,_,_=>.word x
 | .node l r,o,j=>if j < l.size then en l o j else if j < l.size+r.size then en r (o+l.size) (j-l.size) else .pair (o+l.size-1) (o+l.size+r.size-1)
def up:Tr->Nat->Nat->O Nat->O Nat
 | .leaf _,o,_,ab=>o::ab
 | .node l r,o,j,ab=>if j < l.size then up l o j ((o+l.size+r.size)::ab) else if j < l.size+r.size then up r (o+l.size) (j-l.size) ((o+l.size+r.size)::ab) else (o+l.size+r.size)::ab
def mM:Tr->Nat->Nat->V->V
 | .leaf _,_,_,p=>p
 | .node l r,o,j,p=>if j < l.size then mM l o j (.int (o+l.size+r.size:Nat)) else if j < l.size+r.size then mM r (o+l.size) (j-l.size) (.int (o+l.size+r.size:Nat)) else p
def be:Tr->Nat->Nat->O Nat
 | .leaf _,o,_=>[o]
 | .node l r,o,j=>if j < l.size then be l o j else if j < l.size+r.size then be r (o+l.size) (j-l.size) else be l o (l.size-1)++be r (o+l.size) (r.size-1)
theorem gk:∀(t:Tr) (o j:Nat),j < t.size->(t.nd o)[j]?=ap (en t o j)
 | .leaf x,o,j,h=>by
  have:j=0:=by have:j < 1:=h;omega
  subst this;rfl
 | .node l r,o,j,h=>by
  have es:(Tr.node l r).size=l.size+r.size+1:=rfl;have hn:(Tr.node l r).nd o=l.nd o++r.nd (o+l.size)++[.pair (o+l.size-1) (o+l.size+r.size-1)]:=rfl;have ln:=l.bG o;have rn:=r.bG (o+l.size);unfold en;by_cases c1:j < l.size
  ·rw[if_pos c1,hn,AH,A4 ∅];exact gk l o j c1
  ·rw[if_neg c1];by_cases c2:j < l.size+r.size
   ·rw[if_pos c2,hn,AH,Bc ∅,A4 ∅,ln];exact gk r _ _ ∅
   ·rw[if_neg c2,hn,Bc (by rw[Ah];omega),Ah,ln,rn];have:j-(l.size+r.size)=0:=by omega
    rw[this];rfl
theorem YJ:∀(t:Tr) (o j:Nat),j < t.size->(∃x,en t o j=.word x/\be t o j=[o+j])\/∃a b,en t o j=.pair (o+a) (o+b)/\a < j/\b < j/\be t o j=be t o a++be t o b
 | .leaf x,o,j,h=>by
  have:j=0:=by have:j < 1:=h;omega
  subst this;exact .inl ⟨x,rfl,rfl⟩
 | .node l r,o,j,h=>by
  have es:(Tr.node l r).size=l.size+r.size+1:=rfl;have lp:=l.size_pos;have rp:=r.size_pos;by_cases c1:j < l.size
  ·have e1:en (.node l r) o j=en l o j:=by rw[en,if_pos c1]
   have e2:∀k,k < l.size->be (.node l r) o k=be l o k:=λk hk=>by rw[be,if_pos hk]
   rw[e1];rcases YJ l o j c1 with⟨x,q1,q2⟩ | ⟨a,b,q1,q2,q3,q4⟩
   ·exact .inl ⟨x,q1,by rw[e2 j c1];exact q2⟩
   ·exact .inr ⟨a,b,q1,q2,q3,by rw[e2 j c1,e2 a ∅,e2 b ∅];exact q4⟩
  ·by_cases c2:j < l.size+r.size
   ·have e1:en (.node l r) o j=en r (o+l.size) (j-l.size):=by rw[en,if_neg c1,if_pos c2]
    have e2:∀k,k < r.size->be (.node l r) o (l.size+k)=be r (o+l.size) k:=λk hk=>by
     rw[be,if_neg ∅,if_pos ∅];congr 1;omega
    have ej:j=l.size+(j-l.size):=by omega
    rw[e1];rcases YJ r (o+l.size) (j-l.size) ∅ with⟨x,q1,q2⟩ | ⟨a,b,q1,q2,q3,q4⟩
    ·refine .inl ⟨x,q1,?_⟩;rw[ej,e2 _ ∅,q2];congr 1;omega
    ·refine .inr ⟨l.size+a,l.size+b,?_,by omega,by omega,?_⟩
     ·rw[q1,Bk,Bk]
     ·rw[e2 a ∅,e2 b ∅,ej,e2 _ ∅,q4]
   ·have ej:j=l.size+r.size:=by omega
    refine .inr ⟨l.size-1,l.size+r.size-1,?_,by omega,by omega,?_⟩
    ·rw[en,if_neg c1,if_neg c2];congr 1 <;> omega
    ·rw[be,if_neg c1,if_neg c2,be,if_pos ∅,be,if_neg ∅,if_pos ∅];congr 2;omega
theorem wL:∀(t:Tr) (o j:Nat) (p:V) (ab:O Nat),j < t.size->(j=t.size-1/\mM t o j p=p/\up t o j ab=(o+j)::ab)\/∃a,j < a/\a < t.size/\mM t o j p=.int (o+a:Nat)/\up t o j ab=(o+j)::up t o a ab
 | .leaf x,o,j,p,ab,h=>by
  have:j=0:=by have:j < 1:=h;omega
  subst this;exact .inl ⟨rfl,rfl,rfl⟩
 | .node l r,o,j,p,ab,h=>by
  have es:(Tr.node l r).size=l.size+r.size+1:=rfl;have lp:=l.size_pos;have rp:=r.size_pos;have er:up (.node l r) o (l.size+r.size) ab=(o+l.size+r.size)::ab:=by rw[up,if_neg ∅,if_neg ∅]
  by_cases c1:j < l.size
  ·have e1:mM (.node l r) o j p=mM l o j (.int (o+l.size+r.size:Nat)):=by rw[mM,if_pos c1]
   have e2:∀k,k < l.size->up (.node l r) o k ab=up l o k ((o+l.size+r.size)::ab):=λk hk=>by rw[up,if_pos hk]
   rw[e1,e2 j c1];rcases wL l o j (.int (o+l.size+r.size:Nat)) ((o+l.size+r.size)::ab) c1 with⟨q1,q2,q3⟩ | ⟨a,q1,q2,q3,q4⟩
   ·refine .inr ⟨l.size+r.size,by omega,by omega,by rw[q2,Bk],by rw[q3,er]⟩
   ·exact .inr ⟨a,q1,by omega,q3,by rw[q4,e2 a q2]⟩
  ·by_cases c2:j < l.size+r.size
   ·have e1:mM (.node l r) o j p=mM r (o+l.size) (j-l.size) (.int (o+l.size+r.size:Nat)):=by rw[mM,if_neg c1,if_pos c2]
    have e2:∀k,k < r.size->up (.node l r) o (l.size+k) ab=up r (o+l.size) k ((o+l.size+r.size)::ab):=λk hk=>by
     rw[up,if_neg ∅,if_pos ∅];congr 1;omega
    obtain⟨i,rfl⟩:∃i,j=l.size+i:=⟨j-l.size,by omega⟩;have ei:l.size+i-l.size=i:=by omega
    rw[e1,e2 i ∅,ei];rcases wL r (o+l.size) i (.int (o+l.size+r.size:Nat)) ((o+l.size+r.size)::ab) ∅ with⟨q1,q2,q3⟩ | ⟨a,q1,q2,q3,q4⟩
    ·refine .inr ⟨l.size+r.size,by omega,by omega,by rw[q2,Bk],by rw[q3,er,Bk]⟩
    ·exact .inr ⟨l.size+a,by omega,by omega,by rw[q3,Bk],by rw[q4,e2 a q2,Bk]⟩
   ·have ej:j=l.size+r.size:=by omega
    refine .inl ⟨by omega,by rw[mM,if_neg c1,if_neg c2],?_⟩;rw[ej,er,Bk]
def qg:Tr->Nat->V->O V
 | .leaf _,_,p=>[p]
 | .node l r,o,p=>qg l o (.int (o+l.size+r.size:Nat))++qg r (o+l.size) (.int (o+l.size+r.size:Nat))++[p]
theorem mL:∀(t:Tr) (o:Nat) (p:V),(qg t o p).length=t.size
 | .leaf _,_,_=>rfl
 | .node l r,o,p=>by
  unfold qg;rw[Ah,Ah,mL l,mL r];rfl
theorem RB(t:Tr)(o:Nat)(p q:V)(A B:O V):(A++qg t o p++B).set (A.length+t.size-1) q=A++qg t o q++B:=by
 have key:∃I,qg t o p=I++[p]/\qg t o q=I++[q]:=by
  cases t with
  | leaf _=>exact⟨[],rfl,rfl⟩
  | node l r=>exact⟨_,rfl,rfl⟩
 obtain⟨I,e1,e2⟩:=key;have h1:=mL t o p;rw[e1,Ah]at h1;have iH:I.length+1=t.size:=h1;rw[e1,e2];have ei:A.length+t.size-1=(A++I).length:=by rw[Ah];omega
 rw[ei,show A++(I++[p])++B=(A++I)++p::B by simp,List.set_append_right _ _ (An _),Cy];simp
theorem YO:∀(es fs:O Ent) (i:Nat) (l:O V),ah (es++fs) i l=ah fs (i+es.length) (ah es i l)
 | [],fs,i,l=>rfl
 | e::es,fs,i,l=>by
  show ah (es++fs) (i+1) (YQ l i e)=ah fs (i+(es.length+1)) (ah es (i+1) (YQ l i e));rw[YO es fs];congr 1;omega
theorem Pr:∀(t:Tr) (A B:O V),ah (t.nd A.length) A.length (A++Au t.size .aL++B)=A++qg t A.length .aL++B
 | .leaf x,A,B=>rfl
 | .node l r,A,B=>by
  have es:(Tr.node l r).size=l.size+r.size+1:=rfl;have hn:(Tr.node l r).nd A.length=l.nd A.length++r.nd (A.length+l.size)++[.pair (A.length+l.size-1) (A.length+l.size+r.size-1)]:=rfl;have ln:=l.bG A.length;have rn:=r.bG (A.length+l.size);have h1:=Pr l A (Au r.size .aL++([V.aL]++B));have e0:A++Au (Tr.node l r).size V.aL++B=A++Au l.size .aL++(Au r.size .aL++([V.aL]++B)):=by
   rw[es,<- DS,<- DS];simp only[AH];rfl
  rw[hn,JJ,YO,e0,h1,ln];have la:(A++qg l A.length V.aL).length=A.length+l.size:=by rw[Ah,mL]
  have h2:=Pr r (A++qg l A.length V.aL) ([V.aL]++B);rw[la]at h2;have e1:A++qg l A.length V.aL++(Au r.size V.aL++([V.aL]++B))=A++qg l A.length V.aL++Au r.size V.aL++([V.aL]++B):=by simp[AH]
  rw[e1,h2,Ah,ln,rn];show((_:O V).set (A.length+l.size-1) _).set (A.length+l.size+r.size-1) _=_;have s1:=RB l A.length .aL (.int (A.length+(l.size+r.size):Nat)) A (qg r (A.length+l.size) V.aL++([V.aL]++B));have e2:A++qg l A.length V.aL++qg r (A.length+l.size) V.aL++([V.aL]++B)=A++qg l A.length V.aL++(qg r (A.length+l.size) V.aL++([V.aL]++B)):=by simp[AH]
  rw[e2,s1];have lb:(A++qg l A.length (V.int (A.length+(l.size+r.size):Nat))).length=A.length+l.size:=by rw[Ah,mL]
  have s2:=RB r (A.length+l.size) .aL (.int (A.length+(l.size+r.size):Nat)) (A++qg l A.length (V.int (A.length+(l.size+r.size):Nat))) ([V.aL]++B);rw[lb]at s2;have e3:A++qg l A.length (V.int (A.length+(l.size+r.size):Nat))++(qg r (A.length+l.size) V.aL++([V.aL]++B))=A++qg l A.length (V.int (A.length+(l.size+r.size):Nat))++qg r (A.length+l.size) V.aL++([V.aL]++B):=by simp[AH]
  rw[e3,s2];have e4:qg (.node l r) A.length .aL=qg l A.length (.int (A.length+l.size+r.size:Nat))++qg r (A.length+l.size) (.int (A.length+l.size+r.size:Nat))++[.aL]:=rfl;rw[e4,Bk A.length l.size r.size];simp[AH]
theorem JH:∀(t:Tr) (o j:Nat) (p:V),j < t.size->(qg t o p)[j]?=ap (mM t o j p)
 | .leaf x,o,j,p,h=>by
  have:j=0:=by have:j < 1:=h;omega
  subst this;rfl
 | .node l r,o,j,p,h=>by
  have es:(Tr.node l r).size=l.size+r.size+1:=rfl;have ln:=mL l o (.int (o+l.size+r.size:Nat));have rn:=mL r (o+l.size) (.int (o+l.size+r.size:Nat));unfold qg mM;by_cases c1:j < l.size
  ·rw[if_pos c1,AH,A4 ∅];exact JH l _ _ _ c1
  ·rw[if_neg c1];by_cases c2:j < l.size+r.size
   ·rw[if_pos c2,AH,Bc ∅,A4 ∅,ln];exact JH r _ _ _ ∅
   ·rw[if_neg c2,Bc (by rw[Ah];omega),Ah,ln,rn];have:j-(l.size+r.size)=0:=by omega
    rw[this];rfl
def agp(t:Tr)(h:j < t.size):(ah (t.nd 0) 0 (Au t.size .aL))[j]?=ap (mM t 0 j .aL):=by
 have q:=Pr t [] [];have e:([]:O V)++Au t.size .aL++[]=Au t.size .aL:=by simp
 have e2:([]:O V)++qg t ([]:O V).length .aL++[]=qg t 0 .aL:=by simp
 rw[e,e2]at q;have q':ah (t.nd 0) 0 (Au t.size .aL)=qg t 0 .aL:=q;rw[q'];exact JH t 0 j .aL h
end My
variable{H1:L2.Hp}{ι:O BU}
namespace PL
section
variable{K:Ab}
def FzL(K:Ab)(H:Hp)(a:ci)(xs:O V):Prop:=(∃o,H a=ap (.c6 o (.lst xs)))\/
  ∃(o:Obj) (aw:Array ce) (n:Nat),K.lookup a=ap o/\o.cls=.type "list"/\o.dict=bm/\o.data=.seq aw n/\aw.size<=sizeLine/\Vals xs aw.toList
def FzL.sq{a:ci}(h:FzL K H a xs):eN K H a xs:=h.elim (λh=>.inl (.inr h)) .inr
structure bQ(K:Ab)(H H':Hp):Prop where
 t:∀p vs,H p=ap (.tup vs)->H' p=ap (.tup vs)
 z:∀p o u,H p=ap (.c6 o u)->H' p=ap (.c6 o u)
def bQ.f{H H':Hp}(t:bQ K H H')(p:ci)(vs:O V)(h:FzL K H p vs):FzL K H' p vs:=h.elim (λ⟨o,h⟩=>.inl ⟨o,t.z _ _ _ h⟩) .inr
def bQ.refl(H:Hp):bQ K H H:=⟨λ_ _ h=>h,λ_ _ _ h=>h⟩
def bQ.trans(a:bQ K H H1)(b:bQ K H1 H2):bQ K H H2:=⟨λp vs h=>b.t p vs (a.t p vs h),λp o w h=>b.z p o w (a.z p o w h)⟩
def _root_.L2.mP.fM(s:mP H H'):bQ K H H':=⟨λp vs h=>s _ _ h,λp o u h=>s _ _ h⟩
inductive PV where
 | aL | bl (b:Bool) | int (i:Int) | str (x:Str) | tup (l:List PV) | ref (n:Nat) | ty (n:String) | cl (l:List PV) | dv (ks vs:List PV)
def kP:Key->PV
 | .inl i=>.int i
 | .inr x=>.str x
inductive PO where
 | lst (xs:List PV) | dk (kvs:List (Key×PV)) | dt (kvs:List (List Key×PV)) | opq (φ:List V->Prop)
abbrev PH:=O PO
abbrev J5:=O (Option PV)
mutual
inductive VR(K:Ab)(ι:List ci)(H:Hp):V->PV->Prop
 | aL:VR K ι H .aL .aL
 | bl (b:Bool):VR K ι H (.bl b) (.bl b)
 | int (i:Int):VR K ι H (.int i) (.int i)
 | str (x:Str):VR K ι H (.str x) (.str x)
 | ty (n:String):VR K ι H (.ty n) (.ty n)
 | tup {p:ci}{vs:List V}{l:List PV} (h:H p=ap (.tup vs)) (r:aO K ι H vs l):VR K ι H (.ref p) (.tup l)
 | ref {n:Nat}{a:ci} (h:ι[n]?=ap a):VR K ι H (.ref a) (.ref n)
 | cl {a:ci}{vs:List V}{l:List PV} (h:FzL K H a vs) (r:aO K ι H vs l):VR K ι H (.ref a) (.cl l)
 | dk {a:ci}{o:Obj}{kvs:List (Key×V)}{ks l:List PV} (h:H a=ap (.c6 o (.dK kvs))) (e:ks=kvs.map λkv=>kP kv.1) (r:aO K ι H (kvs.map (·.2)) l):VR K ι H (.ref a) (.dv ks l)
 | dt {a:ci}{o:Obj}{kvs:List (List Key×V)}{ks l:List PV} (h:H a=ap (.c6 o (.dT kvs))) (e:ks=kvs.map λkv=>.tup (kv.1.map kP)) (r:aO K ι H (kvs.map (·.2)) l):VR K ι H (.ref a) (.dv ks l)
inductive aO(K:Ab)(ι:List ci)(H:Hp):List V->List PV->Prop
 | nil:aO K ι H [] []
 | cons {v:V}{p:PV}{vs:List V}{ps:List PV} (r:VR K ι H v p) (t:aO K ι H vs ps):aO K ι H (v::vs) (p::ps)
end
section
variable{ι':O ci}
mutual
theorem VR.mono(ht:bQ K H H')(hi:∀(n:Nat) (a:ci),ι[n]?=ap a->ι'[n]?=ap a):∀{v:V}{p:PV},VR K ι H v p->VR K ι' H' v p
 | _,_,.aL=>.aL
 | _,_,.bl b=>.bl b
 | _,_,.int i=>.int i
 | _,_,.str x=>.str x
 | _,_,.ty n=>.ty n
 | _,_,.tup h r=>.tup (ht.t _ _ h) (aO.mono ht hi r)
 | _,_,.cl h r=>.cl (ht.f _ _ h) (aO.mono ht hi r)
 | _,_,.dk h e r=>.dk (ht.z _ _ _ h) e (aO.mono ht hi r)
 | _,_,.dt h e r=>.dt (ht.z _ _ _ h) e (aO.mono ht hi r)
 | _,_,.ref h=>.ref (hi _ _ h)
theorem aO.mono(ht:bQ K H H')(hi:∀(n:Nat) (a:ci),ι[n]?=ap a->ι'[n]?=ap a):∀{vs:O V}{ps:O PV},aO K ι H vs ps->aO K ι' H' vs ps
 | _,_,.nil=>.nil
 | _,_,.cons r t=>.cons (VR.mono ht hi r) (aO.mono ht hi t)
end
theorem aO.length:∀{vs:O V}{ps:O PV},aO K ι H vs ps->vs.length=ps.length
 | _,_,.nil=>rfl
 | _,_,.cons _ t=>by rw[Ap,Ap,aO.length t]
theorem aO.get:∀{vs:O V}{ps:O PV}{i:Nat}{p:PV},aO K ι H vs ps->ps[i]?=ap p->∃v,vs[i]?=ap v/\VR K ι H v p
 | _,_,_,_,.nil,e=>by simp at e
 | _,_,0,_,.cons r _,e=>by simp at e;subst e;exact⟨_,rfl,r⟩
 | _,_,i+1,p,.cons _ t,e=>by
  obtain⟨v,h1,h2⟩:=aO.get (i:=i) (p:=p) t (by simpa using e);exact⟨v,by simpa using h1,h2⟩
theorem aO.ajA:∀{vs:O V}{ps:O PV}{i:Nat}{v:V},aO K ι H vs ps->vs[i]?=ap v->∃p,ps[i]?=ap p/\VR K ι H v p
 | _,_,_,_,.nil,e=>by simp at e
 | _,_,0,_,.cons r _,e=>by simp at e;subst e;exact⟨_,rfl,r⟩
 | _,_,i+1,p,.cons _ t,e=>by
  obtain⟨v,h1,h2⟩:=aO.ajA (i:=i) (v:=p) t (by simpa using e);exact⟨v,by simpa using h1,h2⟩
theorem aO.set{p:PV}(r:VR K ι H v p):∀{vs:O V}{ps:O PV} (i:Nat),aO K ι H vs ps->aO K ι H (vs.set i v) (ps.set i p)
 | _,_,_,.nil=>.nil
 | _,_,0,.cons _ t=>.cons r t
 | _,_,i+1,.cons q t=>.cons q (aO.set r i t)
theorem aO.append:∀{xs ys:O V}{us ws:O PV},aO K ι H xs us->aO K ι H ys ws->aO K ι H (xs++ys) (us++ws)
 | _,_,_,_,.nil,s=>s
 | _,_,_,_,.cons r t,s=>.cons r (aO.append t s)
theorem aO.take:∀{xs:O V}{us:O PV} (n:Nat),aO K ι H xs us->aO K ι H (xs.take n) (us.take n)
 | _,_,0,_=>.nil
 | _,_,_+1,.nil=>.nil
 | _,_,n+1,.cons r t=>.cons r (aO.take n t)
theorem aO.drop:∀{xs:O V}{us:O PV} (n:Nat),aO K ι H xs us->aO K ι H (xs.drop n) (us.drop n)
 | _,_,0,r=>r
 | _,_,_+1,.nil=>.nil
 | _,_,n+1,.cons _ t=>aO.drop n t
theorem aO.reverse:∀{xs:O V}{us:O PV},aO K ι H xs us->aO K ι H xs.reverse us.reverse
 | _,_,.nil=>.nil
 | _,_,.cons r t=>by rw[Dh,Dh];exact(aO.reverse t).append (.cons r .nil)
def aO.one{p:PV}(r:VR K ι H v p):aO K ι H [v] [p]:=.cons r .nil
end
structure Go(ι ι':List ci)(H H':Hp):Prop where
 ext:∃m,ι'=ι++m
 new:∀a,a∈ι'->a∉ι->H a=bm
 keep:∀a o,a∉ι->H a=ap o->H' a=ap o
def Go.refl(ι:O ci)(H:Hp):Go ι ι H H:=⟨⟨[],by simp⟩,λa h n=>absurd h n,λ_ _ _ h=>h⟩
def OR(K:Ab)(ι:O ci)(H:Hp)(a:ci):PO->Prop
 | .lst xs=>∃vs,H a=ap (.lst vs)/\aO K ι H vs xs
 | .dk kvs=>∃vs:O (Key×V),H a=ap (.dK vs)/\vs.map (·.1)=kvs.map (·.1)/\aO K ι H (vs.map (·.2)) (kvs.map (·.2))
 | .dt kvs=>∃vs:O (O Key×V),H a=ap (.dT vs)/\vs.map (·.1)=kvs.map (·.1)/\aO K ι H (vs.map (·.2)) (kvs.map (·.2))
 | .opq φ=>∃vs,H a=ap (.lst vs)/\φ vs
structure HR(K:Ab)(ι:List ci)(H:Hp)(h:PH):Prop where
 nd:ι.Nodup
 len:ι.length=h.length
 obj:∀(n:Nat) (a:ci) (o:PO),ι[n]?=ap a->h[n]?=ap o->OR K ι H a o
end
end PL
variable{e:B8}
namespace PL
section
variable{K:Ab}
abbrev QV:=PV->PH->Prop
structure ME where
 run:J5->PH->QV->Prop
 mono:∀{ps h}{Q Q':QV},(∀v h',Q v h'->Q' v h')->run ps h Q->run ps h Q'
structure MT where
 run:J5->PH->(Bool->PH->Prop)->Prop
 mono:∀{ps h}{Q Q':Bool->PH->Prop},(∀v h',Q v h'->Q' v h')->run ps h Q->run ps h Q'
structure MA where
 run:J5->PH->(List PV->PH->Prop)->Prop
 mono:∀{ps h}{Q Q':List PV->PH->Prop},(∀v h',Q v h'->Q' v h')->run ps h Q->run ps h Q'
structure ML where
 run:J5->PH->(List PV->PH->Prop)->Prop
 mono:∀{ps h}{Q Q':List PV->PH->Prop},(∀v h',Q v h'->Q' v h')->run ps h Q->run ps h Q'
structure Src where
 items:List PV
 ok:PH->Prop
 fz:Bool
structure MI where
 run:J5->PH->(Src->PH->Prop)->Prop
 mono:∀{ps h}{Q Q':Src->PH->Prop},(∀v h',Q v h'->Q' v h')->run ps h Q->run ps h Q'
structure PD where
 nx:J5->PH->Prop
 rt:QV
 bk:J5->PH->Prop
 ct:J5->PH->Prop
structure PD.Le(D D':PD):Prop where
 nx:∀ps h,D.nx ps h->D'.nx ps h
 rt:∀v h,D.rt v h->D'.rt v h
 bk:∀ps h,D.bk ps h->D'.bk ps h
 ct:∀ps h,D.ct ps h->D'.ct ps h
structure MS where
 run:PD->J5->PH->Prop
 mono:∀{D D' ps h},PD.Le D D'->run D ps h->run D' ps h
structure MG where
 run:PV->J5->PH->(J5->PH->Prop)->Prop
 mono:∀{v ps h}{Q Q':J5->PH->Prop},(∀ps h,Q ps h->Q' ps h)->run v ps h Q->run v ps h Q'
def pQ(K:Ab)(ι:O ci)(H:Hp)(Q:VK):QV:=λp h'=>∀ι' v H',Go ι ι' H H'->HR K ι' H' h'->VR K ι' H' v p->Q v H'
def PE.imp{t t':TE}(h:PE X e t)(f:∀σ H Q,t' σ H Q->t σ H Q):PE X e t':=λZ s σ H Q I q=>h Z s σ H Q I (f _ _ _ q)
def PT.imp{t t':TT}(h:PT X e t)(f:∀σ H Q,t' σ H Q->t σ H Q):PT X e t':=λZ s σ H Q I q=>h Z s σ H Q I (f _ _ _ q)
def PW.imp{t t':TT}(h:PW X e t)(f:∀σ H Q,t' σ H Q->t σ H Q):PW X e t':=λw Z s σ H Q I q=>h w Z s σ H Q I (f _ _ _ q)
def PA.imp{e:O lc}{t t':TA}(h:PA X e t)(f:∀σ H Q,t' σ H Q->t σ H Q):PA X e t':=λpos Z s σ H Q I q=>h pos Z s σ H Q I (f _ _ _ q)
def wG.imp{e:O u8}{t t':TS}(h:wG X e t)(f:∀D σ H,t' D σ H->t D σ H):wG X e t':=λZ s σ H D I q=>h Z s σ H D I (f _ _ _ q)
def PG.imp{t t':TG}(h:PG X e t)(f:∀v σ H Q,t' v σ H Q->t v σ H Q):PG X e t':=λZ s σ H v u Q I r q=>h Z s σ H v u Q I r (f _ _ _ _ q)
def PI.imp{t t':TI}(h:PI X tg e t)(f:∀σ H Q,t' σ H Q->t σ H Q):PI X tg e t':=λZ s σ H R I q=>h Z s σ H R I (f _ _ _ q)
section
abbrev P2:=PV->PV->PH->QV->Prop
structure M2 where
 f:P2
 mono:∀{x y h}{Q Q':QV},(∀v h',Q v h'->Q' v h')->f x y h Q->f x y h Q'
def M2.Ok(K:Ab)(r:R2)(m:M2):Prop:=∀{ι H h u v x y Q},HR K ι H h->VR K ι H u x->VR K ι H v y->m.f x y h (pQ K ι H Q)->r u v H Q
end
end
section
variable{K:Ab}
section
def nR:∀{vs:O V}{l:O PV},aO K ι H vs l->(!l.isEmpty)=!vs.isEmpty
 | _,_,.nil=>rfl
 | _,_,.cons _ _=>rfl
structure MQ where
 run:J5->PH->(Src->PH->Prop)->Prop
 mono:∀{ps h}{Q Q':Src->PH->Prop},(∀v h',Q v h'->Q' v h')->run ps h Q->run ps h Q'
end
end
section
structure MGs where
 run:List PV->J5->PH->(J5->PH->Prop)->Prop
 mono:∀{v ps h}{Q Q':J5->PH->Prop},(∀ps h,Q ps h->Q' ps h)->run v ps h Q->run v ps h Q'
end
section
variable{K:Ab}
section
structure Hf where
 f:List PV->PH->QV->Prop
 mono:∀{l h}{Q Q':QV},(∀v h',Q v h'->Q' v h')->f l h Q->f l h Q'
def Hf.Ok(K:Ab)(r:O V->Hp->VK->Prop)(m:Hf):Prop:=∀{ι H h vs l Q},HR K ι H h->aO K ι H vs l->m.f l h (pQ K ι H Q)->r vs H Q
end
end
end PL
variable{g':Int->Int->L2.V}{g:Int->Int->PL.PV}
namespace PL
section
variable{K:Ab}
def aI(g:Int->Int->PV):M2:=⟨λx y h Q=>match x,y with | .int i,.int j=>Q (g i j) h | _,_=>False,λf q=>by
 revert q
 split
 ·exact f _ _
 ·exact λz=>z⟩
def aIc(C:Int->Int->Prop)(g:Int->Int->PV):M2:=⟨λx y h Q=>match x,y with | .int i,.int j=>C i j/\Q (g i j) h | _,_=>False,λf q=>by
 revert q
 split
 ·exact λq=>⟨q.1,f _ _ q.2⟩
 ·exact λz=>z⟩
def Mp(hg:∀ι H i j,VR K ι H (g' i j) (g i j)):M2.Ok K (ZT g') (aI g):=by
 intro ι H h u v x y Q hr hu hv q;unfold aI at q;dsimp only at q;revert q
 split
 ·intro q;cases hu;cases hv;exact⟨_,_,rfl,rfl,q ι _ H (Go.refl _ _) hr (hg _ _ _ _)⟩
 ·exact BE
def JK{C:Int->Int->Prop}(hg:∀ι H i j,VR K ι H (g' i j) (g i j)):M2.Ok K (rI C g') (aIc C g):=by
 intro ι H h u v x y Q hr hu hv q;unfold aIc at q;dsimp only at q;revert q
 split
 ·intro q;cases hu;cases hv;exact⟨_,_,rfl,rfl,q.1,q.2 ι _ H (Go.refl _ _) hr (hg _ _ _ _)⟩
 ·exact BE
def vm:=aI λi j=>.int (i-j)
def kY:=aIc ut λi j=>.int (i*j)
def oDiv:=aIc UH λi j=>.int (i / j)
def oMod:=aIc (λ_ j=>0 < j) λi j=>.int (i % j)
def WJ:=aIc YY λi j=>.int (i ^ j.toNat)
def oLt:=aI λi j=>.bl (decide (i < j))
def oLe:=aI λi j=>.bl (decide (i<=j))
def oGt:=aI λi j=>.bl (decide (j < i))
def oGe:=aI λi j=>.bl (decide (j<=i))
section
def aO.lQ:∀{vs:O V}{l:O PV},aO K ι H vs l->(vs=[]↔l=[])
 | _,_,.nil=>by simp
 | _,_,.cons _ _=>by simp
end
mutual
def PV.dat:PV->Bool
 | .tup l=>zP l
 | .ref _=>false
 | .ty _=>false
 | .cl _=>false
 | .dv _ _=>false
 | _=>true
def zP:O PV->Bool
 | []=>true
 | x::l=>x.dat&&zP l
end
end
section
variable{K:Ab}
section
def PV.f9:PV->Bool
 | .aL=>true
 | _=>false
def zc:M2:=⟨λx y h Q=>match y with | .aL=>Q (.bl x.f9) h | _=>False,λf q=>by
 revert q
 split
 ·exact f _ _
 ·exact λz=>z⟩
def Gw:M2:=⟨λx y h Q=>match y with | .aL=>Q (.bl (!x.f9)) h | _=>False,λf q=>by
 revert q
 split
 ·exact f _ _
 ·exact λz=>z⟩
def GP{x:PV}(h:VR K ι H v x):decide (v=.aL)=x.f9:=by cases h <;> simp[PV.f9]
def aaw:M2.Ok K (λx y H Q=>y=.aL/\Q (.bl (decide (x=.aL))) H) zc:=by
 intro ι H h u v x y Q hr hu hv q;cases hv with
 | aL=>exact⟨rfl,q ι _ H (Go.refl _ _) hr (by rw[GP hu];exact .bl _)⟩
 | _=>exact q.elim
def WK:M2.Ok K (λx y H Q=>y=.aL/\Q (.bl (!decide (x=.aL))) H) Gw:=by
 intro ι H h u v x y Q hr hu hv q;cases hv with
 | aL=>exact⟨rfl,q ι _ H (Go.refl _ _) hr (by rw[GP hu];exact .bl _)⟩
 | _=>exact q.elim
def aay:M2:=⟨λx y h Q=>match x,y with | .bl i,.bl j=>Q (.bl (i==j)) h | _,_=>False,λf q=>by
 revert q
 split
 ·exact f _ _
 ·exact λz=>z⟩
def aax:M2.Ok K (λx y H Q=>∃i j,x=.bl i/\y=.bl j/\Q (.bl (i==j)) H) aay:=by
 intro ι H h u v x y Q hr hu hv q;cases hu <;> first
  | exact q.elim
  | (cases hv <;> first | exact q.elim | exact⟨_,_,rfl,rfl,q ι _ H (Go.refl _ _) hr (.bl _)⟩)
end
end
end PL
variable{l:O PL.PV}
namespace PL
section
variable{K:Ab}
section
def VW{v':V}{w:ce}(h:RelV v w)(h':RelV v' w):v=v':=Option.some.inj (h.abs.symm.trans h'.abs)
end
section
variable{c:lc}
def mIx(a:MQ)(b:ME):ME:=⟨λps h Q=>a.run ps h λS h1=>b.run ps h1 λy h2=>match y with
 | .int k=>S.ok h2/\match bV S.items k with | some v=>Q v h2 | none=>False
 | _=>False,λf q=>a.mono (λ_ _ q=>b.mono (λ_ _ q=>by
  revert q
  split
  ·rintro⟨q0,q⟩;refine⟨q0,?_⟩;revert q
   split
   ·exact f _ _
   ·exact λz=>z
  ·exact λz=>z) q) q⟩
def aO.bV(r:aO K ι H vs l){k:Int}{p:PV}(e:L2.bV l k=ap p):∃v,L2.bV vs k=ap v/\VR K ι H v p:=by
 unfold L2.bV at e ⊢;rw[r.length];cases z:uh l.length k with
 | none=>rw[z]at e;cases e
 | some j=>
  rw[z]at e;exact r.get e
def Sn:M2:=⟨λx y h Q=>match x,y with
 | .str z,.int k=>z.length<=sizeLine/\match L2.bV z.cps.toList k with | some c=>Q (.str ⟨#[c]⟩) h | none=>False
 | _,_=>False,λf q=>by
  revert q
  split
  ·rintro⟨q0,q⟩;refine⟨q0,?_⟩;revert q
   split
   ·exact f _ _
   ·exact λz=>z
  ·exact λz=>z⟩
def aav:M2.Ok K aes Sn:=by
 intro ι H h u v x y Q hr hu hv q;unfold Sn at q;dsimp only at q;revert q
 split
 ·rename_i z k;rintro⟨q0,q⟩;cases hu;cases hv;cases e:L2.bV z.cps.toList k with
  | none=>rw[e]at q;exact q.elim
  | some c=>rw[e]at q;exact⟨z,k,c,rfl,rfl,q0,e,q ι _ H (Go.refl _ _) hr (.str _)⟩
 ·exact BE
def bO:Hf:=⟨λl h Q=>match l with
 | [.str y]=>y.length<=sizeLine/\Q (.int y.length) h
 | [.tup l]=>Q (.int l.length) h
 | [.cl l]=>Q (.int l.length) h
 | [.ref n]=>match h[n]? with
  | some (.lst xs)=>Q (.int xs.length) h
  | _=>False
 | _=>False,λf q=>by
  revert q
  split
  ·exact λq=>⟨q.1,f _ _ q.2⟩
  ·exact f _ _
  ·exact f _ _
  ·split
   ·exact f _ _
   ·exact λz=>z
  ·exact λz=>z⟩
def ab6(K:Ab):Hf.Ok K (aer K) bO:=by
 intro ι H h vs l Q hr hv q;unfold bO at q;dsimp only at q;revert q
 split
 ·intro q;cases hv with
  | cons x t=>cases t;cases x;exact⟨_,_,rfl,⟨q.1,rfl⟩,q.2 ι _ H (Go.refl _ _) hr (.int _)⟩
 ·intro q;cases hv with
  | cons x t=>
   cases t;cases x with
   | tup e r=>exact⟨_,_,rfl,.inr ⟨_,eW.of e,r.length.symm⟩,q ι _ H (Go.refl _ _) hr (.int _)⟩
 ·intro q;cases hv with
  | cons x t=>
   cases t;cases x with
   | cl e r=>exact⟨_,_,rfl,.inl ⟨_,e.sq,r.length.symm⟩,q ι _ H (Go.refl _ _) hr (.int _)⟩
 ·rename_i n;cases hv with
  | cons x t=>
   cases t;cases x with
   | @ref _ a e=>
   split
   ·rename_i xs hn;intro q;obtain⟨ws,e1,e2⟩:=hr.obj n a _ e hn;exact⟨_,_,rfl,.inl ⟨ws,eN.of e1,e2.length.symm⟩,q ι _ H (Go.refl _ _) hr (.int _)⟩
   ·exact BE
 ·exact BE
inductive Kd where
 | str | tup | int | bool
def Kd.name:Kd->String
 | .str=>"str" | .tup=>"tuple" | .int=>"int" | .bool=>"bool"
def Kd.is:Kd->PV->Bool
 | .str,.str _=>true
 | .tup,.tup _=>true
 | .int,.int _=>true
 | .int,.bl _=>true
 | .bool,.bl _=>true
 | _,_=>false
def aic(K:Ab):O V->Hp->VK->Prop:=λxs H Q=>∃x c t b,xs=[x,.ty c]/\(pP K H x t\/(t=.type "tuple"/\∃a vs,x=.ref a/\eW K H a vs))/\BJ K t (.type c)=ap b/\Q (.bl b) H
def Ui(K:Ab)(hK:X.K=K):cC X (.builtin "isinstance") (aic K):=by
 subst hK;intro Z s σ H xs us Q I r h;obtain⟨x,c,t,b,rfl,ty | ⟨rfl,a,vs,rfl,hT⟩,e,q⟩:=h
 ·exact vf Z s σ H _ us Q I r ⟨x,c,t,b,rfl,ty,e,q⟩
 ·obtain⟨u,w,rfl,r1,r2⟩:=vals2 r;cases r1;cases r2;obtain⟨aw,_,⟨o,h1,h2,_⟩,_⟩:=I.tuple hT;exact Bl F0 I.zC ⟨o,h1,h2⟩ e (λz=>nomatch z) λtk=>⟨.bl b,H,I.tok _,rfl,q⟩
def wo(K:Ab):(∀k:Kd,BJ K (.type "NoneType") (.type k.name)=ap false)/\(∀k:Kd,BJ K (.type "list") (.type k.name)=ap false)/\(∀k:Kd,BJ K (.type "dict") (.type k.name)=ap false):=
 ⟨λk=>by cases k <;> kernel_rfl,λk=>by cases k <;> kernel_rfl,λk=>by cases k <;> kernel_rfl⟩
def afi(K:Ab)(b:Bool)(k:Kd):BJ K (.type "bool") (.type k.name)=ap (k.is (.bl b)):=by cases k <;> kernel_rfl
def aaZ(K:Ab)(b:Int)(k:Kd):BJ K (.type "int") (.type k.name)=ap (k.is (.int b)):=by cases k <;> kernel_rfl
def aaY(K:Ab)(b:Str)(k:Kd):BJ K (.type "str") (.type k.name)=ap (k.is (.str b)):=by cases k <;> kernel_rfl
def aaX(K:Ab)(b:O PV)(k:Kd):BJ K (.type "tuple") (.type k.name)=ap (k.is (.tup b)):=by cases k <;> kernel_rfl
def Mk:Hf:=⟨λl h Q=>match l with | [.int i]=>Q (.int (if i < 0 then -i else i)) h | _=>False,λf q=>by
 revert q
 split
 ·exact f _ _
 ·exact λz=>z⟩
def ab8:Hf.Ok K (λxs H Q=>∃i,xs=[.int i]/\Q (.int (if i < 0 then -i else i)) H) Mk:=by
 intro ι H h vs l Q hr hv q;unfold Mk at q;dsimp only at q;revert q
 split
 ·intro q;cases hv with
  | cons x t=>cases t;cases x;exact⟨_,rfl,q ι _ H (Go.refl _ _) hr (.int _)⟩
 ·exact BE
def Pp:Hf:=⟨λl h Q=>match l with | [.int i]=>Q (.int i) h | [.bl k]=>Q (.int (if k then 1 else 0)) h | _=>False,λf q=>by
 revert q
 split
 ·exact f _ _
 ·exact f _ _
 ·exact λz=>z⟩
def ab7:Hf.Ok K (λxs H Q=>(∃i,xs=[.int i]/\Q (.int i) H)\/∃k,xs=[.bl k]/\Q (.int (if k then 1 else 0)) H) Pp:=by
 intro ι H h vs l Q hr hv q;unfold Pp at q;dsimp only at q;revert q
 split
 ·intro q;cases hv with
  | cons x t=>cases t;cases x;exact .inl ⟨_,rfl,q ι _ H (Go.refl _ _) hr (.int _)⟩
 ·intro q;cases hv with
  | cons x t=>cases t;cases x;exact .inr ⟨_,rfl,q ι _ H (Go.refl _ _) hr (.int _)⟩
 ·exact BE
def Up:Hf:=⟨λl h Q=>match l with | [.int i,.int j]=>Q (.int (if j > i then j else i)) h | _=>False,λf q=>by
 revert q
 split
 ·exact f _ _
 ·exact λz=>z⟩
def Uo:Hf:=⟨λl h Q=>match l with | [.int i,.int j]=>Q (.int (if j < i then j else i)) h | _=>False,λf q=>by
 revert q
 split
 ·exact f _ _
 ·exact λz=>z⟩
def ab5:Hf.Ok K (λxs H Q=>∃i j,xs=[.int i,.int j]/\Q (.int (if j > i then j else i)) H) Up:=by
 intro ι H h vs l Q hr hv q;unfold Up at q;dsimp only at q;revert q
 split
 ·intro q;cases hv with
  | cons x t=>cases t with
   | cons y t=>cases t;cases x;cases y;exact⟨_,_,rfl,q ι _ H (Go.refl _ _) hr (.int _)⟩
 ·exact BE
def ab4:Hf.Ok K (λxs H Q=>∃i j,xs=[.int i,.int j]/\Q (.int (if j < i then j else i)) H) Uo:=by
 intro ι H h vs l Q hr hv q;unfold Uo at q;dsimp only at q;revert q
 split
 ·intro q;cases hv with
  | cons x t=>cases t with
   | cons y t=>cases t;cases x;cases y;exact⟨_,_,rfl,q ι _ H (Go.refl _ _) hr (.int _)⟩
 ·exact BE
end
end
end PL
variable{o:B8}
namespace PL
section
variable{K:Ab}
section
def VZ(K:Ab):O V->Hp->VK->Prop:=λxs H Q=>∃p ys,xs=[.ref p]/\((eN K H p ys/\k6 H (.tup ys) Q)\/(eW K H p ys/\Q (.ref p) H))
def Ue(K:Ab)(hK:X.K=K):cC X (.type "tuple") (VZ K):=by
 subst hK;exact zS.mono λxs H Q ⟨p,ys,e,h⟩=>⟨p,ys,e,h.imp (λ⟨h1,h2⟩=>⟨h1,λl hl=>h2.at l hl⟩) λz=>z⟩
theorem G5:∀{bs:O Bool}{vs:O V},aO K ι H vs (bs.map PV.bl)->vs=bs.map V.bl
 | [],_,h=>by cases h;rfl
 | b::bs,_,h=>by
  cases h with
  | cons x t=>cases x;rw[G5 t];rfl
structure MQL where
 run:J5->PH->(Src->PH->Prop)->Prop
 mono:∀{ps h}{Q Q':Src->PH->Prop},(∀v h',Q v h'->Q' v h')->run ps h Q->run ps h Q'
structure MO where
 run:J5->PH->(Option Int->PH->Prop)->Prop
 mono:∀{ps h}{Q Q':Option Int->PH->Prop},(∀v h',Q v h'->Q' v h')->run ps h Q->run ps h Q'
def PO.imp{e:Option lc}{t t':TO}(h:L2.PO X e t)(f:∀σ H Q,t' σ H Q->t σ H Q):L2.PO X e t':=λZ s σ H Q I q=>h Z s σ H Q I (f _ _ _ q)
def hV(xs:O PV)(lo hi:Option Int):O PV:=(xs.drop (HT.eE xs.length 0 lo)).take (HT.eE xs.length xs.length hi-HT.eE xs.length 0 lo)
def aO.cut(r:aO K ι H vs l)(lo hi:Option Int):aO K ι H (zR vs lo hi) (hV l lo hi):=by
 unfold zR hV;rw[r.length];exact(r.drop _).take _
end
end
end PL
variable{t1:L2.TE}{tp:Cz}
namespace PL
section
variable{K:Ab}
section
variable{c:lc}
def g8(lo:Int)(n:Nat):O PV:=(Av n).map λ(i:Nat)=>.int (lo+(i:Int))
def gC(lo:Int)(n:Nat):(g8 lo n).length=n:=by unfold g8;simp
def um{lo:Int}{p:PV}(h:(g8 lo n)[i]?=ap p):i < n/\p=.int (lo+i):=by
 unfold g8 at h;rw[Aj]at h;cases z:(Av n)[i]? with
 | none=>rw[z]at h;cases h
 | some k=>
  rw[z]at h;obtain⟨h1,h2⟩:=Al.mp z;simp at h1 h2;subst h2;exact⟨h1,(Option.some.inj h).symm⟩
def qe(lo:Int)(n:Nat):O PV:=(Av n).map λ(i:Nat)=>.int (lo-(i:Int))
def GZ(lo:Int)(n:Nat):(qe lo n).length=n:=by unfold qe;simp
def uy{lo:Int}{p:PV}(h:(qe lo n)[i]?=ap p):i < n/\p=.int (lo-i):=by
 unfold qe at h;rw[Aj]at h;cases z:(Av n)[i]? with
 | none=>rw[z]at h;cases h
 | some k=>
  rw[z]at h;obtain⟨h1,h2⟩:=Al.mp z;simp at h1 h2;subst h2;exact⟨h1,(Option.some.inj h).symm⟩
def ZG(i:Int):Prop:=-(2 ^ 62)<=i/\i < 2 ^ 62
def akK(m:MA):MI:=⟨λps h Q=>m.run ps h λl h1=>match l with | [.int j]=>ZG j/\Q ⟨g8 0 j.toNat,λ_=>True,false⟩ h1 | _=>False,λf q=>m.mono (λl h1 q=>by
 revert q
 split
 ·exact λq=>⟨q.1,f _ _ q.2⟩
 ·exact λz=>z) q⟩
def d7(k:Nat):O PV->O PV
 | []=>[]
 | x::l=>.tup [.int (k:Int),x]::d7 (k+1) l
theorem dc:∀(k:Nat) (l:O PV),(d7 k l).length=l.length
 | _,[]=>rfl
 | k,x::l=>by rw[d7,Ap,Ap,dc]
theorem iZ:∀{k:Nat}{l:O PV}{i:Nat}{p:PV},(d7 k l)[i]?=ap p->∃x,l[i]?=ap x/\p=.tup [.int ((k+i:Nat):Int),x]
 | _,[],_,_,h=>by simp[d7]at h
 | k,x::l,0,p,h=>by simp[d7]at h;subst h;exact⟨x,rfl,by simp⟩
 | k,x::l,i+1,p,h=>by
  obtain⟨y,h1,h2⟩:=iZ (k:=k+1) (l:=l) (i:=i) (p:=p) (by simpa[d7]using h);exact⟨y,by simpa using h1,by rw[h2,show k+1+i=k+(i+1) by omega]⟩
def afw(K:Ab)(t1:TE):TI:=λσ H R=>t1 σ H λx H1=>∃a,x=.ref a/\(((∃xs,eN K H1 a xs)/\R (akj K a) H1)\/((∃xs,eW K H1 a xs)/\R (Ite K a) H1))
def Wj{X:Cx}(K:Ab)(hK:X.K=K){e1:lc}{kk:Nat}(hg:Gl X "enumerate")(hm:X.mg "enumerate"=bm)(h1:PE X e1 t1)
  (J1:‹iq X e1 []›):PI X (.Tuple Ñ kk tp) (.Call (.Name "enumerate" p1) [e1] [] p2) (afw K t1):=by
 subst hK;intro Z s σ H R I h;refine BD (jx I hg hm boot_enumerate ?_ ⋯ ⋯);refine Bg ?_ J1 rfl;rw[J1];refine Cm (bS (h1 Z s σ H _ I h) λu1 s1 ⟨x,H1,I1,r1,a,ex,hh⟩=>CI ?_);subst ex;cases r1;have d1:s1.heap.objs.size+1≠s1.heap.objs.size:=Nat.succ_ne_self _;rcases hh with⟨⟨xs,hx⟩,q⟩ | ⟨⟨xs,hx⟩,q⟩
 ·obtain⟨aw,rx,tx,_⟩:=I1.list hx;refine call_enumerate_list tx.isList λh' ze hi _ k=>?_;refine DJ ze ?_;refine⟨_,_,_,_,H1,rfl,I1.kept (t':=s1.toks) k,M7 d1,⟨⟨_,ze⟩,hi⟩,λc hc=>?_,q⟩;have ß:s1.heap.objs.size<=c:=by
   simp only[AA,BQ,or_false]at hc;rcases hc with rfl | rfl
   ·exact B4 _ _
   ·exact An _
  exact I1.xZ ß (I1.bN.fresh ß)
 ·obtain⟨aw,rx,tx,_⟩:=I1.tuple hx;have l1:=let ⟨_,e,_⟩:=tx;Aw e;refine Pj tx λh' ze hi k=>?_;refine DJ ze ?_;refine⟨_,_,_,_,H1,rfl,I1.kept (t':=s1.toks) k,RL d1 (AM (AV l1 (B4 _ 1))) (AM l1),⟨⟨_,ze⟩,hi⟩,λc hc=>?_,q⟩;have ß:s1.heap.objs.size<=c:=by
   simp only[AA,BQ,or_false]at hc;rcases hc with rfl | rfl
   ·exact B4 _ _
   ·exact An _
  exact I1.xZ ß (I1.bN.fresh ß)
def ko:O PV->O PV->O PV
 | x::l,y::m=>.tup [x,y]::ko l m
 | _,_=>[]
theorem qW:∀{l m:O PV}{i:Nat}{p:PV},(ko l m)[i]?=ap p->∃x y,l[i]?=ap x/\m[i]?=ap y/\p=.tup [x,y]
 | [],m,i,p,h=>by simp[ko]at h
 | x::l,[],i,p,h=>by simp[ko]at h
 | x::l,y::m,0,p,h=>by simp[ko]at h;subst h;exact⟨x,y,rfl,rfl,rfl⟩
 | x::l,y::m,i+1,p,h=>by
  obtain⟨u,w,h1,h2,h3⟩:=qW (l:=l) (m:=m) (i:=i) (p:=p) (by simpa[ko]using h);exact⟨u,w,by simpa using h1,by simpa using h2,h3⟩
end
end
end PL
variable{p3 p4:Cz}
namespace PL
section
variable{K:Ab}
section
structure JC(X:Cx)(K:Ab)(op:CmpOp)(b:lc)(m:M2):Prop where
 p:∃r,jV X (nw op) r/\M2.Ok K r m
 k:sn op b=false
def QX:JC X K .Lt b oLt:=⟨⟨_,aiu,Mp λ_ _ _ _=>.bl _⟩,lP _⟩
def GN:JC X K .LtE b oLe:=⟨⟨_,aiv,Mp λ_ _ _ _=>.bl _⟩,lP _⟩
def acY:JC X K .Gt b oGt:=⟨⟨_,aiw,Mp λ_ _ _ _=>.bl _⟩,lP _⟩
def ai1:JC X K .GtE b oGe:=⟨⟨_,aix,Mp λ_ _ _ _=>.bl _⟩,lP _⟩
def ug:JC X K .Is b zc:=⟨⟨_,aeR,aaw⟩,lP _⟩
def QW:JC X K .IsNot b Gw:=⟨⟨_,aak,WK⟩,lP _⟩
def afp:JC X K .Is b aay:=⟨⟨_,WC,aax⟩,lP _⟩
def aq1:M2:=⟨λx y h Q=>match x,y with | .str i,.str j=>Q (.bl (decide (i.cps.toList < j.cps.toList))) h | _,_=>False,λf q=>by
 revert q
 split
 ·exact f _ _
 ·exact λz=>z⟩
def aaz:M2:=⟨λx y h Q=>match x,y with | .str i,.str j=>Q (.bl (!(Builtin.Str.occurrences j i 0 j.length 1).isEmpty)) h | _,_=>False,λf q=>by
 revert q
 split
 ·exact f _ _
 ·exact λz=>z⟩
def afq(hk:sn .In b=false):JC X K .In b aaz:=⟨⟨_,Sl,by
 intro ι H h u v x y Q hr hu hv q;unfold aaz at q;dsimp only at q;revert q
 split
 ·intro q;cases hu;cases hv;exact⟨_,_,rfl,rfl,q ι _ H (Go.refl _ _) hr (.bl _)⟩
 ·exact BE⟩,hk⟩
end
end
theorem Mg:∀{l:O PV},zP l=true↔∀x∈l,x.dat=true
 | []=>by simp[zP]
 | x::l=>by rw[zP,A1,Mg];simp
section
variable{K:Ab}
section
variable{c:lc}
def aO.rep(h:aO K ι H vs l):∀k:Nat,aO K ι H (Au k vs).flatten (Au k l).flatten
 | 0=>.nil
 | k+1=>by
  rw[BV,BV,Cc,Cc];exact h.append (h.rep k)
def V0:V->O V->Hp->VK->Prop:=λx vs H Q=>∃(l:ci) (ns:O Int) (k:Int),x=.ref l/\vs=[.int k]/\H l=ap (.lst (ns.map V.int))/\k∈ns/\Kb H l (.lst ((ns.erase k).map V.int)) (Q .aL)
theorem ints_get:∀{us:O ce}{ns:O Int},ww us ns->∀(i:Nat) (hi:i < us.length),∃n t,ns[i]?=ap n/\us[i]=.int n t
 | _,_,.nil,i,hi=>by simp at hi
 | _,_,.cons _ _ r,i,hi=>by
  cases i with
  | zero=>exact⟨_,_,rfl,rfl⟩
  | succ i=>exact ints_get r i (by simpa using hi)
theorem Xw{k:Int}:∀{ns:O Int}{m:Nat},ns[m]?=ap k->ns.idxOf k<=m
 | [],m,h=>by simp at h
 | a::ns,0,h=>by
  have:a=k:=by simpa using h
  subst this;simp
 | a::ns,m+1,h=>by
  have:=Xw (ns:=ns) (m:=m) (by simpa using h);rw[List.idxOf_cons];by_cases c:a=k
  ·have:(a==k)=true:=by simpa using c
   rw[this];exact A3 _
  ·have c2:(a==k)=false:=by simpa using c
   rw[c2];exact Nat.succ_le_succ this
theorem GY(f:α->β):∀(l:List α) (j:Nat),(l.eraseIdx j).map f=(l.map f).eraseIdx j
 | [],_=>rfl
 | a::l,0=>rfl
 | a::l,j+1=>by
  show f a::(l.eraseIdx j).map f=f a::(l.map f).eraseIdx j;rw[GY f l j]
def isK(k:Int):ce->Bool
 | .int a _=>a==k
 | _=>false
def y6(r:Vals vs us):∀j,Vals (vs.eraseIdx j) (us.eraseIdx j):=by
 induction r with
 | nil=>intro j;exact .nil
 | cons h r ih=>
  intro j;cases j with
  | zero=>exact r
  | succ j=>exact .cons h (ih j)
theorem NF:MR X "list.remove" V0:=by
 intro Z s σ H x vs v us Q I rx rv h;obtain⟨l,ns,k,rfl,rfl,hH,hk,q⟩:=h;cases rx;obtain⟨u,rfl,ru⟩:=rv.one;obtain⟨t,rfl⟩:=ru;obtain⟨z,aw,n,r,hl,e⟩:=I.vq hH;have hi:=intsAre_of r;have Â:ns.length=aw.length:=by rw[Ae]at hl;omega
 have hj:=B6 hk;have hej:ns.erase k=ns.eraseIdx (ns.idxOf k):=by rw[List.erase_eq_eraseIdx_of_idxOf rfl]
 refine sK F.slot_list_remove ⟨_,e,rfl⟩ F.entry_list_remove (F.args_list_remove_2 _ _) (MeetsSeq.list_remove l aw.toArray n (.int k t) (isK k) (λy hy=>?_) (ns.idxOf k) (by rw[Ak];omega) ?_ (λm hm fC=>?_) (by rw[Ak];omega)) ⟨e,?_⟩
 ·have Ü:y∈aw:=by simpa using hy
  obtain⟨i,Ď⟩:=Dn Ü;obtain⟨h1,h2⟩:=Al.mp Ď;obtain⟨n',t',g1,g2⟩:=ints_get hi i h1;rw[<- h2,g2];exact MeetsSeq.EqGives.int _ _ _ _
 ·have h1:ns.idxOf k < aw.length:=by omega
  obtain⟨n',t',g1,g2⟩:=ints_get hi (ns.idxOf k) h1;have g3:ns[ns.idxOf k]?=ap k:=by rw[Ad hj,List.getElem_idxOf hj]
  rw[g3]at g1;cases g1;rw[Ef,g2];simp[isK]
 ·have h1:m < aw.length:=by rw[Ak]at hm;exact hm
  obtain⟨n',t',g1,g2⟩:=ints_get hi m h1;rw[Ef,g2];have:n'≠k:=λz=>by
   subst z;have:=Xw g1;omega
  simp[isK,this]
 ·refine⟨.aL,_,I.NP (its':=aw.eraseIdx (ns.idxOf k)) (ys:=(ns.erase k).map V.int) hH e (by simp[Array.toList_eraseIdxIfInBounds,<- Array.toList_inj]) ?_ ?_,rfl,q.at⟩
  ·rw[hej,GY];exact y6 r _
  ·rw[hej,Ae,FP]
   split <;> omega
theorem mh:∀{ns:O Int}{vs:O V},aO K ι H vs (ns.map PV.int)->vs=ns.map V.int
 | [],_,h=>by cases h;rfl
 | b::bs,_,h=>by
  cases h with
  | cons x t=>cases x;rw[mh t];rfl
theorem sA(ι:O ci)(H:Hp):∀ns:O Int,aO K ι H (ns.map V.int) (ns.map PV.int)
 | []=>.nil
 | n::ns=>.cons (.int n) (sA ι H ns)
def aeo(K:Ab):O V->Hp->VK->Prop:=λxs H Q=>∃(p:ci) (ns:O Int),xs=[.ref p]/\eN K H p (ns.map V.int)/\ns.length < 64/\∀ms:O Int,ms.Perm ns->ms.Pairwise (·<=·)->k6 H (.lst (ms.map V.int)) Q
theorem Pf(K:Ab)(hK:X.K=K):cC X (.builtin "sorted") (aeo K):=by
 subst hK;intro Z s σ H xs us Q I r h;obtain⟨p,ns,rfl,hq,Į,q⟩:=h;obtain⟨u,rfl,rx⟩:=vals1 r;cases rx;obtain⟨aw,r',pl,hz⟩:=I.list hq;have hi:=intsAre_of r';have hl:=r'.length;rw[Ae]at hl hz;refine PyProof.Rows.sorted_ints pl.isList hi ∅ λout ms a1 a2 a3=>?_;obtain⟨e,he⟩:=sortedAll_at s.heap aw out;refine⟨.ref (s.heap.objs.size+1),_,I.laid (t':=s.toks) (λ_ _=>sortedAll_old) (Ee _) (show bA X.prog X.w _ _ _ (.lst (ms.map V.int)) from⟨?_,out.toList,e,tG a1,?_⟩),rfl,(q ms a2 a3).at _ (I.bN.fresh (Ee _))⟩
 ·rw[Ae,a2.length_eq];exact hz
 ·rw[FR];exact he
end
end
end PL
variable{xs:Array Be}{a:BU}{o:F9}
namespace L2
def qC{name:Str}{Q:Option ce->cr->Prop}
  (hx:s.heap.get? a=ap o) (hc:o.cls=.type "list") (lj:o.data=.seq xs k) (hd:o.dict=bm) (ajj:IR (.type "list") name=pure bm) (aji:(["__module__","__name__","__qualname__","__doc__","__annotations__"]:O Str).contains name=false) (hA:A.handled=bm)
  (h:∀h' tk e,Heap.NewExcOf s.heap h' e "AttributeError"->Q bm {s with heap:=h',toks:=tk}) (hsz:name.length+100<=sizeLine:=by size_fits) :
  db (ev prog w) A (getAttr? (.ref a) name) Q E s:=by
 obtain⟨c,dct,dat,sl⟩:=o;simp only at hc lj hd;subst hc lj hd;obtain⟨hp,g,d,tk,os⟩:=s;have hT:∀ı,(⟨hp,g,d,ı,os⟩:cr).TypeIs (.ref a) "list":=λ_=>⟨_,hx,rfl⟩;have f1:=sub_AttributeError;have f3:=Dw.lookup;have f4:=Dw.bind (.ref a);have f5:=am_list_getattr_none
 repeat (any_goals (first | assumption | exact hT _ | ((with_reducible show db _ _ (call (Value.builtin "list.__getattribute__") _ _) _ _ _);refine sK Dw (hT _) am_entry_list_getattribute (F.args_list_getattribute_2 _ _) (meets_getattribute_miss_list a xs k sl name _ ajj aji hsz) ⟨hx,hA,λh' ı e yS=>?_⟩) | wp_step))
 obtain⟨t',u',he⟩:=yS.there;unfold getattributeRaised
 repeat (any_goals (first | assumption | wp_step))
 exact h _ _ _ yS.of
end L2
variable{b d:BU}{v:Be}
namespace L2
def ki:entryFor table "dict.update.loop"=ap wP.«dict.update.loop»:=entryFor_of_fast (by kernel_rfl)
def jX:plainId "dict.update.loop"=true:=by decide +kernel
section
variable{K:Type}[DecidableEq K]{knd:KeyKind prog w K}
def JY(knd:KeyKind prog w K)(h:pr)(it d:ci)(v:ce)(x:O K×ci×ce):Prop:=
 ∃pa o n,v=.ref pa/\pa≠it/\pa≠d/\x.2.1≠it/\x.2.1≠d/\h.get? pa=ap o/\o.cls=.type "tuple"/\o.data=.seq #[.ref x.2.1,x.2.2] n/\(r9 knd).is h x.1 x.2.1
def Hq{k:O K}(x:(r9 knd).is h k b)(kp:∀o,h.get? b=ap o->h'.get? b=ap o):(r9 knd).is h' k b:=by
 obtain⟨o,aw,n,h1,h2⟩:=x;exact⟨o,aw,n,kp _ h1,h2⟩
def JY.keep{x:O K×ci×ce}(p:JY knd h it d v x)(kp:∀b o,b≠it->b≠d->h.get? b=ap o->h'.get? b=ap o):JY knd h' it d v x:=by
 obtain⟨pa,o,n,e,n1,n2,n3,n4,h1,h2,h3,h4⟩:=p;exact⟨pa,o,n,e,n1,n2,n3,n4,kp _ _ n1 n2 h1,h2,h3,Hq h4 λo q=>kp _ _ n3 n4 q⟩
def Jw{xs:O (O K×ci×ce)}(m:h.DictOfH (r9 knd) d xs)(hd:d≠it)(hx:∀x∈xs,x.2.1≠it)(kp:∀b o,b≠it->h.get? b=ap o->h'.get? b=ap o):h'.DictOfH (r9 knd) d xs:=by
 obtain⟨o,es,ep,ho,hc,ų,he,his,hn⟩:=m;exact⟨o,es,ep,kp _ _ hd ho,hc,ų,he,λx q=>Hq (his x q) λo z=>kp _ _ (hx x q) z,hn⟩
def Kj{xs:O (O K×ci×ce)}{k:O K}(hx:∀x∈xs,x.2.1≠it)(hb:b≠it):∀x∈FM xs k b v,x.2.1≠it:=by
 intro x q;unfold FM at q
 split at q
 ·obtain⟨y,hy,rfl⟩:=Am.mp q;have e:(putAt k v y).2.1=y.2.1:=by unfold putAt;split <;> rfl
  rw[e];exact hx y hy
 ·rcases AJ.mp q with q | q
  ·exact hx x q
  ·rw[AN.mp q];exact hb
def Kk{xs:O (O K×ci×ce)}{k:O K}:(FM xs k b v).length<=xs.length+1:=by
 unfold FM
 split <;> simp
theorem Ka(hA:A.handled=bm)(hu:A.units+1 < ss){l:ci}(hz:items.size+items.size<=sizeLine)(Ų:d≠it)(hli:l≠it)(hld:l≠d) :
  ∀(k i:Nat) (ys xs:O (O K×ci×ce)) (s:cr),items.size-i=k->i<=items.size->ys.length=items.size-i->xs.length<=i->s.heap.IsListIter it l i->s.heap.IsList l items->s.heap.DictOfH (r9 knd) d xs->(∀x∈xs,x.2.1≠it)->
   (∀j x,ys[j]?=ap x->∃v,items[i+j]?=ap v/\JY knd s.heap it d v x)->
   (∀h' tk,h'.DictOfH (r9 knd) d (ys.foldl (λa y=>FM a y.1 y.2.1 y.2.2) xs)->(∀b o,b≠it->b≠d->s.heap.get? b=ap o->h'.get? b=ap o)->R (.ok (.ret .none)) {s with heap:=h',toks:=tk})->
   GE (ev prog w) A (.builtin "dict.update.loop" ⟨[.ref d,.ref it,tz i,.none],[]⟩) R s:=by
 intro k
 induction k with
 | zero=>
  intro i ys xs s hk hi hy hxl Í hl hd hx hp q;have e0:ys=[]:=Cs ∅;subst e0;refine Os ki ?_;refine Aa (wpAny_pyNext_list_end (A:=A.in1) hA Í hl (by rw[C3];omega) λh' ex=>?_);have kp:=ex;exact Aa (Af (Af (q h' s.toks (Jw hd Ų hx kp) λb o n1 _ e=>kp b o n1 e)))
 | succ k ih=>
  intro i ys xs s hk hi hy hxl Í hl hd hx hp q
  match ys,hy,hp,q with
  | [],hy,_,_=>exact absurd hy (by simp only[Bd];omega)
  | y::ys,hy,hp,q=>
  obtain⟨v,hv,pa⟩:=hp 0 y rfl;refine Os ki ?_;refine Aa (wpAny_pyNext_list_item Í hl (by simpa using hv) λh1 anI sb=>?_);have Ú:∀b o,b≠it->s.heap.get? b=ap o->h1.get? b=ap o:=λb o hb e=>(sb.2 b hb).trans e;have pa1:=pa.keep λb o n1 _ e=>Ú b o n1 e;have ī:=Jw hd Ų hx Ú;have Ū:h1.IsList l items:=let ⟨o,e,p⟩:=hl;⟨o,Ú _ _ hli e,p⟩;obtain⟨p,o,n,rfl,n1,n2,n3,n4,g1,g2,g3,g4⟩:=pa1;refine Aa (Bj (Aa (EE ?_)));refine Aa (C2 (T:="tuple") ⟨_,g1,g2⟩ ?_);refine Aa (BK g1 g3 (Af ?_));refine Bj (wpAny_dictSet_heap (knd:=r9 knd) (Fa hu) g4 ī (λh2 Õ sb2=>?_) ∅);have Ś:∀b o,b≠d->h1.get? b=ap o->h2.get? b=ap o:=λb o hb e=>(sb2.2 b hb).trans e;refine Af ⟨xL jX _,?_⟩;have kp:∀b o,b≠it->b≠d->s.heap.get? b=ap o->h2.get? b=ap o:=λb o a1 a2 e=>Ś _ _ a2 (Ú _ _ a1 e);refine ih (i+1) ys (FM xs y.1 y.2.1 y.2.2) _ ∅ ∅ (by rw[Ap]at hy;omega) (AW Kk ∅) ?_ ?_ Õ (Kj hx n3) (λj x hj=>?_) (λh' tk dd k3=>?_)
  ·obtain⟨o',e1,e2⟩:=anI;exact⟨o',Ś _ _ (BW Ų) e1,e2⟩
  ·obtain⟨o',e1,e2⟩:=Ū;exact⟨o',Ś _ _ hld e1,e2⟩
  ·obtain⟨v',h3,h4⟩:=hp (j+1) x hj;exact⟨v',by rw[show i+1+j=i+(j+1) by omega];exact h3,h4.keep kp⟩
  ·exact q h' tk dd λb o a1 a2 e=>k3 b o a1 a2 (kp b o a1 a2 e)
end
def Ie:IR (.type "list") (BO "keys")=pure bm:=am_miss_of_fast (by decide +kernel)
section
variable{K:Type}[DecidableEq K]{knd:KeyKind prog w K}
theorem vM{l:ci}{ys:O (O K×ci×ce)}(hA:A.handled=bm)(hu:A.units+2 < ss)(ho:s.heap.get? l=ap o)(hc:o.cls=.type "list")(lj:o.data=.seq items n)(hd:o.dict=bm)
  (hz:items.size+items.size<=sizeLine) (hy:ys.length=items.size)
  (hp:∀(j:Nat) (x:O K×ci×ce),ys[j]?=ap x->∃(pa:ci) (op:Obj) (m:Nat),items[j]?=ap (AB pa)/\s.heap.get? pa=ap op/\op.cls=.type "tuple"/\op.data=.seq #[AB x.2.1,x.2.2] m/\(r9 knd).is s.heap x.1 x.2.1)
  (q:∀h' tk,(∀b o,s.heap.get? b=ap o->h'.get? b=ap o)->h'.DictOfH (r9 knd) s.heap.objs.size (ys.foldl (λa y=>FM a y.1 y.2.1 y.2.2) [])->Q (.ref s.heap.objs.size) {s with heap:=h',toks:=tk}) :
  db (ev prog w) A (call (.type "dict") [.ref l]) Q E s:=by
 refine callType_codes (Q₁:=λobj s₁=>obj=.ref s.heap.objs.size/\s₁={s with heap:=s.heap.push {cls:=.type "dict",data:=.dict #[]}}) F.kt_called_dict (F.kt_typeCall_dict_1 _) F.entry_dict_init (kt_code_dict_new _ ⟨rfl,rfl⟩) ?_;rintro obj s₁ ⟨rfl,rfl⟩;have Ļ:∀b o,s.heap.get? b=ap o->(s.heap.push {cls:=.type "dict",data:=.dict #[]}).get? b=ap o:=λb o e=>Ag _ e;have ō:(s.heap.push {cls:=.type "dict",data:=.dict #[]}).DictOf knd s.heap.objs.size []:=Heap.DictOf.new s.heap;have ajh:(s.heap.push {cls:=.type "dict",data:=.dict #[]}).DictOfH (r9 knd) s.heap.objs.size []:=⟨_,#[],0,Ar _ rfl,⟨rfl,rfl,rfl⟩,rfl,rfl,λx hx=>absurd hx (BQ),EL⟩;have ls:∀b o,s.heap.get? b=ap o->b≠s.heap.objs.size:=λb o e z=>by subst z;exact Ba _ (Aw e)
 refine⟨ō.typeIs,F.args_dict_init_2 _ _,?_⟩;refine Aa ?_;refine Aa (DV ō.typeIs ?_);refine Af ?_;refine Aa (C2 (T:="list") ⟨_,Ļ _ _ ho,hc⟩ ?_);refine Aa (qC (Ļ _ _ ho) hc lj hd Ie (by decide +kernel) hA (λh1 tk e nx=>?_) ⋯);refine Aa (Dl (Aa ?_));refine Dg (items:=items) ⟨_,nx.keeps _ _ (Ļ _ _ ho),hc,n,lj⟩ ?_;have hsz:=Aw (nx.keeps _ _ (Ar s.heap rfl));have Ú:∀b o,s.heap.get? b=ap o->(h1.push {cls:=.type "list_iterator",data:=.fields #[.ref l,.int 0 0]}).get? b=ap o:=λb o e=>Ag _ (nx.keeps _ _ (Ļ _ _ e));have ni:∀b o,s.heap.get? b=ap o->b≠h1.objs.size:=λb o e z=>by
  have h3:=Aw e;subst z;exact Ba _ (Nat.lt_trans h3 hsz)
 refine Af ⟨xL jX _,?_⟩;refine Ka (A:=A.in1) (knd:=knd) hA (by show A.units+1+1 < _;omega) (items:=items) (d:=s.heap.objs.size) (it:=h1.objs.size) (l:=l) hz (AM hsz) (ni _ _ ho) (ls _ _ ho) items.size 0 ys [] _ (Fj _) (A3 _) (by rw[hy];rfl) (An _)
  ⟨_,Ar _ rfl,rfl,rfl⟩ ⟨_,Ú _ _ ho,hc,n,lj⟩ ?_ (λx hx=>nomatch hx) (λj x hj=>?_) (λh' ı dd kp=>?_)
 ·refine Jw (it:=h1.objs.size) ajh (AM hsz) (λx hx=>nomatch hx) λb o _ e=>Ag _ (nx.keeps _ _ e)
 ·obtain⟨pa,op,m,e1,e2,e3,e4,e5⟩:=hp j x hj;have kb:∃ob,s.heap.get? x.2.1=ap ob:=let ⟨ob,_,_,z,_⟩:=e5;⟨ob,z⟩;obtain⟨ob,eb⟩:=kb;exact⟨.ref pa,by rw[AD];exact e1,pa,op,m,rfl,ni _ _ e2,ls _ _ e2,ni _ _ eb,ls _ _ eb,Ú _ _ e2,e3,e4,Hq e5 λo z=>Ú _ _ z⟩
 ·exact⟨rfl,q h' ı (λb o e=>kp b o (ni _ _ e) (ls _ _ e) (Ú _ _ e)) dd⟩
end
structure Pz where
 pa:ci
 k:List Key
 b:ci
 v:V
def Pz.At(H:Hp)(z:Pz):Prop:=H z.pa=ap (.tup [.ref z.b,z.v])/\H z.b=ap (.tup (z.k.map kV))
def aet(K:Ab):O V->Hp->VK->Prop:=λxs H Q=>∃(p:ci) (zs:O Pz),xs=[.ref p]/\eN K H p (zs.map λz=>.ref z.pa)/\(∀z∈zs,z.At H)/\(zs.map (·.k)).Nodup/\zs.length<=1000/\k6 H (.dT (zs.map λz=>(z.k,z.v))) Q
theorem u9{K:Type}[DecidableEq K]:∀(ys xs:O (K×ci×ce)),((xs++ys).map (·.1)).Nodup->ys.foldl (λa y=>FM a y.1 y.2.1 y.2.2) xs=xs++ys
 | [],xs,_=>by simp
 | y::ys,xs,h=>by
  have hn:atKey xs y.1=bm:=by
   cases e:atKey xs y.1 with
   | none=>rfl
   | some p=>
    exfalso;rw[Az,Aq]at h;have h2:=(DP.mp h).2.2;have hm:y.1∈xs.map (·.1):=by
     by_cases hc:y.1∈xs.map (·.1)
     ·exact hc
     ·rw[atKey_none_of_get (λj q hj=>?_)]at e
      ·cases e
      ·exact hc (Am.mpr ⟨_,Bi hj,rfl⟩)
    exact h2 _ hm _ BL rfl
  rw[Dx,storedH_new hn,u9 ys (xs++[(y.1,y.2.1,y.2.2)]) (by simpa using h)];simp
section
theorem Pk(K:Ab)(hK:X.K=K)(hc:X.calm=true)(hu:X.A.units+2 < ss):cC X (.type "dict") (aet K):=by
 subst hK;intro Z s σ H xs us Q I r h;obtain⟨p,zs,rfl,hq,hz,hn,hl,q⟩:=h;obtain⟨u,rfl,rx⟩:=vals1 r;cases rx;obtain⟨aw,rv,pl,hsz⟩:=I.list hq;obtain⟨o,n,ho,Y4,hd,lj⟩:=pl;have İ:∀(zs:O Pz) (aw:O ce),(∀z∈zs,z.At H)->Vals (zs.map λz=>V.ref z.pa) aw->∃ys:O (O Key×ci×ce),ys.map (·.1)=zs.map (·.k)/\KT H (zs.map λz=>(z.k,z.v)) ys/\
   ∀(j:Nat) (x:O Key×ci×ce),ys[j]?=ap x->∃(pa:ci) (op:Obj) (m:Nat),aw[j]?=ap (AB pa)/\s.heap.get? pa=ap op/\op.cls=.type "tuple"/\op.data=.seq #[AB x.2.1,x.2.2] m/\(r9 (cD X.prog X.w)).is s.heap x.1 x.2.1:=by
  intro zs
  induction zs with
  | nil=>intro aw _ _;exact⟨[],rfl,.nil,λj x h=>by simp at h⟩
  | cons z zs ih=>
   intro aw ha hv;cases hv with
   | @cons _ u _ us ru rus=>
   cases ru;obtain⟨ys,e1,e2,e3⟩:=ih us (λy hy=>ha y (A6 _ hy)) rus;obtain⟨a1,a2⟩:=ha z BL;obtain⟨_,its',r',op,h1,h2,m,h3⟩:=(show bA X.prog X.w H s.heap z.pa (.tup [.ref z.b,z.v]) from I.bN _ _ a1);obtain⟨w,rfl,HE⟩:∃w,its'=[AB z.b,w]/\RelV z.v w:=by
    cases r' with
    | cons q1 q2=>cases q1;cases q2 with
     | cons q3 q4=>cases q4;exact⟨_,rfl,q3⟩
   refine⟨(z.k,z.b,w)::ys,by rw[Aq,Aq,e1],.cons ⟨rfl,a2,HE⟩ e2,λj x hj=>?_⟩;cases j with
   | zero=>
    cases hj;exact⟨z.pa,op,m,rfl,h1,h2,h3,xG I.bN a2⟩
   | succ j=>exact e3 j x hj
 obtain⟨ys,e1,e2,e3⟩:=İ zs aw hz rv;have Â:=rv.length;rw[Ae]at Â;have Ľ:ys.length=zs.length:=by have:=congrArg BM e1;simpa using this
 have hs:(1000:Nat)+1000<=sizeLine:=by decide
 refine vM (knd:=cD X.prog X.w) (items:=aw.toArray) (ys:=ys) (I.ok.hd hc) hu ho Y4 lj hd (by rw[Ak];omega) (by rw[Ak];omega) (λj x hj=>?_) (λh' tk kp dd=>?_)
 ·obtain⟨pa,op,m,g1,g2⟩:=e3 j x hj;exact⟨pa,op,m,by rw[FE];exact g1,g2⟩
 ·rw[u9 ys [] (by rw[C7,e1];exact hn),C7]at dd;obtain⟨od,es,ep,Ł,h2,h3,h4,_,h5⟩:=dd;have anU:=beq_eq_false_iff_ne.mpr (BW (AM I.big));have fr:=I.bN.fresh (An s.heap.objs.size);refine⟨.ref s.heap.objs.size,_,I.laid (t':=tk) kp (An _) (show bA X.prog X.w (upd H s.heap.objs.size (.dT (zs.map λz=>(z.k,z.v)))) h' _ (.dT _) from⟨?_,anU,ys,?_,od,es,ep,Ł,h2,h3,h4,h5⟩),rfl,q.at _ fr⟩
  ·rw[Ae];exact AW hl ⋯
  ·refine e2.keeps λc xs ec=>?_;rw[aD (λz=>by subst z;rw[fr]at ec;cases ec)];exact ec
end
end L2
variable{es:Array PySem.DictEntry}{ep:Nat}
namespace L2
section
def tD(h:pr)(d:ci)(es:Array DictEntry)(ep:Nat):Prop:=∃o,h.get? d=ap o/\o.ExactDict/\o.data=.dict es ep
theorem WQ{Q:Option ce->cr->Prop}(Í:s.heap.IsKeyIter it d i es.size ep)(hm:tD s.heap d es ep)(hi:i < es.size)
  (q:∀h',h'.IsKeyIter it d (i+1) es.size ep->B1 it s.heap h'->Q (ap es[i].key) {s with heap:=h'}):db (ev prog w) A (KB (.ref it)) Q E s:=by
 have ty:=Í.typeIs;obtain⟨o,ho,hc,hd⟩:=id Í;obtain⟨od,J2,-,J3⟩:=hm;have LB:(s.heap.update it (D7 (·.setIfInBounds 1 (tz ((i:Int)+1))))).IsKeyIter it d (i+1) es.size ep:=⟨_,BX _ ho (DU (CB hd _)),(EY ..).trans hc,by rw[CB hd];simp[tz]⟩;refine Aa (CO (AX (name:=BO "__next__") ty B2 (A8 B2 ty D9 ?_ (DZ _))));refine Aa (Af (Aa (Aa ?_)))
 first | refine Aa (Cr ty (Af ?_)) | refine Aa (CN ty (Af ?_))
 refine Aa (EH ho hd ?_);show db _ _ (if (AB d==AU)=true then _ else _) _ _ s;rw[if_neg (λz:(AB d==AU)=true=>AY z)];refine Aa (Af (Aa (CK J2 J3 ?_)));rw[if_neg (by simp)];refine Aa (Af (Aa (C5 J2 J3 ?_)));rw[if_neg (by simp)];refine Af ?_;have i0:¬((i:Int) < 0):=by omega
 simp only[i0,if_false,A5,BA hi];refine Aa ?_
 first | refine Aa (Cr ty (Af ?_)) | refine Aa (CN ty (Af ?_))
 refine Aa (wpAny_isOneOf_keyiter ty ?_);show db _ _ (wS (.ref it) 1 (tz ((i:Int)+1)) >>= _) _ _ s;refine Aa (Dk ho hd (by simp) (Aa (Bj (Aa (wpAny_isOneOf_keyiter (s:={s with heap:=s.heap.update it (D7 (·.setIfInBounds 1 (tz ((i:Int)+1))))}) LB.typeIs ?_)))));exact Af (Af ⟨_,rfl,Af (q _ LB (B1.update ..))⟩)
theorem abG{Q:Option ce->cr->Prop}(hh:A.handled=bm)(Í:s.heap.IsKeyIter it d i es.size ep)(hm:tD s.heap d es ep)(hi:es.size<=i)
  (q:∀h',EZ it s.heap h'->Q bm {s with heap:=h'}):db (ev prog w) A (KB (.ref it)) Q E s:=by
 have ty:=Í.typeIs;obtain⟨o,ho,hc,hd⟩:=id Í;obtain⟨od,J2,-,J3⟩:=hm;refine Aa (CO (AX (name:=BO "__next__") ty B2 (A8 B2 ty D9 ?_ (DZ _))));refine Aa (Af (Aa (Aa ?_)))
 first | refine Aa (Cr ty (Af ?_)) | refine Aa (CN ty (Af ?_))
 refine Aa (EH ho hd ?_);show db _ _ (if (AB d==AU)=true then _ else _) _ _ s;rw[if_neg (λz:(AB d==AU)=true=>AY z)];refine Aa (Af (Aa (CK J2 J3 ?_)));rw[if_neg (by simp)];refine Aa (Af (Aa (C5 J2 J3 ?_)));rw[if_neg (by simp)];refine Af ?_;have i0:¬((i:Int) < 0):=by omega
 simp only[i0,if_false,A5,C3 hi];refine Aa ?_
 first | refine Aa (Cr ty (Af ?_)) | refine Aa (CN ty (Af ?_))
 show db _ _ (wS (.ref it) 0 .none >>= _) _ _ s;refine Aa (Dk ho hd (by simp) ?_);refine Aa ?_;refine Aa (AO (Aa (m:=firstArgMember _ _) (CJ (a:=AU) (by first | rfl | (simp only[firstArgMember];rfl)) (AO ?_ (by size_fits)))) (by size_fits));unfold raiseNew;refine Aa (FZ ?_);rw[show A.in1.handled=bm from hh];refine Aa (Af (wpAny_throw ?_));refine Aa (Dp (T:="StopIteration") (b:=true) ⟨_,Ar _ rfl,rfl⟩ isSubtype_stop ?_);exact Af (q _ (((B1.update ..).extBut.push _).push _))
def Xr(hs:(d==sB)=false)(hm:tD s.heap d es ep)
  (q:Q (.ref s.heap.objs.size) {s with heap:=s.heap.push {cls:=.type "dict_keyiterator",data:=.fields #[.ref d,.int 0 0,.int es.size 0,.int ep 0]}}):db (ev prog w) A (pyIter (.ref d)) Q E s:=by
 obtain⟨od,J2,hx,J3⟩:=hm;have ty:s.TypeIs (.ref d) "dict":=⟨_,J2,hx.1⟩;refine wpAny_pyIter_slot ty F.slot_dict_iter (A8 F.slot_dict_iter ty F.entry_dict_iter ?_ (F.args_dict_iter_1 _));refine Aa ?_;refine Aa (DV ty ?_);refine Af ?_;show db _ _ (Builtin.Dict.showsAll d >>= _) _ _ s;unfold Builtin.Dict.showsAll;rw[if_neg (by rw[hs];exact AY)];refine Aa (Af (Aa (CK J2 J3 (Aa (C5 J2 J3 ?_)))));exact Aa (AO (Af ⟨_,rfl,"dict_keyiterator",_,⟨_,Ar _ rfl,rfl⟩,B2.lookup,q⟩))
end
end L2
variable{u:L2.HO}
namespace L2
section
variable{σ:St}
def Inv.freeze(I:Inv X Z σ H s)(e:H a=ap (.dT kvs)):∃o,Inv X Z σ (upd H a (.c6 o (.dT kvs))) s:=by
 obtain⟨z,hs,xs,r,o,es,ep,h1,h2,h3,h4,h5⟩:=(show bA X.prog X.w H s.heap a (.dT kvs) from I.bN a _ e);refine⟨o,?_⟩;have q:=I.write (x:=a) (e:=a) (o:=.c6 o (.dT kvs)) (h':=s.heap) (t':=s.toks) (by rw[e];exact CA) (.inl rfl) (λb u _ z=>z) ⟨o,h1⟩
  ⟨h1,z,hs,xs,KT.keeps r λb ys eb=>by rw[aD (QI eb e (λz=>nomatch z))];exact eb,o,es,ep,h1,h2,h3,h4,h5⟩
 exact q
def Inv.amd(I:Inv X Z σ H s)(e:H a=ap (.c6 o u))(h0:∀o u,X.H₀ a≠ap (.c6 o u))(hu:bA X.prog X.w (upd H a u) s.heap a u)(bN:pJ X.prog X.w (upd H a u) s.heap):Inv X Z σ (upd H a u) s:=by
 have ne:∀b v,H b=v->v≠ap (.c6 o u)->b≠a:=λb v q n z=>by subst z;exact n (q.symm.trans e)
 refine⟨I.ok,I.os,I.bare,⟨I.base.keep,I.base.slot,λb ob q n hx=>?_,I.base.there,λb xs q=>?_,λb ob xs q=>?_,λb ps q=>?_⟩,I.loc,I.cell,?_,λx c q=>?_,λp hp=>?_,bN,I.len⟩
 ·have:=I.base.free b ob q n hx;rw[aD (ne b _ this (by simp))];exact this
 ·have:=I.base.fN b xs q;rw[aD (ne b _ this (by simp))];exact this
 ·have:=I.base.xY b ob xs q;have hb:b≠a:=λz=>by subst z;exact h0 _ _ q
  rw[aD hb];exact this
 ·obtain⟨m,this⟩:=I.base.Hr b ps q;exact⟨m,by rw[aD (ne b _ this (by simp))];exact this⟩
 ·rw[aD (ne _ _ I.free (by simp))];exact I.free
 ·rw[aD (ne _ _ (I.mY x c q) (by simp))];exact I.mY x c q
 ·obtain⟨p1,p2,p3⟩:=I.pin p hp;exact⟨p1,by rw[aD (ne _ _ p2 (by simp))];exact p2,p3⟩
def XA(ok:pJ P w H h)(e:H a=ap (.c6 o u)):pJ P w (upd H a u) h:=λb u' q=>by
 have ne:∀c v,H c=ap v->v≠.c6 o u->upd H a u c=ap v:=λc v z n=>by
  rw[aD (λy=>by subst y;rw[e]at z;cases z;exact n rfl)];exact z
 by_cases hb:b=a
 ·subst hb;rw[aW]at q;cases q;exact bA.Hu (ok b _ e).2 (λ_ _ _ z=>z) (λc z=>ne c _ z (by simp)) λc xs z=>ne c _ z (by simp)
 ·rw[aD hb]at q;exact bA.Hu (ok b _ q) (λ_ _ _ z=>z) (λc z=>ne c _ z (by simp)) λc xs z=>ne c _ z (by simp)
end
def akk(a:ci)(o:Obj):It:=
 ⟨λi H=>∃kvs,H a=ap (.c6 o (.dT kvs))/\i < kvs.length,λi H x H'=>H'=H/\∀kvs,H a=ap (.c6 o (.dT kvs))->∃b k v,x=.ref b/\kvs[i]?=ap (k,v)/\H b=ap (.tup (k.map kV)),λi H=>∃kvs,H a=ap (.c6 o (.dT kvs))/\kvs.length<=i⟩
theorem XW(x:bA P w H h a (.c6 o (.dT kvs)))(hd:o.data=.dict es ep) :
  tD h a es ep/\es.size=kvs.length/\∀(i:Nat) (hi:i < es.size),∃b k v,es[i].key=.ref b/\kvs[i]?=ap (k,v)/\H b=ap (.tup (k.map kV)):=by
 obtain⟨e,z,hs,xs,r,o',Ň,ň,h1,h2,h3,h4,h5⟩:=x;rw[e]at h1;cases h1;rw[hd]at h3;cases h3;have hl:es.size=xs.length:=by have:=congrArg BM h4;simpa using this
 refine⟨⟨o,e,h2,hd⟩,hl.trans (Paired.length r).symm,λi hi=>?_⟩;have hx:xs[i]?=ap (xs[i]'∅):=Ad _;have pg:∀{l:O (O Key×V)}{m:O (O Key×ci×ce)}{i:Nat}{q:O Key×ci×ce},KT H l m->m[i]?=ap q->∃v,l[i]?=ap (q.1,v)/\H q.2.1=ap (.tup (q.1.map kV)):=by
  intro l m i q t
  induction t generalizing i with
  | nil=>intro h;simp at h
  | @cons p q' ps qs hq t ih=>
   intro h;cases i with
   | zero=>
    cases h;obtain⟨p1,p2⟩:=p;have e1:=hq.1;subst e1;exact⟨p2,rfl,hq.2.1⟩
   | succ i=>exact ih (by simpa using h)
 obtain⟨v,g1,g2⟩:=pg r hx;refine⟨_,_,v,?_,g1,g2⟩;have:es[i]=entryOfKey (r9 (cD P w)) (xs[i]'∅):=by
  have h6:es.toList[i]?=ap (entryOfKey (r9 (cD P w)) (xs[i]'∅)):=by rw[h4,Aj,hx];rfl
  rw[Ck,BA hi]at h6;exact Option.some.inj h6
 rw[this];rfl
theorem RM{K:Ab}(a it:ci)(o:Obj)(hd:o.data=.dict es ep):Turn P w K tg (akk a o) [it] it (λi h=>h.IsKeyIter it a i es.size ep) where
 mem:=by simp
 obj:=λi h st b hb=>by
  have e:b=it:=by simpa using hb
  subst e;obtain⟨o,e,c,d⟩:=st;exact⟨o,e,λv z=>by rw[d]at z;cases z⟩
 keep:=λi h h' st k=>st.at λo e=>k it (by simp) o e
 item:=by
  intro X hP hw hK hc i Z s σ H E I hf st hg;subst hP hw hK;obtain⟨kvs,hq,hx⟩:=hg;obtain⟨Ć,hl,ky⟩:=XW (I.bN a _ hq) hd;obtain⟨b,k,v,k1,k2,k3⟩:=ky i ∅;obtain⟨f0,f1,f2,f3,f4,f5⟩:=hf it (by simp);refine WQ st Ć ∅ λh' qU sb=>?_;have I1:Inv X Z σ H {s with heap:=h'}:=I.turned (t':=s.toks) (λb o hb e=>(sb.2 b hb).trans e) f0 f1 f3 f4 f5;obtain⟨oi,e,c,d⟩:=id qU;refine⟨_,rfl,xT (s:={s with heap:=h'}) e c d ⋯ ⟨.ref b,H,I1,k1,⟨rfl,λars Ł=>?_⟩,qU,λb hb=>(hf b hb).1⟩⟩;rw[hq]at Ł;cases Ł;exact⟨b,k,v,rfl,k2,k3⟩
 done:=by
  intro X hP hw hK hc i Z s σ H E I hf st hg;obtain⟨kvs,hq,hx⟩:=hg;obtain⟨Ć,hl,ky⟩:=XW (I.bN a _ hq) hd;obtain⟨f0,f1,f2,f3,f4,f5⟩:=hf it (by simp);exact abG (I.ok.hd hc) st Ć ∅ λh' eb=>⟨rfl,I.turned (t':=s.toks) (λb o hb e=>eb b o hb e) f0 f1 f3 f4 f5⟩
 self:=λ_ _ _ _ _ st h=>wpAny_pyIter_keyiter st h
def afx(tl:TE):TI:=λσ H R=>tl σ H λx H1=>∃a o kvs,x=.ref a/\H1 a=ap (.c6 o (.dT kvs))/\R (akk a o) H1
def Wk{l:lc}(hl:PE X l tl):PI X tg l (afx tl):=by
 intro Z s σ H R I h;refine bS (hl Z s σ H _ I h) λv s1 ⟨x,H1,I1,r1,q1⟩=>?_;obtain⟨a,o,kvs,e,hq,q⟩:=q1;subst e;cases r1;obtain⟨eo,z,hs,xs,r,o',es,ep,h1,h2,h3,h4,h5⟩:=(show bA X.prog X.w H1 s1.heap a (.c6 o (.dT kvs)) from I1.bN a _ hq);rw[eo]at h1;cases h1;refine Xr hs ⟨o,eo,h2,h3⟩ ?_;refine⟨s1.heap.objs.size,[s1.heap.objs.size],_,_,H1,rfl,I1.kept (t':=s1.toks) λb o e=>Ag _ e,RM a _ o h3,⟨_,Ar _ rfl,rfl,rfl⟩,λb hb=>?_,q⟩;have e:b=s1.heap.objs.size:=by simpa using hb
 subst e;exact I1.xZ (An _) (I1.bN.fresh (An _))
end L2
variable{v:PL.PV}{φ:O L2.V->Prop}
noncomputable section
namespace FL
section
variable{K:Ab}
structure W(α:Type) where
 run:(α->Prop)->Prop
 mono:∀{Q Q':α->Prop},(∀a,Q a->Q' a)->run Q->run Q'
namespace W
variable{α β γ:Type}
def ext'{a b:W α}(h:∀Q,a.run Q↔b.run Q):a=b:=by
 cases a;cases b;congr;funext Q;exact propext (h Q)
noncomputable def ret(a:α):W α:=⟨λQ=>Q a,λh q=>h _ q⟩
noncomputable def bind(w:W α)(k:α->W β):W β:=⟨λQ=>w.run λa=>(k a).run Q,λh q=>w.mono (λa q=>(k a).mono h q) q⟩
def fail:W α:=⟨λ_=>False,λ_ q=>q⟩
def fK(p:Prop)(w:W α):W α:=⟨λQ=>p/\w.run Q,λh q=>⟨q.1,w.mono h q.2⟩⟩
def any(p:α->Prop):W α:=⟨λQ=>∀a,p a->Q a,λh q a pa=>h a (q a pa)⟩
def MF:Option α->W α
 | some a=>ret a
 | none=>fail
@[simp] theorem aa(a:α)(k:α->W β):bind (ret a) k=k a:=(rfl)
@[simp] theorem bind_assoc(w:W α)(f:α->W β)(g:β->W γ):bind (bind w f) g=bind w λa=>bind (f a) g:=(rfl)
@[simp] theorem ake(w:W α):bind w ret=w:=(rfl)
@[simp] theorem ag4(k:α->W β):bind fail k=fail:=(rfl)
@[simp] theorem af(a:α)(Q:α->Prop):(ret a).run Q=Q a:=(rfl)
@[simp] theorem run_bind(w:W α)(k:α->W β)(Q:β->Prop):(bind w k).run Q=w.run λa=>(k a).run Q:=(rfl)
@[simp] theorem ah1(Q:α->Prop):(fail:W α).run Q=False:=(rfl)
@[simp] theorem akA(p Q:α->Prop):(any p).run Q=∀a,p a->Q a:=(rfl)
@[simp] theorem ZL(p:Prop)(w:W α)(Q:α->Prop):(fK p w).run Q=(p/\w.run Q):=(rfl)
@[simp] theorem YC(p:Prop)(w:W α)(k:α->W β):bind (fK p w) k=fK p (bind w k):=(rfl)
def ak{p:Prop}{w:W α}(h:p):fK p w=w:=ext' λQ=>⟨λq=>q.2,λq=>⟨h,q⟩⟩
@[simp] theorem aj7{w:W α}:fK True w=w:=ak trivial
@[simp] theorem ax(a:α):MF (ap a)=ret a:=(rfl)
@[simp] theorem aiA:MF (bm:Option α)=fail:=(rfl)
end W
inductive SL where
 | val (v:PV) | adr (b:ci) | ol (q:Option ci) (l:List PV) | oll (bs:List ci) (ls:List (List PV)) | od (kvs:List (Key×PV)) | ot (kvs:List (List Key×PV)) | ng (φ:List V->Prop)
abbrev bD:=O (Option SL)
def SL.own:SL->Bool
 | .val _=>false
 | .adr _=>false
 | _=>true
def SL.inn:SL->O ci
 | .oll bs _=>bs
 | _=>[]
def SL.has(s:SL)(x a:ci):Prop:=a=x\/a∈s.inn
def m5(K:Ab)(H:Hp)(a:ci):SL->Prop
 | .val _=>False
 | .adr b=>a=b
 | .oll bs ls=>H a=ap (.lst (bs.map V.ref))/\a∉bs/\bs.Nodup/\bs.length=ls.length/\∀(j:Nat) (b:ci) (l:O PV),bs[j]?=ap b->ls[j]?=ap l->∃ws,H b=ap (.lst ws)/\aO K [] H ws l
 | .ol q l=>(∀b,q=ap b->a=b)/\∃vs,H a=ap (.lst vs)/\aO K [] H vs l
 | .od kvs=>∃vs:O (Key×V),H a=ap (.dK vs)/\vs.map (·.1)=kvs.map (·.1)/\aO K [] H (vs.map (·.2)) (kvs.map (·.2))
 | .ot kvs=>∃vs:O (O Key×V),H a=ap (.dT vs)/\vs.map (·.1)=kvs.map (·.1)/\aO K [] H (vs.map (·.2)) (kvs.map (·.2))
 | .ng φ=>∃vs,H a=ap (.lst vs)/\φ vs
def He(K:Ab)(H:Hp)(u:V)(s:SL):Prop:=(∃v,s=.val v/\VR K [] H u v)\/∃a,u=.ref a/\m5 K H a s
def ff(σ:L2.St)(fs:bD)(a:ci):Prop:=∃(i:Nat) (s:SL) (x:ci),fs[i]?=ap (ap s)/\s.own=true/\σ[i]?=ap (ap (.ref x))/\s.has x a
def km(σ:L2.St)(fs:bD)(φ:O V->Prop)(a:ci):Prop:=∃i:Nat,fs[i]?=ap (ap (.ng φ))/\σ[i]?=ap (ap (.ref a))
structure a8(K:Ab)(H:Hp)(σ:L2.St)(fs:bD):Prop where
 len:σ.length=fs.length
 at':∀(i:Nat) (s:SL),fs[i]?=ap (ap s)->∃u,σ[i]?=ap (ap u)/\He K H u s
 nd:∀(i j:Nat) (s t:SL) (x y a:ci),fs[i]?=ap (ap s)->fs[j]?=ap (ap t)->s.own=true->t.own=true->σ[i]?=ap (ap (.ref x))->σ[j]?=ap (ap (.ref y))->s.has x a->t.has y a->i=j
structure cZ(σ:L2.St)(fs:bD)(H:Hp)(σ':L2.St)(cf:bD)(H':Hp):Prop where
 keep:∀a o,H a=ap o->¬ff σ fs a->H' a=ap o/\¬ff σ' cf a
 there:∀a,H' a=bm->H a=bm
 pk:∀a φ,km σ fs φ a->km σ' cf φ a\/(¬ff σ' cf a/\∃vs,H' a=ap (.lst vs)/\φ vs)
structure dQ(σ:L2.St)(fs:bD)(H H':Hp):Prop where
 keep:∀a o,H a=ap o->(∀φ,¬km σ fs φ a)->H' a=ap o
 there:∀a,H' a=bm->H a=bm
section
variable{σ σ' σ1 σ2:L2.St}{fs cf â d9:bD}{H H' H1 H2:Hp}
def km.HQ(p:km σ fs φ a):ff σ fs a:=let ⟨i,e1,e2⟩:=p;⟨i,_,_,e1,rfl,e2,.inl rfl⟩
def dQ.refl:dQ σ fs H H:=⟨λ_ _ h _=>h,λ_ h=>h⟩
def dQ.trans(a:dQ σ fs H H1)(b:dQ σ fs H1 H2):dQ σ fs H H2:=⟨λx o h n=>b.keep x o (a.keep x o h n) n,λx h=>a.there x (b.there x h)⟩
def dQ.f(g:dQ σ fs H H'):cZ σ fs H σ fs H':=⟨λa o h n=>⟨g.keep a o h λφ p=>n p.HQ,n⟩,g.there,λa φ p=>.inl p⟩
def dQ.GK(g:dQ σ fs H H'){o:HO}(h:H a=ap o)(n:¬ff σ fs a):H' a=ap o:=g.keep a o h λφ p=>n p.HQ
def dQ.same(h:mP H H'):dQ σ fs H H':=⟨λa o e _=>h a o e,λa e=>(by
 cases z:H a with
 | none=>rfl
 | some o=>rw[h a o z]at e;cases e)⟩
def m5.ex{c:ci}{s:SL}(h:m5 K H a s)(ho:s.own=true)(hc:s.has a c):∃o,H c=ap o/\(∀vs,o≠.tup vs)/\∀ob u,o≠.c6 ob u:=by
 cases s with
 | val _=>exact h.elim
 | adr _=>cases ho
 | ol q l=>obtain⟨_,vs,e,_⟩:=h;rcases hc with rfl | hc;exact⟨_,e,by simp,by simp⟩;cases hc
 | oll bs ls=>
  obtain⟨e,_,_,hl,hb⟩:=h;rcases hc with rfl | hc
  ·exact⟨_,e,by simp,by simp⟩
  ·obtain⟨j,hj⟩:=Dn (show c∈bs from hc);have h1:=(Al.mp hj).1;obtain⟨ws,e,_⟩:=hb j c _ hj (Ad (by rw[<- hl];exact h1));exact⟨_,e,by simp,by simp⟩
 | od l=>obtain⟨vs,e,_⟩:=h;rcases hc with rfl | hc;exact⟨_,e,by simp,by simp⟩;cases hc
 | ot l=>obtain⟨vs,e,_⟩:=h;rcases hc with rfl | hc;exact⟨_,e,by simp,by simp⟩;cases hc
 | ng l=>obtain⟨vs,e,_⟩:=h;rcases hc with rfl | hc;exact⟨_,e,by simp,by simp⟩;cases hc
def a8.ownAt(s:a8 K H σ fs){t:SL}(h1:fs[i]?=ap (ap t))(h2:t.own=true)(h3:σ[i]?=ap (ap (.ref a))):m5 K H a t:=by
 obtain⟨u,e,r⟩:=s.at' i t h1;rw[h3]at e;cases e;rcases r with⟨v,rfl,_⟩ | ⟨b,e,r⟩
 ·cases h2
 ·cases e;exact r
def a8.HQ(s:a8 K H σ fs)(h:ff σ fs a):∃o,H a=ap o/\(∀vs,o≠.tup vs)/\∀ob u,o≠.c6 ob u:=by
 obtain⟨i,t,x,h1,h2,h3,h4⟩:=h;exact(s.ownAt h1 h2 h3).ex h2 h4
def a8.noOwn(s:a8 K H σ fs)(h:H a=bm):¬ff σ fs a:=λz=>by
 obtain⟨o,e,_⟩:=s.HQ z;rw[h]at e;cases e
def a8.ae0(s:a8 K H σ fs)(h:H a=ap (.tup vs)):¬ff σ fs a:=λz=>by
 obtain⟨o,e,n,_⟩:=s.HQ z;rw[h]at e;cases e;exact n vs rfl
def a8.ae1(s:a8 K H σ fs)(h:H a=ap (.c6 ob u)):¬ff σ fs a:=λz=>by
 obtain⟨o,e,_,n⟩:=s.HQ z;rw[h]at e;cases e;exact n ob u rfl
def cZ.refl:cZ σ fs H σ fs H:=⟨λ_ _ h n=>⟨h,n⟩,λ_ h=>h,λ_ _ h=>.inl h⟩
def cZ.trans(a:cZ σ fs H σ1 â H1)(b:cZ σ1 â H1 σ2 d9 H2):cZ σ fs H σ2 d9 H2:=
 ⟨λx o h n=>let ⟨h1,n1⟩:=a.keep x o h n;b.keep x o h1 n1,λx h=>a.there x (b.there x h),λx φ h=>(a.pk x φ h).elim (b.pk x φ) λ⟨n,vs,e,p⟩=>.inr (let ⟨h1,n1⟩:=b.keep x _ e n;⟨n1,vs,h1,p⟩)⟩
def cZ.fN(g:cZ σ fs H σ' cf H')(s:a8 K H σ fs):bQ K H H':=
 ⟨λa vs h=>(g.keep a _ h (s.ae0 h)).1,λa o u h=>(g.keep a _ h (s.ae1 h)).1⟩
def VR.tk{u:V}(t:bQ K H H')(r:VR K [] H u v):VR K [] H' u v:=r.mono t λ_ _ e=>e
def aO.tk{u:O V}{v:O PV}(t:bQ K H H')(r:aO K [] H u v):aO K [] H' u v:=r.mono t λ_ _ e=>e
def cZ.vr(g:cZ σ fs H σ' cf H')(s:a8 K H σ fs){u:V}(r:VR K [] H u v):VR K [] H' u v:=VR.tk (g.fN s) r
def dQ.fN(g:dQ σ fs H H')(s:a8 K H σ fs):bQ K H H':=g.f.fN s
def dQ.vr(g:dQ σ fs H H')(s:a8 K H σ fs){u:V}(r:VR K [] H u v):VR K [] H' u v:=VR.tk (g.fN s) r
def dQ.U9(g:dQ σ fs H H')(s:a8 K H σ fs){u:O V}{v:O PV}(r:aO K [] H u v):aO K [] H' u v:=aO.tk (g.fN s) r
def m5.mono{s:SL}(t:bQ K H H')(e:∀c o,s.own=true->s.has a c->H c=ap o->H' c=ap o)(h:m5 K H a s):m5 K H' a s:=by
 cases s with
 | val _=>exact h
 | adr _=>exact h
 | ol _ l=>obtain⟨z,vs,q,r⟩:=h;exact⟨z,vs,e _ _ rfl (.inl rfl) q,aO.tk t r⟩
 | oll bs ls=>
  obtain⟨z,h1,h2,h3,h4⟩:=h;refine⟨e _ _ rfl (.inl rfl) z,h1,h2,h3,λj b l hb hl=>?_⟩;obtain⟨ws,q,r⟩:=h4 j b l hb hl;exact⟨ws,e _ _ rfl (.inr (Bi hb)) q,aO.tk t r⟩
 | od l=>obtain⟨vs,q,k,r⟩:=h;exact⟨vs,e _ _ rfl (.inl rfl) q,k,aO.tk t r⟩
 | ot l=>obtain⟨vs,q,k,r⟩:=h;exact⟨vs,e _ _ rfl (.inl rfl) q,k,aO.tk t r⟩
 | ng φ=>obtain⟨vs,q,k⟩:=h;exact⟨vs,e _ _ rfl (.inl rfl) q,k⟩
def He.mono{u:V}{s:SL}(t:bQ K H H')(e:∀x a o,u=.ref x->s.own=true->s.has x a->H a=ap o->H' a=ap o)(h:He K H u s):He K H' u s:=by
 rcases h with⟨v,q,r⟩ | ⟨a,q,r⟩
 ·exact .inl ⟨v,q,VR.tk t r⟩
 ·exact .inr ⟨a,q,r.mono t (λc o z y w=>e a c o q z y w)⟩
def a8.same(s:a8 K H σ fs)(h:mP H H'):a8 K H' σ fs:=⟨s.len,λi t e=>let ⟨u,h1,h2⟩:=s.at' i t e;⟨u,h1,h2.mono h.fM (λ_ a o _ _ _ z=>h a o z)⟩,s.nd⟩
def cZ.same(h:mP H H')(s:a8 K H σ fs):cZ σ fs H σ fs H':=⟨λa o e n=>⟨h a o e,n⟩,λa e=>(by
 cases z:H a with
 | none=>rfl
 | some o=>rw[h a o z]at e;cases e),λa φ p=>.inl p⟩
inductive jO:bD->bD->Prop
 | nil:jO [] []
 | drop {s:Option SL}{a b:bD} (h:jO a b):jO (s::a) (bm::b)
 | keep {s:Option SL}{a b:bD} (h:jO a b):jO (s::a) (s::b)
theorem jO.at{a b:bD}(h:jO a b):∀(i:Nat) (s:SL),b[i]?=ap (ap s)->a[i]?=ap (ap s):=by
 induction h with
 | nil=>intro i s e;simp at e
 | drop h ih=>intro i s e;cases i with | zero=>simp at e | succ i=>simp at e ⊢;exact ih i s e
 | keep h ih=>intro i s e;cases i with | zero=>simpa using e | succ i=>simp at e ⊢;exact ih i s e
theorem jO.length{a b:bD}(h:jO a b):a.length=b.length:=by induction h <;> simp_all
theorem jO.refl:∀a:bD,jO a a
 | []=>.nil
 | _::a=>.keep (jO.refl a)
def a8.le(s:a8 K H σ fs)(h:jO fs cf):a8 K H σ cf:=⟨s.len.trans h.length,λi t e=>s.at' i t (h.at i t e),λi j t u x y a e1 e2=>s.nd i j t u x y a (h.at i t e1) (h.at j u e2)⟩
def ff.le(h:jO fs cf)(o:ff σ cf a):ff σ fs a:=let ⟨i,t,x,e1,e2,e3⟩:=o;⟨i,t,x,h.at i t e1,e2,e3⟩
def cZ.le(s:a8 K H σ fs)(h:jO fs cf):cZ σ fs H σ cf H:=⟨λa o e n=>⟨e,λz=>n (z.le h)⟩,λ_ e=>e,λa φ p=>by
 obtain⟨i,e1,e2⟩:=p;by_cases c:ff σ cf a
 ·obtain⟨j,t,x,c1,c2,c3,c4⟩:=c;have ij:=s.nd i j _ t a x a e1 (h.at j t c1) rfl c2 e2 c3 (.inl rfl) c4;subst ij;have:=h.at i t c1;rw[e1]at this;cases this;exact .inl ⟨i,c1,e2⟩
 ·obtain⟨vs,q,r⟩:=s.ownAt e1 rfl e2;exact .inr ⟨c,vs,q,r⟩⟩
def dM{l:O (Option α)}{x y:α}(h:(l.set i (ap x))[j]?=ap (ap y)):(j=i/\y=x)\/(j≠i/\l[j]?=ap (ap y)):=by
 by_cases c:j=i
 ·subst c;rw[List.getElem?_set]at h;simp at h;exact .inl ⟨rfl,h.2.symm⟩
 ·rw[Bx (λz=>c z.symm)]at h;exact .inr ⟨c,h⟩
def dr{l:List α}{x:α}(h:i < l.length):(l.set i x)[i]?=ap x:=by rw[List.getElem?_set];simp[h]
def aY{l:List α}{x:α}(h:j≠i):(l.set i x)[j]?=l[j]?:=Bx (λz=>h z.symm)
def a8.put(s:a8 K H σ fs){u:V}{t:SL}(hr:He K H u t)(hf:∀x a,u=.ref x->t.own=true->t.has x a->∀(j:Nat) (w:SL) (y:ci),j≠i->fs[j]?=ap (ap w)->w.own=true->σ[j]?=ap (ap (.ref y))->¬w.has y a):a8 K H (σ.set i (ap u)) (fs.set i (ap t)):=by
 refine⟨by simp[s.len],λj w e=>?_,λj k w x b1 b2 a e1 e2 o1 o2 q1 q2 z1 z2=>?_⟩
 ·rcases dM e with⟨rfl,rfl⟩ | ⟨n,e⟩
  ·have hl:j < σ.length:=by
    have:=(Al.mp e).1;rw[B3]at this;rw[s.len];exact this
   exact⟨u,dr hl,hr⟩
  ·obtain⟨v,h1,h2⟩:=s.at' j w e;exact⟨v,by rw[aY n];exact h1,h2⟩
 ·rcases dM e1 with⟨y1,y2⟩ | ⟨n1,f1⟩ <;> rcases dM e2 with⟨y3,y4⟩ | ⟨n2,f2⟩
  ·exact y1.trans y3.symm
  ·subst y1;subst y2;rw[aY n2]at q2;have hl:j < σ.length:=by have:=(Al.mp q1).1;simpa using this
   rw[dr hl]at q1;cases q1;exact absurd z2 (hf _ a rfl o1 z1 k x b2 n2 f2 o2 q2)
  ·subst y3;subst y4;rw[aY n1]at q1;have hl:k < σ.length:=by have:=(Al.mp q2).1;simpa using this
   rw[dr hl]at q2;cases q2;exact absurd z1 (hf _ a rfl o2 z2 j w b1 n1 f1 o1 q1)
  ·rw[aY n1]at q1;rw[aY n2]at q2;exact s.nd j k w x b1 b2 a f1 f2 o1 o2 q1 q2 z1 z2
def a8.eY(s:a8 K H σ fs){u:V}(hr:VR K [] H u v)(i:Nat):a8 K H (σ.set i (ap u)) (fs.set i (ap (.val v))):=s.put (.inl ⟨v,rfl,hr⟩) λ_ _ _ z=>by cases z
def KL{u:V}{t:SL}(o:ff (σ.set i (ap u)) (fs.set i (ap t)) a)(hl:σ.length=fs.length):ff σ fs a\/∃x,u=.ref x/\t.own=true/\t.has x a:=by
 obtain⟨j,w,x,e1,e2,e3,e4⟩:=o;rcases dM e1 with⟨rfl,rfl⟩ | ⟨n,e1⟩
 ·have h2:j < σ.length:=by have:=(Al.mp e3).1;simpa using this
  rw[dr h2]at e3;cases e3;exact .inr ⟨x,rfl,e2,e4⟩
 ·rw[aY n]at e3;exact .inl ⟨j,w,x,e1,e2,e3,e4⟩
def Qu(s:a8 K H σ fs){u:V}{t:SL}(p:km σ fs φ a)(hu:∀x,u=.ref x->t.own=true->t.has x a->t=.ng φ):km (σ.set i (ap u)) (fs.set i (ap t)) φ a\/¬ff (σ.set i (ap u)) (fs.set i (ap t)) a:=by
 obtain⟨j,e1,e2⟩:=p;by_cases c:j=i
 ·subst c;by_cases c2:∃x,u=.ref x/\t.own=true/\t.has x a
  ·obtain⟨x,c3,c4,c5⟩:=c2;have hl:=(Al.mp e2).1;have UQ:=(Al.mp e1).1;have et:=hu x c3 c4 c5;subst et;rcases c5 with rfl | c5
   ·exact .inl ⟨j,by rw[dr UQ],by rw[dr hl,c3]⟩
   ·cases c5
  ·refine .inr λo=>?_;obtain⟨k,w,y,q1,q2,q3,q4⟩:=o;rcases dM q1 with⟨rfl,rfl⟩ | ⟨n,q1⟩
   ·have hl:=(Al.mp e2).1;rw[dr hl]at q3;cases q3;exact c2 ⟨y,rfl,q2,q4⟩
   ·rw[aY n]at q3;exact n (s.nd k j w _ y a a q1 e1 q2 rfl q3 e2 q4 (.inl rfl))
 ·exact .inl ⟨j,by rw[aY c];exact e1,by rw[aY c];exact e2⟩
def cZ.eY(s:a8 K H σ fs)(u:V)(v:PV)(i:Nat):cZ σ fs H (σ.set i (ap u)) (fs.set i (ap (.val v))) H:=
 ⟨λa o e n=>⟨e,λz=>(KL z s.len).elim n λ⟨_,_,z,_⟩=>by cases z⟩,λ_ e=>e,λa φ p=>(Qu s p (λ_ _ z=>by cases z)).imp id λn=>⟨n,by
  obtain⟨j,e1,e2⟩:=p;obtain⟨vs,q,r⟩:=s.ownAt e1 rfl e2;exact⟨vs,q,r⟩⟩⟩
def a8.V8(s:a8 K H σ fs){t:SL}(hr:m5 K H a t)(hn:∀c,t.has a c->¬ff σ fs c)(i:Nat):a8 K H (σ.set i (ap (.ref a))) (fs.set i (ap t)):=s.put (.inr ⟨a,rfl,hr⟩) λx c e _ hc j w y n e1 e2 e3 z=>by
 cases e;exact hn c hc ⟨j,w,y,e1,e2,e3,z⟩
def IL{t:SL}(hi:t.inn=[]){c:ci}(h:t.has a c):c=a:=by
 rcases h with h | h
 ·exact h
 ·rw[hi]at h;cases h
def a8.HG(s:a8 K H σ fs){t:SL}(hr:m5 K H a t)(hn:¬ff σ fs a)(i:Nat)(hi:‹t.inn=[]›):a8 K H (σ.set i (ap (.ref a))) (fs.set i (ap t)):=s.V8 hr (λc hc=>by rw[IL hi hc];exact hn) i
def cZ.V8(s:a8 K H1 σ fs)(g:cZ σ fs H σ fs H1){t:SL}(hn:∀c,t.has a c->¬ff σ fs c)(h0:∀c,t.has a c->H c=bm)(i:Nat):cZ σ fs H (σ.set i (ap (.ref a))) (fs.set i (ap t)) H1:=by
 refine⟨λb o e n=>⟨(g.keep b o e n).1,λz=>(KL z s.len).elim n λ⟨x,z,_,y⟩=>?_⟩,g.there,λb φ p=>?_⟩
 ·cases z;rw[h0 b y]at e;cases e
 ·obtain⟨j,e1,e2⟩:=p;obtain⟨vs,q,r⟩:=s.ownAt e1 rfl e2;refine(Qu (t:=t) s ⟨j,e1,e2⟩ (λx z o y=>?_)).imp id λn=>⟨n,vs,q,r⟩;cases z;exact absurd ⟨j,_,_,e1,rfl,e2,.inl rfl⟩ (hn b y)
def cZ.HG(s:a8 K H1 σ fs)(g:cZ σ fs H σ fs H1){t:SL}(hn:¬ff σ fs a)(h0:H a=bm)(i:Nat)(hi:‹t.inn=[]›):cZ σ fs H (σ.set i (ap (.ref a))) (fs.set i (ap t)) H1:=cZ.V8 s g (λc hc=>by rw[IL hi hc];exact hn) (λc hc=>by rw[IL hi hc];exact h0) i
def KN(s:a8 K H σ fs){t t':SL}{c:ci}(e1:fs[i]?=ap (ap t))(o:t.own=true)(np:∀φ,t≠.ng φ)(e2:σ[i]?=ap (ap (.ref a)))(hc:t.has a c)(Y4:t'.has a c)(LC:∀b,t'.has a b->t.has a b)(o':t'.own=true)(sx:qj c H H')(ht:bQ K H H'->m5 K H' a t'):a8 K H' σ (fs.set i (ap t'))/\cZ σ fs H σ (fs.set i (ap t')) H':=by
 have oa:=s.ownAt e1 o e2;obtain⟨ob,q,n1,n2⟩:=oa.ex o hc;have tk:bQ K H H':=⟨λb vs z=>sx b _ (λy=>by subst y;rw[q]at z;cases z;exact n1 _ rfl) z,λb o u z=>sx b _ (λy=>by subst y;rw[q]at z;cases z;exact n2 _ _ rfl) z⟩;have ć:=ht tk;have hi:i < fs.length:=(Al.mp e1).1;have aah:∀b,ff σ (fs.set i (ap t')) b->ff σ fs b:=λb z=>by
  obtain⟨j,w,x,z1,z2,z3,z4⟩:=z;rcases dM z1 with⟨rfl,rfl⟩ | ⟨n,z1⟩
  ·rw[e2]at z3;cases z3;exact⟨j,t,a,e1,o,e2,LC b z4⟩
  ·exact⟨j,w,x,z1,z2,z3,z4⟩
 refine⟨⟨by simp[s.len],λj w e=>?_,λj k w x b1 b2 b z1 z2 o1 o2 q1 q2 y1 y2=>?_⟩,⟨λb ob e n=>⟨sx b ob (λz=>by subst z;exact n ⟨i,t,a,e1,o,e2,hc⟩) e,λz=>n (aah b z)⟩,λb e=>?_,λb φ p=>?_⟩⟩
 ·rcases dM e with⟨rfl,rfl⟩ | ⟨n,e⟩
  ·exact⟨_,e2,.inr ⟨a,rfl,ć⟩⟩
  ·obtain⟨u,h1,h2⟩:=s.at' j w e;refine⟨u,h1,h2.mono tk (λx b ob eb ow hb z=>sx b ob (λy=>?_) z)⟩;subst y;subst eb;exact n (s.nd j i w t x a b e e1 ow o h1 e2 hb hc)
 ·have f:∀{j:Nat}{w:SL}{y:ci},(fs.set i (ap t'))[j]?=ap (ap w)->w.own=true->σ[j]?=ap (ap (.ref y))->w.has y b->∃w',fs[j]?=ap (ap w')/\w'.own=true/\w'.has y b:=λ{j w y} z ow qy hy=>by
   rcases dM z with⟨rfl,rfl⟩ | ⟨n,z⟩
   ·rw[e2]at qy;cases qy;exact⟨t,e1,o,LC b hy⟩
   ·exact⟨w,z,ow,hy⟩
  obtain⟨w',a1,a2,a3⟩:=f z1 o1 q1 y1;obtain⟨x',c1,c2,c3⟩:=f z2 o2 q2 y2;exact s.nd j k w' x' b1 b2 b a1 c1 a2 c2 q1 q2 a3 c3
 ·cases z:H b with
  | none=>rfl
  | some ob=>
   by_cases cc:b=c
   ·subst cc;obtain⟨o2,y,_⟩:=ć.ex o' Y4;rw[e]at y;cases y
   ·rw[sx b ob cc z]at e;cases e
 ·obtain⟨j,p1,p2⟩:=p;have ji:j≠i:=λz=>by subst z;rw[e1]at p1;cases p1;exact np φ rfl
  exact .inl ⟨j,by rw[aY ji];exact p1,p2⟩
def fo(s:a8 K H σ fs){t t':SL}(e1:fs[i]?=ap (ap t))(o:t.own=true)(np:∀φ,t≠.ng φ)(e2:σ[i]?=ap (ap (.ref a)))(sx:qj a H H')(ht:bQ K H H'->m5 K H' a t')(hi:‹t'.inn=t.inn›)(o':‹t'.own=true›):a8 K H' σ (fs.set i (ap t'))/\cZ σ fs H σ (fs.set i (ap t')) H':=
 KN s e1 o np e2 (.inl rfl) (.inl rfl) (λb h=>by unfold SL.has at h ⊢;rw[hi]at h;exact h) o' sx ht
end
end
end FL
open FL.W renaming bind→am,ret→bd,run_bind→bn,aa→ga,af→kw,ak→mo,ax→sw,ext'→zn
local macro_rules | `($a\$b)=>`(am (bd $a) $b)
variable{x:Cu}{u:L2.V}{o b:B8}{fs cf:FL.bD}{es:O B8}{σ':L2.St}{wa wb wc:FL.W PL.PV}{wl:FL.W (O PL.PV)}
namespace FL
section
variable{K:Ab}
def fE(K:Ab)(fs:bD)(w:W PV):TE:=λσ H Q=>a8 K H σ fs/\w.run λv=>∀u H',dQ σ fs H H'->a8 K H' σ fs->VR K [] H' u v->Q u H'
def fT(K:Ab)(fs:bD)(w:W Bool):TT:=λσ H Q=>a8 K H σ fs/\w.run λb=>∀H',dQ σ fs H H'->a8 K H' σ fs->Q b H'
def fO(K:Ab)(fs:bD)(w:W (Option Int)):TO:=λσ H Q=>a8 K H σ fs/\w.run λb=>∀H',dQ σ fs H H'->a8 K H' σ fs->Q b H'
def fL(K:Ab)(fs:bD)(w:W (O PV)):TE:=λσ H Q=>a8 K H σ fs/\w.run λl=>∀a vs H',dQ σ fs H H'->a8 K H' σ fs->H a=bm->H' a=ap (.lst vs)->aO K [] H' vs l->Q (.ref a) H'
def SqI(K:Ab)(H:Hp)(u:V)(l:O PV):Prop:=∃a vs,u=.ref a/\(FzL K H a vs\/H a=ap (.tup vs))/\aO K [] H vs l
def SqF(K:Ab)(σ:L2.St)(fs:bD)(H:Hp)(u:V)(l:O PV):Prop:=SqI K H u l\/∃a,u=.ref a/\((¬ff σ fs a/\∃vs,H a=ap (.lst vs)/\aO K [] H vs l)\/∃(i:Nat) (q:Option ci),fs[i]?=ap (ap (.ol q l))/\σ[i]?=ap (ap (.ref a)))
def fQ(K:Ab)(fs:bD)(w:W (O PV)):TE:=λσ H Q=>a8 K H σ fs/\w.run λl=>∀u H',dQ σ fs H H'->a8 K H' σ fs->SqF K σ fs H' u l->Q u H'
def fI(K:Ab)(fs:bD)(w:W (O PV)):TE:=λσ H Q=>a8 K H σ fs/\w.run λl=>∀u H',dQ σ fs H H'->a8 K H' σ fs->SqI K H' u l->Q u H'
inductive AK where
 | v | p (φ:List V->Prop) | f (a:ci)
inductive hX(K:Ab)(σ:L2.St)(fs:bD)(H:Hp):List V->List AK->List PV->Prop
 | nil:hX K σ fs H [] [] []
 | v {u:V}{x:PV}{vs:List V}{ks:List AK}{l:List PV} (r:VR K [] H u x) (t:hX K σ fs H vs ks l):hX K σ fs H (u::vs) (.v::ks) (x::l)
 | p {a:ci}{φ:List V->Prop}{vs:List V}{ks:List AK}{l:List PV} (r:km σ fs φ a) (t:hX K σ fs H vs ks l):hX K σ fs H (.ref a::vs) (.p φ::ks) l
 | f {a:ci}{vs:List V}{ks:List AK}{l:List PV} (t:hX K σ fs H vs ks l):hX K σ fs H (.ref a::vs) (.f a::ks) l
def fA(K:Ab)(fs:bD)(ks:O AK)(w:W (O PV)):TA:=λσ H Q=>a8 K H σ fs/\w.run λl=>∀vs H',dQ σ fs H H'->a8 K H' σ fs->hX K σ fs H' vs ks l->Q vs H'
structure EF(X:Cx)(K:Ab)(fs:bD)(e:lc)(w:W PV):Prop where p:PE X e (fE K fs w)
structure LF(X:Cx)(K:Ab)(fs:bD)(e:lc)(w:W (List PV)):Prop where p:PE X e (fL K fs w)
structure QF(X:Cx)(K:Ab)(fs:bD)(e:lc)(w:W (List PV)):Prop where p:PE X e (fQ K fs w)
structure IF(X:Cx)(K:Ab)(fs:bD)(e:lc)(w:W (List PV)):Prop where p:PE X e (fI K fs w)
structure TF(X:Cx)(K:Ab)(fs:bD)(e:lc)(w:W Bool):Prop where p:PT X e (fT K fs w)
structure yU(X:Cx)(K:Ab)(fs:bD)(e:lc)(w:W Bool):Prop where p:PW X e (fT K fs w)
structure OF(X:Cx)(K:Ab)(fs:bD)(e:Option lc)(w:W (Option Int)):Prop where p:L2.PO X e (fO K fs w)
structure AF(X:Cx)(K:Ab)(fs:bD)(es:List lc)(ks:List AK){R:Type}(B:(List PV->W R)->W R):Prop where
 p:∃w:W (List PV),PA X es (fA K fs ks w)/\∀k,B k=am w k
section
def SqI.tk(t:bQ K H H')(h:SqI K H u l):SqI K H' u l:=by
 obtain⟨a,vs,e,q,r⟩:=h;exact⟨a,vs,e,q.imp (t.f _ _) (t.t _ _),aO.tk t r⟩
def SqF.go(h:SqF K σ fs H u l)(s:a8 K H σ fs)(g:dQ σ fs H H'):SqF K σ fs H' u l:=by
 rcases h with h | ⟨a,e,⟨n,vs,q,r⟩ | q⟩
 ·exact .inl (h.tk (g.fN s))
 ·exact .inr ⟨a,e,.inl ⟨n,vs,(g.GK q n),g.U9 s r⟩⟩
 ·exact .inr ⟨a,e,.inr q⟩
def SqF.sq(h:SqF K σ fs H u l)(s:a8 K H σ fs):∃a vs,u=.ref a/\(eN K H a vs\/eW K H a vs)/\aO K [] H vs l:=by
 rcases h with⟨a,vs,e,q,r⟩ | ⟨a,e,⟨n,vs,q,r⟩ | ⟨i,_,q1,q2⟩⟩
 ·exact⟨a,vs,e,q.elim (λq=>.inl q.sq) λq=>.inr (eW.of q),r⟩
 ·exact⟨a,vs,e,.inl (eN.of q),r⟩
 ·obtain⟨_,vs,q,r⟩:=s.ownAt q1 rfl q2;exact⟨a,vs,e,.inl (eN.of q),r⟩
end
section
variable{a c:lc}{rest:O lc}{w:W PV}
def ae(i:Nat)(hs:‹fs[i]?=ap (ap (.val v))›)(hN:‹X.N[i]?=ap x›)(hv:yT X.env.scope x:=by first | exact Co rfl | exact Ca (Co rfl) | exact Ca (Ca rfl))(hd: ~~~(jN x))(iG: ~~~(zY x)):EF X K fs (.Name x pos) (.ret v):=
 ⟨PE.imp (dI hN hv hd iG) λσ H Q ⟨sr,q⟩=>by
  obtain⟨u,e1,r⟩:=sr.at' i _ hs;rcases r with⟨w,e,r⟩ | ⟨a,_,r⟩
  ·cases e;exact⟨u,e1,q u H .refl sr r⟩
  ·exact r.elim⟩
def f_c{v:V}{p:PV}(hv:∀H,VR K [] H v p)(h:PE X e (tC v)):EF X K fs e (.ret p):=⟨PE.imp h λσ H Q ⟨sr,q⟩=>q v H .refl sr (hv _)⟩
def aj{i j}:EF X K fs (.Constant (.int i) j pos) (.ret (.int i)):=f_c (λ_=>.int i) aeI
def nZ{b j}:EF X K fs (.Constant (.bool b) j pos) (.ret (.bl b)):=f_c (λ_=>.bl b) air
def ip{j}:EF X K fs (.Constant .none j pos) (.ret .aL):=f_c (λ_=>.aL) Wn
def ik{x j}:EF X K fs (.Constant (.str x) j pos) (.ret (.str x)):=f_c (λ_=>.str x) aeF
def ym{i:Int}{t:Tok}(hm:X.mg x=ap (.int i t))(hg:Gl X x)(hd: ~~~(jN x)):EF X K fs (.Name x pos) (.ret (.int i)):=f_c (λ_=>.int i) (oK hg hm ⟨_,rfl⟩ hd)
def yk{i:Str}{t:Tok}(hm:X.mg x=ap (.str i t))(hg:Gl X x)(hd: ~~~(jN x)):EF X K fs (.Name x pos) (.ret (.str i)):=f_c (λ_=>.str i) (oK hg hm ⟨_,rfl⟩ hd)
def of2(m:M2)(x y:PV):W PV:=⟨λQ=>m.f x y [] λz h=>h=[]/\Q z,λf q=>m.mono (λ_ _ q=>⟨q.1,f _ q.2⟩) q⟩
def hr0(H:Hp):HR K [] H []:=⟨EL,rfl,λn a o e _=>by simp at e⟩
def pq0{Q:VK}{z:PV}{h:PH}(sr:a8 K H σ fs)(q:h=[]/\∀u H',dQ σ fs H H'->a8 K H' σ fs->VR K [] H' u z->Q u H'):pQ K [] H Q z h:=λι' v H' g r x=>by
 obtain⟨e,q⟩:=q;subst e;have:ι'=[]:=Cs r.len;subst this;have sm:mP H H':=λa o z=>g.keep a o (by simp) z;exact q v H' (dQ.same sm) (sr.same sm) x
def Ny{r:R2}{m:M2}(hm:M2.Ok K r m){Q:VK}{v:V}{x y:PV}(sr:a8 K H σ fs)(hu:VR K [] H u x)(hv:VR K [] H v y)(q:(of2 m x y).run λz=>∀u H',dQ σ fs H H'->a8 K H' σ fs->VR K [] H' u z->Q u H'):r u v H Q:=
 hm (hr0 H) hu hv (m.mono (λz h q=>pq0 sr q) q)
def Rf{r:R2}{m:M2}(hm:M2.Ok K r m):∀σ H Q,fE K fs (.bind wa λx=>.bind wb λy=>of2 m x y) σ H Q->tOp r (fE K fs wa) (fE K fs wb) σ H Q:=λσ H Q ⟨sr,q⟩=>
 ⟨sr,wa.mono (λx q1 u1 H1 g1 s1 v1=>⟨s1,wb.mono (λy q2 u2 H2 g2 s2 v2=>Ny hm s2 (g2.vr s1 v1) v2 ((of2 m x y).mono (λz q u3 H3 g3 s3 v3=>q u3 H3 ((g1.trans g2).trans g3) s3 v3) q2)) q1⟩) q⟩
def Yi{op:Operator}{r:R2}{m:M2}(ho:jV X (tt op) r)(hm:M2.Ok K r m)(ha:EF X K fs a wa)(hb:EF X K fs b wb):EF X K fs (.BinOp a op b pos) (.bind wa λx=>.bind wb λy=>of2 m x y):=⟨PE.imp (Qx ho ha.p hb.p) (Rf hm)⟩
def va(ha:EF X K fs a wa)(hb:EF X K fs b wb):EF X K fs (.BinOp a .Sub b pos) (.bind wa λx=>.bind wb λy=>of2 vm x y):=Yi aeM (Mp λ_ _ _ _=>.int _) ha hb
def sP(ha:EF X K fs a wa)(hb:EF X K fs b wb):EF X K fs (.BinOp a .Mult b pos) (.bind wa λx=>.bind wb λy=>of2 kY x y):=Yi aam (JK λ_ _ _ _=>.int _) ha hb
def adk(ha:EF X K fs a wa)(hb:EF X K fs b wb):EF X K fs (.BinOp a .FloorDiv b pos) (.bind wa λx=>.bind wb λy=>of2 oDiv x y):=Yi aan (JK λ_ _ _ _=>.int _) ha hb
def vc(ha:EF X K fs a wa)(hb:EF X K fs b wb):EF X K fs (.BinOp a .Mod b pos) (.bind wa λx=>.bind wb λy=>of2 oMod x y):=Yi aeQ (JK λ_ _ _ _=>.int _) ha hb
def adi(ha:EF X K fs a wa)(hb:EF X K fs b wb):EF X K fs (.BinOp a .Pow b pos) (.bind wa λx=>.bind wb λy=>of2 WJ x y):=Yi aeO (JK λ_ _ _ _=>.int _) ha hb
def qv:PV->W PV
 | .int i=>.ret (.int (-i))
 | _=>.fail
def ly(ha:EF X K fs a wa):EF X K fs (.UnaryOp .USub a pos) (.bind wa qv):=⟨PE.imp (ain adS ha.p) λσ H Q ⟨sr,q⟩=>⟨sr,wa.mono (λx q1 u1 H1 g1 s1 v1=>by
 cases v1 with
 | int i=>exact⟨_,rfl,q1 _ H1 g1 s1 (.int _)⟩
 | _=>exact q1.elim) q⟩⟩
def asB:PV->W Bool
 | .bl b=>.ret b
 | _=>.fail
def qd{m:M2}(hc:JC X K op b m)(ha:EF X K fs a wa)(hb:EF X K fs b wb):EF X K fs (.Compare a [op] [b] pos) (.bind wa λx=>.bind wb λy=>of2 m x y):=let ⟨_,h1,h2⟩:=hc.p;⟨PE.imp (Qz h1 ha.p hb.p hc.k) (Rf h2)⟩
def ajP{w:W PV}:∀σ H Q,fT K fs (.bind w asB) σ H Q->(fE K fs w) σ H λx H'=>∃k,x=.bl k/\Q k H':=λσ H Q ⟨sr,q⟩=>⟨sr,w.mono (λx q1 u1 H1 g1 s1 v1=>by
 cases v1 with
 | bl b=>exact⟨b,rfl,q1 H1 g1 s1⟩
 | _=>exact q1.elim) q⟩
def bT{m:M2}(hc:JC X K op b m)(ha:EF X K fs a wa)(hb:EF X K fs b wb):TF X K fs (.Compare a [op] [b] pos) (.bind wa λx=>.bind wb λy=>.bind (of2 m x y) asB):=let ⟨_,h1,h2⟩:=hc.p
 ⟨PT.imp (vV h1 ha.p hb.p hc.k) λσ H Q q=>Rf h2 σ H _ (ajP (w:=.bind wa λx=>.bind wb λy=>of2 m x y) σ H Q q)⟩
def ou(z:PV)(w:W PV):W PV:=match z with
 | .bl true=>w
 | .bl false=>.ret (.bl false)
 | _=>.fail
def LY{r:R2}{m m':M2}(hm:M2.Ok K r m)(hm':M2.Ok K r' m'):∀σ H Q,fE K fs (.bind wa λx=>.bind wb λy=>.bind (of2 m x y) λz=>ou z (.bind wc λw=>of2 m' y w)) σ H Q->Na r r' (fE K fs wa) (fE K fs wb) (fE K fs wc) σ H Q:=λσ H Q ⟨sr,q⟩=>
 ⟨sr,wa.mono (λx q1 u1 H1 g1 s1 v1=>⟨s1,wb.mono (λy q2 u2 H2 g2 s2 v2=>Ny hm s2 (g2.vr s1 v1) v2 ((of2 m x y).mono (λz q3 u3 H3 g3 s3 v3=>by
  have gg:=(g1.trans g2).trans g3;cases v3 with
  | bl k=>
   cases k with
   | true=>exact⟨true,rfl,by rw[if_pos rfl];exact⟨s3,wc.mono (λw q4 u4 H4 g4 s4 v4=>Ny hm' s4 ((g3.trans g4).vr s2 v2) v4 ((of2 m' y w).mono (λz q u5 H5 g5 s5 v5=>q u5 H5 ((gg.trans g4).trans g5) s5 v5) q4)) q3⟩⟩
   | false=>exact⟨false,rfl,by rw[if_neg AY];exact q3 _ H3 gg s3 (.bl _)⟩
  | _=>exact q3.elim) q2)) q1⟩) q⟩
def abO{m m':M2}(hc:JC X K op b m)(Y4:JC X K UM c m')(ha:EF X K fs a wa)(hb:EF X K fs b wb)(hd:EF X K fs c wc)(hk:lastMarks [op,UM] [b,c]=false:=by with_unfolding_all rfl):EF X K fs (.Compare a [op,UM] [b,c] pos) (.bind wa λx=>.bind wb λy=>.bind (of2 m x y) λz=>ou z (.bind wc λw=>of2 m' y w)):=
 let ⟨_,h1,h2⟩:=hc.p;let ⟨_,h3,h4⟩:=Y4.p;⟨PE.imp (Wt h1 h3 ha.p hb.p hd.p hk) (LY h2 h4)⟩
def Zp{m m':M2}(hc:JC X K op b m)(Y4:JC X K UM c m')(ha:EF X K fs a wa)(hb:EF X K fs b wb)(hd:EF X K fs c wc)(hk:lastMarks [op,UM] [b,c]=false:=by with_unfolding_all rfl):TF X K fs (.Compare a [op,UM] [b,c] pos) (.bind wa λx=>.bind wb λy=>.bind (of2 m x y) λz=>.bind (ou z (.bind wc λw=>of2 m' y w)) asB):=
 let ⟨_,h1,h2⟩:=hc.p;let ⟨_,h3,h4⟩:=Y4.p;⟨PT.imp (Wa h1 h3 ha.p hb.p hd.p hk) λσ H Q q=>LY h2 h4 σ H _ (ajP (w:=.bind wa λx=>.bind wb λy=>.bind (of2 m x y) λz=>ou z (.bind wc λw=>of2 m' y w)) σ H Q q)⟩
def Us(x:PV)(w:W PV):W PV:=match x with
 | .bl true=>w
 | .bl false=>.ret (.bl false)
 | _=>.fail
def orW(x:PV)(w:W PV):W PV:=match x with
 | .bl true=>.ret (.bl true)
 | .bl false=>w
 | _=>.fail
def aeY:PV->W PV
 | .bl b=>.ret (.bl (!b))
 | _=>.fail
def sQ(ha:EF X K fs a wa)(hb:EF X K fs (.BoolOp .And (b::rest) pos) wb):EF X K fs (.BoolOp .And (a::b::rest) pos) (.bind wa λx=>Us x wb):=⟨PE.imp (aeK ha.p hb.p) λσ H Q ⟨sr,q⟩=>⟨sr,wa.mono (λx q1 u1 H1 g1 s1 v1=>by
 cases v1 with
 | bl k=>
  cases k with
  | true=>exact⟨true,rfl,by rw[if_pos rfl];exact⟨s1,wb.mono (λ_ q u H' g s v=>q u H' (g1.trans g) s v) q1⟩⟩
  | false=>exact⟨false,rfl,by rw[if_neg AY];exact q1 _ H1 g1 s1 (.bl _)⟩
 | _=>exact q1.elim) q⟩⟩
def aoo(ha:EF X K fs a wa)(hb:EF X K fs (.BoolOp .Or (b::rest) pos) wb):EF X K fs (.BoolOp .Or (a::b::rest) pos) (.bind wa λx=>orW x wb):=⟨PE.imp (aio ha.p hb.p) λσ H Q ⟨sr,q⟩=>⟨sr,wa.mono (λx q1 u1 H1 g1 s1 v1=>by
 cases v1 with
 | bl k=>
  cases k with
  | true=>exact⟨true,rfl,by rw[if_pos rfl];exact q1 _ H1 g1 s1 (.bl _)⟩
  | false=>exact⟨false,rfl,by rw[if_neg AY];exact⟨s1,wb.mono (λ_ q u H' g s v=>q u H' (g1.trans g) s v) q1⟩⟩
 | _=>exact q1.elim) q⟩⟩
def sN{op}(h:EF X K fs a wa):EF X K fs (.BoolOp op [a] pos) wa:=⟨aeG h.p⟩
def ajV(ha:EF X K fs a wa):EF X K fs (.UnaryOp .Not a pos) (.bind wa aeY):=⟨PE.imp (aeH ha.p) λσ H Q ⟨sr,q⟩=>⟨sr,wa.mono (λx q1 u1 H1 g1 s1 v1=>by
 cases v1 with
 | bl k=>exact⟨_,rfl,q1 _ H1 g1 s1 (.bl _)⟩
 | _=>exact q1.elim) q⟩⟩
variable{ta tb tc:W Bool}
def jW(h:TF X K fs a ta):yU X K fs (.BoolOp .And [a] pos) ta:=⟨ZX h.p⟩
def tH(h:TF X K fs a ta):yU X K fs (.BoolOp .Or [a] pos) ta:=⟨aeu h.p⟩
def nu(ha:TF X K fs a ta)(hb:yU X K fs (.BoolOp .And (b::rest) pos) tb):yU X K fs (.BoolOp .And (a::b::rest) pos) (.bind ta λk=>if k=true then tb else .ret false):=⟨PW.imp (aev ha.p hb.p) λσ H Q ⟨sr,q⟩=>⟨sr,ta.mono (λk q1 H1 g1 s1=>by
 cases k with
 | true=>exact zD ⟨s1,tb.mono (λ_ q H' g s=>q H' (g1.trans g) s) q1⟩
 | false=>exact zE (q1 H1 g1 s1)) q⟩⟩
def Gh(ha:TF X K fs a ta)(hb:yU X K fs (.BoolOp .Or (b::rest) pos) tb):yU X K fs (.BoolOp .Or (a::b::rest) pos) (.bind ta λk=>if k=true then .ret true else tb):=⟨PW.imp (ail ha.p hb.p) λσ H Q ⟨sr,q⟩=>⟨sr,ta.mono (λk q1 H1 g1 s1=>by
 cases k with
 | true=>exact zD (q1 H1 g1 s1)
 | false=>exact zE ⟨s1,tb.mono (λ_ q H' g s=>q H' (g1.trans g) s) q1⟩) q⟩⟩
def yU.t(h:yU X K fs a ta):TF X K fs a ta:=⟨PW.pt h.p⟩
def je(ha:TF X K fs a ta):TF X K fs (.UnaryOp .Not a pos) (.bind ta λk=>.ret (!k)):=⟨PT.imp (aex ha.p) λσ H Q ⟨sr,q⟩=>⟨sr,q⟩⟩
def vL(hc:TF X K fs c tc)(ha:EF X K fs a wa)(hb:EF X K fs b wb):EF X K fs (.IfExp c a b pos) (.bind tc λk=>if k=true then wa else wb):=⟨PE.imp (KD hc.p ha.p hb.p) λσ H Q ⟨sr,q⟩=>⟨sr,tc.mono (λk q1 H1 g1 s1=>by
 cases k with
 | true=>exact zD ⟨s1,wa.mono (λ_ q u H' g s v=>q u H' (g1.trans g) s v) q1⟩
 | false=>exact zE ⟨s1,wb.mono (λ_ q u H' g s v=>q u H' (g1.trans g) s v) q1⟩) q⟩⟩
def aaS{la lb:W (O PV)}(hc:TF X K fs c tc)(ha:LF X K fs a la)(hb:LF X K fs b lb):LF X K fs (.IfExp c a b pos) (.bind tc λk=>if k=true then la else lb):=⟨PE.imp (KD hc.p ha.p hb.p) λσ H Q ⟨sr,q⟩=>⟨sr,tc.mono (λk q1 H1 g1 s1=>by
 cases k with
 | true=>exact zD ⟨s1,la.mono (λ_ q a vs H' g s n e v=>q a vs H' (g1.trans g) s (g1.there a n) e v) q1⟩
 | false=>exact zE ⟨s1,lb.mono (λ_ q a vs H' g s n e v=>q a vs H' (g1.trans g) s (g1.there a n) e v) q1⟩) q⟩⟩
def eB:PV->W Bool
 | .aL=>.ret false
 | .bl b=>.ret b
 | .int i=>.ret (i != 0)
 | .str y=>.fK (y.length<=sizeLine) (.ret ((y.length:Int) != 0))
 | .tup l=>.ret (!l.isEmpty)
 | .cl l=>.ret (!l.isEmpty)
 | _=>.fail
def dB(hK:X.K=K)(ha:EF X K fs a wa)(he:∀Ä,isTrue a X.env Ä=(do let v <- Ä;standAt a.pos;FS [v] (truthy v))):TF X K fs a (.bind wa eB):=⟨PT.imp (Gs K hK ha.p he) λσ H Q ⟨sr,q⟩=>⟨sr,wa.mono (λx q1 u1 H1 g1 s1 v1=>by
 cases v1 with
 | aL=>exact⟨false,rfl,q1 H1 g1 s1⟩
 | bl b=>exact⟨b,rfl,q1 H1 g1 s1⟩
 | int i=>exact⟨_,rfl,q1 H1 g1 s1⟩
 | str y=>exact⟨_,⟨q1.1,rfl⟩,q1.2 H1 g1 s1⟩
 | ty _=>exact q1.elim
 | dk _ _ _=>exact q1.elim
 | dt _ _ _=>exact q1.elim
 | ref _=>exact q1.elim
 | @tup p vs l e rs=>
  refine⟨!vs.isEmpty,.inr (.inl ⟨_,eW.of e,rfl⟩),?_⟩;rw[<- nR rs];exact q1 H1 g1 s1
 | @cl p vs l e rs=>
  refine⟨!vs.isEmpty,.inl ⟨_,e.sq,rfl⟩,?_⟩;rw[<- nR rs];exact q1 H1 g1 s1) q⟩⟩
def Vs(hK:X.K=K)(ha:QF X K fs a wl)(he:∀Ä,isTrue a X.env Ä=(do let v <- Ä;standAt a.pos;FS [v] (truthy v))):TF X K fs a (.bind wl λl=>.ret (!l.isEmpty)):=⟨PT.imp (Gs K hK ha.p he) λσ H Q ⟨sr,q⟩=>⟨sr,wl.mono (λl q1 u1 H1 g1 s1 v1=>by
 obtain⟨b,vs,rfl,h,rs⟩:=v1.sq s1;refine⟨!vs.isEmpty,?_,?_⟩
 ·exact h.elim (λh=>.inl ⟨_,h,rfl⟩) λh=>.inr (.inl ⟨_,h,rfl⟩)
 ·rw[<- nR rs];exact q1 H1 g1 s1) q⟩⟩
variable{R:Type}{ks:O AK}{B:(O PV->W R)->W R}
def ag:AF X K fs [] [] (R:=R) (λk=>k []):=⟨.ret [],PA.imp cv λσ H Q ⟨sr,q⟩=>q [] H .refl sr .nil,λk=>rfl⟩
def ai(ha:EF X K fs e w)(hr:AF X K fs es ks B)(hs:‹iq X e es›):AF X K fs (e::es) (.v::ks) (λk=>.bind w λx=>B λl=>k (x::l)):=by
 obtain⟨wr,hp,hB⟩:=hr.p;refine⟨.bind w λx=>.bind wr λl=>.ret (x::l),PA.imp (a9 ha.p hp hs) λσ H Q ⟨sr,q⟩=>?_,λk=>?_⟩
 ·exact⟨sr,w.mono (λx q1 u1 H1 g1 s1 v1=>⟨s1,wr.mono (λl q2 vs H2 g2 s2 v2=>q2 _ H2 (g1.trans g2) s2 (.v (g2.vr s1 v1) v2)) q1⟩) q⟩
 ·have:(λx=>B λl=>k (x::l))=λx=>am wr λl=>k (x::l):=funext λx=>hB _;rw[this];rfl
def cB(i:Nat)(hr:AF X K fs es ks B)(hs:‹fs[i]?=ap (ap (.ng φ))›)(hN:‹X.N[i]?=ap x›)(hv:yT X.env.scope x:=by first | exact Co rfl | exact Ca (Co rfl) | exact Ca (Ca rfl))(hd: ~~~(jN x))(iG: ~~~(zY x))
  (pj:‹im (.Name x pos::es) X.env=(false,lw (.Name x pos) X.env)::im es X.env›):AF X K fs (.Name x pos::es) (.p φ::ks) B:=by
 obtain⟨wr,hp,hB⟩:=hr.p;refine⟨wr,PA.imp (a9 (dI hN hv hd iG) hp pj) λσ H Q ⟨sr,q⟩=>?_,hB⟩;obtain⟨u,e1,r⟩:=sr.at' i _ hs;rcases r with⟨v,e,_⟩ | ⟨a,e,r⟩
 ·cases e
 ·subst e;exact⟨_,e1,sr,wr.mono (λl q2 vs H2 g2 s2 v2=>q2 _ H2 g2 s2 (.p ⟨i,hs,e1⟩ v2)) q⟩
theorem hX.U9:∀{vs:O V}{n:Nat}{l:O PV},hX K σ fs H vs (Au n .v) l->aO K [] H vs l/\l.length=n
 | _,0,_,.nil=>⟨.nil,rfl⟩
 | _,n+1,_,.v r t=>⟨.cons r (hX.U9 t).1,by rw[Ap,(hX.U9 t).2]⟩
def ajU{x1}{B:(O PV->W PV)->W PV}(h:AF X K fs es (Au n .v) B)(hn: ~~~(n<=1000)):EF X K fs (.Tuple es x1 pos) (B λl=>.ret (.tup l)):=by
 obtain⟨w,hp,hB⟩:=h.p;rw[hB];refine⟨PE.imp (Z9 hp) λσ H Q ⟨sr,q⟩=>⟨sr,w.mono (λl q1 vs H1 g1 s1 v1=>?_) q⟩⟩;obtain⟨v2,hl⟩:=v1.U9;refine⟨by rw[v2.length,hl];exact bB hn,λp H2 s2 e2 n2=>?_⟩;exact q1 _ H2 (g1.trans (dQ.same s2)) (s1.same s2) (.tup e2 (aO.tk s2.fM v2))
def aiP{B:(O PV->W (O PV))->W (O PV)}(h:AF X K fs es (Au n .v) B)(hn: ~~~(n<=1000)):LF X K fs (.List es pos) (B λl=>.ret l):=by
 obtain⟨w,hp,hB⟩:=h.p;rw[hB];refine⟨PE.imp (aac hp) λσ H Q ⟨sr,q⟩=>⟨sr,w.mono (λl q1 vs H1 g1 s1 v1=>?_) q⟩⟩;obtain⟨v2,hl⟩:=v1.U9;refine⟨by rw[v2.length,hl];exact bB hn,λp H2 s2 e2 n2=>?_⟩;exact q1 _ _ H2 (g1.trans (dQ.same s2)) (s1.same s2) (g1.there p n2) e2 (aO.tk s2.fM v2)
end
end
end FL
namespace L2
def Inv.Rb{σ:St}(I:Inv X Z σ H s)(e:H a=ap (.lst vs)):∃o,Inv X Z σ (upd H a (.c6 o (.lst vs))) s:=by
 obtain⟨z,aw,n,r,h1⟩:=(show bA X.prog X.w H s.heap a (.lst vs) from I.bN a _ e);exact⟨_,I.write (x:=a) (e:=a) (o:=.c6 _ (.lst vs)) (h':=s.heap) (t':=s.toks) (by rw[e];exact CA) (.inl rfl) (λb u _ z=>z) ⟨_,h1⟩ ⟨h1,z,aw,n,r,h1⟩⟩
def Inv.Rc{σ:St}{kvs:O (Key×V)}(I:Inv X Z σ H s)(e:H a=ap (.dK kvs)):∃o,Inv X Z σ (upd H a (.c6 o (.dK kvs))) s:=by
 obtain⟨z,hs,vs,r,o,es,ep,h1,h2⟩:=(show bA X.prog X.w H s.heap a (.dK kvs) from I.bN a _ e);exact⟨o,I.write (x:=a) (e:=a) (o:=.c6 o (.dK kvs)) (h':=s.heap) (t':=s.toks) (by rw[e];exact CA) (.inl rfl) (λb u _ z=>z) ⟨o,h1⟩ ⟨h1,z,hs,vs,r,o,es,ep,h1,h2⟩⟩
end L2
variable{t:FL.SL}{ks:O FL.AK}{B:(O PL.PV->FL.W PL.PV)->FL.W PL.PV}{q0:Option BU}
namespace FL
section
variable{K:Ab}
section
def vS(o':HO)(e:H a=ap (.lst vs)):bQ K H (upd H a o'):=⟨λb ws q=>by rw[aD (QI q e (by intro z;cases z))];exact q,λb o u q=>by rw[aD (QI q e (by intro z;cases z))];exact q⟩
def dvK(kvs:O (Key×PV)):PV:=.dv (kvs.map λkv=>kP kv.1) (kvs.map (·.2))
def Yr(kvs:O (O Key×PV)):PV:=.dv (kvs.map λkv=>.tup (kv.1.map kP)) (kvs.map (·.2))
def jc{oh:HO}(o':HO)(e:H a=ap oh)(n1:∀vs,oh≠.tup vs)(n2:∀o u,oh≠.c6 o u):bQ K H (upd H a o'):=⟨λb ws q=>by rw[aD (λz=>by subst z;rw[e]at q;cases q;exact n1 _ rfl)];exact q,λb o u q=>by rw[aD (λz=>by subst z;rw[e]at q;cases q;exact n2 _ _ rfl)];exact q⟩
def acS{vs:O (O Key×V)}{kvs:O (O Key×PV)}(h:vs.map (·.1)=kvs.map (·.1)):(kvs.map λkv=>PV.tup (kv.1.map kP))=vs.map λkv=>PV.tup (kv.1.map kP):=by
 have:=congrArg (Gf λk:O Key=>PV.tup (k.map kP)) h;rw[Ay,Ay]at this;exact this.symm
def acT{vs:O (Key×V)}{kvs:O (Key×PV)}(h:vs.map (·.1)=kvs.map (·.1)):(kvs.map λkv=>kP kv.1)=vs.map λkv=>kP kv.1:=by
 have:=congrArg (Gf kP) h;rw[Ay,Ay]at this;exact this.symm
def SL.bw:SL->Bool
 | .ol _ _=>true
 | .od _=>true
 | .ot _=>true
 | _=>false
def SL.bv:SL->PV
 | .ol _ l=>.cl l
 | .od kvs=>dvK kvs
 | .ot kvs=>Yr kvs
 | _=>.aL
def SL.YG(h:t.bw=true):t.own=true:=by cases t <;> first | rfl | cases h
def ajF(I:Inv X Z σ' H s)(oa:m5 K H a t)(hb:t.bw=true):∃ob o,H a=ap o/\(∀vs,o≠.tup vs)/\(∀ob u,o≠.c6 ob u)/\Inv X Z σ' (upd H a (.c6 ob o)) s/\VR K [] (upd H a (.c6 ob o)) (.ref a) t.bv:=by
 cases t with
 | ol q l=>
  obtain⟨_,vs,e,r⟩:=oa;obtain⟨ob,I2⟩:=I.Rb e;exact⟨ob,_,e,by simp,by simp,I2,.cl (.inl ⟨ob,aW⟩) (aO.tk (jc _ e (by simp) (by simp)) r)⟩
 | od l=>
  obtain⟨vs,e,k,r⟩:=oa;obtain⟨ob,I2⟩:=I.Rc e;exact⟨ob,_,e,by simp,by simp,I2,.dk aW (acT k) (aO.tk (jc _ e (by simp) (by simp)) r)⟩
 | ot l=>
  obtain⟨vs,e,k,r⟩:=oa;obtain⟨ob,I2⟩:=I.freeze e;exact⟨ob,_,e,by simp,by simp,I2,.dt aW (acS k) (aO.tk (jc _ e (by simp) (by simp)) r)⟩
 | _=>cases hb
def a8.ajE{o u:HO}(sr:a8 K H σ fs)(hs:fs[i]?=ap (ap t))(ho:t.own=true)(e1:σ[i]?=ap (ap (.ref a)))(h1:H a=ap o)(n1:∀vs,o≠.tup vs)(n2:∀ob u,o≠.c6 ob u)(vr:VR K [] (upd H a u) (.ref a) v):a8 K (upd H a u) σ (fs.set i (ap (.val v))):=by
 refine⟨by simp[sr.len],λj t' z=>?_,λj k t' u b1 b2 b z1 z2 o1 o2=>?_⟩
 ·rcases dM z with⟨rfl,rfl⟩ | ⟨n,z⟩
  ·exact⟨_,e1,.inl ⟨_,rfl,vr⟩⟩
  ·obtain⟨u,k1,k2⟩:=sr.at' j t' z;exact⟨u,k1,k2.mono (jc _ h1 n1 n2) (λx b o eb ow hb zz=>by
    subst eb;rw[aD (λy=>by subst y;exact n (sr.nd j i t' _ x b b z hs ow ho k1 e1 hb (.inl rfl)))];exact zz)⟩
 ·rcases dM z1 with⟨rfl,rfl⟩ | ⟨n1,z1⟩
  ·cases o1
  ·rcases dM z2 with⟨rfl,rfl⟩ | ⟨n2,z2⟩
   ·cases o2
   ·exact sr.nd j k t' u b1 b2 b z1 z2 o1 o2
def a8.side(s:a8 K H σ fs)(n:¬ff σ fs a)(e:H a=ap (.lst vs))(o':HO):a8 K (upd H a o') σ fs:=⟨s.len,λi t q=>by
 obtain⟨u,h1,h2⟩:=s.at' i t q;exact⟨u,h1,h2.mono (vS o' e) (λx b o eb ow hb z=>by subst eb;rw[aD (λy:b=a=>n ⟨i,t,x,q,ow,h1,y▸hb⟩)];exact z)⟩,s.nd⟩
def dQ.side(g:dQ σ fs H H1)(h0:H a=bm)(o':HO):dQ σ fs H (upd H1 a o'):=⟨λb o e n=>by rw[aD (b9 e h0)];exact g.keep b o e n,λb e=>by
 by_cases c:b=a
 ·subst c;exact h0
 ·rw[aD c]at e;exact g.there b e⟩
end
section
variable{a:lc}{w:W PV}
def hU(h:LF X K fs e wl):EF X K fs e (.bind wl λl=>.ret (.cl l)):=⟨λZ s σ H Q I ⟨sr,q⟩=>by
 refine bS (h.p Z s σ H (λu H1=>∃a vs l,u=.ref a/\dQ σ fs H H1/\a8 K H1 σ fs/\H a=bm/\H1 a=ap (.lst vs)/\aO K [] H1 vs l/\∀u H',dQ σ fs H H'->a8 K H' σ fs->VR K [] H' u (.cl l)->Q u H') I ⟨sr,wl.mono (λl q1 a vs H1 g1 s1 n e v=>⟨a,vs,l,rfl,g1,s1,n,e,v,q1⟩) q⟩) λu s1 ⟨v,H1,I1,r1,a,vs,l,e,g1,ö,n,ea,vr,q1⟩=>?_;subst e;obtain⟨ob,I2⟩:=I1.Rb ea;exact⟨.ref a,_,I2,r1,q1 _ _ (g1.side n _) (ö.side (λz=>sr.noOwn n z) ea _) (.cl (.inl ⟨ob,aW⟩) (aO.tk (vS _ ea) vr))⟩⟩
def ar:PV->W (O PV)
 | .tup l=>.ret l
 | .cl l=>.ret l
 | _=>.fail
def aX(h:EF X K fs e w):IF X K fs e (.bind w ar):=⟨PE.imp h.p λσ H Q ⟨sr,q⟩=>⟨sr,w.mono (λx q1 u1 H1 g1 s1 v1=>by
 cases v1 with
 | tup e r=>exact q1 _ H1 g1 s1 ⟨_,_,rfl,.inr e,r⟩
 | cl e r=>exact q1 _ H1 g1 s1 ⟨_,_,rfl,.inl e,r⟩
 | _=>exact q1.elim) q⟩⟩
def uZ(h:LF X K fs e wl):IF X K fs e wl:=aX (hU h)
theorem IF.q(h:IF X K fs e wl):QF X K fs e wl:=⟨PE.imp h.p λσ H Q ⟨sr,q⟩=>⟨sr,wl.mono (λl q1 u1 H1 g1 s1 v1=>q1 u1 H1 g1 s1 (.inl v1)) q⟩⟩
def aA(h:EF X K fs e w):QF X K fs e (.bind w ar):=(aX h).q
def nA(h:LF X K fs e wl):QF X K fs e wl:=⟨PE.imp h.p λσ H Q ⟨sr,q⟩=>⟨sr,wl.mono (λl q1 a vs H1 g1 s1 n e v=>q1 _ H1 g1 s1 (.inr ⟨a,rfl,.inl ⟨sr.noOwn n,vs,e,v⟩⟩)) q⟩⟩
def cu(i:Nat)(hs:‹fs[i]?=ap (ap (.ol q0 l))›)(hN:‹X.N[i]?=ap x›)(hv:yT X.env.scope x:=by first | exact Co rfl | exact Ca (Co rfl) | exact Ca (Ca rfl))(hd: ~~~(jN x))(iG: ~~~(zY x)):QF X K fs (.Name x pos) (.ret l):=
 ⟨PE.imp (dI hN hv hd iG) λσ H Q ⟨sr,q⟩=>by
  obtain⟨u,e1,r⟩:=sr.at' i _ hs;rcases r with⟨w,e,r⟩ | ⟨a,e,r⟩
  ·cases e
  ·subst e;exact⟨_,e1,q _ H .refl sr (.inr ⟨a,rfl,.inr ⟨i,q0,hs,e1⟩⟩)⟩⟩
def ixW(l:O PV):PV->W PV
 | .int i=>.MF (bV l i)
 | _=>.fail
def aJ(hK:X.K=K)(ha:QF X K fs a wl)(hb:EF X K fs b wb)(hs:JX b:=by exact λ_ _=>rfl):EF X K fs (.Subscript a b pos) (.bind wl λl=>.bind wb λy=>ixW l y):=⟨PE.imp (acG (aa6 K hK) ha.p hb.p hs) λσ H Q ⟨sr,q⟩=>⟨sr,wl.mono (λl q1 u1 H1 g1 s1 v1=>⟨s1,wb.mono (λy q2 u2 H2 g2 s2 v2=>by
 cases v2 with
 | int i=>
  have q2:(W.MF (bV l i)).run _:=q2;cases z:bV l i with
  | none=>rw[z]at q2;exact q2.elim
  | some x=>
   rw[z]at q2;obtain⟨ad,vs,rfl,h,rs⟩:=(v1.go s1 g2).sq s2;obtain⟨v,e1,e2⟩:=aO.bV rs z;have q3:=q2 v H2 (g1.trans g2) s2 e2;exact h.elim (λh=>.inl ⟨ad,vs,i,v,rfl,rfl,h,e1,q3⟩) λh=>.inr (.inl ⟨ad,vs,i,v,rfl,rfl,h,e1,q3⟩)
 | _=>exact q2.elim) q1⟩) q⟩⟩
def ajZ(ha:EF X K fs a wa)(hb:EF X K fs b wb)(hs:JX b):EF X K fs (.Subscript a b pos) (.bind wa λx=>.bind wb λy=>of2 Sn x y):=⟨PE.imp (acG Xp ha.p hb.p hs) (Rf aav)⟩
def rG(m:Hf)(l:O PV):W PV:=⟨λQ=>m.f l [] λz h=>h=[]/\Q z,λf q=>m.mono (λ_ _ q=>⟨q.1,f _ q.2⟩) q⟩
section
variable{id:String}{r:O V->Hp->VK->Prop}
def WI{m:Hf}(hm:Hf.Ok K r m){Q:VK}{us:O V}(sr:a8 K H σ fs)(hu:aO K [] H us l)(q:(rG m l).run λz=>∀u H',dQ σ fs H H'->a8 K H' σ fs->VR K [] H' u z->Q u H'):r us H Q:=hm (hr0 H) hu (m.mono (λz h q=>pq0 sr q) q)
def wA{m:Hf}(hc:cC X (.builtin id) r)(hB:Hf.Ok K r m)(hg:Gl X x)(hm:X.mg x=bm)(hv:re x=ap (.builtin id))(ha:AF X K fs (e::es) (Au n .v) B)(hn: ~~~(x≠"__name__"))(sD: ~~~(jN x))
  (he:‹iq X e es›) (eM:‹m6 X pos es›):EF X K fs (.Call (.Name x p) (e::es) [] pos) (B (rG m)):=by
 obtain⟨w,hp,ŷ⟩:=ha.p;rw[ŷ];exact⟨PE.imp (fU hc hg hm hv hp hn sD he eM) λσ H Q ⟨sr,q⟩=>⟨sr,w.mono (λl q1 vs H1 g1 s1 v1=>WI hB s1 v1.U9.1 ((rG m l).mono (λz q u H' g s v=>q u H' (g1.trans g) s v) q1)) q⟩⟩
def Yp{m:Hf}(hc:cC X (.type id) r)(hB:Hf.Ok K r m)(hg:Gl X x)(hm:X.mg x=bm)(hv:re x=ap (.type id))(ha:AF X K fs (e::es) (Au n .v) B)(hn: ~~~(x≠"__name__"))(sD: ~~~(jN x))
  (he:‹iq X e es›) (eM:‹m6 X pos es›):EF X K fs (.Call (.Name x p) (e::es) [] pos) (B (rG m)):=by
 obtain⟨w,hp,ŷ⟩:=ha.p;rw[ŷ];exact⟨PE.imp (oM hc hg hm hv hp hn sD he eM) λσ H Q ⟨sr,q⟩=>⟨sr,w.mono (λl q1 vs H1 g1 s1 v1=>WI hB s1 v1.U9.1 ((rG m l).mono (λz q u H' g s v=>q u H' (g1.trans g) s v) q1)) q⟩⟩
def CQ(K:Ab)(r:O V->Hp->VK->Prop)(m:O PV->W PV):Prop:=∀{fs:bD}{σ:L2.St}{H:Hp}{Q:VK}{u:V}{l:O PV},a8 K H σ fs->SqF K σ fs H u l->((m l).run λz=>∀u H',dQ σ fs H H'->a8 K H' σ fs->VR K [] H' u z->Q u H')->r [u] H Q
def CL(K:Ab)(r:O V->Hp->VK->Prop)(m:O PV->W (O PV)):Prop:=∀{fs:bD}{σ:L2.St}{H:Hp}{Q:VK}{u:V}{l:O PV},a8 K H σ fs->SqF K σ fs H u l->((m l).run λz=>∀a vs H',dQ σ fs H H'->a8 K H' σ fs->H a=bm->H' a=ap (.lst vs)->aO K [] H' vs z->Q (.ref a) H')->r [u] H Q
def Yq{m:O PV->W PV}(hc:cC X (.builtin id) r)(hB:CQ K r m)(hg:Gl X x)(hm:X.mg x=bm)(hv:re x=ap (.builtin id))(ha:QF X K fs e wl)(hn: ~~~(x≠"__name__"))(sD: ~~~(jN x))
  (he:‹iq X e []›) (eM:‹m6 X pos []›):EF X K fs (.Call (.Name x p) [e] [] pos) (.bind wl m):=⟨PE.imp (fU hc hg hm hv (a9 ha.p cv he) hn sD he eM) λσ H Q ⟨sr,q⟩=>⟨sr,wl.mono (λl q1 u H1 g1 s1 v1=>hB s1 v1 ((m l).mono (λz q u H' g s v=>q u H' (g1.trans g) s v) q1)) q⟩⟩
def T4{m:O PV->W PV}(hc:cC X (.type id) r)(hB:CQ K r m)(hg:Gl X x)(hm:X.mg x=bm)(hv:re x=ap (.type id))(ha:QF X K fs e wl)(hn: ~~~(x≠"__name__"))(sD: ~~~(jN x))
  (he:‹iq X e []›) (eM:‹m6 X pos []›):EF X K fs (.Call (.Name x p) [e] [] pos) (.bind wl m):=⟨PE.imp (oM hc hg hm hv (a9 ha.p cv he) hn sD he eM) λσ H Q ⟨sr,q⟩=>⟨sr,wl.mono (λl q1 u H1 g1 s1 v1=>hB s1 v1 ((m l).mono (λz q u H' g s v=>q u H' (g1.trans g) s v) q1)) q⟩⟩
def akN{m:O PV->W (O PV)}(hc:cC X (.builtin id) r)(hB:CL K r m)(hg:Gl X x)(hm:X.mg x=bm)(hv:re x=ap (.builtin id))(ha:QF X K fs e wl)(hn: ~~~(x≠"__name__"))(sD: ~~~(jN x))
  (he:‹iq X e []›) (eM:‹m6 X pos []›):LF X K fs (.Call (.Name x p) [e] [] pos) (.bind wl m):=⟨PE.imp (fU hc hg hm hv (a9 ha.p cv he) hn sD he eM) λσ H Q ⟨sr,q⟩=>⟨sr,wl.mono (λl q1 u H1 g1 s1 v1=>hB s1 v1 ((m l).mono (λz q a vs H' g s n e v=>q a vs H' (g1.trans g) s (g1.there a n) e v) q1)) q⟩⟩
def W5{m:O PV->W (O PV)}(hc:cC X (.type id) r)(hB:CL K r m)(hg:Gl X x)(hm:X.mg x=bm)(hv:re x=ap (.type id))(ha:QF X K fs e wl)(hn: ~~~(x≠"__name__"))(sD: ~~~(jN x))
  (he:‹iq X e []›) (eM:‹m6 X pos []›):LF X K fs (.Call (.Name x p) [e] [] pos) (.bind wl m):=⟨PE.imp (oM hc hg hm hv (a9 ha.p cv he) hn sD he eM) λσ H Q ⟨sr,q⟩=>⟨sr,wl.mono (λl q1 u H1 g1 s1 v1=>hB s1 v1 ((m l).mono (λz q a vs H' g s n e v=>q a vs H' (g1.trans g) s (g1.there a n) e v) q1)) q⟩⟩
end
def zv(l:O PV):W PV:=.ret (.int l.length)
def aaN(K:Ab):CQ K (aer K) zv:=λ{fs σ H Q u l} s v q=>by
 obtain⟨a,vs,rfl,h,rs⟩:=v.sq s;refine⟨_,vs.length,rfl,?_,?_⟩
 ·exact h.elim (λh=>.inl ⟨_,h,rfl⟩) λh=>.inr ⟨_,h,rfl⟩
 ·rw[rs.length];exact q _ H .refl s (.int _)
def lJ(l:O PV):W PV:=.ret (.tup l)
def Zk(K:Ab):CQ K (VZ K) lJ:=λ{fs σ H Q u l} s v q=>by
 have fresh:∀{a:ci}{vs:O V},eN K H a vs->aO K [] H vs l->VZ K [.ref a] H Q:=λ{a vs} h rs=>⟨a,vs,rfl,.inl ⟨h,λp H2 s2 e2 n2=>q _ H2 (dQ.same s2) (s.same s2) (.tup e2 (aO.tk s2.fM rs))⟩⟩;rcases v with⟨a,vs,rfl,h | h,rs⟩ | ⟨a,rfl,⟨n,vs,h,rs⟩ | ⟨i,_,q1,q2⟩⟩
 ·exact fresh h.sq rs
 ·exact⟨a,vs,rfl,.inr ⟨eW.of h,q _ H .refl s (.tup h rs)⟩⟩
 ·exact fresh (eN.of h) rs
 ·obtain⟨_,vs,h,rs⟩:=s.ownAt q1 rfl q2;exact fresh (eN.of h) rs
end
end
end FL
variable{R:Type}
namespace FL
section
variable{K:Ab}
def JW(vs:O V)(ks:O AK)(φ:O V->Prop)(a:ci):Prop:=∃i:Nat,ks[i]?=ap (.p φ)/\vs[i]?=ap (.ref a)
structure GoC(vs:List V)(ks:List AK)(H H':Hp):Prop where
 keep:∀a o,H a=ap o->(∀φ,¬JW vs ks φ a)->H' a=ap o
 there:∀a,H' a=bm->H a=bm
 aeB:∀a φ,JW vs ks φ a->∃ws,H' a=ap (.lst ws)/\φ ws
inductive kQ(K:Ab)(H:Hp):List V->List AK->List PV->Prop
 | nil:kQ K H [] [] []
 | v {u:V}{x:PV}{vs:List V}{ks:List AK}{l:List PV} (r:VR K [] H u x) (t:kQ K H vs ks l):kQ K H (u::vs) (.v::ks) (x::l)
 | p {a:ci}{φ:List V->Prop}{ws vs:List V}{ks:List AK}{l:List PV} (e:H a=ap (.lst ws)) (r:φ ws) (t:kQ K H vs ks l):kQ K H (.ref a::vs) (.p φ::ks) l
 | f {a:ci}{vs:List V}{ks:List AK}{l:List PV} (t:kQ K H vs ks l):kQ K H (.ref a::vs) (.f a::ks) l
def RX(K:Ab)(ks:O AK)(m:O PV->W PV):Sp:=λvs H Q _=>∃l,kQ K H vs ks l/\(m l).run λv=>∀u H',GoC vs ks H H'->VR K [] H' u v->Q u H'
def Hw(K:Ab)(ks:O AK)(m:O PV->W (O PV)):Sp:=λvs H Q _=>∃l,kQ K H vs ks l/\(m l).run λz=>∀a ws H',GoC vs ks H H'->H a=bm->H' a=ap (.lst ws)->aO K [] H' ws z->Q (.ref a) H'
def MU(R:Type):Nat->Type
 | 0=>W R
 | n+1=>PV->MU R n
def rj:(n:Nat)->MU R n->O PV->W R
 | 0,m,[]=>m
 | n+1,m,x::l=>rj n (m x) l
 | 0,_,_::_=>.fail
 | _+1,_,[]=>.fail
section
def hX.ng(h:hX K σ fs H vs ks l)(p:JW vs ks φ a):km σ fs φ a:=by
 obtain⟨i,e1,e2⟩:=p
 induction h generalizing i with
 | nil=>simp at e1
 | v r t ih=>cases i with | zero=>simp at e1 | succ i=>exact ih i (by simpa using e1) (by simpa using e2)
 | p r t ih=>
  cases i with
  | zero=>simp at e1 e2;subst e1;subst e2;exact r
  | succ i=>exact ih i (by simpa using e1) (by simpa using e2)
 | f t ih=>cases i with | zero=>simp at e1 | succ i=>exact ih i (by simpa using e1) (by simpa using e2)
def hX.c(h:hX K σ fs H vs ks l)(s:a8 K H σ fs):kQ K H vs ks l:=by
 induction h with
 | nil=>exact .nil
 | v r t ih=>exact .v r ih
 | p r t ih=>
  obtain⟨i,e1,e2⟩:=r;obtain⟨ws,q,x⟩:=s.ownAt e1 rfl e2;exact .p q x ih
 | f t ih=>exact .f ih
def GoC.caller(g:GoC vs ks H H')(h:hX K σ fs H vs ks l)(s:a8 K H σ fs):a8 K H' σ fs/\dQ σ fs H H':=by
 have gf:dQ σ fs H H':=⟨λa o e n=>g.keep a o e λφ p=>n φ (h.ng p),g.there⟩;have tk:=gf.fN s;refine⟨⟨s.len,λi t e=>?_,s.nd⟩,gf⟩;obtain⟨u,h1,h2⟩:=s.at' i t e;refine⟨u,h1,?_⟩;rcases h2 with⟨v,q,r⟩ | ⟨a,q,r⟩
 ·exact .inl ⟨v,q,VR.tk tk r⟩
 ·subst q;refine .inr ⟨a,rfl,?_⟩;by_cases c:(∃φ,JW vs ks φ a)/\t.own=true
  ·obtain⟨⟨φ,p⟩,ow⟩:=c;obtain⟨j,e1,e2⟩:=h.ng p;have ij:=s.nd i j t _ a a a e e1 ow rfl h1 e2 (.inl rfl) (.inl rfl);subst ij;rw[e]at e1;cases e1;exact g.aeB a φ p
  ·refine r.mono tk (λb o ow hb z=>g.keep b o z λφ p=>?_);obtain⟨j,e1,e2⟩:=h.ng p;have ij:=s.nd i j t _ a b b e e1 ow rfl h1 e2 hb (.inl rfl);subst ij;rw[h1]at e2;cases e2;exact c ⟨⟨φ,p⟩,ow⟩
end
section
def af5{m:O PV->W PV}(G:Cal X.prog X.w X.K X.mg X.base x k ps (RX K ks m))(hr:gj k' X.A)(hk:k<=k')(hg:Gl X x)(ha:AF X K fs (e::es) ks B)(sD: ~~~(jN x))
  (he:‹iq X e es›) (eM:‹m6 X pos es›):EF X K fs (.Call (.Name x p) (e::es) [] pos) (B m):=by
 obtain⟨w,hp,hB⟩:=ha.p;rw[hB];exact⟨PE.imp (Wv G hr hk hg hp sD he eM) λσ H Q ⟨sr,q⟩=>⟨sr,w.mono (λl q1 vs H1 g1 s1 v1=>⟨l,v1.c s1,(m l).mono (λz q2 u H2 g2 r2=>let ⟨s2,g3⟩:=g2.caller v1 s1;q2 u H2 (g1.trans g3) s2 r2) q1⟩) q⟩⟩
def aff{m:O PV->W (O PV)}{B:(O PV->W (O PV))->W (O PV)}(G:Cal X.prog X.w X.K X.mg X.base x k ps (Hw K ks m))(hr:gj k' X.A)(hk:k<=k')(hg:Gl X x)(ha:AF X K fs (e::es) ks B)(sD: ~~~(jN x))
  (he:‹iq X e es›) (eM:‹m6 X pos es›):LF X K fs (.Call (.Name x p) (e::es) [] pos) (B m):=by
 obtain⟨w,hp,hB⟩:=ha.p;rw[hB];exact⟨PE.imp (Wv G hr hk hg hp sD he eM) λσ H Q ⟨sr,q⟩=>⟨sr,w.mono (λl q1 vs H1 g1 s1 v1=>⟨l,v1.c s1,(m l).mono (λz q2 a ws H2 g2 n2 e2 r2=>let ⟨s2,g3⟩:=g2.caller v1 s1;q2 a ws H2 (g1.trans g3) s2 (g1.there a n2) e2 r2) q1⟩) q⟩⟩
end
end
end FL
variable{x:Bool}{T:Type}{p':Cz}
namespace FL
section
variable{K:Ab}
inductive End where
 | nx (fs:bD) | nc (fs:bD) | ct (fs:bD) | rt (v:PV) | rl (l:List PV) | bk (fs:bD) | ro (v:PV) (a:ci) (l:List PV)
def JZ(σ:L2.St)(fs:bD)(H:Hp)(a:ci):Prop:=H a=bm\/∃(i:Nat) (s:SL) (x:ci),fs[i]?=ap (ap s)/\s.own=true/\(∀φ,s≠.ng φ)/\σ[i]?=ap (ap (.ref x))/\s.has x a
def bR(K:Ab)(x:Bool)(σ:L2.St)(fs:bD)(H:Hp)(D:Ends):End->Prop
 | .nx cf=>x=false->∀σ' H',cZ σ fs H σ' cf H'->a8 K H' σ' cf->D.nx σ' H'
 | .nc cf=>∀σ' H',cZ σ fs H σ' cf H'->a8 K H' σ' cf->(x=false->D.nx σ' H')/\D.ct σ' H'
 | .ct cf=>∀σ' H',cZ σ fs H σ' cf H'->a8 K H' σ' cf->D.ct σ' H'
 | .bk cf=>∀σ' H',cZ σ fs H σ' cf H'->a8 K H' σ' cf->D.bk σ' H'
 | .rt v=>∀u σ' cf H',cZ σ fs H σ' cf H'->a8 K H' σ' cf->VR K [] H' u v->D.rt u H'
 | .ro v a l=>∀u σ' cf H',cZ σ fs H σ' cf H'->a8 K H' σ' cf->(∃i:Nat,cf[i]?=ap (ap (.ol (ap a) l)))->VR K [] H' u v->D.rt u H'
 | .rl l=>∀a ws σ' cf H',cZ σ fs H σ' cf H'->a8 K H' σ' cf->JZ σ fs H a->H' a=ap (.lst ws)->aO K [] H' ws l->D.rt (.ref a) H'
def fS(K:Ab)(x:Bool)(fs:bD)(w:W T)(out:T->End):TS:=λD σ H=>a8 K H σ fs/\w.run λt=>bR K x σ fs H D (out t)
structure SF(X:Cx)(K:Ab)(x:Bool)(fs:bD)(ñ:List u8){T:Type}(w:W T)(out:T->End):Prop where p:wG X ñ (fS K x fs w out)
section
variable{σ1:L2.St}{â:bD}
def JZ.go(g:cZ σ fs H σ1 â H1)(s:a8 K H σ fs)(s1:a8 K H1 σ1 â)(h:JZ σ1 â H1 a):JZ σ fs H a:=by
 rcases h with h | ⟨i,t,x,e1,e2,np,e3,e4⟩
 ·exact .inl (g.there a h)
 ·cases z:H a with
  | none=>exact .inl z
  | some o=>
   by_cases c:ff σ fs a
   ·obtain⟨j,t',y,c1,c2,c3,c4⟩:=c;by_cases d:∃φ,t'=.ng φ
    ·obtain⟨φ,rfl⟩:=d;rcases c4 with rfl | c4
     ·rcases g.pk a φ ⟨j,c1,c3⟩ with⟨k,k1,k2⟩ | ⟨n,_⟩
      ·have:=s1.nd i k t _ x a a e1 k1 e2 rfl e3 k2 e4 (.inl rfl);subst this;rw[e1]at k1;cases k1;exact absurd rfl (np φ)
      ·exact absurd ⟨i,t,x,e1,e2,e3,e4⟩ n
     ·cases c4
    ·exact .inr ⟨j,t',y,c1,c2,λφ e=>d ⟨φ,e⟩,c3,c4⟩
   ·exact absurd ⟨i,t,x,e1,e2,e3,e4⟩ (g.keep a o z c).2
def bR.go(g:cZ σ fs H σ1 â H1)(s:a8 K H σ fs)(s1:a8 K H1 σ1 â){E:End}(h:bR K x σ fs H D E):bR K x σ1 â H1 D E:=by
 cases E with
 | nx cf=>exact λhx σ' H' g' s'=>h hx σ' H' (g.trans g') s'
 | nc cf=>exact λσ' H' g' s'=>h σ' H' (g.trans g') s'
 | bk cf=>exact λσ' H' g' s'=>h σ' H' (g.trans g') s'
 | ct cf=>exact λσ' H' g' s'=>h σ' H' (g.trans g') s'
 | rt v=>exact λu σ' cf H' g' s' r=>h u σ' cf H' (g.trans g') s' r
 | ro v a l=>exact λu σ' cf H' g' s' o r=>h u σ' cf H' (g.trans g') s' o r
 | rl l=>exact λa ws σ' cf H' g' s' f e r=>h a ws σ' cf H' (g.trans g') s' (f.go g s s1) e r
def bR.exit{D':Ends}(h1:D'.rt=D.rt)(h2:D'.ct=D.ct)(h3:D'.bk=D.bk){E:End}(h:bR K x σ fs H D E):bR K true σ fs H D' E:=by
 cases E with
 | nx cf=>exact λhx=>nomatch hx
 | nc cf=>exact λσ' H' g' s'=>⟨λhx=>(nomatch hx),h2▸(h σ' H' g' s').2⟩
 | bk cf=>exact λσ' H' g' s'=>h3▸h σ' H' g' s'
 | ct cf=>exact λσ' H' g' s'=>h2▸h σ' H' g' s'
 | rt v=>exact λu σ' cf H' g' s' r=>h1▸h u σ' cf H' g' s' r
 | ro v a l=>exact λu σ' cf H' g' s' o r=>h1▸h u σ' cf H' g' s' o r
 | rl l=>exact λa ws σ' cf H' g' s' f e r=>h1▸h a ws σ' cf H' g' s' f e r
end
section
variable{X:Cx}{a b c e o:lc}{pos p:Pos}{fs cf:bD}{st:u8}{ñ rest sa sb:O u8}{T T1:Type}{w wk:W T}{out:T->End}{we:W PV}{wl:W (O PV)}{x:Bool}
def End.Q0:End->Prop
 | .rt _=>True
 | .rl _=>True
 | .ro _ _ _=>True
 | _=>False
def bR.ait{D':Ends}{y:Bool}{E:End}(ho:E.Q0)(e:D'.rt=D.rt)(h:bR K x σ fs H D E):bR K y σ fs H D' E:=by
 cases E with
 | rt v=>exact λu σ' cf H' g s r=>e▸h u σ' cf H' g s r
 | rl v=>exact λa ws σ' cf H' g s f ea r=>e▸h a ws σ' cf H' g s f ea r
 | ro v a l=>exact λu σ' cf H' g s o r=>e▸h u σ' cf H' g s o r
 | _=>exact ho.elim
def Kc(X:Cx)(K:Ab)(x:Bool)(rest:O u8){T:Type}(out:T->End):TS:=λD σ H=>∃cf w',SF X K x cf rest w' out/\fS K x cf w' out D σ H
def ZP:wG X rest (Kc X K x rest out):=λZ s σ H D I ⟨cf,w',h,q⟩=>h.p Z s σ H D I q
def WR:wG X rest adY:=λ_ _ _ _ _ _ h=>h.elim
def SF.step{t:TS}(h:PS X st t)(hq:∀D σ H,fS K x fs w out D σ H->t {D with nx:=Kc X K x rest out D} σ H):SF X K x fs (st::rest) w out:=⟨wG.imp (Kt h ZP) λD σ H q=>hq D σ H q⟩
def SF.last{t:TS}(h:PS X st t)(hq:∀D σ H,fS K x fs w out D σ H->t {D with nx:=λ_ _=>False} σ H):SF X K x fs (st::rest) w out:=⟨wG.imp (Kt h WR) λD σ H q=>hq D σ H q⟩
def SF.nil{t:T}(h:out t=.nx cf)(hl:jO fs cf):SF X K false fs [] (.ret t) out:=⟨wG.imp HH λD σ H ⟨sr,q⟩=>by
 have q:bR K false σ fs H D (out t):=q;rw[h]at q;exact q rfl σ H (cZ.le sr hl) (sr.le hl)⟩
def SF.cV{t:T}(h:out t=.nc cf)(hl:jO fs cf):SF X K false fs [] (.ret t) out:=⟨wG.imp HH λD σ H ⟨sr,q⟩=>by
 have q:bR K false σ fs H D (out t):=q;rw[h]at q;exact(q σ H (cZ.le sr hl) (sr.le hl)).1 rfl⟩
def SF.cont{t:T}(h:out t=.nc cf\/out t=.ct cf)(hl:jO fs cf):SF X K x fs (.Continue pos::rest) (.ret t) out:=SF.last Kv λD σ H ⟨sr,q⟩=>by
 have q:bR K x σ fs H D (out t):=q;rcases h with h | h
 ·rw[h]at q;exact(q σ H (cZ.le sr hl) (sr.le hl)).2
 ·rw[h]at q;exact q σ H (cZ.le sr hl) (sr.le hl)
def SF.ret{k:PV->T}(he:EF X K fs e we)(h:∀v,out (k v)=.rt v):SF X K x fs (.Return (ap e) pos::rest) (.bind we λv=>.ret (k v)) out:=SF.last (HI he.p) λD σ H ⟨sr,q⟩=>⟨sr,we.mono (λv q1 u H1 g1 s1 v1=>by
 have q1:bR K x σ fs H D (out (k v)):=q1;rw[h]at q1;exact q1 u σ fs H1 g1.f s1 v1) q⟩
def SF.bu{out:PV->End}(he:EF X K fs e we)(h:∀v,out v=.rt v):SF X K x fs (.Return (ap e) pos::rest) we out:=SF.ret (k:=λv=>v) he h
def SF.amA{k:O PV->T}(he:LF X K fs e wl)(h:∀l,out (k l)=.rl l):SF X K x fs (.Return (ap e) pos::rest) (.bind wl λl=>.ret (k l)) out:=SF.last (HI he.p) λD σ H ⟨sr,q⟩=>⟨sr,wl.mono (λl q1 a ws H1 g1 s1 n e v1=>by
 have q1:bR K x σ fs H D (out (k l)):=q1;rw[h]at q1;exact q1 a ws σ fs H1 g1.f s1 (.inl n) e v1) q⟩
def SF.jm{out:O PV->End}(he:LF X K fs e wl)(h:∀v,out v=.rl v):SF X K x fs (.Return (ap e) pos::rest) wl out:=SF.amA (k:=λv=>v) he h
def SF.VU(i:Nat){y:Str}{t:T}(hs:fs[i]?=ap (ap (.ol q0 l)))(h:out t=.rl l)(hN:‹X.N[i]?=ap y›)(hv:yT X.env.scope y:=by first | exact Co rfl | exact Ca (Co rfl) | exact Ca (Ca rfl))(hd: ~~~(jN y))(iG: ~~~(zY y)):SF X K x fs (.Return (ap (.Name y p)) pos::rest) (.ret t) out:=SF.last (HI (dI hN hv hd iG)) λD σ H ⟨sr,q⟩=>by
 have q:bR K x σ fs H D (out t):=q;rw[h]at q;obtain⟨u,e1,r⟩:=sr.at' i _ hs;rcases r with⟨v,e,_⟩ | ⟨a,e,r⟩
 ·cases e
 ·subst e;obtain⟨_,ws,q1,q2⟩:=r;exact⟨_,e1,q a ws σ fs H .refl sr (.inr ⟨i,_,_,hs,rfl,by simp,e1,.inl rfl⟩) q1 q2⟩
def SF.ah4(i:Nat){ad:ci}{k:PV->T}(hs:fs[i]?=ap (ap (.ol (ap ad) l)))(he:EF X K fs e we)(h:∀v,out (k v)=.ro v ad l):SF X K x fs (.Return (ap e) pos::rest) (.bind we λv=>.ret (k v)) out:=SF.last (HI he.p) λD σ H ⟨sr,q⟩=>⟨sr,we.mono (λv q1 u H1 g1 s1 v1=>by
 have q1:bR K x σ fs H D (out (k v)):=q1;rw[h]at q1;exact q1 u σ fs H1 g1.f s1 ⟨i,hs⟩ v1) q⟩
def SF.expr{k:PV->W T}(he:EF X K fs e we)(hr:∀v,SF X K x fs rest (k v) out)(hs:‹pc e bm pos.line X.env=pure false›):SF X K x fs (.Expr e pos::rest) (.bind we k) out:=SF.step (vW he.p hs) λD σ H ⟨sr,q⟩=>
 ⟨sr,we.mono (λv q1 u H1 g1 s1 v1=>⟨fs,k v,hr v,s1,(k v).mono (λt q2=>q2.go g1.f sr s1) q1⟩) q⟩
def SF.set{y:Str}{k:PV->W T}(hN:X.N.Nodup)(hi:X.N[i]?=ap y)(hx:Loc X.env.scope y)(he:EF X K fs e we)(hr:∀v,SF X K x (fs.set i (ap (.val v))) rest (k v) out)(hs:‹pc e (ap (.Name y p')) pos.line X.env=pure false›)
  (hf:UG X y:=by first | exact .inl rfl | exact .inr rfl | assumption):SF X K x fs (.Assign [.Name y p'] e pos::rest) (.bind we k) out:=SF.step (tN hN hi hx he.p hs hf) λD σ H ⟨sr,q⟩=>
 ⟨sr,we.mono (λv q1 u H1 g1 s1 v1=>⟨_,k v,hr v,s1.eY v1 i,(k v).mono (λt q2=>q2.go (g1.f.trans (cZ.eY s1 u v i)) sr (s1.eY v1 i)) q1⟩) q⟩
def SF.amx{y:Str}{k:O PV->W T}(hN:X.N.Nodup)(hi:X.N[i]?=ap y)(hx:Loc X.env.scope y)(he:LF X K fs e wl)(hr:∀l,SF X K x (fs.set i (ap (.ol bm l))) rest (k l) out)(hs:‹pc e (ap (.Name y p')) pos.line X.env=pure false›)
  (hf:UG X y:=by first | exact .inl rfl | exact .inr rfl | assumption):SF X K x fs (.Assign [.Name y p'] e pos::rest) (.bind wl k) out:=SF.step (tN hN hi hx he.p hs hf) λD σ H ⟨sr,q⟩=>by
 refine⟨sr,wl.mono (λl q1 a ws H1 g1 s1 n e v1=>?_) q⟩;have no:=sr.noOwn n;have s2:=s1.HG (t:=.ol bm l) ⟨by simp,ws,e,v1⟩ no i;exact⟨_,k l,hr l,s2,(k l).mono (λt q2=>q2.go (cZ.HG s1 g1.f no n i) sr s2) q1⟩
def SF.c6(i:Nat){t:SL}(hs:fs[i]?=ap (ap t))(hr:SF X K x (fs.set i (ap (.val t.bv))) ñ w out)(hb:‹t.bw=true›):SF X K x fs ñ w out:=⟨λZ s σ H D I ⟨sr,q⟩=>by
 obtain⟨u,e1,r⟩:=sr.at' i _ hs;have ho:=SL.YG hb;rcases r with⟨v,e,_⟩ | ⟨a,e,oa⟩
 ·subst e;cases hb
 ·subst e;obtain⟨ob,o,h1,n1,n2,I2,vr⟩:=ajF I oa hb;have ow:∀b,ff σ (fs.set i (ap (.val t.bv))) b->ff σ fs b:=λb z=>by
   obtain⟨j,t,x,z1,z2,z3,z4⟩:=z;rcases dM z1 with⟨rfl,rfl⟩ | ⟨n,z1⟩
   ·cases z2
   ·exact⟨j,t,x,z1,z2,z3,z4⟩
  have s2:=sr.ajE hs ho e1 h1 n1 n2 vr;have g2:cZ σ fs H σ (fs.set i (ap (.val t.bv))) (upd H a (.c6 ob o)):=by
   refine⟨λb o z n=>⟨?_,λy=>n (ow b y)⟩,λb z=>?_,λb φ z=>?_⟩
   ·rw[aD (λy=>by subst y;exact n ⟨i,_,_,hs,ho,e1,.inl rfl⟩)];exact z
   ·by_cases c:b=a
    ·subst c;rw[aW]at z;cases z
    ·rw[aD c]at z;exact z
   ·obtain⟨j,z1,z2⟩:=z;have:j≠i:=λy=>by subst y;rw[hs]at z1;cases z1;cases hb
    exact .inl ⟨j,by rw[aY this];exact z1,z2⟩
  exact hr.p Z s σ _ D I2 ⟨s2,w.mono (λt q3=>q3.go g2 sr s2) q⟩⟩
variable{tc:W Bool}
def SF.Y2(hc:TF X K fs c tc)(ha:SF X K x fs sa w out)(hb:SF X K x fs sb wk out):SF X K x fs [.If c sa sb pos] (.bind tc λb=>if b=true then w else wk) out:=⟨wG.imp (ZZ (Wc hc.p ha.p hb.p)) λD σ H ⟨sr,q⟩=>⟨sr,tc.mono (λk q1 H1 g1 s1=>by
 cases k with
 | true=>exact zD ⟨s1,w.mono (λt q2=>q2.go g1.f sr s1) q1⟩
 | false=>exact zE ⟨s1,wk.mono (λt q2=>q2.go g1.f sr s1) q1⟩) q⟩⟩
def SF.MJ(hc:TF X K fs c tc)(ha:SF X K true fs sa w out)(hb:SF X K x fs rest wk out):SF X K x fs (.If c sa [] pos::rest) (.bind tc λb=>if b=true then w else wk) out:=SF.step (Wc hc.p ha.p HH) λD σ H ⟨sr,q⟩=>⟨sr,tc.mono (λk q1 H1 g1 s1=>by
 cases k with
 | true=>exact zD ⟨s1,w.mono (λt q2=>bR.exit (D:=D) (D':={D with nx:=Kc X K x rest out D}) rfl rfl rfl (q2.go g1.f sr s1)) q1⟩
 | false=>exact zE ⟨fs,wk,hb,s1,wk.mono (λt q2=>q2.go g1.f sr s1) q1⟩) q⟩
def agA(X:Cx)(K:Ab)(x:Bool)(rest:O u8){T:Type}(w:W T)(out:T->End):End->Prop
 | .nx cf=>SF X K x cf rest w out
 | .nc cf=>False
 | .bk cf=>∃t,w=.ret t/\out t=.bk cf
 | .ct cf=>∃t,w=.ret t/\(out t=.ct cf\/out t=.nc cf)
 | .rt v=>∃t,w=.ret t/\out t=.rt v
 | .rl l=>∃t,w=.ret t/\out t=.rl l
 | .ro v a l=>∃t,w=.ret t/\out t=.ro v a l
def agA.r{E:End}(sr:a8 K H σ fs)(h:agA X K x rest w out E)(q:w.run λt=>bR K x σ fs H D (out t)):bR K false σ fs H {D with nx:=Kc X K x rest out D} E:=by
 cases E with
 | nx cf=>exact λ_ σ' H' g' s'=>⟨cf,w,h,s',w.mono (λt q2=>q2.go g' sr s') q⟩
 | nc cf=>exact h.elim
 | bk cf=>
  obtain⟨t,rfl,h⟩:=h;have q:bR K x σ fs H D (out t):=q;rw[h]at q;exact q
 | ct cf=>
  obtain⟨t,rfl,h⟩:=h;have q:bR K x σ fs H D (out t):=q;rcases h with h | h
  ·rw[h]at q;exact q
  ·rw[h]at q;exact λσ' H' g s=>(q σ' H' g s).2
 | rt v=>
  obtain⟨t,rfl,h⟩:=h;have q:bR K x σ fs H D (out t):=q;rw[h]at q;exact q
 | rl v=>
  obtain⟨t,rfl,h⟩:=h;have q:bR K x σ fs H D (out t):=q;rw[h]at q;exact q
 | ro v a l=>
  obtain⟨t,rfl,h⟩:=h;have q:bR K x σ fs H D (out t):=q;rw[h]at q;exact q
variable{w1 w2:W T1}{out1:T1->End}{k:T1->W T}
def SF.ifS(hc:TF X K fs c tc)(ha:SF X K false fs sa w1 out1)(hb:SF X K false fs sb w2 out1)(hr:∀t,agA X K x rest (k t) out (out1 t)):SF X K x fs (.If c sa sb pos::rest) (.bind tc λb=>.bind (if b=true then w1 else w2) k) out:=SF.step (Wc hc.p ha.p hb.p) λD σ H ⟨sr,q⟩=>⟨sr,tc.mono (λb q1 H1 g1 s1=>by
 have fin:∀t,(k t).run (λt=>bR K x σ fs H D (out t))->bR K false σ fs H {D with nx:=Kc X K x rest out D} (out1 t):=λt q=>(hr t).r sr q;cases b with
 | true=>exact zD ⟨s1,w1.mono (λt q2=>(fin t q2).go g1.f sr s1) q1⟩
 | false=>exact zE ⟨s1,w2.mono (λt q2=>(fin t q2).go g1.f sr s1) q1⟩) q⟩
end
end
end FL
variable{is:O Nat}
namespace FL
section
variable{K:Ab}
def JF(K:Ab)(H:Hp)(J:It)(l:O PV):Prop:=l.length<=sizeLine/\∀H',bQ K H H'->(∀(i:Nat) (p:PV),l[i]?=ap p->J.go i H'/\∀x H2,J.yld i H' x H2->mP H' H2/\VR K [] H2 x p)/\J.stop l.length H'
def JF.tk{J:It}(t:bQ K H H')(h:JF K H J l):JF K H' J l:=⟨h.1,λH2 t2=>h.2 H2 (bQ.trans t t2)⟩
def fIt(K:Ab)(fs:bD)(w:W (O PV)):TI:=λσ H R=>a8 K H σ fs/\w.run λl=>∀J H',dQ σ fs H H'->a8 K H' σ fs->JF K H' J l->R J H'
structure yO(X:Cx)(K:Ab)(fs:bD)(tg e:lc)(w:W (List PV)):Prop where p:PI X tg e (fIt K fs w)
section
variable{a c:lc}{w:W PV}
def aci{ad:ci}(h:FzL K H ad vs)(r:aO K [] H vs l)(hz:l.length<=sizeLine):JF K H (Itl K ad) l:=⟨hz,λH' t=>by
 have e1:=(t.f _ _ h).sq;have e2:=aO.tk t r;refine⟨λi p hp=>?_,vs,e1,by rw[e2.length];exact An _⟩;obtain⟨v,h3,h4⟩:=e2.get hp;refine⟨⟨vs,v,e1,h3⟩,λx H3 y=>?_⟩;obtain⟨rfl,y⟩:=y;have:=y vs e1;rw[h3]at this;cases this;exact⟨mP.refl _,h4⟩⟩
def agy{ad:ci}(h:H ad=ap (.tup vs))(r:aO K [] H vs l)(hz:l.length<=sizeLine):JF K H (Itt K ad) l:=⟨hz,λH' t=>by
 have e1:=eW.of (K:=K) (t.t _ _ h);have e2:=aO.tk t r;refine⟨λi p hp=>?_,vs,e1,by rw[e2.length];exact An _⟩;obtain⟨v,h3,h4⟩:=e2.get hp;refine⟨⟨vs,v,e1,h3⟩,λx H3 y=>?_⟩;obtain⟨rfl,y⟩:=y;have:=y vs e1;rw[h3]at this;cases this;exact⟨mP.refl _,h4⟩⟩
def aR(hK:X.K=K)(h:IF X K fs e wl):yO X K fs tg e wl:=⟨by
 subst hK;intro Z s σ H R I ⟨sr,q⟩;refine bS (h.p Z s σ H (λu H1=>∃l,SqI X.K H1 u l/\∀J,JF X.K H1 J l->R J H1) I ⟨sr,wl.mono (λl q1 u H1 g1 s1 v1=>⟨l,v1,λJ j=>q1 J H1 g1 s1 j⟩) q⟩) λv s1 ⟨x,H1,I1,r1,l,⟨ad,vs,e,hh,rs⟩,q1⟩=>?_;subst e;cases r1;rcases hh with hh | hh
 ·obtain⟨aw,rv,pl,hz⟩:=I1.list hh.sq;refine Dg pl.isList ?_;refine⟨s1.heap.objs.size,[s1.heap.objs.size],_,_,H1,rfl,I1.kept (t':=s1.toks) λb o e=>Ag _ e,Gi ad _,⟨_,Ar _ rfl,rfl,rfl⟩,λb hb=>?_,q1 _ (aci hh rs (by rw[<- rs.length];exact hz))⟩;have e:b=s1.heap.objs.size:=by simpa using hb
  subst e;exact I1.xZ (An _) (I1.bN.fresh (An _))
 ·obtain⟨aw,rv,pl,hz⟩:=I1.tuple (eW.of hh);refine Dz (show s1.heap.IsTuple ad aw.toArray from pl) ?_;refine⟨s1.heap.objs.size,[s1.heap.objs.size],_,_,H1,rfl,I1.kept (t':=s1.toks) λb o e=>Ag _ e,wM ad _,⟨_,Ar _ rfl,rfl,rfl⟩,λb hb=>?_,q1 _ (agy hh rs (by rw[<- rs.length];exact hz))⟩;have e:b=s1.heap.objs.size:=by simpa using hb
  subst e;exact I1.xZ (An _) (I1.bN.fresh (An _))⟩
def okN(i j:Int):Prop:=-(2 ^ 62)<=i/\i < 2 ^ 62/\-(2 ^ 62)<=j/\j < 2 ^ 62/\(j-i).toNat<=sizeLine
def dg:PV->W (O PV)
 | .int j=>.fK (okN 0 j) (.ret (g8 0 j.toNat))
 | _=>.fail
def Qr:PV->PV->PV->W (O PV)
 | .int i,.int j,.int k=>.fK (k = -1/\okN j i) (.ret (qe i (i-j).toNat))
 | _,_,_=>.fail
def agz(lo:Int)(n:Nat)(hz:n<=sizeLine):JF K H (Itr lo n) (g8 lo n):=⟨by rw[gC];exact hz,λH' t=>⟨λi p hp=>by
  obtain⟨h1,rfl⟩:=um hp;refine⟨h1,λx H2 y=>?_⟩;obtain⟨rfl,rfl⟩:=y;exact⟨mP.refl _,.int _⟩,by show n<=(g8 lo n).length;rw[gC];exact An _⟩⟩
theorem cM(hg:Gl X "range")(hm:X.mg "range"=bm)(ha:EF X K fs a wa)(hs:‹im [a] X.env=[(false,lw a X.env)]›):yO X K fs tg (.Call (.Name "range" p) [a] [] pos) (.bind wa dg):=
 ⟨PI.imp (Si hg hm (a9 ha.p cv hs) hs) λσ H R ⟨sr,q⟩=>⟨sr,wa.mono (λx q1 u1 H1 g1 s1 v1=>by
  cases v1 with
  | int j=>exact⟨_,rfl,q1.1.2.2.1,q1.1.2.2.2.1,q1.2 _ H1 g1 s1 (agz _ _ (by have:=q1.1.2.2.2.2;omega))⟩
  | _=>exact q1.elim) q⟩⟩
def QZ(hg:Gl X "range")(hm:X.mg "range"=bm)(ha:EF X K fs a wa)(hb:EF X K fs b wb)(hc:EF X K fs c wc)(hs:‹im [a,b,c] X.env=[(false,lw a X.env),(false,lw b X.env),(false,lw c X.env)]›)(sC:‹im [b,c] X.env=[(false,lw b X.env),(false,lw c X.env)]›)(hs3:‹im [c] X.env=[(false,lw c X.env)]›):yO X K fs tg (.Call (.Name "range" p) [a,b,c] [] pos) (.bind wa λx=>.bind wb λy=>.bind wc λz=>Qr x y z):=
 ⟨PI.imp (Sg hg hm (a9 ha.p (a9 hb.p (a9 hc.p cv hs3) (by show im _ _=_;rw[sC,hs3])) (by show im _ _=_;rw[hs,sC])) hs sC) λσ H R ⟨sr,q⟩=>⟨sr,wa.mono (λx q1 u1 H1 g1 s1 v1=>⟨s1,wb.mono (λy q2 u2 H2 g2 s2 v2=>⟨s2,wc.mono (λz q3 u3 H3 g3 s3 v3=>by
  cases v1 with
  | int i=>
   cases v2 with
   | int j=>
    cases v3 with
    | int k=>
     obtain⟨⟨rfl,k1,k2,k3,k4,k5⟩,q3⟩:=q3;refine⟨_,_,rfl,⟨k3,k4,k1,k2⟩,q3 _ H3 ((g1.trans g2).trans g3) s3 ⟨by rw[GZ];exact k5,λH' t=>⟨λi p hp=>?_,?_⟩⟩⟩
     ·obtain⟨h1,rfl⟩:=uy hp;refine⟨h1,λx H2 y=>?_⟩;obtain⟨rfl,rfl⟩:=y;exact⟨mP.refl _,.int _⟩
     ·exact Nat.le_of_eq (GZ _ _).symm
    | _=>exact q3.elim
   | _=>exact q3.elim
  | _=>exact q3.elim) q2⟩) q1⟩) q⟩⟩
def Nj:PV->W (O PV)
 | .str z=>.fK (z.cps.size<=sizeLine) (.ret (z.cps.toList.map λc=>.str ⟨#[c]⟩))
 | _=>.fail
def aft(h:EF X K fs e w):yO X K fs tg e (.bind w Nj):=⟨PI.imp (aeD h.p) λσ H R ⟨sr,q⟩=>⟨sr,w.mono (λx q1 u1 H1 g1 s1 v1=>by
 cases v1 with
 | str z=>
  refine⟨z,rfl,q1.2 _ H1 g1 s1 ⟨by simpa using q1.1,λH' t=>⟨λi p hp=>?_,?_⟩⟩⟩
  ·rw[Aj]at hp;cases e:z.cps.toList[i]? with
   | none=>rw[e]at hp;cases hp
   | some c=>
    rw[e]at hp;have ep:=(Option.some.inj hp).symm;subst ep;have hi:=(Al.mp e).1;have Tf:i < z.cps.size:=by simpa using hi
    refine⟨Tf,λx H2 y=>?_⟩;obtain⟨rfl,d,hd,rfl⟩:=y;have:z.cps[i]?=ap c:=by simpa using e
    rw[this]at hd;cases hd;exact⟨mP.refl _,.str _⟩
  ·show z.cps.size<=_;simp
 | _=>exact q1.elim) q⟩⟩
def ph(hK:X.K=K){kk:Nat}(hg:Gl X "enumerate")(hm:X.mg "enumerate"=bm)(h:IF X K fs e wl)(J1:‹iq X e []›):yO X K fs (.Tuple Ñ kk tp) (.Call (.Name "enumerate" p1) [e] [] p2) (.bind wl λl=>.fK (l.length<=sizeLine) (.ret (d7 0 l))):=
 ⟨PI.imp (Wj K hK hg hm h.p J1) λσ H R ⟨sr,q⟩=>⟨sr,wl.mono (λl q1 u1 H1 g1 s1 v1=>by
  obtain⟨ad,vs,rfl,hh,rs⟩:=v1;have yl:∀{H':Hp}{i:Nat}{x v:V}{y:PV}{pp:ci},H' pp=bm->VR K [] H' v y->mP H' (upd H' pp (.tup [.int (i:Int),v]))/\VR K [] (upd H' pp (.tup [.int (i:Int),v])) (.ref pp) (.tup [.int ((0+i:Nat):Int),y]):=λ{H' i x v y pp} hn h4=>
   have sm:=kW hn (.tup [.int (i:Int),v])
   ⟨sm,.tup aW (.cons (by rw[AD];exact .int _) (.cons (VR.tk sm.fM h4) .nil))⟩
  refine⟨ad,rfl,?_⟩;rcases hh with hh | hh
  ·refine .inl ⟨⟨vs,hh.sq⟩,q1.2 _ H1 g1 s1 ⟨by rw[dc];exact q1.1,λH' t=>⟨λi p hp=>?_,vs,(t.f _ _ hh).sq,by rw[rs.length,dc];exact An _⟩⟩⟩;obtain⟨y,hy,rfl⟩:=iZ hp;obtain⟨v,h3,h4⟩:=(aO.tk t rs).get hy;refine⟨⟨vs,v,(t.f _ _ hh).sq,h3⟩,λx H3 z=>?_⟩;obtain⟨pp,x0,rfl,hn,rfl,hz⟩:=z;have:=hz vs (t.f _ _ hh).sq;rw[h3]at this;cases this;exact yl (x:=.aL) hn h4
  ·refine .inr ⟨⟨vs,eW.of hh⟩,q1.2 _ H1 g1 s1 ⟨by rw[dc];exact q1.1,λH' t=>⟨λi p hp=>?_,vs,eW.of (t.t _ _ hh),by rw[rs.length,dc];exact An _⟩⟩⟩;obtain⟨y,hy,rfl⟩:=iZ hp;obtain⟨v,h3,h4⟩:=(aO.tk t rs).get hy;refine⟨⟨vs,v,eW.of (t.t _ _ hh),h3⟩,λx H3 z=>?_⟩;obtain⟨pp,x0,rfl,hn,rfl,hz⟩:=z;have:=hz vs (eW.of (t.t _ _ hh));rw[h3]at this;cases this;exact yl (x:=.aL) hn h4) q⟩⟩
end
def wZ:O Nat->O V->L2.St->L2.St
 | i::is,u::us,σ=>wZ is us (σ.set i (ap u))
 | _,_,σ=>σ
def fG(K:Ab)(fs:bD)(is:O Nat)(wt:PV->W T)(d9:T->bD):TG:=λv σ H Q=>∃p,a8 K H σ fs/\VR K [] H v p/\(wt p).run λt=>∀us,cZ σ fs H (wZ is us σ) (d9 t) H->a8 K H (wZ is us σ) (d9 t)->Q (wZ is us σ) H
structure GF(X:Cx)(K:Ab)(fs:bD)(tg:lc)(is:List Nat){T:Type}(wt:PV->W T)(d9:T->bD):Prop where p:PG X tg (fG K fs is wt d9)
def m9:PV->W (PV×PV)
 | .tup [a,b]=>.ret (a,b)
 | _=>.fail
def un3:PV->W (PV×PV×PV)
 | .tup [a,b,c]=>.ret (a,b,c)
 | _=>.fail
def un4:PV->W (PV×PV×PV×PV)
 | .tup [a,b,c,d]=>.ret (a,b,c,d)
 | _=>.fail
section
def g_1(h:PG X tg (fc i)):GF X K fs tg [i] .ret (λp=>fs.set i (ap (.val p))):=⟨PG.imp h λv σ H Q ⟨p,sr,r,q⟩=>q [v] (cZ.eY sr v p i) (sr.eY r i)⟩
def MM(hK:X.K=K)(h:PG X tg (abo X.K 2 (qc (fc i) (qc (fc j) abq)))):GF X K fs tg [i,j] m9 (λt=>(fs.set i (ap (.val t.1))).set j (ap (.val t.2))):=⟨PG.imp h λv σ H Q ⟨p,sr,r,q⟩=>by
 unfold m9 at q
 split at q
 ·cases r with
  | tup e rs=>
   cases rs with
   | cons ra t=>
   cases t with
   | cons rb t=>
   cases t;have s1:=sr.eY ra i;exact⟨_,_,rfl,eW.of e,rfl,_,_,rfl,_,_,rfl,rfl,q [_,_] ((cZ.eY sr _ _ i).trans (cZ.eY s1 _ _ j)) (s1.eY rb j)⟩
 ·exact q.elim⟩
def g_3(hK:X.K=K)(h:PG X tg (abo X.K 3 (qc (fc i) (qc (fc j) (qc (fc k) abq))))):GF X K fs tg [i,j,k] un3 (λt=>((fs.set i (ap (.val t.1))).set j (ap (.val t.2.1))).set k (ap (.val t.2.2))):=⟨PG.imp h λv σ H Q ⟨p,sr,r,q⟩=>by
 unfold un3 at q
 split at q
 ·cases r with
  | tup e rs=>
   cases rs with
   | cons ra t=>
   cases t with
   | cons rb t=>
   cases t with
   | cons rc t=>
   cases t;have s1:=sr.eY ra i;have s2:=s1.eY rb j;exact⟨_,_,rfl,eW.of e,rfl,_,_,rfl,_,_,rfl,_,_,rfl,rfl,q [_,_,_] (((cZ.eY sr _ _ i).trans (cZ.eY s1 _ _ j)).trans (cZ.eY s2 _ _ k)) (s2.eY rc k)⟩
 ·exact q.elim⟩
def g_4{l:Nat}(hK:X.K=K)(h:PG X tg (abo X.K 4 (qc (fc i) (qc (fc j) (qc (fc k) (qc (fc l) abq)))))):GF X K fs tg [i,j,k,l] un4 (λt=>(((fs.set i (ap (.val t.1))).set j (ap (.val t.2.1))).set k (ap (.val t.2.2.1))).set l (ap (.val t.2.2.2))):=⟨PG.imp h λv σ H Q ⟨p,sr,r,q⟩=>by
 unfold un4 at q
 split at q
 ·cases r with
  | tup e rs=>
   cases rs with
   | cons ra t=>
   cases t with
   | cons rb t=>
   cases t with
   | cons rc t=>
   cases t with
   | cons rd t=>
   cases t;have s1:=sr.eY ra i;have s2:=s1.eY rb j;have s3:=s2.eY rc k;exact⟨_,_,rfl,eW.of e,rfl,_,_,rfl,_,_,rfl,_,_,rfl,_,_,rfl,rfl,q [_,_,_,_] ((((cZ.eY sr _ _ i).trans (cZ.eY s1 _ _ j)).trans (cZ.eY s2 _ _ k)).trans (cZ.eY s3 _ _ l)) (s3.eY rd l)⟩
 ·exact q.elim⟩
end
section
variable{S T:Type}
def bH:O PV->S->(PV->S->W S)->W S
 | [],s,_=>.ret s
 | x::r,s,f=>.bind (f x s) λs'=>bH r s' f
inductive Lp(S T:Type) where
 | go (s:S) | out (t:T)
def nX:O PV->S->(PV->S->W (Lp S T))->W (Lp S T)
 | [],s,_=>.ret (.go s)
 | x::r,s,f=>.bind (f x s) λo=>match o with
  | .go s'=>nX r s' f
  | .out t=>.ret (.out t)
def J4(k:S->W T)(inj:R->T):Lp S R->W T
 | .go s=>k s
 | .out r=>.ret (inj r)
@[simp] theorem afL(k:S->W T)(inj:R->T)(s:S):J4 k inj (.go s)=k s:=(rfl)
@[simp] theorem ak4(k:S->W T)(inj:R->T)(r:R):J4 k inj (.out r)=.ret (inj r):=(rfl)
def lpE(hd:S->bD)(out:R->End):Lp S R->End
 | .go s=>.nc (hd s)
 | .out r=>out r
def qk(c:S->W Bool)(b:S->W S):Nat->S->W S
 | 0,_=>.fail
 | n+1,s=>.bind (c s) λk=>if k=true then .bind (b s) (qk c b n) else .ret s
def Hi(c:S->W Bool)(b:S->W S)(s:S):W S:=⟨λQ=>∃n,(qk c b n s).run Q,λh ⟨n,q⟩=>⟨n,(qk c b n s).mono h q⟩⟩
def lF(c:S->W Bool)(b:S->W (Lp S T)):Nat->S->W (Lp S T)
 | 0,_=>.fail
 | n+1,s=>.bind (c s) λk=>if k=true then .bind (b s) (λo=>match o with
  | .go s'=>lF c b n s'
  | .out t=>.ret (.out t)) else .ret (.go s)
def wK(c:S->W Bool)(b:S->W (Lp S T))(s:S):W (Lp S T):=⟨λQ=>∃n,(lF c b n s).run Q,λh ⟨n,q⟩=>⟨n,(lF c b n s).mono h q⟩⟩
end
section
variable{c:lc}{rest:O u8}{S T T2:Type}{hd:S->bD}{s0:S}{wt:PV->W T2}{d9:S->T2->bD}{k:S->W T}{out:T->End}{R:Type}{inj:R->T}
theorem SF.for{f:PV->S->W S}{wb:T2->S->W S}(hp:xz (ev X.prog X.w) X.A X.env X.xe)(hc:X.calm=true)(hi:yO X K fs tg iter wl)(hl:jO fs (hd s0))(hg:∀s,GF X K (hd s) tg is wt (d9 s))(hf:∀p s,f p s=.bind (wt p) λt=>wb t s)
  (hb:∀s t,SF X K false (d9 s t) body (wb t s) λs'=>.nc (hd s')) (hr:∀s,SF X K x (hd s) rest (k s) out) (hs:J6 X iter:=by intro _;rfl) :
  SF X K x fs (.For tg iter body [] pos::rest) (.bind wl λl=>.bind (bH l s0 f) k) out:=by
 refine SF.step (Np (g:=λv σ H Q=>∃s,fG K (hd s) is wt (d9 s) v σ H Q) (tb:=λD σ H=>∃s t,fS K false (d9 s t) (wb t s) (λs'=>.nc (hd s')) D σ H) hp hc hi.p (λZ s σ H v u Q I r ⟨s1,q⟩=>(hg s1).p Z s σ H v u Q I r q) (λZ s σ H D I ⟨s1,t1,q⟩=>(hb s1 t1).p Z s σ H D I q) hs) λD σ H ⟨sr,q⟩=>?_;refine⟨sr,wl.mono (λl q1 J H1 g1 s1 jf=>?_) q⟩;refine⟨λi m σ' H'=>∃s,a8 K H' σ' (hd s)/\cZ σ fs H σ' (hd s) H'/\JF K H' J l/\m=l.length-i/\i<=l.length/\(bH (l.drop i) s f).run λs'=>(k s').run λt=>bR K x σ fs H D (out t),⟨l.length,s0,s1.le hl,g1.f.trans (cZ.le s1 hl),jf,by simp,A3 _,by simpa using q1⟩,?_⟩;rintro i m σ2 H2 ⟨s,s2,g2,Û,rfl,hi,q2⟩;obtain⟨j1,j2⟩:=Û.2 H2 (bQ.refl H2);by_cases fC:i < l.length
 ·obtain⟨go,yl⟩:=j1 i _ (Ad fC);have ed:=Bz fC;rw[ed]at q2;refine .inr ⟨go,λσ3 H3=>∃s',a8 K H3 σ3 (hd s')/\cZ σ fs H σ3 (hd s') H3/\JF K H3 J l/\(bH (l.drop (i+1)) s' f).run λs'=>(k s').run λt=>bR K x σ fs H D (out t),λσ3 H3 ⟨s',a1,a2,a3,a4⟩=>⟨l.length-(i+1),by omega,s',a1,a2,a3,rfl,fC,a4⟩,λv H3 y=>?_⟩;obtain⟨sm,vx⟩:=yl v H3 y;have q2:(f l[i] s).run λs'=>(bH (l.drop (i+1)) s' f).run λs'=>(k s').run λt=>bR K x σ fs H D (out t):=q2;rw[hf]at q2;have s3:=s2.same sm;have g3:=g2.trans (cZ.same sm s2);refine⟨s,_,s3,vx,(wt l[i]).mono (λt q4 us g4 s4=>?_) q2⟩;refine⟨s,t,s4,(wb t s).mono (λs' q5 σ5 H5 g5 s5=>?_) q4⟩;have fin:∃s',a8 K H5 σ5 (hd s')/\cZ σ fs H σ5 (hd s') H5/\JF K H5 J l/\(bH (l.drop (i+1)) s' f).run λs'=>(k s').run λt=>bR K x σ fs H D (out t):=⟨s',s5,(g3.trans g4).trans g5,Û.tk (bQ.trans sm.fM (bQ.trans (g4.fN s3) (g5.fN s4))),q5⟩;exact⟨λ_=>fin,fin⟩
 ·have e:i=l.length:=by omega
  subst e;rw[D6]at q2;exact .inl ⟨j2,hd s,k s,hr s,s2,(k s).mono (λt q3=>q3.go g2 sr s2) q2⟩
theorem SF.nX{f:PV->S->W (Lp S R)}{wb:T2->S->W (Lp S R)}(hp:xz (ev X.prog X.w) X.A X.env X.xe)(hc:X.calm=true)(hi:yO X K fs tg iter wl)(hl:jO fs (hd s0))(hg:∀s,GF X K (hd s) tg is wt (d9 s))(hf:∀p s,f p s=.bind (wt p) λt=>wb t s)
  (ho:∀t,(out (inj t)).Q0)
  (hb:∀s t,SF X K false (d9 s t) body (wb t s) (lpE hd λr=>out (inj r))) (hr:∀s,SF X K x (hd s) rest (k s) out) (hs:J6 X iter:=by intro _;rfl) :
  SF X K x fs (.For tg iter body [] pos::rest) (.bind wl λl=>.bind (FL.nX l s0 f) (J4 k inj)) out:=by
 refine SF.step (Np (g:=λv σ H Q=>∃s,fG K (hd s) is wt (d9 s) v σ H Q) (tb:=λD σ H=>∃s t,fS K false (d9 s t) (wb t s) (lpE hd λr=>out (inj r)) D σ H) hp hc hi.p (λZ s σ H v u Q I r ⟨s1,q⟩=>(hg s1).p Z s σ H v u Q I r q) (λZ s σ H D I ⟨s1,t1,q⟩=>(hb s1 t1).p Z s σ H D I q) hs) λD σ H ⟨sr,q⟩=>?_;refine⟨sr,wl.mono (λl q1 J H1 g1 s1 jf=>?_) q⟩;have lo:∀(D':Ends) (y:Bool) (t:R),D'.rt=D.rt->bR K x σ fs H D (out (inj t))->bR K y σ fs H D' (out (inj t)):=λD' y t e h=>bR.ait (ho t) e h;refine⟨λi m σ' H'=>∃s,a8 K H' σ' (hd s)/\cZ σ fs H σ' (hd s) H'/\JF K H' J l/\m=l.length-i/\i<=l.length/\(FL.nX (l.drop i) s f).run λo=>(J4 k inj o).run λt=>bR K x σ fs H D (out t),⟨l.length,s0,s1.le hl,g1.f.trans (cZ.le s1 hl),jf,by simp,A3 _,by simpa using q1⟩,?_⟩;rintro i m σ2 H2 ⟨s,s2,g2,Û,rfl,hi,q2⟩;obtain⟨j1,j2⟩:=Û.2 H2 (bQ.refl H2);by_cases fC:i < l.length
 ·obtain⟨go,yl⟩:=j1 i _ (Ad fC);have ed:=Bz fC;rw[ed]at q2;refine .inr ⟨go,λσ3 H3=>∃s',a8 K H3 σ3 (hd s')/\cZ σ fs H σ3 (hd s') H3/\JF K H3 J l/\(FL.nX (l.drop (i+1)) s' f).run λo=>(J4 k inj o).run λt=>bR K x σ fs H D (out t),λσ3 H3 ⟨s',a1,a2,a3,a4⟩=>⟨l.length-(i+1),by omega,s',a1,a2,a3,rfl,fC,a4⟩,λv H3 y=>?_⟩;obtain⟨sm,vx⟩:=yl v H3 y;have q2:(f l[i] s).run λo=>(match o with | .go s'=>FL.nX (l.drop (i+1)) s' f | .out t=>bd (.out t)).run λo=>(J4 k inj o).run λt=>bR K x σ fs H D (out t):=q2;rw[hf]at q2;have s3:=s2.same sm;have g3:=g2.trans (cZ.same sm s2);refine⟨s,_,s3,vx,(wt l[i]).mono (λt q4 us g4 s4=>?_) q2⟩;refine⟨s,t,s4,(wb t s).mono (λo q5=>?_) q4⟩;cases o with
  | out t5=>
   refine bR.go (g3.trans g4) sr s4 (lo _ false t5 ?_ q5);rfl
  | go s'=>
   intro σ5 H5 g5 s5;have fin:∃s',a8 K H5 σ5 (hd s')/\cZ σ fs H σ5 (hd s') H5/\JF K H5 J l/\(FL.nX (l.drop (i+1)) s' f).run λo=>(J4 k inj o).run λt=>bR K x σ fs H D (out t):=⟨s',s5,(g3.trans g4).trans g5,Û.tk (bQ.trans sm.fM (bQ.trans (g4.fN s3) (g5.fN s4))),q5⟩;exact⟨λ_=>fin,fin⟩
 ·have e:i=l.length:=by omega
  subst e;rw[D6]at q2;exact .inl ⟨j2,hd s,k s,hr s,s2,(k s).mono (λt q3=>q3.go g2 sr s2) q2⟩
def SF.acs{cw:S->W Bool}{b:S->W S}(hp:xz (ev X.prog X.w) X.A X.env X.xe)(hl:jO fs (hd s0))(hc:∀s,TF X K (hd s) c (cw s))(hb:∀s,SF X K false (hd s) body (b s) λs'=>.nc (hd s'))(hr:∀s,SF X K x (hd s) rest (k s) out) :
  SF X K x fs (.While c body [] pos::rest) (.bind (Hi cw b s0) k) out:=by
 refine SF.step (Ku (tc:=λσ H Q=>∃s,fT K (hd s) (cw s) σ H Q) (tb:=λD σ H=>∃s,fS K false (hd s) (b s) (λs'=>.nc (hd s')) D σ H) hp (λZ s σ H Q I ⟨s1,q⟩=>(hc s1).p Z s σ H Q I q) (λZ s σ H D I ⟨s1,q⟩=>(hb s1).p Z s σ H D I q)) λD σ H ⟨sr,n,q⟩=>?_;refine⟨λm σ' H'=>∃s,a8 K H' σ' (hd s)/\cZ σ fs H σ' (hd s) H'/\(qk cw b m s).run λs'=>(k s').run λt=>bR K x σ fs H D (out t),⟨n,s0,sr.le hl,cZ.le sr hl,q⟩,?_⟩;rintro m σ1 H1 ⟨s,s1,g1,q1⟩;cases m with
 | zero=>exact q1.elim
 | succ m=>
  refine⟨s,s1,(cw s).mono (λkk q2 H2 g2 s2=>?_) q1⟩;cases kk with
  | false=>
   refine zE ?_;exact⟨hd s,k s,hr s,s2,(k s).mono (λt q3=>q3.go (g1.trans g2.f) sr s2) q2⟩
  | true=>
   refine zD ?_;refine⟨λσ3 H3=>∃s,a8 K H3 σ3 (hd s)/\cZ σ fs H σ3 (hd s) H3/\(qk cw b m s).run λs'=>(k s').run λt=>bR K x σ fs H D (out t),λσ3 H3 a=>⟨m,D3 m,a⟩,s,s2,(b s).mono (λs' q5 σ5 H5 g5 s5=>?_) q2⟩;have fin:∃s,a8 K H5 σ5 (hd s)/\cZ σ fs H σ5 (hd s) H5/\(qk cw b m s).run λs'=>(k s').run λt=>bR K x σ fs H D (out t):=⟨s',s5,(g1.trans g2.f).trans g5,q5⟩;exact⟨λ_=>fin,fin⟩
def SF.wK{cw:S->W Bool}{b:S->W (Lp S R)}(hp:xz (ev X.prog X.w) X.A X.env X.xe)(hl:jO fs (hd s0))(hc:∀s,TF X K (hd s) c (cw s))(ho:∀t,(out (inj t)).Q0)
  (hb:∀s,SF X K false (hd s) body (b s) (lpE hd λr=>out (inj r))) (hr:∀s,SF X K x (hd s) rest (k s) out) :
  SF X K x fs (.While c body [] pos::rest) (.bind (FL.wK cw b s0) (J4 k inj)) out:=by
 refine SF.step (Ku (tc:=λσ H Q=>∃s,fT K (hd s) (cw s) σ H Q) (tb:=λD σ H=>∃s,fS K false (hd s) (b s) (lpE hd λr=>out (inj r)) D σ H) hp (λZ s σ H Q I ⟨s1,q⟩=>(hc s1).p Z s σ H Q I q) (λZ s σ H D I ⟨s1,q⟩=>(hb s1).p Z s σ H D I q)) λD σ H ⟨sr,n,q⟩=>?_;have lo:∀(D':Ends) (y:Bool) (t:R),D'.rt=D.rt->bR K x σ fs H D (out (inj t))->bR K y σ fs H D' (out (inj t)):=λD' y t e h=>bR.ait (ho t) e h;refine⟨λm σ' H'=>∃s,a8 K H' σ' (hd s)/\cZ σ fs H σ' (hd s) H'/\(lF cw b m s).run λo=>(J4 k inj o).run λt=>bR K x σ fs H D (out t),⟨n,s0,sr.le hl,cZ.le sr hl,q⟩,?_⟩;rintro m σ1 H1 ⟨s,s1,g1,q1⟩;cases m with
 | zero=>exact q1.elim
 | succ m=>
  refine⟨s,s1,(cw s).mono (λkk q2 H2 g2 s2=>?_) q1⟩;cases kk with
  | false=>
   refine zE ?_;exact⟨hd s,k s,hr s,s2,(k s).mono (λt q3=>q3.go (g1.trans g2.f) sr s2) q2⟩
  | true=>
   refine zD ?_;refine⟨λσ3 H3=>∃s,a8 K H3 σ3 (hd s)/\cZ σ fs H σ3 (hd s) H3/\(lF cw b m s).run λo=>(J4 k inj o).run λt=>bR K x σ fs H D (out t),λσ3 H3 a=>⟨m,D3 m,a⟩,s,s2,(b s).mono (λo q5=>?_) q2⟩;cases o with
   | out t5=>
    refine bR.go (g1.trans g2.f) sr s2 (lo _ false t5 ?_ q5);rfl
   | go s'=>
    intro σ5 H5 g5 s5;have fin:∃s,a8 K H5 σ5 (hd s)/\cZ σ fs H σ5 (hd s) H5/\(lF cw b m s).run λo=>(J4 k inj o).run λt=>bR K x σ fs H D (out t):=⟨s',s5,(g1.trans g2.f).trans g5,q5⟩;exact⟨λ_=>fin,fin⟩
end
end
end FL
variable{f:PL.PV->FL.W (Option PL.PV)}{qV:FL.bD}
namespace FL
section
variable{K:Ab}
def pN:O PV->(PV->W (Option PV))->W (O PV)
 | [],_=>.ret []
 | x::r,f=>.bind (f x) λo=>.bind (pN r f) λl=>.ret (o.toList++l)
def a7:O PV->(PV->W PV)->W (O PV)
 | [],_=>.ret []
 | x::r,f=>.bind (f x) λy=>.bind (a7 r f) λl=>.ret (y::l)
theorem HY(f:PV->W PV):∀l,a7 l f=pN l λp=>.bind (f p) λv=>.ret (ap v)
 | []=>rfl
 | x::r=>by
  show am (f x) (λy=>am (a7 r f) λl=>bd (y::l))=am (f x) λy=>am (pN r _) λl=>bd (y::l);rw[HY f r]
def df(ix:O (Option Nat))(fs:bD):bD:=ix.map λo=>match o with | some j=>(fs[j]?).getD bm | none=>bm
section
def sY{s:SL}(h:(df ix fs)[i]?=ap (ap s)):∃j,ix[i]?=ap (ap j)/\fs[j]?=ap (ap s):=by
 unfold df at h;rw[Aj]at h;cases q:ix[i]? with
 | none=>rw[q]at h;cases h
 | some o=>
  rw[q]at h;cases o with
  | none=>cases h
  | some j=>
   refine⟨j,rfl,?_⟩;have h:(fs[j]?).getD bm=ap s:=Option.some.inj h;cases z:fs[j]? with
   | none=>rw[z]at h;cases h
   | some y=>rw[z]at h;exact congrArg ap h
def pG(h:ix[i]?=ap (ap j))(e:σ[j]?=ap (ap u)):(sX ix σ)[i]?=ap (ap u):=by
 unfold sX;rw[Aj,h];show ap ((σ[j]?).getD bm)=_;rw[e];rfl
def a8.kl(s:a8 K H σ fs)(inj:∀i i' j:Nat,ix[i]?=ap (ap j)->ix[i']?=ap (ap j)->i=i'):a8 K H (sX ix σ) (df ix fs):=by
 refine⟨by unfold sX df;simp,λi t e=>?_,λi i' t u x y a e1 e2 o1 o2 q1 q2 z1 z2=>?_⟩
 ·obtain⟨j,h1,h2⟩:=sY e;obtain⟨u,h3,h4⟩:=s.at' j t h2;exact⟨u,pG h1 h3,h4⟩
 ·obtain⟨j,h1,h2⟩:=sY e1;obtain⟨j',iH,wq⟩:=sY e2;obtain⟨u1,h3,_⟩:=s.at' j t h2;obtain⟨u2,XM,_⟩:=s.at' j' u wq;rw[pG h1 h3]at q1;rw[pG iH XM]at q2;cases q1;cases q2;have:=s.nd j j' t u x y a h2 wq o1 o2 h3 XM z1 z2;subst this;exact inj i i' j h1 iH
structure Inn(ix:List (Option Nat))(σ:L2.St)(fs:bD)(σ':L2.St)(cf:bD):Prop where
 own:∀(i:Nat) (t:SL),cf[i]?=ap (ap t)->t.own=true->∃j,ix[i]?=ap (ap j)/\fs[j]?=ap (ap t)/\σ'[i]?=σ[j]?
def Inn.HQ(h:Inn ix σ fs σ' cf)(o:ff σ' cf a):ff σ fs a:=by
 obtain⟨i,t,x,e1,e2,e3,e4⟩:=o;obtain⟨j,h1,h2,h3⟩:=h.own i t e1 e2;exact⟨j,t,x,h2,e2,h3▸e3,e4⟩
def Inn.ng(h:Inn ix σ fs σ' cf)(o:km σ' cf φ a):km σ fs φ a:=by
 obtain⟨i,e1,e3⟩:=o;obtain⟨j,h1,h2,h3⟩:=h.own i _ e1 rfl;exact⟨j,h2,h3▸e3⟩
def Inn.out(h:Inn ix σ fs σ' cf)(s:a8 K H1 σ fs)(g:dQ σ' cf H1 H2)(s2:a8 K H2 σ' cf):a8 K H2 σ fs/\dQ σ fs H1 H2:=by
 have gf:dQ σ fs H1 H2:=⟨λa o e n=>g.keep a o e λφ z=>n φ (h.ng z),g.there⟩;refine⟨⟨s.len,λj t e=>?_,s.nd⟩,gf⟩;obtain⟨u,h1,h2⟩:=s.at' j t e;refine⟨u,h1,?_⟩;have tk:=gf.fN s;rcases h2 with⟨v,q,r⟩ | ⟨a,q,r⟩
 ·exact .inl ⟨v,q,VR.tk tk r⟩
 ·subst q;refine .inr ⟨a,rfl,?_⟩;by_cases c:∃b,t.own=true/\t.has a b/\ff σ' cf b
  ·obtain⟨b,ow,hb,i,t',x,c1,c2,c3,c4⟩:=c;obtain⟨j',k1,k2,k3⟩:=h.own i t' c1 c2;have jj:=s.nd j j' t t' a x b e k2 ow c2 h1 (k3▸c3) hb c4;subst jj;rw[e]at k2;cases k2;exact s2.ownAt c1 c2 (k3.trans h1)
  ·exact r.mono tk (λb o ow hb z=>g.GK z λy=>c ⟨b,ow,hb,y⟩)
theorem wY:∀{is:O Nat}{us:O V}{σ:L2.St}{i:Nat},i∉is->(wZ is us σ)[i]?=σ[i]?
 | [],us,σ,i,_=>by cases us <;> rfl
 | j::is,[],σ,i,_=>rfl
 | j::is,u::us,σ,i,h=>by
  rw[wZ,wY (λz=>h (A6 _ z))];exact aY (λz=>h (by rw[z];exact BL))
end
section
variable{T2:Type}{wt:PV->W T2}{d9:T2->bD}{tf:T2->W Bool}{te:T2->W PV}
structure FF(X:Cx)(K:Ab)(fs:bD)(Ì:List lc)(w:W Bool):Prop where p:PFs X Ì (fT K fs w)
def X1:FF X K fs [] (.ret true):=⟨λZ s σ H Q I ⟨sr,q⟩=>Z7 Z s σ H Q I (q H .refl sr)⟩
def OM{c:lc}{w:W Bool}(h:TF X K fs c w):FF X K fs [c] w:=⟨Z6 h.p⟩
def zZ(is:O Nat)(qV:bD)(d9:T2->bD):Prop:=∀t,(d9 t).length=qV.length/\∀(i:Nat) (s:SL),(d9 t)[i]?=ap (ap s)->(i∈is/\s.own=false)\/(i∉is/\qV[i]?=ap (ap s))
theorem adg(S:cF X.env.scope X.N sc N' ix)(hb:qV=df ix fs)(hf:∀p,f p=.bind (wt p) λt=>.bind (tf t) λk=>if k=true then .bind (te t) λv=>.ret (ap v) else .ret bm)(hl:zZ is qV d9)(hr:∀t,jO (d9 t) qV)(LC:∀j∈is,ix[j]?=ap bm) :
  ∀σ H Q,fL K fs (.bind wl λl=>pN l f) σ H Q->tLc ix (fIt K fs wl) (λv σ H Q=>fG K qV is wt d9 v σ H Q) (λσ H Q=>∃t,fT K (d9 t) (tf t) σ H Q) (λσ H Q=>∃t,fE K (d9 t) (te t) σ H Q) σ H Q:=by
 subst hb;rintro σ H Q ⟨sr,q⟩;refine⟨sr,wl.mono (λl q1 J H1 g1 s1 jf D hD=>?_) q⟩;have inj:∀i i' j:Nat,ix[i]?=ap (ap j)->ix[i']?=ap (ap j)->i=i':=λi i' j h1 h2=>by
  have hi:i < N'.length:=by rw[<- S.len];exact(Al.mp h1).1
  have Tf:i' < N'.length:=by rw[<- S.len];exact(Al.mp h2).1
  have e1:=(S.at h1 (Ad hi)).1;have e2:=(S.at h2 (Ad Tf)).1;rw[e1]at e2;exact(List.getElem_inj S.nd).mp (Option.some.inj e2)
 have nD:=s1.noOwn hD;refine⟨λi m σ' ys H'=>∃Ã,a8 K H' σ fs/\dQ σ fs H H'/\a8 K H' σ' (df ix fs)/\Inn ix σ fs σ' (df ix fs)/\JF K H' J l/\H' D=ap (.lst ys)/\aO K [] H' ys Ã/\Ã.length<=i/\m=l.length-i/\i<=l.length/\
  (pN (l.drop i) f).run λr=>∀a vs H',dQ σ fs H H'->a8 K H' σ fs->H a=bm->H' a=ap (.lst vs)->aO K [] H' vs (Ã++r)->Q (.ref a) H',⟨l.length,[],?_⟩,?_⟩
 ·have sm:=kW hD (.lst []);refine⟨s1.same sm,g1.trans (dQ.same sm),(s1.same sm).kl inj,⟨λi t e o=>?_⟩,jf.tk sm.fM,aW,.nil,A3 _,by simp,A3 _,by simpa using q1⟩;obtain⟨j,h1,h2⟩:=sY e;obtain⟨u,h3,_⟩:=s1.at' j t h2;exact⟨j,h1,h2,by rw[pG h1 h3,h3]⟩
 rintro i m σ2 ys H2 ⟨Ã,sO,gO,s2,inn,Û,hy,vy,ajx,rfl,hi,q2⟩;refine⟨hy,?_⟩;obtain⟨j1,j2⟩:=Û.2 H2 (bQ.refl H2);by_cases fC:i < l.length
 ·obtain⟨go,yl⟩:=j1 i _ (Ad fC);have ed:=Bz fC;rw[ed]at q2;refine .inr ⟨go,λv H3 y=>?_⟩;obtain⟨sm,vx⟩:=yl v H3 y;have q2:(f l[i]).run λo=>(pN (l.drop (i+1)) f).run λr=>∀a vs H',dQ σ fs H H'->a8 K H' σ fs->H a=bm->H' a=ap (.lst vs)->aO K [] H' vs (Ã++(o.toList++r))->Q (.ref a) H':=q2;rw[hf]at q2;have s3:=s2.same sm;have sO3:=sO.same sm;have gO3:=gO.trans (dQ.same sm);have hy3:=sm _ _ hy;have vy3:=aO.tk sm.fM vy;have jf3:=Û.tk sm.fM;refine⟨_,s3,vx,(wt l[i]).mono (λt q4 us g4 s4=>?_) q2⟩;have ŏ:Inn ix σ fs (wZ is us σ2) (d9 t):=⟨λj u e o=>by
   rcases (hl t).2 j u e with⟨_,z⟩ | ⟨n,z⟩
   ·rw[z]at o;cases o
   ·obtain⟨j',k1,k2,k3⟩:=inn.own j u z o;exact⟨j',k1,k2,by rw[wY n];exact k3⟩⟩
  refine⟨t,s4,(tf t).mono (λkk q5 H5 g5 s5=>?_) q4⟩;obtain⟨sO5,an6⟩:=ŏ.out sO3 g5 s5;have gO5:=gO3.trans an6;have tk5:=g5.fN s4;have nD4:¬ff (wZ is us σ2) (d9 t) D:=λz=>nD (ŏ.HQ z);have hy5:=g5.GK hy3 nD4;have vy5:=aO.tk tk5 vy3;have jf5:=jf3.tk (g5.fN s4);have É:∀{H6:Hp},a8 K H6 (wZ is us σ2) (d9 t)->a8 K H6 (wZ is us σ2) (df ix fs)/\Inn ix σ fs (wZ is us σ2) (df ix fs):=λ{H6} z=>⟨z.le (hr t),⟨λj u e o=>ŏ.own j u ((hr t).at j u e) o⟩⟩;cases kk with
  | false=>
   refine zE ⟨l.length-(i+1),by omega,Ã,sO5,gO5,(É s5).1,(É s5).2,jf5,hy5,vy5,by omega,rfl,fC,?_⟩;exact q5
  | true=>
   refine zD ⟨t,s5,(te t).mono (λv6 q6 u6 H6 g6 s6 v6'=>?_) q5⟩;obtain⟨sO6,an5⟩:=ŏ.out sO5 g6 s6;have gO6:=gO5.trans an5;have tk6:=g6.fN s5;have ģ:=g6.GK hy5 nD4;have vy6:=aO.tk tk6 vy5;have tkD:=vS (K:=K) (.lst (ys++[u6])) ģ;have hD0:=g1.there D hD;refine⟨ģ,by rw[vy6.length];have:=Û.1;omega,l.length-(i+1),by omega,Ã++[v6],sO6.side nD ģ _,gO6.side hD0 _,((É s6).1).side (λz=>nD ((É s6).2.HQ z)) ģ _,(É s6).2,(jf5.tk (g6.fN s5)).tk (vS _ ģ),aW,aO.tk tkD (vy6.append (.cons v6' .nil)),by rw[Ah];simp;omega,rfl,fC,?_⟩;refine(pN (l.drop (i+1)) f).mono (λr q7 a vs H7 g7 s7 n e v7=>q7 a vs H7 g7 s7 n e ?_) q6;simpa using v7
 ·have e:i=l.length:=by omega
  subst e;rw[D6]at q2;exact .inl ⟨j2,q2 D ys H2 gO sO (g1.there D hD) hy (by simpa using vy)⟩
end
end
end FL
namespace L2
def vB(l:ci)(items:Array ce)(n:Nat)(b:ci)(cH:Array ce)(n2:Nat)(sl:Array (Option ce))(ì:¬(!items.isEmpty&&Builtin.List.listTooLong (items.size+cH.size))=true)(hc1:items.size<=sizeLine)(sC:items.size+cH.size<=sizeLine+1) :
  Meets (wP.«list.extend» ⟨[.ref l,.ref b],[]⟩) (λ_ R s=>s.heap.get? l=ap {cls:=.type "list",dict:=bm,data:=.seq items n,slots:=#[]}/\s.heap.get? b=ap {cls:=.type "list",dict:=bm,data:=.seq cH n2,slots:=sl}/\R (.ok (.ret AU)) {s with heap:=s.heap.update l (BC λx=>x++cH),toks:=s.toks}):=
 .of_wp λprog w A R s h=>by
  obtain⟨hp,g,d,tk,os⟩:=s;obtain⟨hl,hb,h⟩:=h;have f1:=Fh;have f2:=D1;have f3:=Ei;have f4:=Eb;have f5:=Ec;have Tb:(items++cH).size<=sizeLine+1:=by rw[Array.size_append];exact sC
  wp_walk using (C4 hl rfl (hz:=hc1) (_hz':=Tb)),Cn hl,Cn hb;exact⟨_,rfl,h⟩
def aif(K:Ab):V->O V->Hp->VK->Prop:=λx vs H Q=>∃l b xs zs,x=.ref l/\vs=[.ref b]/\H l=ap (.lst xs)/\(eN K H b zs\/eW K H b zs)/\xs.length+zs.length<=sizeLine/\Kb H l (.lst (xs++zs)) (Q .aL)
theorem aaG(K:Ab)(hK:X.K=K):MR X "list.extend" (aif K):=by
 subst hK;intro Z s σ H x vs v us Q I rx rv h;obtain⟨l,b,xs,zs,rfl,rfl,hH,hB | hB,hz,q⟩:=h
 ·cases rx;obtain⟨u,rfl,ru⟩:=rv.one;cases ru;obtain⟨z,aw,n,r,hl,e⟩:=I.vq hH;obtain⟨d4,r2,⟨⟨cls,dd,data,sl⟩,n2,e2,hc,hd,lj⟩,z2⟩:=I.list hB;simp only at hc hd lj;subst hc hd lj;have UQ:=r2.length;have hsz:aw.toArray.size+d4.toArray.size<=sizeLine:=by rw[Ak,Ak];omega
  have xR:¬(!aw.toArray.isEmpty&&Builtin.List.listTooLong (aw.toArray.size+d4.toArray.size))=true:=by
   rw[rK hsz,ES];exact AY
  refine sK EC ⟨_,e,rfl⟩ Eo (Ea _ _)
   (vB l aw.toArray n b d4.toArray n2 sl xR (by rw[Ak];omega) ∅) ⟨e,e2,?_⟩
  refine⟨.aL,_,I.NP (its':=aw++d4) hH e (by simp) (r.append r2) ?_,rfl,q.at⟩;rw[Ah];omega
 ·exact KU Z s σ H _ _ v us Q I rx rv ⟨l,b,xs,zs,rfl,rfl,hH,hB,hz,q⟩
end L2
variable{y z:Cu}{wi we:FL.W PL.PV}{ei:B8}
namespace FL
section
variable{K:Ab}
section
variable{T2:Type}{wt:PV->W T2}{d9:T2->bD}{tf:T2->W Bool}{te:T2->W PV}
def afe(hc:X.calm=true)(S:cF X.env.scope X.N sc N' ix)(hi:yO X K fs tg iter wl)(hg:∀cl C s2 H2 fp,GF (kl X sc N' cl C s2 H2 fp) K (df ix fs) tg is wt d9)(ů:∀cl C s2 H2 fp t,FF (kl X sc N' cl C s2 H2 fp) K (d9 t) Ì (tf t))(he:∀cl C s2 H2 fp t,EF (kl X sc N' cl C s2 H2 fp) K (d9 t) Æ (te t))
  (hf:∀p,f p=.bind (wt p) λt=>.bind (tf t) λk=>if k=true then .bind (te t) λv=>.ret (ap v) else .ret bm) (hl:zZ is (df ix fs) d9/\∀t,jO (d9 t) (df ix fs)) (LC:∀j∈is,ix[j]?=ap bm) (hs:J6 X iter:=by intro _;rfl) :
  LF X K fs (.ListComp Æ [⟨tg,iter,Ì,0⟩] sc pos) (.bind wl λl=>pN l f):=
 ⟨PE.imp (aip hc S hi.p (λcl C s2 H2 fp=>(hg cl C s2 H2 fp).p) (λcl C s2 H2 fp Z s σ H Q I ⟨t,q⟩=>(ů cl C s2 H2 fp t).p Z s σ H Q I q) (λcl C s2 H2 fp Z s σ H Q I ⟨t,q⟩=>(he cl C s2 H2 fp t).p Z s σ H Q I q) hs) (adg S rfl hf hl.1 hl.2 LC)⟩
def acR{f:PV->W PV}(hc:X.calm=true)(S:cF X.env.scope X.N sc N' ix)(hi:yO X K fs tg iter wl)(hg:∀cl C s2 H2 fp,GF (kl X sc N' cl C s2 H2 fp) K (df ix fs) tg is wt d9)(he:∀cl C s2 H2 fp t,EF (kl X sc N' cl C s2 H2 fp) K (d9 t) Æ (te t))
  (hf:∀p,f p=.bind (wt p) te) (hl:zZ is (df ix fs) d9/\∀t,jO (d9 t) (df ix fs)) (LC:∀j∈is,ix[j]?=ap bm) (hs:J6 X iter:=by intro _;rfl) :
  LF X K fs (.ListComp Æ [⟨tg,iter,[],0⟩] sc pos) (.bind wl λl=>a7 l f):=by
 have:(λl=>a7 l f)=λl=>pN l λp=>.bind (wt p) λt=>.bind (.ret true) λk=>if k=true then .bind (te t) λv=>.ret (ap v) else .ret bm:=funext λl=>by
  rw[HY];congr 1;funext p;rw[hf];rfl
 rw[this];exact afe (tf:=λ_=>.ret true) hc S hi hg (λ_ _ _ _ _ _=>X1) he (λp=>rfl) hl LC hs
def SF.acy{rest:O u8}{out:T->End}{k:O PV->W T}(hc:X.calm=true)(hN:X.N.Nodup)(Tf:X.N[i]?=ap y)(hx:X.env.scope.names.lookup y=ap .local)(S:cF X.env.scope X.N sc N' ix)(hi:yO X K fs tg iter wl)(hg:∀cl C s2 H2 fp,GF (kl X sc N' cl C s2 H2 fp) K (df ix fs) tg is wt d9)(ů:∀cl C s2 H2 fp t,FF (kl X sc N' cl C s2 H2 fp) K (d9 t) Ì (tf t))(he:∀cl C s2 H2 fp t,EF (kl X sc N' cl C s2 H2 fp) K (d9 t) Æ (te t))
  (hf:∀p,f p=.bind (wt p) λt=>.bind (tf t) λk=>if k=true then .bind (te t) λv=>.ret (ap v) else .ret bm) (hl:zZ is (df ix fs) d9/\∀t,jO (d9 t) (df ix fs)) (LC:∀j∈is,ix[j]?=ap bm) (hr:∀l,SF X K x (fs.set i (ap (.ol bm l))) rest (k l) out)
  (xQ:‹pc (.ListComp Æ [⟨tg,iter,Ì,0⟩] sc pos) (ap (.Name y px)) y9.line X.env=pure true›) (hs:J6 X iter:=by intro _;rfl) :
  SF X K x fs (.Assign [.Name y px] (.ListComp Æ [⟨tg,iter,Ì,0⟩] sc pos) y9::rest) (.bind (.bind wl λl=>pN l f) k) out:=
 SF.step (Wb hc hN Tf hx S hi.p (λcl C s2 H2 fp=>(hg cl C s2 H2 fp).p) (λcl C s2 H2 fp Z s σ H Q I ⟨t,q⟩=>(ů cl C s2 H2 fp t).p Z s σ H Q I q) (λcl C s2 H2 fp Z s σ H Q I ⟨t,q⟩=>(he cl C s2 H2 fp t).p Z s σ H Q I q) xQ hs) λD σ H ⟨sr,q⟩=>
  adg (K:=K) S rfl hf hl.1 hl.2 LC σ H _ ⟨sr,(am wl λl=>pN l f).mono (λl q1 a ws H1 g1 s1 n e v1=>by
   have no:=sr.noOwn n;have s2:=s1.HG (t:=.ol bm l) ⟨by simp,ws,e,v1⟩ no i;exact⟨_,k l,hr l,s2,(k l).mono (λt q2=>q2.go (cZ.HG s1 g1.f no n i) sr s2) q1⟩) q⟩
theorem Ii:∀{l:bD}{i:Nat} (s:Option SL),l[i]?=ap bm->jO (l.set i s) l
 | [],_,_,h=>by simp at h
 | x::l,0,s,h=>by
  simp at h;subst h;exact .drop (jO.refl l)
 | x::l,i+1,s,h=>by
  rw[List.set_cons_succ];exact .keep (Ii s (by simpa using h))
def jO.trans{a b c:bD}(h1:jO a b)(h2:jO b c):jO a c:=by
 induction h1 generalizing c with
 | nil=>exact h2
 | drop h ih=>cases h2 with | drop h2=>exact .drop (ih h2) | keep h2=>exact .drop (ih h2)
 | keep h ih=>cases h2 with | drop h2=>exact .drop (ih h2) | keep h2=>exact .keep (ih h2)
def xC{l:bD}{is:O Nat}(hl:l.length=qV.length/\∀(j:Nat) (s:SL),l[j]?=ap (ap s)->(j∈is/\s.own=false)\/(j∉is/\qV[j]?=ap (ap s)))(hi:qV[i]?=ap bm) :
  (l.set i (ap (.val v))).length=qV.length/\∀(j:Nat) (s:SL),(l.set i (ap (.val v)))[j]?=ap (ap s)->(j∈is++[i]/\s.own=false)\/(j∉is++[i]/\qV[j]?=ap (ap s)):=by
 refine⟨by rw[B3];exact hl.1,λj s e=>?_⟩;rcases dM e with⟨rfl,rfl⟩ | ⟨n,e⟩
 ·exact .inl ⟨by simp,rfl⟩
 ·rcases hl.2 j s e with⟨h1,h2⟩ | ⟨h1,h2⟩
  ·exact .inl ⟨by simp[h1],h2⟩
  ·exact .inr ⟨by simp[h1,n],h2⟩
def acP(qV:bD):qV.length=qV.length/\∀(j:Nat) (s:SL),qV[j]?=ap (ap s)->(j∈([]:O Nat)/\s.own=false)\/(j∉([]:O Nat)/\qV[j]?=ap (ap s)):=⟨rfl,λj s e=>.inr ⟨by simp,e⟩⟩
def afb(hi:qV[i]?=ap bm):zZ [i] qV (λp=>qV.set i (ap (.val p)))/\∀t,jO (qV.set i (ap (.val t))) qV:=⟨λt=>xC (is:=[]) (acP qV) hi,λt=>Ii _ hi⟩
def VN{l:bD}{s:Option SL}(h:l[j]?=ap bm)(n:j≠i):(l.set i s)[j]?=ap bm:=by rw[aY n];exact h
def Lc(hi:qV[i]?=ap bm)(hj:qV[j]?=ap bm)(n:j≠i):zZ [i,j] qV (λt:PV×PV=>(qV.set i (ap (.val t.1))).set j (ap (.val t.2)))/\∀t:PV×PV,jO ((qV.set i (ap (.val t.1))).set j (ap (.val t.2))) qV:=
 ⟨λt=>xC (is:=[i]) (xC (is:=[]) (acP qV) hi) hj,λt=>(Ii _ (VN hj n)).trans (Ii _ hi)⟩
end
section
variable{rest:O u8}{T:Type}{out:T->End}
def eO(sr:a8 K H σ fs)(hs:fs[i]?=ap (ap (.ol q0 l))):∃a ws,σ[i]?=ap (ap (.ref a))/\H a=ap (.lst ws)/\aO K [] H ws l:=by
 obtain⟨u,e1,r⟩:=sr.at' i _ hs;rcases r with⟨v,e,_⟩ | ⟨a,e,z,ws,q1,q2⟩
 ·cases e
 ·subst e;exact⟨a,ws,e1,q1,q2⟩
def rF{wI:O V}{l':O PV}(sr:a8 K H σ fs)(hs:fs[i]?=ap (ap (.ol q0 l)))(e1:σ[i]?=ap (ap (.ref a)))(sx:qj a H H')(h':H' a=ap (.lst wI))(r:aO K [] H wI l'):a8 K H' σ (fs.set i (ap (.ol q0 l')))/\cZ σ fs H σ (fs.set i (ap (.ol q0 l'))) H':=
 fo (t':=.ol q0 l') sr hs rfl (by simp) e1 sx λtk=>⟨(sr.ownAt hs rfl e1).1,wI,h',aO.tk tk r⟩
def eV(l:O PV)(v:PV):W (O PV):=.fK (l.length < sizeLine) (.ret (l++[v]))
theorem SF.append(i:Nat){k:O PV->W T}(hs:fs[i]?=ap (ap (.ol q0 l)))(hK:X.K=K)(hN:X.N[i]?=ap y)(hv:yT X.env.scope y)(he:EF X K fs e we)(hr:∀l',SF X K x (fs.set i (ap (.ol q0 l'))) rest (k l') out)
  (hd: ~~~(jN y)) (iG: ~~~(zY y)) (da:‹o0 (.Name y p) "append" X.env (lw (.Name y p) X.env)=lw (.Name y p) X.env›)
  (nU:‹HWa X bC [e]›)
  (c9:‹RG Á bC›) (pj:‹iq X e []›) (d5:‹m6 X bC []›)
  (xQ:‹pc (.Call (.Attribute (.Name y p) "append" Á) [e] [] bC) bm pos.line X.env=pure false›) :
  SF X K x fs (.Expr (.Call (.Attribute (.Name y p) "append" Á) [e] [] bC) pos::rest) (.bind we λv=>.bind (eV l v) k) out:=
 SF.step (vW (qr K hK BI PySem.F.slot_list_append PySem.F.type_list_append NH (dI hN hv hd iG) (a9 he.p cv pj) da nU c9 pj d5) xQ) λD σ H ⟨sr,q⟩=>by
  obtain⟨a,ws,e1,h1,r1⟩:=eO sr hs;refine⟨_,e1,.inl ⟨rfl,_,eN.of h1⟩,sr,we.mono (λv q1 u H1 g1 s1 v1=>?_) q⟩;obtain⟨a',wI,tE,iH,vj⟩:=eO s1 hs;rw[e1]at tE;cases tE;refine⟨a,wI,u,rfl,rfl,iH,by rw[vj.length];exact q1.1,λH2 sx h2=>?_⟩;obtain⟨s2,g2⟩:=rF s1 hs e1 sx h2 (vj.append (.one v1));exact⟨_,k _,hr _,s2,(k _).mono (λt q2=>q2.go (g1.f.trans g2) sr s2) q1.2⟩
def yd(l m:O PV):W (O PV):=.fK (l.length+m.length<=sizeLine) (.ret (l++m))
theorem SF.extend(i:Nat){k:O PV->W T}(hs:fs[i]?=ap (ap (.ol q0 l)))(hK:X.K=K)(hN:X.N[i]?=ap y)(hv:yT X.env.scope y)(he:QF X K fs e wl)(hr:∀l',SF X K x (fs.set i (ap (.ol q0 l'))) rest (k l') out)
  (hd: ~~~(jN y)) (iG: ~~~(zY y)) (da:‹o0 (.Name y p) "extend" X.env (lw (.Name y p) X.env)=lw (.Name y p) X.env›)
  (nU:‹HWa X bC [e]›)
  (c9:‹RG Á bC›) (pj:‹iq X e []›) (d5:‹m6 X bC []›)
  (xQ:‹pc (.Call (.Attribute (.Name y p) "extend" Á) [e] [] bC) bm pos.line X.env=pure false›) :
  SF X K x fs (.Expr (.Call (.Attribute (.Name y p) "extend" Á) [e] [] bC) pos::rest) (.bind wl λm=>.bind (yd l m) k) out:=
 SF.step (vW (qr K hK BI PySem.F.slot_list_extend PySem.F.type_list_extend (aaG K hK) (dI hN hv hd iG) (a9 he.p cv pj) da nU c9 pj d5) xQ) λD σ H ⟨sr,q⟩=>by
  obtain⟨a,ws,e1,h1,r1⟩:=eO sr hs;refine⟨_,e1,.inl ⟨rfl,_,eN.of h1⟩,sr,wl.mono (λm q1 u H1 g1 s1 v1=>?_) q⟩;obtain⟨a',wI,tE,iH,vj⟩:=eO s1 hs;rw[e1]at tE;cases tE;obtain⟨b,zs,rfl,hb,rb⟩:=v1.sq s1;refine⟨a,b,wI,zs,rfl,rfl,iH,hb,by rw[vj.length,rb.length];exact q1.1,λH2 sx h2=>?_⟩;obtain⟨s2,g2⟩:=rF s1 hs e1 sx h2 (vj.append rb);exact⟨_,k _,hr _,s2,(k _).mono (λt q2=>q2.go (g1.f.trans g2) sr s2) q1.2⟩
def zb(l:O PV):W (O PV×PV):=match l.getLast? with
 | some v=>.ret (l.dropLast,v)
 | none=>.fail
def VH{l:O PV}(h:l.getLast?=ap v):l=l.dropLast++[v]:=by
 rw[List.getLast?_eq_some_iff]at h;obtain⟨ys,rfl⟩:=h;simp
theorem aO.snoc:∀{ws:O V}{l:O PV}{v:PV},aO K [] H ws (l++[v])->∃Ą u,ws=Ą++[u]/\aO K [] H Ą l/\VR K [] H u v
 | _,[],_,.cons r .nil=>⟨[],_,rfl,.nil,r⟩
 | _,x::l,v,.cons r t=>by
  obtain⟨Ą,u,rfl,h1,h2⟩:=aO.snoc t;exact⟨_::Ą,u,rfl,.cons r h1,h2⟩
def SF.xa(i j:Nat){k:O PV×PV->W T}(hs:fs[i]?=ap (ap (.ol q0 l)))(ħ:j≠i)(hK:X.K=K)(hN:X.N[i]?=ap y)(hv:yT X.env.scope y)(ŵ:X.N.Nodup)(hj:X.N[j]?=ap z)(hx:Loc X.env.scope z)(hr:∀t:O PV×PV,SF X K x ((fs.set i (ap (.ol q0 t.1))).set j (ap (.val t.2))) rest (k t) out)
  (hd: ~~~(jN y)) (iG: ~~~(zY y)) (da:‹o0 (.Name y p) "pop" X.env (lw (.Name y p) X.env)=lw (.Name y p) X.env›) (c9:‹RG Á bC›)
  (xQ:‹pc (.Call (.Attribute (.Name y p) "pop" Á) [] [] bC) (ap (.Name z p')) pos.line X.env=pure false›) (hf:UG X z:=by first | exact .inl rfl | exact .inr rfl | assumption) :
  SF X K x fs (.Assign [.Name z p'] (.Call (.Attribute (.Name y p) "pop" Á) [] [] bC) pos::rest) (.bind (zb l) k) out:=
 SF.step (tN ŵ hj hx (aad K hK BI FD FC aaD (dI hN hv hd iG) da c9) xQ hf) λD σ H ⟨sr,q⟩=>by
  obtain⟨a,ws,e1,h1,r1⟩:=eO sr hs;have q:(zb l).run λt=>(k t).run λt=>bR K x σ fs H D (out t):=q;unfold zb at q;cases hl:l.getLast? with
  | none=>rw[hl]at q;exact q.elim
  | some v=>
   rw[hl]at q;have el:=VH hl;rw[el]at r1;obtain⟨Ą,u,rfl,r0,ru⟩:=aO.snoc r1;refine⟨_,e1,.inl ⟨rfl,_,eN.of h1⟩,a,Ą,u,rfl,rfl,h1,λH2 sx h2=>?_⟩;obtain⟨s2,g2⟩:=rF sr hs e1 sx h2 r0;have ru2:VR K [] H2 u v:=g2.vr sr ru;have s3:=s2.eY ru2 j;exact⟨_,k _,hr (l.dropLast,v),s3,(k _).mono (λt q2=>q2.go (g2.trans (cZ.eY s2 _ _ j)) sr s3) q⟩
def gs(l:O PV)(i v:PV):W (O PV):=match i with
 | .int k=>match uh l.length k with
  | some j=>.ret (l.set j v)
  | none=>.fail
 | _=>.fail
def SF.HC(i:Nat){k:O PV->W T}(hs:fs[i]?=ap (ap (.ol q0 l)))(hN:X.N[i]?=ap y)(hv:yT X.env.scope y)(he:EF X K fs e we)(hi:EF X K fs ei wi)(hr:∀l',SF X K x (fs.set i (ap (.ol q0 l'))) rest (k l') out)
  (ha:∀v,Ix (.Subscript (.Name y p) ei wO) X.env v=(do
   let ov <- FS [v] (lw (.Name y p) X.env)
   let iv <- FS [v,ov] (lw ei X.env)
   standAt wO
   FS [v,ov,iv] (setItem ov iv v)
   release [v,ov,iv] []):=by intro _;rfl)
  (hd: ~~~(jN y)) (iG: ~~~(zY y)) (hss:‹GM [.Subscript (.Name y p) ei wO] e pos.line X.env=pure false›) (hw:‹GT [.Subscript (.Name y p) ei wO] e X.env=pure bm›)
  (h1:‹(Ev [.Subscript (.Name y p) ei wO] X.env).map (·.2)=[Ix (.Subscript (.Name y p) ei wO) X.env]›) :
  SF X K x fs (.Assign [.Subscript (.Name y p) ei wO] e pos::rest) (.bind we λv=>.bind wi λn=>.bind (gs l n v) k) out:=
 SF.step (We he.p (aeE (dI hN hv hd iG) hi.p R1 ha) hss hw h1) λD σ H ⟨sr,q⟩=>by
  refine⟨sr,we.mono (λv q1 u H1 g1 s1 v1=>?_) q⟩;obtain⟨a,ws,e1,h1,r1⟩:=eO s1 hs;refine⟨_,e1,s1,wi.mono (λn q2 u2 H2 g2 s2 v2=>?_) q1⟩;obtain⟨a',wI,tE,iH,vj⟩:=eO s2 hs;rw[e1]at tE;cases tE;cases v2 with
  | int kk=>
   have q2:(match uh l.length kk with | some j=>bd (l.set j v) | none=>W.fail).run _:=q2;cases hj:uh l.length kk with
   | none=>rw[hj]at q2;exact q2.elim
   | some j=>
    rw[hj]at q2;refine⟨a,wI,kk,j,rfl,rfl,iH,by rw[vj.length];exact hj,λH3 sx h3=>?_⟩;obtain⟨s3,g3⟩:=rF s2 hs e1 sx h3 (vj.set (g2.vr s1 v1) j);exact⟨_,k _,hr _,s3,(k _).mono (λt q3=>q3.go ((g1.trans g2).f.trans g3) sr s3) q2⟩
  | _=>exact q2.elim
end
end
end FL
variable{x:Cu}
namespace FL
section
variable{K:Ab}
def jU:O AK->O PV->bD
 | [],_=>[]
 | .v::ks,x::l=>ap (.val x)::jU ks l
 | .v::_,[]=>[]
 | .p φ::ks,l=>ap (.ng φ)::jU ks l
 | .f a::ks,l=>ap (.adr a)::jU ks l
def zU(ks:O AK)(l:O PV)(n:Nat):bD:=jU ks l++Au (n-ks.length) bm
def PQ(ks:O AK):Prop:=∀i j:Nat,(∃φ,ks[i]?=ap (.p φ))->(∃φ,ks[j]?=ap (.p φ))->i=j
theorem lI:∀{n:Nat}{m:MU R n}{l:O PV}{Q:R->Prop},(rj n m l).run Q->l.length=n
 | 0,_,[],_,_=>rfl
 | 0,_,_::_,_,h=>h.elim
 | n+1,_,[],_,h=>h.elim
 | n+1,m,x::l,Q,h=>by rw[Ap,lI (n:=n) (m:=m x) h]
section
theorem kQ.len(h:kQ K H vs ks l):vs.length=ks.length:=by induction h <;> simp_all
def kQ.slot(h:kQ K H vs ks l):(jU ks l).length=vs.length/\∀(i:Nat) (s:SL),(jU ks l)[i]?=ap (ap s)->∃u,vs[i]?=ap u/\He K H u s/\(s.own=true->∃φ,s=.ng φ/\ks[i]?=ap (.p φ)):=by
 induction h with
 | nil=>exact⟨rfl,λi s e=>by simp[jU]at e⟩
 | @v u x vs ks l r t ih=>
  refine⟨by simp[jU,ih.1],λi s e=>?_⟩;cases i with
  | zero=>simp[jU]at e;subst e;exact⟨u,rfl,.inl ⟨x,rfl,r⟩,λz=>by cases z⟩
  | succ i=>simp[jU]at e;obtain⟨w,h1,h2,h3⟩:=ih.2 i s e;exact⟨w,by simpa using h1,h2,by simpa using h3⟩
 | @p a φ ws vs ks l e0 r t ih=>
  refine⟨by simp[jU,ih.1],λi s e=>?_⟩;cases i with
  | zero=>simp[jU]at e;subst e;exact⟨_,rfl,.inr ⟨a,rfl,ws,e0,r⟩,λ_=>⟨φ,rfl,rfl⟩⟩
  | succ i=>simp[jU]at e;obtain⟨w,h1,h2,h3⟩:=ih.2 i s e;exact⟨w,by simpa using h1,h2,by simpa using h3⟩
 | @f a vs ks l t ih=>
  refine⟨by simp[jU,ih.1],λi s e=>?_⟩;cases i with
  | zero=>simp[jU]at e;subst e;exact⟨_,rfl,.inr ⟨a,rfl,rfl⟩,λz=>by cases z⟩
  | succ i=>simp[jU]at e;obtain⟨w,h1,h2,h3⟩:=ih.2 i s e;exact⟨w,by simpa using h1,h2,by simpa using h3⟩
def kQ.aeB(h:kQ K H vs ks l)(e:ks[i]?=ap (.p φ)):(jU ks l)[i]?=ap (ap (.ng φ)):=by
 induction h generalizing i with
 | nil=>simp at e
 | v r t ih=>cases i with | zero=>simp at e | succ i=>simp[jU];exact ih (by simpa using e)
 | p e0 r t ih=>cases i with | zero=>simp at e;subst e;rfl | succ i=>simp[jU];exact ih (by simpa using e)
 | f t ih=>cases i with | zero=>simp at e | succ i=>simp[jU];exact ih (by simpa using e)
theorem sZ{s:SL}(h:(zU ks l n)[i]?=ap (ap s)):(jU ks l)[i]?=ap (ap s):=by
 unfold zU at h;by_cases c:i < (jU ks l).length
 ·rw[A4 c]at h;exact h
 ·rw[Bc ∅,B5]at h
  split at h <;> cases h
def oH{N:O Str}(h:vs[i]?=ap u):(L2.start N vs)[i]?=ap (ap u):=by
 unfold L2.start;rw[A4 (by rw[Ae];exact(Al.mp h).1),Aj,h];rfl
def Gn{N:O Str}(h:(L2.start N vs)[i]?=ap (ap u)):vs[i]?=ap u:=by
 unfold L2.start at h;by_cases c:i < vs.length
 ·rw[A4 (by simpa using c),Aj]at h;cases z:vs[i]? with
  | none=>rw[z]at h;cases h
  | some q=>rw[z]at h;cases h;rfl
 ·rw[Bc (by simpa using c),B5]at h
  split at h <;> cases h
def kQ.beg(h:kQ K H vs ks l)(one:PQ ks)(N:O Str):a8 K H (L2.start N vs) (zU ks l N.length):=by
 obtain⟨hl,hs⟩:=h.slot;refine⟨?_,λi s e=>?_,λi j s t x y a e1 e2 o1 o2 q1 q2 z1 z2=>?_⟩
 ·unfold L2.start zU;rw[Ah,Ah,Ae,hl,BF,BF,h.len]
 ·obtain⟨u,h1,h2,_⟩:=hs i s (sZ e);exact⟨u,oH h1,h2⟩
 ·obtain⟨_,_,_,h3⟩:=hs i s (sZ e1);obtain⟨_,_,_,h4⟩:=hs j t (sZ e2);obtain⟨φ,_,k1⟩:=h3 o1;obtain⟨ψ,_,k2⟩:=h4 o2;exact one i j ⟨φ,k1⟩ ⟨ψ,k2⟩
def kQ.go(h:kQ K H vs ks l){N:O Str}(g:cZ (L2.start N vs) (zU ks l N.length) H σ' cf H')(s':a8 K H' σ' cf):GoC vs ks H H':=by
 obtain⟨hl,hs⟩:=h.slot;refine⟨λa o e n=>(g.keep a o e λz=>?_).1,g.there,λa φ p=>?_⟩
 ·obtain⟨i,s,x,e1,e2,e3,e4⟩:=z;obtain⟨u,h1,h2,h3⟩:=hs i s (sZ e1);obtain⟨φ,rfl,k⟩:=h3 e2;rcases e4 with rfl | e4
  ·exact n φ ⟨i,k,Gn e3⟩
  ·cases e4
 ·obtain⟨i,e1,e2⟩:=p;have e3:=h.aeB e1;have hi:=(Al.mp e3).1;have e4:(zU ks l N.length)[i]?=ap (ap (.ng φ)):=by unfold zU;rw[A4 hi];exact e3
  rcases g.pk a φ ⟨i,e4,oH e2⟩ with⟨j,k1,k2⟩ | ⟨_,k⟩
  ·exact s'.ownAt k1 rfl k2
  ·exact k
end
section
variable{st:u8}{f:ci}{N:O Str}
def fnV{m:MU PV n}(Fn:Y7 K x qual st f fd)(S:eK N ps (aP st))(û:ks.length=ps.length)(one:PQ ks)
  (Ï:∀l:O PV,l.length=n->∀(gU:ce) (A:Da) (outer:O Env) (s:cr) (H:Hp) (E:XK),gj k (A.deeper (Fk qual (aP st) s.heap.objs.size f gU))->SF (zQ yQ P w K mg base N qual (aP st) f gU A outer s H E).nox K false (zU ks l N.length) (dP st) (rj n m l) .rt) :
  iU P w K mg base yQ (k+1) f fd ps (RX K ks (rj n m)):=by
 refine Fn.ok S (λvs H Q E h=>?_) (λgU A outer s H vs Q E hr h=>?_)
 ·obtain⟨l,h,_⟩:=h;rw[h.len];exact û
 obtain⟨l,h,q⟩:=h;refine⟨_,(Ï l (lI q) gU A outer s H E hr).p,h.beg one N,(rj n m l).mono (λv q1 u σ' cf H' g s' r=>q1 u H' (h.go g s') r) q⟩
def fnL{m:MU (O PV) n}(Fn:Y7 K x qual st f fd)(S:eK N ps (aP st))(û:ks.length=ps.length)(one:PQ ks)
  (Ï:∀l:O PV,l.length=n->∀(gU:ce) (A:Da) (outer:O Env) (s:cr) (H:Hp) (E:XK),gj k (A.deeper (Fk qual (aP st) s.heap.objs.size f gU))->SF (zQ yQ P w K mg base N qual (aP st) f gU A outer s H E).nox K false (zU ks l N.length) (dP st) (rj n m l) .rl) :
  iU P w K mg base yQ (k+1) f fd ps (Hw K ks (rj n m)):=by
 refine Fn.ok S (λvs H Q E h=>?_) (λgU A outer s H vs Q E hr h=>?_)
 ·obtain⟨l,h,_⟩:=h;rw[h.len];exact û
 obtain⟨l,h,q⟩:=h;have sr:=h.beg one N;refine⟨_,(Ï l (lI q) gU A outer s H E hr).p,sr,(rj n m l).mono (λz q1 a ws σ' cf H' g s' fr e r=>q1 a ws H' (h.go g s') ?_ e r) q⟩;rcases fr with fr | ⟨i,t,x,e1,e2,np,e3,e4⟩
 ·exact fr
 ·obtain⟨_,_,_,h3⟩:=h.slot.2 i t (sZ e1);obtain⟨φ,e,_⟩:=h3 e2;exact absurd e (np φ)
end
def HW:PQ []:=λi j ⟨_,h⟩=>by simp at h
def uT(h:PQ ks):PQ (.v::ks):=λi j ⟨φ,a⟩ ⟨ψ,b⟩=>by
 cases i with
 | zero=>simp at a
 | succ i=>
  cases j with
  | zero=>simp at b
  | succ j=>rw[h i j ⟨φ,by simpa using a⟩ ⟨ψ,by simpa using b⟩]
end
end FL
namespace L2
def aij(K:Ab):R2:=λx y H Q=>∃a b xs zs,x=.ref a/\y=.ref b/\eN K H a xs/\eN K H b zs/\xs.length+zs.length<=sizeLine/\k6 H (.lst (xs++zs)) Q
theorem aap(K:Ab)(hK:X.K=K):jV X (tt .Add) (aij K):=by
 subst hK;intro Z s σ H x y v u Q I rx ry h;obtain⟨l,b,xs,zs,rfl,rfl,hH,hB,hz,q⟩:=h;cases rx;cases ry;obtain⟨aw,r,⟨⟨cls,dd,data,sl⟩,n,ho,hc,hd,lj⟩,_⟩:=I.list hH;obtain⟨d4,r2,⟨⟨ž,ã,data2,Y0⟩,n2,Ot,XF,Õ,ac7⟩,_⟩:=I.list hB;simp only at hc hd lj XF Õ ac7;subst hc hd lj XF Õ ac7;have e:aw.toArray++d4.toArray=(aw++d4).toArray:=by simp
 have hl:=r.length;have UQ:=r2.length;refine concat_meets ⟨_,ho,rfl⟩ ⟨_,Ot,rfl⟩ noFill_list_add seq_list_add PySem.F.slot_list_add PySem.F.entry_list_add (PySem.F.args_list_add_2 _ _) (list_addW l b aw.toArray d4.toArray n n2 bm bm sl Y0 (by simp;omega)) ⟨ho,Ot,?_⟩;rw[e];exact⟨.ref _,_,I.ae7 (t':=s.toks) (r.append r2) (by rw[Ah];omega),rfl,q.at _ I.fresh⟩
end L2
variable{hi:FL.W (Option Int)}
namespace FL
section
variable{K:Ab}
section
variable{a c:lc}{w:W PV}{wm:W (O PV)}
def jT(l m:O PV):W (O PV):=.fK (l.length+m.length<=sizeLine) (.ret (l++m))
def fQL(K:Ab)(fs:bD)(w:W (O PV)):TE:=λσ H Q=>a8 K H σ fs/\w.run λl=>∀u H',dQ σ fs H H'->a8 K H' σ fs->SqF K σ fs H' u l->(∀ő,dQ σ fs H' ő->a8 K ő σ fs->∃a vs,u=.ref a/\eN K ő a vs/\aO K [] ő vs l)->Q u H'
structure MP(X:Cx)(K:Ab)(fs:bD)(e:lc)(w:W (List PV)):Prop where p:PE X e (fQL K fs w)
def aZ(h:LF X K fs e wl):MP X K fs e wl:=⟨PE.imp h.p λσ H Q ⟨sr,q⟩=>⟨sr,wl.mono (λl q1 a vs H1 g1 s1 n e v=>q1 _ H1 g1 s1 (.inr ⟨a,rfl,.inl ⟨sr.noOwn n,vs,e,v⟩⟩) λH2 g2 s2=>⟨a,vs,rfl,eN.of (g2.GK e (sr.noOwn n)),g2.U9 s1 v⟩) q⟩⟩
def HF(i:Nat)(hs:‹fs[i]?=ap (ap (.ol q0 l))›)(hN:‹X.N[i]?=ap x›)(hv:yT X.env.scope x:=by first | exact Co rfl | exact Ca (Co rfl) | exact Ca (Ca rfl))(hd: ~~~(jN x))(iG: ~~~(zY x)):MP X K fs (.Name x pos) (.ret l):=
 ⟨PE.imp (dI hN hv hd iG) λσ H Q ⟨sr,q⟩=>by
  obtain⟨a,ws,e1,h1,r1⟩:=eO sr hs;refine⟨_,e1,q _ H .refl sr (.inr ⟨a,rfl,.inr ⟨i,q0,hs,e1⟩⟩) λH2 g2 s2=>?_⟩;obtain⟨a',wI,tE,iH,vj⟩:=eO s2 hs;rw[e1]at tE;cases tE;exact⟨a,wI,rfl,eN.of iH,vj⟩⟩
def rR:PV->W (O PV)
 | .cl l=>.ret l
 | _=>.fail
def jn(h:EF X K fs e w):MP X K fs e (.bind w rR):=⟨PE.imp h.p λσ H Q ⟨sr,q⟩=>⟨sr,w.mono (λx q1 u1 H1 g1 s1 v1=>by
 cases v1 with
 | cl e r=>exact q1 _ H1 g1 s1 (.inl ⟨_,_,rfl,.inl e,r⟩) λH2 g2 s2=>⟨_,_,rfl,((g2.fN s1).f _ _ e).sq,g2.U9 s1 r⟩
 | _=>exact q1.elim) q⟩⟩
def jA(hK:X.K=K)(ha:MP X K fs a wl)(hb:MP X K fs b wm):LF X K fs (.BinOp a .Add b pos) (.bind wl λl=>.bind wm λm=>jT l m):=⟨PE.imp (Qx (aap K hK) ha.p hb.p) λσ H Q ⟨sr,q⟩=>⟨sr,wl.mono (λl q1 u1 H1 g1 s1 _ v1=>⟨s1,wm.mono (λm q2 u2 H2 g2 s2 _ v2=>by
 obtain⟨a,vs,rfl,h1,r1⟩:=v1 H2 g2 s2;obtain⟨b,ws,rfl,h2,r2⟩:=v2 H2 .refl s2;refine⟨a,b,vs,ws,rfl,rfl,h1,h2,by rw[r1.length,r2.length];exact q2.1,λp H3 s3 h3 n3=>?_⟩;have gg:=g1.trans g2;exact q2.2 p _ H3 (gg.trans (dQ.same s3)) (s2.same s3) (gg.there p n3) h3 (aO.tk s3.fM (r1.append r2))) q1⟩) q⟩⟩
def Gy{Q:VK}(g1:dQ σ fs H H1)(s1:a8 K H1 σ fs)(r:aO K [] H1 vs l)(q:∀a vs H',dQ σ fs H H'->a8 K H' σ fs->H a=bm->H' a=ap (.lst vs)->aO K [] H' vs l->Q (.ref a) H'):k6 H1 (.lst vs) Q:=λp H2 s2 h2 n2=>q p vs H2 (g1.trans (dQ.same s2)) (s1.same s2) (g1.there p n2) h2 (aO.tk s2.fM r)
def WZ(K:Ab):CL K (V3 K) .ret:=λ{fs σ H Q u l} s v q=>by
 obtain⟨a,vs,rfl,h,rs⟩:=v.sq s;exact⟨a,vs,rfl,h,Gy .refl s rs q⟩
def afd(hK:X.K=K)(hg:Gl X "list")(hm:X.mg "list"=bm)(ha:QF X K fs e wl)(he:‹iq X e []›)(eM:‹m6 X pos []›):LF X K fs (.Call (.Name "list" p) [e] [] pos) wl:=W5 (m:=.ret) (Pg K hK) (WZ K) hg hm boot_list ha ⋯ ⋯ he eM
def dz(hK:X.K=K)(hg:Gl X "tuple")(hm:X.mg "tuple"=bm)(ha:QF X K fs e wl)(he:‹iq X e []›)(eM:‹m6 X pos []›):EF X K fs (.Call (.Name "tuple" p) [e] [] pos) (.bind wl lJ):=T4 (Ue K hK) (Zk K) hg hm boot_tuple ha ⋯ ⋯ he eM
def uw(hK:X.K=K)(hg:Gl X "len")(hm:X.mg "len"=bm)(ha:QF X K fs e wl)(he:‹iq X e []›)(eM:‹m6 X pos []›):EF X K fs (.Call (.Name "len" p) [e] [] pos) (.bind wl zv):=Yq (G3 K hK) (aaN K) hg hm boot_len ha ⋯ ⋯ he eM
def YR(ha:EF X K fs e w)(he:im [e] X.env=(false,lw e X.env)::im [] X.env):AF X K fs [e] (Au 1 .v) (R:=R) (λk=>.bind w λx=>k [x]):=ai ha ag he
def bZ(hK:X.K=K)(hg:Gl X "len")(hm:X.mg "len"=bm)(ha:EF X K fs e w)(he:‹iq X e []›)(eM:‹m6 X pos []›):EF X K fs (.Call (.Name "len" p) [e] [] pos) (.bind w λx=>rG bO [x]):=wA (n:=1) (G3 K hK) (ab6 K) hg hm boot_len (YR ha he) ⋯ ⋯ he eM
def adl(hg:Gl X "abs")(hm:X.mg "abs"=bm)(ha:EF X K fs e w)(he:‹iq X e []›)(eM:‹m6 X pos []›):EF X K fs (.Call (.Name "abs" p) [e] [] pos) (.bind w λx=>rG Mk [x]):=wA (n:=1) YF ab8 hg hm boot_abs (YR ha he) ⋯ ⋯ he eM
def abH(hg:Gl X "int")(hm:X.mg "int"=bm)(ha:EF X K fs e w)(he:‹iq X e []›)(eM:‹m6 X pos []›):EF X K fs (.Call (.Name "int" p) [e] [] pos) (.bind w λx=>rG Pp [x]):=Yp (n:=1) Uk ab7 hg hm boot_int (YR ha he) ⋯ ⋯ he eM
def ajX(hc:X.calm=true)(hg:Gl X "max")(hm:X.mg "max"=bm)(ha:EF X K fs a wa)(hb:EF X K fs b wb)(he:‹im [a,b] X.env=(false,lw a X.env)::im [b] X.env›)(ÿ:‹iq X b []›)(eM:‹(BT pos (im [b] X.env)).any (·.1)=false›):EF X K fs (.Call (.Name "max" p) [a,b] [] pos) (.bind wa λx=>.bind wb λy=>rG Up [x,y]):=wA (n:=2) (Uh hc) ab5 hg hm boot_max (ai ha (ai hb ag ÿ) he) ⋯ ⋯ he eM
def ajW(hc:X.calm=true)(hg:Gl X "min")(hm:X.mg "min"=bm)(ha:EF X K fs a wa)(hb:EF X K fs b wb)(he:‹im [a,b] X.env=(false,lw a X.env)::im [b] X.env›)(ÿ:‹iq X b []›)(eM:‹(BT pos (im [b] X.env)).any (·.1)=false›):EF X K fs (.Call (.Name "min" p) [a,b] [] pos) (.bind wa λx=>.bind wb λy=>rG Uo [x,y]):=wA (n:=2) (Ug hc) ab4 hg hm boot_min (ai ha (ai hb ag ÿ) he) ⋯ ⋯ he eM
def acQ(hK:X.K=K)(hc:X.calm=true)(Ů:Gl X "list")(ĥ:X.mg "list"=bm)(ŭ:Gl X "reversed")(Č:X.mg "reversed"=bm)(he:MP X K fs e wl)
  (J1:‹im [.Call (.Name "reversed" p3) [e] [] p4] X.env=(false,lw (.Call (.Name "reversed" p3) [e] [] p4) X.env)::im [] X.env›) (sC:‹iq X e []›) :
  LF X K fs (.Call (.Name "list" p1) [.Call (.Name "reversed" p3) [e] [] p4] [] p2) (.bind wl λl=>.ret l.reverse):=⟨PE.imp (Nu K hK hc Ů ĥ ŭ Č he.p J1 sC) λσ H Q ⟨sr,q⟩=>⟨sr,wl.mono (λl q1 u1 H1 g1 s1 _ v1=>by
 obtain⟨a,vs,rfl,h1,r1⟩:=v1 H1 .refl s1;exact⟨a,vs,rfl,h1,Gy g1 s1 r1.reverse q1⟩) q⟩⟩
def bsW:O PV->W (O Bool)
 | []=>.ret []
 | .bl b::r=>.bind (bsW r) λl=>.ret (b::l)
 | _=>.fail
theorem Ry:∀{l:O PV}{Q:O Bool->Prop},(bsW l).run Q->∃bs:O Bool,l=bs.map PV.bl/\Q bs
 | [],Q,h=>⟨[],rfl,h⟩
 | .bl b::r,Q,h=>by
  obtain⟨bs,e,q⟩:=Ry (l:=r) h;exact⟨b::bs,by rw[e];rfl,q⟩
 | .aL::r,Q,h=>h.elim
 | .int _::r,Q,h=>h.elim
 | .str _::r,Q,h=>h.elim
 | .tup _::r,Q,h=>h.elim
 | .ref _::r,Q,h=>h.elim
 | .ty _::r,Q,h=>h.elim
 | .cl _::r,Q,h=>h.elim
@[simp] theorem Rz:∀bs:O Bool,bsW (bs.map PV.bl)=.ret bs
 | []=>rfl
 | b::bs=>by
  show am (bsW (bs.map PV.bl)) _=_;rw[Rz bs];rfl
def qS(l:O PV):W PV:=.bind (bsW l) λbs=>.ret (.bl (bs.all id))
def sR(hK:X.K=K)(hc:X.calm=true)(hg:Gl X "all")(hm:X.mg "all"=bm)(ha:MP X K fs e wl)(he:‹iq X e []›)(eM:‹m6 X pos []›):EF X K fs (.Call (.Name "all" p) [e] [] pos) (.bind wl qS):=⟨PE.imp (fU (Ul K hK hc) hg hm boot_all (a9 ha.p cv he) ⋯ ⋯ he eM) λσ H Q ⟨sr,q⟩=>⟨sr,wl.mono (λl q1 u1 H1 g1 s1 _ v1=>by
 obtain⟨bs,e,q2⟩:=Ry (l:=l) q1;obtain⟨a,vs,rfl,h1,r1⟩:=v1 H1 .refl s1;rw[e]at r1;have:=G5 r1;subst this;exact⟨a,bs,rfl,h1,q2 _ H1 g1 s1 (.bl _)⟩) q⟩⟩
def fJ(k:Kd)(x:PV):W PV:=match x with
 | .ref _=>.fail
 | .ty _=>.fail
 | x=>.ret (.bl (k.is x))
def acE(K:Ab):O V->Hp->VK->Prop:=λxs H Q=>∃x c t b,xs=[x,.ty c]/\(pP K H x t\/(t=.type "tuple"/\∃a vs,x=.ref a/\eW K H a vs)\/(t=.type "list"/\∃a vs,x=.ref a/\eN K H a vs)\/(t=.type "dict"/\∃a,x=.ref a/\IsD H a))/\BJ K t (.type c)=ap b/\Q (.bl b) H
def Uj(hK:X.K=K):cC X (.builtin "isinstance") (acE K):=by
 subst hK;intro Z s σ H xs us Q I r h;obtain⟨x,c,t,b,rfl,ty | ty | ⟨rfl,a,vs,rfl,hL⟩ | ⟨rfl,a,rfl,hD⟩,e,q⟩:=h
 ·exact vf Z s σ H _ us Q I r ⟨x,c,t,b,rfl,ty,e,q⟩
 ·exact Ui X.K rfl Z s σ H _ us Q I r ⟨x,c,t,b,rfl,.inr ty,e,q⟩
 ·obtain⟨u,w,rfl,r1,r2⟩:=vals2 r;cases r1;cases r2;obtain⟨aw,_,⟨o,n,h1,h2,_⟩,_⟩:=I.list hL;exact Bl EW I.zC ⟨o,h1,h2⟩ e (λz=>nomatch z) λtk=>⟨.bl b,H,I.tok _,rfl,q⟩
 ·obtain⟨u,w,rfl,r1,r2⟩:=vals2 r;cases r1;cases r2;have:∃o,s.heap.get? a=ap o/\o.cls=.type "dict":=by
   rcases hD with⟨kvs,e⟩ | ⟨kvs,e⟩
   ·obtain⟨_,_,vs,_,o,_,_,h1,h2,_⟩:=yq I.bN e;exact⟨o,h1,h2.1⟩
   ·obtain⟨_,_,xs,_,o,_,_,h1,h2,_⟩:=yo I.bN e;exact⟨o,h1,h2.1⟩
  obtain⟨o,h1,h2⟩:=this;exact Bl EX I.zC ⟨o,h1,h2⟩ e (λz=>nomatch z) λtk=>⟨.bl b,H,I.tok _,rfl,q⟩
def gm(hK:X.K=K)(k:Kd)(hg:Gl X "isinstance")(hm:X.mg "isinstance"=bm)(ha:EF X K fs a wa)(hgx:Gl X x)(hmx:X.mg x=bm)(hv:re x=ap (.type k.name))(hn: ~~~(x≠"__name__"))(hd: ~~~(jN x))
  (he:‹im [a,.Name x p2] X.env=(false,lw a X.env)::im [.Name x p2] X.env›) (ÿ:‹im [Expr.Name x p2] X.env=(false,lw (.Name x p2) X.env)::im [] X.env›)
  (eM:‹(BT pos (im [Expr.Name x p2] X.env)).any (·.1)=false›):EF X K fs (.Call (.Name "isinstance" p) [a,.Name x p2] [] pos) (.bind wa (fJ k)):=
 ⟨PE.imp (fU (Uj hK) hg hm boot_isinstance (a9 ha.p (a9 (aae (v:=.ty k.name) hgx hmx hv rfl hn hd) cv ÿ) he) ⋯ ⋯ he eM) λσ H Q ⟨sr,q⟩=>⟨sr,wa.mono (λx q1 u1 H1 g1 s1 v1=>by
  have fin:∀{t:ce}{y:PV},pP K H1 u1 t->BJ K t (.type k.name)=ap (k.is y)->Q (.bl (k.is y)) H1->acE K [u1,.ty k.name] H1 Q:=λty e q=>⟨_,_,_,_,rfl,.inl ty,e,q⟩;cases v1 with
  | aL=>exact fin (y:=.aL) .aL (by rw[(wo K).1 k];cases k <;> rfl) (q1 _ H1 g1 s1 (.bl _))
  | bl b=>exact fin (.bl b) (afi K b k) (q1 _ H1 g1 s1 (.bl _))
  | int b=>exact fin (.int b) (aaZ K b k) (q1 _ H1 g1 s1 (.bl _))
  | str b=>exact fin (.str b) (aaY K b k) (q1 _ H1 g1 s1 (.bl _))
  | ty n=>exact q1.elim
  | ref n=>exact q1.elim
  | @dk a o kvs ks l e k1 r=>exact⟨_,_,_,_,rfl,.inr (.inr (.inr ⟨rfl,_,rfl,.inl ⟨_,.inr ⟨_,e⟩⟩⟩)),(show _=ap (k.is (.dv ks l)) by rw[(wo K).2.2 k];cases k <;> rfl),q1 _ H1 g1 s1 (.bl _)⟩
  | @dt a o kvs ks l e k1 r=>exact⟨_,_,_,_,rfl,.inr (.inr (.inr ⟨rfl,_,rfl,.inr ⟨_,.inr ⟨_,e⟩⟩⟩)),(show _=ap (k.is (.dv ks l)) by rw[(wo K).2.2 k];cases k <;> rfl),q1 _ H1 g1 s1 (.bl _)⟩
  | @cl p vs l e r=>exact⟨_,_,_,_,rfl,.inr (.inr (.inl ⟨rfl,_,_,rfl,e.sq⟩)),(show _=ap (k.is (.cl l)) by rw[(wo K).2.1 k];cases k <;> rfl),q1 _ H1 g1 s1 (.bl _)⟩
  | @tup p vs l e r=>exact⟨_,_,_,_,rfl,.inr (.inl ⟨rfl,_,_,rfl,eW.of e⟩),aaX K _ k,q1 _ H1 g1 s1 (.bl _)⟩) q⟩⟩
def VV(l:O PV):PV->W (O PV)
 | .int k=>.fK (-(2 ^ 63)<=k/\k < 2 ^ 63/\l.length*k.toNat<=sizeLine) (.ret (Au k.toNat l).flatten)
 | _=>.fail
def aiO(ha:LF X K fs a wl)(hb:EF X K fs b wb):LF X K fs (.BinOp a .Mult b pos) (.bind wl λl=>.bind wb λy=>VV l y):=⟨PE.imp (Qx aeN ha.p hb.p) λσ H Q ⟨sr,q⟩=>⟨sr,wl.mono (λl q1 a vs H1 g1 s1 n e v=>⟨s1,wb.mono (λy q2 u2 H2 g2 s2 v2=>by
 cases v2 with
 | int k=>
  have no:=sr.noOwn n;have e2:=(g2.GK e no);have r2:=g2.U9 s1 v;refine⟨a,k,vs,rfl,rfl,e2,q2.1.1,q2.1.2.1,by rw[r2.length];exact q2.1.2.2,λp hp=>?_⟩;have sm:=kW hp (.lst (Au k.toNat vs).flatten);have gg:=g1.trans g2;exact q2.2 p _ _ (gg.trans (dQ.same sm)) (s2.same sm) (gg.there p hp) aW (aO.tk sm.fM (r2.rep k.toNat))
 | _=>exact q2.elim) q1⟩) q⟩⟩
def part:PV->W (Option Int)
 | .int i=>.ret (ap i)
 | _=>.fail
def jo:OF X K fs bm (.ret bm):=⟨PO.imp Z2 λσ H Q ⟨sr,q⟩=>q H .refl sr⟩
def ku(h:EF X K fs e w):OF X K fs (ap e) (.bind w part):=⟨PO.imp (Z1 h.p) λσ H Q ⟨sr,q⟩=>⟨sr,w.mono (λx q1 u1 H1 g1 s1 v1=>by
 cases v1 with
 | int i=>exact⟨_,rfl,q1 H1 g1 s1⟩
 | _=>exact q1.elim) q⟩⟩
variable{el eh:Option lc}{lo:W (Option Int)}
def aiN(hK:X.K=K)(he:MP X K fs e wl)(hl:OF X K fs el lo)(hh:OF X K fs eh hi):LF X K fs (.Subscript e (.Slice el eh bm p2) pos) (.bind wl λl=>.bind lo λi=>.bind hi λj=>.ret (hV l i j)):=⟨PE.imp (KC (VI K hK) he.p hl.p hh.p) λσ H Q ⟨sr,q⟩=>⟨sr,wl.mono (λl q1 u1 H1 g1 s1 _ v1=>⟨s1,lo.mono (λi q2 H2 g2 s2=>⟨s2,hi.mono (λj q3 H3 g3 s3=>by
 obtain⟨a,vs,rfl,h1,r1⟩:=v1 H3 (g2.trans g3) s3;exact⟨a,vs,rfl,h1,Gy ((g1.trans g2).trans g3) s3 (r1.cut i j) q3⟩) q2⟩) q1⟩) q⟩⟩
def qa:O PV->W (O Int)
 | []=>.ret []
 | .int i::r=>.bind (qa r) λl=>.ret (i::l)
 | _=>.fail
theorem iW:∀{l:O PV}{Q:O Int->Prop},(qa l).run Q->∃ns:O Int,l=ns.map PV.int/\Q ns
 | [],Q,h=>⟨[],rfl,h⟩
 | .int b::r,Q,h=>by
  obtain⟨bs,e,q⟩:=iW (l:=r) h;exact⟨b::bs,by rw[e];rfl,q⟩
 | .aL::r,Q,h=>h.elim
 | .bl _::r,Q,h=>h.elim
 | .str _::r,Q,h=>h.elim
 | .tup _::r,Q,h=>h.elim
 | .ref _::r,Q,h=>h.elim
 | .ty _::r,Q,h=>h.elim
 | .cl _::r,Q,h=>h.elim
@[simp] theorem dG:∀bs:O Int,qa (bs.map PV.int)=.ret bs
 | []=>rfl
 | b::bs=>by
  show am (qa (bs.map PV.int)) _=_;rw[dG bs];rfl
end
end
end FL
variable{k2:Nat}
namespace FL
section
variable{K:Ab}
abbrev b2(m:M2)(wa wb:W PV):W PV:=.bind wa λx=>.bind wb λy=>of2 m x y
abbrev t2(m:M2)(wa wb:W PV):W Bool:=.bind wa λx=>.bind wb λy=>.bind (of2 m x y) asB
abbrev c1(m:Hf)(w:W PV):W PV:=.bind w λx=>rG m [x]
abbrev bh(wl:W (O PV))(wb:W PV):W PV:=.bind wl λl=>.bind wb λy=>ixW l y
abbrev y8(a b:W Bool):W Bool:=.bind a λk=>if k=true then b else .ret false
abbrev tor(a b:W Bool):W Bool:=.bind a λk=>if k=true then .ret true else b
abbrev nv(a:W Bool):W Bool:=.bind a λk=>.ret (!k)
abbrev cy{α:Type}(t:W Bool)(a b:W α):W α:=.bind t λk=>if k=true then a else b
section
variable{a c:lc}{rest:O u8}{S T T2:Type}{hd:S->bD}{s0:S}{w:W PV}{wt:PV->W T2}{d9:S->T2->bD}{k:S->W T}{out:T->End}{x:Bool}
def SF.kI{f:PV->S->W S}(hp:xz (ev X.prog X.w) X.A X.env X.xe)(hc:X.calm=true)(hi:yO X K fs tg iter wl)(hl:jO fs (hd s0))(hg:PG X tg (fc i))(hb:∀s p,SF X K false ((hd s).set i (ap (.val p))) body (f p s) λs'=>.nc (hd s'))(hr:∀s,SF X K x (hd s) rest (k s) out)(hs:J6 X iter:=by intro _;rfl) :
  SF X K x fs (.For tg iter body [] pos::rest) (.bind wl λl=>.bind (bH l s0 f) k) out:=SF.for (wt:=.ret) (wb:=λp s=>f p s) hp hc hi hl (λs=>g_1 hg) (λ_ _=>rfl) hb hr hs
def SF.TC{wb:T2->S->W S}(hp:xz (ev X.prog X.w) X.A X.env X.xe)(hc:X.calm=true)(hi:yO X K fs tg iter wl)(hl:jO fs (hd s0))(hg:∀s,GF X K (hd s) tg is wt (d9 s))(hb:∀s t,SF X K false (d9 s t) body (wb t s) λs'=>.nc (hd s'))(hr:∀s,SF X K x (hd s) rest (k s) out)(hs:J6 X iter:=by intro _;rfl) :
  SF X K x fs (.For tg iter body [] pos::rest) (.bind wl λl=>.bind (bH l s0 λp s=>.bind (wt p) λt=>wb t s) k) out:=SF.for hp hc hi hl hg (λ_ _=>rfl) hb hr hs
def SF.LW{inj:R->T}{f:PV->S->W (Lp S R)}(hp:xz (ev X.prog X.w) X.A X.env X.xe)(hc:X.calm=true)(hi:yO X K fs tg iter wl)(hl:jO fs (hd s0))(hg:PG X tg (fc i))(ho:∀t,(out (inj t)).Q0)(hb:∀s p,SF X K false ((hd s).set i (ap (.val p))) body (f p s) (lpE hd λr=>out (inj r)))(hr:∀s,SF X K x (hd s) rest (k s) out)(hs:J6 X iter:=by intro _;rfl) :
  SF X K x fs (.For tg iter body [] pos::rest) (.bind wl λl=>.bind (FL.nX l s0 f) (J4 k inj)) out:=SF.nX (wt:=.ret) (wb:=λp s=>f p s) hp hc hi hl (λs=>g_1 hg) (λ_ _=>rfl) ho hb hr hs
def SF.R3{fs3:T2->bD}{k:T2->W T}(he:EF X K fs e we)(hg:GF X K fs tg is wt fs3)(hr:∀t,SF X K x (fs3 t) rest (k t) out)(hs:‹GM [tg] e pos.line X.env=pure false›)(hw:‹GT [tg] e X.env=pure bm›)
  (h1:‹(Ev [tg] X.env).map (·.2)=[Ix tg X.env]›):SF X K x fs (.Assign [tg] e pos::rest) (.bind we λv=>.bind (wt v) k) out:=SF.step (We he.p hg.p hs hw h1) λD σ H ⟨sr,q⟩=>
 ⟨sr,we.mono (λv q1 u H1 g1 s1 v1=>⟨v,s1,v1,(wt v).mono (λt q2 us g2 s2=>⟨_,k t,hr t,s2,(k t).mono (λt' q3=>q3.go (g1.f.trans g2) sr s2) q2⟩) q1⟩) q⟩
def SF.par{ø:Pos}{kt:Nat}{k:PV->PV->W T}(hc:X.calm=true)(hN:X.N.Nodup)(hi:X.N[i]?=ap y)(hj:X.N[j]?=ap z)(ħ:i≠j)(hx:X.env.scope.names.lookup y=ap .local)(hy:X.env.scope.names.lookup z=ap .local)
  (ha:EF X K fs a wa) (hb:EF X K fs b wb) (hr:∀u v,SF X K x ((fs.set i (ap (.val u))).set j (ap (.val v))) rest (k u v) out)
  (hw:‹GT [.Tuple [.Name y px,.Name z py] kt pt] (.Tuple [a,b] k2 ø) X.env=pure (ap [y,z])›) (hs:‹GM [.Tuple [.Name y px,.Name z py] kt pt] (.Tuple [a,b] k2 ø) pos.line X.env=pure false›)
  (he:‹im [a,b] X.env=(false,lw a X.env)::im [b] X.env›) (ÿ:‹iq X b []›) :
  SF X K x fs (.Assign [.Tuple [.Name y px,.Name z py] kt pt] (.Tuple [a,b] k2 ø) pos::rest) (.bind wa λu=>.bind wb λv=>k u v) out:=
 SF.step (aeA hc hN hi hj ħ hx hy (a9 ha.p (a9 hb.p cv ÿ) he) hw hs) λD σ H ⟨sr,q⟩=>⟨sr,wa.mono (λu q1 u1 H1 g1 s1 v1=>⟨s1,wb.mono (λv q2 u2 H2 g2 s2 v2=>by
  have s3:=s2.eY (g2.vr s1 v1) i;have s4:=s3.eY v2 j;exact⟨_,_,rfl,_,k u v,hr u v,s4,(k u v).mono (λt q3=>q3.go (((g1.trans g2).f.trans (cZ.eY s2 _ _ i)).trans (cZ.eY s3 _ _ j)) sr s4) q2⟩) q1⟩) q⟩
def Vk(v:PV):W PV:=.fK (v.dat=true) (.ret v)
def Vl(l:O PV):W (O PV):=.fK (zP l=true) (.ret l)
mutual
theorem VR.pC{ι:O ci}{H H':Hp}(t:∀p vs,H p=ap (.tup vs)->H' p=ap (.tup vs)):∀{v:V}{q:PV},VR K ι H v q->q.dat=true->VR K [] H' v q
 | _,_,.aL,_=>.aL
 | _,_,.bl b,_=>.bl b
 | _,_,.int i,_=>.int i
 | _,_,.str x,_=>.str x
 | _,_,.ty n,h=>by rw[PV.dat]at h;cases h
 | _,_,.tup e r,h=>.tup (t _ _ e) (aO.pC t r (by rw[PV.dat]at h;exact h))
 | _,_,.cl e r,h=>by rw[PV.dat]at h;cases h
 | _,_,.dk _ _ _,h=>by rw[PV.dat]at h;cases h
 | _,_,.dt _ _ _,h=>by rw[PV.dat]at h;cases h
 | _,_,.ref e,h=>by rw[PV.dat]at h;cases h
theorem aO.pC{ι:O ci}{H H':Hp}(t:∀p vs,H p=ap (.tup vs)->H' p=ap (.tup vs)):∀{v:O V}{q:O PV},aO K ι H v q->zP q=true->aO K [] H' v q
 | _,_,.nil,_=>.nil
 | _,_,.cons r s,h=>by
  rw[zP,A1]at h;exact .cons (VR.pC t r h.1) (aO.pC t s h.2)
end
def bor(I:Inv X Z σ H s)(sr:a8 K H σ fs)(hs:fs[i]?=ap (ap t))(hb:t.bw=true):∃a o ob,Inv X Z σ (upd H a (.c6 ob o)) s/\a8 K (upd H a (.c6 ob o)) σ (fs.set i (ap (.val t.bv)))/\
  ∀σ' s' H1,Inv X Z σ' H1 s'->dQ σ (fs.set i (ap (.val t.bv))) (upd H a (.c6 ob o)) H1->a8 K H1 σ (fs.set i (ap (.val t.bv)))->Inv X Z σ' (upd H1 a o) s'/\dQ σ fs H (upd H1 a o)/\a8 K (upd H1 a o) σ fs/\(∀p vs,H1 p=ap (.tup vs)->upd H1 a o p=ap (.tup vs))/\∀p vs,p≠a->H1 p=ap (.lst vs)->upd H1 a o p=ap (.lst vs):=by
 have ho:=SL.YG hb;obtain⟨u,e1,⟨v,e,_⟩ | ⟨a,e,oa⟩⟩:=sr.at' i _ hs
 ·subst e;cases hb
 subst e;obtain⟨ob,o,h1,n1,n2,I2,vr⟩:=ajF I oa hb;have h0:∀o u,X.H₀ a≠ap (.c6 o u):=λo u z=>by
  have:=I.base.xY a o u z;rw[h1]at this;exact n2 _ _ (Option.some.inj this)
 refine⟨a,o,ob,I2,sr.ajE hs ho e1 h1 n1 n2 vr,λσ' s' H1 J g s1=>?_⟩;have pf:∀φ b,km σ (fs.set i (ap (.val t.bv))) φ b->km σ fs φ b:=λφ b ⟨j,z1,z3⟩=>by
  rcases dM z1 with⟨_,z⟩ | ⟨n,z1⟩
  ·cases z
  ·exact⟨j,z1,z3⟩
 have npa:∀φ,¬km σ fs φ a:=λφ ⟨j,z1,z3⟩=>by
  have:=sr.nd j i _ _ a a a z1 hs rfl ho z3 e1 (.inl rfl) (.inl rfl);subst this;rw[hs]at z1;cases z1;cases hb
 have e2:=g.keep a _ aW λφ p=>npa φ (pf φ a p);have hk:=XA J.bN e2;have ge:dQ σ fs H (upd H1 a o):=by
  refine⟨λb o z n=>?_,λb z=>?_⟩
  ·by_cases c:b=a
   ·subst c;rw[h1]at z;cases z;exact aW
   ·rw[aD c];exact g.keep b o (by rw[aD c];exact z) λφ p=>n φ (pf φ b p)
  ·by_cases c:b=a
   ·subst c;rw[aW]at z;cases z
   ·rw[aD c]at z;have:=g.there b z;rw[aD c]at this;exact this
 refine⟨J.amd e2 h0 (hk a _ aW) hk,ge,⟨sr.len,λj t z=>?_,sr.nd⟩,λp vs z=>?_,λp vs n z=>by rw[aD n];exact z⟩
 ·obtain⟨u,k1,k2⟩:=sr.at' j t z;refine⟨u,k1,?_⟩;by_cases c:∃φ,t=.ng φ
  ·obtain⟨φ,rfl⟩:=c;have ji:j≠i:=λy=>by subst y;rw[hs]at z;cases z;cases hb
   rcases k2 with⟨v,y,_⟩ | ⟨b,rfl,_⟩
   ·cases y
   ·obtain⟨vs,y1,y2⟩:=s1.ownAt (t:=.ng φ) (i:=j) (by rw[aY ji];exact z) rfl k1;refine .inr ⟨b,rfl,vs,?_,y2⟩;rw[aD (λy=>by subst y;exact npa φ ⟨j,z,k1⟩)];exact y1
  ·refine k2.mono (ge.fN sr) (λx b o eb ow hb zz=>ge.keep b o zz λφ ⟨j',p1,p3⟩=>?_);subst eb;have:=sr.nd j j' t _ x b b z p1 ow rfl k1 p3 hb (.inl rfl);subst this;rw[z]at p1;cases p1;exact c ⟨φ,rfl⟩
 ·rw[aD (λy=>by subst y;rw[e2]at z;cases z)];exact z
def aj0(i:Nat)(hs:fs[i]?=ap (ap t))(h:EF X K (fs.set i (ap (.val t.bv))) e w)(hb:‹t.bw=true›):EF X K fs e (.bind w Vk):=⟨λZ s σ H Q I ⟨sr,q⟩=>by
 obtain⟨a,o,ob,I2,s2,É⟩:=bor I sr hs hb;refine bS (h.p Z s σ _ (λu H1=>∃v,dQ σ (fs.set i (ap (.val t.bv))) (upd H a (.c6 ob o)) H1/\a8 K H1 σ (fs.set i (ap (.val t.bv)))/\VR K [] H1 u v/\v.dat=true/\∀u H',dQ σ fs H H'->a8 K H' σ fs->VR K [] H' u v->Q u H') I2 ⟨s2,w.mono (λv q1 u H1 g1 s1 v1=>⟨v,g1,s1,v1,q1.1,q1.2⟩) q⟩) λu s1 ⟨x,H1,I1,r1,v,g1,ö,v1,d,q1⟩=>?_;obtain⟨I3,g3,s3,t3,_⟩:=É σ s1 H1 I1 g1 ö;exact⟨x,_,I3,r1,q1 x _ g3 s3 (VR.pC t3 v1 d)⟩⟩
def aiR(i:Nat)(hs:fs[i]?=ap (ap t))(h:LF X K (fs.set i (ap (.val t.bv))) e wl)(hb:‹t.bw=true›):LF X K fs e (.bind wl Vl):=⟨λZ s σ H Q I ⟨sr,q⟩=>by
 obtain⟨a,o,ob,I2,s2,É⟩:=bor I sr hs hb;refine bS (h.p Z s σ _ (λu H1=>∃b vs l',u=.ref b/\dQ σ (fs.set i (ap (.val t.bv))) (upd H a (.c6 ob o)) H1/\a8 K H1 σ (fs.set i (ap (.val t.bv)))/\upd H a (.c6 ob o) b=bm/\H1 b=ap (.lst vs)/\aO K [] H1 vs l'/\zP l'=true/\∀a vs H',dQ σ fs H H'->a8 K H' σ fs->H a=bm->H' a=ap (.lst vs)->aO K [] H' vs l'->Q (.ref a) H') I2 ⟨s2,wl.mono (λl' q1 b vs H1 g1 s1 n e v1=>⟨b,vs,l',rfl,g1,s1,n,e,v1,q1.1,q1.2⟩) q⟩) λu s1 ⟨x,H1,I1,r1,b,vs,l',e,g1,ö,n,eb,v1,d,q1⟩=>?_;subst e;obtain⟨I3,g3,s3,t3,k3⟩:=É σ s1 H1 I1 g1 ö;have nb:b≠a:=λy=>by subst y;rw[aW]at n;cases n
 exact⟨_,_,I3,r1,q1 b vs _ g3 s3 (by rw[aD nb]at n;exact n) (k3 b vs nb eb) (aO.pC t3 v1 d)⟩⟩
end
end
end FL
variable{G:O Int->Prop}
namespace FL
section
variable{K:Ab}
def ahU(K:Ab)(m:O PV->O PV->W (PV×O PV)):Sp:=λvs H Q _=>∃a PY ws lo l,vs=.ref a::PY/\H a=ap (.lst ws)/\aO K [] H ws lo/\aO K [] H PY l/\(m lo l).run λt=>∀u wI H',qj a H H'->(∀b,H' b=bm->H b=bm)->H' a=ap (.lst wI)->aO K [] H' wI t.2->VR K [] H' u t.1->Q u H'
section
variable{st:u8}{f:ci}{N:O Str}
def YI(a:ci)(lo l:O PV)(n:Nat):bD:=ap (.ol (ap a) lo)::(l.map λv=>ap (SL.val v))++Au (n-1-l.length) bm
def aO.slot(r:aO K [] H vs l){s:SL}(h:(l.map λv=>ap (SL.val v))[i]?=ap (ap s)):∃u v,vs[i]?=ap u/\s=.val v/\VR K [] H u v:=by
 rw[Aj]at h;cases e:l[i]? with
 | none=>rw[e]at h;cases h
 | some v=>
  rw[e]at h;obtain⟨u,h1,h2⟩:=r.get e;cases h;exact⟨u,v,h1,rfl,h2⟩
theorem fnO{m:O PV->MU (PV×O PV) n}(Fn:Y7 K x qual st f fd)(S:eK N ps (aP st))(hn:n+1=ps.length)
  (Ï:∀(a:ci) (lo l:O PV),l.length=n->∀(gU:ce) (A:Da) (outer:O Env) (s:cr) (H:Hp) (E:XK),gj k (A.deeper (Fk qual (aP st) s.heap.objs.size f gU))->SF (zQ yQ P w K mg base N qual (aP st) f gU A outer s H E).nox K false (YI a lo l N.length) (dP st) (rj n (m lo) l) λt=>.ro t.1 a t.2) :
  iU P w K mg base yQ (k+1) f fd ps (ahU K λlo l=>rj n (m lo) l):=by
 refine Fn.ok S (λvs H Q E h=>?_) (λgU A outer s H vs Q E hr h=>?_)
 ·obtain⟨a,PY,ws,lo,l,rfl,_,_,r,q⟩:=h;rw[Ap,r.length,lI q];exact hn
 obtain⟨a,PY,ws,lo,l,rfl,ha,HE,r,q⟩:=h;have hl:=lI q;have hr2:=r.length;have Ō:∀{i:Nat}{s:SL},(YI a lo l N.length)[i]?=ap (ap s)->(i=0/\s=.ol (ap a) lo)\/∃j u v,i=j+1/\PY[j]?=ap u/\s=.val v/\VR K [] H u v:=λ{i s} e=>by
  unfold YI at e;cases i with
  | zero=>simp at e;exact .inl ⟨rfl,e.symm⟩
  | succ j=>
   rw[BS,List.getElem?_cons_succ]at e;by_cases c:j < l.length
   ·rw[A4 (by simpa using c)]at e;obtain⟨u,v,h1,h2,h3⟩:=aO.slot r e;exact .inr ⟨j,u,v,rfl,h1,h2,h3⟩
   ·rw[Bc (by simpa using c),B5]at e
    split at e <;> cases e
 have sr:a8 K H (L2.start N (.ref a::PY)) (YI a lo l N.length):=by
  refine⟨?_,λi s e=>?_,λi j s t x y b e1 e2 o1 o2 q1 q2 _ _=>?_⟩
  ·unfold L2.start YI;rw[Ah,Ae,BF,Ah,Ap,Ap,Ae,BF];omega
  ·rcases Ō e with⟨rfl,rfl⟩ | ⟨j,u,v,rfl,h1,rfl,h3⟩
   ·exact⟨.ref a,oH rfl,.inr ⟨a,rfl,λb z=>Option.some.inj z,ws,ha,HE⟩⟩
   ·exact⟨u,oH (by simpa using h1),.inl ⟨v,rfl,h3⟩⟩
  ·rcases Ō e1 with⟨rfl,rfl⟩ | ⟨j1,u,v,rfl,h1,rfl,h3⟩
   ·rcases Ō e2 with⟨rfl,rfl⟩ | ⟨j1,u,v,rfl,h1,rfl,h3⟩
    ·rfl
    ·cases o2
   ·cases o1
 refine⟨_,(Ï a lo l hl gU A outer s H E hr).p,sr,(rj n (m lo) l).mono (λt q1 u σ' cf H' g s' ho rv=>?_) q⟩;obtain⟨i,e⟩:=ho;obtain⟨u',e',r'⟩:=s'.at' i _ e;rcases r' with⟨v,z,_⟩ | ⟨b,rfl,hb,wI,h1,h2⟩
 ·cases z
 have hba:=hb a rfl;subst hba;refine q1 u wI H' (λc o nc e=>(g.keep c o e λz=>?_).1) g.there h1 h2 rv;obtain⟨j,t',x,z1,z2,z3,z4⟩:=z;rcases Ō z1 with⟨rfl,rfl⟩ | ⟨j1,u,v,rfl,_,rfl,_⟩
 ·have:=Gn z3;simp at this;rcases z4 with rfl | z4
  ·exact nc this.symm
  ·cases z4
 ·cases z2
def iT(G:O Int->Prop):O V->Prop:=λws=>∃ns:O Int,ws=ns.map V.int/\G ns
def aeC{m:O PV->O PV->W (PV×O PV)}{mp:O PV->W PV}(F:iU P w K mg base yQ k f fd ps (ahU K m))(hm:∀ns l Q,G ns->(mp l).run Q->(m (ns.map PV.int) l).run λt=>Q t.1/\∃Gx:O Int,t.2=Gx.map PV.int/\G Gx) :
  iU P w K mg base yQ k f fd ps (RX K (.p (iT G)::Au n .v) mp):=F.imp λvs H Q E h=>by
 obtain⟨l,ha,q⟩:=h;cases ha with
 | @p a φ ws vs ks l e r t=>
  obtain⟨ns,rfl,hG⟩:=r;have tv:∀{n:Nat}{vs:O V}{l:O PV},kQ K H vs (Au n .v) l->aO K [] H vs l:=by
   intro n
   induction n with
   | zero=>intro vs l h;cases h;exact .nil
   | succ n ih=>intro vs l h;cases h with | v r t=>exact .cons r (ih t)
  refine⟨a,vs,ns.map V.int,ns.map PV.int,l,rfl,e,sA _ _ ns,tv t,(m _ _).mono (λt q1 u wI H' sx hth e' r' rv=>?_) (hm ns l _ hG q)⟩;obtain⟨q1,Gx,et,hG'⟩:=q1;rw[et]at r';have:=mh r';subst this;refine q1 u H' ⟨λb o eb nb=>sx b o (λz=>?_) eb,hth,λb φ p=>?_⟩ rv
  ·subst z;exact nb _ ⟨0,rfl,rfl⟩
  ·obtain⟨i,e1,e2⟩:=p;cases i with
   | zero=>simp at e1 e2;subst e1;subst e2;exact⟨_,e',Gx,rfl,hG'⟩
   | succ i=>
    simp at e1;rw[B5]at e1
    split at e1 <;> simp at e1
end
section
variable{ñ:O u8}{T:Type}{w:W T}{out:T->End}{x:Bool}
def aim(G:O Int->Prop)(l:O PV)(w:W T):W T:=.fK (∃ns:O Int,l=ns.map PV.int/\G ns) w
def SF.ng(i:Nat)(hs:fs[i]?=ap (ap (.ol bm l)))(hr:SF X K x (fs.set i (ap (.ng (iT G)))) ñ w out):SF X K x fs ñ (aim G l w) out:=⟨λZ s σ H D I ⟨sr,q⟩=>by
 obtain⟨⟨ns,el,hG⟩,q⟩:=q;obtain⟨a,ws,e1,h1,r1⟩:=eO sr hs;subst el;have:=mh r1;subst this;obtain⟨s2,g2⟩:=fo (t':=.ng (iT G)) sr hs rfl (by simp) e1 (λ_ _ _ z=>z:qj a H H) λtk=>⟨_,h1,ns,rfl,hG⟩;exact hr.p Z s σ H D I ⟨s2,w.mono (λt q2=>q2.go g2 sr s2) q⟩⟩
end
end
end FL
variable{W':FL.W PL.PV}
namespace FL
section
variable{K:Ab}
abbrev chB(m m':M2)(wa wb wc:W PV):W PV:=.bind wa λx=>.bind wb λy=>.bind (of2 m x y) λz=>ou z (.bind wc λw=>of2 m' y w)
abbrev chT(m m':M2)(wa wb wc:W PV):W Bool:=.bind wa λx=>.bind wb λy=>.bind (of2 m x y) λz=>.bind (ou z (.bind wc λw=>of2 m' y w)) asB
abbrev JG(wa wb:W PV):W PV:=.bind wa λx=>Us x wb
abbrev orB(wa wb:W PV):W PV:=.bind wa λx=>orW x wb
abbrev jR(wl:W (O PV)):W PV:=.bind wl λl=>.ret (.cl l)
abbrev SK(t:W Bool)(w:W PV):W (Option PV):=.bind t λk=>if k=true then .bind w λv=>.ret (ap v) else .ret bm
section
variable{c:lc}{WL:W (O PV)}
def abP{m:O PV->W PV}(G:Cal X.prog X.w X.K X.mg X.base x k ps (RX K ks m))(hr:gj k' X.A)(hk:k<=k')(hg:Gl X x)(ha:AF X K fs (e::es) ks B)(hW:W'=B m)(sD: ~~~(jN x))
  (he:‹iq X e es›) (eM:‹m6 X pos es›):EF X K fs (.Call (.Name x p) (e::es) [] pos) W':=hW▸af5 G hr hk hg ha sD he eM
def aaT{m:O PV->W (O PV)}{B:(O PV->W (O PV))->W (O PV)}(G:Cal X.prog X.w X.K X.mg X.base x k ps (Hw K ks m))(hr:gj k' X.A)(hk:k<=k')(hg:Gl X x)(ha:AF X K fs (e::es) ks B)(hW:WL=B m)(sD: ~~~(jN x))
  (he:‹iq X e es›) (eM:‹m6 X pos es›):LF X K fs (.Call (.Name x p) (e::es) [] pos) WL:=hW▸aff G hr hk hg ha sD he eM
def aE{x1}(h:AF X K fs es (Au n .v) B)(hW:W'=B λl=>.ret (.tup l))(hn: ~~~(n<=1000)):EF X K fs (.Tuple es x1 pos) W':=hW▸ajU h hn
def aH{B:(O PV->W (O PV))->W (O PV)}(h:AF X K fs es (Au n .v) B)(hW:WL=B λl=>.ret l)(hn: ~~~(n<=1000)):LF X K fs (.List es pos) WL:=hW▸aiP h hn
variable{T2:Type}{wt:PV->W T2}{d9:T2->bD}{tf:T2->W Bool}{te:T2->W PV}
def cj{f:PV->W PV}(hc:X.calm=true)(S:cF X.env.scope X.N sc N' ix)(hi:yO X K fs tg iter wl)(hg:∀cl C s2 H2 fp,PG (kl X sc N' cl C s2 H2 fp) tg (fc i))(he:∀cl C s2 H2 fp t,EF (kl X sc N' cl C s2 H2 fp) K ((df ix fs).set i (ap (.val t))) Æ (f t))(h0:ix[i]?=ap bm)(hs:J6 X iter:=by intro _;rfl) :
  LF X K fs (.ListComp Æ [⟨tg,iter,[],0⟩] sc pos) (.bind wl λl=>a7 l f):=
 have h1:(df ix fs)[i]?=ap bm:=by unfold df;rw[Aj,h0];rfl
 acR hc S hi (λcl C s2 H2 fp=>g_1 (hg cl C s2 H2 fp)) he (λ_=>rfl) (afb h1) (λj hj=>by rw[AN]at hj;subst hj;exact h0) hs
def Lf{tf:PV->W Bool}{te:PV->W PV}(hc:X.calm=true)(S:cF X.env.scope X.N sc N' ix)(hi:yO X K fs tg iter wl)(hg:∀cl C s2 H2 fp,PG (kl X sc N' cl C s2 H2 fp) tg (fc i))(hf:∀cl C s2 H2 fp t,TF (kl X sc N' cl C s2 H2 fp) K ((df ix fs).set i (ap (.val t))) c (tf t))(he:∀cl C s2 H2 fp t,EF (kl X sc N' cl C s2 H2 fp) K ((df ix fs).set i (ap (.val t))) Æ (te t))(h0:ix[i]?=ap bm)(hs:J6 X iter:=by intro _;rfl) :
  LF X K fs (.ListComp Æ [⟨tg,iter,[c],0⟩] sc pos) (.bind wl λl=>pN l λp=>SK (tf p) (te p)):=
 have h1:(df ix fs)[i]?=ap bm:=by unfold df;rw[Aj,h0];rfl
 afe (wt:=.ret) (tf:=tf) (te:=te) hc S hi (λcl C s2 H2 fp=>g_1 (hg cl C s2 H2 fp)) (λcl C s2 H2 fp t=>OM (hf cl C s2 H2 fp t)) he (λ_=>rfl) (afb h1) (λj hj=>by rw[AN]at hj;subst hj;exact h0) hs
def xE(hc:X.calm=true)(S:cF X.env.scope X.N sc N' ix)(hi:yO X K fs tg iter wl)(hg:∀cl C s2 H2 fp,GF (kl X sc N' cl C s2 H2 fp) K (df ix fs) tg is wt d9)(he:∀cl C s2 H2 fp t,EF (kl X sc N' cl C s2 H2 fp) K (d9 t) Æ (te t))
  (hl:zZ is (df ix fs) d9/\∀t,jO (d9 t) (df ix fs)) (LC:∀j∈is,ix[j]?=ap bm) (hs:J6 X iter:=by intro _;rfl) :
  LF X K fs (.ListComp Æ [⟨tg,iter,[],0⟩] sc pos) (.bind wl λl=>a7 l λp=>.bind (wt p) te):=acR hc S hi hg he (λ_=>rfl) hl LC hs
def aiQ(hc:X.calm=true)(S:cF X.env.scope X.N sc N' ix)(hi:yO X K fs tg iter wl)(hg:∀cl C s2 H2 fp,GF (kl X sc N' cl C s2 H2 fp) K (df ix fs) tg is wt d9)(hf:∀cl C s2 H2 fp t,TF (kl X sc N' cl C s2 H2 fp) K (d9 t) c (tf t))(he:∀cl C s2 H2 fp t,EF (kl X sc N' cl C s2 H2 fp) K (d9 t) Æ (te t))
  (hl:zZ is (df ix fs) d9/\∀t,jO (d9 t) (df ix fs)) (LC:∀j∈is,ix[j]?=ap bm) (hs:J6 X iter:=by intro _;rfl) :
  LF X K fs (.ListComp Æ [⟨tg,iter,[c],0⟩] sc pos) (.bind wl λl=>pN l λp=>.bind (wt p) λt=>SK (tf t) (te t)):=afe hc S hi hg (λcl C s2 H2 fp t=>OM (hf cl C s2 H2 fp t)) he (λ_=>rfl) hl LC hs
variable{rest:O u8}{T:Type}{out:T->End}{x0:Bool}{kk:O PV->W T}
def aaJ{wt:PV->W T2}{te:T2->W PV}:(λl=>a7 l λp=>.bind (wt p) te)=λl=>pN l λp=>.bind (wt p) λt=>.bind (.ret true) λk=>if k=true then .bind (te t) λv=>.ret (ap v) else .ret bm:=funext λl=>by
 rw[HY];rfl
def SF.Qp(hc:X.calm=true)(hN:X.N.Nodup)(Tf:X.N[i]?=ap y)(hx:X.env.scope.names.lookup y=ap .local)(S:cF X.env.scope X.N sc N' ix)(hi:yO X K fs tg iter wl)(hg:∀cl C s2 H2 fp,GF (kl X sc N' cl C s2 H2 fp) K (df ix fs) tg is wt d9)(he:∀cl C s2 H2 fp t,EF (kl X sc N' cl C s2 H2 fp) K (d9 t) Æ (te t))
  (hl:zZ is (df ix fs) d9/\∀t,jO (d9 t) (df ix fs)) (LC:∀j∈is,ix[j]?=ap bm) (hr:∀l,SF X K x0 (fs.set i (ap (.ol bm l))) rest (kk l) out)
  (xQ:‹pc (.ListComp Æ [⟨tg,iter,[],0⟩] sc pos) (ap (.Name y px)) y9.line X.env=pure true›) (hs:J6 X iter:=by intro _;rfl) :
  SF X K x0 fs (.Assign [.Name y px] (.ListComp Æ [⟨tg,iter,[],0⟩] sc pos) y9::rest) (.bind (.bind wl λl=>a7 l λp=>.bind (wt p) te) kk) out:=by
 rw[aaJ];exact SF.acy (tf:=λ_=>.ret true) hc hN Tf hx S hi hg (λ_ _ _ _ _ _=>X1) he (λp=>rfl) hl LC hr xQ hs
def SF.lM{f:PV->W PV}(hc:X.calm=true)(hN:X.N.Nodup)(Tf:X.N[i]?=ap y)(hx:X.env.scope.names.lookup y=ap .local)(S:cF X.env.scope X.N sc N' ix)(hi:yO X K fs tg iter wl)(hg:∀cl C s2 H2 fp,PG (kl X sc N' cl C s2 H2 fp) tg (fc j))(he:∀cl C s2 H2 fp t,EF (kl X sc N' cl C s2 H2 fp) K ((df ix fs).set j (ap (.val t))) Æ (f t))(h0:ix[j]?=ap bm)(hr:∀l,SF X K x0 (fs.set i (ap (.ol bm l))) rest (kk l) out)
  (xQ:‹pc (.ListComp Æ [⟨tg,iter,[],0⟩] sc pos) (ap (.Name y px)) y9.line X.env=pure true›) (hs:J6 X iter:=by intro _;rfl) :
  SF X K x0 fs (.Assign [.Name y px] (.ListComp Æ [⟨tg,iter,[],0⟩] sc pos) y9::rest) (.bind (.bind wl λl=>a7 l f) kk) out:=
 have h1:(df ix fs)[j]?=ap bm:=by unfold df;rw[Aj,h0];rfl
 SF.Qp (wt:=.ret) hc hN Tf hx S hi (λcl C s2 H2 fp=>g_1 (hg cl C s2 H2 fp)) he (afb h1) (λm hj=>by rw[AN]at hj;subst hj;exact h0) hr xQ hs
def SF.aee(hc:X.calm=true)(hN:X.N.Nodup)(Tf:X.N[i]?=ap y)(hx:X.env.scope.names.lookup y=ap .local)(S:cF X.env.scope X.N sc N' ix)(hi:yO X K fs tg iter wl)(hg:∀cl C s2 H2 fp,GF (kl X sc N' cl C s2 H2 fp) K (df ix fs) tg is wt d9)(hf:∀cl C s2 H2 fp t,TF (kl X sc N' cl C s2 H2 fp) K (d9 t) c (tf t))(he:∀cl C s2 H2 fp t,EF (kl X sc N' cl C s2 H2 fp) K (d9 t) Æ (te t))
  (hl:zZ is (df ix fs) d9/\∀t,jO (d9 t) (df ix fs)) (LC:∀j∈is,ix[j]?=ap bm) (hr:∀l,SF X K x0 (fs.set i (ap (.ol bm l))) rest (kk l) out)
  (xQ:‹pc (.ListComp Æ [⟨tg,iter,[c],0⟩] sc pos) (ap (.Name y px)) y9.line X.env=pure true›) (hs:J6 X iter:=by intro _;rfl) :
  SF X K x0 fs (.Assign [.Name y px] (.ListComp Æ [⟨tg,iter,[c],0⟩] sc pos) y9::rest) (.bind (.bind wl λl=>pN l λp=>.bind (wt p) λt=>SK (tf t) (te t)) kk) out:=SF.acy hc hN Tf hx S hi hg (λcl C s2 H2 fp t=>OM (hf cl C s2 H2 fp t)) he (λ_=>rfl) hl LC hr xQ hs
end
def XY{f:ci}(h:∀vs H Q E,¬sp vs H Q E):iU P w K mg base yQ k f fd ps sp:=⟨λvs H Q E q=>(h _ _ _ _ q).elim,λA outer s H args us vs Q E _ _ _ _ q=>(h _ _ _ _ q).elim⟩
def aeb{m:MU PV n}(h:∀l Q,l.length=n->¬(rj n m l).run Q):∀vs H Q E,¬RX K ks (rj n m) vs H Q E:=λvs H Q E ⟨l,_,q⟩=>h l _ (lI q) q
def Qj{m:MU (O PV) n}(h:∀l Q,l.length=n->¬(rj n m l).run Q):∀vs H Q E,¬Hw K ks (rj n m) vs H Q E:=λvs H Q E ⟨l,_,q⟩=>h l _ (lI q) q
theorem aQ(hr:gj k A):A.units+200 < ss:=by have:=hr.un;omega
end
section
variable{K:Ab}
mutual
def PV.mm:PV->Bool
 | .tup l=>gE l
 | .cl l=>gE l
 | .ref _=>false
 | .ty _=>false
 | .dv _ _=>false
 | _=>true
def gE:O PV->Bool
 | []=>true
 | x::l=>PV.mm x&&gE l
end
mutual
def PV.jS:PV->Nat
 | .tup l=>fe l+1
 | .cl l=>fe l+1
 | _=>0
def fe:O PV->Nat
 | []=>0
 | x::l=>max (PV.jS x) (fe l)
end
mutual
def kS:PV->PV->Bool
 | .aL,.aL=>true
 | .bl a,.bl b=>a==b
 | .bl a,.int b=>(if a then 1 else 0)==b
 | .int a,.bl b=>a==(if b then 1 else 0)
 | .int a,.int b=>a==b
 | .str a,.str b=>a==b
 | .tup l,.tup m=>iJ l m
 | .cl l,.cl m=>iJ l m
 | _,_=>false
def iJ:O PV->O PV->Bool
 | [],[]=>true
 | x::l,y::m=>kS x y&&iJ l m
 | _,_=>false
end
theorem yb:∀{l:O PV}{j:Nat}{x:PV},gE l=true->l[j]?=ap x->PV.mm x=true
 | [],_,_,_,e=>by simp at e
 | y::l,0,x,h,e=>by
  simp at e;subst e;rw[gE,A1]at h;exact h.1
 | y::l,j+1,x,h,e=>by
  rw[gE,A1]at h;exact yb h.2 (by simpa using e)
theorem GV:∀{l:O PV}{j:Nat}{x:PV},l[j]?=ap x->PV.jS x<=fe l
 | [],_,_,e=>by simp at e
 | y::l,0,x,e=>by
  simp at e;subst e;rw[fe];omega
 | y::l,j+1,x,e=>by
  have:=GV (l:=l) (j:=j) (x:=x) (by simpa using e);rw[fe];omega
mutual
theorem LX:∀(x:PV),PV.mm x=true->kS x x=true
 | .aL,_=>by rw[kS]
 | .bl b,_=>by rw[kS];simp
 | .int i,_=>by rw[kS];simp
 | .str i,_=>by rw[kS];simp
 | .tup l,h=>by rw[kS];exact pA l (by rw[PV.mm]at h;exact h)
 | .cl l,h=>by rw[kS];exact pA l (by rw[PV.mm]at h;exact h)
 | .ref _,h=>by rw[PV.mm]at h;cases h
 | .ty _,h=>by rw[PV.mm]at h;cases h
 | .dv _ _,h=>by rw[PV.mm]at h;cases h
theorem pA:∀(l:O PV),gE l=true->iJ l l=true
 | [],_=>by rw[iJ]
 | x::l,h=>by
  rw[gE,A1]at h;rw[iJ,LX x h.1,pA l h.2];rfl
end
def Yc(l m:O PV)(j:Nat):Bool:=match l[j]?,m[j]? with | some x,ap y=>kS x y | _,_=>true
theorem sJ:∀(l m:O PV),((Av (min l.length m.length)).all (Yc l m)&&l.length==m.length)=iJ l m
 | [],[]=>by rw[iJ];rfl
 | [],_::_=>by
  rw[iJ]
  ·simp
  ·intros;simp_all
  ·intros;simp_all
 | _::_,[]=>by
  rw[iJ]
  ·simp
  ·intros;simp_all
  ·intros;simp_all
 | x::l,y::m=>by
  rw[iJ,<- sJ l m];have e:min (x::l).length (y::m).length=min l.length m.length+1:=by simp only[Ap];omega
  rw[e,List.range_succ_eq_map,List.all_cons,Dr];have e2:((x::l).length==(y::m).length)=(l.length==m.length):=by simp
  rw[e2,Bool.and_assoc];rfl
def X2{m:O PV}(h:l.length≠m.length):iJ l m=false:=by
 rw[<- sJ];have:(l.length==m.length)=false:=by simpa using h
 rw[this,ES]
section
mutual
theorem VR.XZ(I:Inv X Z σ H s):∀{v:V}{x y:PV},VR X.K [] H v x->VR X.K [] H v y->x=y
 | _,_,_,.aL,h=>by cases h;rfl
 | _,_,_,.bl b,h=>by cases h;rfl
 | _,_,_,.int b,h=>by cases h;rfl
 | _,_,_,.str b,h=>by cases h;rfl
 | _,_,_,.ty b,h=>by cases h;rfl
 | _,_,_,.ref e,h=>by simp at e
 | _,_,_,.tup e r,h=>by
  cases h with
  | tup e' r'=>
   have ee:=I.oD (eW.of e) (eW.of e');subst ee;rw[aO.XZ I r r']
  | ref e=>simp at e
  | cl e' r'=>
   obtain⟨aw,_,⟨o,n,h1,h2,_⟩,_⟩:=I.list e'.sq;obtain⟨its',_,⟨o',iH,wq,_⟩,_⟩:=I.tuple (eW.of e);rw[h1]at iH;cases iH;rw[h2]at wq;simp at wq
  | dk e' _ _=>rw[e]at e';cases e'
  | dt e' _ _=>rw[e]at e';cases e'
 | _,_,_,.dk e k r,h=>by
  cases h with
  | dk e' k' r'=>rw[e]at e';cases e';rw[k,k',aO.XZ I r r']
  | dt e' _ _=>rw[e]at e';cases e'
  | ref e=>simp at e
  | tup e' _=>rw[e]at e';cases e'
  | cl e' r'=>
   obtain⟨aw,_,⟨o,n,h1,h2,_⟩,_⟩:=I.list e'.sq;obtain⟨_,_,vs,_,o',_,_,iH,wq,_⟩:=yq I.bN (.inr ⟨_,e⟩);rw[h1]at iH;cases iH;have h3:=wq.1;rw[h2]at h3;simp at h3
 | _,_,_,.dt e k r,h=>by
  cases h with
  | dt e' k' r'=>rw[e]at e';cases e';rw[k,k',aO.XZ I r r']
  | dk e' _ _=>rw[e]at e';cases e'
  | ref e=>simp at e
  | tup e' _=>rw[e]at e';cases e'
  | cl e' r'=>
   obtain⟨aw,_,⟨o,n,h1,h2,_⟩,_⟩:=I.list e'.sq;obtain⟨_,_,vs,_,o',_,_,iH,wq,_⟩:=yo I.bN (.inr ⟨_,e⟩);rw[h1]at iH;cases iH;have h3:=wq.1;rw[h2]at h3;simp at h3
 | _,_,_,.cl e r,h=>by
  cases h with
  | dk e' _ _=>
   obtain⟨aw,_,⟨o,n,h1,h2,_⟩,_⟩:=I.list e.sq;obtain⟨_,_,vs,_,o',_,_,iH,wq,_⟩:=yq I.bN (.inr ⟨_,e'⟩);rw[h1]at iH;cases iH;have h3:=wq.1;rw[h2]at h3;simp at h3
  | dt e' _ _=>
   obtain⟨aw,_,⟨o,n,h1,h2,_⟩,_⟩:=I.list e.sq;obtain⟨_,_,vs,_,o',_,_,iH,wq,_⟩:=yo I.bN (.inr ⟨_,e'⟩);rw[h1]at iH;cases iH;have h3:=wq.1;rw[h2]at h3;simp at h3
  | cl e' r'=>
   obtain⟨aw,k,⟨o,n,h1,h2,h3,h4⟩,_⟩:=I.list e.sq;obtain⟨its',k',⟨o',n',iH,wq,XM,ā⟩,_⟩:=I.list e'.sq;rw[h1]at iH;cases iH;rw[h4]at ā;have:aw=its':=by injection ā with a b;simpa using a
   subst this;have ee:=Vals.inj k k';subst ee;rw[aO.XZ I r r']
  | ref e=>simp at e
  | tup e' r'=>
   obtain⟨aw,_,⟨o,n,h1,h2,_⟩,_⟩:=I.list e.sq;obtain⟨its',_,⟨o',iH,wq,_⟩,_⟩:=I.tuple (eW.of e');rw[h1]at iH;cases iH;rw[h2]at wq;simp at wq
theorem aO.XZ(I:Inv X Z σ H s):∀{v:O V}{x y:O PV},aO X.K [] H v x->aO X.K [] H v y->x=y
 | _,_,_,.nil,h=>by cases h;rfl
 | _,_,_,.cons r t,h=>by
  cases h with
  | cons r' t'=>rw[VR.XZ I r r',aO.XZ I t t']
end
structure Cmp(A:Da)(s:cr)(w w':ce)(b:Bool):Prop where
 rc:SeqAt.RcAt A s w w' b
 ne:SeqAt.RcNeAt A s w w' (!b)
 eq:DY A s w w' b
def ajT(I:Inv X Z σ H s){ws:O V}{m:O PV}(r:Vals vs aw)(r':Vals ws its')(r1:aO X.K [] H vs l)(r2:aO X.K [] H ws m)
  (ih:∀(j:Nat) (x y:PV) (v v':V) (w w':ce),l[j]?=ap x->m[j]?=ap y->VR X.K [] H v x->VR X.K [] H v' y->RelV v w->RelV v' w'->DY A s w w' (kS x y)) :
  ∀j (g1:j < aw.toArray.size) (g2:j < its'.toArray.size),DY A s aw.toArray[j] its'.toArray[j] (Yc l m j):=λj g1 g2=>by
 have h1:j < aw.length:=by simpa using g1
 have h2:j < its'.length:=by simpa using g2
 have hl:j < l.length:=by rw[<- r1.length,r.length];exact h1
 have hm:j < m.length:=by rw[<- r2.length,r'.length];exact h2
 obtain⟨v,v1,v2⟩:=r1.get (Ad hl);obtain⟨v',ð,v2'⟩:=r2.get (Ad hm);obtain⟨u,u1,u2⟩:=r.get v1;obtain⟨u',u1',u2'⟩:=r'.get ð;rw[Ad h1]at u1;rw[Ad h2]at u1';cases u1;cases u1';unfold Yc;rw[Ad hl,Ad hm];have:=ih j _ _ v v' _ _ (Ad hl) (Ad hm) v2 v2' u2 u2';simpa using this
inductive Sh(X:Cx)(H:Hp)(s:cr):PV->ce->Prop
 | aL:Sh X H s .aL .none
 | bl (b:Bool):Sh X H s (.bl b) (.bool b)
 | int (i:Int) (t:Tok):Sh X H s (.int i) (.int i t)
 | str (x:Str) (t:Tok):Sh X H s (.str x) (.str x t)
 | tup {p:ci}{vs:List V}{aw:List ce}{l:List PV} (e:VR X.K [] H (.ref p) (.tup l)) (k:Vals vs aw) (r:aO X.K [] H vs l) (h:s.heap.IsTuple p aw.toArray):Sh X H s (.tup l) (.ref p)
 | cl {p:ci}{vs:List V}{aw:List ce}{l:List PV} (e:VR X.K [] H (.ref p) (.cl l)) (k:Vals vs aw) (r:aO X.K [] H vs l) (h:s.heap.IsList p aw.toArray):Sh X H s (.cl l) (.ref p)
def Sh.of(I:Inv X Z σ H s){v:V}{x:PV}{w:ce}(h:VR X.K [] H v x)(r:RelV v w)(d:PV.mm x=true):Sh X H s x w:=by
 cases h with
 | ref e=>simp at e
 | aL=>cases r;exact .aL
 | bl a=>cases r;exact .bl a
 | int a=>obtain⟨t,rfl⟩:=r;exact .int a t
 | str a=>obtain⟨t,rfl⟩:=r;exact .str a t
 | tup e q=>
  cases r;obtain⟨aw,k,ht,_⟩:=I.tuple (eW.of e);exact .tup (.tup e q) k q ht
 | cl e q=>
  cases r;obtain⟨aw,k,pl,_⟩:=I.list e.sq;exact .cl (.cl e q) k q pl.isList
 | _=>rw[PV.mm]at d;cases d
set_option maxHeartbeats 8000000 in
theorem agf(hK:X.K=K)(I:Inv X Z σ H s):∀(n:Nat) (x y:PV) (A:Da) (v v':V) (w w':ce),PV.jS x<=n->PV.mm x=true->PV.mm y=true->VR K [] H v x->VR K [] H v' y->RelV v w->RelV v' w'->A.units+n+1 < ss->Cmp A s w w' (kS x y):=by
 subst hK;intro n
 induction n using Cv with
 | ind n ih=>
 intro x y A v v' w w' hd dx dy hv Ċ r1 r2 hu;have a:=Sh.of I hv r1 dx;have b:=Sh.of I Ċ r2 dy;clear hv Ċ r1 r2;have el:∀{l m:O PV}{vs ws:O V}{aw d4:O ce},gE l=true->gE m=true->fe l < n->Vals vs aw->Vals ws d4->aO X.K [] H vs l->aO X.K [] H ws m->aw.toArray.size=l.length/\d4.toArray.size=m.length/\∀j (g1:j < aw.toArray.size) (g2:j < d4.toArray.size),DY A.in1 s aw.toArray[j] d4.toArray[j] (Yc l m j):=λd1 d2 hd k1 k2 r r'=>⟨by rw[Ak,<- k1.length,r.length],by rw[Ak,<- k2.length,r'.length],ajT I (A:=A.in1) k1 k2 r r' λj x y v v' w w' hx hy vx vy rx ry=>(ih _ hd x y A.in1 v v' w w' (GV hx) (yb d1 hx) (yb d2 hy) vx vy rx ry (by show A.units+1+_+1 < _;omega)).eq⟩;have fin:∀{pa pb:ci}{l m:O PV},(pa=pb->l=m)->gE l=true->SeqAt.RcAt A s (.ref pa) (.ref pb) (iJ l m)->DY A s (.ref pa) (.ref pb) (iJ l m):=λ{pa pb l m} h d q=>by
  by_cases mi:pa=pb
  ·rw[h mi,pA _ (h mi▸d),mi];exact Gb _
  ·exact F2 mi q
 cases a <;> cases b
 case tup.tup pa vs aw l e k r ht pb ws d4 m e2 k2 r2 Oq=>
  rw[PV.jS]at hd;obtain⟨z1,z2,ie⟩:=el dx dy ∅ k k2 r r2;have q1:=F4 ht Oq (A:=A) ∅ ie;have q2:=SeqAt.RcNeAt.tuples ht Oq (A:=A) ∅ ie;rw[z1,z2,sJ]at q1 q2;exact⟨q1,q2,fin (λz=>by subst z;have:=VR.XZ I e e2;injection this) dx q1⟩
 case cl.cl pa vs aw l e k r ht pb ws d4 m e2 k2 r2 Oq=>
  rw[PV.jS]at hd;obtain⟨z1,z2,ie⟩:=el dx dy ∅ k k2 r r2;by_cases hz:l.length=m.length
  ·have q1:=SeqAt.RcAt.lists ht Oq (by rw[z1,z2];exact hz) (A:=A) ∅ ie;have q2:=SeqAt.RcNeAt.lists ht Oq (by rw[z1,z2];exact hz) (A:=A) ∅ ie;have ef:(Av l.length).all (Yc l m)=iJ l m:=by rw[<- sJ,hz,Nat.min_self,beq_self_eq_true,Bool.and_true]
   rw[z1,ef]at q1 q2;exact⟨q1,q2,fin (λz=>by subst z;have:=VR.XZ I e e2;injection this) dx q1⟩
  ·have q1:=SeqAt.RcAt.lists_lengths (A:=A) ht Oq (by rw[z1,z2];simpa using hz) ∅;have q2:=SeqAt.RcNeAt.lists_lengths (A:=A) ht Oq (by rw[z1,z2];simpa using hz) ∅;have ef:=X2 hz;rw[<- ef]at q1;have q2:SeqAt.RcNeAt A s (.ref pa) (.ref pb) (!iJ l m):=by rw[ef];exact q2
   exact⟨q1,q2,fin (λz=>by subst z;have:=VR.XZ I e e2;injection this) dx q1⟩
 all_goals
  clear ih el fin;rw[kS] <;> try (intros;simp_all;done)
  refine⟨?_,?_,?_⟩ <;> (try simp only[Bq,DQ]) <;> first | with_reducible exact .none_none | with_reducible exact .none_bool _ | with_reducible exact .none_int _ _ | with_reducible exact .none_str _ _ | with_reducible exact .none_tuple ‹_› ∅ | with_reducible exact .none_list ‹_› ∅ | with_reducible exact .bool_none _ | with_reducible exact .bool_str _ _ _ | with_reducible exact .bool_tuple _ ‹_› ∅ | with_reducible exact .bool_list _ ‹_› ∅ | with_reducible exact .int_none _ _ | with_reducible exact .int_str _ _ _ _ | with_reducible exact .int_tuple _ _ ‹_› ∅ | with_reducible exact .int_list _ _ ‹_› ∅ | with_reducible exact .str_none _ _ | with_reducible exact .str_bool _ _ _ | with_reducible exact .str_int _ _ _ _ | with_reducible exact .str_tuple _ _ ‹_› ∅ | with_reducible exact .str_list _ _ ‹_› ∅ | with_reducible exact .tuple_none ‹_› ∅ | with_reducible exact .tuple_bool _ ‹_› ∅ | with_reducible exact .tuple_int _ _ ‹_› ∅ | with_reducible exact .tuple_str _ _ ‹_› ∅ | with_reducible exact .tuple_list ‹_› ‹_› ∅ | with_reducible exact .list_none ‹_› ∅ | with_reducible exact .list_bool _ ‹_› ∅ | with_reducible exact .list_int _ _ ‹_› ∅ | with_reducible exact .list_str _ _ ‹_› ∅ | with_reducible exact .list_tuple ‹_› ‹_› ∅ | exact .same _ | exact .bool_bool _ _ | exact .bool_int _ _ _ | exact .int_bool _ _ _ | exact .int_int _ _ _ _ | exact .str_str _ _ _ _
end
end
section
variable{K:Ab}
mutual
theorem VR.rL{ι:O ci}{H:Hp}:∀{v:V}{q:PV},VR K ι H v q->PV.mm q=true->VR K [] H v q
 | _,_,.aL,_=>.aL
 | _,_,.bl b,_=>.bl b
 | _,_,.int i,_=>.int i
 | _,_,.str x,_=>.str x
 | _,_,.ty n,h=>by rw[PV.mm]at h;cases h
 | _,_,.dk _ _ _,h=>by rw[PV.mm]at h;cases h
 | _,_,.dt _ _ _,h=>by rw[PV.mm]at h;cases h
 | _,_,.tup e r,h=>.tup e (aO.rL r (by rw[PV.mm]at h;exact h))
 | _,_,.cl e r,h=>.cl e (aO.rL r (by rw[PV.mm]at h;exact h))
 | _,_,.ref e,h=>by rw[PV.mm]at h;cases h
theorem aO.rL{ι:O ci}{H:Hp}:∀{v:O V}{q:O PV},aO K ι H v q->gE q=true->aO K [] H v q
 | _,_,.nil,_=>.nil
 | _,_,.cons r s,h=>by
  rw[gE,A1]at h;exact .cons (VR.rL r h.1) (aO.rL s h.2)
end
def TH(x y:PV):Prop:=PV.mm x=true/\PV.mm y=true/\PV.jS x<=150
def eZ:M2:=⟨λx y h Q=>TH x y/\Q (.bl (kS x y)) h,λf q=>⟨q.1,f _ _ q.2⟩⟩
def vn:M2:=⟨λx y h Q=>TH x y/\Q (.bl (!kS x y)) h,λf q=>⟨q.1,f _ _ q.2⟩⟩
def ZV(K:Ab)(neg:Bool):R2:=λu v H Q=>∃x y,VR K [] H u x/\VR K [] H v y/\TH x y/\Q (.bl (if neg then !kS x y else kS x y)) H
section
theorem aeS(hK:X.K=K)(hu:X.A.units+200 < ss):jV X (nw .Eq) (ZV K false):=λZ s σ H u v w w' Q I r1 r2 ⟨x,y,h1,h2,⟨o1,o2,o3⟩,q⟩=>by
 exact EqBoolInt.of_rc (agf hK I 150 x y X.A u v w w' o3 o1 o2 h1 h2 r1 r2 ∅).rc ⟨.bl _,H,I,rfl,q⟩
theorem aeP(hK:X.K=K)(hu:X.A.units+200 < ss):jV X (nw .NotEq) (ZV K true):=λZ s σ H u v w w' Q I r1 r2 ⟨x,y,h1,h2,⟨o1,o2,o3⟩,q⟩=>by
 exact EqBoolInt.of_rcne (agf hK I 150 x y X.A u v w w' o3 o1 o2 h1 h2 r1 r2 ∅).ne ⟨.bl _,H,I,rfl,q⟩
def aaA:M2.Ok K (ZV K false) eZ:=λ{ι H h u v x y Q} hr hu hv q=>⟨x,y,VR.rL hu q.1.1,VR.rL hv q.1.2.1,q.1,q.2 ι _ H (Go.refl _ _) hr (.bl _)⟩
def aau:M2.Ok K (ZV K true) vn:=λ{ι H h u v x y Q} hr hu hv q=>⟨x,y,VR.rL hu q.1.1,VR.rL hv q.1.2.1,q.1,q.2 ι _ H (Go.refl _ _) hr (.bl _)⟩
def e7(hK:X.K=K)(hu:X.A.units+200 < ss):JC X K .Eq b eZ:=⟨⟨_,aeS hK hu,aaA⟩,lP _⟩
def Lz(hK:X.K=K)(hu:X.A.units+200 < ss):JC X K .NotEq b vn:=⟨⟨_,aeP hK hu,aau⟩,lP _⟩
end
end
end FL
variable{x:Be}{b b1:Bool}{t z i1 i2 a1 a2:BU}{ys:Array Be}{k1:Nat}
namespace L2
def yM(b:Bool)(h:pr)(it a:ci)(k:Nat):Prop:=match b with
 | true=>h.IsListIter it a k
 | false=>h.IsTupleIter it a k
def kO(b:Bool)(h:pr)(a:ci)(xs:Array ce):Prop:=match b with
 | true=>h.IsList a xs
 | false=>h.IsTuple a xs
def yM.move(x:yM b h it a k)(g:∀o,h.get? it=ap o->h'.get? it=ap o):yM b h' it a k:=by
 cases b with
 | true=>obtain⟨o,e,p⟩:=(show h.IsListIter it a k from x);exact(show h'.IsListIter it a k from⟨o,g o e,p⟩)
 | false=>obtain⟨o,e,p⟩:=(show h.IsTupleIter it a k from x);exact(show h'.IsTupleIter it a k from⟨o,g o e,p⟩)
def kO.move(x:kO b h a xs)(g:∀o,h.get? a=ap o->h'.get? a=ap o):kO b h' a xs:=by
 cases b with
 | true=>obtain⟨o,e,p⟩:=(show h.IsList a xs from x);exact(show h'.IsList a xs from⟨o,g o e,p⟩)
 | false=>obtain⟨o,e,p⟩:=(show h.IsTuple a xs from x);exact(show h'.IsTuple a xs from⟨o,g o e,p⟩)
def yM.obj(x:yM b h it a k):∃o,h.get? it=ap o/\∀v,o.data≠.cell v:=by
 cases b with
 | true=>obtain⟨o,e,_,d⟩:=(show h.IsListIter it a k from x);exact⟨o,e,λv z=>by rw[d]at z;cases z⟩
 | false=>obtain⟨o,e,_,d⟩:=(show h.IsTupleIter it a k from x);exact⟨o,e,λv z=>by rw[d]at z;cases z⟩
def kO.lt(x:kO b h a xs):a < h.objs.size:=by
 cases b with
 | true=>obtain⟨o,e,p⟩:=(show h.IsList a xs from x);exact Aw e
 | false=>obtain⟨o,e,p⟩:=(show h.IsTuple a xs from x);exact Aw e
section
def nB(h:yM b s.heap it t i)(ht:kO b s.heap t items)(hx:items[i]?=ap x)
  (q:∀h':pr,yM b h' it t (i+1)->B1 it s.heap h'->Q x {s with heap:=h'}):db (ev prog w) A (Builtin.SmallTypes.nextOf (.ref it)) Q E s:=by
 cases b with
 | true=>exact wpAny_nextOf_list_item h ht hx λh' a b=>q h' a b
 | false=>exact j5 h ht hx q
def xh(hA:A.handled=bm)(h:yM b s.heap it t i)(ht:kO b s.heap t items)(hx:items[i]?=bm)
  (q:∀(h':pr) (e:ci),EZ it s.heap h'->(∃o,h'.get? e=ap o/\o.cls=.type "StopIteration")->E (.ref e) {s with heap:=h'}):db (ev prog w) A (Builtin.SmallTypes.nextOf (.ref it)) Q E s:=by
 cases b with
 | true=>exact wpAny_nextOf_list_end hA h ht hx λh' e a b=>q h' e a b
 | false=>exact kZ hA h ht hx q
def S4:Bool->String
 | true=>"list_iterator"
 | false=>"tuple_iterator"
def Gr(h:kO b s.heap a xs)(q:Q (.ref s.heap.objs.size) {s with heap:=s.heap.push {cls:=.type (S4 b),data:=.fields #[.ref a,.int 0 0]}}):db (ev prog w) A (pyIter (.ref a)) Q E s:=by
 cases b with
 | true=>exact Dg h q
 | false=>exact Dz h q
def Qg(e:h.get? it=ap {cls:=.type (S4 b),data:=.fields #[.ref a,.int 0 0]}):yM b h it a 0:=by
 cases b with
 | true=>exact(show h.IsListIter it a 0 from⟨_,e,rfl,rfl⟩)
 | false=>exact(show h.IsTupleIter it a 0 from⟨_,e,rfl,rfl⟩)
end
structure mN(b1 b2:Bool)(h:pr)(z TI TO i1 i2 a1 a2:ci)(f0:ce)(k1 k2:Nat):Prop where
 zip:IsZip h z TI TO f0
 ti:IsPair h TI (.ref i1) (.ref i2)
 to:∃a b,IsPair h TO a b
 it1:yM b1 h i1 a1 k1
 it2:yM b2 h i2 a2 k2
def wH{E:ce->cr->Prop}{b2:Bool}{TI TO:ci}{y:ce}(hA:ZipApart z TI TO i1 i2 a1 a2)
  (hz:mN b1 b2 s.heap z TI TO i1 i2 a1 a2 .none k1 k2) (é:kO b1 s.heap a1 xs) (Oq:kO b2 s.heap a2 ys) (hx:xs[k1]?=ap x) (hy:ys[k2]?=ap y)
  (q:∀h':pr,mN b1 b2 h' z TI TO i1 i2 a1 a2 (tz s.heap.objs.size) (k1+1) (k2+1)->IsPair h' s.heap.objs.size x y->(∀c o,c≠z->c≠TO->c≠i1->c≠i2->s.heap.get? c=ap o->h'.get? c=ap o)->Q (.ref s.heap.objs.size) {s with heap:=h'}) :
  db (ev prog w) A (wP.«zip.__next__» {pos:=[.ref z]}) (λfin s'=>∃v,fin=FI (Gd v)/\Q v s') E s:=by
 obtain⟨hz,Ý,⟨ta,tb,ţ⟩,Ņ,Ď⟩:=hz;show db _ _ (field (.ref z) 2 >>= λr=>_) _ _ s;refine Aa (A7 hz rfl rfl ?_);refine Aa (A7 hz rfl rfl ?_);refine Aa (BK Ý rfl ?_);refine Aa ?_;refine Aa (A7 hz rfl rfl ?_);refine Af ?_;refine Aa (Dl ?_);refine Aa (A7 hz rfl rfl ?_);show db _ _ (wS (.ref z) 0 .ellipsis >>= λr=>_) _ _ s;refine Aa (Bp hz (show 0 < 5 by decide) λh1 z1 b1=>?_);show db _ _ ((forIn [(AB i1,0),(AB i2,1)] _ _) >>= λr=>_) _ _ _;refine Aa ?_;rw[Cg];have zH:=b1.2;refine Aa ?_;refine Aa (E5 ?_);refine Aa (nB (Ņ.move λo e=>(zH _ hA.i1z).trans e) (é.move λo e=>(zH _ hA.l1z).trans e) hx λh2 j2 b2=>Af ?_);have XO:∀b,b≠z->b≠i1->h2.get? b=s.heap.get? b:=λb n1 n2=>(b2.2 b n2).trans (zH b n1);have đ:=(XO _ hA.TOz hA.TOi1).trans ţ;refine Aa (BK đ rfl ?_);refine Aa (Ed đ λh3 t3 b3=>?_);have Î:∀b,b≠z->b≠i1->b≠TO->h3.get? b=s.heap.get? b:=λb n1 n2 n3=>(b3.2 b n3).trans (XO b n1 n2);refine Aa (C0 (Af ?_));show db _ _ (forIn [(AB i2,1)] _ _) _ _ _;rw[Cg];refine Aa ?_;refine Aa (E5 ?_);refine Aa (nB (Ď.move λo e=>(Î _ hA.i2z hA.i12.symm hA.TOi2.symm).trans e) (Oq.move λo e=>(Î _ hA.l2z hA.l2i1 hA.l2TO).trans e) hy λh4 j4 b4=>Af ?_);have to4:=(b4.2 _ hA.TOi2).trans t3;refine Aa (BK to4 rfl ?_);refine Aa (Ed to4 λh5 t5 b5=>?_);have to5:=t5;refine Aa (C0 (Af ?_));refine Af ?_;refine Aa (BK to5 rfl ?_);have Ŗ:=b5.1.trans (b4.1.trans (b3.1.trans (b2.1.trans b1.1)));refine Aa (Dm ?_ (by show 2<=sizeLine;decide));have ajC:∀b,b≠z->b≠i1->b≠TO->b≠i2->h5.get? b=s.heap.get? b:=λb n1 n2 n3 n4=>(b5.2 b n3).trans ((b4.2 b n4).trans (Î b n1 n2 n3));have z5:h5.get? z=ap {cls:=.type "zip",data:=.fields #[.ellipsis,.bool false,.bool false,.ref TI,.ref TO]}:=(b5.2 _ hA.TOz.symm).trans ((b4.2 _ hA.i2z.symm).trans ((b3.2 _ hA.TOz.symm).trans ((b2.2 _ hA.i1z.symm).trans z1)));have kp:∀b o,h5.get? b=ap o->(h5.push {cls:=.type "tuple",data:=.seq #[x,y]}).get? b=ap o:=λb o e=>Ag _ e;have amM:(h5.push {cls:=.type "tuple",data:=.seq #[x,y]}).get? h5.objs.size=ap {cls:=.type "tuple",data:=.seq #[x,y]}:=Ar _ rfl;refine Aa ?_;show db _ _ (wS (.ref z) 0 (tz h5.objs.size) >>= λ_=>wS (.ref z) 1 (.bool false)) _ _ _;refine Aa (Bp (kp _ _ z5) (show 0 < 5 by decide) λh7 z7 b7=>?_);refine Bp z7 (show 1 < 5 by decide) λh8 z8 b8=>?_;have Tj:∀b,b≠z->h8.get? b=(h5.push {cls:=.type "tuple",data:=.seq #[x,y]}).get? b:=λb n=>(b8.2 b n).trans (b7.2 b n);have nz:s.heap.objs.size≠z:=λe=>by have:=Aw hz;rw[<- e]at this;exact Ba _ this
 refine Af ⟨.ref h5.objs.size,rfl,?_⟩;rw[Ŗ];refine q h8 ⟨?_,?_,?_,?_,?_⟩ ?_ ?_
 ·rw[<- Ŗ];exact z8
 ·rw[IsPair,Tj _ hA.TIz];exact kp _ _ ((ajC _ hA.TIz hA.TIi1 hA.TITO hA.TIi2).trans Ý)
 ·exact⟨x,y,by rw[IsPair,Tj _ hA.TOz];exact kp _ _ to5⟩
 ·refine j2.move λo e=>?_;rw[Tj _ hA.i1z];exact kp _ _ ((b5.2 _ hA.TOi1.symm).trans ((b4.2 _ hA.i12).trans ((b3.2 _ hA.TOi1.symm).trans e)))
 ·refine j4.move λo e=>?_;rw[Tj _ hA.i2z];exact kp _ _ ((b5.2 _ hA.TOi2.symm).trans e)
 ·rw[IsPair,Tj _ nz,<- Ŗ];exact amM
 ·intro c o n1 n2 n3 n4 e;rw[Tj _ n1];exact kp _ _ ((ajC _ n1 n3 n2 n4).trans e)
def yV{b2:Bool}{TI TO:ci}{Q:PySem.Fin->cr->Prop}(hh:A.handled=bm)(hA:ZipApart z TI TO i1 i2 a1 a2)
  (hz:mN b1 b2 s.heap z TI TO i1 i2 a1 a2 .none k1 k2) (é:kO b1 s.heap a1 xs) (Oq:kO b2 s.heap a2 ys) (hx:xs[k1]?=bm\/ys[k2]?=bm)
  (q:∀(h':pr) (e:ci),(∀c o,c≠z->c≠TO->c≠i1->c≠i2->s.heap.get? c=ap o->h'.get? c=ap o)->(∃o,h'.get? e=ap o/\o.cls=.type "StopIteration")->E (.ref e) {s with heap:=h'}) :
  db (ev prog w) A (wP.«zip.__next__» {pos:=[.ref z]}) Q E s:=by
 obtain⟨hz,Ý,⟨ta,tb,ţ⟩,Ņ,Ď⟩:=hz;show db _ _ (field (.ref z) 2 >>= λr=>_) _ _ s;refine Aa (A7 hz rfl rfl ?_);refine Aa (A7 hz rfl rfl ?_);refine Aa (BK Ý rfl ?_);refine Aa ?_;refine Aa (A7 hz rfl rfl ?_);refine Af ?_;refine Aa (Dl ?_);refine Aa (A7 hz rfl rfl ?_);show db _ _ (wS (.ref z) 0 .ellipsis >>= λr=>_) _ _ s;refine Aa (Bp hz (show 0 < 5 by decide) λh1 z1 b1'=>?_);show db _ _ ((forIn [(AB i1,0),(AB i2,1)] _ _) >>= λr=>_) _ _ _;refine Aa ?_;rw[Cg];have zH:=b1'.2;refine Aa ?_;refine Aa (E5 ?_);have fin:∀{h2:pr}{e:ci}{R:ce->cr->Prop},h2.get? z=ap {cls:=.type "zip",data:=.fields #[.ellipsis,.bool false,.bool false,.ref TI,.ref TO]}->(∃o,h2.get? e=ap o/\o.cls=.type "StopIteration")->(∀c o,c≠z->c≠TO->c≠i1->c≠i2->s.heap.get? c=ap o->h2.get? c=ap o)->db (ev prog w) A (wS (.ref z) 0 .none) (λ_ s'=>E (.ref e) s') R {s with heap:=h2}:=λ{h2 e R} z2 ex k=>by
  refine Bp z2 (show 0 < 5 by decide) λh3 z3 b3=>?_;refine q h3 e (λc o n1 n2 n3 n4 ec=>?_) ?_
  ·rw[b3.2 _ n1];exact k c o n1 n2 n3 n4 ec
  ·obtain⟨o,eo,hc⟩:=ex;by_cases he:e=z
   ·subst he;rw[z2]at eo;cases eo;exact absurd (show C1 "zip"=C1 "StopIteration" from hc) ⋯
   ·exact⟨o,(b3.2 _ he).trans eo,hc⟩
 cases hx1:xs[k1]? with
 | none=>
  refine Aa (xh hh (Ņ.move λo e=>(zH _ hA.i1z).trans e) (é.move λo e=>(zH _ hA.l1z).trans e) hx1 λh2 e k ex=>?_);exact fin (k _ _ hA.i1z.symm z1) ex λc o n1 n2 n3 n4 ec=>k _ _ n3 ((zH _ n1).trans ec)
 | some x=>
  have hy:ys[k2]?=bm:=by
   rcases hx with h | h
   ·rw[hx1]at h;cases h
   ·exact h
  refine Aa (nB (Ņ.move λo e=>(zH _ hA.i1z).trans e) (é.move λo e=>(zH _ hA.l1z).trans e) hx1 λh2 j2 ŋ=>Af ?_);have XO:∀b,b≠z->b≠i1->h2.get? b=s.heap.get? b:=λb n1 n2=>(ŋ.2 b n2).trans (zH b n1);have đ:=(XO _ hA.TOz hA.TOi1).trans ţ;refine Aa (BK đ rfl ?_);refine Aa (Ed đ λh3 t3 b3=>?_);have Î:∀b,b≠z->b≠i1->b≠TO->h3.get? b=s.heap.get? b:=λb n1 n2 n3=>(b3.2 b n3).trans (XO b n1 n2);refine Aa (C0 (Af ?_));refine Aa ?_;refine Aa (E5 ?_);show db _ _ (Builtin.SmallTypes.nextOf (.ref i2) >>= λv=>pure (ap v)) _ _ _;refine Aa (xh hh (Ď.move λo e=>(Î _ hA.i2z hA.i12.symm hA.TOi2.symm).trans e) (Oq.move λo e=>(Î _ hA.l2z hA.l2i1 hA.l2TO).trans e) hy λh4 e k ex=>?_);exact fin (k _ _ hA.i2z.symm ((b3.2 _ hA.TOz.symm).trans ((ŋ.2 _ hA.i1z.symm).trans z1))) ex λc o n1 n2 n3 n4 ec=>k _ _ n4 ((Î _ n1 n3 n2).trans ec)
def tL{b2:Bool}{TI TO:ci}{y:ce}{Q:Option ce->cr->Prop}(hA:ZipApart z TI TO i1 i2 a1 a2)
  (hz:mN b1 b2 s.heap z TI TO i1 i2 a1 a2 .none k1 k2) (é:kO b1 s.heap a1 xs) (Oq:kO b2 s.heap a2 ys) (hx:xs[k1]?=ap x) (hy:ys[k2]?=ap y)
  (q:∀h':pr,mN b1 b2 h' z TI TO i1 i2 a1 a2 (tz s.heap.objs.size) (k1+1) (k2+1)->IsPair h' s.heap.objs.size x y->(∀c o,c≠z->c≠TO->c≠i1->c≠i2->s.heap.get? c=ap o->h'.get? c=ap o)->Q (ap (.ref s.heap.objs.size)) {s with heap:=h'}) :
  db (ev prog w) A (KB (.ref z)) Q E s:=by
 have ty:s.TypeIs (.ref z) "zip":=⟨_,hz.zip,rfl⟩;refine Aa (CO (AX ty Eg (A8 Eg ty F.entry_zip_next ?_ (F.args_zip_next_1 _))));exact wH hA hz é Oq hx hy λh' a b c=>Af (q h' a b c)
def vk{b2:Bool}{TI TO:ci}{Q:Option ce->cr->Prop}(hh:A.handled=bm)(hA:ZipApart z TI TO i1 i2 a1 a2)
  (hz:mN b1 b2 s.heap z TI TO i1 i2 a1 a2 .none k1 k2) (é:kO b1 s.heap a1 xs) (Oq:kO b2 s.heap a2 ys) (hx:xs[k1]?=bm\/ys[k2]?=bm)
  (q:∀h':pr,(∀c o,c≠z->c≠TO->c≠i1->c≠i2->s.heap.get? c=ap o->h'.get? c=ap o)->Q bm {s with heap:=h'}) :
  db (ev prog w) A (KB (.ref z)) Q E s:=by
 have ty:s.TypeIs (.ref z) "zip":=⟨_,hz.zip,rfl⟩;refine Aa (CO (AX ty Eg (A8 Eg ty F.entry_zip_next ?_ (F.args_zip_next_1 _))));refine yV (A:=A.in1) hh hA hz é Oq hx λh' e k ex=>?_;obtain⟨o,eo,hc⟩:=ex;refine Aa (Dp (T:="StopIteration") ⟨o,eo,hc⟩ isSubtype_stop ?_);exact Af (q h' k)
def xl(b1 b2:Bool)(a1 a2:ci)(xs ys:Array ce):Meets (wP.«zip.__new__» {pos:=[.type "zip",.ref a1,.ref a2]}) (λ_ R s=>kO b1 s.heap a1 xs/\kO b2 s.heap a2 ys/\
  ∀h':pr,mN b1 b2 h' (s.heap.objs.size+4) (s.heap.objs.size+2) (s.heap.objs.size+3) s.heap.objs.size (s.heap.objs.size+1) a1 a2 .none 0 0->(∀b o,s.heap.get? b=ap o->h'.get? b=ap o)->R (.ok (.ret (.ref (s.heap.objs.size+4)))) {s with heap:=h'}):=
 .of_wp λprog w A R s h=>by
  obtain⟨h1,h2,q⟩:=h;refine Aa ?_;refine Aa (CJ (a:=true) rfl ?_);refine Aa (CJ sub_zip ?_);refine Af ?_;refine Aa ?_;refine Aa ?_;rw[Cg];refine Aa ?_;refine Aa (Bj (Gr h1 (Af ?_)));have k1:∀b o,s.heap.get? b=ap o->(s.heap.push {cls:=.type (S4 b1),data:=.fields #[.ref a1,.int 0 0]}).get? b=ap o:=λb o e=>Ag _ e;have g1:(s.heap.push {cls:=.type (S4 b1),data:=.fields #[.ref a1,.int 0 0]}).get? s.heap.objs.size=ap {cls:=.type (S4 b1),data:=.fields #[.ref a1,.int 0 0]}:=Ar _ rfl;have z1:(s.heap.push {cls:=.type (S4 b1),data:=.fields #[.ref a1,.int 0 0]}).objs.size=s.heap.objs.size+1:=CT ..;generalize s.heap.push {cls:=.type (S4 b1),data:=.fields #[.ref a1,.int 0 0]}=IJ at k1 g1 z1 ⊢;show db _ _ (forIn [AB a2] _ _) _ _ _;rw[Cg];refine Aa ?_;refine Aa (Bj (Gr (xs:=ys) (h2.move λo e=>k1 _ _ e) (Af ?_)));show db _ _ (forIn [] _ _) _ _ _;rw[List.forIn_nil];refine Af (Af ?_);have k2:∀b o,IJ.get? b=ap o->(IJ.push {cls:=.type (S4 b2),data:=.fields #[.ref a2,.int 0 0]}).get? b=ap o:=λb o e=>Ag _ e;have g2:(IJ.push {cls:=.type (S4 b2),data:=.fields #[.ref a2,.int 0 0]}).get? IJ.objs.size=ap {cls:=.type (S4 b2),data:=.fields #[.ref a2,.int 0 0]}:=Ar _ rfl;have z2:(IJ.push {cls:=.type (S4 b2),data:=.fields #[.ref a2,.int 0 0]}).objs.size=IJ.objs.size+1:=CT ..;show db _ _ (newTuple [.ref s.heap.objs.size,.ref IJ.objs.size] >>= λr=>_) _ _ {s with heap:=IJ.push {cls:=.type (S4 b2),data:=.fields #[.ref a2,.int 0 0]}};generalize IJ.push {cls:=.type (S4 b2),data:=.fields #[.ref a2,.int 0 0]}=II at k2 g2 z2 ⊢;refine Aa (Dm ?_ (by show 2<=sizeLine;decide));have k3:∀b o,II.get? b=ap o->(II.push {cls:=.type "tuple",data:=.seq [AB s.heap.objs.size,AB IJ.objs.size].toArray}).get? b=ap o:=λb o e=>Ag _ e;have g3:(II.push {cls:=.type "tuple",data:=.seq [AB s.heap.objs.size,AB IJ.objs.size].toArray}).get? II.objs.size=ap {cls:=.type "tuple",data:=.seq #[.ref s.heap.objs.size,.ref IJ.objs.size]}:=Ar _ rfl;have z3:(II.push {cls:=.type "tuple",data:=.seq [AB s.heap.objs.size,AB IJ.objs.size].toArray}).objs.size=II.objs.size+1:=CT ..;show db _ _ (newTuple [.none,.none] >>= λr=>_) _ _ {s with heap:=II.push {cls:=.type "tuple",data:=.seq [AB s.heap.objs.size,AB IJ.objs.size].toArray}};generalize II.push {cls:=.type "tuple",data:=.seq [AB s.heap.objs.size,AB IJ.objs.size].toArray}=Tc at k3 g3 z3 ⊢;refine Aa (Dm ?_ (by show 2<=sizeLine;decide));have k4:∀b o,Tc.get? b=ap o->(Tc.push {cls:=.type "tuple",data:=.seq [AU,AU].toArray}).get? b=ap o:=λb o e=>Ag _ e;have g4:(Tc.push {cls:=.type "tuple",data:=.seq [AU,AU].toArray}).get? Tc.objs.size=ap {cls:=.type "tuple",data:=.seq #[.none,.none]}:=Ar _ rfl;have z4:(Tc.push {cls:=.type "tuple",data:=.seq [AU,AU].toArray}).objs.size=Tc.objs.size+1:=CT ..;show db _ _ (newObj (.type "zip") (.fields #[.none,.bool false,.bool false,.ref II.objs.size,.ref Tc.objs.size]) >>= λr=>_) _ _ {s with heap:=Tc.push {cls:=.type "tuple",data:=.seq [AU,AU].toArray}};generalize Tc.push {cls:=.type "tuple",data:=.seq [AU,AU].toArray}=hp4 at k4 g4 z4 ⊢;refine Aa (AO ?_ (by simp[sizeOk];decide));have k5:∀b o,hp4.get? b=ap o->(hp4.push {cls:=.type "zip",data:=.fields #[.none,.bool false,.bool false,.ref II.objs.size,.ref Tc.objs.size]}).get? b=ap o:=λb o e=>Ag _ e;have g5:(hp4.push {cls:=.type "zip",data:=.fields #[.none,.bool false,.bool false,.ref II.objs.size,.ref Tc.objs.size]}).get? hp4.objs.size=ap {cls:=.type "zip",data:=.fields #[.none,.bool false,.bool false,.ref II.objs.size,.ref Tc.objs.size]}:=Ar _ rfl;have e1:=z1;have e2:II.objs.size=s.heap.objs.size+2:=by rw[z2,e1]
  have e3:Tc.objs.size=s.heap.objs.size+3:=by rw[z3,e2]
  have e4:hp4.objs.size=s.heap.objs.size+4:=by rw[z4,e3]
  refine Af ⟨.ref hp4.objs.size,rfl,?_⟩;rw[e2,e3]at g5 k5 ⊢;rw[e4]at g5 ⊢;rw[e3]at g4;rw[e1,e2]at g3;rw[e1]at g2;refine q _ ⟨g5,k5 _ _ (k4 _ _ g3),⟨_,_,k5 _ _ g4⟩,Qg (k5 _ _ (k4 _ _ (k3 _ _ (k2 _ _ g1)))),Qg (k5 _ _ (k4 _ _ (k3 _ _ g2)))⟩ λb o e=>k5 _ _ (k4 _ _ (k3 _ _ (k2 _ _ (k1 _ _ e))))
def Ud{b2:Bool}(h1:kO b1 s.heap a1 xs)(h2:kO b2 s.heap a2 ys)
  (q:∀h':pr,mN b1 b2 h' (s.heap.objs.size+4) (s.heap.objs.size+2) (s.heap.objs.size+3) s.heap.objs.size (s.heap.objs.size+1) a1 a2 .none 0 0->(∀b o,s.heap.get? b=ap o->h'.get? b=ap o)->Q (.ref (s.heap.objs.size+4)) {s with heap:=h'}) :
  db (ev prog w) A (call (.type "zip") [.ref a1,.ref a2]) Q E s:=
 callType_new F.called_zip ⋯ (F.typeCall_zip_2 _ _) (F.newCall_zip_2 _ _) (λo=>F.args_object_init_3 o _ _) F.entry_zip_new (xl b1 b2 a1 a2 xs ys) ⟨h1,h2,λh' z k=>⟨⟨_,z.zip,rfl⟩,q h' z k⟩⟩
def UT(b:Bool)(K:Ab)(H:Hp)(a:ci)(xs:O V):Prop:=match b with
 | true=>eN K H a xs
 | false=>eW K H a xs
def Inv.sqx{xs:O V}(I:Inv X Z σ H s)(h:UT b X.K H a xs):∃aw:O ce,Vals xs aw/\kO b s.heap a aw.toArray/\xs.length<=sizeLine:=by
 cases b with
 | true=>obtain⟨aw,r,p,z⟩:=I.list (show eN X.K H a xs from h);exact⟨aw,r,p.isList,z⟩
 | false=>obtain⟨aw,r,p,z⟩:=I.tuple (show eW X.K H a xs from h);exact⟨aw,r,p,z⟩
def Inv.Qf{xs ys:O V}(I:Inv X Z σ H s)(h:UT b X.K H a xs)(h':UT b X.K H a ys):xs=ys:=by
 cases b with
 | true=>
  obtain⟨aw,k,⟨o,n,h1,h2,h3,h4⟩,_⟩:=I.list (show eN X.K H a xs from h);obtain⟨its',k',⟨o',n',iH,wq,XM,ā⟩,_⟩:=I.list (show eN X.K H a ys from h');rw[h1]at iH;cases iH;rw[h4]at ā;have:aw=its':=by injection ā with a b;simpa using a
  subst this;exact Vals.inj k k'
 | false=>exact I.oD h h'
def aki(b1 b2:Bool)(K:Ab)(a1 a2:ci):It where
 go:=λi H=>∃xs ys x y,UT b1 K H a1 xs/\UT b2 K H a2 ys/\xs[i]?=ap x/\ys[i]?=ap y
 yld:=λi H v H'=>∃p x y,v=.ref p/\H p=bm/\H'=upd H p (.tup [x,y])/\(∀xs,UT b1 K H a1 xs->xs[i]?=ap x)/\∀ys,UT b2 K H a2 ys->ys[i]?=ap y
 stop:=λi H=>∃xs ys,UT b1 K H a1 xs/\UT b2 K H a2 ys/\(xs.length<=i\/ys.length<=i)
theorem RK{K:Ab}{b2:Bool}{kk:Nat}{TI TO:ci}(hA:ZipApart z TI TO i1 i2 a1 a2):Turn P w K (.Tuple Ñ kk pos) (aki b1 b2 K a1 a2) [z,TI,TO,i1,i2] z (λi h=>mN b1 b2 h z TI TO i1 i2 a1 a2 .none i i) where
 mem:=by simp
 obj:=λi h st b hb=>by
  simp only[AA,BQ,or_false]at hb;rcases hb with rfl | rfl | rfl | rfl | rfl
  ·exact⟨_,st.zip,λv z=>by cases z⟩
  ·exact⟨_,st.ti,λv z=>by cases z⟩
  ·obtain⟨_,_,e⟩:=st.to;exact⟨_,e,λv z=>by cases z⟩
  ·exact st.it1.obj
  ·exact st.it2.obj
 keep:=λi h h' st k=>⟨k z (by simp) _ st.zip,k TI (by simp) _ st.ti,let ⟨a,b,e⟩:=st.to;⟨a,b,k TO (by simp) _ e⟩,st.it1.move λo e=>k i1 (by simp) _ e,st.it2.move λo e=>k i2 (by simp) _ e⟩
 item:=by
  intro X hP hw hK hc i Z s σ H E I hf st hg;subst hP hw hK;obtain⟨xs,ys,x,y,hx,hy,gx,gy⟩:=hg;obtain⟨aw,rx,tx,_⟩:=I.sqx hx;obtain⟨d4,ry,ty,_⟩:=I.sqx hy;obtain⟨u,gu,ru⟩:=rf rx gx;obtain⟨v,gv,rv⟩:=rf ry gy;refine tL hA st tx ty (by simpa using gu) (by simpa using gv) λh' zt np k=>?_;refine⟨_,rfl,?_⟩;refine Aa (wpAny_load zt.zip ?_);show db _ _ (if ((["enumerate","zip","dict_itemiterator","dict_reverseitemiterator","odict_iterator","itertools.zip_longest","itertools.pairwise"].contains "zip"&&(ap (tz s.heap.objs.size)==ap (tz s.heap.objs.size)))=true) then (do rule "for.unpacks-the-owned-tuple";wS (.ref z) 0 .none) else pure ()) _ _ _;rw[if_pos (by rw[beq_self_eq_true];decide)];refine Aa (Dl ?_);refine Bp zt.zip (show 0 < 5 by decide) λh2 z2 b2=>?_;have lt:∀b∈[z,TI,TO,i1,i2],b < s.heap.objs.size:=λb hb=>by
   simp only[AA,BQ,or_false]at hb;rcases hb with rfl | rfl | rfl | rfl | rfl
   ·exact Aw st.zip
   ·exact Aw st.ti
   ·obtain⟨_,_,e⟩:=st.to;exact Aw e
   ·obtain⟨o,e,_⟩:=st.it1.obj;exact Aw e
   ·obtain⟨o,e,_⟩:=st.it2.obj;exact Aw e
  have nz:s.heap.objs.size≠z:=λe=>Ba _ (by have:=lt z (by simp);rw[<- e]at this;exact this);have Ġ:∀b o,b∉[z,TI,TO,i1,i2]->s.heap.get? b=ap o->h2.get? b=ap o:=λb o hb e=>by
   have Tb:b≠z:=λq=>hb (by simp[q]);rw[b2.2 b Tb];exact k b o Tb (λq=>hb (by simp[q])) (λq=>hb (by simp[q])) (λq=>hb (by simp[q])) e
  have Ĝ:h2.get? s.heap.objs.size=ap {cls:=.type "tuple",data:=.seq #[u,v]}:=(b2.2 _ nz).trans np;have Ĩ:=I.bN.fresh (An s.heap.objs.size);refine⟨.ref s.heap.objs.size,upd H s.heap.objs.size (.tup [x,y]),I.wN (t':=s.toks) hf Ġ (An _) ⟨by show 2<=sizeLine;decide,[u,v],.cons ru (.cons rv .nil),⟨_,Ĝ,rfl,_,rfl⟩⟩,rfl,⟨_,x,y,rfl,Ĩ,rfl,λxs' h'=>?_,λys' h'=>?_⟩,⟨z2,(b2.2 _ hA.TIz).trans zt.ti,let ⟨p,q,e⟩:=zt.to;⟨p,q,(b2.2 _ hA.TOz).trans e⟩,zt.it1.move λo e=>(b2.2 _ hA.i1z).trans e,zt.it2.move λo e=>(b2.2 _ hA.i2z).trans e⟩,λb hb=>?_⟩
  ·rw[I.Qf h' hx];exact gx
  ·rw[I.Qf h' hy];exact gy
  ·rw[aD (AM (lt b hb))];exact(hf b hb).1
 done:=by
  intro X hP hw hK hc i Z s σ H E I hf st hg;subst hP hw hK;obtain⟨xs,ys,hx,hy,hl⟩:=hg;obtain⟨aw,rx,tx,_⟩:=I.sqx hx;obtain⟨d4,ry,ty,_⟩:=I.sqx hy;have el:=rx.length;have el2:=ry.length;refine vk (I.ok.hd hc) hA st tx ty ?_ λh' k=>⟨rfl,I.Hl (t':=s.toks) hf λb o hb e=>k b o (λz=>hb (by simp[z])) (λz=>hb (by simp[z])) (λz=>hb (by simp[z])) (λz=>hb (by simp[z])) e⟩;rcases hl with hl | hl
  ·exact .inl (by simp;omega)
  ·exact .inr (by simp;omega)
 self:=λA i s Q E st h=>wpAny_pyIter_zip st.zip h
def ai5(K:Ab)(t1 t2:TE):TI:=λσ H R=>t1 σ H λx H1=>t2 σ H1 λy H2=>∃b1 b2 a b,x=.ref a/\y=.ref b/\(∃xs,UT b1 K H2 a xs)/\(∃ys,UT b2 K H2 b ys)/\R (aki b1 b2 K a b) H2
def Z3(K:Ab)(hK:X.K=K){e1 e2:lc}{t2:TE}{kk:Nat}(hg:Gl X "zip")(hm:X.mg "zip"=bm)(h1:PE X e1 t1)(h2:PE X e2 t2)
  (J1:‹im [e1,e2] X.env=(false,lw e1 X.env)::im [e2] X.env›) (sC:‹iq X e2 []›) (eM:‹(BT p2 (im [e2] X.env)).any (·.1)=false›) :
  PI X (.Tuple Ñ kk tp) (.Call (.Name "zip" p1) [e1,e2] [] p2) (ai5 K t1 t2):=by
 subst hK;intro Z s σ H R I h;refine BD (jx I hg hm boot_zip ?_ ⋯ ⋯);refine Bg ?_ J1 eM;rw[J1,sC];refine Cm (bS (h1 Z s σ H _ I h) λu1 s1 ⟨x,H1,I1,r1,q1⟩=>?_);refine Cm (bS (h2 Z s1 σ H1 _ I1 q1) λu2 s2 ⟨y,H2,I2,r2,b1,b2,a,b,ex,ey,⟨xs,hx⟩,⟨ys,hy⟩,q⟩=>CI ?_);subst ex;subst ey;cases r1;cases r2;obtain⟨aw,rx,tx,_⟩:=I2.sqx hx;obtain⟨d4,ry,ty,_⟩:=I2.sqx hy;have l1:=tx.lt;have l2:=ty.lt;refine Ud tx ty λh' zt k=>?_;refine wpAny_pyIter_zip zt.zip ?_;have dd:∀i j:Nat,i≠j->s2.heap.objs.size+i≠s2.heap.objs.size+j:=λi j n e=>n (Nat.add_left_cancel e);have na:∀i:Nat,a≠s2.heap.objs.size+i:=λi=>AM (AV l1 (B4 _ _));have nb:∀i:Nat,b≠s2.heap.objs.size+i:=λi=>AM (AV l2 (B4 _ _));have hA:ZipApart (s2.heap.objs.size+4) (s2.heap.objs.size+2) (s2.heap.objs.size+3) s2.heap.objs.size (s2.heap.objs.size+1) a b:=
  ⟨dd 2 4 ⋯,dd 3 4 ⋯,dd 0 4 ⋯,dd 1 4 ⋯,dd 2 3 ⋯,dd 2 0 ⋯,dd 2 1 ⋯,dd 3 0 ⋯,dd 3 1 ⋯,dd 0 1 ⋯,na 4,na 3,na 0,na 1,nb 4,nb 3,nb 0,nb 1⟩
 refine⟨_,_,_,_,H2,rfl,I2.kept (t':=s2.toks) k,RK hA,zt,λc hc=>?_,q⟩;have ß:s2.heap.objs.size<=c:=by
  simp only[AA,BQ,or_false]at hc;rcases hc with rfl | rfl | rfl | rfl | rfl
  ·exact B4 _ _
  ·exact B4 _ _
  ·exact B4 _ _
  ·exact An _
  ·exact B4 _ _
 exact I2.xZ ß (I2.bN.fresh ß)
def ah6(K:Ab):V->Option Int->Option Int->Hp->VK->Prop:=λx lo hi H Q=>∃a xs,x=.ref a/\eW K H a xs/\
 ((HT.eE xs.length 0 lo=0/\HT.eE xs.length xs.length hi=xs.length)->Q x H)/\(¬(HT.eE xs.length 0 lo=0/\HT.eE xs.length xs.length hi=xs.length)->k6 H (.tup (zR xs lo hi)) Q)
def ZH(K:Ab)(hK:X.K=K):SlR X (ah6 K):=by
 subst hK;intro Z s σ H x v vl vu lo hi sl Q I rx hs pl pu h;obtain⟨a,xs,rfl,hT,qw,qn⟩:=h;by_cases c:HT.eE xs.length 0 lo=0/\HT.eE xs.length xs.length hi=xs.length
 ·have q:=qw c;cases rx;obtain⟨aw,r,ht,hz⟩:=I.tuple hT;have Â:aw.toArray.size=xs.length:=by rw[Ak];exact r.length.symm
  refine⟨"tuple",_,A2.lookup,ht.typeIs,?_⟩;obtain⟨os,UP,Đ,á⟩:=id hs;have ĭ:s.TypeIs (.ref sl) "slice":=⟨os,UP,Đ⟩;unfold Gc
  try with_reducible refine Bj ?_
  first | refine Aa (Af ?_) | skip
  refine Aa (E1 ht.typeIs ⋯ ?_);refine Aa (AX (name:=BO "__getitem__") ht.typeIs A2
   (A8 A2 ht.typeIs entry_tuple_getitem ?_ (args_tuple_getitem _ _)))
  show db _ _ (Builtin.Tuple.tupleItemsOf (.ref a) >>= _) _ _ s;refine Aa (tupleItemsOf_ ht ?_);refine Aa (C2 ĭ ?_);refine Aa (HT.kU hs pl pu ?_);show db _ _ (if (((HT.eE aw.toArray.size 0 lo:Nat):Int)==0&&(1:Int)==1&&(HT.eE aw.toArray.size aw.toArray.size hi-HT.eE aw.toArray.size 0 lo)==aw.toArray.size)=true then _ else _) _ _ s;rw[if_pos (by rw[Â,c.1,c.2];simp)];refine Aa ?_
  first
   | refine Aa (C2 ht.typeIs (Af ?_))
   | refine C2 ht.typeIs (Af ?_)
  first
   | rw[if_pos ⋯]
   | rw[if_pos rfl]
  refine Aa (Dl (Af ⟨_,rfl,?_⟩));exact Af ⟨.ref a,H,I,rfl,q⟩
 ·exact aec Z s σ H _ v vl vu lo hi sl Q I rx hs pl pu ⟨a,xs,rfl,hT,c,λp hp=>(qn c).at p hp⟩
def aii(K:Ab):R2:=λx y H Q=>∃a b xs ys,x=.ref a/\y=.ref b/\eW K H a xs/\eW K H b ys/\xs.length+ys.length<=sizeLine/\
 (xs=[]->Q (.ref b) H)/\(xs≠[]->ys=[]->Q (.ref a) H)/\(xs≠[]->ys≠[]->k6 H (.tup (xs++ys)) Q)
def aao(K:Ab)(hK:X.K=K):jV X (tt .Add) (aii K):=by
 subst hK;intro Z s σ H x y v u Q I rx ry h;obtain⟨a,b,xs,ys,rfl,rfl,ha,hb,hz,q0,q1,q2⟩:=h;by_cases c:xs=[]
 ·cases rx;cases ry;obtain⟨aw,r1,p1,_⟩:=I.tuple ha;obtain⟨d4,r2,p2,_⟩:=I.tuple hb;obtain⟨⟨cls,dd,data,sl⟩,ho,hc,n,hd⟩:=id p1;obtain⟨⟨ž,ã,data2,Y0⟩,Ot,XF,n2,Õ⟩:=id p2;simp only at hc hd XF Õ;subst hc hd XF Õ;exact concat_meets ⟨_,ho,rfl⟩ ⟨_,Ot,rfl⟩ noFill_tuple_add seq_tuple_add DC DA (Dv _ _)
   (tuple_addW0 a b aw.toArray d4.toArray n n2 dd ã sl Y0 (by rw[r1.lQ.mpr c];rfl)) ⟨ho,Ot,.ref b,H,I,rfl,q0 c⟩
 ·exact QE Z s σ H _ _ v u Q I rx ry ⟨a,b,xs,ys,rfl,rfl,ha,hb,c,hz,q1 c,λn p hp=>(q2 c n).at p hp⟩
end L2
variable{b:B8}
namespace FL
section
variable{K:Ab}
section
variable{a c:lc}{w:W PV}{wm:W (O PV)}
def addW:PV->PV->W PV
 | .int i,.int j=>.ret (.int (i+j))
 | .str a,.str b=>.fK (a.length+b.length<=sizeLine) (.ret (.str (a++b)))
 | .tup a,.tup b=>.fK (a.length+b.length<=sizeLine) (.ret (.tup (a++b)))
 | _,_=>.fail
def ck(hK:X.K=K)(ha:EF X K fs a wa)(hb:EF X K fs b wb):EF X K fs (.BinOp a .Add b pos) (.bind wa λx=>.bind wb λy=>addW x y):=
 ⟨PE.imp (Qx ((aaq K hK).or (aao K hK)) ha.p hb.p) λσ H Q ⟨sr,q⟩=>⟨sr,wa.mono (λx q1 u1 H1 g1 s1 v1=>⟨s1,wb.mono (λy q2 u2 H2 g2 s2 v2=>by
  have ð:=g2.vr s1 v1;cases ð with
  | int i=>
   cases v2 with
   | int j=>exact .inl ⟨_,rfl,q2 _ H2 (g1.trans g2) s2 (.int _)⟩
   | _=>exact q2.elim
  | str i=>
   cases v2 with
   | str j=>exact .inl ⟨_,rfl,q2.1,q2.2 _ H2 (g1.trans g2) s2 (.str _)⟩
   | _=>exact q2.elim
  | @tup p vs l e r=>
   cases v2 with
   | @tup p' PY l' e' r'=>
    refine .inr ⟨p,p',vs,PY,rfl,rfl,eW.of e,eW.of e',by rw[r.length,r'.length];exact q2.1,λz=>?_,λ_ z=>?_,λ_ _ q H3 s3 h3 n3=>?_⟩
    ·have z':=(PL.aO.lQ r).mp z;subst z';exact q2.2 _ H2 (g1.trans g2) s2 (.tup e' r')
    ·have z':=(PL.aO.lQ r').mp z;subst z';have q2:=q2.2;rw[Ci]at q2;exact q2 _ H2 (g1.trans g2) s2 (.tup e r)
    ·exact q2.2 _ H3 ((g1.trans g2).trans (dQ.same s3)) (s2.same s3) (.tup h3 (aO.tk s3.fM (r.append r')))
   | _=>exact q2.elim
  | _=>exact q2.elim) q1⟩) q⟩⟩
theorem oC:∀(l m:O PV),(ko l m).length=min l.length m.length
 | [],m=>by rw[ko];simp;intros;simp_all
 | x::l,[]=>by rw[ko];simp;intros;simp_all
 | x::l,y::m=>by rw[ko,Ap,oC l m];simp only[Ap];omega
def pK(l m:O PV):W (O PV):=.fK (l.length<=sizeLine) (.ret (ko l m))
def acx(h:SqI K H u l):∃(b:Bool) (a:ci) (vs:O V),u=.ref a/\aO K [] H vs l/\∀H',bQ K H H'->UT b K H' a vs:=by
 obtain⟨a,vs,e,h | h,r⟩:=h
 ·exact⟨true,a,vs,e,r,λH' t=>(t.f _ _ h).sq⟩
 ·exact⟨false,a,vs,e,r,λH' t=>eW.of (t.t _ _ h)⟩
theorem ui(hK:X.K=K){kk:Nat}(hg:Gl X "zip")(hm:X.mg "zip"=bm)(ha:IF X K fs a wl)(hb:IF X K fs b wm)
  (J1:‹im [a,b] X.env=(false,lw a X.env)::im [b] X.env›) (sC:‹iq X b []›) (eM:‹(BT p2 (im [b] X.env)).any (·.1)=false›) :
  yO X K fs (.Tuple Ñ kk tp) (.Call (.Name "zip" p1) [a,b] [] p2) (.bind wl λl=>.bind wm λm=>pK l m):=
 ⟨PI.imp (Z3 K hK hg hm ha.p hb.p J1 sC eM) λσ H R ⟨sr,q⟩=>⟨sr,wl.mono (λl q1 u1 H1 g1 s1 v1=>⟨s1,wm.mono (λm q2 u2 H2 g2 s2 v2=>by
  obtain⟨b1,a1,vs,rfl,r1,x1⟩:=acx (v1.tk (g2.fN s1));obtain⟨b2,a2,ws,rfl,r2,x2⟩:=acx v2;have tr:bQ K H2 H2:=bQ.refl H2;refine⟨b1,b2,a1,a2,rfl,rfl,⟨vs,x1 H2 tr⟩,⟨ws,x2 H2 tr⟩,q2.2 _ H2 (g1.trans g2) s2 ⟨by rw[oC];have:=q2.1;omega,λH' t=>⟨λi pp hp=>?_,vs,ws,x1 H' t,x2 H' t,?_⟩⟩⟩
  ·obtain⟨x,y,hx,hy,rfl⟩:=qW hp;obtain⟨v,h3,h4⟩:=(aO.tk t r1).get hx;obtain⟨v',XM,ā⟩:=(aO.tk t r2).get hy;refine⟨⟨vs,ws,v,v',x1 H' t,x2 H' t,h3,XM⟩,λz H3 yl=>?_⟩;obtain⟨p,x',y',rfl,hn,rfl,e1,e2⟩:=yl;have e1:=e1 vs (x1 H' t);have e2:=e2 ws (x2 H' t);rw[h3]at e1;rw[XM]at e2;cases e1;cases e2;have sm:=kW hn (.tup [v,v']);exact⟨sm,.tup aW (.cons (VR.tk sm.fM h4) (.cons (VR.tk sm.fM ā) .nil))⟩
  ·rw[oC,r1.length,r2.length];omega) q1⟩) q⟩⟩
variable{el eh:Option lc}{lo:W (Option Int)}
def wX(x:PV)(i j:Option Int):W PV:=match x with
 | .tup l=>.ret (.tup (hV l i j))
 | _=>.fail
def Ub{i j:Option Int}(h:HT.eE l.length 0 i=0/\HT.eE l.length l.length j=l.length):hV l i j=l:=by
 unfold hV;rw[h.1,h.2];simp
def yj(hK:X.K=K)(he:EF X K fs e w)(hl:OF X K fs el lo)(hh:OF X K fs eh hi):EF X K fs (.Subscript e (.Slice el eh bm p2) pos) (.bind w λx=>.bind lo λi=>.bind hi λj=>wX x i j):=⟨PE.imp (KC (ZH K hK) he.p hl.p hh.p) λσ H Q ⟨sr,q⟩=>⟨sr,w.mono (λx q1 u1 H1 g1 s1 v1=>⟨s1,lo.mono (λi q2 H2 g2 s2=>⟨s2,hi.mono (λj q3 H3 g3 s3=>by
 have ð:=g3.vr s2 (g2.vr s1 v1);have gg:=(g1.trans g2).trans g3;cases ð with
 | @tup p vs l e r=>
  have Â:=r.length;refine⟨p,vs,rfl,eW.of e,λc=>?_,λc q H4 s4 h4 n4=>?_⟩
  ·rw[Â]at c;have q3:(bd (PV.tup (hV l i j))).run _:=q3;rw[Ub c]at q3;exact q3 _ H3 gg s3 (.tup e r)
  ·exact q3 _ H4 (gg.trans (dQ.same s4)) (s3.same s4) (.tup h4 (aO.tk s4.fM (r.cut i j)))
 | _=>exact q3.elim) q2⟩) q1⟩) q⟩⟩
end
end
end FL
variable{vs:O Be}
namespace L2
def aq4:O Int->Int
 | []=>0
 | x::l=>l.foldl max x
def tS:O Int->Int
 | []=>0
 | x::l=>l.foldl min x
theorem Jd(l:O Int)(x:Int):l.foldl min x<=x/\(∀y∈l,l.foldl min x<=y)/\(l.foldl min x=x\/l.foldl min x∈l):=by
 induction l generalizing x with
 | nil=>exact⟨Ct _,by simp,.inl rfl⟩
 | cons y l ih=>
  obtain⟨h1,h2,h3⟩:=ih (min x y);refine⟨by rw[Dx];omega,λz hz=>?_,?_⟩
  ·rw[Dx];rcases AA.mp hz with rfl | hz
   ·omega
   ·exact h2 z hz
  ·rw[Dx];rcases h3 with h3 | h3
   ·rw[h3];by_cases c:y<=x
    ·right;rw[Int.min_eq_right c];exact .head _
    ·left;omega
   ·exact .inr (.tail _ h3)
def v8{l:O Int}{x:Int}(h:x∈l):tS l<=x:=by
 cases l with
 | nil=>cases h
 | cons y l=>
  rcases AA.mp h with rfl | h
  ·exact(Jd l _).1
  ·exact(Jd l y).2.1 x h
def rM{l:O Int}(h:l≠[]):tS l∈l:=by
 cases l with
 | nil=>exact absurd rfl h
 | cons y l=>
  rcases (Jd l y).2.2 with e | e
  ·show l.foldl min y∈_;rw[e];exact .head _
  ·exact .tail _ e
def V4(K:Ab)(C:O Int->Prop)(g:O Int->Int):O V->Hp->VK->Prop:=λxs H Q=>∃(p:ci) (ns:O Int),xs=[.ref p]/\eN K H p (ns.map V.int)/\C ns/\Q (.int (g ns)) H
section
theorem QN{xs:Array (Int×Tok)}(MK:ns=xs.toList.map (·.1))(Td:ns≠[]):numAt xs (argBest (λi j=>decide (numAt xs i < numAt xs j)) (xs.size-1))=tS ns:=by
 have hsz:0 < xs.size:=by
  have h3:0 < ns.length:=CP.mpr Td;rw[MK,Ae,Cf]at h3;exact h3
 obtain⟨h1,h2⟩:=argBest_lt (numAt xs) (xs.size-1);apply FA
 ·have hm:=rM Td;rw[MK]at hm;obtain⟨j,hj,ej⟩:=mem_getD hm;rw[Ae,Cf]at hj;rw[<- MK]at ej;rw[<- ej,MK,<- numAt_eq];exact h2 j ∅
 ·refine v8 ?_;rw[MK,numAt_eq];exact getD_mem (by rw[Ae,Cf];omega)
def Sq{l:ci}(hh:A.handled=bm)(hl:s.heap.IsList l vs.toArray)(hi:ww vs ns)(Td:ns≠[])
  (h:∀(h':pr) (t:Tok) tk,(∀b o,s.heap.get? b=ap o->h'.get? b=ap o)->Q (.int (tS ns) t) {s with heap:=h',toks:=tk}):db (ev prog w) A (call (.builtin "min") [.ref l]) Q E s:=by
 obtain⟨xs,e⟩:=hi.allInts.items;have MK:ns=xs.toList.map (·.1):=by rw[<- hi.numsOf,<- nums_intItems,<- e]
 have hsz:0 < xs.size:=by
  have h3:0 < ns.length:=CP.mpr Td;rw[MK,Ae,Cf]at h3;exact h3
 rw[e]at hl;refine min_intList hh hl hsz λv h' tk hv hk=>?_;obtain⟨t,rfl⟩:=intItems_at hv;rw[QN MK Td];exact h h' t tk hk
def RN{l:ci}(hh:A.handled=bm)(hl:s.heap.IsList l vs.toArray)(hi:ww vs ns)
  (h:∀(h':pr) (t:Tok) tk,(∀b o,s.heap.get? b=ap o->h'.get? b=ap o)->Q (.int ns.sum t) {s with heap:=h',toks:=tk}):db (ev prog w) A (call (.builtin "sum") [.ref l]) Q E s:=by
 obtain⟨xs,e⟩:=hi.allInts.items;have MK:ns=xs.toList.map (·.1):=by rw[<- hi.numsOf,<- nums_intItems,<- e]
 rw[e]at hl;refine sum_intListG hh hl λh' tk t' hk=>?_;have:=h h' t' tk hk;rw[preSum_eq,DM (by simp),<- MK];exact this
end
def G4{b:String}{C:O Int->Prop}{g:O Int->Int}(K:Ab)(hK:X.K=K)(hc:X.calm=true)
  (ä:∀{s:cr}{l:ci}{vs:O ce}{ns:O Int}{Q:ce->cr->Prop},X.A.handled=bm->s.heap.IsList l vs.toArray->ww vs ns->C ns->(∀(h':pr) (t:Tok) tk,(∀b o,s.heap.get? b=ap o->h'.get? b=ap o)->Q (.int (g ns) t) {s with heap:=h',toks:=tk})->db (ev X.prog X.w) X.A (call (.builtin b) [.ref l]) Q X.xe s):cC X (.builtin b) (V4 K C g):=by
 subst hK;intro Z s σ H xs us Q I r h;obtain⟨p,ns,rfl,hq,hC,q⟩:=h;obtain⟨u,rfl,rx⟩:=vals1 r;cases rx;obtain⟨aw,r',pl,hz⟩:=I.list hq;exact ä (I.ok.hd hc) pl.isList (intsAre_of r') hC λh' t tk hk=>⟨.int _,H,I.kept (t':=tk) hk,⟨t,rfl⟩,q⟩
end L2
variable{x:PL.PV}
namespace FL
section
variable{K:Ab}
section
open Classical in
noncomputable def MN(K:Ab)(H:Hp)(x:PV)(w:ce):Bool:=decide (∃p v,RelV v w/\VR K [] H v p/\kS p x=true)
open Classical in
def Yd(hK:X.K=K)(I:Inv X Z σ H s){x p:PV}{v:V}{w:ce}(r:RelV v w)(h:VR K [] H v p):MN K H x w=kS p x:=by
 subst hK;cases e:kS p x with
 | true=>exact decide_eq_true ⟨p,v,r,h,e⟩
 | false=>
  refine decide_eq_false ?_;rintro⟨p',v',r',h',e'⟩;have:=VW r r';subst this;rw[VR.XZ I h h',e']at e;cases e
theorem sL(hK:X.K=K)(I:Inv X Z σ H s):∀{vs:O V}{aw:O ce}{l:O PV},Vals vs aw->aO K [] H vs l->aw.map (MN K H x)=l.map λy=>kS y x
 | _,_,_,.nil,.nil=>rfl
 | _,_,_,.cons r t,.cons q z=>by rw[Aq,Aq,Yd hK I r q,sL hK I t z]
def vF(x:PV)(l:O PV):Prop:=PV.mm x=true/\gE l=true/\fe l<=150
theorem qH(hK:X.K=K)(I:Inv X Z σ H s){v:V}{w:ce}(hx:VR K [] H v x)(rx:RelV v w)(dx:PV.mm x=true)(hu:A.units+150+1 < ss) :
  ∀{vs:O V}{aw:O ce}{l:O PV},Vals vs aw->aO K [] H vs l->gE l=true->fe l<=150->∀u∈aw,DY A s u w (MN K H x u)
 | _,_,_,.nil,.nil,_,_,u,hu=>by cases hu
 | _,_,_,.cons r t,.cons q z,d,dd,u,hm=>by
  rw[gE,A1]at d;rw[fe]at dd;rcases AA.mp hm with rfl | hm
  ·rw[Yd hK I r q];exact(agf hK I 150 _ x A _ v _ w ∅ d.1 dx q hx r rx hu).eq
  ·exact qH hK I hx rx dx hu t z d.2 ∅ u hm
end
def qB(x:PV)(l:O PV):Bool:=l.any λy=>kS y x
def ZS(K:Ab)(neg:Bool):R2:=λx y H Q=>∃p vs l xp,y=.ref p/\(eN K H p vs\/eW K H p vs)/\aO K [] H vs l/\VR K [] H x xp/\vF xp l/\Q (.bl (if neg then !qB xp l else qB xp l)) H
section
theorem any_map'(f:α->Bool):∀l:List α,l.any f=(l.map f).any id
 | []=>rfl
 | x::l=>by rw[BZ,Aq,BZ,any_map' f l];rfl
theorem Nv(K:Ab)(hK:X.K=K)(hu:X.A.units+200 < ss):jV X (nw .In) (ZS K false):=by
 intro Z s σ H x y v u Q I rx ry h;obtain⟨p,vs,l,xp,rfl,hq,hl,hx,ok,q⟩:=h;cases ry;have UO:X.A.in1.units+150+1 < ss:=by show X.A.units+1+150+1 < _;omega
 have fin:∀{aw:O ce},Vals vs aw->aw.toArray.any (MN K H xp)=qB xp l:=λ{aw} r=>by
  rw[show aw.toArray.any (MN K H xp)=aw.any (MN K H xp) by simp,any_map',sL hK I r hl,<- any_map'];rfl
 rcases hq with hq | hq
 ·obtain⟨aw,r,pl,hz⟩:=I.list (show eN X.K H p vs by rw[hK];exact hq);refine SeqAt.in_listAt (MN K H xp) pl.isList (λw hw=>qH hK I hx rx ok.1 UO r hl ok.2.1 ok.2.2 w (by simpa using hw)) ⟨.bl _,H,I,rfl,?_⟩;rw[fin r];exact q
 ·obtain⟨aw,r,pl,hz⟩:=I.tuple (show eW X.K H p vs by rw[hK];exact hq);refine SeqAt.in_tupleAt (MN K H xp) pl (λw hw=>qH hK I hx rx ok.1 UO r hl ok.2.1 ok.2.2 w (by simpa using hw)) ⟨.bl _,H,I,rfl,?_⟩;rw[fin r];exact q
theorem aal(K:Ab)(hK:X.K=K)(hu:X.A.units+200 < ss):jV X (nw .NotIn) (ZS K true):=by
 intro Z s σ H x y v u Q I rx ry h;obtain⟨p,vs,l,xp,rfl,hq,hl,hx,ok,q⟩:=h;cases ry;have UO:X.A.in1.units+150+1 < ss:=by show X.A.units+1+150+1 < _;omega
 have fin:∀{aw:O ce},Vals vs aw->aw.toArray.any (MN K H xp)=qB xp l:=λ{aw} r=>by
  rw[show aw.toArray.any (MN K H xp)=aw.any (MN K H xp) by simp,any_map',sL hK I r hl,<- any_map'];rfl
 rcases hq with hq | hq
 ·obtain⟨aw,r,pl,hz⟩:=I.list (show eN X.K H p vs by rw[hK];exact hq);refine SeqAt.notIn_listAt (MN K H xp) pl.isList (λw hw=>qH hK I hx rx ok.1 UO r hl ok.2.1 ok.2.2 w (by simpa using hw)) ⟨.bl _,H,I,rfl,?_⟩;rw[fin r];exact q
 ·obtain⟨aw,r,pl,hz⟩:=I.tuple (show eW X.K H p vs by rw[hK];exact hq);refine SeqAt.notIn_tupleAt (MN K H xp) pl (λw hw=>qH hK I hx rx ok.1 UO r hl ok.2.1 ok.2.2 w (by simpa using hw)) ⟨.bl _,H,I,rfl,?_⟩;rw[fin r];exact q
def LA(x:PV)(l:O PV):Nat:=l.findIdx λy=>kS y x
def aid(K:Ab):V->O V->Hp->VK->Prop:=λx us H Q=>∃p vs l y q,x=.ref p/\us=[y]/\eN K H p vs/\aO K [] H vs l/\VR K [] H y q/\vF q l/\qB q l=true/\Q (.int (LA q l)) H
theorem aaE(K:Ab)(hK:X.K=K)(hu:X.A.units+200 < ss):MR X "list.index" (aid K):=by
 intro Z s σ H x vs v us Q I rx rv h;obtain⟨p,ws,l,y,q,rfl,rfl,hq,hl,hy,ok,has,qq⟩:=h;cases rx;obtain⟨u,rfl,ru⟩:=rv.one;have UO:X.A.in1.units+150+1 < ss:=by show X.A.units+1+150+1 < _;omega
 obtain⟨aw,r,⟨⟨cls,dd,data,sl⟩,n,ho,hc,hd,lj⟩,hz⟩:=I.list (show eN X.K H p ws by rw[hK];exact hq);simp only at hc hd lj;subst hc hd lj;have em:=sL (x:=q) hK I r hl;have Â:aw.length=l.length:=by rw[<- r.length,hl.length]
 have fC:LA q l < l.length:=List.findIdx_lt_length_of_exists (by simpa[qB]using has);have at':∀(j:Nat) (h1:j < aw.length) (h2:j < l.length),MN K H q aw[j]=kS l[j] q:=λj h1 h2=>by
  have e:=congrArg (λz=>z[j]?) em;simp only[Aj,Ad h1,Ad h2,CG]at e;exact Option.some.inj e
 have ê:((LA q l:Nat):Int) < 2 ^ 63-1:=by
  have h8:l.length<=sizeLine:=by rw[<- hl.length];exact hz
  have h9:(sizeLine:Int) < 2 ^ 63-1:=by decide
  omega
 refine sK F.slot_list_index ⟨_,ho,rfl⟩ F.entry_list_index (F.args_list_index_2 _ _) (SeqAt.list_indexAt p aw.toArray n bm sl u (MN K H q) (LA q l) (by rw[Ak];omega) ê ?_ ?_) ⟨ho,?_,?_⟩
 ·have h1:LA q l < aw.length:=by omega
  rw[show aw.toArray[LA q l]'(by rw[Ak];omega)=aw[LA q l] by simp,at' _ h1 fC];exact List.findIdx_getElem (w:=fC)
 ·intro m hm hmj;have h1:m < aw.length:=by rw[Ak]at hm;exact hm
  rw[show aw.toArray[m]=aw[m] by simp,at' _ h1 ∅];have:=List.not_of_lt_findIdx (p:=λy=>kS y q) (xs:=l) hmj;simpa using this
 ·intro w hw;exact qH hK I hy ru ok.1 UO r hl ok.2.1 ok.2.2 w (by simpa using hw)
 ·exact⟨.int _,H,I.tok _,⟨_,rfl⟩,qq⟩
def agd(x:PV)(l:O PV):Nat:=l.countP λy=>kS y x
theorem countP_map(f:α->Bool):∀l:List α,l.countP f=(l.map f).countP id
 | []=>rfl
 | x::l=>by rw[Aq,Fd,Fd,countP_map f l];rfl
def aih(K:Ab):V->O V->Hp->VK->Prop:=λx us H Q=>∃p vs l y q,x=.ref p/\us=[y]/\eN K H p vs/\aO K [] H vs l/\VR K [] H y q/\vF q l/\Q (.int (agd q l)) H
theorem aaH(K:Ab)(hK:X.K=K)(hu:X.A.units+200 < ss):MR X "list.count" (aih K):=by
 intro Z s σ H x vs v us Q I rx rv h;obtain⟨p,ws,l,y,q,rfl,rfl,hq,hl,hy,ok,qq⟩:=h;cases rx;obtain⟨u,rfl,ru⟩:=rv.one;have UO:X.A.in1.units+150+1 < ss:=by show X.A.units+1+150+1 < _;omega
 obtain⟨aw,r,⟨⟨cls,dd,data,sl⟩,n,ho,hc,hd,lj⟩,hz⟩:=I.list (show eN X.K H p ws by rw[hK];exact hq);simp only at hc hd lj;subst hc hd lj;refine sK F.slot_list_count ⟨_,ho,rfl⟩ F.entry_list_count (F.args_list_count_2 _ _) (SeqAt.list_countAt p aw.toArray n bm sl u (MN K H q)) ⟨ho,?_,?_⟩
 ·intro w hw;exact qH hK I hy ru ok.1 UO r hl ok.2.1 ok.2.2 w (by simpa using hw)
 ·refine⟨.int _,H,I.tok _,⟨s.toks,?_⟩,qq⟩;rw[show aw.toArray.toList=aw from rfl,countP_map,sL hK I r hl,<- countP_map];rfl
end
end
end FL
namespace L2
theorem KA(xs:O ce):∀k≤xs.length,((Av k).filterMap λ(m:Nat)=>xs.toArray[(((xs.length:Int)-1)+(m:Int)*(-1)).toNat]?)=(xs.drop (xs.length-k)).reverse
 | 0,_=>by simp
 | k+1,h=>by
  have ih:=KA xs k ∅;rw[Ek,List.filterMap_append,ih];have e:(((xs.length:Int)-1)+(k:Int)*(-1)).toNat=xs.length-(k+1):=by omega
  have h1:xs.length-(k+1) < xs.length:=by omega
  simp only[Bf,List.filterMap_nil,e];have e2:xs.toArray[xs.length-(k+1)]?=ap xs[xs.length-(k+1)]:=by simp[h1]
  rw[e2];have e3:xs.drop (xs.length-(k+1))=xs[xs.length-(k+1)]::xs.drop (xs.length-k):=by
   rw[Bz h1];congr 2;omega
  rw[e3,Dh]
section
variable{st:lc}{tl th ts:TO}{lo hi:Option lc}
def ahC(K:Ab)(te:TE)(tl th ts:TO):TE:=λσ H Q=>te σ H λx H1=>tl σ H1 λl H2=>th σ H2 λu H3=>ts σ H3 λs H4=>∃a xs,x=.ref a/\eW K H4 a xs/\l=bm/\u=bm/\s=ap (-1)/\k6 H4 (.tup xs.reverse) Q
theorem aaa(K:Ab)(hK:X.K=K)(he:PE X e te)(hl:PO X lo tl)(hu:PO X hi th)(hs:PO X (ap st) ts):PE X (.Subscript e (.Slice lo hi (ap st) p2) pos) (ahC K te tl th ts):=by
 subst hK;intro Z s σ H Q I h;refine Subscript_ (bS (he Z s σ H _ I h) λv s1 ⟨x,H1,I1,r1,q1⟩=>?_);refine wpAny_Slice (bS (hl Z s1 σ H1 _ I1 q1) λvl s2 ⟨l,H2,I2,pl,q2⟩=>bS (hu Z s2 σ H2 _ I2 q2) λvu s3 ⟨u,H3,I3,pu,q3⟩=>bS (hs Z s3 σ H3 _ I3 q3) λvs s4 ⟨c,H4,I4,ps,a,xs,ea,hx,el,eu,ec,q⟩=>?_);subst ea;subst el;subst eu;subst ec;cases r1;cases pl;cases pu;cases ps with
 | int i t=>
 have I5:Inv X Z σ H4 {s4 with heap:=s4.heap.push {cls:=.type "slice",data:=.fields #[.none,.none,.int (-1) t]}}:=I4.kept (t':=s4.toks) λb ob q=>Ag _ q;obtain⟨aw,r,ht,hz⟩:=I5.tuple hx;have Â:=r.length;refine tail_any (ops:=[.ref a,.ref s4.heap.objs.size]) ht.typeIs A2.lookup ?_ (by with_unfolding_all rfl);have hs:FH {s4 with heap:=s4.heap.push {cls:=.type "slice",data:=.fields #[.none,.none,.int (-1) t]}}.heap s4.heap.objs.size .none .none (.int (-1) t):=FH.new ..;generalize {s4 with heap:=s4.heap.push {cls:=.type "slice",data:=.fields #[.none,.none,.int (-1) t]}}=s5 at I5 ht hs;obtain⟨os,UP,Đ,á⟩:=id hs;have ĭ:s5.TypeIs (.ref s4.heap.objs.size) "slice":=⟨os,UP,Đ⟩;unfold Gc
 try with_reducible refine Bj ?_
 first | refine Aa (Af ?_) | skip
 refine Aa (E1 ht.typeIs ⋯ ?_);refine Aa (AX (name:=BO "__getitem__") ht.typeIs A2
  (A8 A2 ht.typeIs entry_tuple_getitem ?_ (args_tuple_getitem _ _)))
 show db _ _ (Builtin.Tuple.tupleItemsOf (.ref a) >>= _) _ _ s5;refine Aa (tupleItemsOf_ ht ?_);refine Aa (C2 ĭ ?_);rw[if_pos ⋯];have app:∀{Q:Int×Int×Nat->cr->Prop}{E:ce->cr->Prop}{A:Da} (n:Nat),Q ((n:Int)-1,-1,n) s5->db (ev X.prog X.w) A (Builtin.Slice.sliceApplied (.ref s4.heap.objs.size) (pure (n:Int))) Q E s5:=λ{Q E A} n hq=>by
  unfold Builtin.Slice.sliceApplied Builtin.Slice.sliceFields;refine Aa (Aa (A7 UP á (x:=.none) rfl (Aa (A7 UP á (x:=.none) rfl (Aa (A7 UP á (x:=.int (-1) t) rfl (Af ?_)))))));refine Aa (HT.jk (.int (-1) t) ?_);show db _ _ (if (((-1:Int))==0)=true then _ else _) _ _ s5;rw[if_neg ⋯];refine Aa (HT.jk .none (Aa (HT.jk .none (Aa (Af ?_)))));show db _ _ (match Builtin.Slice.sliceAdjust bm bm (-1) (n:Int) with | (lo,hi)=>pure (lo,(-1:Int),Builtin.Slice.slicePlaces lo hi (-1))) _ _ s5;have e1:Builtin.Slice.sliceAdjust bm bm (-1) (n:Int)=((n:Int)-1,-1):=by unfold Builtin.Slice.sliceAdjust;simp
  rw[e1];have e2:Builtin.Slice.slicePlaces ((n:Int)-1) (-1) (-1)=n:=by
   unfold Builtin.Slice.slicePlaces;rw[if_neg ⋯];by_cases h0:(n:Int)-1 > -1
   ·rw[if_pos h0];show(((n:Int)-1 - -1-1) / 1+1).toNat=n;rw[Int.ediv_one];omega
   ·rw[if_neg h0];show(0:Int).toNat=n;omega
  show db _ _ (pure ((n:Int)-1,(-1:Int),Builtin.Slice.slicePlaces ((n:Int)-1) (-1) (-1))) _ _ s5;rw[e2];exact Af hq
 refine Aa (app aw.toArray.size ?_);show db _ _ (if (((aw.toArray.size:Int)-1)==0&&(-1:Int)==1&&aw.toArray.size==aw.toArray.size)=true then _ else _) _ _ s5;rw[if_neg (by simp)];have hp:=KA aw aw.length (An _);rw[Cy,List.drop_zero]at hp;have Ĥ:((Av aw.toArray.size).filterMap λ(m:Nat)=>aw.toArray[(((aw.toArray.size:Int)-1)+(m:Int)*(-1)).toNat]?).toArray=aw.reverse.toArray:=by
  rw[Ak,hp]
 rw[Ĥ];have hsz:sizeOk (.seq aw.reverse.toArray):=by
  show aw.reverse.toArray.size<=sizeLine;rw[Ak,Ce];omega
 have fin:EP X Z σ Q (.ref s5.heap.objs.size) {s5 with heap:=s5.heap.push {cls:=.type "tuple",data:=.seq aw.reverse.toArray}}:=
  ⟨.ref s5.heap.objs.size,_,I5.laid (t':=s5.toks) (o:=.tup xs.reverse) (λb ob q=>Ag _ q) (An _) ⟨by rw[Ce];exact hz,_,r.w9,FV _ _⟩,rfl,q.at _ (I5.bN.fresh (An _))⟩
 first
  | exact Aa (m:=Builtin.Tuple.tupleExact _) (AO (Af ⟨_,rfl,Af fin⟩) hsz)
  | exact Aa (m:=Builtin.Tuple.tupleExact _) (AO (Aa (Af (Af ⟨_,rfl,Af fin⟩))) hsz)
  | exact Aa (Aa (m:=Builtin.Tuple.tupleExact _) (AO (Af (Af ⟨_,rfl,Af fin⟩)) hsz))
  | exact Aa (Aa (m:=Builtin.Tuple.tupleExact _) (AO (Af ⟨_,rfl,Af fin⟩) hsz))
end
end L2
variable{Q:PL.PV->Prop}{neg:Bool}
namespace FL
section
variable{K:Ab}
section
variable{a c:lc}{w:W PV}
def m8(neg:Bool)(x:PV)(l:O PV):W Bool:=.fK (vF x l) (.ret (if neg then !qB x l else qB x l))
def blW(b:Bool):W PV:=.ret (.bl b)
def afR:∀σ H Q,fE K fs (.bind wa λx=>.bind wl λl=>.bind (m8 neg x l) blW) σ H Q->tOp (ZS K neg) (fE K fs wa) (fQ K fs wl) σ H Q:=λσ H Q ⟨sr,q⟩=>
 ⟨sr,wa.mono (λx q1 u1 H1 g1 s1 v1=>⟨s1,wl.mono (λl q2 u2 H2 g2 s2 v2=>by
  obtain⟨ad,vs,rfl,h,rs⟩:=v2.sq s2;exact⟨ad,vs,l,x,rfl,h,rs,g2.vr s1 v1,q2.1,q2.2 _ H2 (g1.trans g2) s2 (.bl _)⟩) q1⟩) q⟩
def X4:∀σ H Q,fT K fs (.bind wa λx=>.bind wl λl=>m8 neg x l) σ H Q->tOp (ZS K neg) (fE K fs wa) (fQ K fs wl) σ H λx H'=>∃k,x=.bl k/\Q k H':=λσ H Q ⟨sr,q⟩=>
 ⟨sr,wa.mono (λx q1 u1 H1 g1 s1 v1=>⟨s1,wl.mono (λl q2 u2 H2 g2 s2 v2=>by
  obtain⟨ad,vs,rfl,h,rs⟩:=v2.sq s2;exact⟨ad,vs,l,x,rfl,h,rs,g2.vr s1 v1,q2.1,_,rfl,q2.2 H2 (g1.trans g2) s2⟩) q1⟩) q⟩
def adj(hK:X.K=K)(hu:X.A.units+200 < ss)(ha:EF X K fs a wa)(hb:QF X K fs b wl)(hk:‹sn .In b=false›):EF X K fs (.Compare a [.In] [b] pos) (.bind wa λx=>.bind wl λl=>.bind (m8 false x l) blW):=⟨PE.imp (Qz (Nv K hK hu) ha.p hb.p hk) (afR (neg:=false))⟩
def ahx(hK:X.K=K)(hu:X.A.units+200 < ss)(ha:EF X K fs a wa)(hb:QF X K fs b wl)(hk:‹sn .In b=false›):TF X K fs (.Compare a [.In] [b] pos) (.bind wa λx=>.bind wl λl=>m8 false x l):=⟨PT.imp (vV (Nv K hK hu) ha.p hb.p hk) (X4 (neg:=false))⟩
def Hs(hK:X.K=K)(hu:X.A.units+200 < ss)(ha:EF X K fs a wa)(hb:QF X K fs b wl)(hk:‹sn .NotIn b=false›):TF X K fs (.Compare a [.NotIn] [b] pos) (.bind wa λx=>.bind wl λl=>m8 true x l):=⟨PT.imp (vV (aal K hK hu) ha.p hb.p hk) (X4 (neg:=true))⟩
abbrev ai3(neg:Bool)(wa:W PV)(wl:W (O PV)):W PV:=.bind wa λx=>.bind wl λl=>.bind (m8 neg x l) blW
abbrev Om(neg:Bool)(wa:W PV)(wl:W (O PV)):W Bool:=.bind wa λx=>.bind wl λl=>m8 neg x l
def K0(l:O PV):W PV:=.bind (qa l) λns=>.fK (ns≠[]) (.ret (.int (tS ns)))
def jg(l:O PV):W PV:=.bind (qa l) λns=>.ret (.int ns.sum)
def GQ{C:O Int->Prop}{g:O Int->Int}{f:O PV->W PV}(hf:∀{l:O PV}{Q:PV->Prop},(f l).run Q->∃ns:O Int,l=ns.map PV.int/\C ns/\Q (.int (g ns))):∀σ H Q,fE K fs (.bind wl f) σ H Q->tCB (V4 K C g) (acv (fQL K fs wl) ahF) σ H Q:=λσ H Q ⟨sr,q⟩=>⟨sr,wl.mono (λl q1 u1 H1 g1 s1 _ v1=>by
 obtain⟨ns,el,hC,q2⟩:=hf q1;obtain⟨a,vs,rfl,h1,r1⟩:=v1 H1 .refl s1;rw[el]at r1;have:=mh r1;subst this;exact⟨a,ns,rfl,h1,hC,q2 _ H1 g1 s1 (.int _)⟩) q⟩
def Sr(h:(K0 l).run Q):∃ns:O Int,l=ns.map PV.int/\ns≠[]/\Q (.int (tS ns)):=let ⟨ns,e,q⟩:=iW h;⟨ns,e,q.1,q.2⟩
def RO(h:(jg l).run Q):∃ns:O Int,l=ns.map PV.int/\True/\Q (.int ns.sum):=let ⟨ns,e,q⟩:=iW h;⟨ns,e,trivial,q⟩
def af1(hK:X.K=K)(hc:X.calm=true)(hg:Gl X "min")(hm:X.mg "min"=bm)(ha:MP X K fs e wl)(he:‹iq X e []›)(eM:‹m6 X pos []›):EF X K fs (.Call (.Name "min" p) [e] [] pos) (.bind wl K0):=⟨PE.imp (fU (G4 (C:=λns=>ns≠[]) (g:=tS) K hK hc λa b c d q=>Sq a b c d q) hg hm boot_min (a9 ha.p cv he) ⋯ ⋯ he eM) (GQ Sr)⟩
def yi(hK:X.K=K)(hc:X.calm=true)(hg:Gl X "sum")(hm:X.mg "sum"=bm)(ha:MP X K fs e wl)(he:‹iq X e []›)(eM:‹m6 X pos []›):EF X K fs (.Call (.Name "sum" p) [e] [] pos) (.bind wl jg):=⟨PE.imp (fU (G4 (C:=λ_=>True) (g:=λns=>ns.sum) K hK hc λa b c _ q=>RN a b c q) hg hm (show re "sum"=ap (.builtin "sum") by rfl) (a9 ha.p cv he) ⋯ ⋯ he eM) (GQ RO)⟩
def sortI(ns:O Int):O Int:=ns.mergeSort (λa b=>decide (a<=b))
theorem VF(h1:ms.Perm ns)(h2:ms.Pairwise (·<=·)):ms=sortI ns:=by
 have h3:(sortI ns).Perm ns:=Du ns _;have h4:(sortI ns).Pairwise (λa b=>decide (a<=b)=true):=Fc (λa b c=>by simp;omega) (λa b=>by simp;omega) ns;exact List.Perm.eq_of_pairwise (le:=λa b=>a<=b) (λa b _ _ h h'=>FA h h') h2 (h4.imp (by simp)) (h1.trans h3.symm)
def Hx(l:O PV):W (O PV):=.bind (qa l) λns=>.fK (ns.length < 64) (.ret ((sortI ns).map PV.int))
def aaR(hK:X.K=K)(hg:Gl X "sorted")(hm:X.mg "sorted"=bm)(ha:MP X K fs e wl)(he:‹iq X e []›)(eM:‹m6 X pos []›):LF X K fs (.Call (.Name "sorted" p) [e] [] pos) (.bind wl Hx):=⟨PE.imp (fU (Pf K hK) hg hm boot_sorted (a9 ha.p cv he) ⋯ ⋯ he eM) λσ H Q ⟨sr,q⟩=>⟨sr,wl.mono (λl q1 u1 H1 g1 s1 _ v1=>by
 obtain⟨ns,el,hC,q2⟩:=iW (l:=l) q1;obtain⟨a,vs,rfl,h1,r1⟩:=v1 H1 .refl s1;rw[el]at r1;have:=mh r1;subst this;refine⟨a,ns,rfl,h1,hC,λms a2 a3=>?_⟩;rw[VF a2 a3];exact Gy g1 s1 (sA _ _ _) q2) q⟩⟩
def Ta(l:O PV)(x:PV):W PV:=.fK (vF x l/\qB x l=true) (.ret (.int (LA x l)))
def abZ(l:O PV)(x:PV):W PV:=.fK (vF x l) (.ret (.int (agd x l)))
def abL(hK:X.K=K)(hu:X.A.units+200 < ss)(ho:MP X K fs o wl)(he:EF X K fs e w)
  (da:‹o0 o "index" X.env (lw o X.env)=lw o X.env›)
  (nU:‹HWa X bC [e]›)
  (c9:‹RG Á bC›) (pj:‹iq X e []›) (d5:‹m6 X bC []›) :
  EF X K fs (.Call (.Attribute o "index" Á) [e] [] bC) (.bind wl λl=>.bind w λx=>Ta l x):=
 ⟨PE.imp (qr K hK BI PySem.F.slot_list_index PySem.F.type_list_index (aaE K hK hu) ho.p (a9 he.p cv pj) da nU c9 pj d5) λσ H Q ⟨sr,q⟩=>⟨sr,wl.mono (λl q1 u1 H1 g1 s1 _ v1=>by
  obtain⟨a,vs,eu,h1,_⟩:=v1 H1 .refl s1;subst eu;refine⟨.inl ⟨rfl,_,h1⟩,s1,w.mono (λx q2 u2 H2 g2 s2 v2=>?_) q1⟩
  ·obtain⟨a',vs,ea,h2,r2⟩:=v1 H2 g2 s2;cases ea;exact⟨a,vs,l,u2,x,rfl,rfl,h2,r2,v2,q2.1.1,q2.1.2,q2.2 _ H2 (g1.trans g2) s2 (.int _)⟩) q⟩⟩
def abN(hK:X.K=K)(hu:X.A.units+200 < ss)(ho:MP X K fs o wl)(he:EF X K fs e w)
  (da:‹o0 o "count" X.env (lw o X.env)=lw o X.env›)
  (nU:‹HWa X bC [e]›)
  (c9:‹RG Á bC›) (pj:‹iq X e []›) (d5:‹m6 X bC []›) :
  EF X K fs (.Call (.Attribute o "count" Á) [e] [] bC) (.bind wl λl=>.bind w λx=>abZ l x):=
 ⟨PE.imp (qr K hK BI PySem.F.slot_list_count PySem.F.type_list_count (aaH K hK hu) ho.p (a9 he.p cv pj) da nU c9 pj d5) λσ H Q ⟨sr,q⟩=>⟨sr,wl.mono (λl q1 u1 H1 g1 s1 _ v1=>by
  obtain⟨a,vs,eu,h1,_⟩:=v1 H1 .refl s1;subst eu;refine⟨.inl ⟨rfl,_,h1⟩,s1,w.mono (λx q2 u2 H2 g2 s2 v2=>?_) q1⟩
  ·obtain⟨a',vs,ea,h2,r2⟩:=v1 H2 g2 s2;cases ea;exact⟨a,vs,l,u2,x,rfl,rfl,h2,r2,v2,q2.1,q2.2 _ H2 (g1.trans g2) s2 (.int _)⟩) q⟩⟩
variable{el eh:Option lc}{st:lc}{lo ws:W (Option Int)}
def VL(x:PV)(i j k:Option Int):W PV:=match x with
 | .tup l=>.fK (i=bm/\j=bm/\k=ap (-1)) (.ret (.tup l.reverse))
 | _=>.fail
def af0(hK:X.K=K)(he:EF X K fs e w)(hl:OF X K fs el lo)(hh:OF X K fs eh hi)(hs:OF X K fs (ap st) ws):EF X K fs (.Subscript e (.Slice el eh (ap st) p2) pos) (.bind w λx=>.bind lo λi=>.bind hi λj=>.bind ws λk=>VL x i j k):=⟨PE.imp (aaa K hK he.p hl.p hh.p hs.p) λσ H Q ⟨sr,q⟩=>⟨sr,w.mono (λx q1 u1 H1 g1 s1 v1=>⟨s1,lo.mono (λi q2 H2 g2 s2=>⟨s2,hi.mono (λj q3 H3 g3 s3=>⟨s3,ws.mono (λk q4 H4 g4 s4=>by
 have ð:=g4.vr s3 (g3.vr s2 (g2.vr s1 v1));have gg:=((g1.trans g2).trans g3).trans g4;cases ð with
 | @tup p vs l e r=>
  have q4:(W.fK (i=bm/\j=bm/\k=ap (-1)) (bd (PV.tup l.reverse))).run _:=q4;exact⟨p,vs,rfl,eW.of e,q4.1.1,q4.1.2.1,q4.1.2.2,λq H5 s5 h5 n5=>q4.2 _ H5 (gg.trans (dQ.same s5)) (s4.same s5) (.tup h5 (aO.tk s5.fM r.reverse))⟩
 | _=>exact q4.elim) q3⟩) q2⟩) q1⟩) q⟩⟩
end
end
section
variable{K:Ab}
section
variable{rest:O u8}{T:Type}{out:T->End}{x:Bool}
def arD(l:O PV):PV->W PV
 | .int k=>.fK (0<=k/\k < 1000) (.MF l[k.toNat]?)
 | _=>.fail
def ZR(l:O PV)(v:PV):W (O PV):=match v with
 | .int k=>.bind (qa l) λns=>.fK (k∈ns) (.ret ((ns.erase k).map PV.int))
 | _=>.fail
theorem SF.remove(i:Nat){k:O PV->W T}(hs:fs[i]?=ap (ap (.ol q0 l)))(hK:X.K=K)(hN:X.N[i]?=ap y)(hv:yT X.env.scope y)(he:EF X K fs e we)(hr:∀l',SF X K x (fs.set i (ap (.ol q0 l'))) rest (k l') out)
  (hd: ~~~(jN y)) (iG: ~~~(zY y)) (da:‹o0 (.Name y p) "remove" X.env (lw (.Name y p) X.env)=lw (.Name y p) X.env›)
  (nU:‹HWa X bC [e]›)
  (c9:‹RG Á bC›) (pj:‹iq X e []›) (d5:‹m6 X bC []›)
  (xQ:‹pc (.Call (.Attribute (.Name y p) "remove" Á) [e] [] bC) bm pos.line X.env=pure false›) :
  SF X K x fs (.Expr (.Call (.Attribute (.Name y p) "remove" Á) [e] [] bC) pos::rest) (.bind we λv=>.bind (ZR l v) k) out:=
 SF.step (vW (qr K hK BI PySem.F.slot_list_remove PySem.F.type_list_remove NF (dI hN hv hd iG) (a9 he.p cv pj) da nU c9 pj d5) xQ) λD σ H ⟨sr,q⟩=>by
  obtain⟨a,ws,e1,h1,r1⟩:=eO sr hs;refine⟨_,e1,.inl ⟨rfl,_,eN.of h1⟩,sr,we.mono (λv q1 u H1 g1 s1 v1=>?_) q⟩;obtain⟨a',wI,tE,iH,vj⟩:=eO s1 hs;rw[e1]at tE;cases tE;cases v1 with
  | int kk=>
   obtain⟨ns,el,hk,q2⟩:=iW (l:=l) q1;subst el;have:=mh vj;subst this;refine⟨a,ns,kk,rfl,rfl,iH,hk,λH2 sx h2=>?_⟩;obtain⟨s2,g2⟩:=rF s1 hs e1 sx h2 (sA _ _ (ns.erase kk));exact⟨_,k _,hr _,s2,(k _).mono (λt q3=>q3.go (g1.f.trans g2) sr s2) q2⟩
  | _=>exact q1.elim
end
end
end FL
variable{vs:O (L2.Key×L2.V)}{kvs:O (L2.Key×PL.PV)}{q:L2.Key×PL.PV}
namespace FL
section
variable{K:Ab}
abbrev w2(f:PV->PV->W PV)(wa wb:W PV):W PV:=.bind wa λx=>.bind wb λy=>f x y
structure agB(P:wn)(w:wT)(K:Ab)(mg:Str->Option ce)(base:pr)(f:ci)(k:Nat)(ps:List Str)(sp:Sp) where
 fd:FB
 ok:iU P w K mg base yQ k f fd ps sp
 bi:Binds K fd ps []
 kp:Di K (.ref f)=true
section
variable{x:Str}{R:Type}{B:(O PV->W R)->W R}{fa:ci}
def aov(hg:Gl X x)(hm:X.mg x=ap (.ref fa))(hr:AF X K fs es ks B)(hd: ~~~(jN x))(pj:‹im (.Name x pos::es) X.env=(false,lw (.Name x pos) X.env)::im es X.env›):AF X K fs (.Name x pos::es) (.f fa::ks) B:=by
 obtain⟨wr,hp,hB⟩:=hr.p;refine⟨wr,PA.imp (a9 (oK (v:=.ref fa) hg hm rfl hd) hp pj) λσ H Q ⟨sr,q⟩=>?_,hB⟩;exact⟨sr,wr.mono (λl q2 vs H2 g2 s2 v2=>q2 _ H2 g2 s2 (.f v2)) q⟩
def abQ{m:O PV->W PV}{B:(O PV->W PV)->W PV}(i:Nat)(G:agB X.prog X.w X.K X.mg X.base fa k ps (RX K ks m))(hr:gj k' X.A)(hk:k<=k')(hs:fs[i]?=ap (ap (.adr fa)))(ha:AF X K fs (e::es) ks B)(hW:W'=B m)(hN:‹X.N[i]?=ap x›)(hv:yT X.env.scope x:=by first | exact Co rfl | exact Ca (Co rfl) | exact Ca (Ca rfl))(hd: ~~~(jN x))(iG: ~~~(zY x))
  (he:‹iq X e es›) (eM:‹m6 X pos es›):EF X K fs (.Call (.Name x p) (e::es) [] pos) W':=by
 subst hW;obtain⟨w,hp,hB⟩:=ha.p;rw[hB];refine⟨PE.imp (Wu (dvs:=[]) (ds:=[]) (E:=E0) G.ok (hr.mono hk) (dI hN hv hd iG) G.kp G.bi .nil acI hp he eM) λσ H Q ⟨sr,q⟩=>?_⟩;obtain⟨u,e1,r⟩:=sr.at' i _ hs;rcases r with⟨v,e,_⟩ | ⟨a,e,r⟩
 ·cases e
 ·have r:a=fa:=r;subst r;subst e;refine⟨_,e1,rfl,sr,w.mono (λl q1 vs H1 g1 s1 v1=>?_) q⟩;show RX K ks m (vs++[]) H1 Q E0;rw[Ci];exact⟨l,v1.c s1,(m l).mono (λz q2 u H2 g2 r2=>let ⟨s2,g3⟩:=g2.caller v1 s1;q2 u H2 (g1.trans g3) s2 r2) q1⟩
end
def NZ:PV->W Key
 | .int i=>.ret (.inl i)
 | .str s=>.ret (.inr s)
 | _=>.fail
def vG(kvs:O (Key×PV))(k:Key):Bool:=kvs.any λkv=>decide (kv.1=k)
def vH(kvs:O (Key×PV))(k:Key):Option PV:=(kvs.find? λkv=>decide (kv.1=k)).map (·.2)
def Nn(kvs:O (Key×PV))(k:Key)(v:PV):O (Key×PV):=if vG kvs k=true then kvs.map (λkv=>if kv.1=k then (kv.1,v) else kv) else kvs++[(k,v)]
def dJ(K:Ab)(H:Hp)(vs:O (Key×V))(kvs:O (Key×PV)):Prop:=vs.map (·.1)=kvs.map (·.1)/\aO K [] H (vs.map (·.2)) (kvs.map (·.2))
section
def dJ.cons_inv{p:Key×V}(h:dJ K H (p::vs) (q::kvs)):p.1=q.1/\VR K [] H p.2 q.2/\dJ K H vs kvs:=by
 obtain⟨h1,h2⟩:=h;injection h1 with a b;cases h2 with
 | cons r t=>exact⟨a,r,b,t⟩
def dJ.mk{p:Key×V}(e:p.1=q.1)(r:VR K [] H p.2 q.2)(h:dJ K H vs kvs):dJ K H (p::vs) (q::kvs):=⟨by rw[Aq,Aq,e,h.1],.cons r h.2⟩
theorem dJ.ind{C:O (Key×V)->O (Key×PV)->Prop}(h0:C [] [])(h1:∀p q vs kvs,p.1=q.1->VR K [] H p.2 q.2->dJ K H vs kvs->C vs kvs->C (p::vs) (q::kvs)):∀{vs kvs},dJ K H vs kvs->C vs kvs
 | [],[],_=>h0
 | [],_::_,h=>by simp[dJ]at h
 | _::_,[],h=>by simp[dJ]at h
 | p::vs,q::kvs,h=>let ⟨a,b,c⟩:=h.cons_inv;h1 p q vs kvs a b c (dJ.ind h0 h1 c)
def dJ.has(h:dJ K H vs kvs)(k:Key):(jQ vs k).isSome=vG kvs k:=by
 rw[<- rh];refine dJ.ind (C:=λvs kvs=>(vs.any λkv=>decide (kv.1=k))=kvs.any λkv=>decide (kv.1=k)) rfl (λp q vs kvs e _ _ ih=>?_) h;rw[BZ,BZ,ih,e]
def dJ.get(h:dJ K H vs kvs)(k:Key)(g:vH kvs k=ap v):∃u,jQ vs k=ap u/\VR K [] H u v:=by
 refine dJ.ind (C:=λvs kvs=>vH kvs k=ap v->∃u,jQ vs k=ap u/\VR K [] H u v) (λg=>by simp[vH]at g) (λp q vs kvs e r _ ih g=>?_) h g;by_cases c:p.1=k
 ·rw[nj c];have c':=e▸c;have:vH (q::kvs) k=ap q.2:=by simp[vH,Bt,c']
  rw[this]at g;cases g;exact⟨_,rfl,r⟩
 ·rw[nk c];have c':=e▸c;have:vH (q::kvs) k=vH kvs k:=by simp[vH,Bt,c']
  exact ih (this▸g)
def dJ.put(h:dJ K H vs kvs)(k:Key)(r:VR K [] H u v):dJ K H (putK vs k u) (Nn kvs k v):=by
 have hh:(vs.any λkv=>decide (kv.1=k))=vG kvs k:=by rw[rh];exact h.has k
 unfold putK Nn;rw[hh]
 split
 ·refine dJ.ind (C:=λvs kvs=>dJ K H (vs.map λkv=>if kv.1=k then (kv.1,u) else kv) (kvs.map λkv=>if kv.1=k then (kv.1,v) else kv)) ⟨rfl,.nil⟩ (λp q vs kvs e rr _ ih=>?_) h;rw[Aq,Aq];by_cases c:p.1=k
  ·rw[if_pos c,if_pos (e▸c)];exact dJ.mk e r ih
  ·rw[if_neg c,if_neg (e▸c)];exact dJ.mk e rr ih
 ·refine dJ.ind (C:=λvs kvs=>dJ K H (vs++[(k,u)]) (kvs++[(k,v)])) ⟨rfl,.cons r .nil⟩ (λp q vs kvs e rr _ ih=>dJ.mk e rr ih) h
def dJ.length(h:dJ K H vs kvs):vs.length=kvs.length:=by
 have:=congrArg BM h.1;simpa using this
end
section
variable{a:lc}{rest:O u8}{T:Type}{out:T->End}{x:Bool}
def HS(sr:a8 K H σ fs)(hs:fs[i]?=ap (ap (.od kvs))):∃a vs,σ[i]?=ap (ap (.ref a))/\H a=ap (.dK vs)/\dJ K H vs kvs:=by
 obtain⟨u,e1,r⟩:=sr.at' i _ hs;rcases r with⟨v,e,_⟩ | ⟨a,e,vs,q1,q2,q3⟩
 ·cases e
 ·subst e;exact⟨a,vs,e1,q1,q2,q3⟩
def SF.amy{k:W T}(hN:X.N.Nodup)(hi:X.N[i]?=ap y)(hx:Loc X.env.scope y)(hr:SF X K x (fs.set i (ap (.od []))) rest k out)(hs:‹pc (.Dict [] [] p2) (ap (.Name y p')) pos.line X.env=pure false›)
  (hf:UG X y:=by first | exact .inl rfl | exact .inr rfl | assumption):SF X K x fs (.Assign [.Name y p'] (.Dict [] [] p2) pos::rest) k out:=SF.step (tN hN hi hx Wr hs hf) λD σ H ⟨sr,q⟩=>λa H1 s1 e1 n1=>by
 have no:=sr.noOwn n1;have s2:=(sr.same s1).HG (t:=.od []) ⟨[],e1,rfl,.nil⟩ no i;exact⟨_,k,hr,s2,k.mono (λt q2=>q2.go (cZ.HG (sr.same s1) (cZ.same s1 sr) no n1 i) sr s2) q⟩
def acU{Q:Key->Prop}(r:VR K [] H u v)(q:(NZ v).run Q):∃k,u=kV k/\Q k:=by
 cases r with
 | int i=>exact⟨.inl i,rfl,q⟩
 | str s=>exact⟨.inr s,rfl,q⟩
 | _=>exact q.elim
def abd(i:Nat)(hs:fs[i]?=ap (ap (.od kvs)))(hN:X.N[i]?=ap y):∀σ H Q,fT K fs (.bind wa λx=>.bind (NZ x) λk=>.ret (if neg then !vG kvs k else vG kvs k)) σ H Q->(fE K fs wa) σ H λu H1=>(ahz i) σ H1 λz H2=>∃a o,z=.ref a/\uM H2 a u o/\(∃b,(V.bl (if neg then !o.isSome else o.isSome))=.bl b/\Q b H2):=λσ H Q ⟨sr,q⟩=>
 ⟨sr,wa.mono (λv q1 u H1 g1 s1 v1=>by
  obtain⟨k,rfl,q2⟩:=acU v1 q1;obtain⟨a,vs,e1,h1,r1⟩:=HS s1 hs;refine⟨_,e1,a,_,rfl,uM.k h1,_,rfl,?_⟩;rw[r1.has k];exact q2 H1 g1 s1) q⟩
theorem ahy(i:Nat)(hs:fs[i]?=ap (ap (.od kvs)))(hu:X.A.units+200 < ss)(ha:EF X K fs a wa)(hN:‹X.N[i]?=ap y›)(hv:yT X.env.scope y:=by first | exact Co rfl | exact Ca (Co rfl) | exact Ca (Ca rfl))(hd: ~~~(jN y))(iG: ~~~(zY y))(hk:‹sn .In (.Name y p)=false›) :
  TF X K fs (.Compare a [.In] [.Name y p] pos) (.bind wa λx=>.bind (NZ x) λk=>.ret (vG kvs k)):=⟨PT.imp (aey (aeL ∅ ha.p (dI hN hv hd iG)) hk) (abd (neg:=false) i hs hN)⟩
def aew(kvs:O (Key×PV))(n v:PV):W (O (Key×PV)):=.bind (NZ n) λkk=>.fK (kvs.length < sizeLine) (.ret (Nn kvs kk v))
theorem SF.putD(i:Nat){k:O (Key×PV)->W T}(hs:fs[i]?=ap (ap (.od kvs)))(hu:X.A.units+200 < ss)(hN:X.N[i]?=ap y)(hv:yT X.env.scope y)(he:EF X K fs e we)(hi:EF X K fs ei wi)(hr:∀l',SF X K x (fs.set i (ap (.od l'))) rest (k l') out)
  (hd: ~~~(jN y)) (iG: ~~~(zY y)) (xQ:‹pc e (ap (.Subscript (.Name y p) ei wO)) pos.line X.env=pure false›) :
  SF X K x fs (.Assign [.Subscript (.Name y p) ei wO] e pos::rest) (.bind we λv=>.bind wi λn=>.bind (aew kvs n v) k) out:=
 SF.step (Qt ∅ (dI hN hv hd iG) hi.p he.p xQ) λD σ H ⟨sr,q⟩=>by
  refine⟨sr,we.mono (λv q1 u H1 g1 s1 v1=>?_) q⟩;obtain⟨a,vs,e1,h1,r1⟩:=HS s1 hs;refine⟨_,e1,s1,wi.mono (λn q2 u2 H2 g2 s2 v2=>?_) q1⟩;obtain⟨kk,rfl,hz,q3⟩:=acU v2 q2;obtain⟨a',PY,tE,iH,vj⟩:=HS s2 hs;rw[e1]at tE;cases tE;refine⟨a,_,rfl,MC.k iH (by rw[vj.length];exact hz),?_⟩;have sx:qj a H2 (upd H2 a (.dK (putK PY kk u))):=λz o n hz=>by rw[aD n];exact hz
  obtain⟨s3,g3⟩:=fo (t':=.od (Nn kvs kk v)) s2 hs rfl (by simp) e1 sx λtk=>⟨_,aW,(vj.put kk (g2.vr s1 v1)).1,aO.tk tk (vj.put kk (g2.vr s1 v1)).2⟩;exact⟨_,k _,hr _,s3,(k _).mono (λt q4=>q4.go ((g1.trans g2).f.trans g3) sr s3) q3⟩
end
end
end FL
variable{kvs:O (O L2.Key×PL.PV)}
namespace FL
section
variable{K:Ab}
def cG(K:Ab)(H:Hp)(vs:O (O Key×V))(kvs:O (O Key×PV)):Prop:=vs.map (·.1)=kvs.map (·.1)/\aO K [] H (vs.map (·.2)) (kvs.map (·.2))
def acn(K:Ab)(H:Hp)(ob:HO)(v:PV):Prop:=(∃vs kvs,ob=.dK vs/\v=dvK kvs/\dJ K H vs kvs)\/∃vs kvs,ob=.dT vs/\v=Yr kvs/\cG K H vs kvs
def fDv(K:Ab)(fs:bD)(w:W PV):TE:=λσ H Q=>a8 K H σ fs/\w.run λv=>∀a ob H',dQ σ fs H H'->a8 K H' σ fs->H a=bm->H' a=ap ob->acn K H' ob v->Q (.ref a) H'
structure DVF(X:Cx)(K:Ab)(fs:bD)(e:lc)(w:W PV):Prop where p:PE X e (fDv K fs w)
section
variable{σ:L2.St}{fs:bD}{H:Hp}{a:ci}{ob:HO}{v:PV}
def a8.ahV(s:a8 K H σ fs)(n:¬ff σ fs a)(e:H a=ap ob)(n1:∀vs,ob≠.tup vs)(n2:∀o u,ob≠.c6 o u)(o':HO):a8 K (upd H a o') σ fs:=⟨s.len,λi t q=>by
 obtain⟨u,h1,h2⟩:=s.at' i t q;exact⟨u,h1,h2.mono (jc o' e n1 n2) (λx b o eb ow hb z=>by subst eb;rw[aD (λy:b=a=>n ⟨i,t,x,q,ow,h1,y▸hb⟩)];exact z)⟩,s.nd⟩
def acn.c6{X:Cx}{Z:O (ci×Obj)}{s:cr}{σ':L2.St}(I:Inv X Z σ' H s)(e:H a=ap ob)(d:acn K H ob v):∃u,Inv X Z σ' (upd H a u) s/\VR K [] (upd H a u) (.ref a) v/\(∀vs,ob≠.tup vs)/\∀o u,ob≠.c6 o u:=by
 rcases d with⟨vs,kvs,rfl,rfl,d1,d2⟩ | ⟨vs,kvs,rfl,rfl,d1,d2⟩
 ·obtain⟨o,I2⟩:=I.Rc e;exact⟨_,I2,.dk aW (acT d1) (aO.tk (jc _ e (by simp) (by simp)) d2),by simp,by simp⟩
 ·obtain⟨o,I2⟩:=I.freeze e;exact⟨_,I2,.dt aW (acS d1) (aO.tk (jc _ e (by simp) (by simp)) d2),by simp,by simp⟩
end
section
variable{a c:lc}{w:W PV}
def aop(h:DVF X K fs e w):EF X K fs e w:=⟨λZ s σ H Q I ⟨sr,q⟩=>by
 refine bS (h.p Z s σ H (λu H1=>∃a ob v,u=.ref a/\dQ σ fs H H1/\a8 K H1 σ fs/\H a=bm/\H1 a=ap ob/\acn K H1 ob v/\∀u H',dQ σ fs H H'->a8 K H' σ fs->VR K [] H' u v->Q u H') I ⟨sr,w.mono (λv q1 a ob H1 g1 s1 n e d=>⟨a,ob,v,rfl,g1,s1,n,e,d,q1⟩) q⟩) λu s1 ⟨v,H1,I1,r1,a,ob,v',e,g1,ö,n,ea,d,q1⟩=>?_;subst e;obtain⟨o',I2,vr,n1,n2⟩:=d.c6 I1 ea;exact⟨.ref a,_,I2,r1,q1 _ _ (g1.side n _) (ö.ahV (λz=>sr.noOwn n z) ea n1 n2 _) vr⟩⟩
def QB(kv:O Key×PV):PV:=.tup [.tup (kv.1.map kP),kv.2]
theorem Xn(H:Hp):∀k:O Key,aO K [] H (k.map kV) (k.map kP)
 | []=>.nil
 | .inl i::k=>.cons (.int i) (Xn H k)
 | .inr i::k=>.cons (.str i) (Xn H k)
theorem Ly:∀{k:O Key}{vs:O V},aO K [] H vs (k.map kP)->vs=k.map kV
 | [],_,h=>by cases h;rfl
 | .inl i::k,_,h=>by
  cases h with
  | cons x t=>cases x;rw[Ly t];rfl
 | .inr i::k,_,h=>by
  cases h with
  | cons x t=>cases x;rw[Ly t];rfl
theorem KI:∀{kvs:O (O Key×PV)}{vs:O V},aO K [] H vs (kvs.map QB)->∃zs:O Pz,vs=zs.map (λz=>V.ref z.pa)/\(∀z∈zs,z.At H)/\zs.map (·.k)=kvs.map (·.1)/\aO K [] H (zs.map (·.v)) (kvs.map (·.2))
 | [],_,h=>by cases h;exact⟨[],rfl,by simp,rfl,.nil⟩
 | kv::kvs,_,h=>by
  cases h with
  | cons x t=>
  obtain⟨zs,z1,z2,z3,z4⟩:=KI t;cases x with
  | @tup p ws _ e r=>
  cases r with
  | cons x1 t1=>
  cases t1 with
  | cons x2 t2=>
  cases t2;cases x1 with
  | @tup b us _ e1 r1=>
  have:=Ly r1;subst this;refine⟨⟨p,kv.1,b,_⟩::zs,by rw[Aq,z1],λz hz=>?_,by rw[Aq,Aq,z3],.cons x2 z4⟩;rcases AA.mp hz with rfl | hz
  ·exact⟨e,e1⟩
  ·exact z2 z hz
def O8(l:O PV):W PV:=⟨λQ=>∃kvs:O (O Key×PV),l=kvs.map QB/\(kvs.map (·.1)).Nodup/\kvs.length<=1000/\Q (Yr kvs),λf q=>q.imp λkvs h=>⟨h.1,h.2.1,h.2.2.1,f _ h.2.2.2⟩⟩
theorem abY(hK:X.K=K)(hc:X.calm=true)(hu:X.A.units+200 < ss)(hg:Gl X "dict")(hm:X.mg "dict"=bm)(ha:MP X K fs e wl)(he:‹iq X e []›)(eM:‹m6 X pos []›) :
  DVF X K fs (.Call (.Name "dict" p) [e] [] pos) (.bind wl O8):=⟨PE.imp (oM (Pk K hK hc ∅) hg hm boot_dict (a9 ha.p cv he) ⋯ ⋯ he eM) λσ H Q ⟨sr,q⟩=>⟨sr,wl.mono (λl q1 u H1 g1 s1 v0 v1=>by
  obtain⟨kvs,rfl,nd,hl,q1⟩:=q1;obtain⟨a,vs,rfl,e3,e4⟩:=v1 H1 .refl s1;obtain⟨zs,rfl,z2,z3,z4⟩:=KI e4;have hzl:zs.length=kvs.length:=by have:=congrArg BM z3;simpa using this
  refine⟨a,zs,rfl,e3,z2,by rw[z3];exact nd,by omega,λp H2 s2 h2 n2=>?_⟩;exact q1 _ _ H2 (g1.trans (dQ.same s2)) (s1.same s2) (g1.there _ n2) h2 (.inr ⟨_,_,rfl,rfl,by rw[Ay,<- z3];rfl,by rw[Ay];exact aO.tk s2.fM z4⟩)) q⟩⟩
def T5(nd:(kvs.map (·.1)).Nodup)(hl:kvs.length<=1000)(q:Q (Yr kvs)):(O8 (kvs.map QB)).run Q:=⟨kvs,rfl,nd,hl,q⟩
def du(kvs:O (O Key×PV))(k:O Key):Option PV:=(kvs.find? λkv=>decide (kv.1=k)).map (·.2)
theorem cG.get{k:O Key}:∀{vs:O (O Key×V)}{kvs:O (O Key×PV)},cG K H vs kvs->(du kvs k=bm->jQ vs k=bm)/\∀{v},du kvs k=ap v->∃u,jQ vs k=ap u/\VR K [] H u v
 | [],[],_=>⟨λ_=>rfl,λg=>by simp[du]at g⟩
 | [],_::_,h=>by simp[cG]at h
 | _::_,[],h=>by simp[cG]at h
 | p::vs,q::kvs,h=>by
  obtain⟨h1,h2⟩:=h;rw[Aq,Aq]at h1 h2;injection h1 with e b;cases h2 with
  | cons r t=>
  have ih:=cG.get (k:=k) (vs:=vs) (kvs:=kvs) ⟨b,t⟩;by_cases c:p.1=k
  ·rw[nj c];have c':=e▸c;have:du (q::kvs) k=ap q.2:=by simp[du,Bt,c']
   rw[this];refine⟨λz=>(by cases z),λ{v} z=>?_⟩;cases z;exact⟨_,rfl,r⟩
  ·rw[nk c];have c':=e▸c;have:du (q::kvs) k=du kvs k:=by simp[du,Bt,c']
   rw[this];exact ih
def dJ.get'{k:Key}:∀{vs:O (Key×V)}{kvs:O (Key×PV)},dJ K H vs kvs->(vH kvs k=bm->jQ vs k=bm)/\∀{v},vH kvs k=ap v->∃u,jQ vs k=ap u/\VR K [] H u v:=λ{vs kvs} h=>⟨λz=>by
 have:=h.has k;cases e:jQ vs k with
 | none=>rfl
 | some u=>
  rw[e]at this;have h2:=this.symm;unfold vH at z;rw[Fi,List.find?_eq_none]at z;obtain⟨x,hx,ş⟩:=Fe.mp h2;exact absurd ş (z x hx),λz=>h.get k z⟩
def acX(k:Key)(l:O PV):kP k≠.tup l:=by cases k <;> exact PV.noConfusion
def afo{a b:Key}(h:kP a=kP b):a=b:=by
 cases a <;> cases b <;> simp[kP]at h <;> rw[h]
theorem ID:∀{a b:O Key},a.map kP=b.map kP->a=b
 | [],[],_=>rfl
 | [],_::_,h=>by simp at h
 | _::_,[],h=>by simp at h
 | x::a,y::b,h=>by
  rw[Aq,Aq]at h;injection h with h1 h2;rw[afo h1,ID h2]
inductive MB:PV->PV->Option PV->Prop
 | k (kvs:List (Key×PV)) (k:Key):kvs≠[]->MB (dvK kvs) (kP k) (vH kvs k)
 | t (kvs:List (List Key×PV)) (k:List Key):kvs≠[]->MB (Yr kvs) (.tup (k.map kP)) (du kvs k)
def adO{kvs:O (Key×PV)}(h0:kvs≠[])(h:VR K [] H u (dvK kvs)):∃a o vs,u=.ref a/\H a=ap (.c6 o (.dK vs))/\dJ K H vs kvs:=by
 have ù:∀{vs:O (Key×V)}{kvs:O (Key×PV)},(kvs.map λkv=>kP kv.1)=(vs.map λkv=>kP kv.1)->vs.map (·.1)=kvs.map (·.1):=λ{vs kvs} e=>by
  have e:(kvs.map (·.1)).map kP=(vs.map (·.1)).map kP:=by rw[Ay,Ay];exact e
  exact(ID e).symm
 cases h with
 | @dk a o vs _ _ e k r=>exact⟨a,o,vs,rfl,e,ù k,r⟩
 | @dt a o vs _ _ e k r=>
  cases kvs with
  | nil=>exact absurd rfl h0
  | cons x l=>cases vs with
   | nil=>simp at k
   | cons y m=>simp at k;exact absurd k.1 (acX _ _)
def Va(h0:kvs≠[])(h:VR K [] H u (Yr kvs)):∃a o vs,u=.ref a/\H a=ap (.c6 o (.dT vs))/\cG K H vs kvs:=by
 have ù:∀{vs:O (O Key×V)}{kvs:O (O Key×PV)},(kvs.map λkv=>PV.tup (kv.1.map kP))=(vs.map λkv=>PV.tup (kv.1.map kP))->vs.map (·.1)=kvs.map (·.1):=λ{vs kvs} e=>by
  induction kvs generalizing vs with
  | nil=>cases vs with
   | nil=>rfl
   | cons y m=>simp at e
  | cons x l ih=>cases vs with
   | nil=>simp at e
   | cons y m=>
    injection e with e1 e2;injection e1 with e1;rw[Aq,Aq,ID e1,ih e2]
 cases h with
 | @dt a o vs _ _ e k r=>exact⟨a,o,vs,rfl,e,ù k,r⟩
 | @dk a o vs _ _ e k r=>
  cases kvs with
  | nil=>exact absurd rfl h0
  | cons x l=>cases vs with
   | nil=>simp at k
   | cons y m=>simp at k;exact absurd k.1.symm (acX _ _)
def MB.ok{z:V}{d y:PV}{r:Option PV}(h:MB d y r)(hu:VR K [] H u d)(hz:VR K [] H z y):∃a o,u=.ref a/\IsD H a/\uM H a z o/\(r=bm->o=bm)/\∀v,r=ap v->∃w,o=ap w/\VR K [] H w v:=by
 cases h with
 | k kvs k h0=>
  obtain⟨a,o,vs,rfl,e,d⟩:=adO h0 hu;have ez:z=kV k:=by
   cases k with
   | inl i=>cases hz;rfl
   | inr i=>cases hz;rfl
  subst ez;exact⟨a,jQ vs k,rfl,.inl ⟨vs,.inr ⟨o,e⟩⟩,.inl ⟨vs,k,.inr ⟨o,e⟩,rfl,rfl⟩,(dJ.get' d).1,λv=>(dJ.get' d).2⟩
 | t kvs k h0=>
  obtain⟨a,o,vs,rfl,e,d⟩:=Va h0 hu;cases hz with
  | @tup b us _ e1 r1=>
  have:=Ly r1;subst this;exact⟨a,jQ vs k,rfl,.inr ⟨vs,.inr ⟨o,e⟩⟩,.inr ⟨vs,k,b,.inr ⟨o,e⟩,rfl,e1,rfl⟩,(cG.get d).1,λv=>(cG.get d).2⟩
def dgW(d y:PV):W PV:=⟨λQ=>∃v,MB d y (ap v)/\Q v,λf ⟨v,a,q⟩=>⟨v,a,f _ q⟩⟩
def dgB(a b:W PV):W PV:=.bind a λx=>.bind b λy=>dgW x y
theorem Yo(hu:X.A.units+200 < ss)(ha:EF X K fs a wa)(hb:EF X K fs b wb)(hs:ach b):EF X K fs (.Subscript a b pos) (dgB wa wb):=⟨PE.imp (Qy ∅ ha.p hb.p hs) λσ H Q ⟨sr,q⟩=>⟨sr,wa.mono (λx q1 u1 H1 g1 s1 v1=>⟨s1,wb.mono (λy q2 u2 H2 g2 s2 v2=>by
 obtain⟨v,g,q2⟩:=q2;obtain⟨a,o,rfl,_,g2',_,h⟩:=g.ok (g2.vr s1 v1) v2;obtain⟨w,rfl,vw⟩:=h v rfl;exact⟨a,w,rfl,g2',q2 _ H2 (g1.trans g2) s2 vw⟩) q1⟩) q⟩⟩
def Ro{k:O Key}(h:du kvs k=ap v)(q:Q v):(dgW (Yr kvs) (.tup (k.map kP))).run Q:=⟨v,by rw[<- h];exact .t kvs k (λz=>by subst z;simp[du]at h),q⟩
def W9(d:PV):W (O PV):=⟨λQ=>∃kvs:O (O Key×PV),d=Yr kvs/\kvs≠[]/\kvs.length<=1000/\Q (kvs.map λkv=>.tup (kv.1.map kP)),λf q=>q.imp λkvs h=>⟨h.1,h.2.1,h.2.2.1,f _ h.2.2.2⟩⟩
theorem aa9(h:EF X K fs e w):yO X K fs tg e (.bind w W9):=⟨PI.imp (Wk h.p) λσ H R ⟨sr,q⟩=>⟨sr,w.mono (λx q1 u1 H1 g1 s1 v1=>by
 obtain⟨kvs,rfl,h0,hl,q1⟩:=q1;obtain⟨a,o,vs,rfl,e,d1,d2⟩:=Va h0 v1;have len:vs.length=kvs.length:=by have:=congrArg BM d1;simpa using this
 refine⟨a,o,vs,rfl,e,q1 _ H1 g1 s1 ⟨bB (by simpa using hl),λH' t=>?_⟩⟩;have e':=t.z _ _ _ e;refine⟨λi p hp=>?_,vs,e',by simp[len]⟩;rw[Aj]at hp;cases z:kvs[i]? with
 | none=>rw[z]at hp;cases hp
 | some kv=>
  rw[z]at hp;have hp:=Option.some.inj hp;subst hp;have hi:=(Al.mp z).1;refine⟨⟨vs,e',by omega⟩,λy H2 yy=>?_⟩;obtain⟨rfl,yy⟩:=yy;obtain⟨b,k,v,rfl,k2,k3⟩:=yy vs e';have ek:k=kv.1:=by
   have h1:(vs.map (·.1))[i]?=ap k:=by rw[Aj,k2];rfl
   rw[d1,Aj,z]at h1;exact(Option.some.inj h1).symm
  subst ek;exact⟨mP.refl _,.tup k3 (Xn _ _)⟩) q⟩⟩
def SN{Q:O PV->Prop}(h0:kvs≠[])(hl:kvs.length<=1000)(q:Q (kvs.map λkv=>.tup (kv.1.map kP))):(W9 (Yr kvs)).run Q:=⟨kvs,rfl,h0,hl,q⟩
end
end
end FL
variable{κ:PyProof.Rows.SortKind}{Q:Be->DH->Prop}{vs:O Be}{p:Array Nat}
namespace L2
def gc(N:Nat)(P:α->Prop):Et α->Prop
 | .ret a=>P a
 | .ask i j k=>i < N/\j < N/\∀b,gc N P (k b)
theorem gc.mono{N:Nat}{P P':α->Prop}(h:∀a,P a->P' a):∀{t:Et α},gc N P t->gc N P' t
 | .ret a,q=>h a q
 | .ask i j k,q=>⟨q.1,q.2.1,λb=>gc.mono h (q.2.2 b)⟩
theorem gc.bind{N:Nat}{P:α->Prop}{P':β->Prop}{f:α->Et β}(hf:∀a,P a->gc N P' (f a)):∀{t:Et α},gc N P t->gc N P' (t.bind f)
 | .ret a,q=>hf a q
 | .ask i j k,q=>⟨q.1,q.2.1,λb=>gc.bind hf (q.2.2 b)⟩
theorem gc.wp{N:Nat}{P:α->Prop}{cmp:Nat->Nat->(Bool->cr->Prop)->cr->Prop}{Q:α->cr->Prop}(hc:∀i j C,i < N->j < N->(∀b,C b s)->cmp i j C s)(hq:∀a,P a->Q a s):∀{t:Et α},gc N P t->t.kasWp cmp Q s
 | .ret a,q=>hq a q
 | .ask i j k,q=>hc i j _ q.1 q.2.1 λb=>gc.wp hc hq (q.2.2 b)
def dD(N:Nat)(p:Array Nat):Prop:=p.toList.Perm (Av N)
def dD.lt{N:Nat}(h:dD N p)(h0:0 < N)(k:Nat):p.getD k 0 < N:=by
 by_cases c:k < p.size
 ·have:p.getD k 0=p[k]:=by simp[Array.getD,c]
  rw[this];exact AG.mp (h.mem_iff.mp (by simp))
 ·have:p.getD k 0=0:=by simp[Array.getD,c]
  rw[this];exact h0
def dD.rev{N:Nat}(h:dD N p)(i j:Nat):dD N (Ft p i j):=(ET.mp (mirror_perm p i j _)).trans h
def dD.bub{N:Nat}(h:dD N p)(i j:Nat):dD N (bubble p i j):=(ET.mp (bubble_perm p i j)).trans h
section
variable{N:Nat}(h0:0 < N)
include h0
theorem Xm(h:dD N p):∀f n,gc N (λ_=>True) (PySem.W.kas_asc p f n)
 | 0,n=>trivial
 | f+1,n=>⟨h.lt h0 _,h.lt h0 _,λb=>by
  cases b with
  | true=>exact trivial
  | false=>exact Xm h f (n+1)⟩
theorem Ip:∀f (p:Array Nat) n q,dD N p->gc N (λr=>dD N r.1) (PySem.W.kas_desc f p n q)
 | 0,p,n,q,h=>h
 | f+1,p,n,q,h=>⟨h.lt h0 _,h.lt h0 _,λb=>by
  cases b with
  | true=>
   show gc N _ (if q > 0 then _ else _)
   split
   ·exact Ip f _ _ _ (h.rev _ _)
   ·exact Ip f _ _ _ h
  | false=>exact⟨h.lt h0 _,h.lt h0 _,λb=>by
    cases b with
    | true=>exact h
    | false=>exact Ip f _ _ _ h⟩⟩
def Xc{m:Nat}(h:dD N p):gc N (λr=>dD N r.2) (PySem.W.kas_tail3 n m p):=by
 exact gc.bind (N:=N) (P:=λ_=>True) (P':=λr:Nat×Array Nat=>dD N r.2) (f:=λk=>.ret (k,Ft p 0 n)) (λk _=>(show dD N (Ft p 0 n) from h.rev _ _)) (Xm h0 (h.rev _ _) _ _)
def Xg{m:Nat}(h:dD N p):gc N (λr=>dD N r.2) (PySem.W.kas_descPart n m p):=gc.bind (λr hr=>by
 split
 ·exact Xc h0 (hr.rev _ _)
 ·exact Xc h0 hr) (Ip h0 _ _ _ _ h)
def aa4{m:Nat}(h:dD N p):gc N (λr=>dD N r.2) (PySem.W.kas_count m p):=gc.bind (λn _=>by
 split
 ·exact h
 ·split
  ·exact⟨h.lt h0 _,h.lt h0 _,λb=>by
    cases b with
    | true=>exact h
    | false=>exact Xg h0 (h.rev _ _)⟩
  ·exact Xg h0 h) (Xm h0 h _ _)
theorem Il(h:dD N p)(k:Nat):∀f l r,gc N (λ_=>True) (PySem.W.kas_place p k f l r)
 | 0,l,r=>trivial
 | f+1,l,r=>by
  show gc N _ (if l≥r then _ else _)
  split
  ·exact trivial
  ·exact⟨h.lt h0 _,h.lt h0 _,λb=>by
    cases b with
    | true=>exact Il h k f _ _
    | false=>exact Il h k f _ _⟩
theorem acW:∀f (p:Array Nat) k,dD N p->gc N (dD N) (PySem.W.kas_bin f p k)
 | 0,p,k,h=>h
 | f+1,p,k,h=>gc.bind (λl _=>acW f _ _ (h.bub _ _)) (Il h0 h k _ _ _)
def afn:gc N (dD N) (F8 N):=gc.bind (λr hr=>by
 split
 ·exact acW h0 _ _ _ hr
 ·exact hr) (aa4 h0 (List.Perm.refl _))
end
section
theorem NR{P:PySem.Fin->cr->Prop}(ho:s.heap.get? a=ap (wv "list" vs.toArray n))(Į:vs.length < 64)
  (Ŭ:2<=vs.length->∀h',(∀b o,b≠a->s.heap.get? b=ap o->h'.get? b=ap o)->db (ev prog w) A (keyKind' vs.toArray) (λk s'=>k=κ/\s'={s with heap:=h'}) (λ_ _=>False) {s with heap:=h'})
  (fC:∀h',(∀b o,b≠a->s.heap.get? b=ap o->h'.get? b=ap o)->∀i j,i < vs.length->j < vs.length->∀C:Bool->cr->Prop,(∀b,C b {s with heap:=h'})->db (ev prog w) A (keyLt' κ (vs.getD i AU) (vs.getD j AU)) C (λ_ _=>False) {s with heap:=h'})
  (h:∀out:O ce,out.Perm vs->P (.done (.ret .none)) {s with heap:=sortedHeap s.heap a vs out.toArray}) :
  db (ev prog w) A (wP.«list.sort» ⟨[.ref a],[]⟩) P E s:=by
 rw[list_sort_plain];have ha:=Aw ho;refine Aa (listItems_at ho rfl ?_);refine Aa (listUpdate_at ho rfl ?_);obtain⟨e1,ń⟩:∃e1,(s.heap.update a (BC λ_=>#[])).get? a=ap (wv "list" #[] e1):=⟨_,get?_update_seq ho (λ_=>#[])⟩;refine Aa (seqEpoch_at ń rfl ?_);refine Aa (Dm ?_);refine Aa (wpAny_newList ?_);refine Bj ?_;have Ń:(((s.heap.update a (BC λ_=>#[])).push (wv "tuple" vs.toArray 0)).push (wv "list" #[] 0)).get? a=ap (wv "list" #[] e1):=by
  rw[Heap.get?_push_ne _ _ _ (by rw[size_push',E8];exact AM (Nat.lt_succ_of_lt ha)),Heap.get?_push_ne _ _ _ (by rw[E8];exact AM ha)];exact ń
 have kp:∀b o,b≠a->s.heap.get? b=ap o->(((s.heap.update a (BC λ_=>#[])).push (wv "tuple" vs.toArray 0)).push (wv "list" #[] 0)).get? b=ap o:=λb o n e=>Ag _ (Ag _ (by rw[FW _ _ _ _ n];exact e));dsimp only;have hsz:vs.toArray.size=vs.length:=by simp
 by_cases h2:vs.toArray.size < 2
 ·rw[if_pos h2,if_pos h2];refine Aa (Af ?_);refine Aa (Af ?_);dsimp only;refine Aa (seqEpoch_at Ń rfl ?_);refine Aa (listUpdate_at Ń rfl ?_ (hsz2:=by rw[Array.size_map];show(pairsOf vs).size<=_;rw[pairsOf_size,sizeLine_eq];omega));simp only[bne_self_eq_false,Ao,if_false];refine Af ?_;have e:(arrOf (SortSt.mk' general' (vs.toArray.zip vs.toArray) #[] 7 bm)).map (·.2)=vs.toArray:=by
   apply Array.toList_inj.mp;simp[List.map_snd_zip]
  show P _ {s with heap:=_};rw[e];exact h vs (List.Perm.refl _)
 ·rw[if_neg h2,if_neg h2];have wq:2<=vs.length:=by omega
  refine Aa (B9 (Ŭ wq _ kp) (λk s0 hk=>?_) λ_ _ x=>x.elim);obtain⟨rfl,rfl⟩:=hk;have hw:(F8 vs.length).kasWp (PySem.W.kas_ask prog w A k vs) (λp s'=>dD vs.length p/\s'={s with heap:=((s.heap.update a (BC λ_=>#[])).push (wv "tuple" vs.toArray 0)).push (wv "list" #[] 0)}) {s with heap:=((s.heap.update a (BC λ_=>#[])).push (wv "tuple" vs.toArray 0)).push (wv "list" #[] 0)}:=
   gc.wp (λi j C hi hj hC=>fC _ kp i j hi hj C hC) (λp hp=>⟨hp,rfl⟩) (afn (show 0 < vs.length by omega))
  refine Aa (B9 (PySem.W.kat_run (Q:=λqU s'=>∃p:Array Nat,dD vs.length p/\arrOf qU=p.map (PySem.W.kas_item (vs.toArray.zip vs.toArray))/\failedOf qU=bm/\s'={s with heap:=((s.heap.update a (BC λ_=>#[])).push (wv "tuple" vs.toArray 0)).push (wv "list" #[] 0)})
   rfl wq Į (λp' qU s' a1 a2 a3 a4=>⟨p',a4.1,a2,a3,a4.2⟩) hw) ?_ λ_ _ e=>e)
  rintro⟨⟨⟩,qU⟩ s' ⟨p,hp,har,hf,rfl⟩;have anw:=PySem.W.kat_snds rfl har;have ac4:(p.toList.map λi=>vs.getD i AU).Perm vs:=by
   have e:(Av vs.length).map (λi=>vs.getD i AU)=vs:=by
    apply BH;intro i;by_cases c:i < vs.length
    ·rw[Aj,Bs c,Ad c];show ap (vs.getD i AU)=_;rw[Ai,Ad c];rfl
    ·rw[AL (by simp;omega),AL ∅]
   have:=hp.map (λi=>vs.getD i AU);rw[e]at this;exact this
  rw[anw];refine Aa (seqEpoch_at Ń rfl ?_);refine Aa (listUpdate_at Ń rfl ?_ (hsz2:=by rw[Ak,ac4.length_eq,sizeLine_eq];omega));rw[hf];simp only[bne_self_eq_false,Ao,if_false];exact Af (h _ ac4)
def ZF{l:ci}(hl:s.heap.IsList l vs.toArray)(Į:vs.length < 64)
  (Ŭ:2<=vs.length->∀h',(∀b o,s.heap.get? b=ap o->h'.get? b=ap o)->db (ev prog w) A.in1.in1 (keyKind' vs.toArray) (λk s'=>k=κ/\s'={s with heap:=h'}) (λ_ _=>False) {s with heap:=h'})
  (fC:∀h',(∀b o,s.heap.get? b=ap o->h'.get? b=ap o)->∀i j,i < vs.length->j < vs.length->∀C:Bool->cr->Prop,(∀b,C b {s with heap:=h'})->db (ev prog w) A.in1.in1 (keyLt' κ (vs.getD i AU) (vs.getD j AU)) C (λ_ _=>False) {s with heap:=h'})
  (h:∀out:O ce,out.Perm vs->Q (.ref (s.heap.objs.size+1)) {s with heap:=sortedAll s.heap vs out.toArray}) :
  db (ev prog w) A (call (.builtin "sorted") [.ref l]) Q E s:=by
 refine Calls.call_function_entry kind_sorted plain_sorted entry_sorted (args_sorted1 _) ?_;refine Aa (m:=checkCount "sorted" 1 1 _) (Af ?_);refine Aa (collect_list hl ?_);refine Aa (wpAny_newList ?_);have hsz:((s.heap.push (wv "list" #[] 0)).update s.heap.objs.size (BC (·++vs.toArray))).objs.size=s.heap.objs.size+1:=by
  rw[E8,size_push']
 have ł:(((s.heap.push (wv "list" #[] 0)).update s.heap.objs.size (BC (·++vs.toArray))).push (wv "list" vs.toArray 0)).get? (s.heap.objs.size+1)=ap (wv "list" vs.toArray 0):=by
  rw[<- hsz];exact Ar _ rfl
 have kp:∀b o,s.heap.get? b=ap o->b≠s.heap.objs.size+1/\(((s.heap.push (wv "list" #[] 0)).update s.heap.objs.size (BC (·++vs.toArray))).push (wv "list" vs.toArray 0)).get? b=ap o:=λb o e=>by
  have lt:=Aw e;refine⟨AM (Nat.lt_succ_of_lt lt),Ag _ ?_⟩;rw[FW _ _ _ _ (AM lt)];exact Ag _ e
 show db _ _ _ _ _ {s with heap:=((s.heap.push (wv "list" #[] 0)).update s.heap.objs.size (BC (·++vs.toArray))).push (wv "list" vs.toArray 0)};rw[hsz];refine Aa (Bj (A8 slot_list_sort ⟨_,ł,rfl⟩ entry_list_sort (NR (κ:=κ) ł Į (λh2 h' k=>?_) (λh' k=>?_) λout hp=>⟨_,rfl,?_⟩) (args_list_sort _)))
 ·exact Ŭ h2 h' λb o e=>k b o (kp b o e).1 (kp b o e).2
 ·exact fC h' λb o e=>k b o (kp b o e).1 (kp b o e).2
 ·exact Af ⟨_,rfl,h out hp⟩
end
end L2
variable{b:BU}{t t1:PySem.Tok}{p:Cz}
namespace FL
section
variable{K:Ab}
def uk:PV->Bool
 | .tup [.str _,.tup [.int _,.int _]]=>true
 | _=>false
def Oi(h:uk x=true):∃s i j,x=.tup [.str s,.tup [.int i,.int j]]:=by
 unfold uk at h
 split at h
 ·exact⟨_,_,_,rfl⟩
 ·cases h
section
def abV(I:Inv X Z σ H s){v:V}{u:ce}(hv:VR X.K [] H v x)(ru:RelV v u)(hx:uk x=true):∃(a b:ci) (st:Str) (i j:Int) (t t1 t2:Tok) (oa ob:Obj) (na nb:Nat),u=.ref a/\s.heap.get? a=ap oa/\oa.cls=.type "tuple"/\oa.data=.seq #[.str st t,.ref b] na/\s.heap.get? b=ap ob/\ob.cls=.type "tuple"/\ob.data=.seq #[.int i t1,.int j t2] nb:=by
 obtain⟨st,i,j,rfl⟩:=Oi hx;cases hv with
 | @tup p vs _ e r=>
 cases ru;cases r with
 | cons r1 r2=>
 cases r1;cases r2 with
 | cons r2 r3=>
 cases r3;cases r2 with
 | @tup b ws _ e2 r4=>
 cases r4 with
 | cons r4 r5=>
 cases r4;cases r5 with
 | cons r5 r6=>
 cases r6;cases r5;obtain⟨aw,rv,⟨o,h1,h2,n,h3⟩,_⟩:=I.tuple (eW.of (K:=X.K) e);obtain⟨d4,rv2,⟨o2,k1,k2,n2,k3⟩,_⟩:=I.tuple (eW.of (K:=X.K) e2);cases rv with
 | cons q1 q2=>
 cases q2 with
 | cons q2 q3=>
 cases q3;cases rv2 with
 | cons m1 m2=>
 cases m2 with
 | cons m2 m3=>
 cases m3;obtain⟨t,rfl⟩:=q1;cases q2;obtain⟨t1,rfl⟩:=m1;obtain⟨t2,rfl⟩:=m2;exact⟨p,b,st,i,j,t,t1,t2,o,o2,n,n2,rfl,h1,h2,h3,k1,k2,k3⟩
end
theorem abT{a' b':ci}{st qU:Str}{i j i' j':Int}{t2 t' ĕ ē:Tok}{oa ć ě:Obj}{na nb na' ř:Nat}(hu:A.units+1 < ss)
  (h1:s.heap.get? a=ap oa) (h3:oa.data=.seq #[.str st t,.ref b] na) (k1:s.heap.get? b=ap ob) (k2:ob.cls=.type "tuple") (k3:ob.data=.seq #[.int i t1,.int j t2] nb)
  (iH:s.heap.get? a'=ap ć) (XM:ć.data=.seq #[.str qU t',.ref b'] na') (ŝ:s.heap.get? b'=ap ě) (Ŝ:ě.cls=.type "tuple") (ś:ě.data=.seq #[.int i' ĕ,.int j' ē] ř)
  {C:Bool->cr->Prop} (hC:∀b,C b s):db (ev prog w) A (keyLt' (tuples' true) (.ref a) (.ref a')) C (λ_ _=>False) s:=by
 refine PySem.W.kat_lt h1 h3 iH XM (F7 (DY.str_str st t qU t' prog w _ _ (PySem.W.kat_go (λ_=>PySem.W.kat_yes ?_) λ_=>PySem.W.kat_no ?_)))
 ·refine F7 ?_;have hT:s.heap.IsTuple b #[.int i t1,.int j t2]:=⟨ob,k1,k2,nb,k3⟩;have hT':s.heap.IsTuple b' #[.int i' ĕ,.int j' ē]:=⟨ě,ŝ,Ŝ,ř,ś⟩;have go:∀e,PySem.W.KatGo prog w A true (decide ((#[Br st t,.ref b]:Array ce).size < (#[Br qU t',.ref b']:Array ce).size)) C (.ref b) (.ref b') [] 1 e s:=λe=>PySem.W.kat_go (λ_=>PySem.W.kat_yes (PySem.W.kat_nil (hC _))) λ_=>PySem.W.kat_no (PySem.W.kat_one _ _ (HT.NN hT hT' (.cons i t1 (.cons j t2 .nil)) (.cons i' ĕ (.cons j' ē .nil)) ∅ (hC _)));by_cases c:b=b'
  ·subst c;exact Gb (.ref b) prog w _ _ (go _)
  ·refine F2 c (F4 (e:=λk=>if k=0 then i==i' else j==j') hT hT' ∅ λk g1 g2=>?_) prog w _ _ (go _);have:k=0\/k=1:=by simp at g1;omega
   rcases this with rfl | rfl
   ·exact EB i t1 i' ĕ
   ·exact EB j t2 j' ē
 ·exact oneLt_str (hC _)
section
def aen(K:Ab):O V->Hp->VK->Prop:=λxs H Q=>∃(p:ci) (vs:O V) (l:O PV),xs=[.ref p]/\eN K H p vs/\aO K [] H vs l/\l.length < 64/\l.all uk=true/\∀m:O PV,m.Perm l->∀ws,aO K [] H ws m->k6 H (.lst ws) Q
def Wl{vs:O V}{out:O ce}(r:Vals vs us)(v:aO K [] H vs l)(p:out.Perm us):∃ws m,Vals ws out/\aO K [] H ws m/\m.Perm l:=by
 induction p generalizing vs l with
 | nil=>cases r;cases v;exact⟨[],[],.nil,.nil,.refl _⟩
 | cons x p ih=>
  cases r with
  | cons r1 r2=>
  cases v with
  | cons v1 v2=>
  obtain⟨ws,m,a,b,c⟩:=ih r2 v2;exact⟨_::ws,_::m,.cons r1 a,.cons v1 b,.cons _ c⟩
 | swap x y l'=>
  cases r with
  | cons r1 r2=>
  cases r2 with
  | cons r2 r3=>
  cases v with
  | cons v1 v2=>
  cases v2 with
  | cons v2 v3=>exact⟨_::_::_,_::_::_,.cons r2 (.cons r1 r3),.cons v2 (.cons v1 v3),.swap _ _ _⟩
 | trans p1 p2 MH Q2=>
  obtain⟨ws,m,a,b,c⟩:=Q2 r v;obtain⟨wI,m',a',b',c'⟩:=MH a b;exact⟨wI,m',a',b',c'.trans c⟩
theorem Pe(hK:X.K=K)(hu:X.A.units+200 < ss):cC X (.builtin "sorted") (aen K):=by
 subst hK;intro Z s σ H xs us Q I r h;obtain⟨p,vs,l,rfl,hq,hv,Į,hd,q⟩:=h;obtain⟨u,rfl,rx⟩:=vals1 r;cases rx;obtain⟨aw,r',pl,hz⟩:=I.list hq;have hl:=r'.length;have UQ:=hv.length;have el:∀i,i < aw.length->∃(a b:ci) (st:Str) (i1 j1:Int) (t t1 t2:Tok) (oa ob:Obj) (na nb:Nat),aw.getD i AU=.ref a/\s.heap.get? a=ap oa/\oa.cls=.type "tuple"/\oa.data=.seq #[.str st t,.ref b] na/\s.heap.get? b=ap ob/\ob.cls=.type "tuple"/\ob.data=.seq #[.int i1 t1,.int j1 t2] nb:=λi hi=>by
  have e1:vs[i]?=ap vs[i]:=Ad ∅;obtain⟨x,ex,vx⟩:=hv.ajA e1;have hx:=Bn.mp hd x (Bi ex);have ru:RelV vs[i] (aw.getD i AU):=by
   obtain⟨u,hu1,hu2⟩:=Vals.get r' e1;rw[Ai,hu1];exact hu2
  exact abV I vx ru hx
 refine ZF (κ:=tuples' true) pl.isList ∅ (λh2 h' kp=>?_) (λh' kp i j hi hj C hC=>?_) λout hp=>?_
 ·have Ă:∀l:O ce,(∀v∈l,∃(a:ci) (x:ce) (st:Str) (t:Tok) (oa:Obj) (na:Nat),v=.ref a/\h'.get? a=ap oa/\oa.cls=.type "tuple"/\oa.data=.seq #[.str st t,x] na)->∃fs,PySem.W.KatTups h' l fs/\fs.length=l.length/\∀v∈fs,∃st t,v=Br st t:=by
   intro l
   induction l with
   | nil=>intro _;exact⟨[],trivial,rfl,by simp⟩
   | cons v l ih=>
    intro hl;obtain⟨fs,f1,f2,f3⟩:=ih λy hy=>hl y (.tail _ hy);obtain⟨a,x,st,t,oa,na,rfl,g1,g2,g3⟩:=hl v (.head _);refine⟨.str st t::fs,PySem.W.KatTups.cons g1 g2 g3 rfl f1,by simp[f2],λy hy=>?_⟩;rcases AA.mp hy with rfl | hy
    ·exact⟨st,t,rfl⟩
    ·exact f3 y hy
  obtain⟨fs,f1,f2,f3⟩:=Ă aw λv hv=>by
   obtain⟨i,hi,rfl⟩:=Es hv;obtain⟨a,b,st,i1,j1,t,t1,t2,oa,ob,na,nb,e,h1,h2,h3,_⟩:=el i hi;rw[Ai,Ad hi]at e;exact⟨a,.ref b,st,t,oa,na,e,kp _ _ h1,h2,h3⟩
  refine PySem.W.kat_kind (T:=.type "str") f1 ∅ (λv hv=>?_) ⋯ ⟨rfl,rfl⟩;obtain⟨st,t,rfl⟩:=f3 v hv;exact PySem.W.Looks.now
 ·obtain⟨a,b,st,i1,j1,t,t1,t2,oa,ob,na,nb,e,h1,h2,h3,k1,k2,k3⟩:=el i hi;obtain⟨a',b',qU,i1',j1',t',ĕ,ē,ć,ě,na',ř,e',iH,wq,XM,ŝ,Ŝ,ś⟩:=el j hj;rw[e,e'];exact abT (s:={s with heap:=h'}) (by show X.A.units+1+1+1 < _;omega) (kp _ _ h1) h3 (kp _ _ k1) k2 k3 (kp _ _ iH) XM (kp _ _ ŝ) Ŝ ś hC
 ·obtain⟨ws,m,a1,a2,a3⟩:=Wl r' hv hp;obtain⟨e,he⟩:=sortedAll_at s.heap aw out.toArray;refine⟨.ref (s.heap.objs.size+1),_,I.laid (t':=s.toks) (λ_ _=>sortedAll_old) (Ee _) (show bA X.prog X.w _ _ _ (.lst ws) from⟨?_,out,e,a1,he⟩),rfl,(q m a3 ws a2).at _ (I.bN.fresh (Ee _))⟩;rw[a2.length,a3.length_eq];rw[<- UQ];exact hz
def VE(l:O PV):W (O PV):=.fK (l.length < 64/\l.all uk=true) (.any λm=>m.Perm l)
def aaQ(hK:X.K=K)(hu:X.A.units+200 < ss)(hg:Gl X "sorted")(hm:X.mg "sorted"=bm)(ha:MP X K fs e wl)(he:‹iq X e []›)(eM:‹m6 X pos []›):LF X K fs (.Call (.Name "sorted" p) [e] [] pos) (.bind wl VE):=
 ⟨PE.imp (fU (Pe hK hu) hg hm boot_sorted (a9 ha.p cv he) ⋯ ⋯ he eM) λσ H Q ⟨sr,q⟩=>⟨sr,wl.mono (λl q1 u1 H1 g1 s1 _ v1=>by
  obtain⟨⟨c1,c2⟩,q2⟩:=q1;obtain⟨a,vs,rfl,h1,r1⟩:=v1 H1 .refl s1;exact⟨a,vs,l,rfl,h1,r1,c1,c2,λm hm ws hw=>Gy g1 s1 hw (q2 m hm)⟩) q⟩⟩
end
end
end FL
variable{x z:Cu}{ts:O Cu}{t3:PySem.Tok}
namespace FL
section
variable{K:Ab}
structure Pu(K:Ab)(a:ci)(ts:List Str):Prop where
 ex:∃(o:Obj) (aw:Array ce) (n:Nat),K.lookup a=ap o/\o.cls=.type "tuple"/\o.data=.seq aw n/\aw.size<=sizeLine/\Vals (ts.map V.str) aw.toList
 tn:∃o:Obj,K.lookup a=ap o/\o.cls=.type "tuple"/\o.dict=bm
def tup3K{t2:Tok}(h:K.lookup a=ap ⟨.type "tuple",bm,.seq #[.str x t1,.str y t2,.str z t3] n,Y1⟩):Pu K a [x,y,z]:=⟨⟨_,_,_,h,rfl,rfl,bB (by show 3<=_;decide),.cons ⟨_,rfl⟩ (.cons ⟨_,rfl⟩ (.cons ⟨_,rfl⟩ .nil))⟩,_,h,rfl,rfl⟩
section
theorem Ht(H:Hp):∀ts:O Str,aO K [] H (ts.map V.str) (ts.map PV.str)
 | []=>.nil
 | t::ts=>.cons (.str t) (Ht H ts)
def ai2(hK:X.K=K)(hm:X.mg x=ap (.ref a))(T:Pu K a ts)(hg:‹Gl X x›)(hd: ~~~(jN x)):yO X K fs tg (.Name x pos) (.ret (ts.map PV.str)):=⟨by
 subst hK;intro Z s σ H R I ⟨sr,q⟩;have sq:∀H',eW X.K H' a (ts.map V.str):=λ_=>.inr T.ex;refine bS (oK hg hm (v:=.ref a) rfl hd Z s σ H (λu H1=>u=.ref a/\H1=H) I ⟨rfl,rfl⟩) λv s1 ⟨x,H1,I1,r1,e1,e2⟩=>?_;subst e1;subst e2;cases r1;obtain⟨aw,rv,pl,hz⟩:=I1.tuple (sq _);have jf:JF X.K H1 (Itt X.K a) (ts.map PV.str):=⟨by rw[Ae]at hz ⊢;exact hz,λH' t=>by
  have e2:=Ht (K:=X.K) H' ts;refine⟨λi p hp=>?_,_,sq H',by rw[e2.length];exact An _⟩;obtain⟨v,h3,h4⟩:=e2.get hp;refine⟨⟨_,v,sq H',h3⟩,λx H3 y=>?_⟩;obtain⟨rfl,y⟩:=y;have:=y _ (sq _);rw[h3]at this;cases this;exact⟨mP.refl _,h4⟩⟩
 refine Dz (show s1.heap.IsTuple a aw.toArray from pl) ?_;refine⟨s1.heap.objs.size,[s1.heap.objs.size],_,_,H1,rfl,I1.kept (t':=s1.toks) λb o e=>Ag _ e,wM a _,⟨_,Ar _ rfl,rfl,rfl⟩,λb hb=>?_,q _ H1 .refl sr jf⟩;have e:b=s1.heap.objs.size:=by simpa using hb
 subst e;exact I1.xZ (An _) (I1.bN.fresh (An _))⟩
end
section
variable{a:lc}
def ahw(hK:X.K=K)(hu:X.A.units+200 < ss){ad:ci}(ha:EF X K fs a wa)(hm:X.mg x=ap (.ref ad))(T:Pu K ad ts)(hg:‹Gl X x›)(hd: ~~~(jN x))(hk:‹sn .In (.Name x p)=false›) :
  TF X K fs (.Compare a [.In] [.Name x p] pos) (.bind wa λv=>m8 false v (ts.map PV.str)):=⟨PT.imp (vV (Nv K hK hu) ha.p (oK hg hm (v:=.ref ad) rfl hd) hk) λσ H Q ⟨sr,q⟩=>⟨sr,wa.mono (λv q1 u1 H1 g1 s1 v1=>⟨ad,_,_,v,rfl,.inr (.inr T.ex),Ht H1 ts,v1,q1.1,_,rfl,q1.2 H1 g1 s1⟩) q⟩⟩
end
end
section
variable{K:Ab}
section
variable{rest:O u8}{S T T2:Type}{hd:ci->S->bD}{s0:S}{wt:PV->W T2}{d9:ci->S->T2->bD}{k:S->W T}{out:T->End}{x:Bool}
def aag(sr:a8 K H σ fs)(hs:fs[i]?=ap (ap (.ol (ap a) l))):∃ws,H a=ap (.lst ws)/\aO K [] H ws l:=by
 obtain⟨u,_,⟨v,e,_⟩ | ⟨b,_,z,ws,q1,q2⟩⟩:=sr.at' i _ hs
 ·cases e
 ·cases z a rfl;exact⟨ws,q1,q2⟩
theorem SF.aoa(i:Nat){f:PV->S->W S}{wb:T2->S->W S}(hs:fs[i]?=ap (ap (.ol q0 l)))(hK:X.K=K)(hN:X.N[i]?=ap y)(hv:yT X.env.scope y)(hp:xz (ev X.prog X.w) X.A X.env X.xe)(hc:X.calm=true)
  (hl:∀a,jO (fs.set i (ap (.ol (ap a) l))) (hd a s0)) (Ĭ:∀a s,(hd a s)[i]?=ap (ap (.ol (ap a) l))) (hg:∀a s,GF X K (hd a s) tg is wt (d9 a s)) (hf:∀p s,f p s=.bind (wt p) λt=>wb t s)
  (hb:∀a s t,SF X K false (d9 a s t) body (wb t s) λs'=>.nc (hd a s')) (hr:∀a s,SF X K x ((hd a s).set i (ap (.ol bm l))) rest (k s) out) (ī: ~~~(jN y)) (iG: ~~~(zY y)) (ť:∀x,foldedSetIterable (.Name y p) X.env x=pure x:=by intro _;rfl) :
  SF X K x fs (.For tg (.Name y p) body [] pos::rest) (.bind (bH l s0 f) k) out:=by
 refine SF.step (Np (g:=λv σ H Q=>∃a s,fG K (hd a s) is wt (d9 a s) v σ H Q) (tb:=λD σ H=>∃a s t,fS K false (d9 a s t) (wb t s) (λs'=>.nc (hd a s')) D σ H) hp hc (Wi (K:=K) (hK:=hK) (dI hN hv ī iG)) (λZ s σ H v u Q I r ⟨a,s1,q⟩=>(hg a s1).p Z s σ H v u Q I r q) (λZ s σ H D I ⟨a,s1,t1,q⟩=>(hb a s1 t1).p Z s σ H D I q) ť) λD σ H ⟨sr,q1⟩=>?_;obtain⟨a,ws,e1,h1,r1⟩:=eO sr hs;obtain⟨s1,g1⟩:=fo (t':=.ol (ap a) l) sr hs rfl (by simp) e1 (λ_ _ _ h=>h) λ_=>⟨λb z=>Option.some.inj z,ws,h1,r1⟩;refine⟨_,e1,a,rfl,⟨ws,.inl (.inl h1)⟩,?_⟩;refine⟨λi' m σ' H'=>∃s,a8 K H' σ' (hd a s)/\cZ σ fs H σ' (hd a s) H'/\m=l.length-i'/\i'<=l.length/\(bH (l.drop i') s f).run λs'=>(k s').run λt=>bR K x σ fs H D (out t),⟨l.length,s0,s1.le (hl a),g1.trans (cZ.le s1 (hl a)),by simp,A3 _,by simpa using q1⟩,?_⟩;rintro i' m σ2 H2 ⟨s,s2,g2,rfl,hi,q2⟩;obtain⟨us,h2,r2⟩:=aag s2 (Ĭ a s);have sq:eN K H2 a us:=.inl (.inl h2);by_cases fC:i' < l.length
 ·obtain⟨v,h3,h4⟩:=r2.get (Ad fC);rw[Bz fC]at q2;refine .inr ⟨⟨us,v,sq,h3⟩,λσ3 H3=>∃s',a8 K H3 σ3 (hd a s')/\cZ σ fs H σ3 (hd a s') H3/\(bH (l.drop (i'+1)) s' f).run λs'=>(k s').run λt=>bR K x σ fs H D (out t),λσ3 H3 ⟨s',a1,a2,a4⟩=>⟨l.length-(i'+1),by omega,s',a1,a2,rfl,fC,a4⟩,λv2 H3 y=>?_⟩;obtain⟨rfl,y⟩:=y;have:=y us sq;rw[h3]at this;cases this;have q2:(f l[i'] s).run λs'=>(bH (l.drop (i'+1)) s' f).run λs'=>(k s').run λt=>bR K x σ fs H D (out t):=q2;rw[hf]at q2;refine⟨a,s,_,s2,h4,(wt l[i']).mono (λt q4 us g4 s4=>?_) q2⟩;refine⟨a,s,t,s4,(wb t s).mono (λs' q5 σ5 H5 g5 s5=>?_) q4⟩;exact⟨λ_=>⟨s',s5,(g2.trans g4).trans g5,q5⟩,s',s5,(g2.trans g4).trans g5,q5⟩
 ·have e:i'=l.length:=by omega
  subst e;rw[D6]at q2;obtain⟨a',us',e2,wq,r2'⟩:=eO s2 (Ĭ a s);obtain⟨s3,g3⟩:=fo (t':=.ol bm l) s2 (Ĭ a s) rfl (by simp) e2 (λ_ _ _ h=>h) λ_=>⟨by simp,us',wq,r2'⟩;exact .inl ⟨⟨us,sq,by rw[r2.length];exact An _⟩,_,k s,hr a s,s3,(k s).mono (λt q3=>q3.go (g2.trans g3) sr s3) q2⟩
def SF.ajI(i:Nat){f:PV->S->W S}(hs:fs[i]?=ap (ap (.ol q0 l)))(hK:X.K=K)(hN:X.N[i]?=ap y)(hv:yT X.env.scope y)(hp:xz (ev X.prog X.w) X.A X.env X.xe)(hc:X.calm=true)
  (hl:∀a,jO (fs.set i (ap (.ol (ap a) l))) (hd a s0)) (Ĭ:∀a s,(hd a s)[i]?=ap (ap (.ol (ap a) l))) (hg:PG X tg (fc j))
  (hb:∀a s p,SF X K false ((hd a s).set j (ap (.val p))) body (f p s) λs'=>.nc (hd a s')) (hr:∀a s,SF X K x ((hd a s).set i (ap (.ol bm l))) rest (k s) out) (ī: ~~~(jN y)) (iG: ~~~(zY y)) (ť:∀x,foldedSetIterable (.Name y p) X.env x=pure x:=by intro _;rfl) :
  SF X K x fs (.For tg (.Name y p) body [] pos::rest) (.bind (bH l s0 f) k) out:=SF.aoa (wt:=.ret) (wb:=λp s=>f p s) i hs hK hN hv hp hc hl Ĭ (λa s=>g_1 hg) (λ_ _=>rfl) hb hr ī iG ť
end
end
end FL
variable{kp cp:Cz}{kc:Nat}
namespace L2
section
variable{R:Result->cr->Prop}{I S:ci}{wr:O ci}{P:Nat->ce->Prop}{St:Nat->pr->Prop}
abbrev dfN:O (Str×ce):=[(BO "default",.none)]
abbrev akf(l:O ce)(c:Nat):Obj:={cls:=.type "list",dict:=bm,data:=.seq l.toArray c,slots:=#[]}
def abt{n:Nat}(h:n<=2):n<=sizeLine:=AW h ⋯
theorem Su(W:Walks prog w A.in1 I fp wr n P St)(bt:Nat->Nat->Bool)(anR:CmpOf prog w A.in1 .Lt P bt)(hSf:S∉fp) :
  ∀(k j:Nat) (s:cr) (l:O ce) (c:Nat),n-j=k->j<=n->St j s.heap->(j=0/\l=[]\/∃i v,j=i+1/\l=[v,v]/\P (argBest bt i) v)->s.heap.get? S=ap (akf l c)->
  (∀v h' tk,(n=0/\v=.none\/0 < n/\P (argBest bt (n-1)) v)->(∀b o,b∉wr->b≠S->s.heap.get? b=ap o->h'.get? b=ap o)->R (.ok (.ret v)) {s with heap:=h',toks:=tk})->
  GE (ev prog w) A (.builtin "min.loop" ⟨[.ref I,.none,.ref S],dfN⟩) R s:=by
 have hSw:S∉wr:=λh=>hSf (W.sub _ h);have hn:(toString "min"++toString ".loop":String)="min.loop":=by decide
 intro k
 induction k with
 | zero=>
  intro j s l c hk hj pj hl hS hR;have e:j=n:=by omega
  subst e;refine Os F.entry_min_loop ?_;rw[FK CU _];refine Aa (BK hS rfl (Aa (EE (W.done s _ _ pj λh' tk ý=>?_))));have Ā:=ý S _ hSw hS;rcases hl with⟨e0,rfl⟩ | ⟨i,v,rfl,rfl,hv⟩
  ·exact Aa (Dl (Af (hR _ h' tk (.inl ⟨e0,rfl⟩) λb o hb _ z=>ý b o hb z)))
  ·refine Aa (C4 Ā rfl (Aa (C0 (Af ?_))) (abt (An _)) (A3 _));exact hR v _ tk (.inr ⟨Nat.succ_pos _,hv⟩) λb o hb XH z=>(B7 _ _ (BW XH)).trans (ý b o hb z)
 | succ k ih=>
  intro j s l c hk hj pj hl hS hR;have fC:j < n:=by omega
  refine Os F.entry_min_loop ?_;rw[FK CU _];refine Aa (BK hS rfl (Aa (EE (W.item j s _ _ fC pj λv h' tk hP aje ý=>?_))));have Ā:=ý S _ hSw hS;have acV:∀(f:Obj->Obj) b o,b∉wr->b≠S->s.heap.get? b=ap o->(h'.update S f).get? b=ap o:=λf b o hb XH z=>(B7 _ _ (BW XH)).trans (ý b o hb z);have frU:∀(f:Obj->Obj),St (j+1) (h'.update S f):=λf=>W.frame _ _ _ aje λb hbf o e=>(B7 _ _ (λh:S=b=>hSf (by rw[h];exact hbf))).trans e;refine Aa (Af ?_);rcases hl with⟨rfl,rfl⟩ | ⟨i,vb,rfl,rfl,hb⟩
  ·refine Aa (C4 Ā rfl ?_ (A3 _) (Nat.le_succ_of_le (abt (An _))));rw[hn];refine Af ⟨xL CU _,ih 1 _ [v,v] _ ∅ fC (frU _) (.inr ⟨0,v,rfl,rfl,hP⟩) (BX _ Ā rfl) λv' h2 Ē XJ ü=>?_⟩;exact hR v' h2 Ē XJ λb o hb XH z=>ü b o hb XH (acV _ b o hb XH z)
  ·refine Aa (EE (Bj (Aa (anR (i+1) (argBest bt i) v vb _ _ _ hP hb ?_))));refine Aa (Bj (Bv (Aa (C0 (Af ?_)))));cases hbt:bt (i+1) (argBest bt i) with
   | true=>
    refine Aa (C4 Ā rfl (Aa (C0 ?_)) (abt (An _)) (Nat.le_succ_of_le (abt (An _))));rw[hn];refine Af ⟨xL CU _,ih (i+2) _ [v,v] _ ∅ fC (frU _) (.inr ⟨i+1,v,rfl,rfl,by simp only[argBest,hbt,if_true];exact hP⟩) (BX _ Ā rfl) λv' h2 Ē XJ ü=>?_⟩;exact hR v' h2 Ē XJ λb o hb XH z=>ü b o hb XH (acV _ b o hb XH z)
   | false=>
    refine Aa (C0 ?_);rw[hn];refine Af ⟨xL CU _,ih (i+2) _ [vb,vb] c ∅ fC aje (.inr ⟨i+1,vb,rfl,rfl,by simp only[argBest,hbt];exact hb⟩) Ā λv' h2 Ē XJ ü=>?_⟩;exact hR v' h2 Ē XJ λb o hb XH z=>ü b o hb XH (ý b o hb z)
def Ur(a:ce):argsOk "min" ⟨[a],dfN⟩:=by unfold argsOk;kernel_rfl
def aaI(ns:O Int)(t:Tok):ce:=if ns=[] then .none else .int (tS ns) t
theorem NJ{l:ci}(hh:A.handled=bm)(hl:s.heap.IsList l vs.toArray)(hi:ww vs ns)
  (h:∀(h':pr) (t:Tok) tk,(∀b o,s.heap.get? b=ap o->h'.get? b=ap o)->Q (aaI ns t) {s with heap:=h',toks:=tk}):db (ev prog w) A (call (.builtin "min") [.ref l] dfN) Q E s:=by
 obtain⟨xs,e⟩:=hi.allInts.items;have MK:ns=xs.toList.map (·.1):=by rw[<- hi.numsOf,<- nums_intItems,<- e]
 rw[e]at hl;have hn:(toString "min"++toString ".loop":String)="min.loop":=by decide
 refine kmb_tree F.kind_min F.plain_min F.entry_min (Ur _) ?_;refine Aa (CJ (show Builtin.Builtins.bindParams "min" ["key","default"] 0 ⟨[],dfN⟩=pure [bm,ap .none] from rfl) ?_);refine Aa (Af ?_);refine Aa (iter_intList hl λs₂ e2 st hfp hlI=>?_);subst e2;refine Aa (AO ?_);rw[hn];have W:=Walks.list (A:=A.in1) (prog:=prog) (w:=w) hh s.heap.objs.size l hlI (intItems xs);have hsz:(intItems xs).size=ns.length:=by rw[MK];simp[intItems]
 refine Af ⟨xL CU _,Su W _ (CmpOf.ints_lt (numAt xs) (λ_ _=>intItems_at)) (λhm=>Ba _ (hfp _ hm)) _ 0 _ [] 0 rfl (A3 _) (W.frame _ _ _ st λb _ o e=>Ag _ e) (.inl ⟨rfl,rfl⟩) (Ar _ rfl) λv h' tk hP hk=>?_⟩;have kp:∀b o,s.heap.get? b=ap o->h'.get? b=ap o:=λb o z=>by
  have h1:=Aw z;refine hk b o (λy=>AM h1 (AN.mp y)) (λy=>?_) (Ag _ (Ag _ z));rw[y,CT]at h1;exact absurd h1 (Nat.not_lt_of_le (Ee _))
 rcases hP with⟨h0,rfl⟩ | ⟨h0,hP⟩
 ·have e0:ns=[]:=Cs ∅;have:=h h' 0 tk kp;rw[aaI,if_pos e0]at this;exact this
 ·obtain⟨t,rfl⟩:=intItems_at hP;have e0:ns≠[]:=λz=>by rw[hsz,z]at h0;exact Ba _ h0
  have h2:=h h' t tk kp;rw[aaI,if_neg e0,<- QN MK e0]at h2;have ez:(intItems xs).size=xs.size:=by simp[intItems]
  rw[ez];exact h2
end
def ah9(K:Ab):O V->Hp->VK->Prop:=λxs H Q=>∃(p:ci) (ns:O Int),xs=[.ref p]/\eN K H p (ns.map V.int)/\Q (if ns=[] then .aL else .int (tS ns)) H
def aab{t:TA}(K:Ab)(hK:X.K=K)(hc:X.calm=true)(hg:Gl X "min")(hm:X.mg "min"=bm)(ha:PA X [e] t)(he:BT pos (im [e] X.env)=(false,lw e X.env)::BT pos (im [] X.env))(hp:(BT pos (im [e] X.env)).any (·.1)=false) :
  PE X (.Call (.Name "min" p) [e] [⟨ap (BO "default"),.Constant .none kc cp,kp⟩] pos) (λσ H Q=>t σ H λvs H'=>ah9 K vs H' Q):=by
 subst hK;intro Z s σ H Q I h;refine BD (jx I hg hm boot_min ?_ ⋯ ⋯);refine callWith_kw (bS (ha pos Z s σ H _ I h) λus s1 ⟨vs,H1,I1,r1,q1⟩=>?_) he hp;refine kws_cons (bS (Wn Z s1 σ H1 (λv H2=>v=.aL/\H2=H1) I1 ⟨rfl,rfl⟩) λv s2 ⟨x,H2,I2,r2,e1,e2⟩=>kws_nil ?_);subst e1 e2;cases r2;obtain⟨a,ns,rfl,hq,q⟩:=q1;obtain⟨u,rfl,rx⟩:=vals1 r1;cases rx;obtain⟨aw,r',pl,hz⟩:=I2.list hq;refine NJ (I2.ok.hd hc) pl.isList (intsAre_of r') λh' t tk hk=>?_;unfold aaI;by_cases c:ns=[]
 ·rw[if_pos c]at q ⊢;exact⟨.aL,_,I2.kept (t':=tk) hk,rfl,q⟩
 ·rw[if_neg c]at q ⊢;exact⟨.int _,_,I2.kept (t':=tk) hk,⟨t,rfl⟩,q⟩
end L2
namespace FL
def QM(l:O PV):W PV:=.bind (qa l) λns=>.ret (if ns=[] then .aL else .int (tS ns))
def af2{K:Ab}(hK:X.K=K)(hc:X.calm=true)(hg:Gl X "min")(hm:X.mg "min"=bm)(ha:MP X K fs e wl)(hs:‹iq X e []›)(he:‹BT pos (im [e] X.env)=(false,lw e X.env)::BT pos (im [] X.env)›)(hp:‹(BT pos (im [e] X.env)).any (·.1)=false›) :
  EF X K fs (.Call (.Name "min" p) [e] [⟨ap (BO "default"),.Constant .none kc cp,kp⟩] pos) (.bind wl QM):=⟨PE.imp (aab K hK hc hg hm (a9 ha.p cv hs) he hp) λσ H Q ⟨sr,q⟩=>⟨sr,wl.mono (λl q1 u1 H1 g1 s1 _ v1=>by
 obtain⟨ns,el,q2⟩:=iW (l:=l) q1;obtain⟨a,vs,rfl,h1,r1⟩:=v1 H1 .refl s1;rw[el]at r1;have:=mh r1;subst this;refine⟨a,ns,rfl,h1,?_⟩;by_cases c:ns=[]
 ·simp only[if_pos c]at q2 ⊢;exact q2 _ H1 g1 s1 .aL
 ·simp only[if_neg c]at q2 ⊢;exact q2 _ H1 g1 s1 (.int _)) q⟩⟩
end FL
namespace L2
def ix3(x y z q:Str):Nat:=if x=q then 0 else if y=q then 1 else 2
def tT{q:Str}{t2:Tok}:Meets (wP.«tuple.index» ⟨[.ref a,.str q t],[]⟩) (λ_ R s=>(∃o,s.heap.get? a=ap o/\o.data=.seq #[.str x t1,.str y t2,.str z t3] n)/\q∈[x,y,z]/\∀u,R (.ok (.ret (.int (ix3 x y z q:Nat) u))) {s with toks:=s.toks+1}):=by
 refine .of_wp λprog w A R s ⟨⟨o,ho,hd⟩,hq,h⟩=>?_;refine Aa (Af ?_);refine Aa (Aa (BK ho hd (Af ?_)));refine Aa (Af ?_);refine Aa (Af ?_);refine Aa ?_;rw[Std.Legacy.Range.forIn_eq_forIn_range'];rw[show List.range' [:min #[Br x t1,Br y t2,Br z t3].size #[Br x t1,Br y t2,Br z t3].size].start [:min #[Br x t1,Br y t2,Br z t3].size #[Br x t1,Br y t2,Br z t3].size].size [:min #[Br x t1,Br y t2,Br z t3].size #[Br x t1,Br y t2,Br z t3].size].step=[0,1,2] from by simp only[Std.Legacy.Range.size,Ak,Ap,Bd];decide];simp only[Cg,List.forIn_nil];refine Aa (Aa (D2 ?_));have Í:∀k:Nat,ix3 x y z q=k->∃v,FI (.ret (.int (k:Int) s.toks))=FI (.ret v)/\R (.ok (.ret v)) {s with toks:=s.toks+1}:=λk e=>⟨_,rfl,by have:=h s.toks;rw[e]at this;exact this⟩;by_cases c1:x=q
 ·subst c1;rw[decide_eq_true rfl,if_pos rfl];exact Aa (Aa (Aa (wpAny_fresh (Af (Af (Af (Af (Af (Í 0 (if_pos rfl))))))))))
 ·rw[decide_eq_false c1,if_neg ⋯];refine Af (Aa (Aa (D2 ?_)));by_cases c2:y=q
  ·subst c2;rw[decide_eq_true rfl,if_pos rfl];exact Aa (Aa (Aa (wpAny_fresh (Af (Af (Af (Af (Af (Í 1 (by rw[ix3,if_neg c1,if_pos rfl]))))))))))
  ·rw[decide_eq_false c2,if_neg ⋯];refine Af (Aa (Aa (D2 ?_)));have c3:z=q:=by simp at hq;rcases hq with e | e | e <;> first | exact absurd e.symm c1 | exact absurd e.symm c2 | exact e.symm
   subst c3;rw[decide_eq_true rfl,if_pos rfl];exact Aa (Aa (Aa (wpAny_fresh (Af (Af (Af (Af (Af (Í 2 (by rw[ix3,if_neg c1,if_neg c2]))))))))))
def aie(K:Ab):V->O V->Hp->VK->Prop:=λv vs H Q=>∃a x y z q,v=.ref a/\vs=[.str q]/\eW K H a [.str x,.str y,.str z]/\q∈[x,y,z]/\Q (.int (ix3 x y z q:Nat)) H
def aaF(K:Ab)(hK:X.K=K):MR X "tuple.index" (aie K):=by
 subst hK;intro Z s σ H v vs u us Q I rx rv h;obtain⟨a,x,y,z,q,rfl,rfl,hq,hm,qq⟩:=h;cases rx;obtain⟨u,rfl,ru⟩:=rv.one;obtain⟨t,rfl⟩:=ru;obtain⟨aw,r,pl,hz⟩:=I.tuple hq;obtain⟨o,ho,hc,n,hd⟩:=pl;cases r with
 | cons q1 r=>cases r with
  | cons q2 r=>cases r with
   | cons q3 r=>
    cases r;obtain⟨t1,rfl⟩:=q1;obtain⟨t2,rfl⟩:=q2;obtain⟨t3,rfl⟩:=q3;exact sK F.slot_tuple_index ⟨_,ho,hc⟩ F.entry_tuple_index (F.args_tuple_index_2 _ _) tT ⟨⟨_,ho,hd⟩,hm,λu=>⟨.int _,H,I.tok _,⟨u,rfl⟩,qq⟩⟩
end L2
namespace FL
def Xx(ts:O Str):PV->W PV
 | .str q=>match ts with
  | [x,y,z]=>.fK (q∈[x,y,z]) (.ret (.int (ix3 x y z q:Nat)))
  | _=>.fail
 | _=>.fail
def af3{K:Ab}{w:W PV}{n:Str}{ad:ci}(hK:X.K=K)(he:EF X K fs e w)(hm:X.mg n=ap (.ref ad))(T:Pu K ad ts)(hg:‹Gl X n›)(hd: ~~~(jN n))
  (da:‹o0 (.Name n p) "index" X.env (lw (.Name n p) X.env)=lw (.Name n p) X.env›)
  (nU:‹HWa X bC [e]›)
  (c9:‹RG Á bC›) (pj:‹iq X e []›) (d5:‹m6 X bC []›) :
  EF X K fs (.Call (.Attribute (.Name n p) "index" Á) [e] [] bC) (.bind w (Xx ts)):=
 ⟨PE.imp (qr K hK PySem.F.plainAttrs_tuple PySem.F.slot_tuple_index PySem.F.type_tuple_index (aaF K hK) (oK hg hm (v:=.ref ad) rfl hd) (a9 he.p cv pj) da nU c9 pj d5) λσ H Q ⟨sr,q⟩=>
  ⟨.inr (.inl ⟨rfl,T.tn⟩),sr,w.mono (λx q2 u2 H2 g2 s2 v2=>by
   cases v2 <;> first | exact q2.elim | skip
   match ts,T,q2 with
   | [x,y,z],T,q2=>exact⟨ad,x,y,z,_,rfl,rfl,.inr T.ex,q2.1,q2.2 _ H2 g2 s2 (.int _)⟩
   | [],_,q2=>exact q2.elim
   | [_],_,q2=>exact q2.elim
   | [_,_],_,q2=>exact q2.elim
   | _::_::_::_::_,_,q2=>exact q2.elim) q⟩⟩
section
variable{K:Ab}
def HJ(l:O PV):PV->W (O PV×PV)
 | .int k=>.bind (.MF (uh l.length k)) λj=>.bind (.MF l[j]?) λv=>.fK (l.length<=sizeLine) (.ret (l.eraseIdx j,v))
 | _=>.fail
theorem aO.erase:∀{ws:O V}{l:O PV} (j:Nat),aO K [] H ws l->aO K [] H (ws.eraseIdx j) (l.eraseIdx j)
 | _,_,_,.nil=>by simp only[List.eraseIdx_nil];exact .nil
 | _,_,0,.cons _ t=>t
 | _,_,j+1,.cons r t=>by rw[CY,CY];exact .cons r (aO.erase j t)
section
variable{rest:O u8}{T:Type}{out:T->End}{x:Bool}
theorem SF.amG(i j:Nat){k:O PV×PV->W T}(hs:fs[i]?=ap (ap (.ol q0 l)))(ħ:j≠i)(hK:X.K=K)(hN:X.N[i]?=ap y)(hv:yT X.env.scope y)(ŵ:X.N.Nodup)(hj:X.N[j]?=ap z)(hx:Loc X.env.scope z)(he:EF X K fs e we)(hr:∀t:O PV×PV,SF X K x ((fs.set i (ap (.ol q0 t.1))).set j (ap (.val t.2))) rest (k t) out)
  (hd: ~~~(jN y)) (iG: ~~~(zY y)) (da:‹o0 (.Name y p) "pop" X.env (lw (.Name y p) X.env)=lw (.Name y p) X.env›)
  (nU:‹HWa X bC [e]›)
  (c9:‹RG Á bC›) (pj:‹iq X e []›) (d5:‹m6 X bC []›)
  (xQ:‹pc (.Call (.Attribute (.Name y p) "pop" Á) [e] [] bC) (ap (.Name z p')) pos.line X.env=pure false›) (hf:UG X z:=by first | exact .inl rfl | exact .inr rfl | assumption) :
  SF X K x fs (.Assign [.Name z p'] (.Call (.Attribute (.Name y p) "pop" Á) [e] [] bC) pos::rest) (.bind we λn=>.bind (HJ l n) k) out:=
 SF.step (tN ŵ hj hx (qr K hK BI FD FC WU (dI hN hv hd iG) (a9 he.p cv pj) da nU c9 pj d5) xQ hf) λD σ H ⟨sr,q⟩=>by
  obtain⟨a,ws,e1,h1,r1⟩:=eO sr hs;refine⟨_,e1,.inl ⟨rfl,_,eN.of h1⟩,sr,we.mono (λn q1 u H1 g1 s1 v1=>?_) q⟩;obtain⟨a',wI,tE,iH,vj⟩:=eO s1 hs;rw[e1]at tE;cases tE;cases v1 with
  | int kk=>
   have q1:(am (.MF (uh l.length kk)) λj=>.bind (.MF l[j]?) λv=>.fK (l.length<=sizeLine) (.ret (l.eraseIdx j,v))).run λt=>(k t).run λt=>bR K x σ fs H D (out t):=q1;cases hx:uh l.length kk with
   | none=>rw[hx]at q1;exact q1.elim
   | some m=>
   cases hv:l[m]? with
   | none=>rw[hx]at q1;simp only[sw,ga,hv]at q1;exact q1.elim
   | some v=>
   rw[hx]at q1;simp only[sw,ga,hv]at q1;obtain⟨hz,q1⟩:=q1;obtain⟨uu,hu,ru⟩:=vj.get hv;obtain⟨h3,h4,h5,h6⟩:=IE hx;have h9:(sizeLine:Int) < 2 ^ 63:=by decide
   refine⟨a,wI,kk,m,uu,rfl,rfl,iH,by omega,by omega,by rw[vj.length];exact h3,hu,?_⟩;have sx:qj a H1 (upd H1 a (.lst (wI.eraseIdx m))):=λz o n hz=>by rw[aD n];exact hz
   obtain⟨s2,g2⟩:=fo (t':=.ol q0 (l.eraseIdx m)) s1 hs rfl (by simp) e1 sx λtk=>⟨λb hb=>by
    subst hb;obtain⟨u,e2,⟨v,e,_⟩ | ⟨b',e,z,_⟩⟩:=s1.at' i _ hs
    ·cases e
    ·rw[e2]at e1;cases e1;cases e;exact z b rfl,_,aW,aO.tk tk (aO.erase m vj)⟩
   have s3:=s2.eY (g2.vr s1 ru) j;exact⟨_,k _,hr (l.eraseIdx m,v),s3,(k _).mono (λt q2=>q2.go ((g1.f.trans g2).trans (cZ.eY s2 _ _ j)) sr s3) q1⟩
  | _=>exact q1.elim
end
end
section
variable{K:Ab}
def Ks(kvs:O (O Key×PV))(k:O Key)(v:PV):O (O Key×PV):=
 if (kvs.any λkv=>decide (kv.1=k)) then kvs.map λkv=>if kv.1=k then (kv.1,v) else kv else kvs++[(k,v)]
section
theorem cG.ind{C:O (O Key×V)->O (O Key×PV)->Prop}(h0:C [] [])(h1:∀(p:O Key×V) (q:O Key×PV) vs kvs,p.1=q.1->VR K [] H p.2 q.2->cG K H vs kvs->C vs kvs->C (p::vs) (q::kvs)):∀{vs kvs},cG K H vs kvs->C vs kvs
 | [],[],_=>h0
 | [],_::_,h=>by simp[cG]at h
 | _::_,[],h=>by simp[cG]at h
 | p::vs,q::kvs,⟨a,b⟩=>by
  rw[Aq,Aq]at a b;injection a with a1 a2;cases b with
  | cons r t=>exact h1 p q vs kvs a1 r ⟨a2,t⟩ (cG.ind h0 h1 ⟨a2,t⟩)
def cG.mk'{p:O Key×V}{q:O Key×PV}{vs kvs}(e:p.1=q.1)(r:VR K [] H p.2 q.2)(h:cG K H vs kvs):cG K H (p::vs) (q::kvs):=⟨by rw[Aq,Aq,e,h.1],.cons r h.2⟩
def cG.put{vs:O (O Key×V)}(h:cG K H vs kvs)(k:O Key)(r:VR K [] H u v):cG K H (putK vs k u) (Ks kvs k v):=by
 have hh:(vs.any λkv=>decide (kv.1=k))=kvs.any λkv=>decide (kv.1=k):=cG.ind (C:=λvs kvs=>(vs.any λkv=>decide (kv.1=k))=kvs.any λkv=>decide (kv.1=k)) rfl (λp q vs kvs e _ _ ih=>by rw[BZ,BZ,ih,e]) h;unfold putK Ks;rw[hh]
 split
 ·refine cG.ind (C:=λvs kvs=>cG K H (vs.map λkv=>if kv.1=k then (kv.1,u) else kv) (kvs.map λkv=>if kv.1=k then (kv.1,v) else kv)) ⟨rfl,.nil⟩ (λp q vs kvs e rr _ ih=>?_) h;rw[Aq,Aq];by_cases c:p.1=k
  ·rw[if_pos c,if_pos (e▸c)];exact cG.mk' e r ih
  ·rw[if_neg c,if_neg (e▸c)];exact cG.mk' e rr ih
 ·exact cG.ind (C:=λvs kvs=>cG K H (vs++[(k,u)]) (kvs++[(k,v)])) ⟨rfl,.cons r .nil⟩ (λp q vs kvs e rr _ ih=>cG.mk' e rr ih) h
end
section
variable{a:lc}{rest:O u8}{T:Type}{out:T->End}{x:Bool}
def rE(sr:a8 K H σ fs)(hs:fs[i]?=ap (ap (.ot kvs))):∃a vs,σ[i]?=ap (ap (.ref a))/\H a=ap (.dT vs)/\cG K H vs kvs:=by
 obtain⟨u,e1,⟨v,e,_⟩ | ⟨a,e,vs,q⟩⟩:=sr.at' i _ hs
 ·cases e
 ·subst e;exact⟨a,vs,e1,q⟩
def SF.ahW{k:W T}(hN:X.N.Nodup)(hi:X.N[i]?=ap y)(hx:Loc X.env.scope y)(hr:SF X K x (fs.set i (ap (.ot []))) rest k out)(hs:‹pc (.Dict [] [] p2) (ap (.Name y p')) pos.line X.env=pure false›)
  (hf:UG X y:=by first | exact .inl rfl | exact .inr rfl | assumption):SF X K x fs (.Assign [.Name y p'] (.Dict [] [] p2) pos::rest) k out:=SF.step (tN hN hi hx Wo hs hf) λD σ H ⟨sr,q⟩=>λa n1=>by
 have s1:=kW n1 (.dT []);have no:=sr.noOwn n1;have s2:=(sr.same s1).HG (t:=.ot []) ⟨[],aW,rfl,.nil⟩ no i;exact⟨_,k,hr,s2,k.mono (λt q2=>q2.go (cZ.HG (sr.same s1) (cZ.same s1 sr) no n1 i) sr s2) q⟩
def aiY:PV->Option Key
 | .int i=>ap (.inl i)
 | .str s=>ap (.inr s)
 | _=>bm
def xF:O PV->Option (O Key)
 | []=>ap []
 | p::l=>(aiY p).bind λk=>(xF l).bind λks=>ap (k::ks)
def xH:PV->W (O Key)
 | .tup l=>.MF (xF l)
 | _=>.fail
theorem GI:∀{l:O PV}{ks:O Key},xF l=ap ks->l=ks.map kP
 | [],ks,h=>by cases h;rfl
 | p::l,ks,h=>by
  unfold xF at h;cases e:aiY p with
  | none=>rw[e]at h;cases h
  | some k=>
  cases e2:xF l with
  | none=>rw[e,e2]at h;cases h
  | some ks'=>
  rw[e,e2]at h;cases h;rw[GI e2];cases p <;> first | cases e | skip
  all_goals rfl
def Xa{Q:O Key->Prop}(r:VR K [] H u v)(q:(xH v).run Q):∃b k,u=.ref b/\H b=ap (.tup (k.map kV))/\Q k:=by
 cases r with
 | @tup b vs l e rs=>
  have q:(W.MF (xF l)).run Q:=q;cases h:xF l with
  | none=>rw[h]at q;exact q.elim
  | some k=>
   rw[h]at q;rw[GI h]at rs;rw[Ly rs]at e;exact⟨b,k,rfl,e,q⟩
 | _=>exact q.elim
theorem af4(i:Nat)(hs:fs[i]?=ap (ap (.ot kvs)))(hu:X.A.units+200 < ss)(ha:EF X K fs a wa)(hN:‹X.N[i]?=ap y›)(hv:yT X.env.scope y:=by first | exact Co rfl | exact Ca (Co rfl) | exact Ca (Ca rfl))(hd: ~~~(jN y))(iG: ~~~(zY y))(hsl:ach a) :
  EF X K fs (.Subscript (.Name y p) a pos) (.bind wa λx=>.bind (xH x) λk=>.MF (du kvs k)):=⟨PE.imp (Qy ∅ (dI hN hv hd iG) ha.p hsl) λσ H Q ⟨sr,q⟩=>by
 obtain⟨a,vs,e1,h1,r1⟩:=rE sr hs;refine⟨_,e1,sr,wa.mono (λv q1 u H1 g1 s1 v1=>?_) q⟩;obtain⟨b,k,rfl,eb,q2⟩:=Xa v1 q1;have q2:(W.MF (du kvs k)).run _:=q2;obtain⟨a',PY,tE,iH,vj⟩:=rE s1 hs;rw[e1]at tE;cases tE;cases hg:du kvs k with
 | none=>rw[hg]at q2;exact q2.elim
 | some z=>
  rw[hg]at q2;obtain⟨u,k1,k2⟩:=vj.get.2 hg;exact⟨a,u,rfl,by rw[<- k1];exact uM.t iH eb,q2 u H1 g1 s1 k2⟩⟩
def V7(kvs:O (O Key×PV))(n v:PV):W (O (O Key×PV)):=.bind (xH n) λkk=>.fK (kvs.length < sizeLine) (.ret (Ks kvs kk v))
theorem SF.Ks(i:Nat){k:O (O Key×PV)->W T}(hs:fs[i]?=ap (ap (.ot kvs)))(hu:X.A.units+200 < ss)(hN:X.N[i]?=ap y)(hv:yT X.env.scope y)(he:EF X K fs e we)(hi:EF X K fs ei wi)(hr:∀l',SF X K x (fs.set i (ap (.ot l'))) rest (k l') out)
  (hd: ~~~(jN y)) (iG: ~~~(zY y)) (xQ:‹pc e (ap (.Subscript (.Name y p) ei wO)) pos.line X.env=pure false›) :
  SF X K x fs (.Assign [.Subscript (.Name y p) ei wO] e pos::rest) (.bind we λv=>.bind wi λn=>.bind (V7 kvs n v) k) out:=
 SF.step (Qt ∅ (dI hN hv hd iG) hi.p he.p xQ) λD σ H ⟨sr,q⟩=>by
  refine⟨sr,we.mono (λv q1 u H1 g1 s1 v1=>?_) q⟩;obtain⟨a,vs,e1,h1,r1⟩:=rE s1 hs;refine⟨_,e1,s1,wi.mono (λn q2 u2 H2 g2 s2 v2=>?_) q1⟩;obtain⟨b,kk,rfl,eb,hz,q3⟩:=Xa v2 q2;obtain⟨a',PY,tE,iH,vj⟩:=rE s2 hs;rw[e1]at tE;cases tE;have len:PY.length=kvs.length:=by have:=congrArg BM vj.1;simpa using this
  refine⟨a,_,rfl,MC.t iH eb (by rw[len];exact hz),?_⟩;have sx:qj a H2 (upd H2 a (.dT (putK PY kk u))):=λz o n hz=>by rw[aD n];exact hz
  have rp:=vj.put kk (g2.vr s1 v1);obtain⟨s3,g3⟩:=fo (t':=.ot (FL.Ks kvs kk v)) s2 hs rfl (by simp) e1 sx λtk=>⟨_,aW,rp.1,aO.tk tk rp.2⟩;exact⟨_,k _,hr _,s3,(k _).mono (λt q4=>q4.go ((g1.trans g2).f.trans g3) sr s3) q3⟩
end
end
end FL
variable{es:Array PySem.DictEntry}
namespace L2
section
def Zg:Builtin.Dict_items.ownsTuple "dict_valueiterator"=false:=by decide
def QK{Q:String->cr->Prop}(ty:s.TypeIs (.ref it) "dict_valueiterator")(h:Q "dict_valueiterator" s):db (ev prog w) A (typeNameOfWhole (.ref it)) Q E s:=wpAny_typeNameOfWhole_valiter ty h
theorem WO{Q:Option ce->cr->Prop}(Í:s.heap.IsValIter it d i es.size ep)(hm:tD s.heap d es ep)(hi:i < es.size)
  (q:∀h',h'.IsValIter it d (i+1) es.size ep->B1 it s.heap h'->Q (ap es[i].val) {s with heap:=h'}):db (ev prog w) A (KB (.ref it)) Q E s:=by
 have ty:=Í.typeIs;obtain⟨o,ho,hc,hd⟩:=id Í;obtain⟨od,J2,-,J3⟩:=hm;have LB:(s.heap.update it (D7 (·.setIfInBounds 1 (tz ((i:Int)+1))))).IsValIter it d (i+1) es.size ep:=⟨_,BX _ ho (DU (CB hd _)),(EY ..).trans hc,by rw[CB hd];simp[tz]⟩;refine Aa (CO (AX (name:=BO "__next__") ty BP (A8 BP ty DR ?_ (DE _))));refine Aa (Af (Aa (Aa ?_)));refine Aa (QK ty (Af ?_));refine Aa (EH ho hd ?_);show db _ _ (if (AB d==AU)=true then _ else _) _ _ s;rw[if_neg (λz:(AB d==AU)=true=>AY z)];refine Aa (Af (Aa (CK J2 J3 ?_)));rw[if_neg (by simp)];refine Aa (Af (Aa (C5 J2 J3 ?_)));rw[if_neg (by simp)];refine Af ?_;have i0:¬((i:Int) < 0):=by omega
 simp only[i0,if_false,A5,BA hi];refine Aa ?_;refine Aa (QK ty (Af ?_));refine Aa (DW ty ?_);show db _ _ (wS (.ref it) 1 (tz ((i:Int)+1)) >>= _) _ _ s;refine Aa (Dk ho hd (by simp) (Aa (Bj ?_)));refine Aa (DW (s:={s with heap:=s.heap.update it (D7 (·.setIfInBounds 1 (tz ((i:Int)+1))))}) LB.typeIs ?_);refine Aa (DW (s:={s with heap:=s.heap.update it (D7 (·.setIfInBounds 1 (tz ((i:Int)+1))))}) LB.typeIs ?_);exact Af (Af ⟨_,rfl,Af (q _ LB (B1.update ..))⟩)
theorem abF{Q:Option ce->cr->Prop}(hh:A.handled=bm)(Í:s.heap.IsValIter it d i es.size ep)(hm:tD s.heap d es ep)(hi:es.size<=i)
  (q:∀h',EZ it s.heap h'->Q bm {s with heap:=h'}):db (ev prog w) A (KB (.ref it)) Q E s:=by
 have ty:=Í.typeIs;obtain⟨o,ho,hc,hd⟩:=id Í;obtain⟨od,J2,-,J3⟩:=hm;refine Aa (CO (AX (name:=BO "__next__") ty BP (A8 BP ty DR ?_ (DE _))));refine Aa (Af (Aa (Aa ?_)));refine Aa (QK ty (Af ?_));refine Aa (EH ho hd ?_);show db _ _ (if (AB d==AU)=true then _ else _) _ _ s;rw[if_neg (λz:(AB d==AU)=true=>AY z)];refine Aa (Af (Aa (CK J2 J3 ?_)));rw[if_neg (by simp)];refine Aa (Af (Aa (C5 J2 J3 ?_)));rw[if_neg (by simp)];refine Af ?_;have i0:¬((i:Int) < 0):=by omega
 simp only[i0,if_false,A5,C3 hi];refine Aa ?_;refine Aa (QK ty (Af ?_));show db _ _ (wS (.ref it) 0 .none >>= _) _ _ s;refine Aa (Dk ho hd (by simp) ?_);refine Aa ?_;refine Aa (AO (Aa (m:=firstArgMember _ _) (CJ (a:=AU) (by first | rfl | (simp only[firstArgMember];rfl)) (AO ?_ (by size_fits)))) (by size_fits));unfold raiseNew;refine Aa (FZ ?_);rw[show A.in1.handled=bm from hh];refine Aa (Af (wpAny_throw ?_));refine Aa (Dp (T:="StopIteration") (b:=true) ⟨_,Ar _ rfl,rfl⟩ isSubtype_stop ?_);exact Af (q _ (((B1.update ..).extBut.push _).push _))
def Xq{v:ci}(hv:s.heap.IsValuesView v d)(hm:tD s.heap d es ep)
  (q:Q (.ref s.heap.objs.size) {s with heap:=s.heap.push {cls:=.type "dict_valueiterator",data:=.fields #[.ref d,.int 0 0,.int es.size 0,.int ep 0]}}):db (ev prog w) A (pyIter (.ref v)) Q E s:=by
 obtain⟨ov,hov,hcv,hdv⟩:=id hv;obtain⟨od,J2,hx,J3⟩:=hm;refine wpAny_pyIter_slot hv.typeIs E9 (A8 E9 hv.typeIs F.entry_dict_values_iter ?_ (F.args_dict_values_iter_1 _));unfold wP.«dict_values.__iter__»;refine Aa (Af (Aa ?_));unfold Builtin.Dict_items.dictOf;refine Aa (A7 hov hdv (x:=.ref d) rfl (Af (Aa ?_)));unfold Builtin.Dict_items.newIterator;refine Aa (CK J2 J3 (Aa (C5 J2 J3 ?_)));simp only[Zg,Ao,if_false];refine AO (Af ⟨_,rfl,"dict_valueiterator",_,⟨_,Ar _ rfl,rfl⟩,BP.lookup,?_⟩);simpa[tz]using q
def tD.ext(m:tD h d es ep)(hs:EZ b h h')(n:d≠b):tD h' d es ep:=let ⟨o,a,c⟩:=m;⟨o,hs d o n a,c⟩
def U8(hh:A.handled=bm)(I d:ci)(Td:d≠I)(es:Array DictEntry)(ep:Nat) :
  Walks prog w A I [I,d] [I] es.size (λi v=>∃h:i < es.size,v=es[i].val) (λi h=>h.IsValIter I d i es.size ep/\tD h d es ep) where
 sub:=λb hb=>by simp at hb;simp[hb]
 frame:=λ_ _ _ st hk=>⟨let ⟨o,a,c⟩:=st.1;⟨o,hk I (by simp) o a,c⟩,let ⟨o,a,c⟩:=st.2;⟨o,hk d (by simp) o a,c⟩⟩
 item:=λi s Q E hi st hQ=>WO st.1 st.2 hi λh' LB ċ=>hQ _ h' s.toks ⟨hi,rfl⟩ ⟨LB,st.2.ext ċ.extBut Td⟩ λb o hb e=>ċ.extBut b o (λh=>hb (by simp[h])) e
 done:=λs Q E st hQ=>abF hh st.1 st.2 (An _) λh' he'=>hQ h' s.toks λb o hb e=>he' b o (λh=>hb (by simp[h])) e
 self:=λ_ _ _ _ st hQ=>wpAny_pyIter_valiter st.1 hQ
def ZA{r:ci}:PySem.W.KdlSrc prog w "dict_values" r d es.size (λi v=>∃h:i < es.size,v=es[i].val) (λh=>h.IsValuesView r d/\tD h d es ep) where
 type:=λ_ hm=>hm.1.typeIs
 there:=λ_ hm=>⟨let ⟨_,ho,_⟩:=hm.1;Aw ho,let ⟨_,ho,_⟩:=hm.2;Aw ho⟩
 keep:=λ_ _ hm hk=>⟨let ⟨o,ho,x⟩:=hm.1;⟨o,hk r (.inl rfl) o ho,x⟩,let ⟨o,ho,x⟩:=hm.2;⟨o,hk d (.inr rfl) o ho,x⟩⟩
 notList:=by decide
 notTuple:=by decide
 hint:=λ_ _ _ _ hm hq=>PySem.W.kdl_hint_values hm.1.typeIs hq
 iter:=λ_ _ hh hm=>⟨_,_,(λ_ _ hq=>Xq hm.1 hm.2 hq),U8 hh _ d (let ⟨_,ho,_⟩:=hm.2;AM (Aw ho)) es ep,⟨⟨_,Ar _ rfl,rfl,rfl⟩,let ⟨o,ho,x⟩:=hm.2;⟨o,Ag _ ho,x⟩⟩⟩
def NK(hd:(d==sB)=false):MeetsIn prog w (wP.«dict.values» ⟨[.ref d],[]⟩) (λ_ R s=>tD s.heap d es ep/\R (.ok (.ret (.ref s.heap.objs.size))) {s with heap:=s.heap.push {cls:=.type "dict_values",data:=.fields #[.ref d]}}):=
 .of_wp λA R s ⟨⟨o,ho,hx,J3⟩,h⟩=>by
  refine Aa ?_;unfold Builtin.Dict.noArgs;refine Aa (DV ⟨_,ho,hx.1⟩ ?_);show db _ _ (pure d) _ _ s;refine Af ?_;show db _ _ (Builtin.Dict.showsAll d >>= _) _ _ s;unfold Builtin.Dict.showsAll;rw[if_neg (by rw[hd];exact AY)];exact Aa (Af (Aa (AO (Af ⟨_,rfl,h⟩))))
end
def ahA(te:TE):TE:=λσ H Q=>te σ H λx H1=>∃a kvs,x=.ref a/\H1 a=ap (.dT kvs)/\k6 H1 (.lst (kvs.map (·.2))) Q
theorem Z8(hc:X.calm=true)(hg:Gl X "list")(hm:X.mg "list"=bm)(he:PE X o te)
  (da:‹o0 o "values" X.env (lw o X.env)=lw o X.env›) (c9:‹RG Á bC›)
  (hs:‹im [.Call (.Attribute o "values" Á) [] [] bC] X.env=(false,lw (.Call (.Attribute o "values" Á) [] [] bC) X.env)::im [] X.env›) :
  PE X (.Call (.Name "list" p1) [.Call (.Attribute o "values" Á) [] [] bC] [] p2) (ahA te):=by
 intro Z s σ H Q I h;refine BD (jx I hg hm boot_list ?_ ⋯ ⋯);refine Bg ?_ hs rfl;refine Cm ?_;refine wpAny_Call_method0_late da c9 (bS (he Z s σ H _ I h) λv s1 ⟨x,H1,I1,r1,a,kvs,ex,ha,q⟩=>?_);subst ex;cases r1;obtain⟨z,ê,xs,r,ob,es,ep,h1,h2,h3,h4,h5⟩:=(show bA X.prog X.w H1 s1.heap a (.dT kvs) from I1.bN a _ ha);have Ć:tD s1.heap a es ep:=⟨ob,h1,h2,h3⟩;have hl:es.size=xs.length:=by have:=congrArg BM h4;simpa using this
 have ū:=Paired.length r;refine⟨"dict","dict.values",PySem.F.plainAttrs_dict,E3,PySem.F.type_dict_values,⟨_,h1,h2.1⟩,?_,DG rfl (FX (call_meetsIn E3 ⟨_,h1,h2.1⟩ PySem.F.entry_dict_values (PySem.F.args_dict_values_1 _) (NK (es:=es) (ep:=ep) ê) ⟨Ć,?_⟩))⟩
 ·exact λb e=>by cases e;exact⟨ob,h1,h2.2.1⟩
 ·refine CI ?_;have kp:∀b u,s1.heap.get? b=ap u->(s1.heap.push {cls:=.type "dict_values",data:=.fields #[.ref a]}).get? b=ap u:=λb u e=>Ag _ e;refine PySem.W.kdl_call (ZA (d:=a) (r:=s1.heap.objs.size) (es:=es) (ep:=ep)) (I1.ok.hd hc) ⟨⟨_,Ar _ rfl,rfl,rfl⟩,let ⟨u,e,x⟩:=Ć;⟨u,kp _ _ e,x⟩⟩ ∅ λh' tk Ã c hk hS ha'=>?_;have rv:Vals (kvs.map (·.2)) Ã.toList:=by
   have ea:Ã.toList=xs.map (·.2.2):=by
    obtain⟨z1,z2⟩:=ha';apply BH;intro j;by_cases hj:j < Ã.size
    ·obtain⟨à,e⟩:=z2 j Ã[j] (BA hj);rw[Ck,BA hj,e];have e4:es.toList[j]?=ap es[j]:=by rw[Ck];exact BA à
     rw[h4,Aj]at e4;rw[Aj];cases hx:xs[j]? with
     | none=>rw[hx]at e4;cases e4
     | some x=>rw[hx]at e4;have:=Option.some.inj e4;rw[<- this];rfl
    ·rw[Ck,C3 ∅,AL (by rw[Ae];omega)]
   rw[ea];clear h4 h5 hl ū z hk hS ha' ea q ha
   induction r with
   | nil=>exact .nil
   | cons h _ ih=>exact .cons h.2.2 ih
  have kk:∀b u,s1.heap.get? b=ap u->h'.get? b=ap u:=λb u e=>hk b u (kp b u e);have sC:s1.heap.objs.size<=(s1.heap.push {cls:=.type "dict_values",data:=.fields #[.ref a]}).objs.size:=by simp[Heap.push]
  refine⟨.ref _,upd H1 _ (.lst (kvs.map (·.2))),I1.laid (t':=tk) kk sC ?_,rfl,q.at _ (I1.bN.fresh sC)⟩;exact⟨by rw[Ae];exact z,Ã.toList,c,rv,by rw[FR];exact hS⟩
end L2
namespace FL
def afc{K:Ab}(i:Nat)(hs:fs[i]?=ap (ap (.ot kvs)))(hc:X.calm=true)(hg:Gl X "list")(hm:X.mg "list"=bm)(hN:‹X.N[i]?=ap y›)(hv:yT X.env.scope y:=by first | exact Co rfl | exact Ca (Co rfl) | exact Ca (Ca rfl))(hd: ~~~(jN y))(iG: ~~~(zY y))
  (da:‹o0 (.Name y p) "values" X.env (lw (.Name y p) X.env)=lw (.Name y p) X.env›) (c9:‹RG Á bC›)
  (pj:‹im [.Call (.Attribute (.Name y p) "values" Á) [] [] bC] X.env=(false,lw (.Call (.Attribute (.Name y p) "values" Á) [] [] bC) X.env)::im [] X.env›) :
  LF X K fs (.Call (.Name "list" p1) [.Call (.Attribute (.Name y p) "values" Á) [] [] bC] [] p2) (.ret (kvs.map (·.2))):=⟨PE.imp (Z8 hc hg hm (dI hN hv hd iG) da c9 pj) λσ H Q ⟨sr,q⟩=>by
 obtain⟨a,vs,e1,h1,r1⟩:=rE sr hs;exact⟨_,e1,a,vs,rfl,h1,Gy .refl sr r1.2 q⟩⟩
def gh(ns:O Int):Prop:=∃g s c:Int,ns=[g,s,c]/\0<=g/\0<=s/\s < 2305843009213693951/\0<=c
def drawn(m:Int):W PV:=.any λv=>∃d:Int,v=.int d/\0<=d/\d < m
def bM:PV->W PV
 | .int m=>.fK (0 < m/\m<=2000) (drawn m)
 | _=>.fail
end FL
variable{i j:Int}
namespace FL
def xb:of2 (aI g) (.int i) (.int j)=.ret (g i j):=zn λQ=>⟨CZ,λq=>⟨rfl,q⟩⟩
def vX{C:Int->Int->Prop}:of2 (aIc C g) (.int i) (.int j)=.fK (C i j) (.ret (g i j)):=zn λQ=>⟨λq=>⟨q.1,q.2.2⟩,λq=>⟨q.1,rfl,q.2⟩⟩
section
variable(i j:Int)(a b:Bool)(x y:PV)(l m:O PV)(s t:Str)
@[simp] theorem ur:of2 vm (.int i) (.int j)=.ret (.int (i-j)):=xb
@[simp] theorem Je:of2 kY (.int i) (.int j)=.fK (ut i j) (.ret (.int (i*j))):=vX
@[simp] theorem aol:of2 oDiv (.int i) (.int j)=.fK (UH i j) (.ret (.int (i / j))):=vX
@[simp] theorem X9:of2 oMod (.int i) (.int j)=.fK (0 < j) (.ret (.int (i % j))):=vX
@[simp] theorem X7:of2 WJ (.int i) (.int j)=.fK (YY i j) (.ret (.int (i ^ j.toNat))):=vX
@[simp] theorem LZ:of2 oLt (.int i) (.int j)=.ret (.bl (decide (i < j))):=xb
@[simp] theorem Ya:of2 oLe (.int i) (.int j)=.ret (.bl (decide (i<=j))):=xb
@[simp] theorem ajQ:of2 oGt (.int i) (.int j)=.ret (.bl (decide (j < i))):=xb
@[simp] theorem ajR:of2 oGe (.int i) (.int j)=.ret (.bl (decide (j<=i))):=xb
def GW:of2 eZ x y=.fK (TH x y) (.ret (.bl (kS x y))):=zn λQ=>⟨λq=>⟨q.1,q.2.2⟩,λq=>⟨q.1,rfl,q.2⟩⟩
def Ri:of2 vn x y=.fK (TH x y) (.ret (.bl (!kS x y))):=zn λQ=>⟨λq=>⟨q.1,q.2.2⟩,λq=>⟨q.1,rfl,q.2⟩⟩
@[simp] theorem afX:of2 aay (.bl a) (.bl b)=.ret (.bl (a==b)):=zn λQ=>⟨CZ,λq=>⟨rfl,q⟩⟩
@[simp] theorem qG:of2 zc x .aL=.ret (.bl x.f9):=zn λQ=>⟨CZ,λq=>⟨rfl,q⟩⟩
@[simp] theorem alg:of2 Gw x .aL=.ret (.bl (!x.f9)):=zn λQ=>⟨CZ,λq=>⟨rfl,q⟩⟩
@[simp] theorem afY:of2 aaz (.str s) (.str t)=.ret (.bl (!(Builtin.Str.occurrences t s 0 t.length 1).isEmpty)):=zn λQ=>⟨CZ,λq=>⟨rfl,q⟩⟩
def afW{c:Nat}(h:bV s.cps.toList i=ap c):of2 Sn (.str s) (.int i)=.fK (s.length<=sizeLine) (.ret (.str ⟨#[c]⟩)):=zn λQ=>by
 show(s.length<=sizeLine/\match bV s.cps.toList i with | some c=>_/\_ | none=>False)↔_;rw[h];exact⟨λq=>⟨q.1,q.2.2⟩,λq=>⟨q.1,rfl,q.2⟩⟩
@[simp] theorem dN:addW (.int i) (.int j)=.ret (.int (i+j)):=(rfl)
@[simp] theorem abE:addW (.str s) (.str t)=.fK (s.length+t.length<=sizeLine) (.ret (.str (s++t))):=(rfl)
@[simp] theorem Rk:addW (.tup l) (.tup m)=.fK (l.length+m.length<=sizeLine) (.ret (.tup (l++m))):=(rfl)
@[simp] theorem jI:qv (.int i)=.ret (.int (-i)):=(rfl)
@[simp] theorem bg:asB (.bl a)=.ret a:=(rfl)
@[simp] theorem GX(w:W PV):ou (.bl true) w=w:=(rfl)
@[simp] theorem ag6(w:W PV):ou (.bl false) w=.ret (.bl false):=(rfl)
@[simp] theorem mq(w:W PV):Us (.bl true) w=w:=(rfl)
@[simp] theorem abD(w:W PV):Us (.bl false) w=.ret (.bl false):=(rfl)
@[simp] theorem aog(w:W PV):orW (.bl true) w=.ret (.bl true):=(rfl)
@[simp] theorem aoh(w:W PV):orW (.bl false) w=w:=(rfl)
@[simp] theorem aoi:aeY (.bl a)=.ret (.bl (!a)):=(rfl)
@[simp] theorem bx:eB (.bl a)=.ret a:=(rfl)
@[simp] theorem ale:eB (.int i)=.ret (i != 0):=(rfl)
@[simp] theorem ald:eB .aL=.ret false:=(rfl)
@[simp] theorem alc:eB (.tup l)=.ret (!l.isEmpty):=(rfl)
@[simp] theorem alf:eB (.cl l)=.ret (!l.isEmpty):=(rfl)
@[simp] theorem au:ar (.tup l)=.ret l:=(rfl)
@[simp] theorem bX:ar (.cl l)=.ret l:=(rfl)
@[simp] theorem gM:rR (.cl l)=.ret l:=(rfl)
@[simp] theorem ba:ixW l (.int i)=.MF (bV l i):=(rfl)
@[simp] theorem yf:zv l=.ret (.int l.length):=(rfl)
@[simp] theorem ye:lJ l=.ret (.tup l):=(rfl)
@[simp] theorem ajS:blW a=.ret (.bl a):=(rfl)
@[simp] theorem fj:part (.int i)=.ret (ap i):=(rfl)
@[simp] theorem ib:m9 (.tup [x,y])=.ret (x,y):=(rfl)
@[simp] theorem afS(z:PV):un3 (.tup [x,y,z])=.ret (x,y,z):=(rfl)
@[simp] theorem OO(z u:PV):un4 (.tup [x,y,z,u])=.ret (x,y,z,u):=(rfl)
@[simp] theorem alr(k:Kd):fJ k (.int i)=.ret (.bl (k.is (.int i))):=(rfl)
@[simp] theorem iK(k:Kd):fJ k (.str s)=.ret (.bl (k.is (.str s))):=(rfl)
@[simp] theorem gP(k:Kd):fJ k (.tup l)=.ret (.bl (k.is (.tup l))):=(rfl)
@[simp] theorem als(k:Kd):fJ k (.cl l)=.ret (.bl (k.is (.cl l))):=(rfl)
@[simp] theorem alu(k:Kd):fJ k (.bl a)=.ret (.bl (k.is (.bl a))):=(rfl)
@[simp] theorem alq(k:Kd):fJ k .aL=.ret (.bl (k.is .aL)):=(rfl)
@[simp] theorem cE:rG bO [.tup l]=.ret (.int l.length):=zn λQ=>⟨CZ,λq=>⟨rfl,q⟩⟩
@[simp] theorem gN:rG bO [.cl l]=.ret (.int l.length):=zn λQ=>⟨CZ,λq=>⟨rfl,q⟩⟩
@[simp] theorem abz:rG bO [.str s]=.fK (s.length<=sizeLine) (.ret (.int s.length)):=zn λQ=>⟨λq=>⟨q.1,q.2.2⟩,λq=>⟨q.1,rfl,q.2⟩⟩
@[simp] theorem afZ:rG Mk [.int i]=.ret (.int (if i < 0 then -i else i)):=zn λQ=>⟨CZ,λq=>⟨rfl,q⟩⟩
@[simp] theorem alv:rG Pp [.int i]=.ret (.int i):=zn λQ=>⟨CZ,λq=>⟨rfl,q⟩⟩
@[simp] theorem abC:rG Pp [.bl a]=.ret (.int (if a then 1 else 0)):=zn λQ=>⟨CZ,λq=>⟨rfl,q⟩⟩
@[simp] theorem afV:rG Up [.int i,.int j]=.ret (.int (if j > i then j else i)):=zn λQ=>⟨CZ,λq=>⟨rfl,q⟩⟩
@[simp] theorem afU:rG Uo [.int i,.int j]=.ret (.int (if j < i then j else i)):=zn λQ=>⟨CZ,λq=>⟨rfl,q⟩⟩
@[simp] theorem kJ(p q:Option Int):wX (.tup l) p q=.ret (.tup (hV l p q)):=(rfl)
@[simp] theorem aby:VL (.tup l) bm bm (ap (-1))=.ret (.tup l.reverse):=mo ⟨rfl,rfl,rfl⟩
@[simp] theorem alh:NZ (.int i)=.ret (.inl i):=(rfl)
@[simp] theorem abA:NZ (.str s)=.ret (.inr s):=(rfl)
@[simp] theorem cQ:dg (.int j)=.fK (okN 0 j) (.ret (g8 0 j.toNat)):=(rfl)
@[simp] theorem Rh(k:Int):Qr (.int i) (.int j) (.int k)=.fK (k = -1/\okN j i) (.ret (qe i (i-j).toNat)):=(rfl)
@[simp] theorem X6:Nj (.str s)=.fK (s.cps.size<=sizeLine) (.ret (s.cps.toList.map λc=>.str ⟨#[c]⟩)):=(rfl)
@[simp] theorem OP:zb (l++[x])=.ret (l,x):=by unfold zb;simp
@[simp] theorem afT:VV l (.int i)=.fK (-(2 ^ 63)<=i/\i < 2 ^ 63/\l.length*i.toNat<=sizeLine) (.ret (Au i.toNat l).flatten):=(rfl)
@[simp] theorem alm:Kd.is .int (.int i)=true:=(rfl)
@[simp] theorem aln:Kd.is .int (.bl a)=true:=(rfl)
@[simp] theorem alp:Kd.is .bool (.bl a)=true:=(rfl)
@[simp] theorem alo:Kd.is .bool (.int i)=false:=(rfl)
@[simp] theorem kh:Kd.is .str (.str s)=true:=(rfl)
@[simp] theorem kg:Kd.is .str (.tup l)=false:=(rfl)
@[simp] theorem alk:Kd.is .str (.int i)=false:=(rfl)
@[simp] theorem Rj:Kd.is .tup (.tup l)=true:=(rfl)
@[simp] theorem abB:Kd.is .tup (.str s)=false:=(rfl)
@[simp] theorem ali:Kd.is .tup (.int i)=false:=(rfl)
@[simp] theorem alj:Kd.is .tup (.bl a)=false:=(rfl)
@[simp] theorem eJ(h0:0 < i)(h1:i<=2000):bM (.int i)=drawn i:=mo ⟨h0,h1⟩
def cq{m:Int}{Q:PV->Prop}(h:∀d:Int,0<=d->d < m->Q (.int d)):(drawn m).run Q:=λv ⟨d,e,h0,h1⟩=>e▸h d h0 h1
end
namespace W
variable{α β:Type}
def le(a b:W α):Prop:=∀Q,b.run Q->a.run Q
def le.refl(a:W α):a.le a:=λ_ h=>h
def le.of_eq{a b:W α}(h:a=b):a.le b:=h▸le.refl a
def le.ret{a:W α}{v:α}{f:α->W β}{b:W β}(h:a.le (.ret v))(hf:(f v).le b):(a.bind f).le b:=λQ q=>h _ (hf Q q)
def le.use{a:W α}{v:α}{Q:α->Prop}(h:a.le (.ret v))(q:Q v):a.run Q:=h _ q
end W
section
variable{S R:Type}
@[simp] theorem ajH(s:S)(f:PV->S->W S):bH [] s f=.ret s:=(rfl)
@[simp] theorem ag0(x:PV)(r:O PV)(s:S)(f:PV->S->W S):bH (x::r) s f=.bind (f x s) λs'=>bH r s' f:=(rfl)
theorem ya{f:PV->S->W S}{Q:S->Prop}(I:O PV->S->Prop):∀{l:O PV}{s:S},I l s->(∀x r s,I (x::r) s->(f x s).run (I r))->(∀s,I [] s->Q s)->(bH l s f).run Q
 | [],s,h0,_,he=>he s h0
 | x::r,s,h0,hs,he=>(f x s).mono (λs' h=>ya I h hs he) (hs x r s h0)
theorem LV{f:PV->S->W (Lp S R)}{Q:Lp S R->Prop}(I:O PV->S->Prop):∀{l:O PV}{s:S},I l s->(∀x r s,I (x::r) s->(f x s).run λo=>match o with | .go s'=>I r s' | .out t=>Q (.out t))->(∀s,I [] s->Q (.go s))->(FL.nX l s f).run Q
 | [],s,h0,_,he=>he s h0
 | x::r,s,h0,hs,he=>(f x s).mono (λo h=>match o,h with
  | .go s',h=>LV I h hs he
  | .out t,h=>h) (hs x r s h0)
theorem fi{f:PV->S->W S}{Q:S->Prop}(I:Nat->S->Prop){s:S}(h0:I 0 s)(hs:∀(i:Nat) (x:PV) s,l[i]?=ap x->I i s->(f x s).run (I (i+1)))(he:∀s,I l.length s->Q s):(bH l s f).run Q:=by
 refine ya (λr s=>∃i,i<=l.length/\r=l.drop i/\I i s) ⟨0,A3 _,rfl,h0⟩ (λx r s ⟨i,hi,e,h⟩=>?_) (λs ⟨i,hi,e,h⟩=>?_)
 ·have fC:i < l.length:=by
   rcases DK i l.length with h | h
   ·exact h
   ·rw[Fs h]at e;cases e
  rw[Bz fC]at e;injection e with e1 e2;subst e1;exact(f _ s).mono (λs' h'=>⟨i+1,fC,e2,h'⟩) (hs i _ s (Ad fC) h)
 ·have:i=l.length:=by
   have:=congrArg BM e;rw[D5]at this;simp at this;omega
  subst this;exact he s h
theorem sI{f:PV->S->W (Lp S R)}{Q:Lp S R->Prop}(I:Nat->S->Prop){s:S}(h0:I 0 s)(hs:∀(i:Nat) (x:PV) s,l[i]?=ap x->I i s->(f x s).run λo=>match o with | .go s'=>I (i+1) s' | .out t=>Q (.out t))(he:∀s,I l.length s->Q (.go s)):(FL.nX l s f).run Q:=by
 refine LV (λr s=>∃i,i<=l.length/\r=l.drop i/\I i s) ⟨0,A3 _,rfl,h0⟩ (λx r s ⟨i,hi,e,h⟩=>?_) (λs ⟨i,hi,e,h⟩=>?_)
 ·have fC:i < l.length:=by
   rcases DK i l.length with h | h
   ·exact h
   ·rw[Fs h]at e;cases e
  rw[Bz fC]at e;injection e with e1 e2;subst e1;exact(f _ s).mono (λo h'=>match o,h' with
   | .go s',h'=>⟨i+1,fC,e2,h'⟩
   | .out t,h'=>h') (hs i _ s (Ad fC) h)
 ·have:i=l.length:=by
   have:=congrArg BM e;simp at this;omega
  subst this;exact he s h
def jE{f:PV->S->W S}{Q:S->Prop}(I:Nat->S->Prop){s:S}(h0:I 0 s)(hs:∀(i:Nat) s,i < n->I i s->(f (.int (i:Int)) s).run (I (i+1)))(he:∀s,I n s->Q s):(bH (g8 0 n) s f).run Q:=
 fi I h0 (λi x s hx h=>by obtain⟨hi,rfl⟩:=um hx;rw[Ds];exact hs i s hi h) (λs h=>he s (by rw[gC]at h;exact h))
def XX{f:PV->S->W (Lp S R)}{Q:Lp S R->Prop}(I:Nat->S->Prop){s:S}(h0:I 0 s)(hs:∀(i:Nat) s,i < n->I i s->(f (.int (i:Int)) s).run λo=>match o with | .go s'=>I (i+1) s' | .out t=>Q (.out t))(he:∀s,I n s->Q (.go s)):(FL.nX (g8 0 n) s f).run Q:=
 sI I h0 (λi x s hx h=>by obtain⟨hi,rfl⟩:=um hx;rw[Ds];exact hs i s hi h) (λs h=>he s (by rw[gC]at h;exact h))
theorem wJ{c:S->W Bool}{b:S->W S}{Q:S->Prop}(I:Nat->S->Prop){s:S}(h0:I n s)(hs:∀n s,I n s->(c s).run λk=>if k=true then (b s).run (λs'=>∃m,m < n/\I m s') else Q s):(Hi c b s).run Q:=by
 refine⟨n+1,?_⟩;have:∀k n s,n < k->I n s->(qk c b k s).run Q:=by
  intro k
  induction k with
  | zero=>intro n s h;omega
  | succ k ih=>
   intro n s hn h;refine(c s).mono (λz q=>?_) (hs n s h);cases z with
   | true=>exact(b s).mono (λs' ⟨m,hm,h'⟩=>ih m s' ∅ h') (show(b s).run _ from q)
   | false=>exact q
 exact this (n+1) n s ∅ h0
theorem MZ{c:S->W Bool}{b:S->W (Lp S R)}{Q:Lp S R->Prop}(I:Nat->S->Prop){s:S}(h0:I n s)(hs:∀n s,I n s->(c s).run λk=>if k=true then (b s).run (λo=>match o with | .go s'=>∃m,m < n/\I m s' | .out t=>Q (.out t)) else Q (.go s)):(FL.wK c b s).run Q:=by
 refine⟨n+1,?_⟩;have:∀k n s,n < k->I n s->(lF c b k s).run Q:=by
  intro k
  induction k with
  | zero=>intro n s h;omega
  | succ k ih=>
   intro n s hn h;refine(c s).mono (λz q=>?_) (hs n s h);cases z with
   | true=>exact(b s).mono (λo q=>match o,q with
    | .go s',⟨m,hm,h'⟩=>ih m s' ∅ h'
    | .out t,q=>q) (show(b s).run _ from q)
   | false=>exact q
 exact this (n+1) n s ∅ h0
theorem HZ{f:PV->W PV}{g:PV->PV}:∀{l:O PV},(∀x∈l,f x=.ret (g x))->a7 l f=.ret (l.map g)
 | [],_=>rfl
 | x::r,h=>by
  show am (f x) (λy=>am (a7 r f) λl=>bd (y::l))=_;rw[h x (.head _),HZ λy hy=>h y (.tail _ hy)];rfl
theorem Ij{g:PV->Option PV}:∀{l:O PV},(∀x∈l,f x=.ret (g x))->pN l f=.ret (l.filterMap g)
 | [],_=>rfl
 | x::r,h=>by
  show am (f x) (λo=>am (pN r f) λl=>bd (o.toList++l))=_;rw[h x (.head _),Ij λy hy=>h y (.tail _ hy),Bf];cases g x <;> rfl
@[simp] theorem iR(bs:O Bool):qS (bs.map PV.bl)=.ret (.bl (bs.all id)):=by unfold qS;rw[Rz];rfl
def all_map(f:PV->Bool)(l:O PV):qS (l.map λx=>.bl (f x))=.ret (.bl (l.all f)):=by
 have:(l.map λx=>PV.bl (f x))=(l.map f).map PV.bl:=by rw[Ay];rfl
 rw[this,iR,Dr];rfl
end
section
variable(i j:Int)(a b:Bool)(x y:PV)(l m:O PV)(s t:Str)
@[simp] theorem adb:kS (.int i) (.int j)=(i==j):=by rw[kS]
@[simp] theorem X3:kS (.str s) (.str t)=(s==t):=by rw[kS]
@[simp] theorem ade:kS (.bl a) (.bl b)=(a==b):=by rw[kS]
@[simp] theorem apA:kS (.tup l) (.tup m)=iJ l m:=by rw[kS]
@[simp] theorem apB:kS (.cl l) (.cl m)=iJ l m:=by rw[kS]
@[simp] theorem aof:iJ [] []=true:=by rw[iJ]
@[simp] theorem aoe:iJ (x::l) (y::m)=(kS x y&&iJ l m):=by rw[iJ]
@[simp] theorem ak8:PV.mm (.int i)=true:=by rw[PV.mm] <;> simp
@[simp] theorem aoc:PV.mm (.bl a)=true:=by rw[PV.mm] <;> simp
@[simp] theorem ak6:PV.mm (.str s)=true:=by rw[PV.mm] <;> simp
@[simp] theorem ak7:PV.mm .aL=true:=by rw[PV.mm] <;> simp
@[simp] theorem ak5:PV.mm (.tup l)=gE l:=by rw[PV.mm]
@[simp] theorem aob:PV.mm (.cl l)=gE l:=by rw[PV.mm]
@[simp] theorem ajJ:gE []=true:=by rw[gE]
@[simp] theorem ag1:gE (x::l)=(PV.mm x&&gE l):=by rw[gE]
@[simp] theorem ajO:PV.jS (.int i)=0:=by rw[PV.jS] <;> simp
@[simp] theorem alb:PV.jS (.bl a)=0:=by rw[PV.jS] <;> simp
@[simp] theorem ajM:PV.jS (.str s)=0:=by rw[PV.jS] <;> simp
@[simp] theorem ajN:PV.jS .aL=0:=by rw[PV.jS] <;> simp
@[simp] theorem ajL:PV.jS (.tup l)=fe l+1:=by rw[PV.jS]
@[simp] theorem ala:PV.jS (.cl l)=fe l+1:=by rw[PV.jS]
@[simp] theorem ag3:fe []=0:=by rw[fe]
@[simp] theorem afQ:fe (x::l)=max (PV.jS x) (fe l):=by rw[fe]
def L0:TH (.int i) (.int j):=⟨by simp,by simp,by simp⟩
@[simp] theorem eR:of2 eZ (.int i) (.int j)=.ret (.bl (i==j)):=by rw[GW,mo (L0 i j),adb]
@[simp] theorem X8:of2 vn (.int i) (.int j)=.ret (.bl (!(i==j))):=by rw[Ri,mo (L0 i j),adb]
@[simp] theorem aok:of2 eZ (.bl a) (.bl b)=.ret (.bl (a==b)):=by rw[GW,mo ⟨by simp,by simp,by simp⟩,ade]
@[simp] theorem aoj:of2 vn (.bl a) (.bl b)=.ret (.bl (!(a==b))):=by rw[Ri,mo ⟨by simp,by simp,by simp⟩,ade]
end
theorem jF:∀{l:O PV},gE l=true↔∀x∈l,PV.mm x=true
 | []=>by simp
 | x::l=>by rw[gE,A1,jF (l:=l)];simp
theorem jG:∀{l:O PV},(∀x∈l,PV.jS x<=n)->fe l<=n
 | [],_=>by simp
 | x::l,h=>by
  have h1:=h x (.head _);have h2:=jG (l:=l) λy hy=>h y (.tail _ hy);rw[fe];omega
structure EV where
 P:wn
 w:wT
 K:Ab
 mg:Str->Option ce
 base:pr
structure DF where
 x:Str
 s:u8
 ps:List Str
 k:Nat
 sp:Ab->Sp
abbrev DF.C(d:DF)(v:EV):=Cal v.P v.w v.K v.mg v.base d.x d.k d.ps (d.sp v.K)
structure DI(v:EV)(d:DF) where
 f:ci
 fd:FB
 fn:Y7 v.K d.x d.x d.s f fd
 bi:Binds v.K fd d.ps []
 at':v.mg d.x=ap (.ref f)
abbrev DI.O{v:EV}{d:DF}(D:DI v d):Prop:=iU v.P v.w v.K v.mg v.base yQ d.k D.f D.fd d.ps (d.sp v.K)
def DI.c{v:EV}{d:DF}(D:DI v d)(h:D.O):d.C v:=⟨D.f,D.fd,h,D.bi,D.fn.kp,D.at'⟩
def DI.cN{v:EV}{d:DF}(D:DI v d)(h:iU v.P v.w v.K v.mg v.base yQ k D.f D.fd d.ps sp):Cal v.P v.w v.K v.mg v.base d.x k d.ps sp:=⟨D.f,D.fd,h,D.bi,D.fn.kp,D.at'⟩
def DI.cA{v:EV}{d:DF}(D:DI v d)(h:D.O):agB v.P v.w v.K v.mg v.base D.f d.k d.ps (d.sp v.K):=⟨D.fd,h,D.bi,D.fn.kp⟩
structure DX(K:Ab)(x:Str)(st:u8):Prop where
 ex:∃f fd,AQ K f8 x=ap (ap (.ref f))/\Y7 K x x st f fd
abbrev dnm(s:u8):Str:=match s with
 | .FunctionDef x _ _ _ _ _ _ _ _ _=>x
 | _=>""
def dx{K:Ab}{st:u8}{f:ci}{kV:ce}(a:AQ K f8 x=ap (ap (.ref f)))(l:K.lookup f=ap ⟨oc,od,.func (Cp x x (gQ st) (dP st) (aP st) .none kV È pm an gU ct),Y1⟩)
  (c:EA K gU x=true) (k:Di K (.ref f)=true):DX K x st:=⟨f,_,a,afO l c k⟩
def fsc{N P:O Str}(h1:‹sc.kind=.function›)(h2:‹sc.isCoroutine=false›)(h3:‹sc.isGenerator=false›)(h4:N.Nodup:=by decide +kernel)(h5:‹N.take P.length=P›)(h6:∀x∈P,sc.names.lookup x=ap .local\/sc.names.lookup x=ap .cell:=by decide +kernel)(h7:∀y∈sc.names,y.2≠.free:=by decide +kernel):eK N P sc:=⟨h1,h2,h3,h4,h5,h6,h7⟩
def lcs{N:O Str}(h1:‹sc.kind=.function›)(h2:∀y∈sc.names,y.2≠.cell:=by decide +kernel)(h3:∀y∈sc.names,y.2=.local->sc.names.lookup y.1=ap .local:=by decide +kernel)(h4:∀y∈sc.names,y.2=.free->(Xs.names.lookup y.1=ap .cell\/Xs.names.lookup y.1=ap .free):=by decide +kernel)(h5:N'.Nodup:=by decide +kernel)(h6:‹ix.length=N'.length›)
  (h7:((ix.zip N').all λp=>match p.1 with | none=>true | some j=>decide (N[j]?=ap p.2)&&decide (sc.names.lookup p.2=ap .free))=true:=by decide +kernel):cF Xs N sc N' ix:=⟨h1,h2,h3,h4,h5,h6,h7⟩
abbrev kf(l:O (Str×Db)):nn:={kind:=.function,names:=(BO ".0",.local)::l,isGenerator:=false,isCoroutine:=false,more:=[]}
abbrev lo:Db:=.local
abbrev gi:Db:=.globalImplicit
abbrev fr:Db:=.free
def NA:O AK->Nat
 | []=>0
 | .p _::ks=>NA ks+1
 | _::ks=>NA ks
theorem rJ:∀{ks:O AK}{i:Nat},ks[i]?=ap (.p φ)->NA ks≠0
 | [],i,h=>by simp at h
 | .p _::_,_,_=>Nat.succ_ne_zero _
 | .v::ks,0,h=>by simp at h
 | .f _::ks,0,h=>by simp at h
 | .v::ks,i+1,h=>rJ (ks:=ks) (i:=i) (by simpa using h)
 | .f _::ks,i+1,h=>rJ (ks:=ks) (i:=i) (by simpa using h)
theorem HV:∀{ks:O AK},Nat.ble (NA ks) 1=true->PQ ks
 | [],_=>λi j ⟨_,h⟩=>by simp at h
 | .v::ks,h=>λi j ⟨φ,a⟩ ⟨ψ,b⟩=>by
  cases i with | zero=>simp at a | succ i=>cases j with | zero=>simp at b | succ j=>rw[HV (ks:=ks) h i j ⟨φ,by simpa using a⟩ ⟨ψ,by simpa using b⟩]
 | .f _::ks,h=>λi j ⟨φ,a⟩ ⟨ψ,b⟩=>by
  cases i with | zero=>simp at a | succ i=>cases j with | zero=>simp at b | succ j=>rw[HV (ks:=ks) h i j ⟨φ,by simpa using a⟩ ⟨ψ,by simpa using b⟩]
 | .p _::ks,h=>λi j ⟨φ,a⟩ ⟨ψ,b⟩=>by
  have z:NA ks+1<=1:=Dc h;cases i with | succ i=>exact absurd ∅ (rJ (ks:=ks) (i:=i) (by simpa using a)) | zero=>cases j with | succ j=>exact absurd ∅ (rJ (ks:=ks) (i:=j) (by simpa using b)) | zero=>rfl
abbrev WN(st:u8):O Str:=((aP st).names.filter λy=>y.2==.local||y.2==.cell).map (·.1)
abbrev Nr(st:u8):O Str:=(gQ st).args.map (·.arg)
abbrev nml(sc:nn):O Str:=((sc.names.tail.filter λy=>y.2==.local)++sc.names.filter λy=>y.2==.free).map (·.1)
abbrev ixl(N:O Str)(sc:nn):O (Option Nat):=((sc.names.tail.filter λy=>y.2==.local).map λ_=>bm)++(sc.names.filter λy=>y.2==.free).map λy=>ap (N.idxOf y.1)
abbrev LS(st:u8)(sc:nn):Prop:=cF (aP st) (WN st) sc (nml sc) (ixl (WN st) sc)
def msk:Nat->bD->bD
 | _,[]=>[]
 | n,s::l=>(match n % 2 with | 0=>s | _=>bm)::msk (n / 2) l
theorem jO.m:∀(n:Nat) {fs:bD},jO fs (msk n fs)
 | _,[]=>.refl _
 | n,s::l=>by
  unfold msk
  split
  ·exact .keep (jO.m _)
  ·exact .drop (jO.m _)
def YZ:(n:Nat)->(O PV->W R->Prop)->MU R n->Prop
 | 0,B,m=>B [] m
 | n+1,B,m=>∀x:PV,YZ n (λl w=>B (x::l) w) (m x)
theorem YZ.all:∀{n:Nat}{B:O PV->W R->Prop}{m:MU R n},YZ n B m->∀l,l.length=n->B l (rj n m l)
 | 0,_,_,h,[],_=>h
 | n+1,_,_,h,x::l,e=>YZ.all (n:=n) (h x) l (Nat.succ.inj e)
section
variable{v:EV}{st:u8}
abbrev BB{T:Type}(v:EV)(x:Str)(st:u8)(k:Nat)(ks:O AK)(f:ci)(n:Nat)(m:MU T n)(o:T->End):Prop:=∀{gU:ce}{A:Da}{outer:O Env}{s:cr}{H:Hp}{E:XK},gj k (A.deeper (Fk x (aP st) s.heap.objs.size f gU))->(WN st).Nodup->YZ n (λl w=>SF (zQ yQ v.P v.w v.K v.mg v.base (WN st) x (aP st) f gU A outer s H E).nox v.K false (zU ks l (WN st).length) (dP st) w o) m
def gV{m:MU PV n}(D:DI v ⟨x,st,Nr st,k+1,λK=>RX K ks (rj n m)⟩)(Ï:BB v x st k ks D.f n m .rt)(û:‹ks.length=(Nr st).length›)(one:‹Nat.ble (NA ks) 1=true›)(S:eK (WN st) (Nr st) (aP st):=by exact fsc):D.O:=fnV D.fn S û (HV one) λl e gU A outer s H E hr=>(Ï hr S.nd).all l e
def NI{m:MU (O PV) n}(D:DI v ⟨x,st,Nr st,k+1,λK=>Hw K ks (rj n m)⟩)(Ï:BB v x st k ks D.f n m .rl)(û:‹ks.length=(Nr st).length›)(one:‹Nat.ble (NA ks) 1=true›)(S:eK (WN st) (Nr st) (aP st):=by exact fsc):D.O:=fnL D.fn S û (HV one) λl e gU A outer s H E hr=>(Ï hr S.nd).all l e
end
section
variable{K:Ab}{es:O lc}{WL:W (O PV)}
theorem eC{m:O PV->W PV}(G:Cal X.prog X.w X.K X.mg X.base x k ps (RX K ks m))(hr:gj k' X.A)(ha:AF X K fs (e::es) ks B)(hk:k<=k':=by first | exact Dc rfl | exact An _ | omega)(hg:‹Gl X x›)(hW:‹W'=B m›)(sD: ~~~(jN x))
  (he:‹iq X e es›) (eM:‹m6 X pos es›):EF X K fs (.Call (.Name x p) (e::es) [] pos) W':=abP G hr hk hg ha hW sD he eM
theorem lC{m:O PV->W (O PV)}{B:(O PV->W (O PV))->W (O PV)}(G:Cal X.prog X.w X.K X.mg X.base x k ps (Hw K ks m))(hr:gj k' X.A)(ha:AF X K fs (e::es) ks B)(hk:k<=k':=by first | exact Dc rfl | exact An _ | omega)(hg:‹Gl X x›)(hW:‹WL=B m›)(sD: ~~~(jN x))
  (he:‹iq X e es›) (eM:‹m6 X pos es›):LF X K fs (.Call (.Name x p) (e::es) [] pos) WL:=aaT G hr hk hg ha hW sD he eM
def bP(i:Nat)(hN:X.N.Nodup)(hi:‹X.N[i]?=ap x›)(hx:Loc X.env.scope x:=by first | exact .inl rfl | exact .inr rfl)(hf:UG X x:=by first | exact .inl rfl | exact .inr rfl | assumption):PG X (.Name x pos) (fc i):=Z5 hN hi hx hf
variable{T:Type}{out:T->End}{b:Bool}{rest:O u8}
def sv(i:Nat){k:PV->W T}(hN:X.N.Nodup)(he:EF X K fs e we)(hr:∀v,SF X K b (fs.set i (ap (.val v))) rest (k v) out)(hi:‹X.N[i]?=ap y›)(hx:Loc X.env.scope y:=by first | exact .inl rfl | exact .inr rfl)(hs:‹pc e (ap (.Name y p')) pos.line X.env=pure false›)
  (hf:UG X y:=by first | exact .inl rfl | exact .inr rfl | assumption):SF X K b fs (.Assign [.Name y p'] e pos::rest) (.bind we k) out:=SF.set hN hi hx he hr hs hf
def sl(i:Nat){k:O PV->W T}(hN:X.N.Nodup)(he:LF X K fs e wl)(hr:∀l,SF X K b (fs.set i (ap (.ol bm l))) rest (k l) out)(hi:‹X.N[i]?=ap y›)(hx:Loc X.env.scope y:=by first | exact .inl rfl | exact .inr rfl)(hs:‹pc e (ap (.Name y p')) pos.line X.env=pure false›)
  (hf:UG X y:=by first | exact .inl rfl | exact .inr rfl | assumption):SF X K b fs (.Assign [.Name y p'] e pos::rest) (.bind wl k) out:=SF.amx hN hi hx he hr hs hf
end
end FL
variable{m:PL.PV->FL.W PL.PV}{d:FL.DF}
namespace FL
def akn:(n:Nat)->(O ce->Prop)->Prop
 | 0,P=>P []
 | n+1,P=>∀x,akn n λl=>P (x::l)
theorem usN:∀{n:Nat}{P:O ce->Prop},akn n P->∀us:O ce,us.length=n->P us
 | 0,_,h,[],_=>h
 | n+1,_,h,x::l,e=>usN (n:=n) (h x) l (Nat.succ.inj e)
def DX.mk2{v:EV}(D:DX v.K d.x d.s)(X:v.K.In h)(G:h.Ns f8 v.mg)
  (hb:∀(kV È pm:ce) (an:Option ci) (gU ct:ce) (us:O ce),us.length=d.ps.length->bindArgs (Cp d.x d.x (gQ d.s) (dP d.s) (aP d.s) .none kV È pm an gU ct) ⟨us,[]⟩=pure (d.ps.zip us):=by exact λ_ _ _ _ _ _=>usN (by (repeat intro _);rfl)):Nonempty (DI v d):=by
 obtain⟨f,fd,a,F⟩:=D.ex;exact⟨⟨f,fd,F,F.binds hb,BN X G a⟩⟩
def DX.go{v:EV}(D:DX v.K d.x d.s)(X:v.K.In h)(G:h.Ns f8 v.mg){P:Prop}(k:∀D:DI v d,D.O)(r:d.C v->P)
  (hb:∀(kV È pm:ce) (an:Option ci) (gU ct:ce) (us:O ce),us.length=d.ps.length->bindArgs (Cp d.x d.x (gQ d.s) (dP d.s) (aP d.s) .none kV È pm an gU ct) ⟨us,[]⟩=pure (d.ps.zip us):=by exact λ_ _ _ _ _ _=>usN (by (repeat intro _);rfl)):P:=by
 obtain⟨D⟩:=D.mk2 X G hb;exact r (D.c (k D))
def Qi(K:Ab):Sp:=λvs H Q _=>∃(a:ci) (ns:O Int),vs=[.ref a]/\acg H/\eN K H a (ns.map V.int)/\ns.length<=63/\∀H',Q (.bl true) H'
def aaP{K:Ab}(ok:∀ns:O Int,ns.length<=63->(m (.cl (ns.map PV.int))).run (·=.bl true)):∀vs H Q E,Qi K vs H Q E->RX K [.v] (rj 1 m) vs H Q E:=λvs H Q E ⟨a,ns,e,hO,hS,hl,q⟩=>by
 subst e;have fz:FzL K H a (ns.map V.int):=by
  rcases hS with (h | ⟨o,h⟩) | h
  ·rcases hO a with z | ⟨o,xs,z⟩
   ·rw[h]at z;cases z
   ·rw[h]at z;cases z
  ·exact .inl ⟨o,h⟩
  ·exact .inr h
 refine⟨[.cl (ns.map PV.int)],.v (.cl fz (sA _ _ ns)) .nil,(m (.cl (ns.map PV.int))).mono (λv e u H' _ r=>?_) (ok ns hl)⟩;subst e;cases r;exact q H'
structure ako(K:Ab)(mg:Str->Option ce)(d:DF):Prop where
 f:∀v:EV,v.K=K->v.mg=mg->∀D:DI v d,D.O
def mkAll{l:Fv}{K:Ab}{fa:ci}{st:u8}(ok:∀ns:O Int,ns.length<=63->(m (.cl (ns.map PV.int))).run (·=.bl true))(X:K.In h)(G:h.Ns f8 mg)(hfa:mg "law"=ap (.ref fa))(ajY:DX K "law" st)
  (hb:∀(kV È pm:ce) (an:Option ci) (gU ct:ce) (us:O ce),us.length=1->bindArgs (Cp "law" "law" (gQ st) (dP st) (aP st) .none kV È pm an gU ct) ⟨us,[]⟩=pure (([("_law_script":Str)]:O Str).zip us))
  (F:ako K mg ⟨"law",st,["_law_script"],k,λK=>RX K [.v] (rj 1 m)⟩) :
  ∃fd:FB,(∀(s:cr) (v:ce),BindsTo s fd ⟨[v],[]⟩ [("_law_script",v)])/\∀base:pr,K.In base->base.Ns f8 mg->iU l.prog w K mg base yQ k fa fd ["_law_script"] (Qi K):=by
 obtain⟨f,fd,a,F'⟩:=ajY.ex;have e:=hfa.symm.trans (BN X G a);cases e;have fb:=F'.binds (ps:=["_law_script"]) hb;obtain⟨oc,od,kV,È,pm,an,gU,ct,Y1,rfl,_⟩:=id F'.ex;exact⟨Cp "law" "law" (gQ st) (dP st) (aP st) .none kV È pm an gU ct,λs v=>.of_eq (hb kV È pm an gU ct [v] rfl),λbase _ _=>(F.f ⟨l.prog,w,K,mg,base⟩ rfl rfl ⟨_,_,F',fb,hfa⟩).imp (aaP ok)⟩
section
variable{K:Ab}{es:O lc}{R:Type}{B:(O PV->W R)->W R}
def av(i:Nat)(hr:AF X K fs es ks B)(hs:‹fs[i]?=ap (ap (.val v))›)(hN:‹X.N[i]?=ap x›)(hv:yT X.env.scope x:=by first | exact Co rfl | exact Ca (Co rfl) | exact Ca (Ca rfl))(hd: ~~~(jN x))(iG: ~~~(zY x))
  (h:‹im (.Name x pos::es) X.env=(false,lw (.Name x pos) X.env)::im es X.env›):AF X K fs (.Name x pos::es) (.v::ks) (λk=>.bind (.ret v) λx=>B λl=>k (x::l)):=ai (ae i hs hN hv hd iG) hr h
end
end FL
namespace My
def qx(cI:PV):W (O PV):=
 []\λfy=>
 am (cI\λx3=>bd [x3]) λc7=>
 am (Hi (λs4=>(s4.2\λl5=>bd (!l5.isEmpty))) (λs4=>(
 am (zb s4.2) λt7=>
 t7.2\λx9=>am (eV s4.1 x9) λgG=>
 cy (nv (am (am (bd t7.2) (fJ .str)) eB)) (
 am (am (bd t7.2) ar) λW7=>am (yd t7.1 W7) λdR=>
 bd (gG,dR)) (
 bd (gG,t7.1)))) (fy,c7)) λs4=>
 (s4.1\λl12=>bd l12.reverse)
def gK(cI:PV):W PV:=
 []\λlK=>
 []\λIc=>
 am (cI\λx3=>qx x3) λl30=>am (bH l30 (lK,Ic) λHL s4=>(
 am (am (am (bd HL) (fJ .str)) eB) λb=>am (if b=true then (
 HL\λvi=>am (eV s4.1 vi) λP8=>
 bd (P8,s4.2)) else (
 am (zb s4.2) λt20=>
 am (zb t20.1) λt22=>
 am (t22.2\λZc=>t20.2\λMW=>bd (.tup [Zc,MW])) λRH=>am (eV s4.1 RH) λP7=>
 bd (P7,t22.1))) λô=>
 am (b2 vm (am (bd ô.1) zv) (bd (.int 1))) λUZ=>am (eV ô.2 UZ) λK4=>
 bd (ô.1,K4))) λs4=>
 (am (bd s4.1) lJ)
def dC(a6:PV):W PV:=
 (cy (am (am (bd a6) (fJ .str)) eB) (bd (.tup [])) (bd a6))
def jt(cI:PV):W PV:=
 am (cI\λx2=>gK x2) λlK=>
 am (am (am (bd lK) ar) λl4=>a7 l4 λp5=>(bd .aL)) λJI=>
 am (am (am (bd lK) ar) λl6=>.fK (l6.length<=sizeLine) (.ret (d7 0 l6))) λl19=>am (bH l19 JI λp8 s7=>am (m9 p8) λt9=>(
 am (am (t9.2\λkq=>dC kq) ar) λW6=>am (bH W6 s7 λQ9 õ=>(
 t9.1\λkT=>Q9\λjP=>am (gs õ jP kT) λMn=>
 bd Mn)) λõ=>
 bd õ)) λs7=>
 (am (bd s7) lJ)
def gz(gL:PV)(nT:PV):W PV:=
 (cy (am (am (bh (am (bd gL) ar) (bd nT)) (fJ .str)) eB) (bh (am (bd gL) ar) (bd nT)) (bd nT))
def lX(eQ:PV):W (O PV):=
 am (eQ\λx2=>jt x2) λfm=>
 am (am (am (bd fm) ar) λl4=>a7 l4 λp5=>(bd (.tup []))) λo9=>
 am (am (b2 vm (c1 bO (bd fm)) (bd (.int 1))) λx6=>am (am (bd (.int 1)) qv) λx7=>am (am (bd (.int 1)) qv) λx8=>Qr x6 x7 x8) λW6=>am (bH W6 o9 λnS s9=>(
 am (cy (t2 zc (bh (am (bd fm) ar) (bd nS)) (bd .aL)) (bd (.tup [])) (bh (bd s9) (bh (am (bd fm) ar) (bd nS)))) λMo=>
 am (w2 addW (nS\λnh=>bd (.tup [nh])) (bd Mo)) λkT=>nS\λjP=>am (gs s9 jP kT) λK6=>
 bd K6)) λs9=>
 bd s9
def iB(Ig:PV)(nT:PV):W PV:=
 (am (am (am (c1 bO (bd Ig)) dg) λl2=>pN l2 λp3=>SK (y8 (Om true (bd p3) (am (bh (am (bd Ig) ar) (bd nT)) ar)) (Om true (bd nT) (am (bh (am (bd Ig) ar) (bd p3)) ar))) (bd p3)) lJ)
def nH(eQ:PV):W PV:=
 am (eQ\λx2=>gK x2) λbr=>
 am (eQ\λx4=>lX x4) λo9=>
 (am (am (am (c1 bO (bd br)) dg) λl6=>a7 l6 λp7=>(am (br\λx8=>p7\λx9=>gz x8 x9) λkq=>(.int 0)\λqZ=>am (am (bh (am (bd br) ar) (bd p7)) λlE=>dC lE) λnh=>am ((.cl o9)\λkT=>p7\λjP=>iB kT jP) λqY=>bd (.tup [kq,qZ,nh,qY]))) lJ)
def fu(aF:PV):W PV:=
 (JG (am (bd aF) (fJ .int)) (am (am (bd aF) (fJ .bool)) aeY))
def fV(aF:PV)(uU:PV):W PV:=
 (JG (am (bd aF) (fJ .tup)) (b2 eZ (c1 bO (bd aF)) (bd uU)))
def oX(aF:PV):W PV:=
 cy (tor (nv (am (am (bd aF) (fJ .str)) eB)) (nv (chT oLe oLe (bd (.int 1)) (c1 bO (bd aF)) (bd (.int 8))))) (
 (bd (.bl false))) (
 (am (am (am (bd aF) Nj) λl1=>a7 l1 λp2=>(b2 aaz (bd p2) (bd (.str "abcdefghijklmnopqrstuvwxyz")))) qS))
def lY(aF:PV)(Nx:PV):W PV:=
 am (aF\λx3=>bd [x3]) λc7=>
 am (wK (λs4=>(s4.2\λl5=>bd (!l5.isEmpty))) (λs4=>(
 am (zb s4.2) λt7=>
 cy (am (t7.2\λx8=>(.int 2)\λx9=>fV x8 x9) eB) (
 am (am (bd t7.2) ar) λW7=>am (yd t7.1 W7) λdR=>
 bd (.go (s4.1,dR))) (
 cy (tor (nv (am (t7.2\λkT=>oX kT) eB)) (y8 (t7.2\λlE=>am (NZ lE) λk13=>bd (vG s4.1 k13)) (nv (am (bd Nx) eB)))) (
 (.bl false)\λjP=>bd (Lp.out jP)) (
 (.bl true)\λqX=>t7.2\λvi=>am (aew s4.1 vi qX) λQq=>
 bd (.go (Qq,t7.1)))))) ([],c7)) (J4 (λs4=>
 (bd (.bl true))) id)
def gJ(gL:PV)(eS:PV):W (O PV):=
 (am (am (am (bd gL) ar) λl1=>am (am (bd eS) ar) λl2=>pK l1 l2) λl3=>pN l3 λp4=>am (m9 p4) λt5=>SK (nv (am (am (bd t5.1) (fJ .str)) eB)) (bd t5.2))
def bE(Gp:PV):W PV:=
 (bh (am (bd Gp) ar) (am (c1 bO (bd Gp)) λx1=>bM x1))
def lV(eQ:PV)(eS:PV)(mK:PV):W (O PV):=
 am (eQ\λx2=>jt x2) λfm=>
 []\λHN=>
 am (am (am (bd mK) ar) λl4=>.fK (l4.length<=sizeLine) (.ret (d7 0 l4))) λl19=>am (bH l19 HN λp6 s5=>am (m9 p6) λt7=>(
 am (am (am (bd eS) ar) λl8=>.fK (l8.length<=sizeLine) (.ret (d7 0 l8))) λW6=>am (bH W6 s5 λŘ s9=>am (m9 Ř) λĔ=>(
 cy (y8 (t2 oLe (bd Ĕ.2) (bd t7.2)) (tor (t2 zc (bh (am (bd fm) ar) (bd Ĕ.1)) (bd .aL)) (t2 oLt (bd t7.2) (bh (am (bd eS) ar) (bh (am (bd fm) ar) (bd Ĕ.1)))))) (
 am (Ĕ.1\λnh=>t7.1\λkT=>bd (.tup [nh,kT])) λjP=>am (eV s9 jP) λKJ=>
 bd KJ) (
 bd s9))) λs9=>
 bd s9)) λs5=>
 bd s5
def oV(gL:PV)(eS:PV)(mK:PV)(rH:PV)(Wz:PV):W PV:=
 am (bh (am (bd Wz) ar) (bd (.int 0))) λpq=>
 am (bh (am (bd Wz) ar) (bd (.int 1))) λsk=>
 am (b2 oLt (bh (am (bd eS) ar) (bd pq)) (bh (am (bd mK) ar) (bd sk))) λGR=>
 am (cy (am (bd GR) eB) (pq\λx5=>bd (.tup [x5])) (am (bh (am (bd gL) ar) (bd pq)) λx6=>dC x6)) λbelow_4=>
 am (am (am (am (bd below_4) ar) λl8=>a7 l8 λp9=>(dgB (bd rH) (p9\λkq=>am (b2 vm (bd sk) (bd (.int 1))) λqZ=>bd (.tup [kq,qZ])))) lJ) λP4=>
 am (am (am (am (bd rH) W9) λl13=>pN l13 λĚ=>SK (y8 (t2 eZ (bh (am (bd Ě) ar) (bd (.int 1))) (bd sk)) (t2 vn (bh (am (bd Ě) ar) (bd (.int 0))) (bd pq))) (dgB (bd rH) (bd Ě))) lJ) λHa=>
 (am (gL\λjP=>pq\λqY=>gz jP qY) λqX=>sk\λvi=>P4\λyY=>Ha\λyX=>bd (.tup [qX,vi,yY,yX]))
def o7(eQ:PV)(eS:PV):W PV:=
 am (eQ\λx2=>gK x2) λbr=>
 am (am ((.int 0)\λx4=>bd [x4]) λl7=>am (am (br\λx5=>eS\λx6=>gJ x5 x6) Hx) λl8=>jT l7 l8) λyH=>
 am (eQ\λkq=>eS\λqZ=>(.cl yH)\λlE=>lV kq qZ lE) λHM=>
 am (am (am (am (am (bd (.cl HM)) ar) λl14=>.fK (l14.length<=sizeLine) (.ret (d7 0 l14))) λl15=>a7 l15 λp16=>am (m9 p16) λŕ=>(ŕ.2\λvi=>ŕ.1\λyY=>bd (.tup [vi,yY]))) O8) λxc=>
 (am (am (am (bd (.cl HM)) ar) λl20=>a7 l20 λp21=>(br\λMX=>eS\λU0=>(.cl yH)\λZc=>xc\λMW=>p21\λRH=>oV MX U0 Zc MW RH)) lJ)
def tU(aF:PV):W PV:=
 (aF\λx1=>(.bl true)\λx2=>lY x1 x2)
def cW(lL:PV)(bI:PV):W PV:=
 (bh (am (bh (am (bd lL) ar) (bd bI)) ar) (bd (.int 2)))
def kd(lL:PV)(bI:PV):W PV:=
 (bh (am (bh (am (bd lL) ar) (bd bI)) ar) (bd (.int 3)))
def o5(lL:PV)(bI:PV)(acr:PV):W PV:=
 (JG (b2 eZ (lL\λx1=>bI\λx2=>cW x1 x2) (bd (.tup []))) (b2 eZ (bh (am (bh (am (bd lL) ar) (bd bI)) ar) (bd (.int 0))) (bd acr)))
def fw(eA:PV):W PV:=
 (bh (am (bh (am (bd eA) ar) (bd (.int 0))) ar) (bd (.int 0)))
def tV(eA:PV):W PV:=
 (bh (am (bh (am (bd eA) ar) (bd (.int 0))) ar) (am (bd (.int 1)) qv))
def xo(eA:PV):W PV:=
 (am (am (am (eA\λx3=>am (am (bd (.int 2)) part) λi1=>bm\λj2=>wX x3 i1 j2) ar) λl4=>a7 l4 λp5=>(p5\λx6=>fw x6)) lJ)
def j9(aq:PV)(bI:PV):W (O PV):=
 am (aq\λx2=>bI\λx3=>cW x2 x3) λir=>
 (cy (t2 eZ (c1 bO (bd ir)) (bd (.int 2))) (ir\λx4=>am (am (bh (am (bd ir) ar) (bd (.int 1))) λx5=>am (bh (am (bd ir) ar) (bd (.int 0))) λx6=>bd (.tup [x5,x6])) λx7=>bd [x4,x7]) (bd []))
def lW(aq:PV)(bI:PV):W (O PV):=
 am (aq\λx2=>bI\λx3=>kd x2 x3) λyG=>
 (am (am (am (bd yG) ar) λl4=>a7 l4 λp5=>(bI\λx6=>p5\λx7=>bd (.tup [x6,x7]))) λl12=>am (am (am (bd yG) ar) λl8=>a7 l8 λp9=>(p9\λkq=>bI\λqZ=>bd (.tup [kq,qZ]))) λl13=>jT l12 l13)
def fv(aq:PV)(a6:PV)(bI:PV):W (O PV):=
 cy (am (am (bd a6) (fJ .str)) eB) (
 (cy (am (aq\λx1=>bI\λx2=>a6\λx3=>o5 x1 x2 x3) eB) (am ((.str "found")\λx4=>(.tup [])\λx5=>bd (.tup [x4,x5])) λx6=>bd [x6]) (bd []))) (
 am (am (aq\λx8=>bI\λx9=>j9 x8 x9) λW8=>a7 W8 λQC=>((.str "split")\λlE=>QC\λnh=>bd (.tup [lE,nh]))) λQh=>
 am (am (aq\λjP=>bI\λqY=>lW jP qY) λW6=>a7 W6 λp18=>((.str "over")\λyY=>p18\λyX=>bd (.tup [yY,yX]))) λQD=>
 (am (am (am (am ((.str "doubled")\λyW=>am (bI\λMX=>bI\λU0=>bd (.tup [MX,U0])) λZc=>bd (.tup [yW,Zc])) λMW=>bd [MW]) λl26=>am (am (bd (.cl Qh)) rR) λl27=>jT l26 l27) λl28=>am (am (bd (.cl QD)) rR) λl29=>jT l28 l29) VE))
def oY(aq:PV)(aF:PV):W PV:=
 (JG (aF\λx1=>fu x1) (chB oLe oLt (bd (.int 0)) (bd aF) (c1 bO (bd aq))))
def o4(aq:PV)(aF:PV):W PV:=
 cy (tor (nv (am (am (bd aF) (fJ .tup)) eB)) (t2 eZ (c1 bO (bd aF)) (bd (.int 0)))) (
 (bd (.bl false))) (
 cy (nv (am (am (am (am (bd aF) ar) λl1=>a7 l1 λp2=>(aq\λx3=>p2\λx4=>oY x3 x4)) qS) eB)) (
 (bd (.bl false))) (
 (am (am (am (am (bd aF) ar) λl8=>am (am (aF\λx7=>am (am (bd (.int 1)) part) λi5=>bm\λj6=>wX x7 i5 j6) ar) λl9=>pK l8 l9) λW8=>a7 W8 λQC=>am (m9 QC) λyR=>(ai3 false (bd yR.2) (am (aq\λnh=>yR.1\λkT=>cW nh kT) ar))) qS)))
def ka(aq:PV)(a6:PV)(aF:PV):W PV:=
 am (cy (am (am (bd a6) (fJ .str)) eB) (bd (.int 2)) (bd (.int 4))) λWX=>
 (JG (aF\λx4=>WX\λx5=>fV x4 x5) (JG (aq\λx2=>am (bh (am (bd aF) ar) (bd (.int 0))) λx3=>o4 x2 x3) (am (bh (am (bd aF) ar) (bd (.int 1))) (fJ .str))))
def fh(aq:PV)(bz:PV)(aF:PV):W PV:=
 am (am (am (bd bz) ar) λl2=>a7 l2 λp3=>(bd .aL)) λU7=>
 aF\λx5=>am (am (bd (.int 1)) qv) λx6=>am (gs U7 x6 x5) λql=>
 am (am (b2 vm (c1 bO (bd bz)) (bd (.int 1))) λx7=>am (am (bd (.int 1)) qv) λx8=>am (am (bd (.int 1)) qv) λx9=>Qr x7 x8 x9) λl33=>am (nX l33 ql λoQ tK=>(
 am (bh (am (bd bz) ar) (bd oQ)) λvZ=>
 am (bh (bd tK) (bd oQ)) λHj=>
 cy (nv (am (aq\λkT=>vZ\λjP=>Hj\λqY=>ka kT jP qY) eB)) (
 .aL\λqX=>bd (Lp.out qX)) (
 am (am (am (vZ\λvi=>dC vi) ar) λl22=>am (am (Hj\λyW=>am (am (bd (.int 2)) part) λi19=>bm\λj20=>wX yW i19 j20) ar) λNX=>pK l22 NX) λl31=>am (bH l31 tK λp25 ó=>am (m9 p25) λŔ=>(
 Ŕ.2\λUZ=>Ŕ.1\λx29=>am (gs ó x29 UZ) λPX=>
 bd PX)) λó=>
 bd (.go ó)))) (J4 (λtK=>
 (bd (.cl tK))) id)
def o6(aq:PV)(a6:PV)(eA:PV):W PV:=
 (ai3 false (am (bh (am (bd eA) ar) (bd (.int 1))) λx1=>am (eA\λx2=>xo x2) λx3=>bd (.tup [x1,x3])) (aq\λx4=>a6\λx5=>am (eA\λx6=>tV x6) λx7=>fv x4 x5 x7))
def rQ(aq:PV)(dH:PV)(aF:PV):W PV:=
 cy (nv (am (dH\λx1=>tU x1) eB)) (
 (bd (.bl false))) (
 am (dH\λx3=>gK x3) λM8=>
 am (aq\λx5=>M8\λx6=>aF\λx7=>fh x5 x6 x7) λql=>
 cy (tor (t2 zc (bd ql) (bd .aL)) (t2 vn (c1 bO (bh (am (bd aF) ar) (bd (.int 0)))) (bd (.int 1)))) (
 (bd (.bl false))) (
 (am (am (am (am (bd M8) ar) λl8=>am (am (bd ql) ar) λl9=>pK l8 l9) λW8=>a7 W8 λQC=>am (m9 QC) λyR=>(aq\λnh=>yR.1\λkT=>yR.2\λjP=>o6 nh kT jP)) qS)))
def kB(eA:PV):W (O PV):=
 []\λfy=>
 am (eA\λx3=>bd [x3]) λc7=>
 am (Hi (λs4=>(s4.2\λl5=>bd (!l5.isEmpty))) (λs4=>(
 am (zb s4.2) λt7=>
 t7.2\λx9=>am (eV s4.1 x9) λgG=>
 am (am (t7.2\λnh=>am (am (bd (.int 2)) part) λi11=>bm\λj12=>wX nh i11 j12) ar) λl14=>am (yd t7.1 l14) λdR=>
 bd (gG,dR))) (fy,c7)) λs4=>
 (s4.1\λl15=>bd l15.reverse)
def oW(aq:PV)(acH:PV):W PV:=
 (am (am (am (acH\λx3=>bm\λi1=>am (am (am (bd (.int 1)) qv) part) λj2=>wX x3 i1 j2) ar) λl4=>pN l4 λp5=>SK (t2 eZ (c1 bO (aq\λx6=>p5\λx7=>cW x6 x7)) (bd (.int 2))) (bd p5)) zv)
def o8(aq:PV)(eA:PV):W PV:=
 am (eA\λx2=>kB x2) λHK=>
 am (am (am (bd (.cl HK)) ar) λl4=>a7 l4 λp5=>(bh (am (bd p5) ar) (bd (.int 1)))) λYu=>
 am (am (am (am (bd (.cl HK)) ar) λl7=>a7 l7 λp8=>(aq\λx9=>am (bh (am (bd p8) ar) (bd (.int 0))) λkq=>oW x9 kq)) jg) λWY=>
 (am (am (am (bd ([("split":Str),("doubled":Str),("over":Str)].map PV.str)) λW7=>a7 W7 λp12=>(am (am (bd (.cl Yu)) rR) λl13=>p12\λkT=>abZ l13 kT)) λl16=>am (WY\λjP=>bd [jP]) λW6=>jT l16 W6) lJ)
def rO(aG:PV)(YB:PV):W PV:=
 (am (am (am (am (bd aG) ar) λl1=>am (am (bd YB) ar) λl2=>pK l1 l2) λl3=>a7 l3 λp4=>am (m9 p4) λt5=>(b2 kY (bd t5.1) (bd t5.2))) jg)
def nG(uJ:PV):W PV:=
 (cy (Om false (bd .aL) (am (bd uJ) ar)) (bd .aL) (am (am (bd uJ) rR) jg))
def dW(uJ:PV):W PV:=
 (am (am (am (bd uJ) ar) λl1=>pN l1 λp2=>SK (t2 Gw (bd p2) (bd .aL)) (bd p2)) QM)
def gw(aG:PV)(yr:PV):W PV:=
 (cy (yr\λx1=>m8 false x1 ([("split":Str),("doubled":Str),("over":Str)].map PV.str)) (bh (am (bd aG) ar) (am (bd yr) (Xx ["split","doubled","over"]))) (bd (.int 0)))
def fB(aG:PV)(eL:PV)(a6:PV)(yr:PV):W PV:=
 am (am (am (am (a6\λx2=>dC x2) ar) λl3=>am (am (bh (am (bd yr) ar) (bd (.int 1))) ar) λl4=>pK l3 l4) λl5=>a7 l5 λp6=>am (m9 p6) λt7=>(bh (am (bh (am (bd eL) ar) (bd t7.1)) ar) (bd t7.2))) λKO=>
 (am (jR (am (am (aG\λx8=>am (bh (am (bd yr) ar) (bd (.int 0))) λx9=>gw x8 x9) λkq=>bd [kq]) λW7=>am (am (bd (.cl KO)) rR) λl12=>jT W7 l12)) λnh=>nG nh)
def dq(aq:PV)(aG:PV)(eL:PV)(a6:PV)(bI:PV):W (O PV):=
 (am (aq\λx1=>a6\λx2=>bI\λx3=>fv x1 x2 x3) λl4=>a7 l4 λp5=>(aG\λx6=>eL\λx7=>a6\λx8=>p5\λx9=>fB x6 x7 x8 x9))
def j8(aq:PV)(aG:PV)(bI:PV):W PV:=
 (cy (t2 eZ (c1 bO (aq\λx1=>bI\λx2=>cW x1 x2)) (bd (.int 2))) (bh (am (bd aG) ar) (bd (.int 3))) (bd (.int 0)))
def dm(aq:PV)(aG:PV)(ah2:PV)(bI:PV):W (O PV):=
 am (aq\λx2=>aG\λx3=>bI\λx4=>j8 x2 x3 x4) λacJ=>
 (am (am (aq\λx5=>bI\λx6=>cW x5 x6) ar) λl7=>a7 l7 λp8=>(am (jR (acJ\λx9=>am (bh (am (bd ah2) ar) (bd p8)) λkq=>bd [x9,kq])) λqZ=>nG qZ))
def rN(aq:PV)(aG:PV)(eL:PV)(a6:PV):W PV:=
 []\λVT=>
 am (am (c1 bO (bd aq)) dg) λl21=>am (bH l21 VT λNf s3=>(
 am (am (am (aq\λx6=>aG\λx7=>eL\λx8=>a6\λx9=>Nf\λkq=>dq x6 x7 x8 x9 kq) λl15=>am (aq\λqZ=>aG\λlE=>(.cl s3)\λnh=>Nf\λkT=>dm qZ lE nh kT) λl16=>jT l15 l16) Vl) λRt=>
 am ((.cl Rt)\λvi=>dW vi) λyY=>am (eV s3 yY) λVS=>
 bd VS)) λs3=>
 (am (bd s3) lJ)
def lU(aq:PV)(dH:PV)(aG:PV):W PV:=
 []\λNm=>
 am (am (dH\λx2=>gK x2) ar) λl12=>am (bH l12 Nm λkA s3=>(
 am (am (aq\λx6=>aG\λx7=>(.cl s3)\λx8=>kA\λx9=>rN x6 x7 x8 x9) Vk) λkq=>am (eV s3 kq) λVP=>
 bd VP)) λs3=>
 (am (bd s3) lJ)
def ke(fR:PV)(k_:PV):W (O PV):=
 am (cy (t2 oLt (bd k_) (c1 bO (bd fR))) (bh (am (bd fR) ar) (bd k_)) (bd (.int 0))) λox=>
 am (b2 kY (c1 Mk (bd ox)) (c1 Pp (b2 oGe (c1 Mk (bd ox)) (b2 WJ (bd (.int 10)) (bd (.int 18)))))) λiI=>
 (iI\λx3=>am (b2 oMod (b2 kY (w2 addW (w2 addW (b2 oMod (bd ox) (bd (.int 2147483629))) (b2 kY (b2 kY (bd (.int 7919)) (bd k_)) (bd k_))) (bd (.int 11))) (bd (.int 48271))) (bd (.int 2147483647))) λx4=>(.int 0)\λx5=>bd [x3,x4,x5])
def kD(d6:O PV)(uU:PV):W (PV×O PV):=
 am (w2 addW (bh (bd d6) (bd (.int 2))) (bd (.int 1))) λx2=>(.int 2)\λx3=>am (gs d6 x3 x2) λaV=>
 cy (y8 (t2 oGt (bh (bd aV) (bd (.int 0))) (bd (.int 0))) (t2 oLe (bh (bd aV) (bd (.int 2))) (bd (.int 60)))) (
 am (b2 oMod (bh (bd aV) (bd (.int 0))) (bd uU)) λwB=>
 am (b2 oDiv (bh (bd aV) (bd (.int 0))) (bd uU)) λx6=>(.int 0)\λx7=>am (gs aV x7 x6) λhE=>
 wB\λx8=>bd (x8,hE)) (
 am (b2 oMod (w2 addW (w2 addW (b2 kY (bh (bd aV) (bd (.int 1))) (bd (.int 48271))) (bd (.int 12345))) (bh (bd aV) (bd (.int 2)))) (bd (.int 2147483647))) λkq=>(.int 1)\λqZ=>am (gs aV qZ kq) λcO=>
 am (b2 oMod (b2 oDiv (b2 oMod (b2 kY (bh (bd cO) (bd (.int 1))) (w2 addW (b2 oMod (bh (bd cO) (bd (.int 1))) (bd (.int 40009))) (bd (.int 3)))) (bd (.int 2147483629))) (bd (.int 7))) (bd uU)) λlE=>bd (lE,cO))
def ju(uU:PV):W (O PV):=
 (.str "abcdefghijklmnopqrstuvwxyz")\λpd=>
 am (am ((.int 26)\λx2=>bM x2) λx3=>am (am (jR ((.int 1)\λx4=>(.int 3)\λx5=>(.int 5)\λx6=>(.int 7)\λx7=>(.int 9)\λx8=>(.int 11)\λx9=>bd [x4,x5,x6,x7,x8,x9])) λkq=>bE kq) λqZ=>bd (.tup [x3,qZ])) λlE=>am (m9 lE) λkR=>
 am (am (jR ((.str "")\λjP=>(.str "")\λqY=>(.str "a")\λqX=>(.str "zq")\λvi=>(.str "mnopqrs")\λyY=>bd [jP,qY,qX,vi,yY])) λyX=>bE yX) λvT=>
 (am (am (bd uU) dg) λl22=>a7 l22 λĸ=>(w2 addW (b2 Sn (bd pd) (b2 oMod (w2 addW (bd kR.1) (b2 kY (bd kR.2) (bd ĸ))) (bd (.int 26)))) (bd vT)))
def dF(Gp:PV):W PV:=
 am (am (bd Gp) ar) λqp=>
 am (am (b2 vm (am (bd qp) zv) (bd (.int 1))) dg) λNX=>am (bH NX qp λadT s3=>(
 am (am (am (bd s3) zv) λx6=>bM x6) λx7=>am (HJ s3 x7) λt8=>
 am (am (am (bd t8.1) zv) λkq=>bM kq) λagm=>
 am (t8.2\λlE=>am (bh (bd t8.1) (bd agm)) λnh=>bd (.tup [lE,nh])) λHP=>
 am (cy (t2 eZ ((.int 2)\λjP=>bM jP) (bd (.int 0))) (bd HP) (HP\λqY=>bm\λi17=>bm\λj18=>am (am (am (bd (.int 1)) qv) part) λk19=>VL qY i17 j18 k19)) λyX=>agm\λyW=>am (gs t8.1 yW yX) λQo=>
 bd Qo)) λs3=>
 (bh (bd s3) (bd (.int 0)))
def nJ(xk:PV):W PV:=
 am (am (w2 addW (bd (.int 1)) (xk\λx2=>bM x2)) λx3=>ju x3) λeg=>
 (am ((.cl eg)\λx4=>dF x4) λx5=>(.cl eg)\λx6=>bd (.tup [x5,x6]))
def dX(uN:PV)(xk:PV):W PV:=
 am (am (am (w2 addW (bd (.int 1)) (xk\λx2=>bM x2)) dg) λl4=>a7 l4 λp5=>(uN\λx6=>bE x6)) λqp=>
 ((.cl qp)\λx7=>dF x7)
def bp:Nat->PV->W (O PV)
 | 0,_=>W.fail
 | n+1,cI=>
 cy (am (am (bd cI) (fJ .str)) eB) (
 (cI\λx1=>bd [x1])) (
 am (jR (am (bh (am (bd cI) ar) (bd (.int 0))) λx2=>bp n x2)) λjZ=>am (jR (am (bh (am (bd cI) ar) (bd (.int 1))) λx3=>bp n x3)) λjY=>
 []\λR0=>
 am (am (bd jY) ar) λl26=>am (bH l26 R0 λkz s7=>(
 am (nv (am (am (bd kz) (fJ .str)) eB)) λb=>am (if b=true then (
 am (am (w2 addW (bh (am (bd kz) ar) (bd (.int 0))) (c1 bO (bd jZ))) λkT=>am (w2 addW (bh (am (bd kz) ar) (bd (.int 1))) (c1 bO (bd jZ))) λjP=>bd (.tup [kT,jP])) λvY=>
 bd vY) else (
 bd kz)) λą=>
 ą\λqX=>am (eV s7 qX) λNk=>
 bd Nk)) λs7=>
 (am (am (am (bd jZ) rR) λl18=>s7\λl19=>jT l18 l19) λNX=>am (am (am (b2 vm (c1 bO (bd jZ)) (bd (.int 1))) λyX=>am (b2 vm (w2 addW (c1 bO (bd jZ)) (c1 bO (bd jY))) (bd (.int 1))) λyW=>bd (.tup [yX,yW])) λMX=>bd [MX]) λl24=>jT NX l24))
def dZ(bc:PV):W PV:=
 am (bc\λx2=>bp 12 x2) λbr=>
 am (am ((.int 0)\λx4=>bd [x4]) λl5=>am (c1 bO (bd (.cl br))) λx6=>VV l5 x6) λsG=>
 (.int 0)\λyu=>
 am (am (am (am (bd (.cl br)) ar) λl9=>.fK (l9.length<=sizeLine) (.ret (d7 0 l9))) λW8=>pN W8 λQC=>am (m9 QC) λyR=>SK (nv (am (am (bd yR.2) (fJ .str)) eB)) (bd yR.1)) λgp=>
 am (am (am (bd gp) zv) dg) λl32=>am (bH l32 (sG,yu,gp) λHm uQ=>(
 []\λsF=>
 am (bH uQ.2.2 sF λvg R6=>(
 cy (y8 (Om true (bh (am (bh (am (bd (.cl br)) ar) (bd vg)) ar) (bd (.int 0))) (bd uQ.2.2)) (Om true (bh (am (bh (am (bd (.cl br)) ar) (bd vg)) ar) (bd (.int 1))) (bd uQ.2.2))) (
 vg\λyW=>am (eV R6 yW) λwz=>
 bd wz) (
 bd R6))) λR6=>
 am ((.cl R6)\λU0=>bE U0) λHc=>
 am (w2 addW (w2 addW (bd uQ.2.1) (bd (.int 1))) ((.int 12)\λMW=>bM MW)) λpB=>
 pB\λx27=>Hc\λUZ=>am (gs uQ.1 UZ x27) λsH=>
 Hc\λZb=>am (ZR uQ.2.2 Zb) λlH=>
 bd (sH,pB,lH))) λuQ=>
 (am (bd uQ.1) lJ)
def fY(bc:PV):W PV:=
 cy (t2 eZ ((.int 2)\λx1=>bM x1) (bd (.int 0))) (
 (bc\λx2=>nH x2)) (
 (bc\λx3=>am (bc\λx4=>dZ x4) λx5=>o7 x3 x5))
def bK:W PV:=
 []\λcP=>
 am (am (bd (.int 4)) dg) λl25=>am (bH l25 cP λk_4 s3=>(
 am ((.int 0)\λx6=>(.int 1)\λx7=>(.int 2)\λx8=>(.int 3)\λx9=>(.int 10)\λkq=>am ((.int 10)\λqZ=>bM qZ) λlE=>am ((.int 1001)\λnh=>bM nh) λkT=>bd [x6,x7,x8,x9,kq,lE,kT]) λVG=>
 am (am (am (bd (.cl VG)) rR) λl19=>am ((.int 1000)\λqY=>am (w2 addW (b2 WJ (bd (.int 10)) (bd (.int 28))) ((.int 1000)\λqX=>bM qX)) λvi=>bd [qY,vi]) λl20=>jT l19 l20) λQn=>
 am ((.cl Qn)\λMX=>bE MX) λU0=>am (eV s3 U0) λnW=>
 bd nW)) λs3=>
 (am (bd s3) lJ)
def f6(ao:PV)(bz:PV)(a6:PV)(Ç:PV):W (O PV):=
 am (bh (am (bd ao) ar) (bd Ç)) λx1=>am (un4 x1) λt3=>
 cy (am (am (bh (am (bd bz) ar) (bd a6)) (fJ .str)) eB) (
 (cy (y8 (t2 eZ (bd t3.2.2.1) (bd (.tup []))) (t2 eZ (bd t3.1) (bh (am (bd bz) ar) (bd a6)))) (am (.aL\λx4=>am (jR (bd [])) λx5=>bd (.tup [x4,x5])) λx6=>bd [x6]) (bd []))) (
 am (bh (am (bd bz) ar) (bd a6)) λx7=>am (m9 x7) λt8=>
 am (am ((.int 1)\λkq=>am (jR (am (t8.1\λqZ=>Ç\λlE=>bd (.tup [qZ,lE])) λnh=>am (t8.2\λkT=>Ç\λjP=>bd (.tup [kT,jP])) λqY=>bd [nh,qY])) λqX=>bd (.tup [kq,qX])) λvi=>bd [vi]) λJc=>
 am (am (bd t3.2.2.2) ar) λl83=>am (bH l83 Jc λVj Kq=>(
 am ((.int 2)\λMX=>am (jR (am (t8.1\λU0=>Ç\λZc=>bd (.tup [U0,Zc])) λMW=>am (t8.2\λRH=>Vj\λx27=>bd (.tup [RH,x27])) λUZ=>bd [MW,UZ])) λx29=>bd (.tup [MX,x29])) λZb=>am (eV Kq Zb) λnW=>
 am ((.int 2)\λx32=>am (jR (am (t8.1\λx33=>Vj\λx34=>bd (.tup [x33,x34])) λx35=>am (t8.2\λx36=>Ç\λx37=>bd (.tup [x36,x37])) λx38=>bd [x35,x38])) λx39=>bd (.tup [x32,x39])) λx40=>am (eV nW x40) λLP=>
 bd LP)) λKq=>
 am (t2 eZ (c1 bO (bd t3.2.2.1)) (bd (.int 2))) λb=>am (if b=true then (
 am ((.int 0)\λx63=>am (jR (am (t8.1\λx64=>am (bh (am (bd t3.2.2.1) ar) (bd (.int 0))) λx65=>bd (.tup [x64,x65])) λx66=>am (t8.2\λx67=>am (bh (am (bd t3.2.2.1) ar) (bd (.int 1))) λx68=>bd (.tup [x67,x68])) λx69=>bd [x66,x69])) λx70=>bd (.tup [x63,x70])) λx71=>am (eV Kq x71) λLO=>
 am ((.int 0)\λx73=>am (jR (am (t8.1\λx74=>am (bh (am (bd t3.2.2.1) ar) (bd (.int 1))) λx75=>bd (.tup [x74,x75])) λx76=>am (t8.2\λx77=>am (bh (am (bd t3.2.2.1) ar) (bd (.int 0))) λx78=>bd (.tup [x77,x78])) λx79=>bd [x76,x79])) λx80=>bd (.tup [x73,x80])) λx81=>am (eV LO x81) λLN=>
 bd LN) else (
 bd Kq)) λĶ=>
 bd Ķ)
def iD(ao:PV)(a6:PV)(Ç:PV):W (O PV):=
 am (bh (am (bh (am (bd ao) ar) (bd Ç)) ar) (bd (.int 2))) λir=>
 am (cy (t2 eZ (c1 bO (bd ir)) (bd (.int 2))) (bd (.int 3)) (bd .aL)) λQv=>
 (am (am (bd ir) ar) λl3=>a7 l3 λp4=>(Qv\λx5=>am (jR (am (a6\λx6=>p4\λx7=>bd (.tup [x6,x7])) λx8=>bd [x8])) λx9=>bd (.tup [x5,x9])))
def v9(aq:PV)(dH:PV)(aG:PV):W PV:=
 (am (bh (am (aq\λx1=>dH\λx2=>aG\λx3=>lU x1 x2 x3) ar) (am (bd (.int 1)) qv)) λx4=>dW x4)
def fW(aq:PV)(aF:PV):W PV:=
 (JG (aF\λx4=>am (c1 bO (bd aq)) λx5=>fV x4 x5) (am (am (am (bd aF) ar) λl1=>a7 l1 λp2=>(orB (b2 zc (bd p2) (bd .aL)) (p2\λx3=>fu x3))) qS))
def oZ(aq:PV)(dH:PV)(aF:PV):W PV:=
 (JG (aF\λx5=>am (c1 bO (dH\λx6=>gK x6)) λx7=>fV x5 x7) (am (am (am (bd aF) ar) λl1=>a7 l1 λp2=>(aq\λx3=>p2\λx4=>fW x3 x4)) qS))
def kC(d6:O PV)(dj:PV):W (PV×O PV):=
 am (w2 addW (bh (bd d6) (bd (.int 2))) (bd (.int 1))) λx2=>(.int 2)\λx3=>am (gs d6 x3 x2) λaV=>
 cy (y8 (t2 oGt (bh (bd aV) (bd (.int 0))) (bd (.int 0))) (t2 oLe (bh (bd aV) (bd (.int 2))) (bd (.int 60)))) (
 am (b2 oMod (bh (bd aV) (bd (.int 0))) (bd dj)) λwB=>
 am (b2 oDiv (bh (bd aV) (bd (.int 0))) (bd dj)) λx6=>(.int 0)\λx7=>am (gs aV x7 x6) λhE=>
 wB\λx8=>bd (x8,hE)) (
 am (b2 oMod (w2 addW (w2 addW (b2 kY (bh (bd aV) (bd (.int 1))) (bd (.int 48271))) (bd (.int 12345))) (bh (bd aV) (bd (.int 2)))) (bd (.int 2147483647))) λkq=>(.int 1)\λqZ=>am (gs aV qZ kq) λcO=>
 am (b2 oMod (b2 oDiv (b2 oMod (b2 kY (bh (bd cO) (bd (.int 1))) (w2 addW (b2 oMod (bh (bd cO) (bd (.int 1))) (bd (.int 40009))) (bd (.int 3)))) (bd (.int 2147483629))) (bd (.int 7))) (bd dj)) λlE=>bd (lE,cO))
def nI(dj:PV):W (O PV):=
 (.str "abcdefghijklmnopqrstuvwxyz")\λpd=>
 am (am ((.int 26)\λx2=>bM x2) λx3=>am (am (jR ((.int 1)\λx4=>(.int 3)\λx5=>(.int 5)\λx6=>(.int 7)\λx7=>(.int 9)\λx8=>(.int 11)\λx9=>bd [x4,x5,x6,x7,x8,x9])) λkq=>bE kq) λqZ=>bd (.tup [x3,qZ])) λlE=>am (m9 lE) λkR=>
 am (am (jR ((.str "")\λjP=>(.str "")\λqY=>(.str "a")\λqX=>(.str "zq")\λvi=>(.str "mnopqrs")\λyY=>bd [jP,qY,qX,vi,yY])) λyX=>bE yX) λvT=>
 (am (am (bd dj) dg) λl22=>a7 l22 λĸ=>(w2 addW (b2 Sn (bd pd) (b2 oMod (w2 addW (bd kR.1) (b2 kY (bd kR.2) (bd ĸ))) (bd (.int 26)))) (bd vT)))
def dY(xk:PV):W PV:=
 am (am (w2 addW (bd (.int 1)) (xk\λx2=>bM x2)) λx3=>nI x3) λeg=>
 (am ((.cl eg)\λx4=>dF x4) λx5=>(.cl eg)\λx6=>bd (.tup [x5,x6]))
def cx:Nat->PV->PV->PV->PV->W (O PV)
 | 0,_,_,_,_=>W.fail
 | n+1,ao,bz,a6,Ç=>
 []\λcP=>
 am (bh (am (bd bz) ar) (bd a6)) λi9=>
 am (bh (am (bd ao) ar) (bd Ç)) λx3=>am (un4 x3) λt4=>
 am (am (am (bd i9) (fJ .str)) eB) λb=>am (if b=true then (
 am (cy (y8 (t2 eZ (bd t4.2.2.1) (bd (.tup []))) (t2 eZ (bd t4.1) (bd i9))) (am (am (Ç\λx80=>bd (.tup [x80])) λx81=>(.str "found")\λx82=>bd (.tup [x81,x82])) λx83=>bd [x83]) (bd [])) λLM=>
 bd LM) else (
 am (am ((.str "doubled")\λx85=>Ç\λx86=>Ç\λx87=>bd (.tup [x85,x86,x87])) λx88=>bd [x88]) λHz=>
 am (am (bd t4.2.2.2) ar) λam0=>am (bH am0 Hz λVi ç=>(
 am (ç\λam6=>am (am ((.str "over")\λx92=>Ç\λx93=>Vi\λx94=>bd (.tup [x92,x93,x94])) λx95=>am ((.str "over")\λx96=>Vi\λx97=>Ç\λx98=>bd (.tup [x96,x97,x98])) λx99=>bd [x95,x99]) λam5=>jT am6 am5) λQl=>
 bd Ql)) λç=>
 am (t2 eZ (c1 bO (bd t4.2.2.1)) (bd (.int 2))) λb=>am (if b=true then (
 am ((.str "split")\λadM=>am (bh (am (bd t4.2.2.1) ar) (bd (.int 0))) λadL=>am (bh (am (bd t4.2.2.1) ar) (bd (.int 1))) λadK=>bd (.tup [adM,adL,adK])) λadJ=>am (eV ç adJ) λrA=>
 am ((.str "split")\λadI=>am (bh (am (bd t4.2.2.1) ar) (bd (.int 1))) λadH=>am (bh (am (bd t4.2.2.1) ar) (bd (.int 0))) λadG=>bd (.tup [adI,adH,adG])) λadF=>am (eV rA adF) λrz=>
 bd rz) else (
 bd ç)) λR7=>
 am (am (bd (.cl R7)) ar) λam1=>am (bH am1 cP λamH Kr=>am (un3 amH) λNb=>(
 am (ao\λama=>bz\λal9=>am (bh (am (bd i9) ar) (bd (.int 1))) λal8=>Nb.2.2\λal7=>cx n ama al9 al8 al7) λqt=>
 am (ao\λal6=>bz\λal5=>am (bh (am (bd i9) ar) (bd (.int 0))) λal4=>Nb.2.1\λal3=>cx n al6 al5 al4 al3) λam2=>am (bH am2 Kr λQG Nl=>(
 am (am (am (bd (.cl qt)) ar) λam4=>a7 am4 λŐ=>(am (Ç\λal2=>bd (.tup [al2])) λal1=>Nb.1\λal0=>QG\λalZ=>Ő\λalY=>bd (.tup [al1,al0,alZ,alY]))) λam3=>am (yd Nl am3) λGS=>
 bd GS)) λNl=>
 bd Nl)) λKr=>
 bd Kr)) λė=>
 am (am (bd t4.2.2.1) ar) λamY=>am (bH amY ė λpH HD=>(
 am (ao\λalX=>bz\λalW=>a6\λalV=>pH\λalU=>cx n alX alW alV alU) λq9=>
 am (am (am (bd (.cl q9)) ar) λamZ=>a7 amZ λSj=>(w2 addW (am (w2 addW (Ç\λU3=>bd (.tup [U3])) (bh (am (bd Sj) ar) (bd (.int 0)))) λU2=>bd (.tup [U2])) (Sj\λU1=>am (am (bd (.int 1)) part) λXy=>bm\λXo=>wX U1 Xy Xo))) λafh=>am (yd HD afh) λpz=>
 bd pz)) λHD=>
 bd HD
def gY(ao:PV)(bz:PV):W PV:=
 am (am (c1 bO (bd bz)) dg) λl41=>am (bH l41 [] λkA s3=>(
 am (am (c1 bO (bd ao)) dg) λl39=>am (bH l39 s3 λUq s6=>(
 (.int 0)\λHn=>
 am (ao\λkq=>bz\λqZ=>kA\λlE=>Uq\λnh=>f6 kq qZ lE nh) λHy=>
 am (am (am (bd (.cl Hy)) rR) λW6=>am (ao\λkT=>kA\λjP=>Uq\λqY=>iD kT jP qY) λl18=>jT W6 l18) λl37=>am (bH l37 Hn λp20 Kq=>am (m9 p20) λĳ=>(
 (.int 1)\λlT=>
 am (am (bd ĳ.2) ar) λl30=>am (bH l30 lT λsM ZK=>(
 am (b2 kY (bd ZK) (sM\λRH=>am (xH RH) λk27=>W.MF (du s6 k27))) λiz=>
 bd iz)) λZK=>
 am (w2 addW (bd Kq) (bd ZK)) λKf=>
 bd Kf)) λKq=>
 Kq\λx34=>am (kA\λx32=>Uq\λx33=>bd (.tup [x32,x33])) λx35=>am (V7 s6 x35 x34) λLi=>
 bd Li)) λs6=>
 bd s6)) λs3=>
 (am (bd (s3.map (·.2))) jg)
def bF:Nat->PV->PV->PV->W PV
 | 0,_,_,_=>W.fail
 | n+1,ao,cK,eA=>
 am (am (am (am (am (bh (am (bd eA) ar) (bd (.int 0))) λx4=>bm\λi2=>am (am (am (bd (.int 1)) qv) part) λj3=>wX x4 i2 j3) ar) λl5=>pN l5 λp6=>SK (t2 eZ (c1 bO (bh (am (bh (am (bd ao) ar) (bd p6)) ar) (bd (.int 2)))) (bd (.int 2))) (bh (am (bd cK) ar) (bd (.int 3)))) jg) λHo=>
 cy (t2 eZ (bh (am (bd eA) ar) (bd (.int 1))) (bd (.str "found"))) (
 (bd Ho)) (
 am (w2 addW (bd Ho) (bh (am (bd cK) ar) (am ((.str "split")\λx8=>(.str "doubled")\λx9=>(.str "over")\λkq=>bd [x8,x9,kq]) λW7=>am (bh (am (bd eA) ar) (bd (.int 1))) λlE=>Ta W7 lE))) λP6=>
 am (w2 addW (bd P6) (ao\λkT=>cK\λjP=>am (bh (am (bd eA) ar) (bd (.int 2))) λqY=>bF n kT jP qY)) λKg=>
 (w2 addW (bd Kg) (ao\λqX=>cK\λvi=>am (bh (am (bd eA) ar) (bd (.int 3))) λyY=>bF n qX vi yY)))
def lZ(hJ:PV):W PV:=
 am (hJ\λx1=>dY x1) λx2=>am (m9 x2) λt3=>
 am (t3.1\λx5=>fY x5) λdi=>
 am (t3.2\λx7=>(.int 4)\λx8=>dX x7 x8) λfP=>
 am (am (bd (.int 3)) dg) λNX=>am (bH NX fP λP5 tK=>(
 cy (t2 oGt (di\λlE=>am (jR (tK\λnh=>bp 12 nh)) λkT=>gY lE kT) (bd (.int 600))) (
 am (bh (am (bd tK) ar) ((.int 2)\λqY=>bM qY)) λgI=>
 bd gI) (
 bd tK))) λtK=>
 (di\λqX=>tK\λvi=>am (jR (tK\λyY=>bp 12 yY)) λyX=>am (bK) λyW=>bd (.tup [qX,vi,yX,yW]))
def gX(OS:PV)(Po:PV):W PV:=
 cy (t2 zc (bd Po) (bd .aL)) (
 (bd (.bl true))) (
 (JG (b2 Gw (bd OS) (bd .aL)) (b2 oLe (bd OS) (bd Po))))
def iA(aq:PV)(aG:PV)(eL:PV)(oS:PV)(a6:PV)(bI:PV):W PV:=
 am (am (aq\λx2=>aG\λx3=>eL\λx4=>a6\λx5=>bI\λx6=>dq x2 x3 x4 x5 x6) λW7=>am (aq\λx7=>aG\λx8=>am (bh (am (bd eL) ar) (bd oS)) λx9=>bI\λkq=>dm x7 x8 x9 kq) λl12=>jT W7 l12) λRu=>
 (am (bh (am (bh (am (bd eL) ar) (bd oS)) ar) (bd bI)) λnh=>am ((.cl Ru)\λkT=>dW kT) λjP=>gX nh jP)
def eG(aq:PV)(aG:PV)(eL:PV)(oS:PV)(a6:PV):W PV:=
 (am (am (am (c1 bO (bd aq)) dg) λl2=>a7 l2 λp3=>(aq\λx4=>aG\λx5=>eL\λx6=>oS\λx7=>a6\λx8=>p3\λx9=>iA x4 x5 x6 x7 x8 x9)) qS)
def dE(aq:PV)(dH:PV)(aG:PV)(eA:PV)(aF:PV):W PV:=
 cy (tor (nv (am (aq\λx4=>dH\λx5=>eA\λx6=>rQ x4 x5 x6) eB)) (nv (am (aq\λx1=>dH\λx2=>aF\λx3=>oZ x1 x2 x3) eB))) (
 (bd (.bl false))) (
 am (dH\λx8=>gK x8) λVh=>
 cy (nv (am (am (am (am (am (bd Vh) ar) λl9=>.fK (l9.length<=sizeLine) (.ret (d7 0 l9))) λW8=>a7 W8 λQC=>am (m9 QC) λyR=>(aq\λnh=>aG\λkT=>aF\λjP=>yR.1\λqY=>yR.2\λqX=>eG nh kT jP qY qX)) qS) eB)) (
 (bd (.bl false))) (
 am (aG\λyY=>am (aq\λyX=>eA\λyW=>o8 yX yW) λMX=>rO yY MX) λRv=>
 (am (am (am (bh (am (bd aF) ar) (am (bd (.int 1)) qv)) ar) λNX=>a7 NX λp24=>(Rv\λMW=>p24\λRH=>gX MW RH)) qS)))
def bb:Nat->PV->W (O PV)
 | 0,_=>W.fail
 | n+1,cI=>
 cy (am (am (bd cI) (fJ .str)) eB) (
 (cI\λx1=>bd [x1])) (
 am (jR (am (bh (am (bd cI) ar) (bd (.int 0))) λx2=>bb n x2)) λjZ=>am (jR (am (bh (am (bd cI) ar) (bd (.int 1))) λx3=>bb n x3)) λjY=>
 []\λjl=>
 am (am (bd jY) ar) λl26=>am (bH l26 jl λkz s7=>(
 am (nv (am (am (bd kz) (fJ .str)) eB)) λb=>am (if b=true then (
 am (am (w2 addW (bh (am (bd kz) ar) (bd (.int 0))) (c1 bO (bd jZ))) λkT=>am (w2 addW (bh (am (bd kz) ar) (bd (.int 1))) (c1 bO (bd jZ))) λjP=>bd (.tup [kT,jP])) λvY=>
 bd vY) else (
 bd kz)) λą=>
 ą\λqX=>am (eV s7 qX) λmQ=>
 bd mQ)) λs7=>
 (am (am (am (bd jZ) rR) λl18=>s7\λl19=>jT l18 l19) λNX=>am (am (am (b2 vm (c1 bO (bd jZ)) (bd (.int 1))) λyX=>am (b2 vm (w2 addW (c1 bO (bd jZ)) (c1 bO (bd jY))) (bd (.int 1))) λyW=>bd (.tup [yX,yW])) λMX=>bd [MX]) λl24=>jT NX l24))
def f7(bc:PV):W PV:=
 am (bc\λx2=>bb 12 x2) λbr=>
 am (am ((.int 0)\λx4=>bd [x4]) λl5=>am (c1 bO (bd (.cl br))) λx6=>VV l5 x6) λsG=>
 (.int 0)\λyu=>
 am (am (am (am (bd (.cl br)) ar) λl9=>.fK (l9.length<=sizeLine) (.ret (d7 0 l9))) λW8=>pN W8 λQC=>am (m9 QC) λyR=>SK (nv (am (am (bd yR.2) (fJ .str)) eB)) (bd yR.1)) λgp=>
 am (am (am (bd gp) zv) dg) λl32=>am (bH l32 (sG,yu,gp) λHm uQ=>(
 []\λsF=>
 am (bH uQ.2.2 sF λvg R6=>(
 cy (y8 (Om true (bh (am (bh (am (bd (.cl br)) ar) (bd vg)) ar) (bd (.int 0))) (bd uQ.2.2)) (Om true (bh (am (bh (am (bd (.cl br)) ar) (bd vg)) ar) (bd (.int 1))) (bd uQ.2.2))) (
 vg\λyW=>am (eV R6 yW) λwz=>
 bd wz) (
 bd R6))) λR6=>
 am ((.cl R6)\λU0=>bE U0) λHc=>
 am (w2 addW (w2 addW (bd uQ.2.1) (bd (.int 1))) ((.int 12)\λMW=>bM MW)) λpB=>
 pB\λx27=>Hc\λUZ=>am (gs uQ.1 UZ x27) λsH=>
 Hc\λZb=>am (ZR uQ.2.2 Zb) λlH=>
 bd (sH,pB,lH))) λuQ=>
 (am (bd uQ.1) lJ)
def fX(bc:PV):W PV:=
 cy (t2 eZ ((.int 2)\λx1=>bM x1) (bd (.int 0))) (
 (bc\λx2=>nH x2)) (
 (bc\λx3=>am (bc\λx4=>f7 x4) λx5=>o7 x3 x5))
def iE(hJ:PV):W PV:=
 am (hJ\λx1=>dY x1) λx2=>am (m9 x2) λt3=>
 am (t3.1\λx5=>fX x5) λdi=>
 am (t3.2\λx7=>(.int 4)\λx8=>dX x7 x8) λfP=>
 am (am (bd (.int 3)) dg) λNX=>am (bH NX fP λP5 tK=>(
 cy (t2 oGt (di\λlE=>am (jR (tK\λnh=>bb 12 nh)) λkT=>gY lE kT) (bd (.int 600))) (
 am (bh (am (bd tK) ar) ((.int 2)\λqY=>bM qY)) λgI=>
 bd gI) (
 bd tK))) λtK=>
 (di\λqX=>tK\λvi=>am (jR (tK\λyY=>bb 12 yY)) λyX=>am (bK) λyW=>bd (.tup [qX,vi,yX,yW]))
def fZ(eL:PV):W PV:=
 []\λcP=>
 am (am (bd eL) ar) λNX=>am (bH NX cP λVQ s2=>(
 []\λNh=>
 am (am (bd VQ) ar) λl21=>am (bH l21 Nh λWH s5=>(
 am (am (jR ((.int 0)\λx8=>(.int 0)\λx9=>(.int 0)\λkq=>(.int 0)\λqZ=>am (am (bd (.int 1)) qv) λlE=>(.int 1)\λnh=>am (am (bd (.int 2)) qv) λkT=>bd [x8,x9,kq,qZ,lE,nh,kT])) λjP=>bE jP) λadf=>
 am (cy (t2 zc (bd WH) (bd .aL)) (bd .aL) (w2 addW (bd WH) (bd adf))) λqX=>am (eV s5 qX) λQm=>
 bd Qm)) λs5=>
 am (am (bd s5) lJ) λyY=>am (eV s2 yY) λLQ=>
 bd LQ)) λs2=>
 (am (bd s2) lJ)
def iC(ao:PV)(bz:PV):W (O PV):=
 []\λcP=>
 am (am (c1 bO (bd ao)) dg) λl16=>am (bH l16 cP λŽ s3=>(
 am (ao\λx5=>bz\λx6=>am (b2 vm (c1 bO (bd bz)) (bd (.int 1))) λx7=>Ž\λx8=>cx 50 x5 x6 x7 x8) λl14=>am (bH l14 s3 λM3 s9=>(
 cy (t2 eZ (c1 bO (bh (am (bd M3) ar) (bd (.int 0)))) (bd (.int 1))) (
 M3\λlE=>am (eV s9 lE) λLR=>
 bd LR) (
 bd s9))) λs9=>
 bd s9)) λs3=>
 bd s3
def xn(fR:PV):W PV:=
 am (am ((.int 1)\λx3=>am ((.int 2)\λx1=>am (c1 bO (bd fR)) λx2=>rG Uo [x1,x2]) λx4=>rG Up [x3,x4]) dg) λl90=>am (nX l90 () λġ s6=>(
 am (fR\λx9=>ġ\λkq=>ke x9 kq) λu0=>aim gh u0 (
 am ((.int 4)\λqZ=>iE qZ) λlE=>am (un4 lE) λkR=>
 am (kR.1\λjP=>kR.2.2.1\λqY=>iC jP qY) λlG=>
 am (am (am (am (bd (.cl lG)) ar) λl18=>a7 l18 λp19=>(kR.1\λyX=>kR.2.2.2\λyW=>p19\λMX=>bF 8 yX yW MX)) K0) λdA=>
 am (kR.1\λZc=>kR.2.1\λMW=>kR.2.2.2\λRH=>lU Zc MW RH) λoJ=>
 cy (t2 vn (kR.1\λx27=>kR.2.1\λUZ=>kR.2.2.2\λx29=>v9 x27 UZ x29) (bd dA)) (
 (.bl false)\λZb=>bd (Lp.out Zb)) (
 am (am (am (am (bd (.int 10)) dg) λl33=>a7 l33 λp34=>((.cl lG)\λx35=>bE x35)) λl39=>am (am (am (bd (.cl lG)) rR) λl36=>bm\λi37=>am (am (bd (.int 10)) part) λj38=>bd (hV l36 i37 j38)) λl40=>jT l39 l40) λoI=>
 am (am (bd (.cl oI)) ar) λl88=>am (nX l88 () λM1 ķ=>(
 am (b2 eZ (kR.1\λx44=>kR.2.2.2\λx45=>M1\λx46=>bF 8 x44 x45 x46) (bd dA)) λYs=>
 cy (t2 vn (kR.1\λx47=>kR.2.1\λx48=>kR.2.2.2\λx49=>M1\λx50=>oJ\λx51=>dE x47 x48 x49 x50 x51) (bd Ys)) (
 (.bl false)\λx52=>bd (Lp.out x52)) (
 bd (.go ())))) (J4 (λķ=>
 am (am (am (bd (.int 2)) dg) λl55=>a7 l55 λp56=>(kR.1\λx57=>kR.2.1\λx58=>am (bK) λx59=>lU x57 x58 x59)) λGv=>
 am (am (am (bd (.cl Gv)) rR) λl65=>am (am (am (bd (.int 4)) dg) λl62=>a7 l62 λp63=>(oJ\λx64=>fZ x64)) λl66=>jT l65 l66) λoO=>
 am (am (bd (.cl oO)) ar) λl86=>am (nX l86 () λwQ ĵ=>(
 am (am (am (bd (.cl oI)) rR) λl69=>bm\λi70=>am (am (bd (.int 6)) part) λj71=>bd (hV l69 i70 j71)) λl84=>am (nX l84 () λM0 Ĵ=>(
 cy (t2 aay (kR.1\λx74=>kR.2.1\λx75=>kR.2.2.2\λx76=>M0\λx77=>wQ\λx78=>dE x74 x75 x76 x77 x78) (bd (.bl true))) (
 cy (t2 vn (kR.1\λx79=>kR.2.2.2\λx80=>M0\λx81=>bF 8 x79 x80 x81) (bd dA)) (
 (.bl false)\λx82=>bd (Lp.out x82)) (
 bd (.go ()))) (
 bd (.go ())))) (J4 (λĴ=>
 bd (.go ())) Lp.out))) (J4 (λĵ=>
 bd (.go ())) Lp.out)) Lp.out))))) (J4 (λs6=>
 (bd (.bl true))) id)
end My
variable{Q:O PL.PV->Prop}{t:My.Tr}
namespace My
def Tr.pv:Tr->PV
 | .leaf x=>.str x
 | .node l r=>.tup [l.pv,r.pv]
def Ent.pv:Ent->PV
 | .word x=>.str x
 | .pair a b=>.tup [.int (a:Int),.int (b:Int)]
def HA{l:List α}(h:l≠[]):∃a x,l=a++[x]:=⟨l.dropLast,l.getLast h,(List.dropLast_concat_getLast h).symm⟩
def VM{a b:O Tr}(h:cY a++b=t.post):bj a+b.length=t.size:=by
 have h1:=congrArg BM h;rw[Ah,t.dU]at h1;have h2:∀l:O Tr,(cY l).length=bj l:=by
  intro l
  induction l with
  | nil=>rfl
  | cons x l ih=>
   have e1:cY (x::l)=x.post++cY l:=rfl;have e2:bj (x::l)=x.size+bj l:=rfl;rw[e1,e2,Ah,ih,x.dU]
 rw[h2]at h1;exact h1
theorem cX{x:PV}(h:l.length < 1000):eV l x=.ret (l++[x]):=mo (by have:=bB (n:=1000) (An _);omega)
theorem Wy(t:Tr)(hz:t.size<=900):(qx t.pv).le (.ret (t.post.map Tr.pv)):=λQ q=>by
 refine wJ (λn s=>∃ts bs:O Tr,n=bj ts/\s=(bs.map Tr.pv,ts.map Tr.pv)/\cY ts++bs.reverse=t.post) ⟨[t],[],rfl,rfl,by rw[tP];simp⟩ ?_;rintro n s ⟨ts,bs,rfl,rfl,hp⟩;have hs:=VM hp;rw[Ce]at hs;by_cases he:ts=[]
 ·subst he;have Ĥ:bs.reverse=t.post:=hp;simp;rw[<- List.map_reverse,Ĥ];exact q
 ·obtain⟨us,u,rfl⟩:=HA he;have UQ:=k7 us;rw[cg,gr]at hs;simp;rw[cX (by rw[Ae];omega)];cases u with
  | leaf x=>
   simp[Tr.pv];refine⟨_,?_,us,rfl,bs++[.leaf x],⟨by simp[Tr.pv],rfl⟩,?_⟩
   ·rw[cg,gr];show bj us < bj us+1;omega
   ·rw[lO,tP]at hp;rw[Ep,<- hp];simp[Tr.post]
  | node c d=>
   have e1:yd (us.map Tr.pv) [c.pv,d.pv]=.ret (us.map Tr.pv++[c.pv,d.pv]):=mo (bB (by
    have:(Tr.node c d).size=c.size+d.size+1:=rfl;simp;omega))
   simp[Tr.pv,e1];refine⟨_,?_,us++[c,d],rfl,bs++[.node c d],⟨by simp[Tr.pv],by simp⟩,?_⟩
   ·have e2:bj [Tr.node c d]=c.size+d.size+1:=by rw[gr];rfl
    have e3:bj [c,d]=c.size+d.size:=by simp[bj]
    rw[cg,cg,e2,e3];omega
   ·rw[lO,tP]at hp;rw[Ep,<- hp,lO,Sd];simp[Tr.post]
def ay(l:O Nat):O PV:=l.map λ(n:Nat)=>.int (n:Int)
@[simp] theorem bo(l:O Nat):(ay l).length=l.length:=Ae _
@[simp] theorem xj(a b:O Nat):ay (a++b)=ay a++ay b:=Az
@[simp] theorem iV(a:Nat)(l:O Nat):ay (a::l)=.int (a:Int)::ay l:=rfl
@[simp] theorem jr:ay []=[]:=rfl
def lh(n:Nat):g8 0 n=ay (Av n):=by
 refine A9 λi _=>?_;rw[Ds]
theorem NW{p:Nat->Bool}:∀{l:O Nat},(∀k∈l,f (.int ((k:Nat):Int))=.ret (if p k=true then ap (.int ((k:Nat):Int)) else bm))->pN (ay l) f=.ret (ay (l.filter p))
 | [],_=>rfl
 | k::l,h=>by
  show am (f _) (λo=>am (pN (ay l) f) λm=>bd (o.toList++m))=_;rw[h k (.head _),NW λy hy=>h y (.tail _ hy),CW];cases p k <;> rfl
theorem j7{f:PV->W PV}{g:Nat->PV}:∀{l:O Nat},(∀k∈l,f (.int ((k:Nat):Int))=.ret (g k))->a7 (ay l) f=.ret (l.map g)
 | [],_=>rfl
 | k::l,h=>by
  show am (f _) (λy=>am (a7 (ay l) f) λm=>bd (y::m))=_;rw[h k (.head _),j7 λy hy=>h y (.tail _ hy)];rfl
def aiM(g:PV->Option PV)(h:∀x∈l,f x=.ret (g x))(q:Q (l.filterMap g)):(pN l f).run Q:=by rw[Ij h];exact q
def NL{f:PV->W PV}(g:PV->PV)(h:∀x∈l,f x=.ret (g x))(q:Q (l.map g)):(a7 l f).run Q:=by rw[HZ h];exact q
def W3{l:O Nat}(p:Nat->Bool)(h:∀k∈l,f (.int ((k:Nat):Int))=.ret (if p k=true then ap (.int ((k:Nat):Int)) else bm))(q:Q (ay (l.filter p))):(pN (ay l) f).run Q:=by rw[NW h];exact q
def GC{l:O Nat}{f:PV->W PV}(g:Nat->PV)(h:∀k∈l,f (.int ((k:Nat):Int))=.ret (g k))(q:Q (l.map g)):(a7 (ay l) f).run Q:=by rw[j7 h];exact q
theorem jq(t:Tr)(hz:t.size<=900):(gK t.pv).le (.ret (.tup ((t.nd 0).map Ent.pv))):=λQ q=>by
 unfold gK;simp only[ga,bn];refine W.le.use (Wy t hz) ?_;refine ya (λr s=>∃(k:O Tr) (À:O Ent) (ls:O Nat),r=k.map Tr.pv/\s=(À.map Ent.pv,ay ls.reverse)/\run k À ls=ap (t.nd 0,[t.size-1])/\À.length+k.length<=900/\ls.length<=À.length) ⟨t.post,[],[],rfl,rfl,R8 t,by simp[t.dU];omega,An _⟩ ?_ ?_
 ·rintro x r s ⟨k,À,ls,e,rfl,h,hl,Ħ⟩;cases k with
  | nil=>cases e
  | cons p k=>
   injection e with e1 e2;subst e1;subst e2;rw[Ap]at hl;cases p with
   | leaf x=>
    have a1:∀y,eV (ay ls.reverse) y=.ret (ay ls.reverse++[y]):=λy=>cX (by simp;omega);simp[Tr.pv,cX (l:=À.map Ent.pv) (by simp;omega),a1];refine⟨k,rfl,À++[Ent.word x],À.length::ls,⟨by simp[Ent.pv],by simp⟩,h,by simp;omega,by simp;omega⟩
   | node c d=>
    match ls,h,Ħ with
    | b::a::ls,h,Ħ=>
     rw[Ap,Ap]at Ħ;have a0:ay (b::a::ls).reverse=(ay ls.reverse++[.int (a:Int)])++[.int (b:Int)]:=by simp
     have a1:∀y,eV (ay ls.reverse) y=.ret (ay ls.reverse++[y]):=λy=>cX (by simp;omega);rw[a0];simp only[Tr.pv,ga,gP,kg,bx,Ao,if_false,OP];simp[cX (l:=À.map Ent.pv) (by simp;omega),a1];refine⟨k,rfl,À++[Ent.pair a b],À.length::ls,⟨by simp[Ent.pv],by simp⟩,h,by simp;omega,by simp;omega⟩
 ·rintro s ⟨k,À,ls,e,rfl,h,hl,Ħ⟩;cases k with
  | nil=>
   cases h;simpa using q
  | cons p k=>cases e
end My
variable{a b:Int}
namespace My
theorem mulL(h:-1000000000<=a/\a<=1000000000):ut a b:=acN ∅ ∅
theorem mulR(h:-1000000000<=b/\b<=1000000000):ut a b:=mul_r ∅ ∅
theorem agr(i:Int):0<=(if i < 0 then -i else i):=by split <;> omega
theorem bf(h:-1000<=i/\i<=1000/\-1000<=j/\j<=1000)(h2:j-i<=1000):okN i j:=⟨by omega,by omega,by omega,by omega,bB ∅⟩
structure RF(t:Tr):Prop where
 ws:t.Ws
 nd:t.az.Nodup
 few:t.az.length<=8
 sg:∃b,b<=1/\(t.az.map λx=>x.cps[b]?).Nodup
end My
variable{a b i j:Nat}{ds:O Int}{m:O PL.PV}{d:Int}{left:O Nat}
namespace My
def zG:Ent->Bool
 | .word _=>false
 | .pair _ _=>true
structure Dt(t:Tr)(ds:List Int)(left:List Nat)(d:Int):Prop where
 len:ds.length=t.size
 zero:∀j,j < t.size->(zG (en t 0 j)=false\/j∈left)->ds.getD j 0=0
 up:∀j,j < t.size->j∉left->∀a b,en t 0 j=.pair a b->a∉left/\b∉left/\ds.getD a 0 < ds.getD j 0/\ds.getD b 0 < ds.getD j 0/\1<=ds.getD j 0/\ds.getD j 0<=d
 inj:∀i j,i < t.size->j < t.size->i∉left->j∉left->zG (en t 0 i)=true->zG (en t 0 j)=true->ds.getD i 0=ds.getD j 0->i=j
 pos:0<=d
 lft:∀j∈left,j < t.size/\zG (en t 0 j)=true
 ris:left.Pairwise (· < ·)
def kE{l:O Int}{v:Int}(h:i < l.length):(l.set i v).getD i 0=v:=by rw[Ai,BR h];rfl
def cm{l:O Int}{v:Int}(h:i≠j):(l.set i v).getD j 0=l.getD j 0:=by rw[Ai,Bx h,<- Ai]
def zd{l:O Nat}(h:l.Pairwise (· < ·)){x y:Nat}:y∈l.erase x↔y∈l/\y≠x:=by
 have nd:l.Nodup:=h.imp (λz=>AM z);rw[nd.mem_erase_iff];exact⟨λz=>⟨z.2,z.1⟩,λz=>⟨z.2,z.1⟩⟩
theorem fF(t:Tr)(h:j < t.size)(e:en t 0 j=.pair a b):a < j/\b < j:=by
 rcases YJ t 0 j h with⟨x,e1,_⟩ | ⟨a',b',e1,e2,e3,_⟩
 ·rw[e1]at e;cases e
 ·rw[e1]at e;injection e with h1 h2;omega
theorem Dt.next{x:Int}(D:Dt t ds left d)(hj:j∈left)(e:en t 0 j=.pair a b)(ha:a∉left)(hb:b∉left)(hx:0<=x):Dt t (ds.set j (d+1+x)) (left.erase j) (d+1+x):=by
 obtain⟨hjs,hjp⟩:=D.lft j hj;obtain⟨haj,hbj⟩:=fF t hjs e;have č:j < ds.length:=by rw[D.len];exact hjs
 have hm:∀y,y∈left.erase j↔y∈left/\y≠j:=λy=>zd D.ris;have Ö:∀y,y < t.size->y∉left->ds.getD y 0<=d:=λy hy Ľ=>by
  cases ey:en t 0 y with
  | word w=>rw[D.zero y hy (.inl (by rw[ey];rfl))];exact D.pos
  | pair p q=>exact(D.up y hy Ľ p q ey).2.2.2.2.2
 refine⟨by rw[B3];exact D.len,λy hy hc=>?_,λy hy Ľ p q ey=>?_,λu v hu hv hul š pu pv Xz=>?_,by have:=D.pos;omega,λy hy=>D.lft y ((hm y).mp hy).1,List.Pairwise.sublist List.erase_sublist D.ris⟩
 ·have Ģ:j≠y:=λz=>by
   subst z;rcases hc with hc | hc
   ·rw[hjp]at hc;cases hc
   ·exact((hm j).mp hc).2 rfl
  rw[cm Ģ];exact D.zero y hy (hc.imp id λz=>((hm y).mp z).1)
 ·by_cases Ģ:j=y
  ·subst Ģ;rw[e]at ey;injection ey with h1 h2;subst h1 h2;have la:=Ö a ∅ ha;have lb:=Ö b ∅ hb;rw[kE č,cm ∅,cm ∅];have:=D.pos;exact⟨λz=>ha ((hm a).mp z).1,λz=>hb ((hm b).mp z).1,by omega,by omega,by omega,by omega⟩
  ·have ang:y∉left:=λz=>Ľ ((hm y).mpr ⟨z,BW Ģ⟩);obtain⟨p1,p2,p3,p4,p5,p6⟩:=D.up y hy ang p q ey;have np:j≠p:=λz=>p1 (z▸hj);have nq:j≠q:=λz=>p2 (z▸hj);rw[cm Ģ,cm np,cm nq];exact⟨λz=>p1 ((hm p).mp z).1,λz=>p2 ((hm q).mp z).1,p3,p4,p5,by omega⟩
 ·by_cases c1:j=u
  ·by_cases c2:j=v
   ·exact c1.symm.trans c2
   ·exfalso;subst c1;have ſ:v∉left:=λz=>š ((hm v).mpr ⟨z,BW c2⟩);rw[kE č,cm c2]at Xz;have:=Ö v hv ſ;omega
  ·have ajd:u∉left:=λz=>hul ((hm u).mpr ⟨z,BW c1⟩);by_cases c2:j=v
   ·exfalso;subst c2;rw[kE č,cm c1]at Xz;have:=Ö u hu ajd;omega
   ·have ſ:v∉left:=λz=>š ((hm v).mpr ⟨z,BW c2⟩);rw[cm c1,cm c2]at Xz;exact D.inj u v hu hv ajd ſ pu pv Xz
def splits(t:Tr):O Nat:=(Av t.size).filter λj=>zG (en t 0 j)
def Dt.first(t:Tr):Dt t (Au t.size 0) (splits t) 0:=by
 have z:∀j,(Au t.size (0:Int)).getD j 0=0:=λj=>by
  rw[Ai,B5]
  split <;> rfl
 have mem:∀j,j∈splits t↔j < t.size/\zG (en t 0 j)=true:=λj=>by unfold splits;rw[Bm,AG]
 refine⟨BF,λj _ _=>z j,λj hj hn a b e=>absurd ((mem j).mpr ⟨hj,by rw[e];rfl⟩) hn,λi j hi hj hni _ pi _ _=>absurd ((mem i).mpr ⟨hi,pi⟩) hni,Ct _,λj hj=>(mem j).mp hj,?_⟩;exact List.Pairwise.filter _ DN
theorem Rl(t:Tr):d7 0 ((t.nd 0).map Ent.pv)=(Av t.size).map λj=>PV.tup [.int ((j:Nat):Int),(en t 0 j).pv]:=by
 have hl:(d7 0 ((t.nd 0).map Ent.pv)).length=t.size:=by rw[dc,Ae,t.bG]
 apply BH;intro i;by_cases hi:i < t.size
 ·have h1:(d7 0 ((t.nd 0).map Ent.pv))[i]?=ap ((d7 0 ((t.nd 0).map Ent.pv))[i]'∅):=Ad _;obtain⟨y,hy,e⟩:=iZ h1;rw[Aj,gk t 0 i hi]at hy;have Ü:=Option.some.inj hy;rw[h1,e,<- Ü,Aj,Bs hi,AD];rfl
 ·rw[AL ∅,AL (by rw[Ae,Cb];omega)]
def aaM:PV->Option PV
 | .tup [_,.str _]=>bm
 | .tup [k,_]=>ap k
 | _=>bm
def ae9(t:Tr):(d7 0 ((t.nd 0).map Ent.pv)).filterMap aaM=ay (splits t):=by
 rw[Rl];unfold splits;generalize Av t.size=l
 induction l with
 | nil=>rfl
 | cons j l ih=>
  rw[Aq,Bf,CW];cases e:en t 0 j with
  | word w=>exact ih
  | pair a b=>
   rw[ih];rfl
def Gz(l:O Nat):ay l=(l.map λn=>((n:Nat):Int)).map PV.int:=by unfold ay;rw[Ay];rfl
theorem yg(y:Nat):∀l:O Nat,(l.map λn=>((n:Nat):Int)).erase (y:Int)=(l.erase y).map λn=>((n:Nat):Int)
 | []=>rfl
 | a::l=>by
  rw[Aq,List.erase_cons,List.erase_cons,yg y l];by_cases c:a=y
  ·subst c;simp
  ·have c1:(((a:Nat):Int)==(y:Int))=false:=by simp;omega
   have c2:(a==y)=false:=by simpa using c
   rw[c1,c2];simp
theorem Qs:∀(l:O Nat) (k n:Nat),l.Pairwise (· < ·)->(∀x∈l,k<=x/\x < n)->l.length<=n-k
 | [],_,_,_,_=>A3 _
 | a::l,k,n,h,hb=>by
  have h1:=(EK.mp h);have h2:=hb a BL;have ih:=Qs l (a+1) n h1.2 λx hx=>⟨h1.1 x hx,(hb x (A6 _ hx)).2⟩;rw[Ap];omega
def shf(s:Nat):Ent->Ent
 | .word x=>.word x
 | .pair p q=>.pair (p+s) (q+s)
theorem ND:∀(t:Tr) (o s:Nat),t.nd (o+s)=(t.nd o).map (shf s)
 | .leaf _,_,_=>rfl
 | .node a b,o,s=>by
  have ha:=a.size_pos;rw[Tr.nd,Tr.nd,ND a o s,show o+s+a.size=o+a.size+s by omega,ND b (o+a.size) s,Az,Az];congr 2;congr 1 <;> omega
def eU(h:l.length+m.length<=1000):jT l m=.ret (l++m):=mo (bB h)
theorem pick_run(h0:l≠[])(h1:l.length<=1000){Q:PV->Prop}(q:∀x∈l,Q x):(bE (.cl l)).run Q:=by
 unfold bE;have hp:0 < l.length:=CP.mpr h0;simp only[ga,bn,bX,gN,eJ (l.length:Int) ∅ ∅,kw];refine cq λd d0 d1=>?_;obtain⟨v,hv,hv2⟩:=YK (xs:=l) d0 d1;simp only[ba,hv,sw,kw];exact q v (Bi hv2)
theorem Oj(k:Nat)(l:O Nat)(b:Bool):m8 b (.int (k:Int)) (ay l)=.ret (if b then !decide (k∈l) else decide (k∈l)):=by
 have h1:vF (.int (k:Int)) (ay l):=⟨by simp,jF.mpr λx hx=>by
  obtain⟨n,_,rfl⟩:=Am.mp hx;simp,jG λx hx=>by
  obtain⟨n,_,rfl⟩:=Am.mp hx;simp⟩
 have h2:qB (.int (k:Int)) (ay l)=decide (k∈l):=by
  unfold qB ay;rw[List.any_map]
  induction l with
  | nil=>simp
  | cons a l ih=>
   have ih:=ih ⟨by simp,jF.mpr λx hx=>by
    obtain⟨n,_,rfl⟩:=Am.mp hx;simp,jG λx hx=>by
    obtain⟨n,_,rfl⟩:=Am.mp hx;simp⟩
   rw[BZ,ih];by_cases c:a=k
   ·subst c;simp
   ·have c1:(((a:Nat):Int)==(k:Int))=false:=by simp;omega
    have c2:¬k=a:=λz=>c z.symm;simp[c1,c2]
 unfold m8;rw[mo h1,h2]
def bq(ds:O Int):O PV:=ds.map PV.int
@[simp] theorem g9(ds:O Int):(bq ds).length=ds.length:=Ae _
def Xu(ds:O Int)(y:Nat)(v:Int):(bq ds).set y (.int v)=bq (ds.set y v):=by unfold bq;rw[Fo]
def UK(t:Tr)(left:O Nat)(j:Nat):Bool:=match en t 0 j with
 | .pair a b=>!decide (a∈left)&&!decide (b∈left)
 | _=>false
theorem QY(h:k < n):uh n (k:Int)=ap k:=by
 unfold uh;rw[if_pos ∅,if_pos ∅];simp
def lN(h:k < l.length):gs l (.int (k:Int)) v=.ret (l.set k v):=by
 unfold gs;simp[QY h]
def WS(t:Tr)(h:j < t.size):bV ((t.nd 0).map Ent.pv) (j:Int)=ap (en t 0 j).pv:=bJ (by rw[Aj,gk t 0 j h];rfl)
theorem Dt.ah5(D:Dt t ds left d)(he:left≠[]):ay (left.filter (UK t left))≠[]:=by
 obtain⟨l0,l1,rfl⟩:∃l0 l1,left=l0::l1:=by cases left with | nil=>exact absurd rfl he | cons a l=>exact⟨a,l,rfl⟩
 have hr2:UK t (l0::l1) l0=true:=by
  obtain⟨h1,h2⟩:=D.lft l0 (.head _);unfold UK;cases e:en t 0 l0 with
  | word w=>rw[e]at h2;cases h2
  | pair a b=>
   obtain⟨g1,g2⟩:=fF t h1 e;have Ö:∀y∈l0::l1,l0<=y:=λy hy=>by
    rcases AA.mp hy with rfl | hy
    ·exact An _
    ·exact Ey ((EK.mp D.ris).1 y hy)
   have na:a∉l0::l1:=λz=>by have:=Ö a z;omega
   have nb:b∉l0::l1:=λz=>by have:=Ö b z;omega
   show(!decide _&&!decide _)=true;rw[decide_eq_false na,decide_eq_false nb];rfl
 intro z;have:=congrArg BM z;rw[bo]at this;have m:=Bm.mpr ⟨show l0∈l0::l1 from .head _,hr2⟩;rw[List.length_eq_zero_iff.mp this]at m;cases m
theorem RF.depth(g:RF t):t.depth < 8:=by have:=t.n6;have:=g.few;omega
theorem Zd(h:Wd x):oX (.str x)=.ret (.bl true):=by
 unfold oX;obtain⟨h1,h2,h3⟩:=h;have c1:x.length<=sizeLine:=bB ∅;have c2:x.cps.size<=sizeLine:=c1;have c3:(1:Int)<=(x.length:Int):=by omega
 have c4:(x.length:Int)<=8:=by omega
 simp only[ga,iK,kh,bx,Bq,Ao,if_false,abz,mo c1,Ya,c3,c4,decide_true,GX,bg,X6,mo c2];rw[HZ (g:=λ_=>PV.bl true) λy hy=>?_]
 ·simp only[ga];rw[all_map (λ_=>true)];congr 2;exact Bn.mpr λ_ _=>rfl
 ·obtain⟨c,hc,rfl⟩:=Am.mp hy;obtain⟨k1,k2⟩:=h3 c hc;simp only[afY,Ol k1 k2]
def w6(l:O PV)(n:Int):fV (.tup l) (.int n)=.ret (.bl ((l.length:Int)==n)):=by
 unfold fV;simp only[ga,gP,Rj,mq,cE,eR]
def aej(x:Str)(n:PV):fV (.str x) n=.ret (.bl false):=by
 unfold fV;simp only[ga,iK,abB,abD]
def U5(i:Int):fu (.int i)=.ret (.bl true):=by
 unfold fu;simp
theorem XN(t:Tr)(hw:t.Ws)(b:Bool)(hd:b=true\/t.az.Nodup)(hz:t.size<=900):(lY t.pv (.bl b)).le (.ret (.bl true)):=λQ q=>by
 unfold lY;simp only[ga,bn];refine MZ (λn s=>∃(ts:O Tr) (kvs:O (Key×PV)),n=bj ts/\s=(kvs,ts.map Tr.pv)/\(∀x∈ts.flatMap Tr.az,Wd x)/\(b=true\/(ts.flatMap Tr.az).Nodup/\∀x∈ts.flatMap Tr.az,vG kvs (.inr x)=false)/\bj ts+kvs.length<=900) (n:=bj [t]) ⟨[t],[],rfl,rfl,λx hx=>hw x (by simpa using hx),by rcases hd with h | h;exact .inl h;exact .inr ⟨by simpa using h,by simp[vG]⟩,by rw[gr];simpa using hz⟩ ?_;rintro n s ⟨ts,kvs,rfl,rfl,h1,h2,h3⟩;by_cases he:ts=[]
 ·subst he;exact q
 ·obtain⟨us,u,rfl⟩:=HA he;have hsu:=u.size_pos;have UQ:=k7 us;rw[cg,gr]at h3;have ee:(!((us++[u]).map Tr.pv).isEmpty)=true:=by simp
  have em:(us++[u]).map Tr.pv=us.map Tr.pv++[u.pv]:=by simp
  simp only[ga,kw,ee,if_true,bn];rw[em];simp only[OP,kw];cases u with
  | leaf x=>
   have wx:Wd x:=h1 x (by simp[Tr.az]);have c1:kvs.length < sizeLine:=Gq ∅;have cb:=h2.imp id λh=>h.2 x (by simp[Tr.az]);have ct:(if (vG kvs (.inr x))=true then (bd (!b)) else bd false)=bd false:=by
    rcases cb with h | h
    ·rw[h];split <;> rfl
    ·rw[h];rfl
   simp only[Tr.pv,aej,bx,kw,Ao,if_false,Zd wx,Bq,ga,abA,ct,aew,mo c1,bn];refine⟨bj us,by rw[cg,gr];show bj us < bj us+1;omega,us,_,rfl,rfl,λy hy=>h1 y (by simp[hy]),?_,?_⟩
   ·rcases h2 with h | ⟨h,k⟩
    ·exact .inl h
    ·right
     rw[Cw]at h;have nx:x∉us.flatMap Tr.az:=λz=>by
      have:=(DP.mp h).2.2 x z x (by simp[Tr.az]);exact this rfl
     refine⟨(DP.mp h).1,λy hy=>?_⟩;have ky:=k y (by simp[hy]);have kx:=k x (by simp[Tr.az]);have nyx:x≠y:=λz=>nx (z▸hy);unfold Nn;rw[kx];show vG (kvs++[_]) _=false;unfold vG at ky ⊢;rw[List.any_append,ky];simp[nyx]
   ·have:(Nn kvs (.inr x) (.bl true)).length<=kvs.length+1:=by
     unfold Nn
     split <;> simp
    omega
  | node c d=>
   have hsz:(Tr.node c d).size=c.size+d.size+1:=rfl;have e1:yd (us.map Tr.pv) [c.pv,d.pv]=.ret (us.map Tr.pv++[c.pv,d.pv]):=mo (bB (by simp;omega));have e2:(([c.pv,d.pv].length:Int)==2)=true:=rfl;simp only[Tr.pv,w6,e2,bx,kw,if_true,au,e1,bn];have e3:bj [c,d]=c.size+d.size:=by simp[bj]
   refine⟨bj (us++[c,d]),by rw[cg,cg,gr,e3];omega,us++[c,d],kvs,rfl,by simp,λy hy=>h1 y (by simpa[Tr.az,Cw]using hy),?_,by rw[cg,e3];omega⟩;refine h2.imp id λ⟨h,k⟩=>⟨by simpa[Tr.az,Cw]using h,λy hy=>k y (by simpa[Tr.az,Cw]using hy)⟩
def okJ(t:Tr)(ds:O Int)(j:Nat):Bool:=match en t 0 j with
 | .word _=>ds.getD j 0==0
 | .pair a b=>decide (ds.getD a 0 < ds.getD j 0)&&decide (ds.getD b 0 < ds.getD j 0)&&decide (1<=ds.getD j 0)&&decide (ds.getD j 0<=99)
def Qk(t:Tr)(ds:O Int):O Int:=(splits t).map (ds.getD · 0)
def aba(t:Tr)(ds:O Int):Bool:=decide (ds.length=t.size)&&(decide (Qk t ds).Nodup&&(Av t.size).all (okJ t ds))
def int_at(h:j < ds.length):bV (bq ds) (j:Int)=ap (.int (ds.getD j 0)):=bJ (by
 unfold bq;rw[Aj,Ad h,Ai,Ad h];rfl)
theorem adA(t:Tr)(ds:O Int)(h:ds.length=t.size):ko ((t.nd 0).map Ent.pv) (bq ds)=(Av t.size).map λj=>PV.tup [(en t 0 j).pv,.int (ds.getD j 0)]:=by
 refine BH λj=>?_;by_cases hj:j < t.size
 ·have hl:j < (ko ((t.nd 0).map Ent.pv) (bq ds)).length:=by rw[oC];simp[t.bG,h];exact hj
  obtain⟨x,y,hx,hy,e⟩:=qW (Ad hl);rw[Aj,gk t 0 j hj]at hx;have yS:=Option.some.inj hx;have č:j < ds.length:=by omega
  unfold bq at hy;rw[Aj,Ad č]at hy;have Ü:=Option.some.inj hy;rw[Ad hl,e,<- yS,<- Ü,Aj,Bs hj];show _=ap (PV.tup [_,.int (ds.getD j 0)]);rw[Ai,Ad č];rfl
 ·rw[AL (by rw[oC];simp[t.bG,h];omega),AL (by simp;omega)]
theorem split_le(t:Tr)(ds:O Int)(h:ds.length=t.size)(hz:t.size<=900):gJ (.tup ((t.nd 0).map Ent.pv)) (.tup (bq ds))=.ret (bq (Qk t ds)):=by
 unfold gJ;have c:((t.nd 0).map Ent.pv).length<=sizeLine:=bB (by rw[Ae,t.bG];omega);simp only[ga,au,pK,mo c,adA t ds h];rw[Ij (g:=λx=>match x with | .tup [.str _,_]=>bm | .tup [_,y]=>ap y | _=>bm) λx hx=>?_]
 ·congr 1;unfold Qk splits bq;generalize Av t.size=l
  induction l with
  | nil=>rfl
  | cons j l ih=>
   rw[Aq,Bf,CW,ih];cases e:en t 0 j with
   | word w=>rfl
   | pair a b=>rfl
 ·obtain⟨j,hj,rfl⟩:=Am.mp hx;cases en t 0 j with
  | word w=>simp[Ent.pv]
  | pair a b=>simp[Ent.pv]
end My
variable{x:PL.PV}{e:My.Ent}{es:O My.Ent}
namespace My
section
variable{α β:Type}
theorem WW{c:α->PV}{f:PV->W PV}{g:α->PV}:∀{l:List α},(∀x∈l,(f (c x)).le (.ret (g x)))->(a7 (l.map c) f).le (.ret (l.map g))
 | [],_=>W.le.refl _
 | x::r,h=>W.le.ret (h x (.head _)) (W.le.ret (WW λy hy=>h y (.tail _ hy)) (W.le.refl _))
theorem acO{c:α->PV}{g:α->Option PV}:∀{l:List α},(∀x∈l,(f (c x)).le (.ret (g x)))->(pN (l.map c) f).le (.ret (l.filterMap g))
 | [],_=>W.le.refl _
 | x::r,h=>W.le.ret (h x (.head _)) (W.le.ret (acO λy hy=>h y (.tail _ hy)) (W.le.of_eq (by rw[Bf];cases g x <;> rfl)))
def fg{c:α->PV}{f:PV->W PV}(g:α->PV){l:List α}(h:∀x∈l,(f (c x)).le (.ret (g x)))(q:Q (l.map g)):(a7 (l.map c) f).run Q:=WW h Q q
def W2{c:α->PV}(g:α->Option PV){l:List α}(h:∀x∈l,(f (c x)).le (.ret (g x)))(q:Q (l.filterMap g)):(pN (l.map c) f).run Q:=acO h Q q
theorem ada{p:α->Bool}{g:α->β}:∀l:List α,l.filterMap (λx=>if p x=true then ap (g x) else bm)=(l.filter p).map g
 | []=>rfl
 | x::l=>by
  rw[Bf,CW,ada l];cases p x <;> rfl
end
def L1(c:α->PV)(l:List α)(k:Nat):d7 k (l.map c)=(l.zipIdx k).map λp=>PV.tup [.int ((p.2:Nat):Int),c p.1]:=by
 induction l generalizing k with
 | nil=>rfl
 | cons a l ih=>rw[Aq,d7,ih,List.zipIdx_cons,Aq]
def vp:V->PV
 | .int i=>.int i
 | .str x=>.str x
 | .bl b=>.bl b
 | _=>.aL
def ahL(t:Tr):O PV:=(ah (t.nd 0) 0 (Au t.size V.aL)).map vp
@[simp] theorem RC(t:Tr):(ahL t).length=t.size:=by unfold ahL;rw[Ae,Pq,BF]
def RD(t:Tr)(h:j < t.size):(ahL t)[j]?=ap (vp (mM t 0 j .aL)):=by unfold ahL;rw[Aj,agp t h];rfl
def cn(t:Tr):((t.nd 0).map Ent.pv).length=t.size:=by rw[Ae,t.bG]
theorem Mm(t:Tr)(hz:t.size<=900):(jt t.pv).le (.ret (.tup (ahL t))):=λQ q=>by
 unfold jt;have c:((t.nd 0).map Ent.pv).length<=sizeLine:=bB (by rw[cn];omega);simp only[ga,bn];refine W.le.use (jq t hz) ?_;simp only[au,kw];refine NL (λ_=>.aL) (λx hx=>rfl) ?_;simp only[mo c,kw];have e0:((t.nd 0).map Ent.pv).map (λ_=>PV.aL)=(ah ((t.nd 0).take 0) 0 (Au t.size V.aL)).map vp:=by
  rw[List.take_zero,ah,List.map_replicate,En,cn];rfl
 rw[e0];refine fi (λi s=>s=(ah ((t.nd 0).take i) 0 (Au t.size V.aL)).map vp) rfl (λi x s hx hs=>?_) (λs hs=>?_)
 ·subst hs;have hi:i < t.size:=by have:=(Al.mp hx).1;rw[dc,cn]at this;exact this
  obtain⟨y,hy,rfl⟩:=iZ hx;have e:=gk t 0 i hi;rw[Aj,e]at hy;have hy:=Option.some.inj hy;subst hy;have et:(t.nd 0).take (i+1)=(t.nd 0).take i++[en t 0 i]:=by rw[DL,e];rfl
  have ea:ah ((t.nd 0).take (i+1)) 0 (Au t.size V.aL)=YQ (ah ((t.nd 0).take i) 0 (Au t.size V.aL)) (0+i) (en t 0 i):=by
   rw[et,JJ,Dq,t.bG];congr 1;omega
  have hal:(ah ((t.nd 0).take i) 0 (Au t.size V.aL)).length=t.size:=by rw[Pq,BF]
  rw[ea];generalize hA:ah ((t.nd 0).take i) 0 (Au t.size V.aL)=A at hal ⊢;unfold dC;cases Ż:en t 0 i with
  | word w=>simp[Ent.pv,bH,YQ]
  | pair a b=>
   obtain⟨ha,hb⟩:=fF t hi Ż;have s1:gs (A.map vp) (.int (a:Int)) (.int ((0+i:Nat):Int))=.ret ((A.map vp).set a (.int ((0+i:Nat):Int))):=lN (by rw[Ae];omega);have s2:gs ((A.map vp).set a (.int ((0+i:Nat):Int))) (.int (b:Int)) (.int ((0+i:Nat):Int))=.ret (((A.map vp).set a (.int ((0+i:Nat):Int))).set b (.int ((0+i:Nat):Int))):=lN (by rw[B3,Ae];omega);simp only[Ent.pv,ib,kw,gP,kg,bx,bn,Ao,if_false,au,bH,ga,s1,s2];show _=Gf vp ((A.set a _).set b _);rw[Fo,Fo];rfl
 ·subst hs;simp only[dc,Ae];rw[D4];exact q
def NC(e:Ent)(j:Nat):PV:=match e with | .word x=>.str x | .pair _ _=>.int (j:Int)
def MD(t:Tr)(ds:O Int)(b:Int)(j:Nat):Bool:=decide (ds.getD j 0<=b)&&(match mM t 0 j .aL with | .int a=>decide (b < ds.getD a.toNat 0) | _=>true)
def Ko(t:Tr)(ds:O Int)(b:Int)(n j:Nat):O (Nat×Nat):=((Av j).filter (MD t ds b)).map λk=>(k,n)
def aK(t:Tr)(ds bs:O Int):Nat->O (Nat×Nat)
 | 0=>[]
 | i+1=>aK t ds bs i++Ko t ds (bs.getD i 0) i t.size
def UL(l:O (Nat×Nat)):O PV:=l.map λp=>.tup [.int (p.1:Int),.int (p.2:Int)]
def Hv(t:Tr)(ds:O Int)(b:Int)(n j:Nat):(Ko t ds b n j).length<=j:=by
 unfold Ko;rw[Ae];refine AW (BG _ _) ?_;rw[Cb];exact An _
theorem jh(t:Tr)(ds bs:O Int):∀i,(aK t ds bs i).length<=i*t.size
 | 0=>A3 _
 | i+1=>by
  rw[aK,Ah];have h1:=jh t ds bs i;have h2:=Hv t ds (bs.getD i 0) i t.size;rw[Ew];omega
def VB(t:Tr)(ds:O Int)(b:Int)(n j:Nat):Ko t ds b n (j+1)=Ko t ds b n j++(if MD t ds b j then [(j,n)] else []):=by
 unfold Ko;rw[Ek,EO,Az];congr 1;by_cases c:MD t ds b j <;> simp[c]
def xI(p:Nat×Nat):O Key:=[.inl (p.1:Int),.inl (p.2:Int)]
theorem Lk{p q:Nat×Nat}(h:xI p=xI q):p=q:=by
 obtain⟨a,b⟩:=p;obtain⟨c,d⟩:=q;simp[xI]at h;obtain⟨h1,h2⟩:=h;exact Prod.ext (by show a=c;omega) (by show b=d;omega)
def qu:Nat->O (Nat×Nat)->O (O Key×PV)
 | _,[]=>[]
 | k,p::l=>(xI p,.int (k:Int))::qu (k+1) l
theorem oT:∀(k:Nat) (l:O (Nat×Nat)),(qu k l).map (·.1)=l.map xI
 | _,[]=>rfl
 | k,p::l=>by rw[qu,Aq,Aq,oT (k+1) l]
def KQ(k:Nat)(l:O (Nat×Nat)):(qu k l).length=l.length:=by have:=congrArg BM (oT k l);simpa using this
theorem xf:∀(k:Nat) (l:O (Nat×Nat)) (p:Nat×Nat),p∈l->du (qu k l) (xI p)=ap (.int ((k+l.idxOf p:Nat):Int))
 | k,q::l,p,h=>by
  rw[List.idxOf_cons];by_cases c:q=p
  ·subst c;simp[qu,du]
  ·have hp:p∈l:=(AA.mp h).elim (λz=>absurd z.symm c) id;have ih:=xf (k+1) l p hp;have c2:xI q≠xI p:=λz=>c (Lk z);have c3:(q==p)=false:=by simpa using c
   have e:du (qu k (q::l)) (xI p)=du (qu (k+1) l) (xI p):=by simp[qu,du,c2]
   rw[e,ih,c3];congr 2;show((k+1+l.idxOf p:Nat):Int)=((k+(l.idxOf p+1):Nat):Int);omega
def Mj(e:Ent)(j:Nat)(d b:Int):O Nat:=if d < b then [j] else match e with | .word _=>[] | .pair x y=>[x,y]
def bsd(l:O (Nat×Nat))(j n:Nat):O Nat:=(l.filter λp=>decide (p.2=n)&&!decide (p.1=j)).map λp=>l.idxOf p
def Rn(e:Ent)(l:O (Nat×Nat))(j n:Nat)(d b:Int):PV:=.tup [NC e j,.int (n:Int),.tup (ay ((Mj e j d b).map λx=>l.idxOf (x,n-1))),.tup (ay (bsd l j n))]
def QJ{f:α->β}(hf:∀x y,f x=f y->x=y){l:List α}(h:l.Nodup):(l.map f).Nodup:=List.Pairwise.map f (λa b n z=>n (hf a b z)) h
def RU(t:Tr)(ds:O Int)(b:Int)(n j:Nat):(Ko t ds b n j).Nodup:=by
 exact QJ (λx y h=>(Prod.mk.inj h).1) (List.Pairwise.filter _ List.nodup_range)
theorem gq{t:Tr}{ds bs:O Int}:∀{i:Nat}{p:Nat×Nat},p∈aK t ds bs i->p.2 < i/\p.1 < t.size
 | 0,_,h=>by simp[aK]at h
 | i+1,p,h=>by
  rw[aK]at h;rcases AJ.mp h with h | h
  ·have:=gq h;omega
  ·obtain⟨k,hk,rfl⟩:=Am.mp h;have:=AG.mp (Bm.mp hk).1;exact⟨D3 _,this⟩
theorem iu(t:Tr)(ds bs:O Int):∀i,(aK t ds bs i).Nodup
 | 0=>EL
 | i+1=>by
  rw[aK];refine DP.mpr ⟨iu t ds bs i,RU _ _ _ _ _,λa ha b hb z=>?_⟩;subst z;have h1:=(gq ha).1;obtain⟨k,_,rfl⟩:=Am.mp hb;exact Ba _ h1
def nQ(h:l[k]?=ap v):ixW l (.int (k:Int))=.ret v:=by
 rw[ba,bJ h];rfl
def L3(ds:O Int)(h:(d7 0 (bq ds))[i]?=ap x):i < ds.length/\x=.tup [.int (i:Int),.int (ds.getD i 0)]:=by
 have hi:i < ds.length:=by have:=(Al.mp h).1;rw[dc,g9]at this;exact this
 obtain⟨y,hy,rfl⟩:=iZ h;unfold bq at hy;rw[Aj,Ad hi]at hy;have hy:=Option.some.inj hy;subst hy;refine⟨hi,?_⟩;rw[AD,Ai,Ad hi];rfl
theorem Kl(t:Tr)(ds bs:O Int)(hd:ds.length=t.size)(hz:t.size<=100)(hb:bs.length*t.size<=900)(hb2:bs.length<=900):(lV t.pv (.tup (bq ds)) (.cl (bq bs))).le (.ret (UL (aK t ds bs bs.length))):=λQ q=>by
 unfold lV;have c1:(bq bs).length<=sizeLine:=bB (by rw[g9];omega);have c2:(bq ds).length<=sizeLine:=bB (by rw[g9];omega);simp only[ga,bn];refine W.le.use (Mm t ∅) ?_;simp only[bX,kw,mo c1];refine fi (λi s=>s=UL (aK t ds bs i)) rfl (λi x s hx hs=>?_) (λs hs=>?_)
 ·subst hs;obtain⟨hi,rfl⟩:=L3 bs hx;simp only[ib,kw,bn,au,mo c2];have hl:=jh t ds bs i;have hm:i*t.size+t.size<=900:=by
   have:(i+1)*t.size<=bs.length*t.size:=CM _ hi;rw[Ew]at this;omega
  refine fi (λj s=>s=UL (aK t ds bs i++Ko t ds (bs.getD i 0) i j)) (by simp[Ko]) (λj x s hx hs=>?_) (λs hs=>?_)
  ·subst hs;obtain⟨hj,rfl⟩:=L3 ds hx;have UQ:=Hv t ds (bs.getD i 0) i j;simp only[ib,kw,bn];rw[VB];have Q8:j < t.size:=by omega
   have Œ:MD t ds (bs.getD i 0) j=true->(eV (UL (aK t ds bs i++Ko t ds (bs.getD i 0) i j)) (PV.tup [.int (j:Int),.int (i:Int)])).run λs=>s=UL (aK t ds bs i++(Ko t ds (bs.getD i 0) i j++if MD t ds (bs.getD i 0) j=true then [(j,i)] else [])):=λc=>by
    rw[cX (by unfold UL;rw[Ae,Ah];omega),if_pos c];unfold UL;rw[<- AH,Az (l₂:=[(j,i)])];rfl
   have no:MD t ds (bs.getD i 0) j=false->UL (aK t ds bs i++Ko t ds (bs.getD i 0) i j)=UL (aK t ds bs i++(Ko t ds (bs.getD i 0) i j++if MD t ds (bs.getD i 0) j=true then [(j,i)] else [])):=λc=>by rw[c];simp
   generalize eb:bs.getD i 0=b at Œ no ⊢;generalize ed:ds.getD j 0=d at *;simp only[ga,bn,Ya,kw,bg,au,nQ (RD t Q8)];by_cases c:d<=b
   ·simp only[c,decide_true,if_true,bn,kw];rcases wL t 0 j .aL [] Q8 with⟨_,e,_⟩ | ⟨a,_,ha,e,_⟩
    ·have sb:MD t ds b j=true:=by unfold MD;rw[e,ed];simp[c]
     rw[e];simp only[vp,qG,kw,bg,PV.f9,if_true];exact Œ sb
    ·rw[AD]at e;have sb:MD t ds b j=decide (b < ds.getD a 0):=by unfold MD;rw[e,ed];simp[c]
     rw[e];have i2:bV (bq ds) (a:Int)=ap (.int (ds.getD a 0)):=int_at ∅;simp only[vp,qG,kw,bg,PV.f9,Ao,if_false,ba,i2,sw,LZ,ga];by_cases c2:b < ds.getD a 0
     ·rw[decide_eq_true c2]at sb ⊢;exact Œ sb
     ·rw[decide_eq_false c2]at sb ⊢;exact no sb
   ·have sb:MD t ds b j=false:=by unfold MD;rw[ed];simp[c]
    simp only[c,decide_false,Ao,if_false,kw];exact no sb
  ·subst hs;rw[dc,g9,hd];rfl
 ·subst hs;rw[dc,g9];exact q
def aaB{l:O (Nat×Nat)}(h:l≠[])(k:Nat):qu k l≠[]:=by cases l with | nil=>exact absurd rfl h | cons a l=>simp[qu]
def Nz(k:Nat)(l:O (Nat×Nat)):((qu k l).map λkv=>PV.tup (kv.1.map kP))=l.map λp=>PV.tup [.int (p.1:Int),.int (p.2:Int)]:=by
 have:=congrArg (Gf λx:O Key=>PV.tup (x.map kP)) (oT k l);rw[Ay,Ay]at this;exact this
theorem Zx{bs:O Int}{l:O (Nat×Nat)}(h1:es[j]?=ap e)(h2:j < ds.length)(h3:n < bs.length)(hl:l.length<=1000)(h0:l≠[])
  (hb:∀x∈Mj e j (ds.getD j 0) (bs.getD n 0),1<=n/\(x,n-1)∈l) :
  (oV (.tup (es.map Ent.pv)) (.tup (bq ds)) (.cl (bq bs)) (Yr (qu 0 l)) (.tup [.int (j:Int),.int (n:Int)])).le (.ret (Rn e l j n (ds.getD j 0) (bs.getD n 0))):=λQ q=>by
 unfold oV;have i0:bV [PV.int (j:Int),PV.int (n:Int)] 0=ap (.int j):=rfl;have i1:bV [PV.int (j:Int),PV.int (n:Int)] 1=ap (.int n):=rfl;have i2:bV (bq ds) (j:Int)=ap (.int (ds.getD j 0)):=int_at h2;have i3:bV (bq bs) (n:Int)=ap (.int (bs.getD n 0)):=int_at h3;have i4:bV (es.map Ent.pv) (j:Int)=ap e.pv:=bJ (by rw[Aj,h1];rfl);simp only[ga,bn,au,bX,ba,i0,i1,i2,i3,i4,sw,kw,LZ,bx];generalize hdj:ds.getD j 0=d at *;generalize hbn:bs.getD n 0=b at *;have below:∀{R:PV->Prop},R (.tup (ay (Mj e j d b)))->(if decide (d < b)=true then bd (PV.tup [PV.int (j:Int)]) else dC e.pv).run R:=λ{R} r=>by
  unfold Mj at r;unfold dC;by_cases c:d < b
  ·rw[if_pos c]at r;simpa[c]using r
  ·cases e with
   | word w=>simpa[c,Ent.pv]using r
   | pair a b=>simpa[c,Ent.pv]using r
 refine below ?_;refine fg (λx=>.int ((l.idxOf (x,n-1):Nat):Int)) (λk hk=>?_) ?_
 ·obtain⟨g1,g2⟩:=hb k hk;intro R r;have en1:(n:Int)-1=((n-1:Nat):Int):=by omega
  simp only[dgB,ga,bn,ur,kw,en1];rw[show PV.tup [.int (k:Int),.int ((n-1:Nat):Int)]=.tup ((xI (k,n-1)).map kP) from rfl];refine Ro (xf 0 l (k,n-1) g2) ?_;rw[AD];exact r
 simp only[bn,ye,kw];refine SN (aaB h0 0) (by rw[KQ];exact hl) ?_;rw[Nz];refine W2 (λp=>if (decide (p.2=n)&&!decide (p.1=j))=true then ap (.int ((l.idxOf p:Nat):Int)) else bm) (λp hp=>?_) ?_
 ·intro R r;obtain⟨u,v⟩:=p;have j0:bV [PV.int (u:Int),PV.int (v:Int)] 0=ap (.int u):=rfl;have j1:bV [PV.int (u:Int),PV.int (v:Int)] 1=ap (.int v):=rfl;simp only[dgB,ga,bn,au,ba,j0,j1,sw,kw,eR,X8,bg];have get:∀{R:PV->Prop},R (.int ((l.idxOf (u,v):Nat):Int))->(dgW (Yr (qu 0 l)) (PV.tup [.int (u:Int),.int (v:Int)])).run R:=λ{R} r=>by
   refine Ro (xf 0 l (u,v) hp) ?_;rw[AD];exact r
  by_cases c1:v=n
  ·subst c1;by_cases c2:u=j
   ·subst c2;simp only[beq_self_eq_true,Bq,if_true,kw,Ao,if_false];simpa using r
   ·have c3:((u:Int)==(j:Int))=false:=by simp;omega
    simp only[beq_self_eq_true,c3,DQ,if_true,kw,bn];refine get ?_;simpa[c2]using r
  ·have c3:((v:Int)==(n:Int))=false:=by simp;omega
   simp only[c3,Ao,if_false,kw];simpa[c1]using r
 rw[ada];have nm:∀{R:PV->Prop},R (NC e j)->(gz (.tup (es.map Ent.pv)) (.int (j:Int))).run R:=λ{R} r=>by
  unfold gz;simp only[ga,bn,au,ba,i4,sw,kw];cases e with
  | word w=>simpa[Ent.pv,NC]using r
  | pair a b=>simpa[Ent.pv,NC]using r
 refine nm ?_;have e1:(l.filter λp=>decide (p.2=n)&&!decide (p.1=j)).map (λp=>PV.int ((l.idxOf p:Nat):Int))=ay (bsd l j n):=by
  unfold ay bsd;rw[Ay];rfl
 have e2:(Mj e j d b).map (λx=>PV.int ((l.idxOf (x,n-1):Nat):Int))=ay ((Mj e j d b).map λx=>l.idxOf (x,n-1)):=by
  unfold ay;rw[Ay];rfl
 rw[e1,e2];exact q
def dgL(t:Tr)(ds bs:O Int):O PV:=(aK t ds bs bs.length).map λp=>Rn (en t 0 p.1) (aK t ds bs bs.length) p.1 p.2 (ds.getD p.1 0) (bs.getD p.2 0)
def okD(t:Tr)(ds bs:O Int):Prop:=∀p∈aK t ds bs bs.length,∀x∈Mj (en t 0 p.1) p.1 (ds.getD p.1 0) (bs.getD p.2 0),1<=p.2/\(x,p.2-1)∈aK t ds bs bs.length
theorem xg:∀(k:Nat) (l:O (Nat×Nat)),(l.zipIdx k).map (λp=>PV.tup [PV.tup [.int (p.1.1:Int),.int (p.1.2:Int)],.int ((p.2:Nat):Int)])=(qu k l).map QB
 | _,[]=>rfl
 | k,p::l=>by rw[List.zipIdx_cons,Aq,xg (k+1) l];rfl
def aN(t:Tr)(ds:O Int):O Int:=0::sortI (Qk t ds)
def ZE(t:Tr)(ds:O Int):(Qk t ds).length<=t.size:=by
 unfold Qk splits;rw[Ae];have:=BG (λj=>zG (en t 0 j)) (Av t.size);rw[Cb]at this;exact this
def GB{x:Int}{l:O Int}:x∈sortI l↔x∈l:=(Du l _).mem_iff
def tI(l:O Int):(sortI l).length=l.length:=(Du l _).length_eq
theorem Yx(t:Tr)(ds:O Int)(hd:ds.length=t.size)(hz:t.size<=25)(h0:aK t ds (aN t ds) (aN t ds).length≠[])(ok:okD t ds (aN t ds)):(o7 t.pv (.tup (bq ds))).le (.ret (.tup (dgL t ds (aN t ds)))):=λQ q=>by
 unfold o7;simp only[ga,bn];refine W.le.use (jq t ∅) ?_;have hs:=ZE t ds;have hl:(aN t ds).length<=t.size+1:=by unfold aN;rw[Ap,tI];omega
 have e2:Hx (bq (Qk t ds))=.ret (bq (sortI (Qk t ds))):=by
  unfold Hx bq;rw[dG];show W.fK _ _=_;rw[mo ∅]
 have e3:jT [PV.int 0] (bq (sortI (Qk t ds)))=.ret (bq (aN t ds)):=by
  rw[eU (by rw[g9,tI];simp;omega)];rfl
 simp only[split_le t ds hd ∅,kw,e2,e3];have hb:(aN t ds).length*t.size<=900:=by
  have:(aN t ds).length*t.size<=26*25:=EI ∅ hz;omega
 refine W.le.use (Kl t ds (aN t ds) hd ∅ hb ∅) ?_;generalize hL:aK t ds (aN t ds) (aN t ds).length=L at *;have hLl:L.length<=900:=by rw[<- hL];exact AW (jh _ _ _ _) hb
 have hLm:∀p∈L,p.2 < (aN t ds).length/\p.1 < t.size:=λp hp=>gq (hL▸hp);have c:(UL L).length<=sizeLine:=bB (by unfold UL;rw[Ae];omega);simp only[bX,kw,mo c,ga];unfold UL;rw[L1];refine fg (λp:(Nat×Nat)×Nat=>PV.tup [PV.tup [.int (p.1.1:Int),.int (p.1.2:Int)],.int ((p.2:Nat):Int)]) (λp _ R r=>by simpa using r) ?_;rw[xg];refine T5 ?_ (by rw[KQ];omega) ?_
 ·rw[oT];exact QJ (λ_ _ h=>Lk h) (hL▸iu t ds _ _)
 refine fg (λp:Nat×Nat=>Rn (en t 0 p.1) L p.1 p.2 (ds.getD p.1 0) ((aN t ds).getD p.2 0)) (λp hp=>?_) ?_
 ·obtain⟨g1,g2⟩:=hLm p hp;refine Zx (gk t 0 p.1 g2) ∅ g1 ∅ h0 λx hx=>?_;have:=ok p (by rw[hL];exact hp) x hx;rw[hL]at this;exact this
 ·have:dgL t ds (aN t ds)=L.map λp:Nat×Nat=>Rn (en t 0 p.1) L p.1 p.2 (ds.getD p.1 0) ((aN t ds).getD p.2 0):=by unfold dgL;rw[hL]
  rw[<- this];exact q
theorem jM:∀(t:Tr) (o x:Nat) (p:V),x < t.size->(x=t.size-1/\mM t o x p=p)\/∃a u v,x < a/\a < t.size/\mM t o x p=.int ((o+a:Nat):Int)/\en t o a=.pair u v/\(u=o+x\/v=o+x)
 | .leaf _,o,x,p,h=>.inl ⟨by have:x < 1:=h;show x=0;omega,rfl⟩
 | .node l r,o,x,p,h=>by
  have es:(Tr.node l r).size=l.size+r.size+1:=rfl;have top:en (.node l r) o (l.size+r.size)=.pair (o+l.size-1) (o+l.size+r.size-1):=by rw[en,if_neg ∅,if_neg ∅]
  by_cases c1:x < l.size
  ·rw[show mM (.node l r) o x p=mM l o x (.int (o+l.size+r.size:Nat)) by rw[mM,if_pos c1]];rcases jM l o x (.int (o+l.size+r.size:Nat)) c1 with⟨h1,h2⟩ | ⟨a,u,v,h1,h2,h3,h4,h5⟩
   ·exact .inr ⟨l.size+r.size,_,_,by omega,by omega,by rw[h2,Bk],top,.inl ∅⟩
   ·exact .inr ⟨a,u,v,h1,by omega,h3,by rw[en,if_pos h2];exact h4,h5⟩
  ·by_cases c2:x < l.size+r.size
   ·rw[show mM (.node l r) o x p=mM r (o+l.size) (x-l.size) (.int (o+l.size+r.size:Nat)) by rw[mM,if_neg c1,if_pos c2]];rcases jM r (o+l.size) (x-l.size) (.int (o+l.size+r.size:Nat)) ∅ with⟨h1,h2⟩ | ⟨a,u,v,h1,h2,h3,h4,h5⟩
    ·exact .inr ⟨l.size+r.size,_,_,by omega,by omega,by rw[h2,Bk],top,.inr ∅⟩
    ·refine .inr ⟨l.size+a,u,v,by omega,by omega,by rw[h3,Bk],?_,by omega⟩;rw[en,if_neg ∅,if_pos ∅,DB];exact h4
   ·exact .inl ⟨by omega,by rw[mM,if_neg c1,if_neg c2]⟩
theorem nY:∀(t:Tr) (o j:Nat) (p:V) (a b:Nat),j < t.size->en t o j=.pair a b->o<=a/\o<=b/\a < o+j/\b < o+j/\a < b/\mM t o (a-o) p=.int ((o+j:Nat):Int)/\mM t o (b-o) p=.int ((o+j:Nat):Int)
 | .leaf _,o,j,p,a,b,h,e=>by rw[en]at e;cases e
 | .node l r,o,j,p,a,b,h,e=>by
  have es:(Tr.node l r).size=l.size+r.size+1:=rfl;have lp:=l.size_pos;have rp:=r.size_pos;by_cases c1:j < l.size
  ·rw[en,if_pos c1]at e;obtain⟨h1,h2,h3,h4,h5,h6,h7⟩:=nY l o j (.int (o+l.size+r.size:Nat)) a b c1 e;refine⟨h1,h2,h3,h4,h5,?_,?_⟩
   ·rw[mM,if_pos ∅];exact h6
   ·rw[mM,if_pos ∅];exact h7
  ·by_cases c2:j < l.size+r.size
   ·rw[en,if_neg c1,if_pos c2]at e;obtain⟨h1,h2,h3,h4,h5,h6,h7⟩:=nY r (o+l.size) (j-l.size) (.int (o+l.size+r.size:Nat)) a b ∅ e;refine⟨by omega,by omega,by omega,by omega,h5,?_,?_⟩
    ·rw[mM,if_neg ∅,if_pos ∅,FN,h6,show o+l.size+(j-l.size)=o+j by omega]
    ·rw[mM,if_neg ∅,if_pos ∅,FN,h7,show o+l.size+(j-l.size)=o+j by omega]
   ·rw[en,if_neg c1,if_neg c2]at e;injection e with e1 e2;subst e1;subst e2;have hj:j=l.size+r.size:=by omega
    subst hj;have ę:∀(t:Tr) (o:Nat) (p:V),mM t o (t.size-1) p=p:=λt o p=>by
     have tp:=t.size_pos;rcases jM t o (t.size-1) p ∅ with⟨_,h⟩ | ⟨a,_,_,h1,h2,_⟩
     ·exact h
     ·omega
    refine⟨by omega,by omega,by omega,by omega,by omega,?_,?_⟩
    ·rw[mM,if_pos ∅,show o+l.size-1-o=l.size-1 by omega,ę,Bk]
    ·rw[mM,if_neg ∅,if_pos ∅,show o+l.size+r.size-1-o-l.size=r.size-1 by omega,ę,Bk]
structure DD(t:Tr)(ds:List Int):Prop where
 len:ds.length=t.size
 leaf:∀j w,j < t.size->en t 0 j=.word w->ds.getD j 0=0
 pair:∀j a b,j < t.size->en t 0 j=.pair a b->ds.getD a 0 < ds.getD j 0/\ds.getD b 0 < ds.getD j 0/\1<=ds.getD j 0
 nd:(Qk t ds).Nodup
def DD.of(h:aba t ds=true):DD t ds:=by
 unfold aba at h;rw[A1,A1,decide_eq_true_iff,decide_eq_true_iff]at h;obtain⟨h1,h2,h3⟩:=h;have h4:∀j,j < t.size->okJ t ds j=true:=λj hj=>Bn.mp h3 j (AG.mpr hj);refine⟨h1,λj w hj e=>?_,λj a b hj e=>?_,h2⟩
 ·have:=h4 j hj;unfold okJ at this;rw[e]at this;exact eq_of_beq this
 ·have:=h4 j hj;unfold okJ at this;rw[e]at this;rw[A1,A1,A1,decide_eq_true_iff,decide_eq_true_iff,decide_eq_true_iff,decide_eq_true_iff]at this;exact⟨this.1.1.1,this.1.1.2,this.1.2⟩
def DD.mem(D:DD t ds)(hj:j < t.size):ds.getD j 0∈aN t ds:=by
 cases e:en t 0 j with
 | word w=>rw[D.leaf j w hj e];exact .head _
 | pair a b=>
  refine A6 _ (GB.mpr ?_);exact Am.mpr ⟨j,Bm.mpr ⟨AG.mpr hj,by rw[e];rfl⟩,rfl⟩
theorem VD(l:O Int):(sortI l).Pairwise (·<=·):=(Fc (le:=λa b=>decide (a<=b)) (λa b c=>by simp;omega) (λa b=>by simp;omega) l).imp (by simp)
theorem DD.inc(D:DD t ds):(aN t ds).Pairwise (· < ·):=by
 unfold aN;refine EK.mpr ⟨λx hx=>?_,?_⟩
 ·have hx:=GB.mp hx;unfold Qk splits at hx;obtain⟨j,hj,rfl⟩:=Am.mp hx;obtain⟨h1,h2⟩:=Bm.mp hj;cases e:en t 0 j with
  | word w=>rw[e]at h2;cases h2
  | pair a b=>have:=(D.pair j a b (AG.mp h1) e).2.2;omega
 ·have nd:(sortI (Qk t ds)).Nodup:=(Du _ _).nodup_iff.mpr D.nd;exact(List.Pairwise.and (VD _) nd).imp λ⟨h1,h2⟩=>Int.lt_iff_le_and_ne.mpr ⟨h1,h2⟩
theorem xO{l:O Int}(h:l.Pairwise (· < ·))(hn:n < l.length){x:Int}(hx:x∈l)(lt:x < l.getD n 0):1<=n/\x<=l.getD (n-1) 0:=by
 obtain⟨i,hi,rfl⟩:=Es hx;have gd:∀{k} (hk:k < l.length),l.getD k 0=l[k]:=λ{k} hk=>by rw[Ai,Ad hk];rfl
 rw[gd hn]at lt;have c:i < n:=by
  rcases DK i n with c | c
  ·exact c
  ·rcases EJ c with c | c
   ·subst c;omega
   ·have:=Cj.mp h _ _ hn hi c;omega
 refine⟨by omega,?_⟩;rw[gd ∅];rcases EJ (show i<=n-1 by omega) with c2 | c2
 ·subst c2;exact Ct _
 ·have:=Cj.mp h _ _ hi ∅ c2;omega
theorem IG{l:O Int}(h:l.Pairwise (· < ·))(hn:n < l.length)(hi:i < n):l.getD i 0 < l.getD n 0:=by
 have gd:∀{k} (hk:k < l.length),l.getD k 0=l[k]:=λ{k} hk=>by rw[Ai,Ad hk];rfl
 rw[gd hn,gd ∅];exact Cj.mp h _ _ ∅ hn hi
theorem cU{t:Tr}{ds bs:O Int}:∀{m:Nat}{j n:Nat},(j,n)∈aK t ds bs m↔n < m/\j < t.size/\MD t ds (bs.getD n 0) j=true
 | 0,j,n=>by simp[aK]
 | m+1,j,n=>by
  rw[aK,AJ,cU];unfold Ko;rw[Am]
  constructor
  ·rintro (⟨h1,h2,h3⟩ | ⟨k,hk,e⟩)
   ·exact⟨by omega,h2,h3⟩
   ·obtain⟨h1,h2⟩:=Bm.mp hk;injection e with e1 e2;subst e1;subst e2;exact⟨by omega,AG.mp h1,h2⟩
  ·rintro⟨h1,h2,h3⟩;by_cases c:n=m
   ·subst c;exact .inr ⟨j,Bm.mpr ⟨AG.mpr h2,h3⟩,rfl⟩
   ·exact .inl ⟨by omega,h2,h3⟩
theorem iw{b:Int}(hj:j < t.size):MD t ds b j=true↔ds.getD j 0<=b/\∀a,mM t 0 j .aL=.int ((a:Nat):Int)->b < ds.getD a 0:=by
 unfold MD;rw[A1,decide_eq_true_iff];rcases jM t 0 j .aL hj with⟨_,e⟩ | ⟨a,u,v,_,ha,e,_,_⟩
 ·rw[e];exact⟨λh=>⟨h.1,λa z=>by cases z⟩,λh=>⟨h.1,rfl⟩⟩
 ·rw[AD]at e;rw[e];refine⟨λh=>⟨h.1,λa' z=>?_⟩,λh=>⟨h.1,?_⟩⟩
  ·injection z with z;have:a=a':=by omega
   subst this;simpa using h.2
  ·simpa using h.2 a rfl
theorem DD.ok(D:DD t ds):okD t ds (aN t ds):=by
 rintro⟨j,n⟩ hp x hx;obtain⟨hn,hj,hs⟩:=cU.mp hp;obtain⟨J1,sC⟩:=(iw hj).mp hs;have inc:=D.inc;show 1<=n/\(x,n-1)∈_;unfold Mj at hx;by_cases c:ds.getD j 0 < (aN t ds).getD n 0
 ·rw[if_pos c]at hx;have:x=j:=by simpa using hx
  subst this;obtain⟨g1,g2⟩:=xO inc hn (D.mem hj) c;have lt:=IG inc hn (show n-1 < n by omega);exact⟨g1,cU.mpr ⟨by omega,hj,(iw hj).mpr ⟨g2,λa e=>by have:=sC a e;omega⟩⟩⟩
 ·rw[if_neg c]at hx;cases e:en t 0 j with
  | word w=>rw[e]at hx;cases hx
  | pair a b=>
   rw[e]at hx;obtain⟨p1,p2,p3⟩:=D.pair j a b hj e;obtain⟨_,_,a1,a2,_,a3,a4⟩:=nY t 0 j .aL a b hj e;rw[AD,Fj]at *;have hx:x=a\/x=b:=by simpa using hx
   have key:x < t.size/\ds.getD x 0 < ds.getD j 0/\mM t 0 x .aL=.int ((j:Nat):Int):=by
    rcases hx with rfl | rfl
    ·exact⟨by omega,p1,a3⟩
    ·exact⟨by omega,p2,a4⟩
   obtain⟨k1,k2,k3⟩:=key;obtain⟨g1,g2⟩:=xO inc hn (D.mem k1) ∅;have lt:=IG inc hn (show n-1 < n by omega);refine⟨g1,cU.mpr ⟨by omega,k1,(iw k1).mpr ⟨g2,λa' e'=>?_⟩⟩⟩;rw[k3]at e';injection e' with e';have:j=a':=by omega
   subst this;omega
theorem Rm:∀(t:Tr) (o:Nat),∃w,en t o 0=.word w
 | .leaf w,o=>⟨w,rfl⟩
 | .node l r,o=>by rw[en,if_pos (show 0 < l.size from l.size_pos)];exact Rm l o
theorem DD.ne(D:DD t ds):aK t ds (aN t ds) (aN t ds).length≠[]:=by
 intro z;have:(0,0)∈aK t ds (aN t ds) (aN t ds).length:=by
  obtain⟨w,e⟩:=Rm t 0;refine cU.mpr ⟨by simp[aN],t.size_pos,(iw t.size_pos).mpr ⟨?_,λa ea=>?_⟩⟩
  ·rw[D.leaf 0 w t.size_pos e];exact Ct _
  ·rcases jM t 0 0 .aL t.size_pos with⟨_,e⟩ | ⟨a',u,v,_,ha,e,ep,_⟩
   ·rw[e]at ea;cases ea
   ·rw[e,AD]at ea;injection ea with ea;have:a'=a:=by omega
    subst this;have:=(D.pair a' u v ha ep).2.2;show(0:Int) < _;omega
 rw[z]at this;cases this
def Yw(D:DD t ds)(hz:t.size<=25):(o7 t.pv (.tup (bq ds))).le (.ret (.tup (dgL t ds (aN t ds)))):=Yx t ds D.len hz D.ne D.ok
def upL(t:Tr):O PV:=(Av t.size).map λj=>.tup (ay (up t 0 j []))
@[simp] theorem Zj(t:Tr):(upL t).length=t.size:=by unfold upL;simp
def P0(t:Tr)(h:j < t.size):(upL t)[j]?=ap (.tup (ay (up t 0 j []))):=by unfold upL;simp[h]
theorem adQ(t:Tr):∀(k j:Nat),j+k+1=t.size->(up t 0 j []).length<=k+1:=λk=>by
 induction k using Cv with
 | ind k ih=>
  intro j hj;rcases wL t 0 j .aL [] ∅ with⟨q1,q2,q3⟩ | ⟨a,q1,q2,q3,q4⟩
  ·rw[q3];show 1<=k+1;omega
  ·rw[q4,Ap];have:=ih (t.size-a-1) ∅ a ∅;omega
theorem aht(t:Tr)(h:j < t.size):(up t 0 j []).length<=t.size:=by
 have:=adQ t (t.size-j-1) j ∅;omega
def M4(t:Tr)(i:Nat):O PV:=(Av t.size).map λj=>if j+i < t.size then .tup [] else .tup (ay (up t 0 j []))
def vR(t:Tr)(i:Nat):(M4 t i).length=t.size:=by unfold M4;simp
def PZ(t:Tr)(i:Nat)(h:j < t.size)(c:¬j+i < t.size):(M4 t i)[j]?=ap (.tup (ay (up t 0 j []))):=by unfold M4;simp[h,c]
theorem Zh(t:Tr)(i j:Nat)(h:j+i+1=t.size):(M4 t i).set j (.tup (ay (up t 0 j [])))=M4 t (i+1):=by
 apply BH;intro k;by_cases hk:k < t.size
 ·by_cases e:j=k
  ·subst e;rw[BR (by rw[vR];exact hk),PZ t (i+1) hk ∅]
  ·rw[Bx e];unfold M4;simp only[Aj,Bs hk,CG];by_cases c:k+i < t.size
   ·rw[if_pos c,if_pos ∅]
   ·rw[if_neg c,if_neg ∅]
 ·rw[AL (by rw[B3,vR];omega),AL (by rw[vR];omega)]
def ahu(t:Tr):M4 t 0=Au t.size (.tup []):=by
 apply BH;intro k;unfold M4;by_cases hk:k < t.size
 ·simp[hk]
 ·simp[hk]
theorem Zi(t:Tr):M4 t t.size=upL t:=by
 apply A9;intro j _;rw[if_neg ∅]
theorem W0(t:Tr)(hz:t.size<=900):(lX t.pv).le (.ret (upL t)):=λQ q=>by
 unfold lX;simp only[ga,bn];refine W.le.use (Mm t hz) ?_;simp only[au,kw];refine NL (λ_=>.tup []) (λx hx=>rfl) ?_;have e0:(ahL t).map (λ_=>PV.tup [])=M4 t 0:=by rw[En,RC,ahu]
 have en:(((t.size:Nat):Int)-1 - -1).toNat=t.size:=by omega
 rw[e0];simp only[cE,RC,ga,ur,kw,jI,Rh,en];refine⟨⟨trivial,bf ∅ ∅⟩,?_⟩;show(bH _ _ _).run _;refine fi (λi s=>s=M4 t i) rfl (λi x s hx hs=>?_) (λs hs=>?_)
 ·subst hs;obtain⟨hi,rfl⟩:=uy hx;obtain⟨j,hj⟩:∃j:Nat,j=t.size-1-i:=⟨_,rfl⟩;have ej:(((t.size:Nat):Int)-1-(i:Int))=(j:Int):=by omega
  rw[ej];have Q8:j < t.size:=by omega
  have fin:∀l:O PV,l.length<=900->.int (j:Int)::l=ay (up t 0 j [])->(am (addW (.tup [.int (j:Int)]) (.tup l)) λx=>gs (M4 t i) (.int (j:Int)) x).run λs=>s=M4 t (i+1):=λl hl he=>by
   rw[Rk,mo (bB (by simp;omega))];show(gs _ _ (.tup (.int (j:Int)::l))).run _;rw[he,lN (by rw[vR];exact Q8),Zh t i j ∅];rfl
  simp only[ga,bn,nQ (RD t Q8),kw];rcases wL t 0 j .aL [] Q8 with⟨_,e,e2⟩ | ⟨a,ha1,ha,e,e2⟩
  ·rw[e];simp only[vp,qG,PV.f9,bg,kw,if_true];have:=fin [] (by simp) (by rw[e2,AD];rfl);simpa using this
  ·rw[AD]at e;rw[e];have i2:ixW (M4 t i) (.int (a:Int))=.ret (.tup (ay (up t 0 a []))):=nQ (PZ t i ha ∅);simp only[vp,qG,PV.f9,bg,kw,Ao,if_false,i2,ga];have ua:=aht t ha;have:=fin (ay (up t 0 a [])) (by rw[bo];omega) (by rw[e2];simp);simpa using this
 ·subst hs;have el:(qe (((t.size:Nat):Int)-1) t.size).length=t.size:=by unfold qe;simp
  rw[el,Zi];exact q
def apt(t:Tr)(j:Nat):O Nat:=(Av t.size).filter λk=>!decide (k∈up t 0 j [])&&!decide (j∈up t 0 k [])
theorem YM(t:Tr)(hz:t.size<=900)(hj:j < t.size):(iB (.cl (upL t)) (.int (j:Int))).le (.ret (.tup (ay (apt t j)))):=λQ q=>by
 unfold iB;simp only[ga,bn,gN,Zj,cQ,mo (bf (i:=0) (j:=(t.size:Int)) ∅ ∅),kw,A5,lh];refine W3 (λk=>!decide (k∈up t 0 j [])&&!decide (j∈up t 0 k [])) (λk hk=>?_) q;have hk:=AG.mp hk;simp only[ga,bX,nQ (P0 t hj),nQ (P0 t hk),au,Oj,if_true];by_cases c1:k∈up t 0 j []
 ·simp[c1]
 ·by_cases c2:j∈up t 0 k []
  ·simp[c1,c2]
  ·simp[c1,c2]
def Q3:Ent->O Nat
 | .word _=>[]
 | .pair a b=>[a,b]
def pw(e:Ent):dC e.pv=.ret (.tup (ay (Q3 e))):=by
 unfold dC;cases e with
 | word w=>simp[Ent.pv,Q3]
 | pair a b=>simp[Ent.pv,Q3]
def aaC(h:es[j]?=ap e):gz (.tup (es.map Ent.pv)) (.int (j:Int))=.ret (NC e j):=by
 have i1:ixW (es.map Ent.pv) (.int (j:Int))=.ret e.pv:=nQ (by rw[Aj,h];rfl);unfold gz;cases e with
 | word w=>simp only[ga,au,i1];rfl
 | pair a b=>simp only[ga,au,i1];rfl
def grS(t:Tr)(j:Nat):PV:=.tup [NC (en t 0 j) j,.int 0,.tup (ay (Q3 (en t 0 j))),.tup (ay (apt t j))]
def grL(t:Tr):O PV:=(Av t.size).map (grS t)
theorem Th(t:Tr)(hz:t.size<=900):(nH t.pv).le (.ret (.tup (grL t))):=λQ q=>by
 unfold nH;simp only[ga,bn];refine W.le.use (jq t hz) ?_;refine W.le.use (W0 t hz) ?_;simp only[cE,cn,kw,cQ,mo (bf (i:=0) (j:=(t.size:Int)) ∅ ∅),A5,lh];unfold ay;refine fg (grS t) (λj hj R r=>?_) q;have hj:=AG.mp hj;have i1:ixW ((t.nd 0).map Ent.pv) (.int (j:Int))=.ret (en t 0 j).pv:=nQ (by rw[Aj,gk t 0 j hj];rfl);simp only[aaC (gk t 0 j hj),ga,au,i1,pw,bn,kw];exact W.le.use (YM t hz hj) r
end My
variable{ws:O Cu}
namespace My
structure Sy where
 nm:PV
 lv:Nat
 un:List Nat
 be:List Nat
def Sy.pv(s:Sy):PV:=.tup [s.nm,.int (s.lv:Int),.tup (ay s.un),.tup (ay s.be)]
def fx(g:O Sy):PV:=.tup (g.map Sy.pv)
def sy(g:O Sy)(i:Nat):Sy:=g.getD i ⟨.aL,0,[],[]⟩
def ad4{g:O Sy}(h:i < g.length):g[i]?=ap (sy g i):=by
 unfold sy;rw[Ai,Ad h];rfl
def OD{g:O Sy}(h:i < g.length):ixW (g.map Sy.pv) (.int (i:Int))=.ret (sy g i).pv:=nQ (by rw[Aj,ad4 h];rfl)
def zF(w:Str):PV->Bool
 | .str s=>s==w
 | _=>false
def hm(g:O Sy)(i:Nat)(w:Str):Bool:=(sy g i).un.isEmpty&&zF w (sy g i).nm
inductive UU(g:List Sy):Nat->Nat->Prop
 | refl (i:Nat):UU g i i
 | step {i u j:Nat}:u∈(sy g i).un->UU g u j->UU g i j
structure WG(g:List Sy)(ws:List Str):Prop where
 pos:0 < g.length
 len:g.length<=300
 dn:∀i,i < g.length->∀u∈(sy g i).un,u < i
 m9:∀i,i < g.length->(sy g i).un.length<=2
 be:∀i,i < g.length->∀u∈(sy g i).be,u < g.length
 ab3:∀i,i < g.length->(sy g i).be.length<=30
 nm:∀i,i < g.length->(∃s,(sy g i).nm=.str s)\/∃n,(sy g i).nm=.int n
 anz:∀w∈ws,∃i,i < g.length/\UU g (g.length-1) i/\hm g i w=true
 rch:∀i,i < g.length->UU g (g.length-1) i
def jb{g:O Sy}(h:i < g.length):cW (fx g) (.int (i:Int))=.ret (.tup (ay (sy g i).un)):=by
 unfold cW fx;simp only[ga,au,OD h];rfl
def Um{g:O Sy}(h:i < g.length):kd (fx g) (.int (i:Int))=.ret (.tup (ay (sy g i).be)):=by
 unfold kd fx;simp only[ga,au,OD h];rfl
theorem eq_nil(l:O Nat)(h:l.length<=1000):of2 eZ (.tup (ay l)) (.tup [])=.ret (.bl l.isEmpty):=by
 have fk:gE (ay l)=true:=jF.mpr λx hx=>by
  obtain⟨n,_,rfl⟩:=Am.mp hx;simp
 have fd:fe (ay l)<=1:=jG λx hx=>by
  obtain⟨n,_,rfl⟩:=Am.mp hx;simp
 rw[GW,mo ⟨by simp[fk],by simp,by simp;omega⟩];cases l with
 | nil=>simp
 | cons a l=>simp[iJ]
def Yb(h:(∃s,x=.str s)\/∃n,x=.int n)(w:Str):of2 eZ x (.str w)=.ret (.bl (zF w x)):=by
 rcases h with⟨s,rfl⟩ | ⟨n,rfl⟩
 ·rw[GW,mo ⟨by simp,by simp,by simp⟩,X3];rfl
 ·rw[GW,mo ⟨by simp,by simp,by simp⟩];simp[kS,zF]
theorem Q7{g:O Sy}(G:WG g ws)(h:i < g.length)(w:Str):o5 (fx g) (.int (i:Int)) (.str w)=.ret (.bl (hm g i w)):=by
 unfold o5;have l2:=G.m9 i h;have i0:bV [(sy g i).nm,PV.int ((sy g i).lv:Int),.tup (ay (sy g i).un),.tup (ay (sy g i).be)] 0=ap (sy g i).nm:=rfl;simp only[ga,jb h,eq_nil _ (show(sy g i).un.length<=1000 by omega)];unfold fx hm;cases e:(sy g i).un.isEmpty with
 | false=>simp
 | true=>simp only[mq,au,ga,OD h,Sy.pv,ba,i0,sw,Yb (G.nm i h) w,D8]
abbrev Dd:=Str×Nat×Nat
def d3(d:Dd):PV:=.tup [.str d.1,.int (d.2.1:Int),.int (d.2.2:Int)]
def d2(d:Dd):PV:=.tup [.str d.1,.tup [.int (d.2.1:Int),.int (d.2.2:Int)]]
abbrev dbl(i:Nat):Dd:=("doubled",i,i)
abbrev Sk(i o:Nat):O Dd:=[("over",i,o),("over",o,i)]
def wW:O Nat->O Dd
 | [a,b]=>[("split",a,b),("split",b,a)]
 | _=>[]
def dds(g:O Sy)(i:Nat):O Dd:=dbl i::(wW (sy g i).un++(sy g i).be.flatMap (Sk i))
theorem lq(i:Nat):∀l:O Nat,(l.flatMap (Sk i)).length=2*l.length
 | []=>rfl
 | a::l=>by rw[Bw,Ah,lq i l];simp;omega
def ZC(l:O Nat):(wW l).length<=2:=by unfold wW;split <;> simp
theorem af9{g:O Sy}(G:WG g ws)(h:i < g.length){d:Dd}(hd:d∈dds g i):d.2.1 < g.length/\d.2.2 < g.length:=by
 rcases AA.mp hd with rfl | hd
 ·exact⟨h,h⟩
 rcases AJ.mp hd with hd | hd
 ·have hu:=G.dn i h;revert hu hd;generalize (sy g i).un=l;intro hd hu
  match l with
  | [a,b]=>
   have h1:=hu a (by simp);have h2:=hu b (by simp);simp[wW]at hd;rcases hd with rfl | rfl
   ·exact⟨by show a < _;omega,by show b < _;omega⟩
   ·exact⟨by show b < _;omega,by show a < _;omega⟩
  | []=>simp[wW]at hd
  | [_]=>simp[wW]at hd
  | _::_::_::_=>simp[wW]at hd
 ·obtain⟨o,ho,hd⟩:=AE.mp hd;have:=G.be i h o ho;simp at hd;rcases hd with rfl | rfl
  ·exact⟨h,this⟩
  ·exact⟨this,h⟩
def fa(F:O (O Bool))(j i:Nat):Bool:=(F.getD j []).getD i false
def lD(g:O Sy)(F:O (O Bool))(e:Ent)(i:Nat):O Dd:=match e with
 | .word w=>if hm g i w=true then [("found",i,i)] else []
 | .pair a b=>(dds g i).filter λd=>fa F a d.2.1&&fa F b d.2.2
def oB(n:Nat):Ent->Prop
 | .word _=>True
 | .pair a b=>a < n/\b < n
def iX{l m:List α}{d:α}(h:i < l.length):(l++m).getD i d=l.getD i d:=by
 rw[Ai,A4 h,<- Ai]
def gD{l m:List α}{d:α}(h:l.length<=i):(l++m).getD i d=m.getD (i-l.length) d:=by
 rw[Ai,Bc h,<- Ai]
def Y5(es:O Ent)(j:Nat):Ent:=es.getD j (.word "")
end My
variable{u:Nat}{g:O My.Sy}
namespace My
def Ch(g:O Sy):O Nat->Prop
 | []=>False
 | [i]=>i < g.length
 | i::k::r=>i < g.length/\k∈(sy g i).un/\Ch g (k::r)
theorem Ch.snoc(hu:u∈(sy g i).un)(hg:u < g.length):∀{p:O Nat},Ch g (p++[i])->Ch g (p++[i]++[u])
 | [],h=>⟨h,hu,hg⟩
 | [a],h=>⟨h.1,h.2.1,h.2.2,hu,hg⟩
 | a::b::p,h=>⟨h.1,h.2.1,Ch.snoc hu hg (p:=b::p) h.2.2⟩
theorem Ch.last:∀{p:O Nat},Ch g (p++[i])->i < g.length
 | [],h=>h
 | [a],h=>h.2.2
 | a::b::p,h=>Ch.last (p:=b::p) h.2.2
theorem Ch.lt:∀{p:O Nat},Ch g p->∀x∈p,x < g.length
 | [i],h,x,hx=>by rw[AN.mp hx];exact h
 | i::k::r,h,x,hx=>by
  rcases AA.mp hx with rfl | hx
  ·exact h.1
  ·exact Ch.lt (p:=k::r) h.2.2 x hx
theorem Ch.len(G:WG g ws):∀{p:O Nat}{i:Nat},Ch g (i::p)->p.length<=i
 | [],i,_=>A3 _
 | k::r,i,h=>by
  have h1:=G.dn i h.1 k h.2.1;have h2:=Ch.len G (p:=r) (i:=k) h.2.2;rw[Ap];omega
def QS(q:O Nat)(l:Nat):bV (ay (q++[l])) (-1)=ap (.int (l:Int)):=by rw[xj];exact YL _ _
def ht:Tr->Nat->Nat
 | .leaf _,_=>0
 | .node l r,j=>if j < l.size then ht l j else if j < l.size+r.size then ht r (j-l.size) else (Tr.node l r).depth
theorem Q6(t:Tr):ht t (t.size-1)=t.depth:=by
 cases t with
 | leaf _=>rfl
 | node l r=>
  have es:(Tr.node l r).size=l.size+r.size+1:=rfl;rw[ht,if_neg ∅,if_neg ∅]
theorem ac1:∀(t:Tr) (o j a b:Nat),j < t.size->en t o j=.pair a b->ht t (a-o) < ht t j/\ht t (b-o) < ht t j
 | .leaf _,o,j,a,b,h,e=>by rw[en]at e;cases e
 | .node l r,o,j,a,b,h,e=>by
  have es:(Tr.node l r).size=l.size+r.size+1:=rfl;have lp:=l.size_pos;have rp:=r.size_pos;by_cases c1:j < l.size
  ·rw[en,if_pos c1]at e;obtain⟨h1,h2,h3,h4,_⟩:=nY l o j .aL a b c1 e;have:=ac1 l o j a b c1 e;have q1:∀x,x < l.size->ht (.node l r) x=ht l x:=λx hx=>by rw[ht,if_pos hx]
   rw[q1 (a-o) ∅,q1 (b-o) ∅,q1 j c1];exact this
  ·by_cases c2:j < l.size+r.size
   ·rw[en,if_neg c1,if_pos c2]at e;obtain⟨h1,h2,h3,h4,_⟩:=nY r (o+l.size) (j-l.size) .aL a b ∅ e;have:=ac1 r (o+l.size) (j-l.size) a b ∅ e;have q1:∀x,¬x < l.size->x < l.size+r.size->ht (.node l r) x=ht r (x-l.size):=λx h1 h2=>by rw[ht,if_neg h1,if_pos h2]
    rw[q1 (a-o) ∅ ∅,q1 (b-o) ∅ ∅,q1 j c1 c2,FN,FN];exact this
   ·rw[en,if_neg c1,if_neg c2]at e;injection e with e1 e2;subst e1;subst e2;have er:(Tr.node l r).depth=max l.depth r.depth+1:=rfl;have ej:ht (.node l r) j=(Tr.node l r).depth:=by rw[ht,if_neg c1,if_neg c2]
    have e3:ht (.node l r) (o+l.size-1-o)=l.depth:=by rw[ht,if_pos ∅,show o+l.size-1-o=l.size-1 by omega,Q6]
    have e4:ht (.node l r) (o+l.size+r.size-1-o)=r.depth:=by rw[ht,if_neg ∅,if_pos ∅,show o+l.size+r.size-1-o-l.size=r.size-1 by omega,Q6]
    omega
theorem Jf:∀(t:Tr) (o j:Nat) (w:Str),j < t.size->en t o j=.word w->w∈t.az
 | .leaf x,o,j,w,h,e=>by
  rw[en]at e;injection e with e;subst e;simp[Tr.az]
 | .node l r,o,j,w,h,e=>by
  have es:(Tr.node l r).size=l.size+r.size+1:=rfl;by_cases c1:j < l.size
  ·rw[en,if_pos c1]at e;exact AZ _ (Jf l o j w c1 e)
  ·by_cases c2:j < l.size+r.size
   ·rw[en,if_neg c1,if_pos c2]at e;exact AI _ (Jf r _ (j-l.size) w ∅ e)
   ·rw[en,if_neg c1,if_neg c2]at e;cases e
inductive Wok(g:List Sy)(t:Tr):Nat->List Nat->PV->Prop
 | leaf {j:Nat}{p:List Nat}{i:Nat}{w:Str}:en t 0 j=.word w->Ch g (p++[i])->hm g i w=true->Wok g t j (p++[i]) (.tup [.tup (ay (p++[i])),.str "found"])
 | node {j:Nat}{p:List Nat}{i a b:Nat}{nm:Str}{x y:Nat}{p1 p2:List Nat}{wa wb:PV}:en t 0 j=.pair a b->Ch g (p++[i])->(nm,x,y)∈dds g i->Wok g t a (x::p1) wa->Wok g t b (y::p2) wb->Wok g t j (p++[i]) (.tup [.tup (ay (p++[i])),.str nm,wa,wb])
def mZ(t:Tr)(h:j < t.size):oB j (en t 0 j):=by
 cases e:en t 0 j with
 | word w=>trivial
 | pair a b=>exact fF t h e
end My
variable{P:Nat->O Nat}{w:Cu}{p:O Nat}
namespace My
def NOk(g:O Sy)(t:Tr)(V:Nat->PV)(P:Nat->O Nat)(j:Nat):Prop:=
 ∃q i,P j=q++[i]/\Ch g (q++[i])/\((∃w,en t 0 j=.word w/\hm g i w=true/\V j=.tup [.tup (ay (P j)),.str "found"])\/
  ∃a b nm x y r1 r2,en t 0 j=.pair a b/\(nm,x,y)∈dds g i/\P a=x::r1/\P b=y::r2/\V j=.tup [.tup (ay (P j)),.str nm,V a,V b])
def NOk.congr{V V':Nat->PV}{P':Nat->O Nat}(h:NOk g t V P j)(h0:V' j=V j/\P' j=P j)(h1:∀a b,en t 0 j=.pair a b->(V' a=V a/\P' a=P a)/\V' b=V b/\P' b=P b):NOk g t V' P' j:=by
 obtain⟨q,i,e,c,h⟩:=h;refine⟨q,i,by rw[h0.2];exact e,c,?_⟩;rcases h with⟨w,e1,e2,e3⟩ | ⟨a,b,nm,x,y,r1,r2,e1,e2,e3,e4,e5⟩
 ·exact .inl ⟨w,e1,e2,by rw[h0.1,h0.2];exact e3⟩
 ·obtain⟨⟨k1,k2⟩,k3,k4⟩:=h1 a b e1;exact .inr ⟨a,b,nm,x,y,r1,r2,e1,e2,by rw[k2];exact e3,by rw[k4];exact e4,by rw[h0.1,h0.2,k1,k3];exact e5⟩
theorem Hh:∀(s:Tr) (o:Nat),(∀k,k < s.size->en t 0 (o+k)=en s o k)->∀p w,Wok g t (o+s.size-1) p w->∃(V:Nat->PV) (P:Nat->O Nat),V (o+s.size-1)=w/\P (o+s.size-1)=p/\∀k,o<=k->k < o+s.size->NOk g t V P k
 | .leaf x,o,hs,p,w,h=>by
  have e0:en t 0 o=.word x:=hs 0 (by show 0 < 1;decide);have ei:o+(Tr.leaf x).size-1=o:=by show o+1-1=o;omega
  rw[ei]at h ⊢;cases h with
  | leaf e c hh=>exact⟨λ_=>_,λ_=>_,rfl,rfl,λk k1 k2=>by
    have:k=o:=by have:k < o+1:=k2;omega
    subst this;exact⟨_,_,rfl,c,.inl ⟨_,e,hh,rfl⟩⟩⟩
  | node e _ _ _ _=>rw[e0]at e;cases e
 | .node l r,o,hs,p,w,h=>by
  have es:(Tr.node l r).size=l.size+r.size+1:=rfl;have lp:=l.size_pos;have rp:=r.size_pos;have er:en t 0 (o+(l.size+r.size))=.pair (o+l.size-1) (o+l.size+r.size-1):=by rw[hs _ ∅,en,if_neg ∅,if_neg ∅]
  have ei:o+(Tr.node l r).size-1=o+(l.size+r.size):=by omega
  rw[ei]at h ⊢;have hl:∀k,k < l.size->en t 0 (o+k)=en l o k:=λk hk=>by rw[hs k ∅,en,if_pos hk]
  have hr:∀k,k < r.size->en t 0 (o+l.size+k)=en r (o+l.size) k:=λk hk=>by rw[Bk,hs _ ∅,en,if_neg ∅,if_pos ∅,DB]
  cases h with
  | leaf e _ _=>rw[er]at e;cases e
  | @node _ q i a b nm x y p1 p2 wa wb e c hd h1 h2=>
  rw[er]at e;injection e with ea eb;subst ea;subst eb;obtain⟨V1,P1,a1,a2,a3⟩:=Hh l o hl _ _ h1;obtain⟨V2,P2,b1,b2,b3⟩:=Hh r (o+l.size) hr _ _ h2
  let V:Nat->PV:=λk=>if k < o+l.size then V1 k else if k < o+l.size+r.size then V2 k else .tup [.tup (ay (q++[i])),.str nm,wa,wb]
  let P:Nat->O Nat:=λk=>if k < o+l.size then P1 k else if k < o+l.size+r.size then P2 k else q++[i]
  have v1:∀k,k < o+l.size->V k=V1 k/\P k=P1 k:=λk hk=>⟨if_pos hk,if_pos hk⟩;have v2:∀k,o+l.size<=k->k < o+l.size+r.size->V k=V2 k/\P k=P2 k:=λk h1 h2=>⟨(if_neg ∅).trans (if_pos h2),(if_neg ∅).trans (if_pos h2)⟩;have v3:V (o+(l.size+r.size))=.tup [.tup (ay (q++[i])),.str nm,wa,wb]/\P (o+(l.size+r.size))=q++[i]:=⟨(if_neg ∅).trans (if_neg ∅),(if_neg ∅).trans (if_neg ∅)⟩;refine⟨V,P,v3.1,v3.2,λk k1 k2=>?_⟩;by_cases c1:k < o+l.size
  ·refine(a3 k k1 c1).congr (v1 k c1) λa b ek=>?_;have:=hl (k-o) ∅;rw[show o+(k-o)=k by omega,ek]at this;obtain⟨m1,m2,m3,m4,_⟩:=nY l o (k-o) .aL a b ∅ this.symm;exact⟨v1 a ∅,v1 b ∅⟩
  ·by_cases c2:k < o+l.size+r.size
   ·refine(b3 k ∅ c2).congr (v2 k ∅ c2) λa b ek=>?_;have:=hr (k-(o+l.size)) ∅;rw[show o+l.size+(k-(o+l.size))=k by omega,ek]at this;obtain⟨m1,m2,m3,m4,_⟩:=nY r (o+l.size) (k-(o+l.size)) .aL a b ∅ this.symm;exact⟨v2 a ∅ ∅,v2 b ∅ ∅⟩
   ·have:k=o+(l.size+r.size):=by omega
    subst this;refine⟨q,i,v3.2,c,.inr ⟨_,_,nm,x,y,p1,p2,er,hd,?_,?_,?_⟩⟩
    ·rw[(v1 (o+l.size-1) ∅).2];exact a2
    ·rw[(v2 (o+l.size+r.size-1) ∅ ∅).2];exact b2
    ·rw[v3.1,v3.2,(v1 (o+l.size-1) ∅).1,(v2 (o+l.size+r.size-1) ∅ ∅).1,a1,b1]
def Pb(l:O PV)(h:a<=l.length):hV l (ap (a:Int)) bm=l.drop a:=by
 unfold hV;rw[HT.w4,HT.ZJ,Nat.min_eq_left h,DM (by simp)]
theorem Zy(h:i < g.length):oY (fx g) (.int (i:Int))=.ret (.bl true):=by
 unfold oY fx;have c1:(0:Int)<=(i:Int):=by omega
 have c2:(i:Int) < (g.length:Int):=by omega
 simp only[ga,U5,mq,Ya,cE,Ae,LZ,c1,c2,decide_true,GX]
theorem KH:∀{p:O Nat},Ch g p->(a7 (ko (ay p) (ay (p.drop 1))) λQC=>am (m9 QC) λyR=>am (am (cW (fx g) yR.1) ar) λl=>am (m8 false yR.2 l) blW).le (.ret ((Au (p.length-1) true).map PV.bl))
 | [i],h=>λQ q=>by
  have e:ko (ay [i]) (ay ([i].drop 1))=[]:=by show ko [PV.int (i:Int)] []=[];rw[ko];simp
  rw[e];exact q
 | i::k::r,h=>λQ q=>by
  show(am (am (m9 _) _) λy=>am (a7 _ _) λm=>bd (y::m)).run Q;simp only[ib,ga,jb h.1,au,Oj,h.2.1,decide_true,Ao,if_false,ajS,bn];exact W.le.use (KH (p:=k::r) h.2.2) q
def Ch.ne(h:Ch g p):1<=p.length:=by
 cases p with
 | nil=>exact h.elim
 | cons a p=>simp
theorem QA(G:WG g ws)(h:Ch g p):(o4 (fx g) (.tup (ay p))).le (.ret (.bl true)):=λQ q=>by
 have hn:=h.ne;have hl:p.length<=301:=by
  cases p with
  | nil=>simp
  | cons a p=>have:=h.len G;have:=h.lt a (.head _);have:=G.len;rw[Ap];omega
 unfold o4;have c0:((p.length:Int)==0)=false:=beq_eq_false_iff_ne.mpr ∅;simp only[ga,bn,gP,Rj,bx,kw,Bq,Ao,if_false,cE,bo,eR,bg,c0,au];refine GC (λ_=>.bl true) (λk hk=>Zy (h.lt k hk)) ?_;have e1:p.map (λ_=>PV.bl true)=(p.map λ_=>true).map PV.bl:=by rw[Ay];rfl
 have e2:(p.map λ_=>true).all id=true:=by simp
 rw[e1,iR,e2];have e3:hV (ay p) (ap 1) bm=ay (p.drop 1):=by
  have:=Pb (ay p) (a:=1) (by rw[bo];exact hn);rw[show((1:Nat):Int)=1 from rfl]at this;rw[this];unfold ay;rw[List.map_drop]
 simp only[kw,bx,Bq,Ao,if_false,fj,kJ,e3,au,bn];refine⟨bB (by rw[bo];omega),?_⟩;show(a7 _ _).run _;refine W.le.use (KH h) ?_;rw[iR];have e4:(Au (p.length-1) true).all id=true:=by simp
 rw[e4];exact q
def TB(G:WG g ws){V:Nat->PV}(h:NOk g t V P j):(ka (fx g) (en t 0 j).pv (V j)).le (.ret (.bl true)):=λQ q=>by
 obtain⟨p,i,e,c,h⟩:=h;unfold ka;rcases h with⟨w,e1,e2,e3⟩ | ⟨a,b,nm,x,y,r1,r2,e1,e2,e3,e4,e5⟩
 ·have j0:bV [PV.tup (ay (P j)),.str "found"] 0=ap (.tup (ay (P j))):=rfl;have j1:bV [PV.tup (ay (P j)),.str "found"] 1=ap (.str "found"):=rfl;rw[e1,e3];simp only[Ent.pv,ga,iK,kh,bx,if_true,w6,Ap,Bd];show(Us (.bl true) _).run Q;simp only[mq,au,ga,ba,j0,j1,sw,bn];rw[e];refine W.le.use (QA G c) ?_;simp only[mq,iK,kh];exact q
 ·have j0:bV [PV.tup (ay (P j)),.str nm,V a,V b] 0=ap (.tup (ay (P j))):=rfl;have j1:bV [PV.tup (ay (P j)),.str nm,V a,V b] 1=ap (.str nm):=rfl;rw[e1,e5];simp only[Ent.pv,ga,gP,kg,bx,Ao,if_false,w6,Ap,Bd];show(Us (.bl true) _).run Q;simp only[mq,au,ga,ba,j0,j1,sw,bn];rw[e];refine W.le.use (QA G c) ?_;exact q
def pb(t:Tr)(k m:Nat):Bool:=match mM t 0 k .aL with
 | .int a=>decide ((m:Int)<=a)
 | _=>true
def Km(t:Tr)(V:Nat->PV)(m:Nat):O PV:=(Av t.size).map λk=>if pb t k m=true then V k else .aL
@[simp] theorem Qe(t:Tr)(V:Nat->PV)(m:Nat):(Km t V m).length=t.size:=by unfold Km;simp
def vU(t:Tr)(V:Nat->PV)(m:Nat)(h:k < t.size):(Km t V m)[k]?=ap (if pb t k m=true then V k else .aL):=by unfold Km;simp[h]
def KG(h:k < t.size):(k=t.size-1/\∀m,pb t k m=true)\/∃a u v,k < a/\a < t.size/\en t 0 a=.pair u v/\(u=k\/v=k)/\∀m,pb t k m=decide (m<=a):=by
 rcases jM t 0 k .aL h with⟨h1,h2⟩ | ⟨a,u,v,h1,h2,h3,h4,h5⟩
 ·exact .inl ⟨h1,λm=>by unfold pb;rw[h2]⟩
 ·rw[AD]at h3 h5;refine .inr ⟨a,u,v,h1,h2,h4,h5,λm=>?_⟩;unfold pb;rw[h3];rw[Dy];simp
theorem RT(t:Tr)(V:Nat->PV):((Av t.size).map λ_=>PV.aL).set (t.size-1) (V (t.size-1))=Km t V t.size:=by
 apply BH;intro k;by_cases hk:k < t.size
 ·rw[vU t V _ hk];rcases KG hk with⟨h1,h2⟩ | ⟨a,u,v,h1,h2,h3,h4,h5⟩
  ·rw[h2,if_pos rfl,<- h1,BR (by simp;exact hk)]
  ·rw[h5,decide_eq_false ∅,Bx ∅];simp[hk]
 ·rw[AL (by simp;omega),AL (by simp;omega)]
theorem Vz{V:Nat->PV}(e:en t 0 j=.word w):Km t V (j+1)=Km t V j:=by
 unfold Km;refine A9 λk hk=>?_;have hk:=AG.mp hk;rcases KG hk with⟨h1,h2⟩ | ⟨a,u,v,h1,h2,h3,h4,h5⟩
 ·rw[h2,h2]
 ·have:a≠j:=λz=>by subst z;rw[h3]at e;cases e
  rw[h5,h5];have:decide (j+1<=a)=decide (j<=a):=by rw[Dy];simp;omega
  rw[this]
theorem VA{V:Nat->PV}(hj:j < t.size)(e:en t 0 j=.pair a b):((Km t V (j+1)).set a (V a)).set b (V b)=Km t V j:=by
 obtain⟨h1,h2,h3,h4,h5,h6,h7⟩:=nY t 0 j .aL a b hj e;rw[AD,Fj]at *;have pk:∀k,mM t 0 k .aL=.int ((j:Nat):Int)->pb t k j=true:=λk hk=>by unfold pb;rw[hk];simp
 apply BH;intro k;by_cases hk:k < t.size
 ·rw[vU t V j hk];by_cases cb:b=k
  ·subst cb;rw[BR (by simp;exact hk),pk b h7,if_pos rfl]
  ·rw[Bx cb];by_cases ca:a=k
   ·subst ca;rw[BR (by simp;exact hk),pk a h6,if_pos rfl]
   ·rw[Bx ca,vU t V _ hk];rcases KG hk with⟨k1,k2⟩ | ⟨a',u,v,k1,k2,k3,k4,k5⟩
    ·rw[k2,k2]
    ·have:a'≠j:=λz=>by
      subst z;rw[k3]at e;injection e with e1 e2;rcases k4 with rfl | rfl
      ·exact ca e1.symm
      ·exact cb e2.symm
     rw[k5,k5];have:decide (j+1<=a')=decide (j<=a'):=by rw[Dy];simp;omega
     rw[this]
 ·rw[AL (by simp;omega),AL (by simp;omega)]
def Zz(t:Tr)(V:Nat->PV):Km t V 0=(Av t.size).map V:=by
 refine A9 λk hk=>?_;rcases KG (AG.mp hk) with⟨h1,h2⟩ | ⟨a,u,v,h1,h2,h3,h4,h5⟩
 ·rw[h2,if_pos rfl]
 ·rw[h5,decide_eq_true (A3 _),if_pos rfl]
theorem Ze(G:WG g ws)(hz:t.size<=900){V:Nat->PV}(h:∀k,k < t.size->NOk g t V P k):(fh (fx g) (.tup ((t.nd 0).map Ent.pv)) (V (t.size-1))).le (.ret (.cl ((Av t.size).map V))):=λQ q=>by
 have tp:=t.size_pos;unfold fh;simp only[ga,bn,au];refine NL (λ_=>.aL) (λx hx=>rfl) ?_;have e0:((t.nd 0).map Ent.pv).map (λ_=>PV.aL)=(Av t.size).map λ_=>PV.aL:=by rw[En,En,cn,Cb]
 have ei:uh t.size (-1)=ap (t.size-1):=by
  unfold uh;rw[if_neg ∅,if_pos ∅];congr 1;omega
 have es:∀v,gs ((Av t.size).map λ_=>PV.aL) (.int (-1)) v=.ret (((Av t.size).map λ_=>PV.aL).set (t.size-1) v):=λv=>by
  show(match uh ((Av t.size).map λ_=>PV.aL).length (-1) with | some j=>_ | none=>_)=_;rw[Ae,Cb,ei]
 have Ż:(((t.size:Nat):Int)-1 - -1).toNat=t.size:=by omega
 rw[e0];simp only[jI,kw,es,RT,cE,cn,ur,Rh,Ż];refine⟨⟨trivial,bf ∅ ∅⟩,?_⟩;refine sI (λi s=>i<=t.size/\s=Km t V (t.size-i)) ⟨A3 _,rfl⟩ (λi x s hx hs=>?_) (λs hs=>?_)
 ·obtain⟨_,rfl⟩:=hs;obtain⟨hi,rfl⟩:=uy hx;obtain⟨j,hj⟩:∃j:Nat,j=t.size-1-i:=⟨_,rfl⟩;have ej:(((t.size:Nat):Int)-1-(i:Int))=(j:Int):=by omega
  have Q8:j < t.size:=by omega
  rw[ej,show t.size-i=j+1 by omega,show t.size-(i+1)=j by omega];have at1:bV (Km t V (j+1)) (j:Int)=ap (V j):=bJ (by
   rw[vU t V _ Q8];rcases KG Q8 with⟨_,h2⟩ | ⟨a,u,v,h1,h2,h3,h4,h5⟩
   ·rw[h2,if_pos rfl]
   ·rw[h5,decide_eq_true ∅,if_pos rfl])
  simp only[ba,WS t Q8,sw,kw,at1,bn];refine W.le.use (TB G (h j Q8)) ?_;simp only[bx,kw,Bq,Ao,if_false,bn,pw,au,fj];obtain⟨p,ii,e,c,hh⟩:=h j Q8;rcases hh with⟨w,e1,e2,e3⟩ | ⟨a,b,nm,x,y,r1,r2,e1,e2,e3,e4,e5⟩
  ·have ec:hV [PV.tup (ay (P j)),.str "found"] (ap 2) bm=[]:=rfl;rw[e1,e3];simp only[kJ,ec,kw,au,Q3,jr];have ez:pK [] []=.ret []:=by unfold pK;rw[mo (bB (by simp))];congr 1
   rw[ez];exact⟨by omega,Vz e1⟩
  ·have ec:hV [PV.tup (ay (P j)),.str nm,V a,V b] (ap 2) bm=[V a,V b]:=rfl;rw[e1,e5];obtain⟨ha,hb⟩:=fF t Q8 e1;simp only[kJ,ec,kw,au,Q3,iV,jr];have ez:pK [PV.int (a:Int),PV.int (b:Int)] [V a,V b]=.ret [.tup [.int (a:Int),V a],.tup [.int (b:Int),V b]]:=by
    unfold pK;rw[mo (bB (by simp))];congr 1
   have s1:gs (Km t V (j+1)) (.int (a:Int)) (V a)=.ret ((Km t V (j+1)).set a (V a)):=lN (by rw[Qe];omega);have s2:gs ((Km t V (j+1)).set a (V a)) (.int (b:Int)) (V b)=.ret (((Km t V (j+1)).set a (V a)).set b (V b)):=lN (by rw[B3,Qe];omega);rw[ez];simp only[kw,bH,ib,ga,s1,s2,bn];exact⟨by omega,VA Q8 e1⟩
 ·obtain⟨_,rfl⟩:=hs;have el:(qe (((t.size:Nat):Int)-1) t.size).length=t.size:=by unfold qe;simp
  rw[el,Cy,Zz];exact q
end My
variable{f:PL.PV->FL.W PL.PV}{d:My.Dd}
namespace My
def dl(g:O Sy)(i:Nat):O Dd:=dbl i::(wW (sy g i).un++((sy g i).be.map (λo=>(("over",i,o):Dd))++(sy g i).be.map (λo=>(("over",o,i):Dd))))
def agb(h:d∈dds g i):d∈dl g i:=by
 rcases AA.mp h with rfl | h
 ·exact .head _
 refine A6 _ ?_;rcases AJ.mp h with h | h
 ·exact AZ _ h
 ·obtain⟨o,ho,h⟩:=AE.mp h;refine AI _ ?_;simp at h;rcases h with rfl | rfl
  ·exact AZ _ (Am.mpr ⟨o,ho,rfl⟩)
  ·exact AI _ (Am.mpr ⟨o,ho,rfl⟩)
theorem yp(G:WG g ws)(h:i < g.length):(dl g i).length<=63:=by
 unfold dl;simp only[Ap,Ah,Ae];have:=ZC (sy g i).un;have:=G.ab3 i h;omega
theorem abU(d:Dd):uk (d2 d)=true:=rfl
def OJ(d:Dd):PV.mm (d2 d)=true:=by simp[d2]
def abx(d:Dd):PV.jS (d2 d)<=2:=by simp[d2]
def S9(p:Nat×Nat):PV:=.tup [.int (p.1:Int),.int (p.2:Int)]
def VC(G:WG g ws)(h:i < g.length):j9 (fx g) (.int (i:Int))=.ret ((wW (sy g i).un).map λd=>S9 (d.2.1,d.2.2)):=by
 unfold j9;simp only[ga,jb h];have hu:=G.m9 i h;revert hu;generalize (sy g i).un=l;intro hu
 match l,hu with
 | [],_=>simp only[cE,iV,jr,Ap,Bd,eR,ga,bg];rfl
 | [a],_=>simp only[cE,iV,jr,Ap,Bd,eR,ga,bg];rfl
 | [a,b],_=>
  have i0:bV [PV.int (a:Int),PV.int (b:Int)] 0=ap (.int (a:Int)):=rfl;have i1:bV [PV.int (a:Int),PV.int (b:Int)] 1=ap (.int (b:Int)):=rfl;simp only[cE,iV,jr,Ap,Bd,eR,ga,bg,au,ba,i0,i1,sw];rfl
theorem aaj(G:WG g ws)(h:i < g.length):lW (fx g) (.int (i:Int))=.ret ((sy g i).be.map (λo=>S9 (i,o))++(sy g i).be.map (λo=>S9 (o,i))):=by
 unfold lW;have l3:=G.ab3 i h;simp only[ga,Um h,au];rw[j7 (g:=λo=>S9 (i,o)) λk hk=>rfl];rw[j7 (g:=λo=>S9 (o,i)) λk hk=>rfl];simp only[ga];rw[eU (by simp;omega)]
theorem nC{c:α->PV}{k:α->PV}:∀{l:List α},(∀x∈l,f (c x)=.ret (k x))->a7 (l.map c) f=.ret (l.map k)
 | [],_=>rfl
 | x::r,h=>by
  show am (f (c x)) (λy=>am (a7 (r.map c) f) λm=>bd (y::m))=_;rw[h x (.head _),nC λy hy=>h y (.tail _ hy)];rfl
theorem G0(G:WG g ws)(h:i < g.length)(q:∀m:O PV,m.Perm ((dl g i).map d2)->Q m):(fv (fx g) (Ent.pair a b).pv (.int (i:Int))).run Q:=by
 have l63:=yp G h;unfold fv;simp only[Ent.pv,ga,bn,gP,kg,bx,kw,Ao,if_false,VC G h,aaj G h];refine fg (λd:Dd=>.tup [.str "split",S9 (d.2.1,d.2.2)]) (λd _ R r=>r) ?_;have em:(sy g i).be.map (λo=>S9 (i,o))++(sy g i).be.map (λo=>S9 (o,i))=((sy g i).be.map (λo=>((i,o):Nat×Nat))++(sy g i).be.map (λo=>(o,i))).map S9:=by
  rw[Az,Ay,Ay];rfl
 rw[em];refine fg (λp:Nat×Nat=>.tup [.str "over",S9 p]) (λp _ R r=>r) ?_;simp only[kw,gM,ga];have es:(wW (sy g i).un).map (λd=>PV.tup [.str "split",S9 (d.2.1,d.2.2)])=(wW (sy g i).un).map d2:=by
  refine A9 λd hd=>?_;have:d.1=("split":Str):=by
   revert hd;generalize (sy g i).un=l;intro hd;unfold wW at hd
   split at hd
   ·simp at hd;rcases hd with rfl | rfl <;> rfl
   ·cases hd
  unfold d2 S9;rw[this]
 have eo:((sy g i).be.map (λo=>((i,o):Nat×Nat))++(sy g i).be.map (λo=>(o,i))).map (λp=>PV.tup [.str "over",S9 p])=((sy g i).be.map (λo=>(("over",i,o):Dd))++(sy g i).be.map (λo=>(("over",o,i):Dd))).map d2:=by
  simp only[Az,Ay];rfl
 rw[es,eo];have ll:(dl g i).length=1+(wW (sy g i).un).length+((sy g i).be.map (λo=>(("over",i,o):Dd))++(sy g i).be.map (λo=>(("over",o,i):Dd))).length:=by
  unfold dl;simp only[Ap,Ah];omega
 rw[eU (by simp only[Ae,Ap,Bd];omega)];simp only[kw];rw[eU (by simp only[Ae,Ah,Ap,Bd]at *;omega)];have e:([PV.tup [.str "doubled",.tup [.int (i:Int),.int (i:Int)]]]++(wW (sy g i).un).map d2)++((sy g i).be.map (λo=>(("over",i,o):Dd))++(sy g i).be.map (λo=>(("over",o,i):Dd))).map d2=(dl g i).map d2:=by
  unfold dl;simp only[Aq,Az,AH];rfl
 simp only[kw];rw[e];refine⟨⟨by rw[Ae];omega,Bn.mpr λx hx=>?_⟩,λm hm=>q m hm⟩;obtain⟨d,_,rfl⟩:=Am.mp hx;exact abU d
def Xv{l:O Dd}(hp:m.Perm (l.map d2))(hd:d∈l):m8 false (d2 d) m=.ret true:=by
 have h1:vF (d2 d) m:=⟨OJ d,jF.mpr λx hx=>by
  obtain⟨k,_,rfl⟩:=Am.mp (hp.mem_iff.mp hx);exact OJ k,AW (jG (n:=2) λx hx=>by
  obtain⟨k,_,rfl⟩:=Am.mp (hp.mem_iff.mp hx);exact abx k) ⋯⟩
 have h2:qB (d2 d) m=true:=Fe.mpr ⟨d2 d,hp.mem_iff.mpr (Am.mpr ⟨d,hd,rfl⟩),LX _ (OJ d)⟩;unfold m8;rw[mo h1,h2];rfl
theorem abR(G:WG g ws){V:Nat->PV}(hj:j < t.size)(H:∀k,k < t.size->NOk g t V P k):(o6 (fx g) (en t 0 j).pv (V j)).le (.ret (.bl true)):=λQ q=>by
 obtain⟨p,i,e,c,h⟩:=H j hj;have hi:=c.last;unfold o6 xo tV;rcases h with⟨w,e1,e2,e3⟩ | ⟨a,b,nm,x,y,r1,r2,e1,e2,e3,e4,e5⟩
 ·have j0:bV [PV.tup (ay (P j)),.str "found"] 0=ap (.tup (ay (P j))):=rfl;have j1:bV [PV.tup (ay (P j)),.str "found"] 1=ap (.str "found"):=rfl;have ec:hV [PV.tup (ay (P j)),.str "found"] (ap 2) bm=[]:=rfl;have em:∀f,a7 [] f=.ret []:=λ_=>rfl;rw[e1,e3];simp only[ga,bn,au,ba,j0,j1,sw,kw,fj,kJ,ec,em,ye,jI];rw[e];simp only[QS,sw,kw];unfold fv;simp only[Ent.pv,ga,bn,iK,kh,bx,kw,if_true,Q7 G hi,e2];have h1:vF (.tup [.str "found",.tup []]) [PV.tup [.str "found",.tup []]]:=⟨by simp,by simp,by simp⟩;refine⟨h1,?_⟩;exact q
 ·have j0:bV [PV.tup (ay (P j)),.str nm,V a,V b] 0=ap (.tup (ay (P j))):=rfl;have j1:bV [PV.tup (ay (P j)),.str nm,V a,V b] 1=ap (.str nm):=rfl;have ec:hV [PV.tup (ay (P j)),.str nm,V a,V b] (ap 2) bm=[V a,V b]:=rfl;obtain⟨ha,hb⟩:=fF t hj e1;have í:∀k z r,k < t.size->P k=z::r->fw (V k)=.ret (.int (z:Int)):=λk z r hk hz=>by
   obtain⟨_,_,_,_,hh⟩:=H k hk;have:∃l,V k=.tup (.tup (ay (z::r))::l):=by
    rcases hh with⟨w,_,_,e3⟩ | ⟨a,b,nm,x,y,r1,r2,_,_,_,_,e5⟩
    ·exact⟨_,by rw[e3,hz]⟩
    ·exact⟨_,by rw[e5,hz]⟩
   obtain⟨l,el⟩:=this;have k0:bV (PV.tup (ay (z::r))::l) 0=ap (.tup (ay (z::r))):=bJ (j:=0) rfl;have k1:bV (ay (z::r)) 0=ap (.int (z:Int)):=bJ (j:=0) rfl;unfold fw;rw[el];simp only[ga,au,ba,k0,k1,sw]
  have c1:=í a x r1 ∅ e3;have c2:=í b y r2 ∅ e4;have em:a7 [V a,V b] (λp5=>fw p5)=.ret [.int (x:Int),.int (y:Int)]:=by
   show am (fw (V a)) (λu=>am (am (fw (V b)) λv=>[]\λm=>bd (v::m)) λm=>bd (u::m))=_;rw[c1,c2];rfl
  rw[e1,e5];simp only[ga,bn,au,ba,j0,j1,sw,kw,fj,kJ,ec,em,ye,jI];rw[e];simp only[QS,sw,kw];refine G0 G hi λm hm=>?_;have:=Xv (d:=(nm,x,y)) hm (agb e2);have e6:d2 (nm,x,y)=.tup [.str nm,.tup [.int (x:Int),.int (y:Int)]]:=rfl;rw[e6]at this;rw[this];exact q
theorem Y8(t:Tr)(f:Nat->PV):ko ((t.nd 0).map Ent.pv) ((Av t.size).map f)=(Av t.size).map λj=>PV.tup [(en t 0 j).pv,f j]:=by
 refine BH λj=>?_;have hz:(ko ((t.nd 0).map Ent.pv) ((Av t.size).map f)).length=t.size:=by rw[oC];simp[t.bG]
 by_cases hj:j < t.size
 ·have hl:j < (ko ((t.nd 0).map Ent.pv) ((Av t.size).map f)).length:=by omega
  obtain⟨x,y,hx,hy,e⟩:=qW (Ad hl);rw[Aj,gk t 0 j hj]at hx;have yS:=Option.some.inj hx;rw[Aj,Bs hj]at hy;have Ü:=Option.some.inj hy;rw[Ad hl,e,<- yS,<- Ü,Aj,Bs hj];rfl
 ·rw[AL ∅,AL (by simp;omega)]
def Zl(hw:t.Ws)(hz:t.size<=900):(tU t.pv).le (.ret (.bl true)):=λQ q=>by
 exact XN t hw true (.inl rfl) hz Q q
theorem Xt(G:WG g ws)(hw:t.Ws)(hz:t.size<=900){w:PV}(h:Wok g t (t.size-1) p w):(rQ (fx g) t.pv w).le (.ret (.bl ((p.length:Int)==1))):=λQ q=>by
 have tp:=t.size_pos;obtain⟨V,P,v1,v2,H⟩:=Hh t 0 (λk hk=>by rw[AD]) p w (by rw[AD];exact h);rw[AD]at v1 v2;have H:∀k,k < t.size->NOk g t V P k:=λk hk=>H k (A3 _) ∅;subst v1;subst v2;unfold rQ;simp only[ga,bn];refine W.le.use (Zl hw hz) ?_;simp only[bx,kw,Bq,Ao,if_false,bn];refine W.le.use (jq t hz) ?_;refine W.le.use (Ze G hz H) ?_;obtain⟨l,el⟩:∃l,V (t.size-1)=.tup (.tup (ay (P (t.size-1)))::l):=by
  obtain⟨_,_,_,_,hh⟩:=H (t.size-1) ∅;rcases hh with⟨w,_,_,e3⟩ | ⟨a,b,nm,x,y,r1,r2,_,_,_,_,e5⟩
  ·exact⟨_,e3⟩
  ·exact⟨_,e5⟩
 have k0:bV (PV.tup (ay (P (t.size-1)))::l) 0=ap (.tup (ay (P (t.size-1)))):=bJ (j:=0) rfl;rw[el];simp only[qG,PV.f9,bg,kw,Ao,if_false,au,ba,k0,sw,cE,bo,X8,ga];cases c:((P (t.size-1)).length:Int)==1 with
 | false=>
  rw[c]at q;simpa using q
 | true=>
  rw[c]at q;simp only[Bq,Ao,if_false,bX,bn,kw];refine⟨bB (by rw[cn];omega),?_⟩;show(a7 _ _).run _;rw[Y8];refine fg (λ_=>.bl true) (λj hj R r=>?_) ?_
  ·have hj:=AG.mp hj;simp only[ib,ga];exact abR G hj H R r
  ·have e1:(Av t.size).map (λ_=>PV.bl true)=((Av t.size).map λ_=>true).map PV.bl:=by rw[Ay];rfl
   have e2:((Av t.size).map λ_=>true).all id=true:=by simp
   rw[e1,iR,e2];exact q
theorem Dt.isD{d:Int}(D:Dt t ds [] d)(h:d<=99):aba t ds=true:=by
 unfold aba;rw[A1,A1,decide_eq_true_iff,decide_eq_true_iff];refine⟨D.len,?_,Bn.mpr λj hj=>?_⟩
 ·unfold Qk;have hp:(splits t).Pairwise (· < ·):=by unfold splits;exact List.Pairwise.filter _ DN
  rw[List.nodup_iff_pairwise_ne,E2];refine List.Pairwise.imp_of_mem (λ{x y} hx hy lt e=>?_) hp;obtain⟨x1,x2⟩:=Bm.mp hx;obtain⟨y1,y2⟩:=Bm.mp hy;have:=D.inj x y (AG.mp x1) (AG.mp y1) (by simp) (by simp) x2 y2 e;omega
 ·have hj':=AG.mp hj;unfold okJ;cases e:en t 0 j with
  | word w=>
   rw[D.zero j hj' (.inl (by rw[e];rfl))];rfl
  | pair a b=>
   obtain⟨_,_,h1,h2,h3,h4⟩:=D.up j hj' (by simp) a b e;show(decide (ds.getD a 0 < ds.getD j 0)&&decide (ds.getD b 0 < ds.getD j 0)&&decide (1<=ds.getD j 0)&&decide (ds.getD j 0<=99))=true;rw[decide_eq_true h1,decide_eq_true h2,decide_eq_true h3,decide_eq_true ∅];rfl
theorem yC:∀(t:Tr) (o:Nat),(t.nd o).countP zG+1=t.az.length
 | .leaf _,_=>rfl
 | .node l r,o=>by
  have h1:=yC l o;have h2:=yC r (o+l.size);rw[Tr.nd,ER,ER];show _+(List.countP zG [Ent.pair _ _])+1=(l.az++r.az).length;simp[zG];omega
theorem ae3(t:Tr):t.nd 0=(Av t.size).map (en t 0):=by
 refine BH λj=>?_;by_cases h:j < t.size
 ·rw[gk t 0 j h,Aj,Bs h];rfl
 ·rw[AL (by rw[t.bG];omega),AL (by simp;omega)]
def Ng(t:Tr):(splits t).length+1=t.az.length:=by
 rw[<- yC t 0,ae3 t,List.countP_map];unfold splits;rw[<- List.countP_eq_length_filter];rfl
def UU.snoc(r:UU g i j)(hu:u∈(sy g j).un):UU g i u:=by
 induction r with
 | refl i=>exact .step hu (.refl _)
 | step h _ ih=>exact .step h (ih hu)
def gS(t:Tr):O Sy:=(Av t.size).map λj=>⟨NC (en t 0 j) j,0,Q3 (en t 0 j),apt t j⟩
def u7(t:Tr)(h:j < t.size):sy (gS t) j=⟨NC (en t 0 j) j,0,Q3 (en t 0 j),apt t j⟩:=by
 unfold sy gS;rw[Ai,Aj,Bs h];rfl
@[simp] theorem kH(t:Tr):(gS t).length=t.size:=by unfold gS;simp
def ajD(t:Tr):fx (gS t)=.tup (grL t):=by
 unfold fx gS grL;rw[Ay];congr 1
def acL(e:Ent)(j:Nat):(∃s,NC e j=.str s)\/∃n,NC e j=.int n:=by
 cases e with
 | word w=>exact .inl ⟨w,rfl⟩
 | pair a b=>exact .inr ⟨_,rfl⟩
def afA(e:Ent):(Q3 e).length<=2:=by cases e <;> simp[Q3]
theorem wd:∀(s:Tr) (t:Tr) (o:Nat) (w:Str),(∀k,k < s.size->en t 0 (o+k)=en s o k)->o+s.size<=t.size->w∈s.az->∃i,i < t.size/\UU (gS t) (o+s.size-1) i/\en t 0 i=.word w
 | .leaf x,t,o,w,hs,hz,hw=>by
  have e0:en t 0 o=.word x:=hs 0 (by show 0 < 1;decide);have hz:o+1<=t.size:=hz;have:w=x:=by simpa[Tr.az]using hw
  subst this;exact⟨o,by omega,.refl _,e0⟩
 | .node l r,t,o,w,hs,hz,hw=>by
  have es:(Tr.node l r).size=l.size+r.size+1:=rfl;have er:en t 0 (o+(l.size+r.size))=.pair (o+l.size-1) (o+l.size+r.size-1):=by rw[hs _ ∅,en,if_neg ∅,if_neg ∅]
  have ei:o+(Tr.node l r).size-1=o+(l.size+r.size):=by omega
  have hl:∀k,k < l.size->en t 0 (o+k)=en l o k:=λk hk=>by rw[hs k ∅,en,if_pos hk]
  have hr:∀k,k < r.size->en t 0 (o+l.size+k)=en r (o+l.size) k:=λk hk=>by rw[Bk,hs _ ∅,en,if_neg ∅,if_pos ∅,DB]
  have un:(sy (gS t) (o+(l.size+r.size))).un=[o+l.size-1,o+l.size+r.size-1]:=by rw[u7 t ∅,er];rfl
  rw[ei];rcases AJ.mp (show w∈l.az++r.az from hw) with hw | hw
  ·obtain⟨i,h1,h2,h3⟩:=wd l t o w hl ∅ hw;exact⟨i,h1,.step (by rw[un];simp) h2,h3⟩
  ·obtain⟨i,h1,h2,h3⟩:=wd r t (o+l.size) w hr ∅ hw;exact⟨i,h1,.step (by rw[un];simp) h2,h3⟩
theorem Gg(hz:t.size<=30):WG (gS t) t.az:=by
 have tp:=t.size_pos;have Ó:∀k i,i+k+1=t.size->UU (gS t) (t.size-1) i:=λk=>by
  induction k using Cv with
  | ind k ih=>
   intro i hk;rcases jM t 0 i .aL ∅ with⟨e,_⟩ | ⟨a,u,v,ia,ha,_,ep,Xz⟩
   ·rw[<- e];exact .refl _
   ·refine(ih (t.size-a-1) ∅ a ∅).snoc ?_;rw[u7 t ha,ep];rw[AD]at Xz;rcases Xz with rfl | rfl <;> simp[Q3]
 refine⟨by rw[kH];omega,by rw[kH];omega,λi hi u hu=>?_,λi hi=>?_,λi hi u hu=>?_,λi hi=>?_,λi hi=>?_,λw hw=>?_,λi hi=>by rw[kH]at hi ⊢;exact Ó (t.size-i-1) i ∅⟩
 ·rw[kH]at hi;rw[u7 t hi]at hu;cases e:en t 0 i with
  | word w=>rw[e]at hu;cases hu
  | pair a b=>
   rw[e]at hu;have:=fF t hi e;have hu:u=a\/u=b:=by simpa[Q3]using hu
   omega
 ·rw[kH]at hi;rw[u7 t hi];exact afA _
 ·rw[kH]at hi ⊢;rw[u7 t hi]at hu;exact AG.mp (Bm.mp hu).1
 ·rw[kH]at hi;rw[u7 t hi];have:=BG (λk=>!decide (k∈up t 0 i [])&&!decide (i∈up t 0 k [])) (Av t.size);rw[Cb]at this;show(apt t i).length<=30;unfold apt;omega
 ·rw[kH]at hi;rw[u7 t hi];exact acL _ _
 ·obtain⟨i,h1,h2,h3⟩:=wd t t 0 w (λk hk=>by rw[AD]) ∅ hw;rw[AD]at h2;refine⟨i,by rw[kH];exact h1,by rw[kH];exact h2,?_⟩;unfold hm;rw[u7 t h1,h3];simp[Q3,NC,zF]
def dS(t:Tr)(ds bs:O Int):O Sy:=(aK t ds bs bs.length).map λp=>⟨NC (en t 0 p.1) p.1,p.2,(Mj (en t 0 p.1) p.1 (ds.getD p.1 0) (bs.getD p.2 0)).map λx=>(aK t ds bs bs.length).idxOf (x,p.2-1),bsd (aK t ds bs bs.length) p.1 p.2⟩
def aj6(t:Tr)(ds bs:O Int):fx (dS t ds bs)=.tup (dgL t ds bs):=by
 unfold fx dS dgL;rw[Ay];congr 1
@[simp] theorem Yz(t:Tr)(ds bs:O Int):(dS t ds bs).length=(aK t ds bs bs.length).length:=by unfold dS;rw[Ae]
theorem uP(t:Tr)(ds bs:O Int):∀m,(aK t ds bs m).Pairwise λp q=>p.2<=q.2
 | 0=>.nil
 | m+1=>by
  rw[aK];have RV:∀p∈Ko t ds (bs.getD m 0) m t.size,p.2=m:=λp hp=>by
   obtain⟨k,_,rfl⟩:=Am.mp hp;rfl
  refine List.pairwise_append.mpr ⟨uP t ds bs m,?_,λa ha b hb=>?_⟩
  ·exact Cj.mpr λi j hi hj _=>by rw[RV _ (CV hi),RV _ (CV hj)];exact An _
  ·have h1:=(gq ha).1;rw[RV b hb];omega
theorem GG(t:Tr)(ds bs:O Int)(n:Nat):∀m,((aK t ds bs m).filter λp=>decide (p.2=n)).length<=t.size
 | 0=>A3 _
 | m+1=>by
  rw[aK,EO,Ah];have ih:=GG t ds bs n m;by_cases c:n=m
  ·subst c;have z:(aK t ds bs n).filter (λp=>decide (p.2=n))=[]:=by
    rw[Fq];intro p hp;have:=(gq hp).1;simp;omega
   rw[z];have h1:=BG (λp:Nat×Nat=>decide (p.2=n)) (Ko t ds (bs.getD n 0) n t.size);have h2:=Hv t ds (bs.getD n 0) n t.size;simp only[Bd];omega
  ·have z:(Ko t ds (bs.getD m 0) m t.size).filter (λp=>decide (p.2=n))=[]:=by
    rw[Fq];intro p hp;obtain⟨k,_,rfl⟩:=Am.mp hp;simp;omega
   rw[z];simpa using ih
section
theorem DD.above(D:DD t ds)(h:(j,n)∈aK t ds (aN t ds) (aN t ds).length)(hn:n+1 < (aN t ds).length):∃a,(a,n+1)∈aK t ds (aN t ds) (aN t ds).length/\j∈Mj (en t 0 a) a (ds.getD a 0) ((aN t ds).getD (n+1) 0):=by
 obtain⟨hnl,hj,hs⟩:=cU.mp h;obtain⟨s1,s2⟩:=(iw hj).mp hs;have inc:=D.inc;have lt:=IG inc hn (show n < n+1 by omega);have å:(∀a,mM t 0 j .aL=.int ((a:Nat):Int)->(aN t ds).getD (n+1) 0 < ds.getD a 0)->∃a,(a,n+1)∈aK t ds (aN t ds) (aN t ds).length/\j∈Mj (en t 0 a) a (ds.getD a 0) ((aN t ds).getD (n+1) 0):=λhx=>
  ⟨j,cU.mpr ⟨hn,hj,(iw hj).mpr ⟨by omega,hx⟩⟩,by unfold Mj;rw[if_pos ∅];exact .head _⟩
 rcases jM t 0 j .aL hj with⟨_,e⟩ | ⟨a,u,v,ja,ha,e,ep,Xz⟩
 ·exact å λa z=>by rw[e]at z;cases z
 ·rw[AD]at e Xz;by_cases c:(aN t ds).getD (n+1) 0 < ds.getD a 0
  ·refine å λa' z=>?_;rw[e]at z;injection z with z;have:a=a':=by omega
   subst this;exact c
  ·have sa:=s2 a e;have eq:ds.getD a 0=(aN t ds).getD (n+1) 0:=by
    rcases Int.lt_or_eq_of_le (show ds.getD a 0<=(aN t ds).getD (n+1) 0 by omega) with c2 | c2
    ·have:=(xO inc hn (D.mem ha) c2).2;rw[Nat.add_sub_cancel]at this;omega
    ·exact c2
   refine⟨a,cU.mpr ⟨hn,ha,(iw ha).mpr ⟨by omega,λa2 e2=>?_⟩⟩,?_⟩
   ·rcases jM t 0 a .aL ha with⟨_,e3⟩ | ⟨a3,u3,v3,_,h3,e3,ep3,ajc⟩
    ·rw[e3]at e2;cases e2
    ·rw[e3]at e2;injection e2 with e2;rw[AD]at e2 ajc;have:a3=a2:=by omega
     subst this;have:=D.pair a3 u3 v3 h3 ep3;rcases ajc with rfl | rfl <;> omega
   ·unfold Mj;rw[if_neg ∅,ep];rcases Xz with rfl | rfl <;> simp
theorem DD.last(D:DD t ds)(h:(j,n)∈aK t ds (aN t ds) (aN t ds).length)(hn:n+1=(aN t ds).length):j=t.size-1:=by
 obtain⟨hnl,hj,hs⟩:=cU.mp h;obtain⟨s1,s2⟩:=(iw hj).mp hs;rcases jM t 0 j .aL hj with⟨e,_⟩ | ⟨a,u,v,ja,ha,e,ep,Xz⟩
 ·exact e
 ·exfalso;rw[AD]at e;have sa:=s2 a e;have inc:=D.inc;obtain⟨i,hi,ei⟩:=Es (D.mem ha);have gd:(aN t ds).getD i 0=ds.getD a 0:=by rw[Ai,Ad hi];exact ei
  rcases DK i n with c | c
  ·have:=IG inc hnl c;omega
  ·have:i=n:=by omega
   subst this;omega
def Oo[BEq α][LawfulBEq α]{l:List α}(nd:l.Nodup){x:α}(h:l[i]?=ap x):l.idxOf x=i:=by
 obtain⟨hi,e⟩:=Al.mp h;rw[<- e];exact nd.idxOf_getElem i hi
def JD[BEq α][LawfulBEq α]{l:List α}{x:α}(h:x∈l):l[l.idxOf x]?=ap x:=by
 have:=B6 h;rw[Ad this,List.getElem_idxOf this]
theorem U6(D:DD t ds)(hz:t.size<=15)(hb:(aN t ds).length<=16):WG (dS t ds (aN t ds)) t.az:=by
 have nd:=iu t ds (aN t ds) (aN t ds).length;have ŗ:=uP t ds (aN t ds) (aN t ds).length;have lay:=λn=>GG t ds (aN t ds) n (aN t ds).length;have ok:=D.ok;have ne:=D.ne;have ll:=jh t ds (aN t ds) (aN t ds).length;have above:=λj n=>D.above (j:=j) (n:=n);have last:=λj n=>D.last (j:=j) (n:=n);have Ş:=@cU t ds (aN t ds) (aN t ds).length;unfold okD at ok;have hS:∀i p,(aK t ds (aN t ds) (aN t ds).length)[i]?=ap p->sy (dS t ds (aN t ds)) i=⟨NC (en t 0 p.1) p.1,p.2,(Mj (en t 0 p.1) p.1 (ds.getD p.1 0) ((aN t ds).getD p.2 0)).map λx=>(aK t ds (aN t ds) (aN t ds).length).idxOf (x,p.2-1),bsd (aK t ds (aN t ds) (aN t ds).length) p.1 p.2⟩:=λi p hp=>by
  unfold sy dS;rw[Ai,Aj,hp];rfl
 have hL:(dS t ds (aN t ds)).length=(aK t ds (aN t ds) (aN t ds).length).length:=Yz t ds _;have ũ:=EI hb hz;generalize aK t ds (aN t ds) (aN t ds).length=L at *;have get:∀i,i < (dS t ds (aN t ds)).length->∃p,L[i]?=ap p/\p∈L:=λi hi=>by
  rw[hL]at hi;exact⟨L[i],Ad hi,CV hi⟩
 have pos:=CP.mpr ne;have Ö:∀(i a:Nat) (p r:Nat×Nat),L[i]?=ap p->L[a]?=ap r->r.2 < p.2->a < i:=λi a p r h1 h2 lt=>by
  rcases DK a i with c | c
  ·exact c
  ·exfalso;obtain⟨g1,e1⟩:=Al.mp h1;obtain⟨g2,e2⟩:=Al.mp h2;rcases EJ c with c | c
   ·subst c;rw[h1]at h2;cases h2;omega
   ·have:=Cj.mp ŗ i a g1 g2 c;rw[e1,e2]at this;omega
 have Ó:∀k i,i+k+1=L.length->UU (dS t ds (aN t ds)) (L.length-1) i:=λk=>by
  induction k using Cv with
  | ind k ih=>
   intro i hk;obtain⟨⟨j,n⟩,hp,hm⟩:=get i (by rw[hL];omega);have nl:=(Ş.mp hm).1;by_cases c:n+1 < (aN t ds).length
   ·obtain⟨a,ha,hb⟩:=above j n hm c;have ia:=JD ha;have lt:=Ö _ i (a,n+1) (j,n) ia hp (by show n < n+1;omega);have il:=B6 ha;have r:=ih (L.length-L.idxOf (a,n+1)-1) ∅ (L.idxOf (a,n+1)) ∅;refine r.snoc ?_;rw[hS _ _ ia];refine Am.mpr ⟨j,hb,?_⟩;exact Oo nd hp
   ·have hj:=last j n hm ∅;have:i=L.length-1:=by
     obtain⟨⟨j2,n2⟩,II,Č⟩:=get (L.length-1) (by rw[hL];omega);have n2l:=(Ş.mp Č).1;rcases DK n2 n with c2 | c2
     ·have:=Ö i (L.length-1) _ _ hp II c2;omega
     ·have en2:n2=n:=by omega
      have à:=last j2 n2 Č ∅;subst en2;rw[à,<- hj]at II;exact(Oo nd hp).symm.trans (Oo nd II)
    rw[this];exact .refl _
 refine⟨by rw[hL];exact pos,by rw[hL];omega,λi hi u hu=>?_,λi hi=>?_,λi hi u hu=>?_,λi hi=>?_,λi hi=>?_,λw hw=>?_,λi hi=>by rw[hL]at hi ⊢;exact Ó (L.length-i-1) i ∅⟩
 ·obtain⟨p,hp,hm⟩:=get i hi;rw[hS i p hp]at hu;obtain⟨x,hx,rfl⟩:=Am.mp hu;obtain⟨n1,xm⟩:=ok p hm x hx;exact Ö i _ p (x,p.2-1) hp (JD xm) (by show p.2-1 < p.2;omega)
 ·obtain⟨p,hp,hm⟩:=get i hi;rw[hS i p hp];unfold Mj
  split
  ·simp
  ·cases en t 0 p.1 <;> simp
 ·obtain⟨p,hp,hm⟩:=get i hi;rw[hS i p hp]at hu;unfold bsd at hu;obtain⟨x,hx,rfl⟩:=Am.mp hu;rw[hL];exact B6 (Bm.mp hx).1
 ·obtain⟨p,hp,hm⟩:=get i hi;rw[hS i p hp];unfold bsd;rw[Ae];have h1:=lay p.2;have h2:(L.filter λq=>decide (q.2=p.2)&&!decide (q.1=p.1)).length<=(L.filter λq=>decide (q.2=p.2)).length:=by
   have e:L.filter (λq=>decide (q.2=p.2)&&!decide (q.1=p.1))=(L.filter λq=>decide (q.2=p.2)).filter λq=>!decide (q.1=p.1):=by
    rw[List.filter_filter];refine congrArg (λf=>L.filter f) (funext λq=>Bool.and_comm _ _)
   rw[e];exact BG _ _
  omega
 ·obtain⟨p,hp,hm⟩:=get i hi;rw[hS i p hp];exact acL _ _
 ·obtain⟨j,hj,_,ej⟩:=wd t t 0 w (λk hk=>by rw[AD]) ∅ hw;have b0:(aN t ds).getD 0 0=0:=rfl;have mem:(j,0)∈L:=Ş.mpr ⟨by simp[aN],hj,(iw hj).mpr ⟨by rw[D.leaf j w hj ej,b0];exact Ct _,λa ea=>by
   rcases jM t 0 j .aL hj with⟨_,e⟩ | ⟨a',u,v,_,ha,e,ep,_⟩
   ·rw[e]at ea;cases ea
   ·rw[e,AD]at ea;injection ea with ea;have:a'=a:=by omega
    subst this;have:=(D.pair a' u v ha ep).2.2;rw[b0];omega⟩⟩
  have il:=B6 mem;refine⟨L.idxOf (j,0),by rw[hL];exact il,by rw[hL];exact Ó (L.length-L.idxOf (j,0)-1) _ ∅,?_⟩;unfold hm;rw[hS _ _ (JD mem)];unfold Mj;rw[b0,D.leaf j w hj ej,if_neg ∅,ej];simp[NC,zF]
end
theorem nF{S:PV->Prop}:∀{l:O PV},(∀x∈l,∀R:PV->Prop,(∀v,S v->R v)->(f x).run R)->∀{Q:O PV->Prop},(∀m,m.length=l.length->(∀v∈m,S v)->Q m)->(a7 l f).run Q
 | [],_,Q,q=>q [] rfl (λ_ h=>nomatch h)
 | x::l,h,Q,q=>by
  show(am (f x) λy=>am (a7 l f) λm=>bd (y::m)).run Q;simp only[bn];refine h x (.head _) _ λv hv=>?_;refine nF (λy hy=>h y (.tail _ hy)) λm hm hs=>?_;exact q (v::m) (by simp[hm]) λu hu=>by
   rcases AA.mp hu with rfl | hu
   ·exact hv
   ·exact hs u hu
theorem Qc:∀{m:O PV}{ls:O Str},(∀v∈m,∃w∈ls,v=PV.str w)->∃ws:O Str,m=ws.map PV.str/\∀w∈ws,w∈ls
 | [],_,_=>⟨[],rfl,λ_ h=>nomatch h⟩
 | v::m,ls,h=>by
  obtain⟨w,hw,rfl⟩:=h v (.head _);obtain⟨ws,rfl,h2⟩:=Qc (m:=m) (ls:=ls) λu hu=>h u (.tail _ hu);exact⟨w::ws,rfl,λx hx=>by
   rcases AA.mp hx with rfl | hx
   ·exact hw
   ·exact h2 x hx⟩
inductive WT where
 | lf (p:List Nat) (i:Nat)
 | nd (p:List Nat) (i:Nat) (nm:Str) (a b:WT)
namespace WT
def path:WT->O Nat
 | .lf p i=>p++[i]
 | .nd p i _ _ _=>p++[i]
def at':WT->Nat
 | .lf _ i=>i
 | .nd _ i _ _ _=>i
def kK:WT->Str
 | .lf _ _=>"found"
 | .nd _ _ nm _ _=>nm
def kids:WT->O WT
 | .lf _ _=>[]
 | .nd _ _ _ a b=>[a,b]
def pv:WT->PV
 | .lf p i=>.tup [.tup (ay (p++[i])),.str "found"]
 | .nd p i nm a b=>.tup [.tup (ay (p++[i])),.str nm,a.pv,b.pv]
def size:WT->Nat
 | .lf _ _=>1
 | .nd _ _ _ a b=>a.size+b.size+1
def depth:WT->Nat
 | .lf _ _=>0
 | .nd _ _ _ a b=>max a.depth b.depth+1
def post:WT->O WT
 | .lf p i=>[.lf p i]
 | .nd p i nm a b=>a.post++b.post++[.nd p i nm a b]
def uR(u:WT):u.pv=.tup (.tup (ay u.path)::.str u.kK::u.kids.map pv):=by cases u <;> rfl
def size_pos(u:WT):0 < u.size:=by cases u <;> simp[size]
theorem dU:∀u:WT,u.post.length=u.size
 | .lf _ _=>rfl
 | .nd _ _ _ a b=>by simp[post,size,dU a,dU b];omega
def cY(l:O WT):O WT:=l.flatMap post
def bj(l:O WT):Nat:=(l.map size).sum
def Nq(u:WT):u.post=cY u.kids++[u]:=by cases u <;> simp[post,cY,kids]
def RY(u:WT):u.size=bj u.kids+1:=by cases u <;> simp[size,bj,kids]
def Se(l:O WT):(cY l).length=bj l:=by
 induction l with
 | nil=>rfl
 | cons x l ih=>
  have e:cY (x::l)=x.post++cY l:=rfl;have e2:bj (x::l)=x.size+bj l:=rfl;rw[e,e2,Ah,ih,dU]
theorem k7(l:O WT):l.length<=bj l:=by
 induction l with
 | nil=>exact An _
 | cons x l ih=>
  have e2:bj (x::l)=x.size+bj l:=rfl;have:=x.size_pos;rw[Ap,e2];omega
def Gu(l m:O WT):cY (l++m)=cY l++cY m:=by simp[cY]
def tJ(l m:O WT):bj (l++m)=bj l+bj m:=by simp[bj]
def Lj(u:WT):u.kids.length<=2:=by cases u <;> simp[kids]
def aos(u:WT):hV (.tup (ay u.path)::.str u.kK::u.kids.map pv) (ap 2) bm=u.kids.map pv:=by
 have:=Pb (.tup (ay u.path)::.str u.kK::u.kids.map pv) (a:=2) (by simp);rw[show((2:Nat):Int)=2 from rfl]at this;rw[this];rfl
end WT
theorem RJ(t:WT)(hz:t.size<=900):(kB t.pv).le (.ret (t.post.map WT.pv)):=λQ q=>by
 refine wJ (λn s=>∃ts bs:O WT,n=WT.bj ts/\s=(bs.map WT.pv,ts.map WT.pv)/\WT.cY ts++bs.reverse=t.post) ⟨[t],[],rfl,rfl,by simp[WT.cY]⟩ ?_;rintro n s ⟨ts,bs,rfl,rfl,hp⟩;have hs:=congrArg BM hp;rw[Ah,WT.Se,Ce,t.dU]at hs;by_cases he:ts=[]
 ·subst he;have Ĥ:bs.reverse=t.post:=hp;simp;rw[<- List.map_reverse,Ĥ];exact q
 ·obtain⟨us,u,rfl⟩:=HA he;have UQ:=WT.k7 us;have hk:=u.Lj;have hsu:=u.RY;have e0:WT.bj [u]=u.size:=by simp[WT.bj]
  rw[WT.tJ,e0]at hs;have ea:eV (bs.map WT.pv) u.pv=.ret (bs.map WT.pv++[u.pv]):=cX (by rw[Ae];omega);have ex:yd (us.map WT.pv) (u.kids.map WT.pv)=.ret (us.map WT.pv++u.kids.map WT.pv):=mo (bB (by simp;omega));have ne:(us.map WT.pv++[u.pv]).isEmpty=false:=by simp
  simp only[ga,kw,Az,Aq,Cq,ne,DQ,if_true,bn,OP,ea];rw[u.uR];simp only[fj,ga,kJ,u.aos,au,kw,ex];refine⟨_,?_,us++u.kids,bs++[u],rfl,?_,?_⟩
  ·rw[WT.tJ,WT.tJ,e0];omega
  ·rw[<- u.uR];simp
  ·rw[<- hp,WT.Gu,WT.Gu,Ep];have e1:WT.cY [u]=WT.cY u.kids++[u]:=by rw[<- WT.Nq];simp[WT.cY]
   rw[e1];simp
theorem oU{c:α->PV}{k:α->PV}:∀{l:List α},(∀x∈l,f (c x)=.ret (k x))->a7 (l.map c) f=.ret (l.map k)
 | [],_=>rfl
 | x::r,h=>by
  show am (f (c x)) (λy=>am (a7 (r.map c) f) λm=>bd (y::m))=_;rw[h x (.head _),oU λy hy=>h y (.tail _ hy)];rfl
namespace WT
def pre:WT->O Nat
 | .lf p _=>p
 | .nd p _ _ _ _=>p
def Ww(u:WT):u.path=u.pre++[u.at']:=by cases u <;> rfl
end WT
def Hk(g:O Sy)(i:Nat):Bool:=decide ((sy g i).un.length=2)
def vz(g:O Sy)(p:O Nat):Nat:=(p.filter (Hk g)).length
def qz(g:O Sy)(l:O WT):Nat:=(l.map λx=>vz g x.pre).sum
def cnt(nm:Str)(l:O WT):Nat:=l.countP λx=>x.kK==nm
def Kn(g:O Sy)(x:WT):Prop:=(x.kK="split"\/x.kK="doubled"\/x.kK="over"\/x.kK="found")/\(∀i∈x.pre,i < g.length)/\x.pre.length<=300
def aga(h:d∈dds g i):d.1="split"\/d.1="doubled"\/d.1="over":=by
 rcases AA.mp h with rfl | h
 ·exact .inr (.inl rfl)
 rcases AJ.mp h with h | h
 ·revert h;generalize (sy g i).un=l;intro h;unfold wW at h
  split at h
  ·simp at h;rcases h with rfl | rfl <;> exact .inl rfl
  ·cases h
 ·obtain⟨o,_,h⟩:=AE.mp h;simp at h;rcases h with rfl | rfl <;> exact .inr (.inr rfl)
theorem YD(G:WG g ws)(c:Ch g (p++[i])):(∀i∈p,i < g.length)/\p.length<=300:=by
 refine⟨λj hj=>c.lt j (AZ _ hj),?_⟩;have gl:=G.len;cases p with
 | nil=>simp
 | cons a p=>
  have h1:=Ch.len G (p:=p++[i]) (i:=a) c;have h2:=c.lt a (by simp);simp at h1 ⊢;omega
theorem YA(l:O PV)(x:PV):hV (l++[x]) bm (ap (-1))=l:=by
 have e:HT.eE (l++[x]).length (l++[x]).length (ap (-1))=l.length:=by
  simp[HT.eE];try omega
 unfold hV;rw[HT.w4,e];simp
def Wx(u:WT):hV (ay u.path) bm (ap (-1))=ay u.pre:=by
 rw[u.Ww,xj];exact YA _ _
theorem SH{u:WT}(h:∀i∈u.pre,i < g.length):oW (fx g) (.tup (ay u.path))=.ret (.int (vz g u.pre)):=by
 unfold oW;simp only[ga,jI,fj,kJ,Wx,au];rw[NW (p:=Hk g) λk hk=>by
  simp only[jb (h k hk),ga,cE,bo,eR,bg];have e:((((sy g k).un.length:Nat):Int)==2)=Hk g k:=by
   unfold Hk;rw[Dy];simp;omega
  rw[e];cases Hk g k <;> rfl]
 simp only[ga,yf,bo];rfl
def agc(l:O WT)(nm:Str):abZ (l.map λx=>PV.str x.kK) (.str nm)=.ret (.int (cnt nm l)):=by
 unfold abZ;rw[mo ⟨by simp,jF.mpr λx hx=>by obtain⟨y,_,rfl⟩:=Am.mp hx;simp,jG λx hx=>by obtain⟨y,_,rfl⟩:=Am.mp hx;simp⟩];congr 2;unfold agd cnt;rw[List.countP_map];congr 1
def aj1(g:O Sy)(l:O WT):PV:=.tup [.int (cnt "split" l),.int (cnt "doubled" l),.int (cnt "over" l),.int (qz g l)]
theorem Vw(l:O Nat):(l.map λ(n:Nat)=>(n:Int)).sum=((l.sum:Nat):Int):=by
 induction l with
 | nil=>rfl
 | cons a l ih=>rw[Aq,Bh,Bh,ih];omega
theorem Pc(u:WT)(hz:u.size<=300)(hk:∀x∈u.post,Kn g x):(o8 (fx g) u.pv).le (.ret (aj1 g u.post)):=λQ q=>by
 have k0:∀(x:PV) (l:O PV),bV (x::l) 0=ap x:=λ_ _=>bJ (j:=0) rfl;have k1:∀(x y:PV) (l:O PV),bV (x::y::l) 1=ap y:=λ_ _ _=>bJ (j:=1) rfl;unfold o8;simp only[ga,bn];refine W.le.use (RJ u ∅) ?_;simp only[bX,kw];rw[oU (c:=WT.pv) (k:=λx=>.str x.kK) λx _=>by
  rw[x.uR];simp only[ga,au,ba,k1,sw]]
 rw[oU (c:=WT.pv) (k:=λx=>.int (vz g x.pre:Nat)) λx hx=>by
  rw[x.uR];simp only[ga,au,ba,k0,sw,SH (hk x hx).2.1]]
 have e1:u.post.map (λx=>PV.int (vz g x.pre:Nat))=((u.post.map λx=>vz g x.pre).map λ(n:Nat)=>(n:Int)).map PV.int:=by simp
 rw[e1];unfold jg;simp only[kw,bn,dG,Vw];rw[oU (c:=PV.str) (k:=λnm=>.int (cnt nm u.post)) λnm _=>by
  simp only[ga,gM,agc]]
 simp only[kw];rw[eU (by simp)];exact q
theorem Sb(a b c d:Int){x y z w:Int}(hx:0<=x/\x<=1000000000)(hy:0<=y/\y<=1000000000)(hz:0<=z/\z<=1000000000)(hw:0<=w/\w<=1000000000):rO (.tup [.int a,.int b,.int c,.int d]) (.tup [.int x,.int y,.int z,.int w])=.ret (.int (a*x+b*y+c*z+d*w)):=by
 unfold rO;have e:pK [PV.int a,.int b,.int c,.int d] [PV.int x,.int y,.int z,.int w]=.ret [.tup [.int a,.int x],.tup [.int b,.int y],.tup [.int c,.int z],.tup [.int d,.int w]]:=by
  unfold pK;rw[mo (bB (by simp))];simp[ko]
 have m1:ut a x:=mulR ∅;have m2:ut b y:=mulR ∅;have m3:ut c z:=mulR ∅;have m4:ut d w:=mulR ∅;simp only[ga,au,e];have em:a7 [PV.tup [.int a,.int x],.tup [.int b,.int y],.tup [.int c,.int z],.tup [.int d,.int w]] (λp4=>am (m9 p4) λt5=>of2 kY t5.1 t5.2)=.ret ([a*x,b*y,c*z,d*w].map PV.int):=by
  simp[a7,mo m1,mo m2,mo m3,mo m4]
 rw[em];unfold jg;simp only[ga,dG];congr 2;simp;omega
def pF(nm:Str)(l m:O WT):cnt nm (l++m)=cnt nm l+cnt nm m:=by unfold cnt;exact ER
def pE(nm:Str)(x:WT):cnt nm [x]=if x.kK==nm then 1 else 0:=by unfold cnt;simp[Fd]
def lo_le(g:O Sy)(p:O Nat):vz g p<=p.length:=BG _ _
theorem QP:∀(l:O WT),(∀x∈l,Kn g x)->qz g l<=300*l.length
 | [],_=>A3 _
 | x::l,h=>by
  have h1:=QP l λy hy=>h y (.tail _ hy);have h2:=(h x (.head _)).2.2;have h3:=lo_le g x.pre;have e:qz g (x::l)=vz g x.pre+qz g l:=by unfold qz;simp
  rw[e,Ap];omega
def pf(f:Nat->Nat):O Nat->Nat->O Nat
 | [],_=>[]
 | x::r,i=>if f x=f (r.headD i) then pf f r i else f x::pf f r i
def wm(f:Nat->Nat):WT->WT
 | .lf p i=>.lf (pf f p i) (f i)
 | .nd p i nm a b=>.nd (pf f p i) (f i) nm (wm f a) (wm f b)
end My
variable{m:Nat}
namespace My
theorem Vn:∀ns l Q,gh ns->((rj 1 bM) l).run Q->((λlo l=>rj 1 (kD lo) l) (ns.map PV.int) l).run λt=>Q t.1/\∃Gx:O Int,t.2=Gx.map PV.int/\gh Gx:=by
 rintro ns l Q ⟨g,s,c,rfl,g0,s0,s1,c0⟩ q
 match l,q with
 | [],q=>exact q.elim
 | _::_::_,q=>exact q.elim
 | [x],q=>
  show(kD _ x).run _;have q:=q;cases x with
  | int m=>
   obtain⟨⟨m0,m1⟩,q⟩:=q;have q:∀d:Int,0<=d->d < m->Q (.int d):=λd h0 h1=>q _ ⟨d,rfl,h0,h1⟩;unfold kD;generalize hA:(2147483647:Int)=A;generalize hB:(2147483629:Int)=B;generalize hD:(40009:Int)=D;have A0:0 < A:=by omega
   have B0:0 < B:=by omega
   have D0:0 < D:=by omega
   have e1:ut s 48271:=mulR ∅;have nx:∀N,N=(s*48271+12345+(c+1)) % A->(ut N (N % D+3))/\((Q (PV.int (N*(N % D+3) % B / 7 % m))))/\∃Gx:O Int,[PV.int g,PV.int N,PV.int (c+1)]=Gx.map PV.int/\gh Gx:=λN hN=>by
    have N0:0<=N:=by rw[hN];exact C8 _ ∅
    have N1:N < A:=by rw[hN];exact CD _ A0
    exact⟨acN ∅ ∅,q _ (C8 _ ∅) (CD _ m0),[g,N,c+1],rfl,_,_,_,rfl,g0,N0,by omega,by omega⟩
   obtain⟨k1,k2,k3⟩:=nx _ rfl;by_cases hg:0 < g
   ·by_cases hc:c+1<=60
    ·simp[bV,uh,hg,hc,m0,gs,UH];refine⟨by omega,q _ (C8 _ ∅) (CD _ m0),[g / m,s,c+1],rfl,_,_,_,rfl,Int.ediv_nonneg g0 ∅,s0,s1,by omega⟩
    ·simp[bV,uh,hg,hc,m0,gs,e1,A0,B0,D0,UH];exact⟨k1,k2,k3⟩
   ·simp[bV,uh,hg,m0,gs,e1,A0,B0,D0,UH];exact⟨k1,k2,k3⟩
  | _=>exact q.elim
theorem XI{k:Int}(k0:0<=k)(k1:k<=1000)(q:∀l,(∃ms:O Int,l=ms.map PV.int/\gh ms)->Q l):(ke (.cl (ns.map PV.int)) (.int k)).run Q:=by
 unfold ke;generalize hA:(2147483647:Int)=A;generalize hB:(2147483629:Int)=B;have A0:0 < A:=by omega
 have B0:0 < B:=by omega
 have fin:∀x:Int,((PV.int x)\λox=>am (b2 kY (c1 Mk (bd ox)) (c1 Pp (b2 oGe (c1 Mk (bd ox)) (b2 WJ (bd (.int 10)) (bd (.int 18)))))) λiI=>
  (iI\λx3=>am (b2 oMod (b2 kY (w2 addW (w2 addW (b2 oMod (bd ox) (bd (.int B))) (b2 kY (b2 kY (bd (.int 7919)) (bd (.int k))) (bd (.int k)))) (bd (.int 11))) (bd (.int 48271))) (bd (.int A))) λx4=>(.int 0)\λx5=>bd [x3,x4,x5])).run Q:=by
  intro x;have p2:YY 10 18:=⟨by decide,by decide,by decide⟩;simp only[ga,afZ,X7,mo p2,Je,X9,ajR,abC,dN,W.YC,W.ZL,kw,mo (mulL (show -1000000000<=(7919:Int)/\(7919:Int)<=1000000000 by decide)),mo A0,mo B0];refine⟨?_,mulR ∅,mulR ∅,?_⟩
  ·split
   ·exact mulR ∅
   ·exact mulR ∅
  ·refine q _ ⟨[_,_,_],rfl,_,_,_,rfl,Int.mul_nonneg (agr _) ?_,C8 _ ∅,by have:=CD ((x % B+7919*k*k+11)*48271) A0;omega,Ct _⟩
   split <;> split <;> decide
 by_cases fC:k < (ns.length:Int)
 ·obtain⟨v,e,e2⟩:=YK (xs:=ns.map PV.int) k0 (by rw[Ae];exact fC);rw[Aj]at e2;obtain⟨c,rfl⟩:∃c,v=.int c:=by
   cases z:ns[k.toNat]? with
   | none=>rw[z]at e2;cases e2
   | some c=>rw[z]at e2;exact⟨c,(Option.some.inj e2).symm⟩
  simp only[ga,gN,LZ,Ae,fC,decide_true,bg,if_true,bX,ba,e,sw];exact fin c
 ·simp only[ga,gN,LZ,Ae,fC,decide_false,bg,Ao,if_false];exact fin 0
def aiI(h:x∈[PV.str "",PV.str "",PV.str "a",PV.str "zq",PV.str "mnopqrs"]):∃y:Str,x=.str y/\Part y 7:=by
 simp at h;rcases h with rfl | rfl | rfl | rfl
 ·exact⟨"",rfl,by decide +kernel,by decide +kernel⟩
 ·exact⟨"a",rfl,by decide +kernel,by decide +kernel⟩
 ·exact⟨"zq",rfl,by decide +kernel,by decide +kernel⟩
 ·exact⟨"mnopqrs",rfl,by decide +kernel,by decide +kernel⟩
def aiJ(h:x∈[PV.int 1,PV.int 3,PV.int 5,PV.int 7,PV.int 9,PV.int 11]):∃st:Int,x=.int st/\(st=1\/st=3\/st=5\/st=7\/st=9\/st=11):=by
 simp at h;rcases h with rfl | rfl | rfl | rfl | rfl | rfl <;> exact⟨_,rfl,by decide⟩
theorem U4{c:Nat}(b:Part y 7)(h0:97<=c)(h1:c < 123):Wd ((⟨#[c]⟩:Str)++y):=by
 have hl:((⟨#[c]⟩:Str)++y).length=1+y.length:=by rw[Str.length_append];rfl
 have:=b.1;refine⟨by omega,by omega,λd hd=>?_⟩;have e:((⟨#[c]⟩:Str)++y).cps.toList=c::y.cps.toList:=by
  show((⟨#[c]⟩:Str).cps++y.cps).toList=_;simp
 rw[e]at hd;rcases AA.mp hd with rfl | hd
 ·exact⟨h0,h1⟩
 ·exact b.2 d hd
theorem MY(m1:m<=26)(q:∀ws:O Str,ws.length=m->(∀x∈ws,Wd x)->ws.Nodup->(ws.map λx=>x.cps[0]?).Nodup->Q (ws.map PV.str)):(ju (.int m)).run Q:=by
 unfold ju;simp only[ga,bn,eJ 26 ⋯ ⋯];refine cq λd a b=>?_;refine pick_run (by simp) (by simp) λx hx=>?_;obtain⟨st,rfl,pj⟩:=aiJ hx;simp only[kw,ib];refine pick_run (by simp) (by simp) λy hy=>?_;obtain⟨tl,rfl,ht⟩:=aiI hy;simp only[cQ,mo (bf (i:=0) (j:=(m:Int)) ∅ ∅),kw,A5];rw[lh]
 let w:Nat->Str:=λk=>⟨#[97+((d+st*(0+(k:Int))) % 26).toNat]⟩++tl
 refine GC (λk=>.str (w k)) (λk hk=>?_) ?_
 ·have e0:0<=(d+st*(0+(k:Int))) % 26:=C8 _ ⋯;have e1:(d+st*(0+(k:Int))) % 26 < 26:=CD _ ⋯;have e2:(d+st*(k:Int))=d+st*(0+(k:Int)):=by rw[Ds]
  have c1:ut st (k:Int):=mulL ∅;have c2:("abcdefghijklmnopqrstuvwxyz":Str).length<=sizeLine:=by decide +kernel
  have c3:(⟨#[97+((d+st*(0+(k:Int))) % 26).toNat]⟩:Str).length+tl.length<=sizeLine:=bB (by have:=ht.1;show 1+tl.length<=1000;omega);simp only[ga,Je,mo c1,dN,X9,mo (show(0:Int) < 26 by decide),e2,afW _ _ (SJ e0 e1),mo c2,abE,mo c3];rfl
 ·have e:(Av m).map (λk=>PV.str (w k))=((Av m).map w).map PV.str:=by rw[Ay];rfl
  have nd:(((Av m).map w).map λx=>x.cps[0]?).Nodup:=by
   have:=zu (d:=d) pj m1;rw[Ay];have e2:((λx:Str=>x.cps[0]?)∘w)=λk:Nat=>ap (97+((d+st*(0+(k:Int))) % 26).toNat):=by
    funext k;show((⟨#[97+((d+st*(0+(k:Int))) % 26).toNat]⟩:Str).cps++tl.cps)[0]?=_;rw[Array.getElem?_append_left (by simp)];rfl
   rw[e2];exact this
  rw[e];refine q _ (by simp) (λx hx=>?_) (HX (g:=λx:Str=>x.cps[0]?) nd) nd;obtain⟨k,_,rfl⟩:=Am.mp hx;have e0:0<=(d+st*(0+(k:Int))) % 26:=C8 _ ⋯;have e1:(d+st*(0+(k:Int))) % 26 < 26:=CD _ ⋯;exact U4 ht ∅ ∅
def Wg(h:l[j]?=ap v)(hl:l.length<=1000):HJ l (.int (j:Int))=.ret (l.eraseIdx j,v):=by
 have hj:=(Al.mp h).1;unfold HJ;simp only[QY hj,sw,ga,h,mo (bB hl)]
def X0{l:O Tr}{x p y:Tr}(h:l[j]?=ap y)(hp:p.az.Perm (x.az++y.az)):((l.set j p).flatMap Tr.az).Perm (x.az++l.flatMap Tr.az):=by
 induction l generalizing j with
 | nil=>simp at h
 | cons a l ih=>cases j with
  | zero=>
   simp at h;subst h;simp only[List.set_cons_zero,Bw];rw[<- AH];exact hp.append_right _
  | succ j=>
   simp only[List.set_cons_succ,Bw];have:=(ih (j:=j) (by simpa using h)).append_left a.az;refine this.trans ?_;rw[<- AH,<- AH];exact De.append_right _
def OK{l:O Tr}{x:Tr}(h:l[j]?=ap x):(x.az++(l.eraseIdx j).flatMap Tr.az).Perm (l.flatMap Tr.az):=by
 induction l generalizing j with
 | nil=>simp at h
 | cons a l ih=>cases j with
  | zero=>simp at h;subst h;simp
  | succ j=>
   simp only[CY,Bw];have:=(ih (j:=j) (by simpa using h)).append_left a.az;refine List.Perm.trans ?_ this;rw[<- AH,<- AH];exact De.append_right _
def Sv{l:O Tr}:(l.map Tr.pv).eraseIdx j=(l.eraseIdx j).map Tr.pv:=by
 induction l generalizing j with
 | nil=>simp
 | cons a l ih=>cases j with
  | zero=>simp
  | succ j=>simp[ih]
theorem xM(hw:ws≠[])(h8:ws.length<=100){Q:PV->Prop}(q:∀t:Tr,t.az.Perm ws->Q t.pv):(dF (.cl (ws.map PV.str))).run Q:=by
 have hp:0 < ws.length:=CP.mpr hw;unfold dF;simp only[ga,bn,bX,kw,yf,ur,Ae,cQ,mo (bf (i:=0) (j:=(ws.length:Int)-1) ∅ ∅)];refine jE (λi s=>∃ts:O Tr,s=ts.map Tr.pv/\ts.length+i=ws.length/\(ts.flatMap Tr.az).Perm ws) ⟨ws.map Tr.leaf,by simp[Tr.pv],by simp,?_⟩ ?_ ?_
 ·rw[List.flatMap_map];have:ws.flatMap (λx=>(Tr.leaf x).az)=ws:=by simp[Tr.az,List.flatMap_singleton']
  rw[this]
 ·rintro i s hi ⟨ts,rfl,hl,hp⟩;have h2:2<=ts.length:=by omega
  simp only[ga,bn,yf,Ae,eJ (ts.length:Int) ∅ ∅,kw];refine cq λd d0 d1=>?_;obtain⟨j,rfl⟩:∃j:Nat,d=(j:Int):=⟨d.toNat,by omega⟩;obtain⟨x,hx⟩:∃x,ts[j]?=ap x:=⟨_,Ad ∅⟩;have ű:(ts.eraseIdx j).length=ts.length-1:=by rw[FP];simp;omega
  simp only[Wg (l:=ts.map Tr.pv) (v:=x.pv) (by rw[Aj,hx];rfl) (by rw[Ae];omega),kw,Sv,yf,Ae,ű,eJ ((ts.length-1:Nat):Int) ∅ ∅];refine cq λe e0 e1=>?_;obtain⟨m,rfl⟩:∃m:Nat,e=(m:Int):=⟨e.toNat,by omega⟩;obtain⟨y,hy⟩:∃y,(ts.eraseIdx j)[m]?=ap y:=⟨_,Ad ∅⟩;have i0:bV ((ts.eraseIdx j).map Tr.pv) (m:Int)=ap y.pv:=bJ (by rw[Aj,hy];rfl);have hm:m < ((ts.eraseIdx j).map Tr.pv).length:=by rw[Ae,ű];omega
  simp only[ga,ba,i0,sw,kw,eJ 2 ⋯ ⋯];refine cq λf _ _=>?_;have fin:∀p:Tr,p.az.Perm (x.az++y.az)->(gs ((ts.eraseIdx j).map Tr.pv) (.int (m:Int)) p.pv).run λs=>∃ts:O Tr,s=ts.map Tr.pv/\ts.length+(i+1)=ws.length/\(ts.flatMap Tr.az).Perm ws:=λp ŧ=>by
   rw[lN hm];exact⟨(ts.eraseIdx j).set m p,by rw[Fo],by rw[B3,ű];omega,(X0 hy ŧ).trans ((OK hx).trans hp)⟩
  simp only[eR,bg,kw];cases c:f==0 with
  | true=>exact fin (.node x y) (List.Perm.refl _)
  | false=>
   simp only[Ao,if_false,ga,jI,fj,aby,bn,kw];exact fin (.node y x) De
 ·rintro s ⟨ts,rfl,hl,hp⟩
  match ts,hl,hp with
  | [],hl,_=>simp at hl;omega
  | [t],_,hp=>
   have:t.az.Perm ws:=by simpa using hp
   exact q t this
  | _::_::_,hl,_=>simp at hl;omega
end My
variable{Q:PL.PV->Prop}
namespace My
theorem Ni(hw:ws≠[])(h8:ws.length<=100){n:Int}(n0:0 < n)(n1:n<=10)(q:∀s:Tr,(∀w∈s.az,w∈ws)->s.az.length<=n->Q s.pv):(dX (.cl (ws.map PV.str)) (.int n)).run Q:=by
 unfold dX;simp only[ga,bn,eJ n n0 ∅];refine cq λk k0 k1=>?_;obtain⟨m,hm⟩:∃m:Nat,1+k=(m:Int):=⟨(1+k).toNat,by omega⟩;simp only[dN,kw,hm,cQ,mo (bf (i:=0) (j:=(m:Int)) ∅ ∅),A5];refine nF (S:=λv=>∃w∈ws,v=PV.str w) (λx _ R r=>pick_run (by simpa using hw) (by rw[Ae];omega) λv hv=>r v (let ⟨w,h1,h2⟩:=Am.mp hv;⟨w,h1,h2.symm⟩)) λms hl hs=>?_;obtain⟨us,rfl,hu⟩:=Qc hs;rw[gC,Ae]at hl;exact xM (λz=>by rw[z]at hl;simp at hl;omega) ∅ λs hp=>q s (λw h=>hu w (hp.mem_iff.mp h)) (by rw[hp.length_eq];omega)
theorem jw:∀(n:Nat) (t:Tr),t.depth < n->t.size<=400->(bp n t.pv).le (.ret ((t.nd 0).map Ent.pv))
 | 0,_,h,_=>by omega
 | n+1,.leaf w,_,_=>λQ q=>by
  unfold bp;simp[Tr.pv];exact q
 | n+1,.node a b,h,hz=>λQ q=>by
  have hs:(Tr.node a b).size=a.size+b.size+1:=rfl;have hpa:=a.size_pos;have hpb:=b.size_pos;have hd:a.depth < n/\b.depth < n:=by simp[Tr.depth]at h;omega
  unfold bp;have i0:bV [a.pv,b.pv] 0=ap a.pv:=rfl;have i1:bV [a.pv,b.pv] 1=ap b.pv:=rfl;simp only[Tr.pv,ga,bn,gP,kg,bx,Ao,if_false,au,ba,i0,i1,sw];refine W.le.use (jw n a hd.1 ∅) ?_;simp only[kw];refine W.le.use (jw n b hd.2 ∅) ?_;simp only[kw,bX];refine fi (λi s=>s=(((b.nd 0).take i).map (shf a.size)).map Ent.pv) (by simp) (λi x s hx hs=>?_) (λs hs=>?_)
  ·subst hs;rw[Aj]at hx;cases e:(b.nd 0)[i]? with
   | none=>rw[e]at hx;cases hx
   | some en=>
    rw[e]at hx;have ex:=Option.some.inj hx;subst ex;have hi:i < b.size:=by have:=(Al.mp e).1;rw[b.bG]at this;exact this
    have et:(b.nd 0).take (i+1)=(b.nd 0).take i++[en]:=by rw[DL,e];rfl
    have al:∀y,eV ((((b.nd 0).take i).map (shf a.size)).map Ent.pv) y=.ret ((((b.nd 0).take i).map (shf a.size)).map Ent.pv++[y]):=λy=>cX (by simp;omega);cases en with
    | word w=>
     simp only[Ent.pv,ga,bn,iK,kh,bx,al,kw,et,Bq,Ao,if_false];simp[shf,Ent.pv]
    | pair u v=>
     have j0:bV [PV.int (u:Int),PV.int (v:Int)] 0=ap (.int u):=rfl;have j1:bV [PV.int (u:Int),PV.int (v:Int)] 1=ap (.int v):=rfl;simp only[Ent.pv,ga,bn,gP,kg,bx,DQ,if_true,au,ba,j0,j1,sw,dN,gN,Ae,a.bG,al,kw,et];simp[shf,Ent.pv]
  ·subst hs;rw[DM (by rw[Ae];exact An _)];have es:(b.nd 0).map (shf a.size)=b.nd a.size:=by rw[<- ND b 0 a.size,AD]
   rw[es];simp only[ga,bn,gM,ur,gN,dN,Ae,a.bG,b.bG,kw,eU (l:=(a.nd 0).map Ent.pv) (m:=(b.nd a.size).map Ent.pv) (by simp[a.bG,b.bG];omega)];rw[eU (by simp[a.bG,b.bG];omega)];have e:(Tr.node a b).nd 0=a.nd 0++b.nd a.size++[.pair (a.size-1) (a.size+b.size-1)]:=by rw[Tr.nd];simp
   rw[e]at q;have e1:((a.size:Int)-1)=((a.size-1:Nat):Int):=by omega
   have e2:((a.size:Int)+(b.size:Int)-1)=((a.size+b.size-1:Nat):Int):=by omega
   rw[e1,e2];simpa[Ent.pv]using q
end My
variable{l:O Nat}
namespace My
def ZQ(h:j∈left):ZR (ay left) (.int (j:Int))=.ret (ay (left.erase j)):=by
 show am (qa (ay left)) _=_;rw[Gz,dG];show W.fK _ _=_;rw[mo (Am.mpr ⟨j,h,rfl⟩),yg,<- Gz]
def xi(h:(ay l)[i]?=ap x):∃k,l[i]?=ap k/\x=.int (k:Int):=by
 unfold ay at h;rw[Aj]at h;cases e:l[i]? with
 | none=>rw[e]at h;cases h
 | some k=>rw[e]at h;exact⟨k,rfl,(Option.some.inj h).symm⟩
theorem Pa(t:Tr)(hz:t.size<=400)(hd:t.depth < 12)(q:∀ds d,Dt t ds [] d->d<=13*((splits t).length:Int)->Q (.tup (bq ds))):(dZ t.pv).run Q:=by
 unfold dZ;have e1:VV [PV.int 0] (.int ((t.nd 0).map Ent.pv).length)=.ret (bq (Au t.size 0)):=by
  rw[afT,mo ⟨by omega,by rw[Ae,t.bG];omega,bB (by simp[t.bG];omega)⟩];congr 1;rw[Ae,t.bG,A5]
  induction t.size with
  | zero=>rfl
  | succ n ih=>rw[BV,Cc,ih];rfl
 have e3:((t.nd 0).map Ent.pv).length<=sizeLine:=bB (by rw[Ae,t.bG];omega);simp only[ga,bn];refine W.le.use (jw 12 t hd hz) ?_;simp only[ga,gN,e1,bX,mo e3,kw];refine aiM aaM (λx hx=>?_) ?_
 ·rw[Rl]at hx;obtain⟨j,hj,rfl⟩:=Am.mp hx;cases en t 0 j with
  | word w=>simp[Ent.pv,aaM]
  | pair u v=>simp[Ent.pv,aaM]
 rw[ae9 t];have hsl:(splits t).length<=t.size:=by
  have:=Qs (splits t) 0 t.size (Dt.first t).ris λx hx=>⟨A3 _,((Dt.first t).lft x hx).1⟩;omega
 simp only[kw,yf,bo,cQ,mo (bf (i:=0) (j:=((splits t).length:Int)) ∅ ∅),A5];refine jE (λi s=>∃(ds:O Int) (left:O Nat) (d:Int),s=(bq ds,PV.int d,ay left)/\left.length+i=(splits t).length/\Dt t ds left d/\d+13*(left.length:Int)<=13*((splits t).length:Int)) ⟨_,_,0,rfl,rfl,Dt.first t,by omega⟩ ?_ ?_
 ·rintro i s hi ⟨ds,left,d,rfl,hl,D,hd⟩;have he:left≠[]:=λz=>by rw[z]at hl;simp at hl;omega
  have Ħ:left.length<=t.size:=by omega
  simp only[ga,bn,kw];refine fi (λi s=>s=ay ((left.take i).filter (UK t left))) (by simp[ay]) (λi x s hx hs=>?_) (λs hs=>?_)
  ·obtain⟨k,hk,rfl⟩:=xi hx;subst hs;have hkm:=Bi hk;have et:left.take (i+1)=left.take i++[k]:=by rw[DL,hk];rfl
   have Ď:=(Al.mp hk).1;have fl:((left.take i).filter (UK t left)).length<=i:=by
    have:=BG (UK t left) (left.take i);have:=Er i left;omega
   have al:eV (ay ((left.take i).filter (UK t left))) (.int (k:Int))=.ret (ay ((left.take i).filter (UK t left))++[.int (k:Int)]):=cX (by rw[bo];omega);obtain⟨h1,h2⟩:=D.lft k hkm;cases e:en t 0 k with
   | word w=>rw[e]at h2;cases h2
   | pair a b=>
    have j0:bV [PV.int (a:Int),PV.int (b:Int)] 0=ap (.int a):=rfl;have j1:bV [PV.int (a:Int),PV.int (b:Int)] 1=ap (.int b):=rfl;have hr:UK t left k=(!decide (a∈left)&&!decide (b∈left)):=by unfold UK;rw[e]
    rw[et,EO];simp only[ga,bX,ba,WS t h1,e,Ent.pv,sw,au,j0,j1,Oj,if_true];by_cases ca:a∈left
    ·simp[ca,hr,ay]
    ·by_cases cb:b∈left
     ·simp[ca,cb,hr,ay]
     ·simp[ca,cb,hr,al]
  ·subst hs;rw[bo,D4];have ne:=D.ah5 he;refine pick_run ne (by rw[bo];have:=BG (UK t left) left;omega) λx hx=>?_;obtain⟨j,hj,rfl⟩:=Am.mp hx;obtain⟨þ,à⟩:=Bm.mp hj;obtain⟨js,jp⟩:=D.lft j þ;cases ej:en t 0 j with
   | word w=>rw[ej]at jp;cases jp
   | pair a b=>
   unfold UK at à;rw[ej]at à;simp at à;simp only[dN,kw,eJ 12 ⋯ ⋯,ga];refine cq λy y0 y1=>?_;simp only[dN,kw,lN (l:=bq ds) (k:=j) (by rw[g9,D.len];exact js),ZQ þ,Xu,ga];refine⟨_,left.erase j,_,rfl,by rw[E7 þ];have:=Fp þ;omega,D.next þ ej à.1 à.2 y0,?_⟩;rw[E7 þ];have:=Fp þ;omega
 ·rintro s ⟨ds,left,d,rfl,hl,D,hd⟩;have:left=[]:=Cs ∅;subst this;simp;exact q ds d D (by simpa using hd)
theorem Kx(q:∀ps:O Int,ps.length=4->(∀p∈ps,0<=p/\p<=10 ^ 29)->Q (.tup (bq ps))):bK.run Q:=by
 unfold bK;have p2:YY 10 28:=⟨by decide,by decide,by decide⟩;simp only[ga,bn,kw,cQ,mo (bf (i:=0) (j:=4) ∅ ∅)];refine jE (n:=4) (λi s=>∃ps:O Int,s=bq ps/\ps.length=i/\∀p∈ps,0<=p/\p<=10 ^ 29) ⟨[],rfl,rfl,by simp⟩ ?_ ?_
 ·rintro i s hi ⟨ps,rfl,hl,hp⟩;simp only[ga,bn,kw,eJ 10 ⋯ ⋯];refine cq λa a0 a1=>?_;simp only[eJ 1001 ⋯ ⋯];refine cq λb b0 b1=>?_;simp only[gM,kw,X7,mo p2,eJ 1000 ⋯ ⋯];refine cq λc c0 c1=>?_;simp only[dN,kw];rw[eU (by simp)];refine pick_run (by simp) (by simp) λx hx=>?_;have Ř:(0:Int)<=10 ^ Int.toNat 28/\(10:Int) ^ Int.toNat 28+100000<=10 ^ 29:=by decide +kernel
  obtain⟨v,rfl,hv⟩:∃v:Int,x=.int v/\0<=v/\v<=10 ^ 29:=by
   simp at hx;rcases hx with rfl | rfl | rfl | rfl | rfl | rfl | rfl | rfl | rfl
   all_goals first | exact⟨_,rfl,by omega⟩ | exact⟨_,rfl,by have:=Ř;simp at this;omega⟩
  rw[cX (by rw[g9];omega)];exact⟨ps++[v],by simp[bq],by simp[hl],λp h=>by rcases AJ.mp h with h | h;exact hp p h;rw[AN.mp h];exact hv⟩
 ·rintro s ⟨ps,rfl,hl,hp⟩;exact q ps hl hp
def uS(q:∀ps:O Int,ps.length=4->(∀p∈ps,0<=p)->Q (.tup (bq ps))):bK.run Q:=Kx λps h k=>q ps h λp hp=>(k p hp).1
end My
variable{ps:O Int}
namespace My
abbrev OI:=Option Int
def oP:OI->PV
 | none=>.aL
 | some i=>.int i
def KP(l:O OI):O Int:=l.filterMap id
def qm(l:O OI):OI:=if bm∈l then bm else ap (KP l).sum
def ft(l:O OI):OI:=if KP l=[] then bm else ap (tS (KP l))
theorem QH:∀{l:O OI},bm∉l->l.map oP=(KP l).map PV.int
 | [],_=>rfl
 | none::l,h=>absurd (.head _) h
 | some a::l,h=>by
  have:=QH (l:=l) λz=>h (.tail _ z);rw[Aq,this];rfl
def afP(l:O OI):(l.map oP).filterMap (λx=>if x matches .aL then bm else ap x)=(KP l).map PV.int:=by
 induction l with
 | nil=>rfl
 | cons a l ih=>cases a with
  | none=>rw[Aq,Bf];exact ih
  | some i=>rw[Aq,Bf];exact congrArg _ ih
def afu(l:O OI):m8 false .aL (l.map oP)=.ret (decide (bm∈l)):=by
 have h0:∀x∈l.map oP,PV.mm x=true/\PV.jS x<=150:=λx hx=>by
  obtain⟨o,_,rfl⟩:=Am.mp hx;cases o <;> simp[oP]
 have h1:vF .aL (l.map oP):=⟨by simp,jF.mpr λx hx=>(h0 x hx).1,jG λx hx=>(h0 x hx).2⟩;have h2:qB .aL (l.map oP)=decide (bm∈l):=by
  unfold qB;rw[List.any_map];clear h0 h1
  induction l with
  | nil=>rfl
  | cons a l ih=>
   rw[BZ,ih];cases a <;> simp[oP,kS]
 unfold m8;rw[mo h1,h2];simp
def oG(l:O OI):nG (.cl (l.map oP))=.ret (oP (qm l)):=by
 unfold nG qm;simp only[ga,bX,afu];by_cases h:bm∈l
 ·simp[h,oP]
 ·rw[if_neg h];simp only[h,decide_false,Ao,if_false,gM,ga,QH h,jg,dG];rfl
def QL(l:O OI):QM ((KP l).map PV.int)=.ret (oP (ft l)):=by
 unfold QM ft;rw[dG,ga]
 split <;> rfl
def Mh(l:O OI):(pN (l.map oP) λp2=>SK (am (of2 Gw p2 .aL) asB) (bd p2))=.ret ((KP l).map PV.int):=by
 rw[<- afP];refine Ij λx hx=>?_;obtain⟨o,_,rfl⟩:=Am.mp hx;cases o <;> simp[oP,PV.f9]
def ve(l:O OI):dW (.cl (l.map oP))=.ret (oP (ft l)):=by
 unfold dW;simp only[ga,bX,Mh,QL]
def JA(l:O OI):dW (.tup (l.map oP))=.ret (oP (ft l)):=by
 unfold dW;simp only[ga,au,Mh,QL]
def Ss{a b:O Int}(h:a.Perm b):tS a=tS b:=by
 by_cases c:a=[]
 ·subst c;rw[List.nil_perm.mp h]
 ·have c2:b≠[]:=λz=>c (by subst z;exact List.perm_nil.mp h);exact FA (v8 (h.mem_iff.mpr (rM c2))) (v8 (h.mem_iff.mp (rM c)))
def GA{a b:O OI}(h:a.Perm b):ft a=ft b:=by
 have h2:(KP a).Perm (KP b):=h.filterMap _;unfold ft;rw[Ss h2];have:(KP a=[])=(KP b=[]):=propext ⟨λz=>List.nil_perm.mp (z▸h2),λz=>List.perm_nil.mp (z▸h2)⟩;simp only[this]
def Yy(l:O OI):zP (l.map oP)=true:=Mg.mpr λx hx=>by
 obtain⟨o,_,rfl⟩:=Am.mp hx;cases o <;> (rw[oP,PV.dat] <;> simp)
def dpl(d:Str):Nat:=if d="split" then 0 else if d="doubled" then 1 else 2
def J0(ps:O Int)(d:Str):Int:=ps.getD (dpl d) 0
theorem af6(d:Str):dpl d < 3:=by unfold dpl;split;omega;split <;> omega
theorem Hb(h:ps.length=4)(hk:k < 4):bV (bq ps) (k:Int)=ap (.int (ps.getD k 0)):=bJ (by
 unfold bq;rw[Aj,Ad ∅,Ai,Ad ∅];rfl)
def S7(d:Str):Prop:=d="split"\/d="doubled"\/d="over"
def Q1{d:Str}:m8 false (.str d) ([("split":Str),("doubled":Str),("over":Str)].map PV.str)=.ret (decide (d∈[("split":Str),("doubled":Str),("over":Str)])):=by
 unfold m8;rw[mo ⟨by simp,by simp[gE],by simp[fe]⟩];congr 1;simp only[qB,Aq,Cq,BZ,List.any_nil,X3,Bool.or_false,Ao,if_false];have e:∀a:Str,(a==d)=decide (d=a):=λa=>by
  by_cases c:a=d
  ·subst c;simp
  ·have c2:¬d=a:=λz=>c z.symm;simp[c,c2]
 simp[e,AA]
theorem Wf(h:ps.length=4){d:Str}(hd:S7 d):gw (.tup (bq ps)) (.str d)=.ret (.int (J0 ps d)):=by
 unfold gw;have hm:d∈[("split":Str),("doubled":Str),("over":Str)]:=by rcases hd with rfl | rfl | rfl <;> simp
 have hi:Xx ["split","doubled","over"] (.str d)=.ret (.int ((dpl d:Nat):Int)):=by
  show W.fK _ _=_;rw[mo hm];rcases hd with rfl | rfl | rfl <;> rfl
 have:=af6 d;simp only[ga,Q1,hm,decide_true,if_true,au,hi,ba,Hb h (k:=dpl d) ∅,sw];rfl
def Ky:gw (.tup (bq ps)) (.str "found")=.ret (.int 0):=by
 unfold gw;have hm:("found":Str)∉[("split":Str),("doubled":Str),("over":Str)]:=by decide +kernel
 simp only[ga,Q1,hm,decide_false,Ao,if_false]
end My
variable{T:O (O My.OI)}{row:O My.OI}
namespace My
def rg(T:O (O OI))(j i:Nat):OI:=(T.getD j []).getD i bm
def rP(T:O (O OI)):O PV:=T.map λr=>.tup (r.map oP)
def sT(ps:O Int)(R:Nat->Nat->OI)(a b:Nat)(d:Dd):OI:=qm [ap (J0 ps d.1),R a d.2.1,R b d.2.2]
def T7(g:O Sy)(ps:O Int)(R:Nat->Nat->OI)(e:Ent)(i:Nat):O OI:=match e with
 | .word w=>if hm g i w=true then [ap 0] else []
 | .pair a b=>(dl g i).map (sT ps R a b)
def fq(g:O Sy)(ps:O Int)(i:Nat):Int:=if (sy g i).un.length=2 then ps.getD 3 0 else 0
def UJ(g:O Sy)(ps:O Int)(row:O OI)(i:Nat):O OI:=(sy g i).un.map λu=>qm [ap (fq g ps i),row.getD u bm]
def m7(g:O Sy)(ps:O Int)(R:Nat->Nat->OI)(e:Ent):Nat->O OI
 | 0=>[]
 | k+1=>m7 g ps R e k++[ft (T7 g ps R e k++UJ g ps (m7 g ps R e k) k)]
def cJ(g:O Sy)(ps:O Int)(es:O Ent):Nat->O (O OI)
 | 0=>[]
 | j+1=>cJ g ps es j++[m7 g ps (rg (cJ g ps es j)) (Y5 es j) g.length]
theorem kX(g:O Sy)(ps:O Int)(R:Nat->Nat->OI)(e:Ent):∀k,(m7 g ps R e k).length=k
 | 0=>rfl
 | k+1=>by rw[m7,Ah,kX g ps R e k];rfl
theorem jd(g:O Sy)(ps:O Int)(es:O Ent):∀j,(cJ g ps es j).length=j
 | 0=>rfl
 | j+1=>by rw[cJ,Ah,jd g ps es j];rfl
structure Wide(g:List Sy)(T:List (List OI))(n:Nat):Prop where
 len:T.length=n
 row:∀j,j < n->(T.getD j []).length=g.length
theorem oE(g:O Sy)(ps:O Int)(es:O Ent):∀j,Wide g (cJ g ps es j) j
 | 0=>⟨rfl,λj h=>absurd h (C6 j)⟩
 | j+1=>⟨jd g ps es _,λk hk=>by
  have W:=oE g ps es j;rw[cJ];by_cases c:k < j
  ·rw[iX (by rw[W.len];exact c)];exact W.row k c
  ·have:k=j:=by omega
   subst this;rw[gD (by rw[W.len];exact An _),W.len,Cy];exact kX _ _ _ _ _⟩
def acD(W':Wide g T n)(hj:j < n)(hi:i < g.length):(bh (am (bh (bd (rP T)) (bd (.int (j:Int)))) ar) (bd (.int (i:Int))))=.ret (oP (rg T j i)):=by
 have hl:=W'.row j hj;have h1:bV (rP T) (j:Int)=ap (.tup ((T.getD j []).map oP)):=bJ (by
  unfold rP;rw[Aj,Ad (by rw[W'.len];exact hj),Ai,Ad (by rw[W'.len];exact hj)];rfl)
 have h2:bV ((T.getD j []).map oP) (i:Int)=ap (oP (rg T j i)):=bJ (by
  unfold rg;rw[Aj,Ad (by rw[hl];exact hi),Ai (l:=T.getD j []),Ad (by rw[hl];exact hi)];rfl)
 simp only[ga,ba,h1,sw,au,h2]
def adn(h:d∈dl g i):S7 d.1:=by
 unfold dl at h;rcases AA.mp h with rfl | h
 ·exact .inr (.inl rfl)
 rcases AJ.mp h with h | h
 ·unfold wW at h
  split at h
  ·simp at h;rcases h with rfl | rfl <;> exact .inl rfl
  ·cases h
 ·rcases AJ.mp h with h | h <;> obtain⟨o,_,rfl⟩:=Am.mp h <;> exact .inr (.inr rfl)
def Wm{f:α->β}{a b:List β}(h:a.Perm b):∀{l:List α},b=l.map f->∃ds:List α,a=ds.map f/\ds.Perm l:=by
 induction h with
 | nil=>intro l e;exact⟨[],rfl,by rw[List.map_eq_nil_iff.mp e.symm]⟩
 | cons x _ ih=>
  intro l e;cases l with
  | nil=>cases e
  | cons y l=>
   injection e with e1 e2;obtain⟨ds,h1,h2⟩:=ih e2;exact⟨y::ds,by rw[Aq,e1,h1],h2.cons y⟩
 | swap x y r=>
  intro l e
  match l,e with
  | u::v::l,e=>
   injection e with e1 e2;injection e2 with e2 e3;exact⟨v::u::l,by rw[Aq,Aq,e1,e2,e3],.swap u v l⟩
 | trans _ _ MH Q2=>
  intro l e;obtain⟨ds,h1,h2⟩:=Q2 e;obtain⟨es,h3,h4⟩:=MH h1;exact⟨es,h3,h4.trans h2⟩
theorem GU(f h:α->β):∀l:List α,(l.map f++l.map h).Perm (l.flatMap λo=>[f o,h o])
 | []=>.nil
 | a::l=>by
  rw[Aq,Aq,Bw,BS];exact((List.perm_middle).trans ((GU f h l).cons _)).cons _
def Jv(g:O Sy)(i:Nat):(dl g i).Perm (dds g i):=((GU (λo=>(("over",i,o):Dd)) (λo=>(("over",o,i):Dd)) (sy g i).be).append_left _).cons _
def adm(G:WG g ws)(h:i < g.length)(hd:d∈dl g i):d.2.1 < g.length/\d.2.2 < g.length:=af9 G h ((Jv g i).mem_iff.mp hd)
theorem Uc(p4:ps.length=4)(W':Wide g T n)(ha:a < n)(hb:b < n)(hd:S7 d.1)(hx:d.2.1 < g.length)(hy:d.2.2 < g.length):fB (.tup (bq ps)) (.cl (rP T)) (Ent.pair a b).pv (d2 d)=.ret (oP (sT ps (rg T) a b d)):=by
 unfold fB;have i0:bV [PV.str d.1,PV.tup [.int (d.2.1:Int),.int (d.2.2:Int)]] 0=ap (.str d.1):=rfl;have i1:bV [PV.str d.1,PV.tup [.int (d.2.1:Int),.int (d.2.2:Int)]] 1=ap (.tup [.int (d.2.1:Int),.int (d.2.2:Int)]):=rfl;have ez:pK [PV.int (a:Int),.int (b:Int)] [.int (d.2.1:Int),.int (d.2.2:Int)]=.ret [.tup [.int (a:Int),.int (d.2.1:Int)],.tup [.int (b:Int),.int (d.2.2:Int)]]:=mo (by simp;exact bB ∅);have ec:jT [PV.int (J0 ps d.1)] [oP (rg T a d.2.1),oP (rg T b d.2.2)]=.ret ([ap (J0 ps d.1),rg T a d.2.1,rg T b d.2.2].map oP):=by rw[eU (by simp)];rfl
 have em:(a7 [PV.tup [.int (a:Int),.int (d.2.1:Int)],.tup [.int (b:Int),.int (d.2.2:Int)]] λp6=>am (m9 p6) λt7=>(bh (am (bh (bd (rP T)) (bd t7.1)) ar) (bd t7.2)))=.ret [oP (rg T a d.2.1),oP (rg T b d.2.2)]:=by
  simp only[a7,ib,ga];have h1:=acD W' ha hx;have h2:=acD W' hb hy;simp only[ga]at h1 h2;simp only[h1,h2,ga]
 simp only[ga]at em;simp only[d2,ga,pw,Q3,ay,Aq,Cq,au,ba,i0,i1,sw,ez,em,Wf p4 hd,bX,gM,ec];exact oG [ap (J0 ps d.1),rg T a d.2.1,rg T b d.2.2]
def yt(G:WG g ws)(p4:ps.length=4)(W':Wide g T n)(he:oB n e)(hi:i < g.length){Q:O PV->Prop}(q:∀L:O OI,L.Perm (T7 g ps (rg T) e i)->Q (L.map oP)):(dq (fx g) (.tup (bq ps)) (.cl (rP T)) e.pv (.int (i:Int))).run Q:=by
 unfold dq;simp only[ga,bn];cases e with
 | word w=>
  unfold fv;simp only[Ent.pv,ga,bn,iK,kh,bx,kw,if_true,Q7 G hi];unfold T7 at q;cases h:hm g i w with
  | false=>
   simp only[h,Ao,if_false]at q ⊢;exact q [] (List.Perm.refl _)
  | true=>
   simp only[h,if_true]at q ⊢;have ef:fB (.tup (bq ps)) (.cl (rP T)) (.str w) (.tup [.str "found",.tup []])=.ret (.int 0):=by
    unfold fB;have i0:bV [PV.str "found",PV.tup []] 0=ap (.str "found"):=rfl;have i1:bV [PV.str "found",PV.tup []] 1=ap (.tup []):=rfl;have hv:dC (.str w)=.ret (.tup []):=pw (.word w);have ez:pK [] []=.ret []:=mo (by simp);have ec:jT [PV.int 0] []=.ret ([ap (0:Int)].map oP):=by rw[eU (by simp)];rfl
    simp only[ga,hv,au,ba,i0,i1,sw,ez,a7,Ky,gM,ec,oG];rfl
   simp only[kw,a7,ga,ef];exact q [ap 0] (List.Perm.refl _)
 | pair a b=>
  refine G0 G hi λm hm=>?_;obtain⟨ds,rfl,hp⟩:∃ds:O Dd,m=ds.map d2/\ds.Perm (dl g i):=Wm hm rfl;refine fg (λd=>oP (sT ps (rg T) a b d)) (λd hd=>?_) ?_
  ·have hdl:=hp.mem_iff.mp hd;obtain⟨h1,h2⟩:=adm G hi hdl;rw[Uc p4 W' he.1 he.2 (adn hdl) h1 h2];exact λQ q=>q
  ·have e:ds.map (λd=>oP (sT ps (rg T) a b d))=(ds.map (sT ps (rg T) a b)).map oP:=by rw[Ay];rfl
   rw[e];exact q _ (hp.map _)
theorem WB(p4:ps.length=4)(hi:i < g.length):j8 (fx g) (.tup (bq ps)) (.int (i:Int))=.ret (.int (fq g ps i)):=by
 unfold j8 fq;simp only[ga,jb hi,cE,bo,eR,bg,au,ba];by_cases c:(sy g i).un.length=2
 ·have h3:=Hb p4 (k:=3) ∅;have c2:(((sy g i).un.length:Int)==2)=true:=by simp[c]
  rw[if_pos c,c2];simp only[if_true];rw[show((3:Nat):Int)=3 from rfl]at h3;rw[h3];rfl
 ·have c2:(((sy g i).un.length:Int)==2)=false:=by simp;omega
  rw[if_neg c,c2];rfl
theorem Vy(G:WG g ws)(p4:ps.length=4)(hi:i < g.length)(hr:row.length=i):dm (fx g) (.tup (bq ps)) (.cl (row.map oP)) (.int (i:Int))=.ret ((UJ g ps row i).map oP):=by
 unfold dm UJ;simp only[ga,WB p4 hi,jb hi,au];rw[Ay];refine j7 λu hu=>?_;have hu:=G.dn i hi u hu;have h1:bV (row.map oP) (u:Int)=ap (oP (row.getD u bm)):=bJ (by rw[Aj,Ad ∅,Ai,Ad ∅];rfl);have e:[PV.int (fq g ps i),oP (row.getD u bm)]=[ap (fq g ps i),row.getD u bm].map oP:=rfl;simp only[ga,bX,ba,h1,sw,e,oG];rfl
theorem aek(G:WG g ws)(p4:ps.length=4)(W':Wide g T n)(he:oB n e):(rN (fx g) (.tup (bq ps)) (.cl (rP T)) e.pv).le (.ret (.tup ((m7 g ps (rg T) e g.length).map oP))):=λQ q=>by
 unfold rN;have hg:=G.len;have el:rG bO [fx g]=.ret (.int (g.length:Int)):=by simp[fx]
 simp only[ga,bn,kw];simp only[el,kw,cQ,mo (bf (i:=0) (j:=(g.length:Int)) ∅ ∅),A5];refine jE (λi s=>s=(m7 g ps (rg T) e i).map oP) rfl (λi s hi hs=>?_) (λs hs=>?_)
 ·subst hs;have Ŀ:=kX g ps (rg T) e i;refine yt G p4 W' he hi λL hL=>?_;rw[Vy G p4 hi Ŀ];have h1:L.length<=63:=by
   rw[hL.length_eq];cases e with
   | word w=>show(if hm g i w=true then [ap 0] else []).length<=63;split <;> simp
   | pair a b=>show((dl g i).map _).length<=63;rw[Ae];exact yp G hi
  have h2:(UJ g ps (m7 g ps (rg T) e i) i).length<=2:=by unfold UJ;rw[Ae];exact G.m9 i hi
  simp only[ga,bn];rw[eU (by rw[Ae,Ae];omega),<- Az];have et:Vl ((L++UJ g ps (m7 g ps (rg T) e i) i).map oP)=.ret ((L++UJ g ps (m7 g ps (rg T) e i) i).map oP):=mo (Yy _);simp only[kw,et,ve];rw[cX (by rw[Ae];omega)];show _=_;rw[m7,Az,GA (hL.append_right _)];rfl
 ·subst hs;exact q
theorem wR(G:WG g ws)(p4:ps.length=4)(hz:t.size<=400):(lU (fx g) t.pv (.tup (bq ps))).le (.ret (.tup (rP (cJ g ps (t.nd 0) t.size)))):=λQ q=>by
 unfold lU;simp only[ga,bn,kw];refine W.le.use (jq t ∅) ?_;simp only[au,kw];refine fi (λi s=>s=rP (cJ g ps (t.nd 0) i)) rfl (λi x s hx hs=>?_) (λs hs=>?_)
 ·subst hs;have hi:i < t.size:=by have:=(Al.mp hx).1;rw[cn]at this;exact this
  rw[Aj,gk t 0 i hi]at hx;have ex:=(Option.some.inj hx).symm;subst ex;simp only[bn];refine W.le.use (aek G p4 (oE g ps (t.nd 0) i) (mZ t hi)) ?_;have ed:Y5 (t.nd 0) i=en t 0 i:=by unfold Y5;rw[Ai,gk t 0 i hi];rfl
  have et:Vk (.tup ((m7 g ps (rg (cJ g ps (t.nd 0) i)) (en t 0 i) g.length).map oP))=.ret (.tup ((m7 g ps (rg (cJ g ps (t.nd 0) i)) (en t 0 i) g.length).map oP)):=mo (by rw[PV.dat];exact Yy _);simp only[et,kw];rw[cX (by unfold rP;rw[Ae,jd];omega)];show _=_;rw[cJ,ed];unfold rP;rw[Az];rfl
 ·subst hs;rw[cn];exact q
abbrev kk(j i:Nat):O Key:=[.inl (j:Int),.inl (i:Int)]
def Lh(j:Nat):Nat->O OI->O (O Key×PV)
 | _,[]=>[]
 | i,v::r=>(kk j i,oP v)::Lh j (i+1) r
def wj:Nat->O (O OI)->O (O Key×PV)
 | _,[]=>[]
 | j,r::T=>Lh j 0 r++wj (j+1) T
theorem NY{j' i':Nat}(h:kk j i=kk j' i'):j=j'/\i=i':=by
 injection h with h1 h2;injection h2 with h2 _;injection h1 with h1;injection h2 with h2;omega
def xU(a b:O (O Key×PV))(k:O Key):du (a++b) k=(du a k).or (du b k):=by
 unfold du;rw[List.find?_append];cases a.find? λkv=>decide (kv.1=k) <;> rfl
theorem afM(j:Nat)(k:O Key):∀(r:O OI) (i:Nat),(∀n,n < r.length->k≠kk j (i+n))->du (Lh j i r) k=bm
 | [],_,_=>rfl
 | v::r,i,h=>by
  have h0:¬kk j i=k:=λz=>h 0 (by simp) z.symm;have:=afM j k r (i+1) λn hn=>by have:=h (n+1) (by simpa using hn);rw[show i+1+n=i+(n+1) by omega];exact this
  unfold du at this ⊢;rw[Lh,Bt];simp only[h0,decide_false];exact this
theorem Ra(j:Nat):∀(r:O OI) (i n:Nat),n < r.length->du (Lh j i r) (kk j (i+n))=ap (oP (r.getD n bm))
 | v::r,i,0,_=>by
  unfold du;rw[Lh,Bt];simp
 | v::r,i,n+1,h=>by
  have h0:¬kk j i=kk j (i+(n+1)):=λz=>by have:=(NY z).2;omega
  have:=Ra j r (i+1) n (by simpa using h);rw[show i+1+n=i+(n+1) by omega]at this;unfold du at this ⊢;rw[Lh,Bt];simp only[h0,decide_false];exact this
theorem ajB(k:O Key):∀(T:O (O OI)) (j:Nat),(∀m n,m < T.length->n < (T.getD m []).length->k≠kk (j+m) n)->du (wj j T) k=bm
 | [],_,_=>rfl
 | r::T,j,h=>by
  rw[wj,xU,afM j k r 0 λn hn=>by rw[AD];exact h 0 n (by simp) hn,ajB k T (j+1) λm n hm hn=>by
   rw[show j+1+m=j+(m+1) by omega];exact h (m+1) n (by simpa using hm) (by simpa using hn)]
  rfl
theorem IM:∀(T:O (O OI)) (j m n:Nat),m < T.length->n < (T.getD m []).length->du (wj j T) (kk (j+m) n)=ap (oP (rg T m n))
 | r::T,j,0,n,_,hn=>by
  have:=Ra j r 0 n hn;rw[AD]at this;rw[wj,xU];show(du (Lh j 0 r) (kk j n)).or _=_;rw[this];rfl
 | r::T,j,m+1,n,hm,hn=>by
  rw[wj,xU,afM j _ r 0 λn' _ z=>by have:=(NY z).1;omega];have:=IM T (j+1) m n (by simpa using hm) (by simpa using hn);rw[show j+1+m=j+(m+1) by omega]at this;rw[this];rfl
theorem Lg(j:Nat)(v:OI):∀(r:O OI) (i:Nat),Lh j i (r++[v])=Lh j i r++[(kk j (i+r.length),oP v)]
 | [],i=>rfl
 | u::r,i=>by
  rw[BS,Lh,Lg j v r (i+1),Lh,BS,Ap,show i+1+r.length=i+(r.length+1) by omega]
theorem so(r:O OI):∀(T:O (O OI)) (j:Nat),wj j (T++[r])=wj j T++Lh (j+T.length) 0 r
 | [],j=>by rw[C7,wj,wj,wj,Ci];rfl
 | u::T,j=>by
  rw[BS,wj,so r T (j+1),wj,AH,Ap,show j+1+T.length=j+(T.length+1) by omega]
def ZY{k:O Key}(h:du kvs k=bm):FL.Ks kvs k v=kvs++[(k,v)]:=by
 unfold FL.Ks;rw[if_neg];intro c;obtain⟨x,h1,h2⟩:=Fe.mp c;unfold du at h;rw[Fi,List.find?_eq_none]at h;exact h x h1 h2
theorem QT:∀(T:O (O OI)) (j:Nat),(wj j T).length=(T.map BM).sum
 | [],_=>rfl
 | r::T,j=>by
  have:∀(r:O OI) (i:Nat),(Lh j i r).length=r.length:=λr=>by
   induction r with
   | nil=>intro i;rfl
   | cons v r ih=>intro i;rw[Lh,Ap,ih,Ap]
  rw[wj,Ah,this,QT T,Aq,Bh]
def UN(g:O Sy)(i:Nat):O Dd:=dbl i::((sy g i).be.flatMap (Sk i)++wW (sy g i).un)
def gZ(g:O Sy)(i:Nat):(UN g i).Perm (dl g i):=(De.cons _).trans (Jv g i).symm
def eP(e:Nat×Nat):PV:=.tup [.int (e.1:Int),.int (e.2:Int)]
def loP(a b:Nat)(d:Dd):PV:=.tup [.int ((dpl d.1:Nat):Int),.cl ([(a,d.2.1),(b,d.2.2)].map eP)]
def ldO(g:O Sy)(e:Ent)(i:Nat):O PV:=match e with
 | .word w=>if hm g i w=true then [.tup [.aL,.cl []]] else []
 | .pair a b=>(UN g i).map (loP a b)
theorem NV(G:WG g ws)(he:es[j]?=ap e)(hi:i < g.length):(f6 (fx g) (.cl (es.map Ent.pv)) (.int (j:Int)) (.int (i:Int))).le (.ret (ldO g e i)):=λQ q=>by
 unfold f6;have h1:bV (es.map Ent.pv) (j:Int)=ap e.pv:=bJ (by rw[Aj,he];rfl);have hu:=G.m9 i hi;have hb:=G.ab3 i hi;have gi:=OD hi;simp only[fx,ga,au,gi,Sy.pv,OO,bX,ba,h1,sw,bn];cases e with
 | word w=>
  simp only[Ent.pv,ga,iK,kh,bx,kw,if_true,eq_nil _ (show(sy g i).un.length<=1000 by omega),bg,Yb (G.nm i hi) w];have e:hm g i w=((sy g i).un.isEmpty&&zF w (sy g i).nm):=rfl;have q:Q (if hm g i w=true then [.tup [.aL,.cl []]] else []):=q;cases h1:(sy g i).un.isEmpty with
  | false=>rw[e,h1]at q;simpa using q
  | true=>cases h2:zF w (sy g i).nm with
   | false=>rw[e,h1,h2]at q;simpa using q
   | true=>rw[e,h1,h2]at q;simpa using q
 | pair a b=>
  have j0:bV [PV.int (a:Int),PV.int (b:Int)] 0=ap (.int a):=rfl;simp only[Ent.pv,ga,gP,kg,bx,kw,Ao,if_false,ib,bn];refine fi (λk s=>s=(dbl i::((sy g i).be.take k).flatMap (Sk i)).map (loP a b)) rfl (λk x s hx hs=>?_) (λs hs=>?_)
  ·obtain⟨o,ho,rfl⟩:=xi hx;subst hs;have hk:=(Al.mp ho).1;have hl:((sy g i).be.take k).length<=k:=Er _ _;have et:(sy g i).be.take (k+1)=(sy g i).be.take k++[o]:=by rw[DL,ho];rfl
   simp only[ga,bn,kw];rw[cX (by rw[Ae,Ap,lq];omega)];simp only[kw,ga];rw[cX (by rw[Ah,Ae,Ap,lq];simp;omega)];show _=_;rw[et,Cw,AH,<- BS,Az];rfl
  ·subst hs;rw[bo,D4];simp only[ga,cE,bo,eR,bg,kw];have q:Q ((dbl i::((sy g i).be.flatMap (Sk i)++wW (sy g i).un)).map (loP a b)):=q;rw[<- BS,Az]at q;have Ű:((dbl i::(sy g i).be.flatMap (Sk i)).map (loP a b)).length<=61:=by rw[Ae,Ap,lq];omega
   generalize (dbl i::(sy g i).be.flatMap (Sk i)).map (loP a b)=M at q Ű;revert hu q;generalize (sy g i).un=l;intro hu q
   match l,hu,q with
   | [],_,q=>simpa[wW]using q
   | [u],_,q=>simpa[wW]using q
   | [u,v],_,q=>
    have k0:bV [PV.int (u:Int),PV.int (v:Int)] 0=ap (.int u):=rfl;have k1:bV [PV.int (u:Int),PV.int (v:Int)] 1=ap (.int v):=rfl;have c:((([u,v]:O Nat).length:Int)==2)=true:=rfl;simp only[c,if_true,iV,jr,au,ga,ba,k0,k1,sw,bn,kw];rw[cX ∅];simp only[kw,ga];rw[cX (by rw[Ah];simp;omega)];rw[AH];exact q
def stO(g:O Sy)(i j u:Nat):PV:=.tup [if (sy g i).un.length=2 then .int 3 else .aL,.cl ([(j,u)].map eP)]
theorem Sx(hi:i < g.length)(j:Nat):iD (fx g) (.int (j:Int)) (.int (i:Int))=.ret ((sy g i).un.map (stO g i j)):=by
 unfold iD;have gi:=OD hi;have i2:bV [(sy g i).nm,PV.int (sy g i).lv,.tup (ay (sy g i).un),.tup (ay (sy g i).be)] 2=ap (.tup (ay (sy g i).un)):=rfl;simp only[fx,ga,au,gi,Sy.pv,ba,i2,sw,cE,bo,eR,bg];by_cases c:(sy g i).un.length=2
 ·have c2:(((sy g i).un.length:Int)==2)=true:=by simp[c]
  rw[c2];simp only[if_true,ga];refine j7 λu _=>?_;simp only[ga,stO,c,if_true];rfl
 ·have c2:(((sy g i).un.length:Int)==2)=false:=by simp;omega
  rw[c2];simp only[Ao,if_false,ga];refine j7 λu _=>?_;simp only[ga,stO,c,if_false];rfl
end My
variable{r:O My.OI}
namespace My
structure Op where
 pl:PV
 tot:Int
 es:List (Nat×Nat)
def Op.pv(o:Op):PV:=.tup [o.pl,.cl (o.es.map eP)]
def Op.cost(R:Nat->Nat->OI)(o:Op):OI:=qm (ap o.tot::o.es.map λe=>R e.1 e.2)
def WE(g:O Sy)(ps:O Int)(e:Ent)(i:Nat):O Op:=match e with
 | .word w=>if hm g i w=true then [⟨.aL,0,[]⟩] else []
 | .pair a b=>(UN g i).map λd=>⟨.int ((dpl d.1:Nat):Int),J0 ps d.1,[(a,d.2.1),(b,d.2.2)]⟩
def opS(g:O Sy)(ps:O Int)(i j:Nat):O Op:=(sy g i).un.map λu=>⟨if (sy g i).un.length=2 then .int 3 else .aL,fq g ps i,[(j,u)]⟩
def aeX(g:O Sy)(ps:O Int)(e:Ent)(i:Nat):(WE g ps e i).map Op.pv=ldO g e i:=by
 cases e with
 | word w=>unfold WE ldO;simp only;split <;> rfl
 | pair a b=>unfold WE ldO;simp only;rw[Ay];rfl
def aeV(g:O Sy)(ps:O Int)(i j:Nat):(opS g ps i j).map Op.pv=(sy g i).un.map (stO g i j):=by
 unfold opS;rw[Ay];rfl
def WD(g:O Sy)(ps:O Int)(R:Nat->Nat->OI)(e:Ent)(i:Nat):((WE g ps e i).map (Op.cost R)).Perm (T7 g ps R e i):=by
 cases e with
 | word w=>unfold WE T7;simp only;split <;> exact List.Perm.refl _
 | pair a b=>unfold WE T7;simp only;rw[Ay];exact(gZ g i).map _
def ZO(h:j < T.length):rg (T++[r]) j i=rg T j i:=by unfold rg;rw[iX h]
def ZN:rg (T++[r]) T.length i=r.getD i bm:=by unfold rg;rw[gD (An _),Cy];rfl
theorem wV(h:∀x∈l,x<=m):l.sum<=l.length*m:=by
 induction l with
 | nil=>simp
 | cons a l ih=>
  rw[Bh,Ap,Ew];have:=h a (.head _);have:=ih λx hx=>h x (.tail _ hx);omega
def Vg(t:Tr):rG bO [.cl ((t.nd 0).map Ent.pv)]=.ret (.int (t.size:Int)):=by rw[gN,cn]
end My
variable{x:Nat}{o:My.OI}{b v:Int}{l:O My.OI}
namespace My
section
theorem rC(R:Nat->Nat->OI)(e:Ent):∀{k:Nat},i < k->(m7 g ps R e k).getD i bm=ft (T7 g ps R e i++UJ g ps (m7 g ps R e i) i)
 | k+1,h=>by
  rw[m7];by_cases c:i < k
  ·rw[iX (by rw[kX];exact c)];exact rC R e c
  ·have:i=k:=by omega
   subst this;rw[gD (by rw[kX];exact An _),kX,Cy];rfl
theorem rk:∀{k:Nat},j < k->(cJ g ps es k).getD j []=m7 g ps (rg (cJ g ps es j)) (Y5 es j) g.length
 | k+1,h=>by
  rw[cJ];by_cases c:j < k
  ·rw[iX (by rw[jd];exact c)];exact rk c
  ·have:j=k:=by omega
   subst this;rw[gD (by rw[jd];exact An _),jd,Cy];rfl
theorem ael(h:j<=k)(ha:a < j):rg (cJ g ps es j) a x=rg (cJ g ps es k) a x:=by
 unfold rg;rw[rk ha,rk (show a < k by omega)]
def T6{R R':Nat->Nat->OI}(he:oB n e)(h:∀a x,a < n->R a x=R' a x):T7 g ps R e i=T7 g ps R' e i:=by
 cases e with
 | word w=>rfl
 | pair a b=>exact A9 λd _=>by unfold sT;rw[h a _ he.1,h b _ he.2]
def stC(g:O Sy)(ps:O Int)(f:Nat->OI)(i:Nat):O OI:=(sy g i).un.map λu=>qm [ap (fq g ps i),f u]
theorem ah3(G:WG g ws)(hj:j < n)(hi:i < g.length)(he:oB j (Y5 es j)):rg (cJ g ps es n) j i=ft (T7 g ps (rg (cJ g ps es n)) (Y5 es j) i++stC g ps (rg (cJ g ps es n) j) i):=by
 have e0:∀x,rg (cJ g ps es n) j x=(m7 g ps (rg (cJ g ps es j)) (Y5 es j) g.length).getD x bm:=λx=>by unfold rg;rw[rk hj];rfl
 rw[e0,rC _ _ hi,T6 he λa x ha=>ael (k:=n) ∅ ha];congr 2;refine A9 λu hu=>?_;have hu:=G.dn i hi u hu;rw[e0,rC _ _ hu,rC _ _ (show u < g.length by omega)]
end
theorem Og{P:Nat->Nat->Prop}(h:∀j i,j < n->i < m->(∀a x,a < j->x < m->P a x)->(∀u,u < i->P j u)->P j i):∀j i,j < n->i < m->P j i:=by
 intro j
 induction j using Cv with
 | ind j ihj=>
  intro i
  induction i using Cv with
  | ind i ihi=>exact λhj hi=>h j i hj hi (λa x ha hx=>ihj a ha x ∅ hx) λu hu=>ihi u hu hj ∅
def QO:v∈KP l↔ap v∈l:=by
 unfold KP;rw[EM];exact⟨λ⟨o,h1,h2⟩=>by rw[id]at h2;rw[<- h2];exact h1,λh=>⟨_,h,rfl⟩⟩
def eF(h:ap v∈l):∃m,ft l=ap m/\m<=v:=by
 have h:=QO.mpr h;unfold ft;rw[if_neg (λz=>by rw[z]at h;cases h)];exact⟨_,rfl,v8 h⟩
def gW{m:Int}(h:ft l=ap m):ap m∈l:=by
 unfold ft at h
 split at h
 ·cases h
 ·next c=>
  cases h;exact QO.mp (rM c)
def sum2{a:Int}:qm [ap a,ap b]=ap (a+b):=by simp[qm,KP]
def Zs{a c:Int}:qm [ap a,ap b,ap c]=ap (a+(b+c)):=by simp[qm,KP]
def Zt{a:Int}(h:qm [ap a,o]=ap v):∃b,o=ap b/\v=a+b:=by
 cases o with
 | none=>simp[qm]at h
 | some b=>rw[sum2]at h;exact⟨b,rfl,(Option.some.inj h).symm⟩
def Zr{a:Int}{p:OI}(h:qm [ap a,o,p]=ap v):∃b c,o=ap b/\p=ap c/\v=a+(b+c):=by
 cases o with
 | none=>simp[qm]at h
 | some b=>cases p with
  | none=>simp[qm]at h
  | some c=>rw[Zs]at h;exact⟨b,c,rfl,rfl,(Option.some.inj h).symm⟩
section
def uv(h:j < t.size):Y5 (t.nd 0) j=en t 0 j:=by unfold Y5;rw[Ai,gk t 0 j h];rfl
def wU(G:WG g ws)(ps:O Int)(hj:j < t.size)(hi:i < g.length):rg (cJ g ps (t.nd 0) t.size) j i=ft (T7 g ps (rg (cJ g ps (t.nd 0) t.size)) (en t 0 j) i++stC g ps (rg (cJ g ps (t.nd 0) t.size) j) i):=by
 have:=ah3 (es:=t.nd 0) (ps:=ps) G hj hi (by rw[uv hj];exact mZ t hj);rw[uv hj]at this;exact this
def Vo(G:WG g ws)(ps:O Int)(hj:j < t.size)(hi:i < g.length)(e:en t 0 j=.word w)(h:hm g i w=true):∃m,rg (cJ g ps (t.nd 0) t.size) j i=ap m/\m<=0:=by
 rw[wU G ps hj hi,e];refine eF (AZ _ ?_);show ap 0∈(if hm g i w=true then [ap 0] else []);rw[if_pos h];exact .head _
def Vq(G:WG g ws)(ps:O Int){b:Nat}{x y:Int}(hj:j < t.size)(hi:i < g.length)(e:en t 0 j=.pair a b)(hd:d∈dl g i)(h1:rg (cJ g ps (t.nd 0) t.size) a d.2.1=ap x)(h2:rg (cJ g ps (t.nd 0) t.size) b d.2.2=ap y):∃m,rg (cJ g ps (t.nd 0) t.size) j i=ap m/\m<=J0 ps d.1+(x+y):=by
 rw[wU G ps hj hi,e];refine eF (AZ _ (Am.mpr ⟨d,hd,?_⟩));unfold sT;rw[h1,h2,Zs]
def Vp(G:WG g ws)(ps:O Int){x:Int}(hj:j < t.size)(hi:i < g.length)(hu:u∈(sy g i).un)(h1:rg (cJ g ps (t.nd 0) t.size) j u=ap x):∃m,rg (cJ g ps (t.nd 0) t.size) j i=ap m/\m<=fq g ps i+x:=by
 rw[wU G ps hj hi];refine eF (AI _ (Am.mpr ⟨u,hu,?_⟩));rw[h1,sum2]
theorem Zo(G:WG g ws)(ps:O Int)(hj:j < t.size)(r:UU g i k):i < g.length->∀{x},rg (cJ g ps (t.nd 0) t.size) j k=ap x->∃m,rg (cJ g ps (t.nd 0) t.size) j i=ap m:=by
 induction r with
 | refl=>intro _ x h;exact⟨x,h⟩
 | step hu r ih=>
  intro hi x h;obtain⟨y,hy⟩:=ih (by have:=G.dn _ hi _ hu;omega) h;obtain⟨m,hm,_⟩:=Vp G ps hj hi hu hy;exact⟨m,hm⟩
theorem Zn(G:WG g ws)(ps:O Int)(hw:∀w∈t.az,w∈ws):∀j,j < t.size->∃m,rg (cJ g ps (t.nd 0) t.size) j (g.length-1)=ap m:=by
 have hp:=G.pos;intro j
 induction j using Cv with
 | ind j ih=>
  intro hj;cases e:en t 0 j with
  | word w=>
   obtain⟨i,hi,hr,hh⟩:=G.anz w (hw w (Jf t 0 j w hj e));obtain⟨m,hm,_⟩:=Vo G ps hj hi e hh;exact Zo G ps hj hr ∅ hm
  | pair a b=>
   obtain⟨h1,h2⟩:=fF t hj e;obtain⟨x,hx⟩:=ih a h1 ∅;obtain⟨y,hy⟩:=ih b h2 ∅;obtain⟨m,hm,_⟩:=Vq G ps hj (show g.length-1 < g.length by omega) e (d:=dbl (g.length-1)) (.head _) hx hy;exact⟨m,hm⟩
end
def lg(g:O Sy)(ps:O Int)(t:Tr):O OI:=(cJ g ps (t.nd 0) t.size).getD (t.size-1) []
section
theorem ue:(lg g ps t).length=g.length:=(oE g ps (t.nd 0) t.size).row _ (by have:=t.size_pos;omega)
theorem Ld(i:Nat):(lg g ps t).getD i bm=rg (cJ g ps (t.nd 0) t.size) (t.size-1) i:=rfl
def xD:ap v∈lg g ps t↔∃i,i < g.length/\rg (cJ g ps (t.nd 0) t.size) (t.size-1) i=ap v:=by
 constructor
 ·intro h;obtain⟨i,hi⟩:=Dn h;refine⟨i,by have:=(Al.mp hi).1;rw[ue]at this;exact this,?_⟩;rw[<- Ld,Ai,hi];rfl
 ·rintro⟨i,hi,h⟩;rw[<- Ld,Ai,Ad (by rw[ue];exact hi)]at h;have h:(lg g ps t)[i]'(by rw[ue];exact hi)=ap v:=h;rw[<- h];exact CV _
theorem least_le(G:WG g ws)(p4:ps.length=4)(hz:t.size<=400):(v9 (fx g) t.pv (.tup (bq ps))).le (.ret (oP (ft (lg g ps t)))):=λQ q=>by
 unfold v9;simp only[ga,bn];refine W.le.use (wR G p4 hz) ?_;have hp:=t.size_pos;have hl:=jd g ps (t.nd 0) t.size;have hx:bV (rP (cJ g ps (t.nd 0) t.size)) (-1)=ap (.tup ((lg g ps t).map oP)):=by
  unfold bV uh;have e:(rP (cJ g ps (t.nd 0) t.size)).length=t.size:=by unfold rP;rw[Ae,hl]
  rw[e,if_neg ∅,if_pos ∅];show(rP (cJ g ps (t.nd 0) t.size))[(-1+(t.size:Int)).toNat]?=_;rw[show(-1+(t.size:Int)).toNat=t.size-1 by omega];unfold rP lg;rw[Aj,Ad ∅,Ai,Ad ∅];rfl
 simp only[au,kw,jI,ba,hx,sw,JA];exact q
theorem NU(G:WG g ws)(hw:∀w∈t.az,w∈ws):∃m,ft (lg g ps t)=ap m:=by
 have hp:=t.size_pos;have hg:=G.pos;obtain⟨v,hv⟩:=Zn G ps hw (t.size-1) ∅;obtain⟨m,hm,_⟩:=eF (xD.mpr ⟨g.length-1,by omega,hv⟩);exact⟨m,hm⟩
end
end My
variable{U:O (O My.OI)}
namespace My
def Wid(g:O Sy)(U:O (O OI)):Prop:=∀r∈U,r.length=g.length
def OT(h:r.length=g.length):fW (fx g) (.tup (r.map oP))=.ret (.bl true):=by
 unfold fW;have el:rG bO [fx g]=.ret (.int (g.length:Int)):=by simp[fx]
 have em:(a7 (r.map oP) λp2=>orB (of2 zc p2 .aL) (fu p2))=.ret ((r.map λ_=>true).map PV.bl):=by
  rw[nC (k:=λ_=>PV.bl true) λo _=>?_,Ay];rfl;cases o with
  | none=>simp[oP,PV.f9]
  | some v=>
   unfold fu;have b1:fJ .bool (.int v)=.ret (.bl false):=rfl;have ŋ:fJ .int (.int v)=.ret (.bl true):=rfl;simp[oP,PV.f9,b1,ŋ]
 have ea:qS ((r.map λ_=>true).map PV.bl)=.ret (.bl true):=by
  rw[iR,Dr];have:r.all (id∘λ_=>true)=true:=by rw[Bn];intro x _;rfl
  rw[this]
 have c:(((r.map oP).length:Int)==(g.length:Int))=true:=by rw[Ae,h];exact beq_self_eq_true _
 simp only[ga,el,w6,c,au,em,ea];rfl
theorem S5(hz:t.size<=400)(h:Wid g U):(oZ (fx g) t.pv (.tup (rP U))).le (.ret (.bl (decide (U.length=t.size)))):=λQ q=>by
 unfold oZ;simp only[ga,bn];refine W.le.use (jq t ∅) ?_;have ul:(rP U).length=U.length:=Ae _;simp only[cE,cn,kw,w6,ul];by_cases c:U.length=t.size
 ·have c2:((U.length:Int)==(t.size:Int))=true:=by rw[c];exact beq_self_eq_true _
  have em:(a7 (rP U) λp2=>fW (fx g) p2)=.ret ((U.map λ_=>true).map PV.bl):=by
   unfold rP;rw[nC (k:=λ_=>PV.bl true) λr hr=>OT (h r hr),Ay];rfl
  have ea:qS ((U.map λ_=>true).map PV.bl)=.ret (.bl true):=by
   rw[iR,Dr];have:U.all (id∘λ_=>true)=true:=by rw[Bn];intro x _;rfl
   rw[this]
  rw[c2];rw[decide_eq_true c]at q;simp only[mq,au,ga,em,ea,kw];exact q
 ·have c2:((U.length:Int)==(t.size:Int))=false:=by simp;omega
  rw[c2];rw[decide_eq_false c]at q;exact q
theorem Rq(f:α->PV)(l:List α)(i j:Option Int):∃m:List α,hV (l.map f) i j=m.map f/\(∀x∈m,x∈l)/\m.length<=l.length:=by
 refine⟨(l.drop (HT.eE l.length 0 i)).take (HT.eE l.length l.length j-HT.eE l.length 0 i),?_,λx hx=>List.mem_of_mem_drop (List.mem_of_mem_take hx),?_⟩
 ·unfold hV;rw[Ae,List.map_take,List.map_drop]
 ·rw[Dq,D5];omega
def Vm:∀ns l Q,gh ns->((rj 1 bM) l).run Q->((λlo l=>rj 1 (kC lo) l) (ns.map PV.int) l).run λt=>Q t.1/\∃Gx:O Int,t.2=Gx.map PV.int/\gh Gx:=Vn
theorem Ti:dY=nJ:=rfl
structure Low(g:List Sy) where
 top:Nat
 ht:Nat->Nat
 le:∀i,i < g.length->ht i<=top
 dn:∀i,i < g.length->∀u∈(sy g i).un,ht u < ht i
 few:g.length*2 ^ top<=600
 len:g.length<=30
 six:top<=6
def oA(g:O Sy)(t:Tr):Prop:=Nonempty (Low g)/\t.size<=7
def abp(t:Tr):(gS t).length=t.size:=by unfold gS;rw[Ae,Cb]
theorem NQ(hz:t.size<=7):Nonempty (Low (gS t)):=by
 have G:WG (gS t) t.az:=Gg ∅;have hl:=abp t;exact⟨⟨6,λi=>i,λi hi=>by omega,λi hi u hu=>G.dn i hi u hu,by rw[hl];omega,by omega,by omega⟩⟩
theorem SG(D:DD t ds)(hz:t.size<=7)(hb:(aN t ds).length<=4):Nonempty (Low (dS t ds (aN t ds))):=by
 have nd:=iu t ds (aN t ds) (aN t ds).length;have ok:=D.ok;have ll:=jh t ds (aN t ds) (aN t ds).length;have lt:=@gq t ds (aN t ds) (aN t ds).length;unfold okD at ok;have hS:∀i p,(aK t ds (aN t ds) (aN t ds).length)[i]?=ap p->sy (dS t ds (aN t ds)) i=⟨NC (en t 0 p.1) p.1,p.2,(Mj (en t 0 p.1) p.1 (ds.getD p.1 0) ((aN t ds).getD p.2 0)).map λx=>(aK t ds (aN t ds) (aN t ds).length).idxOf (x,p.2-1),bsd (aK t ds (aN t ds) (aN t ds).length) p.1 p.2⟩:=λi p hp=>by
  unfold sy dS;rw[Ai,Aj,hp];rfl
 have hL:(dS t ds (aN t ds)).length=(aK t ds (aN t ds) (aN t ds).length).length:=Yz t ds _;have ũ:=EI hb hz;generalize aK t ds (aN t ds) (aN t ds).length=L at *;have get:∀i,i < (dS t ds (aN t ds)).length->∃p,L[i]?=ap p/\p∈L:=λi hi=>by
  rw[hL]at hi;exact⟨L[i],Ad hi,CV hi⟩
 refine⟨⟨3,λi=>(L.getD i (0,0)).2,λi hi=>?_,λi hi u hu=>?_,by rw[hL];omega,by rw[hL];omega,by omega⟩⟩
 ·obtain⟨p,hp,hm⟩:=get i hi;have:=(lt hm).1;show(L.getD i (0,0)).2<=3;rw[Ai,hp];show p.2<=3;omega
 ·obtain⟨p,hp,hm⟩:=get i hi;rw[hS i p hp]at hu;obtain⟨x,hx,rfl⟩:=Am.mp hu;obtain⟨h1,h2⟩:=ok p hm x hx;show(L.getD _ (0,0)).2 < (L.getD i (0,0)).2;rw[Ai,Ai,hp,JD h2];show p.2-1 < p.2;omega
theorem Nd(g:RF t)(h4:t.az.length<=4)(q:∀s,WG s t.az->Low s->Q (fx s)):(fY t.pv).run Q:=by
 have hz:=t.size_eq;have hdp:=g.depth;unfold fY;simp only[ga,bn,eJ 2 ⋯ ⋯];refine cq λd _ _=>?_;simp only[eR,bg,kw];cases c:d==0 with
 | true=>
  simp only[if_true];refine Th t ∅ Q ?_;rw[<- ajD];obtain⟨w⟩:=NQ (t:=t) ∅;exact q _ (Gg ∅) w
 | false=>
  simp only[Ao,if_false,bn];refine Pa t ∅ ∅ λds d D ass=>?_;have Þ:(splits t).length<=3:=by have:=Ng t;omega
  have DDt:=DD.of (D.isD ∅);have hb:(aN t ds).length<=4:=by unfold aN;rw[Ap,tI];unfold Qk;rw[Ae];omega
  refine Yw DDt ∅ Q ?_;rw[<- aj6];obtain⟨w⟩:=SG DDt ∅ hb;exact q _ (U6 DDt ∅ ∅) w
theorem Ow(q:∀(t:Tr) (ws:O Str),RF t->t.az.Perm ws->t.az.length<=4->Q (.tup [t.pv,.cl (ws.map PV.str)])):(dY (.int 4)).run Q:=by
 rw[Ti];unfold nJ;simp only[ga,bn,eJ 4 ⋯ ⋯];refine cq λk k0 k1=>?_;obtain⟨m,hm⟩:∃m:Nat,1+k=(m:Int):=⟨(1+k).toNat,by omega⟩;simp only[dN,kw,hm];refine MY ∅ λws hl hw hd hb=>?_;refine xM (λz=>by rw[z]at hl;simp at hl;omega) ∅ λt ht=>?_;exact q t ws ⟨λx hx=>hw x (ht.mem_iff.mp hx),ht.nodup_iff.mpr hd,by rw[ht.length_eq,hl];omega,0,by decide,(ht.map _).nodup_iff.mpr hb⟩ ht (by rw[ht.length_eq,hl];omega)
def Ki(k:Nat):WT->WT
 | .lf p i=>.lf (k::p) i
 | .nd p i nm a b=>.nd (k::p) i nm a b
def wD(g:O Sy)(R:Nat->Nat->O WT)(e:Ent)(i:Nat):O WT:=match e with
 | .word w=>if hm g i w=true then [.lf [] i] else []
 | .pair a b=>(UN g i).flatMap λd=>(R a d.2.1).flatMap λone=>(R b d.2.2).map λo=>.nd [] i d.1 one o
def wy(g:O Sy)(es:O Ent):Nat->Nat->Nat->O WT
 | 0,_,_=>[]
 | n+1,j,i=>wD g (wy g es n) (Y5 es j) i++(sy g i).un.flatMap λu=>(wy g es n j u).map (Ki i)
theorem mn{f h:α->List β}:∀{l:List α},(∀x∈l,f x=h x)->l.flatMap f=l.flatMap h
 | [],_=>rfl
 | x::l,H=>by rw[Bw,Bw,H x (.head _),mn λy hy=>H y (.tail _ hy)]
def md(G:WG g ws)(h:i < g.length)(hd:d∈UN g i):d.2.1 < g.length/\d.2.2 < g.length:=adm G h ((gZ g i).mem_iff.mp hd)
def afa(hd:d∈UN g i):S7 d.1:=adn ((gZ g i).mem_iff.mp hd)
def J9(G:WG g ws){R R':Nat->Nat->O WT}(hi:i < g.length)(he:oB n e)(h:∀a x,a < n->x < g.length->R a x=R' a x):wD g R e i=wD g R' e i:=by
 cases e with
 | word w=>rfl
 | pair a b=>
  refine mn λd hd=>?_;obtain⟨h1,h2⟩:=md G hi hd;rw[h a _ he.1 h1,h b _ he.2 h2]
theorem vP(G:WG g ws)(Lo:Low g)(t:Tr):∀(n m j i:Nat),j < t.size->i < g.length->j*7+Lo.ht i < n->j*7+Lo.ht i < m->wy g (t.nd 0) n j i=wy g (t.nd 0) m j i
 | 0,_,_,_,_,_,h,_=>absurd h (C6 _)
 | _+1,0,_,_,_,_,_,h=>absurd h (C6 _)
 | n+1,m+1,j,i,hj,hi,h1,h2=>by
  rw[wy,wy,uv hj];rw[J9 G hi (mZ t hj) λa x ha hx=>by
   have:=Lo.le x hx;have:=Lo.six;exact vP G Lo t n m a x ∅ hx ∅ ∅]
  congr 1;refine mn λu hu=>?_;have:=G.dn i hi u hu;have:=Lo.dn i hi u hu;rw[vP G Lo t n m j u hj ∅ ∅ ∅]
theorem ahr(G:WG g ws)(Lo:Low g)(hn:t.size*7<=n)(hj:j < t.size)(hi:i < g.length):wy g (t.nd 0) n j i=wD g (wy g (t.nd 0) n) (en t 0 j) i++(sy g i).un.flatMap λu=>(wy g (t.nd 0) n j u).map (Ki i):=by
 have:=Lo.le i hi;have:=Lo.six;cases n with
 | zero=>omega
 | succ n=>
  rw[wy,uv hj];rw[J9 (R':=wy g (t.nd 0) (n+1)) G hi (mZ t hj) λa x ha hx=>by
   have:=Lo.le x hx;exact vP G Lo t n (n+1) a x ∅ hx ∅ ∅]
  congr 1;refine mn λu hu=>?_;have:=G.dn i hi u hu;have:=Lo.dn i hi u hu;rw[vP G Lo t n (n+1) j u hj ∅ ∅ ∅]
def kr(g:O Sy)(t:Tr):Nat->Nat->O WT:=wy g (t.nd 0) 50
theorem tF(G:WG g ws)(hn:oA g t)(hj:j < t.size)(hi:i < g.length):kr g t j i=wD g (kr g t) (en t 0 j) i++(sy g i).un.flatMap λu=>(kr g t j u).map (Ki i):=by
 unfold kr;obtain⟨⟨Lo⟩,h7⟩:=hn;exact ahr G Lo ∅ hj hi
def wf(g:O Sy):WT->Prop
 | .lf p _=>∀k∈p,k < g.length
 | .nd p _ nm a b=>(∀k∈p,k < g.length)/\S7 nm/\wf g a/\wf g b
def ad6(hk:k < g.length):∀{w:WT},wf g w->wf g (Ki k w)
 | .lf p i,h=>λx hx=>by rcases AA.mp hx with rfl | hx;exact hk;exact h x hx
 | .nd p i nm a b,h=>⟨λx hx=>by rcases AA.mp hx with rfl | hx;exact hk;exact h.1 x hx,h.2⟩
def rm(k:Nat)(w:WT):(Ki k w).path=k::w.path:=by cases w <;> rfl
def RP(k:Nat)(w:WT):(Ki k w).depth=w.depth:=by cases w <;> rfl
theorem z9(G:WG g ws)(t:Tr):∀(n j i:Nat),j < t.size->i < g.length->∀w∈wy g (t.nd 0) n j i,wf g w/\w.path.length<=i+1/\w.depth<=j
 | 0,_,_,_,_,_,h=>by cases h
 | n+1,j,i,hj,hi,w,h=>by
  rw[wy,uv hj]at h;have fC:=mZ t hj;rcases AJ.mp h with h | h
  ·revert h fC;cases en t 0 j with
   | word x=>
    intro _ h;have h:w∈(if hm g i x=true then [WT.lf [] i] else []):=h
    split at h
    ·rw[AN.mp h];exact⟨λk hk=>(by cases hk),by show([]++[i]).length<=_;simp,A3 _⟩
    ·cases h
   | pair a b=>
    intro mi h;obtain⟨d,hd,h⟩:=AE.mp h;obtain⟨one,h1,h⟩:=AE.mp h;obtain⟨o,h2,rfl⟩:=Am.mp h;obtain⟨x1,x2⟩:=md G hi hd;have mi:a < j/\b < j:=mi;have r1:=z9 G t n a _ ∅ x1 one h1;have r2:=z9 G t n b _ ∅ x2 o h2;exact⟨⟨λk hk=>(by cases hk),afa hd,r1.1,r2.1⟩,by show([]++[i]).length<=_;simp,by show max one.depth o.depth+1<=j;omega⟩
  ·obtain⟨u,hu,h⟩:=AE.mp h;obtain⟨v,hv,rfl⟩:=Am.mp h;have:=G.dn i hi u hu;have r:=z9 G t n j u hj ∅ v hv;exact⟨ad6 hi r.1,by rw[rm,Ap];omega,by rw[RP];exact r.2.2⟩
theorem iY{c:α->PV}{f:PV->O PV->W (O PV)}{h:α->O WT}(B:Nat):∀(l:List α),(∀x∈l,∀s:O WT,s.length+(h x).length<=B->(f (c x) (s.map WT.pv)).run (·=(s++h x).map WT.pv))->∀(s:O WT),s.length+(l.flatMap h).length<=B->(bH (l.map c) (s.map WT.pv) f).run (·=(s++l.flatMap h).map WT.pv)
 | [],_,s,_=>by show _=_;rw[List.flatMap_nil,Ci]
 | x::l,H,s,hB=>by
  rw[Bw,Ah]at hB;show(f (c x) (s.map WT.pv)).run _;refine W.mono _ (λr hr=>?_) (H x (.head _) s ∅);subst hr;have:=iY B l (λy hy=>H y (.tail _ hy)) (s++h x) (by rw[Ah];omega);rw[AH,<- Bw]at this;exact this
end My
variable{w:My.WT}{l:O PL.PV}
namespace My
def Rg{m:O PV}(h:l.length+m.length<=1000):yd l m=.ret (l++m):=mo (bB h)
theorem ad7(h:w.path.length<=900):(w2 addW (am (w2 addW (am (bd (.int (k:Int))) λU3=>bd (.tup [U3])) (bh (am (bd w.pv) ar) (bd (.int 0)))) λU2=>bd (.tup [U2])) (w.pv\λU1=>am (am (bd (.int 1)) part) λXy=>bm\λXo=>wX U1 Xy Xo))=.ret (Ki k w).pv:=by
 rw[w.uR];have k0:bV (PV.tup (ay w.path)::.str w.kK::w.kids.map WT.pv) 0=ap (.tup (ay w.path)):=by
  show bV _ ((0:Nat):Int)=_;exact bJ rfl
 have hc:hV (PV.tup (ay w.path)::.str w.kK::w.kids.map WT.pv) (ap 1) bm=.str w.kK::w.kids.map WT.pv:=by
  have:=Pb (PV.tup (ay w.path)::.str w.kK::w.kids.map WT.pv) (a:=1) (by simp);rw[show((1:Nat):Int)=1 from rfl]at this;rw[this];rfl
 have hk:=w.Lj;simp only[ga,au,ba,k0,sw,Rk,mo (show [PV.int (k:Int)].length+(ay w.path).length<=sizeLine from bB (by rw[bo];simp;omega)),fj,kJ,hc,mo (show [PV.tup ([PV.int (k:Int)]++ay w.path)].length+(PV.str w.kK::w.kids.map WT.pv).length<=sizeLine from bB (by simp;omega))];rw[(Ki k w).uR,rm];have e1:(Ki k w).kK=w.kK:=by cases w <;> rfl
 have e2:(Ki k w).kids=w.kids:=by cases w <;> rfl
 rw[e1,e2];rfl
theorem YN(G:WG g ws)(Lo:Low g)(hn:oA g t)(hB:∀j i,j < t.size->i < g.length->(kr g t j i).length<=600):∀(n j i:Nat),j < t.size->i < g.length->j*7+Lo.ht i < n->(cx n (fx g) (.cl ((t.nd 0).map Ent.pv)) (.int (j:Int)) (.int (i:Int))).le (.ret ((kr g t j i).map WT.pv))
 | 0,_,_,_,_,h=>absurd h (C6 _)
 | n+1,j,i,hj,hi,hN=>λQ q=>by
  have ih:=YN G Lo hn hB n;have hl:=hB j i hj hi;have eq:=tF G hn hj hi;have fC:=mZ t hj;have hu:=G.m9 i hi;have hb:=G.ab3 i hi;have h1:bV ((t.nd 0).map Ent.pv) (j:Int)=ap (en t 0 j).pv:=bJ (by rw[Aj,gk t 0 j hj];rfl);have gi:=OD hi;have es:ar (fx g)=.ret (g.map Sy.pv):=rfl;unfold cx;simp only[ga,bX,ba,h1,sw,es,gi,Sy.pv,OO,bn];rw[eq]at q hl;rw[Ah]at hl;have tail:∀s,s=(wD g (kr g t) (en t 0 j) i).map WT.pv->(bH (ay (sy g i).un) s λpH HD=>am (cx n (fx g) (.cl ((t.nd 0).map Ent.pv)) (.int (j:Int)) pH) λq9=>am (a7 q9 λSj=>(w2 addW (am (w2 addW (am (bd (.int (i:Int))) λU3=>bd (.tup [U3])) (bh (am (bd Sj) ar) (bd (.int 0)))) λU2=>bd (.tup [U2])) (Sj\λU1=>am (am (bd (.int 1)) part) λXy=>bm\λXo=>wX U1 Xy Xo))) λafh=>am (yd HD afh) λpz=>bd pz).run Q:=by
   rintro s rfl;refine W.mono _ (λr hr=>?_) (iY (c:=λn:Nat=>PV.int (n:Int)) (h:=λu=>(kr g t j u).map (Ki i)) 600 (sy g i).un (λu UO s hs=>?_) (wD g (kr g t) (en t 0 j) i) hl)
   ·rw[hr];exact q
   ·have ul:=G.dn i hi u UO;have ul2:=Lo.dn i hi u UO;simp only[bn];refine W.le.use (ih j u hj ∅ ∅) ?_;rw[nC (k:=λw=>(Ki i w).pv) λw hw=>ad7 (by
     have:=(z9 G t 50 j u hj ∅ w hw).2.1;have:=G.len;omega)]
    simp only[kw];rw[Ae]at hs;rw[Rg (by rw[Ae,Ae];omega)];show _=_;rw[Az,Ay];rfl
  revert hl q tail fC;cases he:en t 0 j with
  | word w=>
   intro q hl _ tail;simp only[Ent.pv,ga,iK,kh,bx,kw,if_true,eq_nil _ (show(sy g i).un.length<=1000 by omega),bg,Yb (G.nm i hi) w];have e:hm g i w=((sy g i).un.isEmpty&&zF w (sy g i).nm):=rfl;have tail:=tail _ rfl;have eD:(wD g (kr g t) (.word w) i)=if hm g i w=true then [.lf [] i] else []:=rfl
   rw[eD,e]at tail;cases h1:(sy g i).un.isEmpty with
   | false=>rw[h1]at tail;simpa using tail
   | true=>cases h2:zF w (sy g i).nm with
    | false=>rw[h1,h2]at tail;simpa using tail
    | true=>rw[h1,h2]at tail;simpa[WT.pv]using tail
  | pair a b=>
   intro q hl mi tail;simp only[Ent.pv,ga,gP,kg,bx,kw,Ao,if_false,bn,au];refine fi (λk s=>s=(dbl i::((sy g i).be.take k).flatMap (Sk i)).map d3) rfl (λk x s hx hs=>?_) (λs hs=>?_)
   ·obtain⟨o,ho,rfl⟩:=xi hx;subst hs;have hk:=(Al.mp ho).1;have hl:((sy g i).be.take k).length<=k:=Er _ _;have et:(sy g i).be.take (k+1)=(sy g i).be.take k++[o]:=by rw[DL,ho];rfl
    rw[eU (by rw[Ae,Ap,lq];simp;omega)];show _=_;rw[et,Cw,<- BS,Az];rfl
   ·subst hs;rw[bo,D4];have e3:∀Q:O PV->Prop,Q ((UN g i).map d3)->(am (t2 eZ (c1 bO (bd (.tup (ay (sy g i).un)))) (bd (.int 2))) λb=>(if b=true then (
      am ((.str "split")\λadM=>am (bh (am (bd (.tup (ay (sy g i).un))) ar) (bd (.int 0))) λadL=>am (bh (am (bd (.tup (ay (sy g i).un))) ar) (bd (.int 1))) λadK=>bd (.tup [adM,adL,adK])) λadJ=>am (eV ((dbl i::(sy g i).be.flatMap (Sk i)).map d3) adJ) λrA=>
      am ((.str "split")\λadI=>am (bh (am (bd (.tup (ay (sy g i).un))) ar) (bd (.int 1))) λadH=>am (bh (am (bd (.tup (ay (sy g i).un))) ar) (bd (.int 0))) λadG=>bd (.tup [adI,adH,adG])) λadF=>am (eV rA adF) λrz=>
      bd rz) else (bd ((dbl i::(sy g i).be.flatMap (Sk i)).map d3)))).run Q:=by
     intro Q q;simp only[ga,cE,bo,eR,bg,kw,bn];have q:Q ((dbl i::((sy g i).be.flatMap (Sk i)++wW (sy g i).un)).map d3):=q;rw[<- BS,Az]at q;have Ű:((dbl i::(sy g i).be.flatMap (Sk i)).map d3).length<=61:=by rw[Ae,Ap,lq];omega
     generalize (dbl i::(sy g i).be.flatMap (Sk i)).map d3=M at q Ű;clear tail hl eq gi;revert hu q;generalize (sy g i).un=l;intro hu q
     match l,hu,q with
     | [],_,q=>simpa[wW]using q
     | [u],_,q=>simpa[wW]using q
     | [u,v],_,q=>
      have k0:bV [PV.int (u:Int),PV.int (v:Int)] 0=ap (.int u):=rfl;have k1:bV [PV.int (u:Int),PV.int (v:Int)] 1=ap (.int v):=rfl;have c:((([u,v]:O Nat).length:Int)==2)=true:=rfl;simp only[c,if_true,iV,jr,au,ga,ba,k0,k1,sw,bn,kw];rw[cX ∅];simp only[kw,ga];rw[cX (by rw[Ah];simp;omega)];rw[AH];exact q
    refine e3 _ ?_;have mi:a < j/\b < j:=mi;have j0:bV [PV.int (a:Int),PV.int (b:Int)] 0=ap (.int a):=rfl;have j1:bV [PV.int (a:Int),PV.int (b:Int)] 1=ap (.int b):=rfl;have eD:wD g (kr g t) (.pair a b) i=(UN g i).flatMap λd=>(kr g t a d.2.1).flatMap λone=>(kr g t b d.2.2).map λo=>.nd [] i d.1 one o:=rfl;refine W.mono _ (λr hr=>tail r (by rw[hr,eD,C7])) (iY (c:=d3) (h:=λd=>(kr g t a d.2.1).flatMap λone=>(kr g t b d.2.2).map λo=>.nd [] i d.1 one o) 600 (UN g i) (λd hd s hs=>?_) [] (by rw[<- eD];simp;omega));obtain⟨x1,x2⟩:=md G hi hd;have i1:=Lo.le _ x1;have i2:=Lo.le _ x2;have i3:=Lo.six;simp only[d3,afS,ga,ba,j0,j1,sw,bn];refine W.le.use (ih b d.2.2 ∅ x2 ∅) ?_;refine W.le.use (ih a d.2.1 ∅ x1 ∅) ?_;refine W.mono _ (λr hr=>hr) (iY (c:=WT.pv) (h:=λone=>(kr g t b d.2.2).map λo=>.nd [] i d.1 one o) 600 (kr g t a d.2.1) (λone _ s hs=>?_) s hs);rw[nC (c:=WT.pv) (f:=λŐ=>bd (PV.tup [PV.tup [PV.int (i:Int)],PV.str d.1,one.pv,Ő])) (k:=λo=>(WT.nd [] i d.1 one o).pv) λo _=>rfl];simp only[bn,kw];rw[Ae]at hs;rw[Rg (by rw[Ae,Ae];omega)];show _=_;rw[Az,Ay];rfl
def cN(g:O Sy)(t:Tr)(j i:Nat):Nat:=(kr g t j i).length
def cR(g:O Sy)(t:Tr)(j k:Nat):O OI:=(Av k).map λx=>ap ((cN g t j x:Nat):Int)
def cT(g:O Sy)(t:Tr)(n:Nat):O (O OI):=(Av n).map λj=>cR g t j g.length
def Pm(g:O Sy)(t:Tr)(j k:Nat):(cR g t j k).length=k:=by unfold cR;simp
def agh(g:O Sy)(t:Tr)(n:Nat):(cT g t n).length=n:=by unfold cT;simp
def ab2(g:O Sy)(t:Tr)(j k:Nat):cR g t j (k+1)=cR g t j k++[ap ((cN g t j k:Nat):Int)]:=by unfold cR;rw[Ek,Az];rfl
def ab1(g:O Sy)(t:Tr)(n:Nat):cT g t (n+1)=cT g t n++[cR g t n g.length]:=by unfold cT;rw[Ek,Az];rfl
def adt(g:O Sy)(t:Tr)(j:Nat)(h:x < k):(cR g t j k).getD x bm=ap ((cN g t j x:Nat):Int):=by
 unfold cR;rw[Ai,Aj,Bs h];rfl
def ads(g:O Sy)(t:Tr)(h:j < n):(cT g t n).getD j []=cR g t j g.length:=by
 unfold cT;rw[Ai,Aj,Bs h];rfl
theorem LU{c:α->PV}{f:PV->PV->W PV}{h:α->Nat}:∀(l:List α),(∀x∈l,∀s:Nat,(f (c x) (.int (s:Int))).run (·=.int ((s+h x:Nat):Int)))->∀(s:Nat),(bH (l.map c) (.int (s:Int)) f).run (·=.int ((s+(l.map h).sum:Nat):Int))
 | [],_,s=>by show _=_;simp
 | x::l,H,s=>by
  show(f (c x) (.int (s:Int))).run _;refine W.mono _ (λr hr=>?_) (H x (.head _) s);subst hr;have:=LU l (λy hy=>H y (.tail _ hy)) (s+h x);rw[Bk]at this;exact this
def vN(C:Nat->Nat->Nat)(o:Op):Nat:=(o.es.map λe=>C e.1 e.2).foldl (·*·) 1
def Kw{γ:Type}(f:α->β->γ)(l:List α)(m:List β):(l.flatMap λx=>m.map (f x)).length=l.length*m.length:=by
 induction l with
 | nil=>simp
 | cons x l ih=>rw[Bw,Ah,ih,Ae,Ap,Ew,Nat.add_comm]
def agi(G:WG g ws)(hn:oA g t)(hj:j < t.size)(hi:i < g.length):((WE g [] (en t 0 j) i++opS g [] i j).map (vN (cN g t))).sum=cN g t j i:=by
 show _=(kr g t j i).length;rw[tF G hn hj hi,Ah,Az,Fx];congr 1
 ·cases en t 0 j with
  | word w=>
   unfold WE wD;simp only
   split <;> rfl
  | pair a b=>
   unfold WE wD;simp only;rw[Ay,CS];congr 1;refine A9 λd _=>?_;rw[Kw];show 1*cN g t a d.2.1*cN g t b d.2.2=_;rw[FO];rfl
 ·unfold opS;rw[Ay,CS];congr 1;refine A9 λu _=>?_;rw[Ae];show 1*cN g t j u=_;rw[FO];rfl
def Bit(g:O Sy)(t:Tr):Prop:=∀j i,j < t.size->i < g.length->Builtin.Int.intBits ((cN g t j i:Nat):Int)<=2 ^ 20
def KS:ut 1 b:=IntMulOk.of_left (intBits_le_64 ⋯ ⋯)
def Z0{C:Nat->Nat->Nat}{o:Op}(hl:o.es.length<=2)(hk:∀e∈o.es,du kvs (kk e.1 e.2)=ap (.int (C e.1 e.2:Int))/\Builtin.Int.intBits ((C e.1 e.2:Nat):Int)<=2 ^ 20)(q:Q (.int (vN C o:Int))):(bH (o.es.map eP) (.int 1) λsM ZK=>(
 am (b2 kY (bd ZK) (sM\λRH=>am (xH RH) λk27=>W.MF (du kvs k27))) λiz=>
 bd iz)).run Q:=by
 have ek:∀e:Nat×Nat,xH (eP e)=.ret (kk e.1 e.2):=λe=>rfl;have q:Q (.int ((((o.es.map λe=>C e.1 e.2).foldl (·*·) 1:Nat)):Int)):=q
 match o.es,hl,hk,q with
 | [],_,_,q=>exact q
 | [e],_,hk,q=>
  have k1:=hk e (.head _);simp only[Aq,Cq,bH,ga,ek,k1.1,sw,Je,mo KS,kw];rw[Int.one_mul];have e1:([e].map λe=>C e.1 e.2).foldl (·*·) 1=C e.1 e.2:=FO _;rw[e1]at q;exact q
 | [e,f],_,hk,q=>
  have k1:=hk e (.head _);have k2:=hk f (.tail _ (.head _));simp only[Aq,Cq,bH,ga,ek,k1.1,k2.1,sw,Je,mo KS,kw,Int.one_mul,mo (IntMulOk.of_bits k1.2 k2.2)];have e1:([e,f].map λe=>C e.1 e.2).foldl (·*·) 1=C e.1 e.2*C f.1 f.2:=by show 1*_*_=_;rw[FO]
  rw[e1,Int.natCast_mul]at q;exact q
def qo(g:O Sy)(t:Tr):Nat:=((Av t.size).map λj=>((Av g.length).map (cN g t j)).sum).sum
theorem Vc(j:Nat):∀(r:O OI) (i:Nat),(Lh j i r).map (·.2)=r.map oP
 | [],_=>rfl
 | x::r,i=>by rw[Lh,Aq,Vc j r (i+1)];rfl
theorem Vd:∀(T:O (O OI)) (j:Nat),(wj j T).map (·.2)=(T.map λr=>r.map oP).flatten
 | [],_=>rfl
 | r::T,j=>by rw[wj,Az,Vc,Vd T (j+1)];rfl
theorem Vb(g:O Sy)(t:Tr):jg ((wj 0 (cT g t t.size)).map (·.2))=.ret (.int (qo g t:Int)):=by
 have e:((cT g t t.size).map λr=>r.map oP).flatten=(((Av t.size).map λj=>(Av g.length).map λi=>(cN g t j i:Int)).flatten).map PV.int:=by
  rw[List.map_flatten,Ay];unfold cT;rw[Ay];congr 1;refine A9 λj _=>?_;show(cR g t j g.length).map oP=_;unfold cR;rw[Ay];show _=((Av g.length).map λi=>(cN g t j i:Int)).map PV.int;rw[Ay];rfl
 rw[Vd,e];unfold jg;rw[dG];simp only[ga];congr 2;have h1:∀l:O Nat,(l.map λn:Nat=>(n:Int)).sum=((l.sum:Nat):Int):=λl=>by
  induction l with
  | nil=>rfl
  | cons a l ih=>rw[Aq,Bh,ih,Bh];omega
 have h0:∀a b:O Int,(a++b).sum=a.sum+b.sum:=λa b=>by
  induction a with
  | nil=>rw[C7,Fm,Ds]
  | cons x a ih=>rw[BS,Bh,ih,Bh,Int.add_assoc]
 have h2:∀L:O (O Int),L.flatten.sum=(L.map List.sum).sum:=λL=>by
  induction L with
  | nil=>rfl
  | cons a L ih=>rw[Cc,h0,ih,Aq,Bh]
 unfold qo;rw[<- h1,Ay,h2,Ay];congr 1;refine A9 λj _=>?_;show((Av g.length).map λi=>(cN g t j i:Int)).sum=((((Av g.length).map (cN g t j)).sum:Nat):Int);rw[<- h1,Ay];rfl
theorem aaK(G:WG g ws)(hn:oA g t)(hb:Bit g t)(hz:t.size<=20):(gY (fx g) (.cl ((t.nd 0).map Ent.pv))).le (.ret (.int (qo g t:Int))):=λQ q=>by
 unfold gY;have hg:=G.len;have el:rG bO [fx g]=.ret (.int (g.length:Int)):=by simp[fx]
 simp only[ga,bn,gN,cn,kw,cQ,mo (bf (i:=0) (j:=(t.size:Int)) ∅ ∅),A5];refine jE (λj s=>s=wj 0 (cT g t j)) rfl (λj s hj hs=>?_) (λs hs=>by subst hs;rw[Vb];exact q);subst hs;simp only[el,ga,bn,kw,cQ,mo (bf (i:=0) (j:=(g.length:Int)) ∅ ∅),A5];have fC:=mZ t hj;rw[ab1];refine jE (λi s=>s=wj 0 (cT g t j++[cR g t j i])) (by rw[so];exact(Ci _).symm) (λi s hi hs=>?_) (λs hs=>hs);subst hs;have Ŀ:=Pm g t j i;have eT:=agh g t j;simp only[bn];refine W.le.use (NV G (gk t 0 j hj) hi) ?_;simp only[gM,ga,kw,bn,Sx hi];rw[<- aeX g [],<- aeV g []];have l1:(WE g [] (en t 0 j) i).length<=63:=by
  have:=(WD g [] (λ_ _=>bm) (en t 0 j) i).length_eq;rw[Ae]at this;rw[this];cases en t 0 j with
  | word w=>show(if hm g i w=true then [ap 0] else []).length<=63;split <;> simp
  | pair a b=>show((dl g i).map _).length<=63;rw[Ae];exact yp G hi
 have l2:(opS g [] i j).length<=2:=by unfold opS;rw[Ae];exact G.m9 i hi
 rw[eU (by rw[Ae,Ae];omega),<- Az];simp only[kw,ga];have gt:∀a x,a < j->x < g.length->du (wj 0 (cT g t j++[cR g t j i])) (kk a x)=ap (.int (cN g t a x:Int)):=λa x ha hx=>by
  have:=IM (cT g t j++[cR g t j i]) 0 a x (by simp;omega) (by rw[iX ∅,ads g t ha,Pm];exact hx);rw[AD,ZO ∅]at this;rw[this];unfold rg;rw[ads g t ha,adt g t a hx];rfl
 have gt2:∀u,u < i->du (wj 0 (cT g t j++[cR g t j i])) (kk j u)=ap (.int (cN g t j u:Int)):=λu hu=>by
  have:=IM (cT g t j++[cR g t j i]) 0 j u (by simp;omega) (by rw[gD ∅,eT,Cy];show u < (cR g t j i).length;rw[Ŀ];exact hu);rw[AD]at this;rw[this];have e:rg (cT g t j++[cR g t j i]) j u=(cR g t j i).getD u bm:=by
   have:=ZN (T:=cT g t j) (r:=cR g t j i) (i:=u);rw[eT]at this;exact this
  rw[e,adt g t j hu];rfl
 refine W.mono _ (λr hr=>?_) (LU (c:=Op.pv) (h:=vN (cN g t)) (WE g [] (en t 0 j) i++opS g [] i j) (λo ho s=>?_) 0)
 ·rw[AD,agi G hn hj hi]at hr;subst hr;have ek:xH (.tup [.int (j:Int),.int (i:Int)])=.ret (kk j i):=rfl;have gn:du (wj 0 (cT g t j++[cR g t j i])) (kk j i)=bm:=ajB _ _ _ λm n hm hn z=>by
   obtain⟨z1,z2⟩:=NY z;rw[AD]at z1;subst z1 z2;rw[gD ∅,eT,Cy]at hn;have hn:i < (cR g t j i).length:=hn;omega
  have ū:(wj 0 (cT g t j++[cR g t j i])).length < sizeLine:=by
   rw[QT];have h1:∀x∈(cT g t j++[cR g t j i]).map BM,x<=300:=λx hx=>by
    obtain⟨r,hr,rfl⟩:=Am.mp hx;rcases AJ.mp hr with hr | hr
    ·obtain⟨m,hm,rfl⟩:=Am.mp hr;rw[Pm];omega
    ·rw[AN.mp hr];omega
   have h2:=wV h1;rw[Ae,Ah,Df,eT]at h2;have h3:(j+1)*300<=401*300:=CM _ ∅;have h4:(401*300:Nat) < sizeLine:=by decide
   omega
  unfold V7;simp only[ek,ga,mo ū,ZY gn,kw];rw[ab2,so,so,Lg,Ŀ,AD,AD,eT,AH];rfl
 ·simp only[Op.pv,ib,ga,bX,bn];refine Z0 (C:=cN g t) ?_ ?_ ?_
  ·rcases AJ.mp ho with ho | ho
   ·revert ho;cases en t 0 j with
    | word w=>
     intro ho;have ho:o∈(if hm g i w=true then [(⟨.aL,0,[]⟩:Op)] else []):=ho
     split at ho
     ·rw[AN.mp ho];simp
     ·cases ho
    | pair a b=>
     intro ho;obtain⟨d,hd,rfl⟩:=Am.mp ho;simp
   ·obtain⟨u,hu,rfl⟩:=Am.mp ho;simp
  ·intro e he;rcases AJ.mp ho with ho | ho
   ·revert ho fC;cases h:en t 0 j with
    | word w=>
     intro _ ho;have ho:o∈(if hm g i w=true then [(⟨.aL,0,[]⟩:Op)] else []):=ho
     split at ho
     ·rw[AN.mp ho]at he;cases he
     ·cases ho
    | pair a b=>
     intro mi ho;have mi:a < j/\b < j:=mi;obtain⟨d,hd,rfl⟩:=Am.mp ho;obtain⟨h1,h2⟩:=md G hi hd;have he:e∈[(a,d.2.1),(b,d.2.2)]:=he;simp at he;rcases he with rfl | rfl
     ·exact⟨gt _ _ mi.1 h1,hb _ _ ∅ h1⟩
     ·exact⟨gt _ _ mi.2 h2,hb _ _ ∅ h2⟩
   ·obtain⟨u,hu,rfl⟩:=Am.mp ho;have he:e∈[(j,u)]:=he;rw[AN.mp he];have:=G.dn i hi u hu;exact⟨gt2 u this,hb _ _ hj ∅⟩
  ·simp only[dN,kw];rw[Fz]
def adu(G:WG g ws)(hn:oA g t)(hj:j < t.size)(hi:i < g.length):cN g t j i=(wD g (kr g t) (en t 0 j) i).length+((sy g i).un.map (cN g t j)).sum:=by
 show(kr g t j i).length=_;rw[tF G hn hj hi,Ah,CS];congr 2;exact A9 λu _=>Ae _
def WA(g:O Sy)(t:Tr)(a b i:Nat):(wD g (kr g t) (.pair a b) i).length=((UN g i).map λd=>cN g t a d.2.1*cN g t b d.2.2).sum:=by
 unfold wD;simp only;rw[CS];congr 1;exact A9 λd _=>Kw _ _ _
theorem akb(G:WG g ws)(hn:oA g t)(h30:g.length<=30):∀j i,j < t.size->i < g.length->cN g t j i<=2 ^ (2*i+130*3 ^ j):=Og λj i hj hi MH Q2=>by
 have own:(wD g (kr g t) (en t 0 j) i).length<=2 ^ (130*3 ^ j):=by
  have fC:=mZ t hj;revert fC;cases en t 0 j with
  | word w=>
   intro _;show(if hm g i w=true then [WT.lf [] i] else []).length<=_;have:=Nat.one_le_two_pow (n:=130*3 ^ j)
   split <;> simp <;> omega
  | pair a b=>
   intro mi;have mi:a < j/\b < j:=mi;rw[WA];cases j with
   | zero=>omega
   | succ k=>
    have h3:∀c,c < k+1->3 ^ c<=3 ^ k:=λc hc=>Bb ∅ ∅;have one:3 ^ 0<=3 ^ k:=Bb (show 0 < 3 by omega) (A3 k);have bnd:∀c x,c < k+1->x < g.length->cN g t c x<=2 ^ (60+130*3 ^ k):=λc x hc hx=>by
     refine AW (MH c x hc hx) (Bb ∅ ?_);have:=h3 c hc;omega
    have hs:=wV (l:=(UN g i).map λd=>cN g t a d.2.1*cN g t b d.2.2) (m:=2 ^ (60+130*3 ^ k)*2 ^ (60+130*3 ^ k)) λx hx=>by
     obtain⟨d,hd,rfl⟩:=Am.mp hx;obtain⟨h1,h2⟩:=md G hi hd;exact EI (bnd _ _ mi.1 h1) (bnd _ _ mi.2 h2)
    refine AW hs ?_;rw[Ae,(gZ g i).length_eq,<- Ga];refine AW (CM _ (show(dl g i).length<=2 ^ 6 from AW (yp G hi) ⋯)) ?_;rw[<- Ga];refine Bb ∅ ?_;rw[Ex];omega
 rw[adu G hn hj hi];generalize 130*3 ^ j=e at own Q2 ⊢;cases i with
 | zero=>
  have:(sy g 0).un=[]:=by
   cases h:(sy g 0).un with
   | nil=>rfl
   | cons u l=>have:=G.dn 0 hi u (by rw[h];exact .head _);omega
  rw[this];simpa using own
 | succ k=>
  have hs:=wV (l:=(sy g (k+1)).un.map (cN g t j)) (m:=2 ^ (2*k+e)) λx hx=>by
   obtain⟨u,hu,rfl⟩:=Am.mp hx;have hu:=G.dn _ hi u hu;refine AW (Q2 u hu) (Bb ∅ ∅)
  rw[Ae]at hs;have h2:=CM (2 ^ (2*k+e)) (G.m9 _ hi);have h3:2 ^ e<=2 ^ (2*k+e):=Bb ∅ ∅;have h4:2 ^ (2*(k+1)+e)=4*2 ^ (2*k+e):=by
   rw[show 2*(k+1)+e=2+(2*k+e) by omega,Ga]
  omega
theorem agk(G:WG g ws)(hn:oA g t)(h30:g.length<=30)(hz:t.size<=7):Bit g t:=λj i hj hi=>by
 have h:=akb G hn h30 j i hj hi;have h3:3 ^ j<=3 ^ 6:=Bb ∅ ∅;have h3:3 ^ j<=729:=h3;refine AW (m:=2*i+130*3 ^ j+1) (intBits_le_iff.mpr ?_) ?_
 ·rw[Int.natAbs_natCast,Ex];have:=Nat.two_pow_pos (2*i+130*3 ^ j);omega
 ·have:(2:Nat) ^ 20=1048576:=by decide
  omega
theorem K7(G:WG g ws)(Lo:Low g)(w:Str):qo g (.leaf w)<=600:=by
 have hl:=Lo.len;have hs:(Tr.leaf w).size=1:=rfl;have hn:oA g (Tr.leaf w):=⟨⟨Lo⟩,by rw[hs];omega⟩;have key:∀k i,i < k->i < g.length->cN g (.leaf w) 0 i<=2 ^ Lo.ht i:=λk=>by
  induction k with
  | zero=>intro i h;omega
  | succ k ih=>
   intro i hk hi;rw[adu G hn (by rw[hs];omega) hi];have e0:en (.leaf w) 0 0=.word w:=rfl;have eD:wD g (kr g (.leaf w)) (en (.leaf w) 0 0) i=if hm g i w=true then [.lf [] i] else []:=by rw[e0];rfl
   rw[eD];have eh:hm g i w=((sy g i).un.isEmpty&&zF w (sy g i).nm):=rfl;have one:=Nat.one_le_two_pow (n:=Lo.ht i);cases hu:(sy g i).un with
   | nil=>split <;> simp <;> omega
   | cons u r=>
    rw[hu]at eh;have eh:hm g i w=false:=eh;rw[eh,<- hu];have fC:∀x∈(sy g i).un,Lo.ht x < Lo.ht i:=Lo.dn i hi;have h0:=fC u (by rw[hu];exact .head _);have ê:=wV (l:=(sy g i).un.map (cN g (.leaf w) 0)) (m:=2 ^ (Lo.ht i-1)) λx hx=>by
     obtain⟨v,hv,rfl⟩:=Am.mp hx;have h1:=fC v hv;have h2:=G.dn i hi v hv;exact AW (ih v ∅ ∅) (Bb ∅ ∅)
    rw[Ae]at ê;have h2:=CM (2 ^ (Lo.ht i-1)) (G.m9 _ hi);have h3:2 ^ (Lo.ht i)=2*2 ^ (Lo.ht i-1):=by
     rw[show Lo.ht i=(Lo.ht i-1)+1 by omega,Ex,Nat.mul_comm];simp
    simp only[Ao,if_false,Bd];omega
 have e:qo g (.leaf w)=((Av g.length).map (cN g (.leaf w) 0)).sum:=by
  unfold qo;rw[hs];show(((Av g.length).map (cN g (.leaf w) 0)).sum::[]).sum=_;simp
 rw[e];have ê:=wV (l:=(Av g.length).map (cN g (.leaf w) 0)) (m:=2 ^ Lo.top) λx hx=>by
  obtain⟨i,hi,rfl⟩:=Am.mp hx;have hi:=AG.mp hi;exact AW (key (i+1) i ∅ hi) (Bb ∅ (Lo.le i hi))
 rw[Ae,Cb]at ê;exact AW ê Lo.few
theorem abv(h:qo g t<=600):∀j i,j < t.size->i < g.length->(kr g t j i).length<=600:=λj i hj hi=>by
 have s1:∀(l:O Nat) x,x∈l->x<=l.sum:=λl x hx=>by
  induction l with
  | nil=>cases hx
  | cons a l ih=>
   rw[Bh];rcases AA.mp hx with rfl | hx
   ·omega
   ·have:=ih hx;omega
 have h1:=s1 _ _ (Am.mpr ⟨i,AG.mpr hi,rfl⟩:cN g t j i∈(Av g.length).map (cN g t j));have h2:=s1 _ _ (Am.mpr ⟨j,AG.mpr hj,rfl⟩:((Av g.length).map (cN g t j)).sum∈(Av t.size).map λj=>((Av g.length).map (cN g t j)).sum);exact AW h1 (AW h2 h)
theorem abu(q:∀(g:O Sy) (ws:O Str) (t:Tr) (ps:O Int),WG g ws->oA g t->(∀w∈t.az,w∈ws)->t.Ws->qo g t<=600->ps.length=4->(∀p∈ps,0<=p)->Q (.tup [fx g,t.pv,.cl ((t.nd 0).map Ent.pv),.tup (bq ps)])):(lZ (.int 4)).run Q:=by
 unfold lZ;simp only[ga,bn];refine Ow λt0 ws G hp h4=>?_;simp only[ib,kw];refine Nd G h4 λg wg Lo=>?_;have hl:=hp.length_eq;have:=t0.ma;have g30:=Lo.len;refine Ni (λz=>by rw[z,Bd]at hl;omega) ∅ ⋯ ⋯ λs0 hs hn=>?_;simp only[cQ,mo (bf (i:=0) (j:=3) ∅ ∅),kw];have fz:∀s:Tr,s.az.length<=4->s.size<=7/\oA g s/\s.depth < 12:=λs h=>by
  have h1:=s.size_eq;have h2:=s.n6;exact⟨by omega,⟨⟨Lo⟩,by omega⟩,by omega⟩
 refine jE (n:=3) (λk s=>∃t:Tr,s=t.pv/\t.az.length<=4/\(∀w∈t.az,w∈ws)/\(t.depth+k<=3\/qo g t<=600)) ⟨s0,rfl,by omega,hs,.inl (by have:=s0.n6;omega)⟩ ?_ ?_
 ·rintro k s hk ⟨t,rfl,tl,tw,ht⟩;obtain⟨z1,z2,z3⟩:=fz t tl;simp only[ga,bn];refine W.le.use (jw 12 t z3 ∅) ?_;simp only[kw];refine W.le.use (aaK wg z2 (agk wg z2 g30 z1) ∅) ?_;simp only[ajQ,bg,kw];by_cases c:qo g t<=600
  ·have c2:decide (600 < (qo g t:Int))=false:=decide_eq_false ∅;rw[c2];exact⟨t,rfl,tl,tw,.inr c⟩
  ·have c2:decide (600 < (qo g t:Int))=true:=decide_eq_true ∅;rw[c2];simp only[if_true,bn]
   match t,tl,tw,ht,c with
   | .leaf w,_,_,_,c=>exact absurd (K7 wg Lo w) c
   | .node l r,tl,tw,ht,c=>
    have ht:(Tr.node l r).depth+k<=3:=ht.resolve_right c;have hd:(Tr.node l r).depth=max l.depth r.depth+1:=rfl;have ß:(Tr.node l r).az.length=l.az.length+r.az.length:=by show(l.az++r.az).length=_;rw[Ah]
    simp only[eJ 2 ⋯ ⋯,Tr.pv,au,kw];refine cq λd d0 d1=>?_;have:d=0\/d=1:=by omega
    rcases this with rfl | rfl
    ·have i0:bV [l.pv,r.pv] 0=ap l.pv:=rfl;simp only[ba,i0,sw,kw];exact⟨l,rfl,by omega,λw hw=>tw w (AZ _ hw),.inl ∅⟩
    ·have i0:bV [l.pv,r.pv] 1=ap r.pv:=rfl;simp only[ba,i0,sw,kw];exact⟨r,rfl,by omega,λw hw=>tw w (AI _ hw),.inl ∅⟩
 ·rintro s ⟨t,rfl,tl,tw,ht⟩;obtain⟨z1,z2,z3⟩:=fz t tl;have hf:qo g t<=600:=by
   rcases ht with ht | ht
   ·match t,ht with
    | .leaf w,_=>exact K7 wg Lo w
    | .node l r,ht=>
     have hd:(Tr.node l r).depth=max l.depth r.depth+1:=rfl;omega
   ·exact ht
  refine W.le.use (jw 12 t z3 ∅) ?_;refine uS λps p4 p0=>?_;exact q g _ t ps wg z2 (λw hw=>hp.mem_iff.mpr (tw w hw)) (λw hw=>G.ws w (hp.mem_iff.mpr (tw w hw))) hf p4 p0
def cst(g:O Sy)(ps:O Int):WT->Int
 | .lf p _=>(p.map (fq g ps)).sum
 | .nd p _ nm a b=>(p.map (fq g ps)).sum+J0 ps nm+cst g ps a+cst g ps b
theorem wF(g:O Sy)(ps:O Int)(k:Nat)(w:WT):cst g ps (Ki k w)=fq g ps k+cst g ps w:=by
 cases w with
 | lf p i=>show((k::p).map (fq g ps)).sum=_;rw[Aq,Bh];rfl
 | nd p i nm a b=>
  show((k::p).map (fq g ps)).sum+_+_+_=fq g ps k+((p.map (fq g ps)).sum+_+_+_);rw[Aq,Bh];omega
theorem KZ{A B:O OI}(h1:∀v,ap v∈A->∃u,ap u∈B/\u<=v)(h2:∀v,ap v∈B->∃u,ap u∈A/\u<=v):ft A=ft B:=by
 cases ha:ft A with
 | none=>
  cases hb:ft B with
  | none=>rfl
  | some m=>
   obtain⟨u,hu,_⟩:=h2 m (gW hb);obtain⟨x,hx,_⟩:=eF hu;rw[ha]at hx;cases hx
 | some m=>
  obtain⟨u,hu,l1⟩:=h1 m (gW ha);obtain⟨x,hx,l2⟩:=eF hu;obtain⟨y,hy,l3⟩:=h2 x (gW hx);obtain⟨z,hz,l4⟩:=eF hy;rw[ha]at hz;cases hz;rw[hx];congr 1;omega
abbrev G1(g:O Sy)(ps:O Int)(t:Tr)(j i:Nat):O OI:=(kr g t j i).map λw=>ap (cst g ps w)
def i6:ap v∈G1 g ps t j i↔∃w∈kr g t j i,cst g ps w=v:=by
 constructor
 ·intro h;obtain⟨w,hw,e⟩:=Am.mp h;exact⟨w,hw,Option.some.inj e⟩
 ·rintro⟨w,hw,rfl⟩;exact Am.mpr ⟨w,hw,rfl⟩
theorem J8(G:WG g ws)(ps:O Int)(hn:oA g t):∀j i,j < t.size->i < g.length->ft (G1 g ps t j i)=rg (cJ g ps (t.nd 0) t.size) j i:=Og λj i hj hi MH Q2=>by
 rw[wU G ps hj hi];have fC:=mZ t hj;have eq:=tF G hn hj hi;generalize rg (cJ g ps (t.nd 0) t.size)=R at MH Q2 ⊢;have ă:∀a x,ft (G1 g ps t a x)=R a x->∀w∈kr g t a x,∃m,R a x=ap m/\m<=cst g ps w:=λa x e w hw=>by
  rw[<- e];exact eF (i6.mpr ⟨w,hw,rfl⟩)
 have É:∀a x v,ft (G1 g ps t a x)=R a x->R a x=ap v->∃w∈kr g t a x,cst g ps w=v:=λa x v e h=>by
  rw[<- e]at h;exact i6.mp (gW h)
 refine KZ (λv hv=>?_) (λv hv=>?_)
 ·obtain⟨w,hw,rfl⟩:=i6.mp hv;rw[eq]at hw;rcases AJ.mp hw with hw | hw
  ·revert hw fC;cases en t 0 j with
   | word x=>
    intro _ hw;have hw:w∈(if hm g i x=true then [WT.lf [] i] else []):=hw
    split at hw
    ·rename_i hh;rw[AN.mp hw];exact⟨0,AZ _ (by show ap 0∈(if hm g i x=true then [ap 0] else []);rw[if_pos hh];exact .head _),Ct _⟩
    ·cases hw
   | pair a b=>
    intro mi hw;have mi:a < j/\b < j:=mi;obtain⟨d,hd,hw⟩:=AE.mp hw;obtain⟨one,h1,hw⟩:=AE.mp hw;obtain⟨o,h2,rfl⟩:=Am.mp hw;obtain⟨x1,x2⟩:=md G hi hd;obtain⟨m1,e1,l1⟩:=ă _ _ (MH a _ mi.1 x1) one h1;obtain⟨m2,e2,l2⟩:=ă _ _ (MH b _ mi.2 x2) o h2;refine⟨J0 ps d.1+(m1+m2),AZ _ (Am.mpr ⟨d,(gZ g i).mem_iff.mp hd,?_⟩),?_⟩
    ·unfold sT;rw[e1,e2,Zs]
    ·show _<=([].map (fq g ps)).sum+J0 ps d.1+cst g ps one+cst g ps o;simp only[Cq,Fm];omega
  ·obtain⟨u,hu,hw⟩:=AE.mp hw;obtain⟨v',Ċ,rfl⟩:=Am.mp hw;obtain⟨m,e1,l1⟩:=ă _ _ (Q2 u (G.dn i hi u hu)) v' Ċ;refine⟨fq g ps i+m,AI _ (Am.mpr ⟨u,hu,?_⟩),?_⟩
   ·rw[e1,sum2]
   ·rw[wF];omega
 ·have mk:∀w∈wD g (kr g t) (en t 0 j) i++(sy g i).un.flatMap λu=>(kr g t j u).map (Ki i),cst g ps w=v->∃u,ap u∈G1 g ps t j i/\u<=v:=λw hw e=>⟨v,i6.mpr ⟨w,by rw[eq];exact hw,e⟩,Ct _⟩;rcases AJ.mp hv with hv | hv
  ·revert hv fC mk;cases en t 0 j with
   | word x=>
    intro _ mk hv;have hv:ap v∈(if hm g i x=true then [ap 0] else []):=hv
    split at hv
    ·rename_i hh;have:=Option.some.inj (AN.mp hv);exact mk (.lf [] i) (AZ _ (by show _∈(if hm g i x=true then [WT.lf [] i] else []);rw[if_pos hh];exact .head _)) (by rw[this];rfl)
    ·cases hv
   | pair a b=>
    intro mi mk hv;have mi:a < j/\b < j:=mi;obtain⟨d,hd,e⟩:=Am.mp hv;have hd:=(gZ g i).mem_iff.mpr hd;obtain⟨x1,x2⟩:=md G hi hd;obtain⟨b1,c1,e1,e2,e3⟩:=Zr e;obtain⟨one,h1,f1⟩:=É _ _ _ (MH a _ mi.1 x1) e1;obtain⟨o,h2,f2⟩:=É _ _ _ (MH b _ mi.2 x2) e2;refine mk (.nd [] i d.1 one o) (AZ _ (AE.mpr ⟨d,hd,AE.mpr ⟨one,h1,Am.mpr ⟨o,h2,rfl⟩⟩⟩)) ?_;show([].map (fq g ps)).sum+J0 ps d.1+cst g ps one+cst g ps o=v;rw[f1,f2,e3];simp only[Cq,Fm];omega
  ·obtain⟨u,hu,e⟩:=Am.mp hv;obtain⟨b1,e1,e2⟩:=Zt e;obtain⟨w,hw,f⟩:=É _ _ _ (Q2 u (G.dn i hi u hu)) e1;refine mk (Ki i w) (AI _ (AE.mpr ⟨u,hu,Am.mpr ⟨w,hw,rfl⟩⟩)) ?_;rw[wF,f,e2]
theorem Rr(p:O Nat)(i:Nat):hV (ay (p++[i])) bm (ap (-1))=ay p:=by
 rw[xj];have e:HT.eE (ay p++ay [i]).length (ay p++ay [i]).length (ap (-1))=(ay p).length:=by
  simp[HT.eE];try omega
 unfold hV;rw[HT.w4,e];simp
def Zm(g:O Sy)(ps:O Int):∀p:O Nat,jg (p.filterMap λk=>if (sy g k).un.length=2 then ap (PV.int (ps.getD 3 0)) else bm)=.ret (.int (p.map (fq g ps)).sum):=λp=>by
 have e:(p.filterMap λk=>if (sy g k).un.length=2 then ap (PV.int (ps.getD 3 0)) else bm)=(p.filterMap λk=>if (sy g k).un.length=2 then ap (ps.getD 3 0) else bm).map PV.int:=by
  rw[EN];congr 1;funext k
  split <;> rfl
 rw[e];unfold jg;rw[dG];simp only[ga];congr 2
 induction p with
 | nil=>rfl
 | cons k p ih=>
  rw[Bf,Aq,Bh];unfold fq;by_cases c:(sy g k).un.length=2
  ·simp only[c,if_true,Bh];rw[ih (by rw[EN];congr 1;funext k;split <;> rfl)];rfl
  ·simp only[c,if_false];rw[ih (by rw[EN];congr 1;funext k;split <;> rfl),Ds];rfl
theorem Vf(p4:ps.length=4)(hp:∀k∈p,k < g.length):(am (pN (ay p) λp6=>SK (t2 eZ (c1 bO (bh (am (bh (am (bd (fx g)) ar) (bd p6)) ar) (bd (.int 2)))) (bd (.int 2))) (bh (am (bd (.tup (bq ps))) ar) (bd (.int 3)))) jg).le (.ret (.int (p.map (fq g ps)).sum)):=λQ q=>by
 simp only[bn];refine W2 (c:=λn:Nat=>PV.int (n:Int)) (λk=>if (sy g k).un.length=2 then ap (PV.int (ps.getD 3 0)) else bm) (λk hk=>?_) ?_
 ·have gi:=OD (hp k hk);have es:ar (fx g)=.ret (g.map Sy.pv):=rfl;have i2:bV [(sy g k).nm,PV.int (sy g k).lv,.tup (ay (sy g k).un),.tup (ay (sy g k).be)] 2=ap (.tup (ay (sy g k).un)):=rfl;have i3:bV (bq ps) 3=ap (.int (ps.getD 3 0)):=Hb p4 (k:=3) ∅;intro Q q;simp only[ga,es,gi,Sy.pv,au,ba,i2,i3,sw,cE,bo,eR,bg];by_cases c:(sy g k).un.length=2
  ·have c2:(((sy g k).un.length:Int)==2)=true:=by simp[c]
   rw[c2];rw[if_pos c]at q;exact q
  ·have c2:(((sy g k).un.length:Int)==2)=false:=by simp;omega
   rw[c2];rw[if_neg c]at q;exact q
 ·rw[Zm];exact q
def afv(nm:Str):vF (.str nm) [.str "split",.str "doubled",.str "over"]:=by
 simp[vF]
theorem aj5(p4:ps.length=4){nm:Str}(h:S7 nm):am (Ta [.str "split",.str "doubled",.str "over"] (.str nm)) (ixW (bq ps))=.ret (.int (J0 ps nm)):=by
 have a0:bV (bq ps) 0=ap (.int (ps.getD 0 0)):=Hb p4 (k:=0) ∅;have a1:bV (bq ps) 1=ap (.int (ps.getD 1 0)):=Hb p4 (k:=1) ∅;have a2:bV (bq ps) 2=ap (.int (ps.getD 2 0)):=Hb p4 (k:=2) ∅;rcases h with rfl | rfl | rfl
 ·have e:Ta [.str "split",.str "doubled",.str "over"] (.str "split")=.ret (.int 0):=mo ⟨afv _,by decide⟩;rw[e];simp only[ga,ba,a0,sw];rfl
 ·have e:Ta [.str "split",.str "doubled",.str "over"] (.str "doubled")=.ret (.int 1):=mo ⟨afv _,by decide⟩;rw[e];simp only[ga,ba,a1,sw];rfl
 ·have e:Ta [.str "split",.str "doubled",.str "over"] (.str "over")=.ret (.int 2):=mo ⟨afv _,by decide⟩;rw[e];simp only[ga,ba,a2,sw];rfl
def adh(a b:Str):of2 eZ (.str a) (.str b)=.ret (.bl (a==b)):=by rw[GW,mo ⟨by simp,by simp,by simp⟩,X3]
theorem Jz(p4:ps.length=4):∀(n:Nat) (w:WT),w.depth < n->wf g w->(bF n (fx g) (.tup (bq ps)) w.pv).le (.ret (.int (cst g ps w)))
 | 0,_,h,_=>absurd h (C6 _)
 | n+1,.lf p i,_,hw=>λQ q=>by
  unfold bF;have i0:bV [PV.tup (ay (p++[i])),.str "found"] 0=ap (.tup (ay (p++[i]))):=rfl;have i1:bV [PV.tup (ay (p++[i])),.str "found"] 1=ap (.str "found"):=rfl;simp only[WT.pv,ga,au,ba,i0,i1,sw,jI,fj,kJ,Rr,bn];refine Vf (g:=g) p4 hw _ ?_;simp only[kw,adh,beq_self_eq_true,bg,if_true];exact q
 | n+1,.nd p i nm a b,hd,hw=>λQ q=>by
  unfold bF;have hdp:max a.depth b.depth+1 < n+1:=hd;have i0:bV [PV.tup (ay (p++[i])),.str nm,a.pv,b.pv] 0=ap (.tup (ay (p++[i]))):=rfl;have i1:bV [PV.tup (ay (p++[i])),.str nm,a.pv,b.pv] 1=ap (.str nm):=rfl;have i2:bV [PV.tup (ay (p++[i])),.str nm,a.pv,b.pv] 2=ap a.pv:=rfl;have i3:bV [PV.tup (ay (p++[i])),.str nm,a.pv,b.pv] 3=ap b.pv:=rfl;simp only[WT.pv,ga,au,ba,i0,i1,i2,i3,sw,jI,fj,kJ,Rr,bn];refine Vf (g:=g) p4 hw.1 _ ?_;have nf:(nm==("found":Str))=false:=by
   rcases hw.2.1 with rfl | rfl | rfl <;> decide
  simp only[kw,adh,nf,bg,Ao,if_false];have dx:=aj5 p4 hw.2.1;simp only[dx,ga,dN,bn];refine W.le.use (Jz p4 n a ∅ hw.2.2.1) ?_;simp only[dN,kw];refine W.le.use (Jz p4 n b ∅ hw.2.2.2) ?_;simp only[dN,kw];exact q
theorem tR:∀n:Nat,bb n=bp n
 | 0=>rfl
 | n+1=>by
  funext x;unfold bb bp;rw[tR n]
def T8:f7=dZ:=by
 funext x;unfold f7 dZ;rw[tR]
def RS:fX=fY:=by
 funext x;unfold fX fY;rw[T8]
def abw:iE=lZ:=by
 funext x;unfold iE lZ;rw[tR,RS]
def WP(g:O Sy)(t:Tr):Nat->WT->Prop
 | j,.lf _ i=>∃w,en t 0 j=.word w/\hm g i w=true
 | j,.nd _ i nm a b=>∃x y k l r1 r2,en t 0 j=.pair x y/\(nm,k,l)∈dds g i/\a.path=k::r1/\b.path=l::r2/\Ch g a.path/\Ch g b.path/\WP g t x a/\WP g t y b
theorem WP.wok:∀{w:WT}{j:Nat},WP g t j w->Ch g w.path->Wok g t j w.path w.pv
 | .lf p i,j,⟨w,e,h⟩,c=>.leaf e c h
 | .nd p i nm a b,j,⟨x,y,k,l,r1,r2,e,h,p1,p2,c1,c2,w1,w2⟩,c=>by
  have h1:=WP.wok w1 c1;have h2:=WP.wok w2 c2;rw[p1]at h1;rw[p2]at h2;exact .node e c h h1 h2
theorem WP.kn(G:WG g ws):∀{w:WT}{j:Nat},WP g t j w->Ch g w.path->∀x∈w.post,Kn g x
 | .lf p i,j,_,c,x,hx=>by
  rw[AN.mp hx];exact⟨.inr (.inr (.inr rfl)),YD G c⟩
 | .nd p i nm a b,j,⟨_,_,k,l,r1,r2,e,h,p1,p2,c1,c2,w1,w2⟩,c,x,hx=>by
  rcases AJ.mp hx with hx | hx
  ·rcases AJ.mp hx with hx | hx
   ·exact WP.kn G w1 c1 x hx
   ·exact WP.kn G w2 c2 x hx
  ·rw[AN.mp hx];refine⟨?_,YD G c⟩;rcases aga h with h | h | h
   ·exact .inl h
   ·exact .inr (.inl h)
   ·exact .inr (.inr (.inl h))
def ad8(h:WP g t j w):WP g t j (Ki i w):=by cases w <;> exact h
def Vx(k:Nat)(w:WT):(Ki k w).size=w.size:=by cases w <;> rfl
def aaO(h:d∈UN g i):d∈dds g i:=(Jv g i).mem_iff.mp ((gZ g i).mem_iff.mp h)
theorem PR(G:WG g ws)(t:Tr):∀(n j i:Nat),j < t.size->i < g.length->∀w∈wy g (t.nd 0) n j i,(∃r,w.path=i::r)/\Ch g w.path/\WP g t j w/\w.size+1<=2 ^ (j+1)
 | 0,_,_,_,_,_,h=>by cases h
 | n+1,j,i,hj,hi,w,h=>by
  rw[wy,uv hj]at h;have fC:=mZ t hj;rcases AJ.mp h with h | h
  ·revert h fC;cases e:en t 0 j with
   | word x=>
    intro _ h;have h:w∈(if hm g i x=true then [WT.lf [] i] else []):=h
    split at h
    ·rename_i hh;rw[AN.mp h];refine⟨⟨[],rfl⟩,hi,⟨x,e,hh⟩,?_⟩;show 1+1<=2 ^ (j+1);rw[Ex];have:=Nat.two_pow_pos j;omega
    ·cases h
   | pair a b=>
    intro mi h;obtain⟨d,hd,h⟩:=AE.mp h;obtain⟨one,h1,h⟩:=AE.mp h;obtain⟨o,h2,rfl⟩:=Am.mp h;obtain⟨x1,x2⟩:=md G hi hd;have mi:a < j/\b < j:=mi;obtain⟨⟨r1,p1⟩,c1,w1,z1⟩:=PR G t n a _ ∅ x1 one h1;obtain⟨⟨r2,p2⟩,c2,w2,z2⟩:=PR G t n b _ ∅ x2 o h2;refine⟨⟨[],rfl⟩,hi,⟨a,b,_,_,r1,r2,e,aaO hd,p1,p2,c1,c2,w1,w2⟩,?_⟩;show one.size+o.size+1+1<=2 ^ (j+1);have q1:2 ^ (a+1)<=2 ^ j:=Bb ∅ ∅;have q2:2 ^ (b+1)<=2 ^ j:=Bb ∅ ∅;rw[Ex];omega
  ·obtain⟨u,hu,h⟩:=AE.mp h;obtain⟨v,hv,rfl⟩:=Am.mp h;have:=G.dn i hi u hu;obtain⟨⟨r,p⟩,c,w1,z⟩:=PR G t n j u hj ∅ v hv;refine⟨⟨v.path,rm i v⟩,?_,ad8 w1,by rw[Vx];exact z⟩;rw[rm,p];rw[p]at c;exact⟨hi,hu,c⟩
theorem HU(g:O Sy)(ps:O Int):∀p:O Nat,(p.map (fq g ps)).sum=ps.getD 3 0*(vz g p:Int)
 | []=>by simp[vz]
 | k::p=>by
  rw[Aq,Bh,HU g ps p];unfold fq vz;by_cases c:(sy g k).un.length=2
  ·have:Hk g k=true:=by unfold Hk;simp[c]
   rw[if_pos c,CW,if_pos this,Ap,Fz,Int.mul_add];simp;omega
  ·have:¬Hk g k=true:=by unfold Hk;simp[c]
   rw[if_neg c,CW,if_neg this,Ds]
def K3(g:O Sy)(l m:O WT):qz g (l++m)=qz g l+qz g m:=by unfold qz;rw[Az,Fx]
theorem Ju(a b c d:Int):∀w:WT,wf g w->a*(cnt "split" w.post:Int)+b*(cnt "doubled" w.post:Int)+c*(cnt "over" w.post:Int)+d*(qz g w.post:Int)=cst g [a,b,c,d] w
 | .lf p i,h=>by
  have e:(WT.lf p i).post=[.lf p i]:=rfl;have d1:(WT.lf p i).kK="found":=rfl;rw[e,pE,pE,pE,d1];have e1:(("found":Str)=="split")=false:=by decide
  have e2:(("found":Str)=="doubled")=false:=by decide
  have e3:(("found":Str)=="over")=false:=by decide
  have e4:qz g [WT.lf p i]=vz g p:=by unfold qz;simp;rfl
  rw[e1,e2,e3,e4];show _=(p.map (fq g [a,b,c,d])).sum;rw[HU];simp
 | .nd p i nm x y,h=>by
  have MH:=Ju a b c d x h.2.2.1;have Q2:=Ju a b c d y h.2.2.2;have e:(WT.nd p i nm x y).post=x.post++y.post++[.nd p i nm x y]:=rfl;have d1:(WT.nd p i nm x y).kK=nm:=rfl;have e4:qz g [WT.nd p i nm x y]=vz g p:=by unfold qz;simp;rfl
  have ec:cst g [a,b,c,d] (.nd p i nm x y)=(p.map (fq g [a,b,c,d])).sum+J0 [a,b,c,d] nm+cst g [a,b,c,d] x+cst g [a,b,c,d] y:=rfl;rw[e,pF,pF,pF,pF,pF,pF,pE,pE,pE,d1,K3,K3,e4,ec,HU,<- MH,<- Q2];have g3:[a,b,c,d].getD 3 0=d:=rfl;rw[g3];simp only[Fz,Int.mul_add];rcases h.2.1 with rfl | rfl | rfl
  ·have e1:(("split":Str)=="split")=true:=by decide
   have e2:(("split":Str)=="doubled")=false:=by decide
   have e3:(("split":Str)=="over")=false:=by decide
   have ep:J0 [a,b,c,d] "split"=a:=rfl;rw[e1,e2,e3,ep];simp;omega
  ·have e1:(("doubled":Str)=="split")=false:=by decide
   have e2:(("doubled":Str)=="doubled")=true:=by decide
   have e3:(("doubled":Str)=="over")=false:=by decide
   have ep:J0 [a,b,c,d] "doubled"=b:=rfl;rw[e1,e2,e3,ep];simp;omega
  ·have e1:(("over":Str)=="split")=false:=by decide
   have e2:(("over":Str)=="doubled")=false:=by decide
   have e3:(("over":Str)=="over")=true:=by decide
   have ep:J0 [a,b,c,d] "over"=c:=rfl;rw[e1,e2,e3,ep];simp;omega
def pL:OI->OI->Bool
 | _,bm=>true
 | some u,ap v=>decide (u<=v)
 | none,ap _=>false
def Fl(e b:OI):gX (oP e) (oP b)=.ret (.bl (pL e b)):=by
 unfold gX;cases b with
 | none=>simp[oP,PV.f9,pL]
 | some v=>cases e with
  | none=>simp[oP,PV.f9,pL]
  | some u=>simp[oP,PV.f9,pL]
def O9{g p e s:PV}:dq g p (.tup l) e s=dq g p (.cl l) e s:=(rfl)
theorem RQ(G:WG g ws)(p4:ps.length=4)(hi:i < g.length)(hr:row.length=g.length):dm (fx g) (.tup (bq ps)) (.tup (row.map oP)) (.int (i:Int))=.ret ((UJ g ps row i).map oP):=by
 unfold dm UJ;simp only[ga,WB p4 hi,jb hi,au];rw[Ay];refine j7 λu hu=>?_;have hu:=G.dn i hi u hu;have h1:bV (row.map oP) (u:Int)=ap (oP (row.getD u bm)):=bJ (by rw[Aj,Ad ∅,Ai,Ad ∅];rfl);have e:[PV.int (fq g ps i),oP (row.getD u bm)]=[ap (fq g ps i),row.getD u bm].map oP:=rfl;simp only[ga,au,ba,h1,sw,e,oG];rfl
def uK(g:O Sy)(ps:O Int)(U:O (O OI))(e:Ent)(j i:Nat):Bool:=pL (rg U j i) (ft (T7 g ps (rg U) e i++stC g ps (rg U j) i))
theorem Pn(G:WG g ws)(p4:ps.length=4)(W':Wide g U n)(hj:j < n)(he:oB n e)(hi:i < g.length):(iA (fx g) (.tup (bq ps)) (.tup (rP U)) (.int (j:Int)) e.pv (.int (i:Int))).le (.ret (.bl (uK g ps U e j i))):=λQ q=>by
 unfold iA;have hl:=W'.row j hj;have h1:bV (rP U) (j:Int)=ap (.tup ((U.getD j []).map oP)):=bJ (by
  unfold rP;rw[Aj,Ad (by rw[W'.len];exact hj),Ai,Ad (by rw[W'.len];exact hj)];rfl)
 have h2:bV ((U.getD j []).map oP) (i:Int)=ap (oP (rg U j i)):=bJ (by
  unfold rg;rw[Aj,Ad (by rw[hl];exact hi),Ai (l:=U.getD j []),Ad (by rw[hl];exact hi)];rfl)
 simp only[ga,bn,O9];refine yt G p4 W' he hi λL hL=>?_;simp only[au,ga,ba,h1,h2,sw,kw,RQ G p4 hi hl];have l1:L.length<=63:=by
  rw[hL.length_eq];cases e with
  | word w=>show(if hm g i w=true then [ap 0] else []).length<=63;split <;> simp
  | pair a b=>show((dl g i).map _).length<=63;rw[Ae];exact yp G hi
 have l2:(UJ g ps (U.getD j []) i).length<=2:=by unfold UJ;rw[Ae];exact G.m9 i hi
 rw[eU (by rw[Ae,Ae];omega),<- Az];simp only[kw,ve,Fl];rw[GA (hL.append_right _)];exact q
theorem ZM(G:WG g ws)(p4:ps.length=4)(W':Wide g U n)(hj:j < n)(he:oB n e):(eG (fx g) (.tup (bq ps)) (.tup (rP U)) (.int (j:Int)) e.pv).le (.ret (.bl ((Av g.length).all (uK g ps U e j)))):=λQ q=>by
 unfold eG;have hg:=G.len;have el:rG bO [fx g]=.ret (.int (g.length:Int)):=by simp[fx]
 simp only[ga,bn,el,kw,cQ,mo (bf (i:=0) (j:=(g.length:Int)) ∅ ∅),A5];rw[lh];refine fg (λi=>.bl (uK g ps U e j i)) (λi hi=>Pn G p4 W' hj he (AG.mp hi)) ?_;have em:(Av g.length).map (λi=>PV.bl (uK g ps U e j i))=((Av g.length).map (uK g ps U e j)).map PV.bl:=by rw[Ay];rfl
 rw[em,iR,Dr];exact q
def allB(g:O Sy)(ps:O Int)(t:Tr)(U:O (O OI)):Bool:=((t.nd 0).zipIdx 0).all λp=>(Av g.length).all (uK g ps U p.1 p.2)
def UX{p:Ent×Nat}(h:p∈(t.nd 0).zipIdx 0):p.2 < t.size/\p.1=en t 0 p.2:=by
 have:=Em.mp h;have hl:=(Al.mp this).1;rw[t.bG]at hl;rw[gk t 0 p.2 hl]at this;exact⟨hl,(Option.some.inj this).symm⟩
def allB_iff:allB g ps t U=true↔∀j i,j < t.size->i < g.length->uK g ps U (en t 0 j) j i=true:=by
 unfold allB;rw[Bn]
 constructor
 ·intro h j i hj hi;have:=h (en t 0 j,j) (Em.mpr (gk t 0 j hj));exact Bn.mp this i (AG.mpr hi)
 ·intro h p hp;obtain⟨h1,h2⟩:=UX hp;rw[Bn];intro i hi;rw[h2];exact h _ _ h1 (AG.mp hi)
theorem oB.up(h:oB m e)(hm:m<=n):oB n e:=by
 cases e with
 | word w=>exact trivial
 | pair a b=>
  have h:a < m/\b < m:=h;exact⟨by omega,by omega⟩
end My
variable{m0:Int}
namespace My
def adN(W':Wide g U n):Wid g U:=λr hr=>by
 obtain⟨m,hm⟩:=Dn hr;have ĥ:=(Al.mp hm).1;have:=W'.row m (by rw[<- W'.len];exact ĥ);rw[Ai,hm]at this;exact this
def Pd(nm:Str)(l:O WT):cnt nm l<=l.length:=List.countP_le_length
def GH(g:O Sy)(ps:O Int)(t:Tr)(U:O (O OI))(w:WT):Bool:=(U.getD (t.size-1) []).all λe=>pL (ap (cst g ps w)) e
theorem RZ(G:WG g ws)(p4:ps.length=4)(hw:t.Ws)(hz:t.size<=7)(W':Wide g U t.size)(hi:i < g.length)(hm:w∈kr g t (t.size-1) i)(h1:w.path.length=1) :
  (dE (fx g) t.pv (.tup (bq ps)) w.pv (.tup (rP U))).le (.ret (.bl (allB g ps t U&&GH g ps t U w))):=λQ q=>by
 have tp:=t.size_pos;obtain⟨_,ch,wp,sz⟩:=PR G t 50 (t.size-1) i ∅ hi w hm;have wff:=(z9 G t 50 (t.size-1) i ∅ hi w hm).1;have ahZ:2 ^ (t.size-1+1)<=2 ^ 7:=Bb ∅ ∅;have ahZ:2 ^ (t.size-1+1)<=128:=ahZ;have kn:=WP.kn G wp ch;unfold dE;simp only[ga,bn];refine W.le.use (Xt G hw ∅ (wp.wok ch)) ?_;have c1:((w.path.length:Int)==1)=true:=by rw[h1];rfl
 rw[c1];simp only[bx,kw,Bq,Ao,if_false,bn];refine W.le.use (S5 ∅ (adN W')) ?_;rw[decide_eq_true W'.len];simp only[bx,kw,Bq,Ao,if_false,bn];refine W.le.use (jq t ∅) ?_;simp only[au,kw];refine⟨bB (by rw[cn];omega),?_⟩;rw[L1];simp only[kw];refine fg (λp:Ent×Nat=>.bl ((Av g.length).all (uK g ps U p.1 p.2))) (λp hp Q q=>?_) ?_
 ·obtain⟨z1,z2⟩:=UX hp;simp only[ib,ga];rw[z2]at q ⊢;exact ZM G p4 W' z1 ((mZ t z1).up ∅) Q q
 ·have em:((t.nd 0).zipIdx 0).map (λp:Ent×Nat=>PV.bl ((Av g.length).all (uK g ps U p.1 p.2)))=(((t.nd 0).zipIdx 0).map λp:Ent×Nat=>(Av g.length).all (uK g ps U p.1 p.2)).map PV.bl:=by rw[Ay];rfl
  have ea:(((t.nd 0).zipIdx 0).map λp:Ent×Nat=>(Av g.length).all (uK g ps U p.1 p.2)).all id=allB g ps t U:=by rw[Dr];rfl
  rw[em,iR,ea];simp only[kw,bx];cases hb:allB g ps t U with
  | false=>
   rw[hb]at q;simp only[DQ,if_true];exact q
  | true=>
   rw[hb,D8]at q;simp only[Bq,Ao,if_false,bn];refine W.le.use (Pc w ∅ kn) ?_
   match ps,p4,q with
   | [a,b,c,d],_,q=>
    have pl:=w.dU;have l1:=Pd "split" w.post;have l2:=Pd "doubled" w.post;have l3:=Pd "over" w.post;have l4:=QP (g:=g) w.post kn;have ep:(PV.tup (bq [a,b,c,d]))=.tup [.int a,.int b,.int c,.int d]:=rfl;have pe:=Sb a b c d (x:=(cnt "split" w.post:Int)) (y:=(cnt "doubled" w.post:Int)) (z:=(cnt "over" w.post:Int)) (w:=(qz g w.post:Int)) ⟨by omega,by omega⟩ ⟨by omega,by omega⟩ ⟨by omega,by omega⟩ ⟨by omega,by omega⟩;rw[Ju a b c d w wff]at pe;rw[ep];unfold aj1;rw[pe];have hx:bV (rP U) (-1)=ap (.tup ((U.getD (t.size-1) []).map oP)):=by
     unfold bV uh;have hl:=W'.len;have e:(rP U).length=t.size:=by unfold rP;rw[Ae,hl]
     rw[e,if_neg ∅,if_pos ∅];show(rP U)[(-1+(t.size:Int)).toNat]?=_;rw[show(-1+(t.size:Int)).toNat=t.size-1 by omega];unfold rP;rw[Aj,Ad ∅,Ai,Ad ∅];rfl
    simp only[kw,jI,ba,hx,sw,au];refine fg (c:=oP) (λe=>.bl (pL (ap (cst g [a,b,c,d] w)) e)) (λe _ Q q=>?_) ?_
    ·have:=Fl (ap (cst g [a,b,c,d] w)) e;have e2:oP (ap (cst g [a,b,c,d] w))=.int (cst g [a,b,c,d] w):=rfl;rw[e2]at this;rw[this];exact q
    ·have em:(U.getD (t.size-1) []).map (λe=>PV.bl (pL (ap (cst g [a,b,c,d] w)) e))=((U.getD (t.size-1) []).map λe=>pL (ap (cst g [a,b,c,d] w)) e).map PV.bl:=by rw[Ay];rfl
     rw[em,iR,Dr];exact q
def RI(x:OI):pL x x=true:=by cases x <;> simp[pL]
def Vr(G:WG g ws)(ps:O Int)(t:Tr):allB g ps t (cJ g ps (t.nd 0) t.size)=true:=allB_iff.mpr λj i hj hi=>by
 unfold uK;rw[<- wU G ps hj hi];exact RI _
theorem below(G:WG g ws)(hn:oA g t)(hB:allB g ps t U=true):∀j i,j < t.size->i < g.length->∀w∈kr g t j i,∃v,rg U j i=ap v/\v<=cst g ps w:=Og λj i hj hi MH Q2 w hw=>by
 have b:=allB_iff.mp hB j i hj hi;have key:∃x,ap x∈T7 g ps (rg U) (en t 0 j) i++stC g ps (rg U j) i/\x<=cst g ps w:=by
  rw[tF G hn hj hi]at hw;have fC:=mZ t hj;rcases AJ.mp hw with hw | hw
  ·revert hw fC;cases en t 0 j with
   | word x=>
    intro _ hw;have hw:w∈(if hm g i x=true then [WT.lf [] i] else []):=hw
    split at hw
    ·rename_i hh;rw[AN.mp hw];exact⟨0,AZ _ (by show ap 0∈(if hm g i x=true then [ap 0] else []);rw[if_pos hh];exact .head _),Ct _⟩
    ·cases hw
   | pair a b=>
    intro mi hw;have mi:a < j/\b < j:=mi;obtain⟨d,hd,hw⟩:=AE.mp hw;obtain⟨one,h1,hw⟩:=AE.mp hw;obtain⟨o,h2,rfl⟩:=Am.mp hw;obtain⟨x1,x2⟩:=md G hi hd;obtain⟨m1,e1,l1⟩:=MH a _ mi.1 x1 one h1;obtain⟨m2,e2,l2⟩:=MH b _ mi.2 x2 o h2;refine⟨J0 ps d.1+(m1+m2),AZ _ (Am.mpr ⟨d,(gZ g i).mem_iff.mp hd,?_⟩),?_⟩
    ·unfold sT;rw[e1,e2,Zs]
    ·show _<=([].map (fq g ps)).sum+J0 ps d.1+cst g ps one+cst g ps o;simp only[Cq,Fm];omega
  ·obtain⟨u,hu,hw⟩:=AE.mp hw;obtain⟨v',Ċ,rfl⟩:=Am.mp hw;obtain⟨m,e1,l1⟩:=Q2 u (G.dn i hi u hu) v' Ċ;refine⟨fq g ps i+m,AI _ (Am.mpr ⟨u,hu,?_⟩),?_⟩
   ·rw[e1,sum2]
   ·rw[wF];omega
 obtain⟨x,hx,lx⟩:=key;obtain⟨m,hm,lm⟩:=eF hx;unfold uK at b;rw[hm]at b;cases hr:rg U j i with
 | none=>rw[hr]at b;simp[pL]at b
 | some v=>
  rw[hr]at b;have:v<=m:=by simpa[pL]using b
  exact⟨v,rfl,by omega⟩
def aai(h:∀p∈ps,0<=p)(i:Nat):0<=fq g ps i:=by
 unfold fq
 split
 ·rw[Ai];cases e:ps[3]? with
  | none=>exact Ct _
  | some v=>exact h v (Bi e)
 ·exact Ct _
theorem strip(G:WG g ws)(p0:∀p∈ps,0<=p)(hn:oA g t)(hj:j < t.size):∀i,i < g.length->∀w∈kr g t j i,∃k w',k < g.length/\w'∈kr g t j k/\w'.path.length=1/\cst g ps w'<=cst g ps w:=λi=>by
 induction i using Cv with
 | ind i ih=>
  intro hi w hw;have ú:=hw;rw[tF G hn hj hi]at hw;rcases AJ.mp hw with hw | hw
  ·refine⟨i,w,hi,ú,?_,Ct _⟩;revert hw;cases en t 0 j with
   | word x=>
    intro hw;have hw:w∈(if hm g i x=true then [WT.lf [] i] else []):=hw
    split at hw
    ·rw[AN.mp hw];rfl
    ·cases hw
   | pair a b=>
    intro hw;obtain⟨d,hd,hw⟩:=AE.mp hw;obtain⟨one,h1,hw⟩:=AE.mp hw;obtain⟨o,h2,rfl⟩:=Am.mp hw;rfl
  ·obtain⟨u,hu,hw⟩:=AE.mp hw;obtain⟨v,hv,rfl⟩:=Am.mp hw;have lu:=G.dn i hi u hu;obtain⟨k,w',h1,h2,h3,h4⟩:=ih u lu ∅ v hv;refine⟨k,w',h1,h2,h3,?_⟩;rw[wF];have:=aai (g:=g) p0 i;omega
def vD(w:WT):Bool:=(w.path.length:Int)==1
def uO(g:O Sy)(t:Tr):O WT:=(Av g.length).flatMap λi=>(kr g t (t.size-1) i).flatMap λw=>if vD w=true then [w] else []
theorem q8:w∈uO g t↔∃i,i < g.length/\w∈kr g t (t.size-1) i/\w.path.length=1:=by
 unfold uO
 constructor
 ·intro h;obtain⟨i,hi,h⟩:=AE.mp h;obtain⟨v,hv,h⟩:=AE.mp h
  split at h
  ·rename_i c;rw[AN.mp h];refine⟨i,AG.mp hi,hv,?_⟩;unfold vD at c;have:=eq_of_beq c;omega
  ·cases h
 ·rintro⟨i,hi,hw,hp⟩;refine AE.mpr ⟨i,AG.mpr hi,AE.mpr ⟨w,hw,?_⟩⟩;have:vD w=true:=by unfold vD;rw[hp];rfl
  rw[if_pos this];exact .head _
theorem vQ(G:WG g ws)(p0:∀p∈ps,0<=p)(hn:oA g t)(h:ft (lg g ps t)=ap m0):(∀w∈uO g t,m0<=cst g ps w)/\∃w∈uO g t,cst g ps w=m0:=by
 have tp:=t.size_pos;have lo:∀i w,i < g.length->w∈kr g t (t.size-1) i->m0<=cst g ps w:=λi w hi hw=>by
  obtain⟨v,hv,l⟩:=eF (i6.mpr ⟨w,hw,rfl⟩:ap (cst g ps w)∈G1 g ps t (t.size-1) i);rw[J8 G ps hn _ i ∅ hi]at hv;obtain⟨m,hm,l2⟩:=eF (xD.mpr ⟨i,hi,hv⟩);rw[h]at hm;cases hm;omega
 refine⟨λw hw=>?_,?_⟩
 ·obtain⟨i,hi,hw,_⟩:=q8.mp hw;exact lo i w hi hw
 ·obtain⟨i,hi,e⟩:=xD.mp (gW h);rw[<- J8 G ps hn _ i ∅ hi]at e;obtain⟨w,hw,ew⟩:=i6.mp (gW e);obtain⟨k,w',h1,h2,h3,h4⟩:=strip G p0 hn ∅ i hi w hw;refine⟨w',q8.mpr ⟨k,h1,h2,h3⟩,?_⟩;have:=lo k w' h1 h2;omega
theorem SM(G:WG g ws)(p0:∀p∈ps,0<=p)(hn:oA g t)(h:ft (lg g ps t)=ap m0)(hw:w∈uO g t):GH g ps t (cJ g ps (t.nd 0) t.size) w=(cst g ps w==m0):=by
 have lo:=(vQ G p0 hn h).1 w hw;unfold GH;rw[Dy,Bn]
 constructor
 ·intro ha;have:=ha (ap m0) (gW h);have:cst g ps w<=m0:=by simpa[pL]using this
  exact beq_iff_eq.mpr ∅
 ·intro e x hx;have e:=eq_of_beq e;cases x with
  | none=>rfl
  | some v=>
   obtain⟨m,hm,l⟩:=eF (l:=lg g ps t) (v:=v) hx;rw[h]at hm;cases hm;simp[pL];omega
theorem taken(G:WG g ws)(p0:∀p∈ps,0<=p)(hn:oA g t)(h:ft (lg g ps t)=ap m0)(hw:w∈uO g t)(W':Wide g U t.size)(hB:allB g ps t U=true)(hL:GH g ps t U w=true):cst g ps w=m0:=by
 have tp:=t.size_pos;have lo:=(vQ G p0 hn h).1 w hw;obtain⟨w0,ú,e0⟩:=(vQ G p0 hn h).2;obtain⟨i,hi,hm,_⟩:=q8.mp ú;obtain⟨v,hv,lv⟩:=below G hn hB (t.size-1) i ∅ hi w0 hm;have afB:=W'.row (t.size-1) ∅;have mem:ap v∈U.getD (t.size-1) []:=by
  unfold rg at hv;rw[Ai,Ad ∅]at hv;have hv:(U.getD (t.size-1) [])[i]=ap v:=hv;rw[<- hv];exact CV _
 have:=Bn.mp hL (ap v) mem;have:cst g ps w<=v:=by simpa[pL]using this
 omega
theorem PU(h:qo g t<=600):(uO g t).length<=600:=by
 have tp:=t.size_pos;unfold uO;rw[CS];have s1:∀(l:O Nat) x,x∈l->x<=l.sum:=λl x hx=>by
  induction l with
  | nil=>cases hx
  | cons a l ih=>
   rw[Bh];rcases AA.mp hx with rfl | hx
   ·omega
   ·have:=ih hx;omega
 have h2:=s1 _ _ (Am.mpr ⟨t.size-1,AG.mpr ∅,rfl⟩:((Av g.length).map (cN g t (t.size-1))).sum∈(Av t.size).map λj=>((Av g.length).map (cN g t j)).sum);have h3:∀l:O WT,(l.flatMap λw=>if vD w=true then [w] else []).length<=l.length:=λl=>by
  induction l with
  | nil=>exact An _
  | cons x l ih=>
   rw[Bw,Ah,Ap];have:(if vD x=true then [x] else []).length<=1:=by split <;> simp
   omega
 have h4:∀l:O Nat,(l.map λi=>((kr g t (t.size-1) i).flatMap λw=>if vD w=true then [w] else []).length).sum<=(l.map (cN g t (t.size-1))).sum:=λl=>by
  induction l with
  | nil=>exact An _
  | cons x l ih=>
   rw[Aq,Aq,Bh,Bh];have:=h3 (kr g t (t.size-1) x);have:((kr g t (t.size-1) x).flatMap λw=>if vD w=true then [w] else []).length<=cN g t (t.size-1) x:=this;omega
 exact AW (h4 _) (AW h2 h)
theorem Sw(G:WG g ws)(hn:oA g t)(hB:qo g t<=600):(iC (fx g) (.cl ((t.nd 0).map Ent.pv))).le (.ret ((uO g t).map WT.pv)):=λQ q=>by
 obtain⟨⟨Lo⟩,hz⟩:=id hn;have tp:=t.size_pos;have hg:=G.len;unfold iC;have el:rG bO [fx g]=.ret (.int (g.length:Int)):=by simp[fx]
 have e1:(t.size:Int)-1=((t.size-1:Nat):Int):=by omega
 simp only[ga,bn,el,kw,cQ,mo (bf (i:=0) (j:=(g.length:Int)) ∅ ∅),A5,Vg,ur,e1];rw[lh];refine W.mono _ (λr hr=>?_) (iY (c:=λn:Nat=>PV.int (n:Int)) (h:=λi=>(kr g t (t.size-1) i).flatMap λw=>if vD w=true then [w] else []) 600 (Av g.length) (λi hi s hs=>?_) [] (by rw[Bd,AD];exact PU hB))
 ·rw[hr,C7];exact q
 ·have hi:=AG.mp hi;have hb:=Lo.le i hi;have hb2:=Lo.six;simp only[bn];refine W.le.use (YN G Lo hn (abv hB) 50 (t.size-1) i ∅ hi ∅) ?_;refine W.mono _ (λr hr=>hr) (iY (c:=WT.pv) (h:=λw=>if vD w=true then [w] else []) 600 (kr g t (t.size-1) i) (λw _ s hs=>?_) s hs);rw[w.uR];have k0:bV (PV.tup (ay w.path)::.str w.kK::w.kids.map WT.pv) 0=ap (.tup (ay w.path)):=by
   show bV _ ((0:Nat):Int)=_;exact bJ rfl
  simp only[ga,au,ba,k0,sw,cE,bo,eR,bg];have ew:((w.path.length:Int)==1)=vD w:=rfl;rw[ew];cases c:vD w with
  | false=>
   simp only[Ao,if_false,kw,Ci]
  | true=>
   rw[c]at hs;simp only[if_true,bn,kw,Df]at hs ⊢;rw[cX (by rw[Ae];omega)];show _=_;rw[Az,<- w.uR];rfl
theorem Kp(hg:g.length<=300)(hn:n<=400)(W':Wide g U n)(q:∀V,Wide g V n->Q (.tup (rP V))):(fZ (.tup (rP U))).run Q:=by
 unfold fZ;simp only[ga,au,bn];have hl:=W'.len;have ul:(rP U).length=n:=by unfold rP;rw[Ae,hl]
 refine fi (λk s=>∃V,s=rP V/\Wide g V k) ⟨[],rfl,⟨rfl,λj h=>absurd h (C6 j)⟩⟩ (λk x s hx hs=>?_) (λs hs=>?_)
 ·obtain⟨V,rfl,WV⟩:=hs;have hk:=(Al.mp hx).1;rw[ul]at hk;have afB:=W'.row k hk;have ş:x=.tup ((U.getD k []).map oP):=by
   unfold rP at hx;rw[Aj]at hx;have:U[k]?=ap (U.getD k []):=by rw[Ai,Ad ∅];rfl
   rw[this]at hx;exact(Option.some.inj hx).symm
  subst ş;generalize U.getD k []=row at afB;simp only[au,kw,ga,bn];refine fi (λi s=>∃r:O OI,s=r.map oP/\r.length=i) ⟨[],rfl,rfl⟩ (λi y s hy hs=>?_) (λs hs=>?_)
  ·obtain⟨r,rfl,hr⟩:=hs;have hi:=(Al.mp hy).1;rw[Ae]at hi;rw[Aj]at hy;obtain⟨o,ho,rfl⟩:∃o,row[i]?=ap o/\y=oP o:=by
    rw[Ad hi]at hy;exact⟨_,Ad hi,(Option.some.inj hy).symm⟩
   simp only[ga,bn,kw,jI];refine pick_run (by simp) (by simp) λx hx=>?_;obtain⟨v,rfl⟩:∃v:Int,x=.int v:=by
    simp at hx;rcases hx with rfl | rfl | rfl | rfl <;> exact⟨_,rfl⟩
   have fin:∀o2:OI,(eV (r.map oP) (oP o2)).run λs=>∃r:O OI,s=r.map oP/\r.length=i+1:=λo2=>by
    rw[cX (by rw[Ae];omega)];exact⟨r++[o2],by rw[Az];rfl,by simp[hr]⟩
   cases o with
   | none=>
    simp only[oP,qG,bg,kw,ga,PV.f9,if_true];exact fin bm
   | some u=>
    simp only[oP,qG,bg,kw,ga,PV.f9,Ao,if_false,dN];exact fin (ap (u+v))
  ·obtain⟨r,rfl,hr⟩:=hs;rw[Ae,afB]at hr;simp only[ye,kw,ga];have š:(rP V).length=k:=by unfold rP;rw[Ae,WV.len]
   rw[cX ∅];refine⟨V++[r],by unfold rP;rw[Az];rfl,by rw[Ah,WV.len];rfl,λj hj=>?_⟩;by_cases c:j < k
   ·rw[iX (by rw[WV.len];exact c)];exact WV.row j c
   ·have:j=k:=by omega
    subst this;rw[gD (by rw[WV.len];exact An _),WV.len,Cy];exact hr
 ·obtain⟨V,rfl,WV⟩:=hs;rw[ul]at WV;simp only[ye,kw];exact q V WV
def M9(g:O Sy)(ps:O Int)(t:Tr):Wide g (cJ g ps (t.nd 0) t.size) t.size:=oE g ps (t.nd 0) t.size
def ne_int(a b:Int):of2 vn (.int a) (.int b)=.ret (.bl (!(a==b))):=by rw[Ri,mo ⟨by simp,by simp,by simp⟩];simp[kS]
def aiG(a b:Bool):of2 vn (.bl a) (.bl b)=.ret (.bl (!(a==b))):=by rw[Ri,mo ⟨by simp,by simp,by simp⟩];simp[kS]
theorem law38_ok:∀ns:O Int,ns.length<=63->(xn (.cl (ns.map PV.int))).run (·=.bl true):=by
 intro ns hn;unfold xn;obtain⟨m,hm,m0,m1⟩:∃m:Nat,(am ((PV.int 1)\λx3=>am ((PV.int 2)\λx1=>am (c1 bO (bd (PV.cl (ns.map PV.int)))) λx2=>rG Uo [x1,x2]) λx4=>rG Up [x3,x4]) dg)=.ret (g8 0 m)/\1<=m/\m<=2:=by
  simp only[ga,gN,Ae,afU,afV];generalize hx:(if (if (ns.length:Int) < 2 then (ns.length:Int) else 2) > 1 then (if (ns.length:Int) < 2 then (ns.length:Int) else 2) else 1)=x;have h1:1<=x/\x<=2:=by rw[<- hx];split <;> split <;> omega
  refine⟨x.toNat,?_,by omega,by omega⟩;rw[cQ,mo (bf ∅ ∅)]
 rw[hm];simp only[ga,bn];refine XX (λ_ s=>s=()) rfl (λk s hk hs=>?_) (λs hs=>rfl);refine XI ∅ ∅ λl hl=>?_;refine⟨hl,?_⟩;rw[abw];simp only[bn];refine abu λg ws t ps G hN hw hW hB p4 p0=>?_;have hz:=hN.2;have tp:=t.size_pos;simp only[OO,kw];refine W.le.use (Sw G hN hB) ?_;obtain⟨c0,ì⟩:=NU (ps:=ps) G hw;obtain⟨lo,w0,ú,ew0⟩:=vQ G p0 hN ì;have wl:=PU hB;have cost:∀w∈uO g t,(bF 8 (fx g) (.tup (bq ps)) w.pv).le (.ret (.int (cst g ps w))):=λw hw=>by
  obtain⟨i,hi,hm,_⟩:=q8.mp hw;have r:=z9 G t 50 (t.size-1) i ∅ hi w hm;exact Jz p4 8 w ∅ r.1
 simp only[bX,kw];refine fg (c:=WT.pv) (λw=>PV.int (cst g ps w)) cost ?_;have ż:K0 ((uO g t).map λw=>PV.int (cst g ps w))=.ret (.int c0):=by
  have e:((uO g t).map λw=>PV.int (cst g ps w))=((uO g t).map (cst g ps)).map PV.int:=by rw[Ay];rfl
  rw[e];unfold K0;rw[dG];have ne:(uO g t).map (cst g ps)≠[]:=λz=>by
   have:cst g ps w0∈(uO g t).map (cst g ps):=Am.mpr ⟨w0,ú,rfl⟩;rw[z]at this;cases this
  simp only[ga,mo ne];have eo:KP ((uO g t).map λw=>(ap (cst g ps w):OI))=(uO g t).map (cst g ps):=by
   unfold KP;rw[List.filterMap_map];show((uO g t).filterMap λw=>ap (cst g ps w))=_;rw[List.filterMap_eq_map']
  have em:ft ((uO g t).map λw=>(ap (cst g ps w):OI))=ft (lg g ps t):=by
   refine KZ (λv hv=>?_) (λv hv=>?_)
   ·obtain⟨w,hw,e⟩:=Am.mp hv;have:=lo w hw;have:=Option.some.inj e;exact⟨c0,gW ì,by omega⟩
   ·obtain⟨m,hm,l⟩:=eF hv;rw[ì]at hm;cases hm;exact⟨cst g ps w0,Am.mpr ⟨w0,ú,rfl⟩,by omega⟩
  rw[ì]at em;unfold ft at em;rw[eo,if_neg ne]at em;rw[Option.some.inj em]
 rw[ż];simp only[kw];refine W.le.use (wR G p4 ∅) ?_;refine W.le.use (least_le G p4 ∅) ?_;rw[ì];have el:oP (ap c0)=.int c0:=rfl;simp only[el,ne_int,beq_self_eq_true,Bq,bg,kw,Ao,if_false,bn];have r10:dg (.int 10)=.ret (g8 0 10):=by rw[cQ,mo (bf ∅ ∅)];rfl
 have r2:dg (.int 2)=.ret (g8 0 2):=by rw[cQ,mo (bf ∅ ∅)];rfl
 have r4:dg (.int 4)=.ret (g8 0 4):=by rw[cQ,mo (bf ∅ ∅)];rfl
 simp only[r10,kw];have Td:(uO g t).map WT.pv≠[]:=λz=>by
  have:w0.pv∈(uO g t).map WT.pv:=Am.mpr ⟨w0,ú,rfl⟩;rw[z]at this;cases this
 refine nF (S:=λv=>∃w∈uO g t,v=w.pv) (λx _ R r=>pick_run Td (by rw[Ae];omega) λv hv=>r v (let ⟨w,h1,h2⟩:=Am.mp hv;⟨w,h1,h2.symm⟩)) λms hml hms=>?_;obtain⟨us,rfl,Ţ⟩:∃us:O WT,ms=us.map WT.pv/\∀w∈us,w∈uO g t:=by
  clear hml
  induction ms with
  | nil=>exact⟨[],rfl,λw h=>by cases h⟩
  | cons v r ih=>
   obtain⟨w,h1,rfl⟩:=hms v (.head _);obtain⟨us,rfl,h2⟩:=ih λx hx=>hms x (.tail _ hx);exact⟨w::us,rfl,λx hx=>by rcases AA.mp hx with rfl | hx;exact h1;exact h2 x hx⟩
 rw[Ae,gC]at hml;obtain⟨vs,e3,hvs,lvs⟩:=Rq WT.pv (uO g t) bm (ap 10);simp only[gM,kw,fj,e3];rw[eU (by rw[Ae,Ae];omega),<- Az];simp only[kw];have hS:∀w∈us++vs,w∈uO g t:=λw hw=>by
  rcases AJ.mp hw with hw | hw
  ·exact Ţ w hw
  ·exact hvs w hw
 have lS:(us++vs).length<=610:=by rw[Ah];omega
 generalize us++vs=S at hS lS;have æ:∀w∈uO g t,∀U,Wide g U t.size->(dE (fx g) t.pv (.tup (bq ps)) w.pv (.tup (rP U))).le (.ret (.bl (allB g ps t U&&GH g ps t U w))):=λw hw U W'=>by
  obtain⟨i,hi,hm,h1⟩:=q8.mp hw;exact RZ G p4 hW hz W' hi hm h1
 refine sI (λ_ s=>s=()) rfl (λk x s hx hs=>?_) (λs hs=>?_)
 ·obtain⟨w,hw,rfl⟩:=Am.mp (Bi hx);have hw:=hS w hw;simp only[bn];refine W.le.use (cost w hw) ?_;simp only[kw,eR];refine W.le.use (æ w hw _ (M9 g ps t)) ?_;simp only[Vr G ps t,D8,SM G p0 hN ì hw,aiG,beq_self_eq_true,Bq,bg,kw,Ao,if_false]
 ·simp only[afL,ga,bn,r2,r4,kw];have œ:∀x∈g8 0 2,∀R:PV->Prop,(∀v,(∃V,Wide g V t.size/\v=PV.tup (rP V))->R v)->(bK.bind λx59=>lU (fx g) t.pv x59).run R:=λx _ R r=>by
   simp only[bn];refine uS λqs q4 _=>?_;exact wR G q4 ∅ R (r _ ⟨_,M9 g qs t,rfl⟩)
  refine nF (S:=λv=>∃V,Wide g V t.size/\v=PV.tup (rP V)) œ λos1 ń J1=>?_;have hg:=G.len;refine nF (S:=λv=>∃V,Wide g V t.size/\v=PV.tup (rP V)) (λx _ R r=>Kp hg ∅ (M9 g ps t) λV WV=>r _ ⟨V,WV,rfl⟩) λos2 Ot sC=>?_;rw[gC]at ń Ot;rw[eU ∅];simp only[kw];refine sI (λ_ s=>s=()) rfl (λk x s hx hs=>?_) (λs hs=>trivial);obtain⟨V,WV,rfl⟩:∃V,Wide g V t.size/\x=PV.tup (rP V):=by
   rcases AJ.mp (Bi hx) with h | h
   ·exact J1 x h
   ·exact sC x h
  obtain⟨zs,e4,hzs,_⟩:=Rq WT.pv S bm (ap 6);simp only[gM,kw,fj,e4,ga,bn];refine sI (λ_ s=>s=()) rfl (λk x s hx hs=>?_) (λs hs=>trivial);obtain⟨w,hw,rfl⟩:=Am.mp (Bi hx);have hw:=hS w (hzs w hw);simp only[bn];refine W.le.use (æ w hw V WV) ?_;simp only[afX,bg,kw];cases hb:(allB g ps t V&&GH g ps t V w) with
  | false=>exact trivial
  | true=>
   obtain⟨b1,b2⟩:=Bool.and_eq_true_iff.mp hb;have ec:=taken G p0 hN ì hw WV b1 b2;simp only[beq_self_eq_true,if_true,bn];refine W.le.use (cost w hw) ?_;simp only[ec,ne_int,beq_self_eq_true,Bq,bg,kw,Ao,if_false]
end My
variable{ny Gj P9 Kh Vu Qb Qa Vt Gk Vv:PySem.Tok}{pI:BU}
namespace My
section
def top(i:Nat):u8:=PySem.Challenge.pw_treewithin_k38_whole_what_is_taken_is_le.main.body.getD i (.Pass ⟨0,0,0,0⟩)
abbrev dV(i k:Nat)(ks:O AK)(n:Nat)(m:MU PV n):DF:=⟨dnm (top i),top i,Nr (top i),k,λK=>RX K ks (rj n m)⟩
abbrev dL(i k:Nat)(ks:O AK)(n:Nat)(m:MU (O PV) n):DF:=⟨dnm (top i),top i,Nr (top i),k,λK=>Hw K ks (rj n m)⟩
abbrev dv(i k n:Nat)(m:MU PV n):DF:=dV i k (Au n .v) n m
abbrev zi:nn:=kf [("sign",lo),("LETTERS",gi)]
def sd:LS (top 6) zi:=lcs
abbrev xx:nn:=kf [("node",lo)]
def pX:LS (top 12) xx:=lcs
abbrev xt:nn:=kf [("house",lo)]
def pT:LS (top 21) xt:=lcs
abbrev tZ:nn:=kf [("far",lo),("house",fr),("lines",fr)]
def mU:LS (top 22) tZ:=lcs
abbrev Ib:nn:=kf [("house",lo),("name_of",gi),("halves",gi),("apart_from",gi),("houses",fr),("lines",fr)]
def uX:LS (top 23) Ib:=lcs
abbrev Ia:nn:=kf [("half",lo),("comes_in",gi)]
def uW:LS (top 32) Ia:=lcs
abbrev xr:nn:=kf [("far",lo),("stay",fr)]
abbrev xq:nn:=kf [("far",lo),("stay",fr)]
def pS:LS (top 34) xr:=lcs
def pR:LS (top 34) xq:=lcs
abbrev xv:nn:=kf [("ins",lo),("SPLIT",gi)]
abbrev xu:nn:=kf [("ins",lo),("OVER",gi)]
def pV:LS (top 35) xv:=lcs
def pU:LS (top 35) xu:=lcs
abbrev zl:nn:=kf [("stay",lo),("is_stay",gi),("ground",fr)]
abbrev zk:nn:=kf [("stay",lo),("below",lo),("under_at",gi),("ground",fr)]
def sf:LS (top 37) zl:=lcs
def me:LS (top 37) zk:=lcs
abbrev pM:nn:=kf [("node",lo)]
def jy:LS (top 39) pM:=lcs
abbrev H9:nn:=kf [("node",lo),("way",lo),("is_done",gi),("ground",fr)]
def nN:LS (top 41) H9:=lcs
abbrev zh:nn:=kf [("stay",lo),("len",gi),("under_at",gi),("ground",fr)]
def rZ:LS (top 44) zh:=lcs
abbrev zq:nn:=kf [("part",lo)]
abbrev zp:nn:=kf [("part",lo),("lost_on",gi),("ground",fr)]
abbrev zm:nn:=kf [("deed",lo),("done",fr)]
def sj:LS (top 45) zq:=lcs
def si:LS (top 45) zp:=lcs
def sh:LS (top 45) zm:=lcs
abbrev H0:nn:=kf [("price",lo),("many",lo)]
def nM:LS (top 46) H0:=lcs
abbrev xw:nn:=kf [("cost",lo)]
def pW:LS (top 50) xw:=lcs
abbrev vt:nn:=kf [("half",lo),("stay",lo),("rows",fr)]
def jz:LS (top 52) vt:=lcs
abbrev tY:nn:=kf [("deed",lo),("deed_cost",gi),("node",fr),("prices",fr),("rows",fr)]
def mT:LS (top 53) tY:=lcs
abbrev tW:nn:=kf [("below",lo),("summed",gi),("own",fr),("row",fr)]
def mR:LS (top 55) tW:=lcs
abbrev tX:nn:=kf [("entry",lo),("is_whole",gi)]
def mS:LS (top 60) tX:=lcs
abbrev zj:nn:=kf [("row",lo),("is_entries",gi),("ground",fr)]
def se:LS (top 61) zj:=lcs
abbrev nK:nn:=kf [("stay",lo),("is_bounded",gi),("ground",fr),("node",fr),("number",fr),("prices",fr),("rows",fr)]
def ig:LS (top 64) nK:=lcs
abbrev rV:nn:=kf [("number",lo),("node",lo),("is_row_bounded",gi),("ground",fr),("prices",fr),("thing",fr)]
abbrev rT:nn:=kf [("entry",lo),("is_within",gi),("cost",fr)]
def gB:LS (top 65) rV:=lcs
def k8:LS (top 65) rT:=lcs
abbrev rS:nn:=kf [("house",lo),("date",lo),("isinstance",gi),("str",gi)]
def gA:LS (top 67) rS:=lcs
abbrev zg:nn:=kf [("each",lo),("layer",fr),("numbers",fr)]
abbrev zf:nn:=kf [("far",lo),("house",fr),("layer",fr),("numbers",fr)]
def rY:LS (top 69) zg:=lcs
def rX:LS (top 69) zf:=lcs
abbrev K2:nn:=kf [("number",lo),("pair",lo)]
abbrev K1:nn:=kf [("pair",lo),("stay_of",gi),("begins",fr),("dates",fr),("houses",fr),("numbers",fr)]
def qA:LS (top 70) K2:=lcs
def xB:LS (top 70) K1:=lcs
def rB:eK (WN (top 73)) (Nr (top 73)) (aP (top 73)):=fsc
abbrev t6:nn:=kf [("_law_k",lo),("_law_first",fr),("_law_letters",fr),("_law_tail",fr),("_law_turn",fr)]
def mV:LS (top 75) t6:=lcs
abbrev uc:nn:=kf [("_law_k",lo),("_law_pick",gi),("_law_hand_here",fr),("_law_words_here",fr)]
def mX:LS (top 78) uc:=lcs
def eX:eK (WN (top 79)) (Nr (top 79)) (aP (top 79)):=fsc
abbrev ud:nn:=kf [("_law_at",lo),("_law_house",lo),("isinstance",gi),("str",gi)]
def hZ:LS (top 80) ud:=lcs
abbrev ub:nn:=kf [("_law_below",lo),("_law_node",fr),("_law_place",fr)]
def mW:LS (top 84) ub:=lcs
def aU:eK (WN (top 85)) (Nr (top 85)) (aP (top 85)):=fsc
abbrev xA:nn:=kf [("_law_other",lo),("_law_at",fr),("_law_deed",fr),("_law_one",fr)]
abbrev xy:nn:=kf [("_law_way",lo),("_law_at",fr)]
def pZ:LS (top 85) xA:=lcs
def pY:LS (top 85) xy:=lcs
def iy:eK (WN (top 87)) (Nr (top 87)) (aP (top 87)):=fsc
abbrev vv:nn:=kf [("_law_at",lo),("len",gi),("_law_prices_here",fr),("_law_stays_here",fr)]
def nP:LS (top 87) vv:=lcs
abbrev SE:nn:=kf [("_law_way",lo),("_law_cost",gi),("_law_prices_here",fr),("_law_stays_here",fr)]
abbrev SD:nn:=kf [("_law_turn",lo),("_law_pick",gi),("_law_hand_here",fr),("_law_ways",fr)]
abbrev SA:nn:=kf [("_law_turn",lo),("table",gi),("_law_prices",gi),("_law_hand_here",fr),("_law_small_here",fr),("_law_stays_here",fr)]
abbrev Sz:nn:=kf [("_law_turn",lo),("_law_shifted",gi),("_law_hand_here",fr),("_law_rows",fr)]
def Lb:LS (top 91) SE:=lcs
def La:LS (top 91) SD:=lcs
def K9:LS (top 91) SA:=lcs
def K8:LS (top 91) Sz:=lcs
structure NB(v:EV):Prop where
 isinstance:v.mg "isinstance"=bm
 bool:v.mg "bool"=bm
 int:v.mg "int"=bm
 len:v.mg "len"=bm
 tuple:v.mg "tuple"=bm
 str:v.mg "str"=bm
 all:v.mg "all"=bm
 list:v.mg "list"=bm
 reversed:v.mg "reversed"=bm
 enumerate:v.mg "enumerate"=bm
 range:v.mg "range"=bm
 sorted:v.mg "sorted"=bm
 zip:v.mg "zip"=bm
 sum:v.mg "sum"=bm
 min:v.mg "min"=bm
 dict:v.mg "dict"=bm
 abs:v.mg "abs"=bm
 max:v.mg "max"=bm
variable{v:EV}
abbrev mr:DF:=dv 1 1 1 fu
def N8(D:DI v mr)(q:NB v):D.O:=
 gV D λhr nd aF=>
 (SF.bu (sQ (gm rfl .int rfl q.isinstance (ae 0) rfl q.int boot_int) (sN (ajV (gm rfl .bool rfl q.isinstance (ae 0) rfl q.bool boot_bool)))) λ_=>rfl)
abbrev lA:DF:=dv 2 1 2 fV
def Xi(D:DI v lA)(q:NB v):D.O:=
 gV D λhr nd aF uU=>
 (SF.bu (sQ (gm rfl .tup rfl q.isinstance (ae 0) rfl q.tuple boot_tuple) (sN (qd (e7 rfl (aQ hr)) (bZ rfl rfl q.len (ae 0)) (ae 1)))) λ_=>rfl)
abbrev lz:DF:=dv 6 1 1 oX
def GL(D:DI v lz)(q:NB v)(de:v.mg "LONGEST_WORD"=ap (.int 8 ny))(i7:v.mg "LETTERS"=ap (.str "abcdefghijklmnopqrstuvwxyz" Gj)):D.O:=
 gV D λhr nd aF=>
 (SF.MJ (yU.t (Gh (je (dB rfl (gm rfl .str rfl q.isinstance (ae 0) rfl q.str wE) (λ_=>rfl))) (tH (je (Zp GN GN aj (bZ rfl rfl q.len (ae 0)) (ym de rfl))))))
 (SF.bu nZ λ_=>rfl)
 (SF.bu (sR rfl rfl rfl q.all (aZ (cj rfl sd (aft (ae 0)) (λ_ _ _ _ _=>(bP 0 sd.nd)) (λ_ _ _ _ _ p2=>(qd (afq rfl) (ae 0) (yk i7 rfl))) rfl))) λ_=>rfl))
abbrev qN(jH:ci):DF:=dV 7 2 [.v,.f jH,.v] 2 lY
theorem N9{jH:ci}(D:DI v (qN jH))(Ox:agB v.P v.w v.K v.mg v.base jH lz.k lz.ps (lz.sp v.K))(jB:lA.C v):D.O:=
 gV D λhr nd aF Nx=>
 (SF.amy (i:=3) nd rfl (Co rfl)
 (sl 4 nd (aH (n:=1) (av 0 ag) rfl) λc7=>
 (SF.wK (hd:=(λ(s4:O (Key×PV)×O PV)=>([ap (.val aF),ap (.adr jH),ap (.val Nx),ap (.od s4.1),ap (.ol bm s4.2),bm]:bD))) (s0:=([],c7)) (inj:=id) Ax (.refl _) (λs4=>(Vs rfl (cu 4) (λ_=>rfl))) (λ_=>trivial) (λs4=>
 (SF.xa 4 5 rfl ⋯ rfl rfl (.inl rfl) nd rfl (Co rfl) λt7=>
 (SF.Y2 (dB rfl (eC jB hr (av 5 (ai aj ag))) (λ_=>rfl))
 (SF.extend 4 rfl rfl rfl (.inl rfl) (aA (ae 5)) λdR=>
 (SF.cV rfl (.m 32)))
 (SF.Y2 (yU.t (Gh (je (dB rfl (abQ 1 Ox hr (by first | exact Dc rfl | omega) rfl (av 5 ag) rfl) (λ_=>rfl))) (tH (yU.t (nu (ahy 3 rfl (aQ hr) (ae 5)) (jW (je (dB rfl (ae 2) (λ_=>rfl)))))))))
 (SF.ret (k:=λjP=>(Lp.out jP)) nZ λ_=>rfl)
 (SF.putD 3 rfl (aQ hr) rfl (.inl rfl) nZ (ae 5) λQq=>
 (SF.cV rfl (.m 32))))))) λs4=>
 (SF.bu nZ λ_=>rfl))))
abbrev uB:DF:=dv 8 3 1 tU
def SV(D:DI v uB){yc:ci}(Ut:v.mg "is_word"=ap (.ref yc))(OE:(qN yc).C v):D.O:=
 gV D λhr nd aF=>
 (SF.bu (eC OE hr (av 0 (aov rfl Ut (ai nZ ag)))) λ_=>rfl)
abbrev qK:DF:=dL 9 1 [.v] 1 qx
def N5(D:DI v qK)(q:NB v):D.O:=
 NI D λhr nd cI=>
 (sl 1 nd (aH (n:=0) ag rfl) λfy=>
 (sl 2 nd (aH (n:=1) (av 0 ag) rfl) λc7=>
 (SF.acs (hd:=(λ(s4:O PV×O PV)=>([ap (.val cI),ap (.ol bm s4.1),ap (.ol bm s4.2),bm]:bD))) (s0:=(fy,c7)) Ax (.refl _) (λs4=>(Vs rfl (cu 2) (λ_=>rfl))) (λs4=>
 (SF.xa 2 3 rfl ⋯ rfl rfl (.inl rfl) nd rfl (Co rfl) λt7=>
 (SF.append 1 rfl rfl rfl (.inl rfl) (ae 3) λgG=>
 (SF.Y2 (je (dB rfl (gm rfl .str rfl q.isinstance (ae 3) rfl q.str wE) (λ_=>rfl)))
 (SF.extend 2 rfl rfl rfl (.inl rfl) (aA (ae 3)) λdR=>
 (SF.cV rfl (.m 8)))
 (SF.cV rfl (.m 8)))))) λs4=>
 (SF.jm (acQ rfl rfl rfl q.list rfl q.reversed (HF 1)) λ_=>rfl))))
abbrev iM:DF:=dv 10 2 1 gK
def aa1(D:DI v iM)(q:NB v)(OA:qK.C v):D.O:=
 gV D λhr nd cI=>
 (sl 1 nd (aH (n:=0) ag rfl) λlK=>
 (sl 2 nd (aH (n:=0) ag rfl) λIc=>
 (SF.kI (hd:=(λ(s4:O PV×O PV)=>([ap (.val cI),ap (.ol bm s4.1),ap (.ol bm s4.2),bm,bm,bm]:bD))) (s0:=(lK,Ic)) Ax rfl (aR rfl (uZ (lC OA hr (av 0 ag)))) (.refl _) (bP 3 nd) (λs4 HL=>
 (SF.ifS (out1:=λ(ô:O PV×O PV)=>.nx ([ap (.val cI),ap (.ol bm ô.1),ap (.ol bm ô.2),ap (.val HL),bm,bm]:bD)) (dB rfl (gm rfl .str rfl q.isinstance (ae 3) rfl q.str wE) (λ_=>rfl))
 (SF.append 1 rfl rfl rfl (.inl rfl) (ae 3) λP8=>
 (SF.nil rfl (.refl _)))
 (SF.xa 2 4 rfl ⋯ rfl rfl (.inl rfl) nd rfl (Co rfl) λt20=>
 (SF.xa 2 5 rfl ⋯ rfl rfl (.inl rfl) nd rfl (Co rfl) λt22=>
 (SF.append 1 rfl rfl rfl (.inl rfl) (aE (n:=2) (av 5 (av 4 ag)) rfl) λP7=>
 (SF.nil rfl (.m 48)))))
 λô=>(SF.append 2 rfl rfl rfl (.inl rfl) (va (uw rfl rfl q.len (cu 1)) aj) λK4=>
 (SF.cV rfl (.m 8))))) λs4=>
 (SF.bu (dz rfl rfl q.tuple (cu 1)) λ_=>rfl))))
abbrev jJ:DF:=dv 11 1 1 dC
def Xk(D:DI v jJ)(q:NB v):D.O:=
 gV D λhr nd a6=>
 (SF.bu (vL (dB rfl (gm rfl .str rfl q.isinstance (ae 0) rfl q.str wE) (λ_=>rfl)) (aE (n:=0) ag rfl) (ae 0)) λ_=>rfl)
abbrev mB:DF:=dv 12 3 1 jt
def Od(D:DI v mB)(q:NB v)(eI:iM.C v)(gb:jJ.C v):D.O:=
 gV D λhr nd cI=>
 (sv 1 nd (eC eI hr (av 0 ag)) λlK=>
 (SF.lM (i:=3) rfl nd rfl rfl pX (aR rfl (aX (ae 1))) (λ_ _ _ _ _=>(bP 0 pX.nd)) (λ_ _ _ _ _ p5=>ip) rfl λJI=>
 (SF.TC (hd:=(λ(s7:O PV)=>([ap (.val cI),ap (.val lK),bm,ap (.ol bm s7),bm,bm]:bD))) (s0:=JI) Ax rfl (ph rfl rfl q.enumerate (aX (ae 1))) (.refl _) (λ_=>(MM rfl (c8 rfl (aB (bP 4 nd) (aB (bP 2 nd) bW))))) (λs7 t9=>
 (SF.kI (hd:=(λ(õ:O PV)=>([ap (.val cI),ap (.val lK),ap (.val t9.2),ap (.ol bm õ),ap (.val t9.1),bm]:bD))) (s0:=s7) Ax rfl (aR rfl (aX (eC gb hr (av 2 ag)))) (.refl _) (bP 5 nd) (λõ Q9=>
 (SF.HC 3 rfl rfl (.inl rfl) (ae 4) (ae 5) λMn=>
 (SF.cV rfl (.m 32)))) λõ=>
 (SF.cV rfl (.m 20)))) λs7=>
 (SF.bu (dz rfl rfl q.tuple (cu 3)) λ_=>rfl))))
abbrev d8:DF:=dv 17 1 2 cW
def N2(D:DI v d8)(sU:v.mg "UNDER"=ap (.int 2 P9)):D.O:=
 gV D λhr nd lL bI=>
 (SF.bu (aJ rfl (aA (aJ rfl (aA (ae 0)) (ae 1))) (ym sU rfl)) λ_=>rfl)
abbrev oj:DF:=dv 18 1 2 kd
def Ls(D:DI v oj)(oy:v.mg "BESIDE"=ap (.int 3 Kh)):D.O:=
 gV D λhr nd lL bI=>
 (SF.bu (aJ rfl (aA (aJ rfl (aA (ae 0)) (ae 1))) (ym oy rfl)) λ_=>rfl)
abbrev uF:DF:=dv 19 2 3 o5
def S0(D:DI v uF)(yE:v.mg "NAME"=ap (.int 0 Vu))(cz:d8.C v):D.O:=
 gV D λhr nd lL bI acr=>
 (SF.bu (sQ (qd (e7 rfl (aQ hr)) (eC cz hr (av 0 (av 1 ag))) (aE (n:=0) ag rfl)) (sN (qd (e7 rfl (aQ hr)) (aJ rfl (aA (aJ rfl (aA (ae 0)) (ae 1))) (ym yE rfl)) (ae 2)))) λ_=>rfl)
abbrev pD:DF:=dv 20 1 2 gz
def SS(D:DI v pD)(q:NB v):D.O:=
 gV D λhr nd gL nT=>
 (SF.bu (vL (dB rfl (gm rfl .str rfl q.isinstance (aJ rfl (aA (ae 0)) (ae 1)) rfl q.str wE) (λ_=>rfl)) (aJ rfl (aA (ae 0)) (ae 1)) (ae 1)) λ_=>rfl)
abbrev qM:DF:=dL 21 4 [.v] 1 lX
def N7(D:DI v qM)(q:NB v)(qF:mB.C v):D.O:=
 NI D λhr nd eQ=>
 (sv 1 nd (eC qF hr (av 0 ag)) λfm=>
 (SF.lM (i:=3) rfl nd rfl rfl pT (aR rfl (aX (ae 1))) (λ_ _ _ _ _=>(bP 0 pT.nd)) (λ_ _ _ _ _ p5=>(aE (n:=0) ag rfl)) rfl λo9=>
 (SF.kI (hd:=(λ(s9:O PV)=>([ap (.val eQ),ap (.val fm),bm,ap (.ol bm s9),bm]:bD))) (s0:=o9) Ax rfl (QZ rfl q.range (va (bZ rfl rfl q.len (ae 1)) aj) (ly aj) (ly aj)) (.refl _) (bP 2 nd) (λs9 nS=>
 (sv 4 nd (vL (bT ug (aJ rfl (aA (ae 1)) (ae 2)) ip) (aE (n:=0) ag rfl) (aJ rfl (cu 3) (aJ rfl (aA (ae 1)) (ae 2)))) λMo=>
 (SF.HC 3 rfl rfl (.inl rfl) (ck rfl (aE (n:=1) (av 2 ag) rfl) (ae 4)) (ae 2) λK6=>
 (SF.cV rfl (.m 20))))) λs9=>
 (SF.VU 3 rfl rfl))))
abbrev mz:DF:=dv 22 1 2 iB
def Ir(D:DI v mz)(q:NB v):D.O:=
 gV D λhr nd Ig nT=>
 (SF.bu (dz rfl rfl q.tuple (nA (Lf rfl mU (cM rfl q.range (bZ rfl rfl q.len (ae 0))) (λ_ _ _ _ _=>(bP 0 mU.nd)) (λ_ _ _ _ _ p3=>(yU.t (nu (Hs rfl (aQ hr) (ae 0) (aA (aJ rfl (aA (ae 2)) (ae 1)))) (jW (Hs rfl (aQ hr) (ae 1) (aA (aJ rfl (aA (ae 2)) (ae 0)))))))) (λ_ _ _ _ _ p3=>(ae 0)) rfl))) λ_=>rfl)
abbrev yB:DF:=dv 23 5 1 nH
def Xl(D:DI v yB)(q:NB v)(eI:iM.C v)(OC:qM.C v)(uo:pD.C v)(gb:jJ.C v)(IT:mz.C v):D.O:=
 gV D λhr nd eQ=>
 (sv 1 nd (eC eI hr (av 0 ag)) λbr=>
 (sl 2 nd (lC OC hr (av 0 ag)) λo9=>
 SF.c6 2 rfl (SF.bu (dz rfl rfl q.tuple (nA (cj rfl uX (cM rfl q.range (bZ rfl rfl q.len (ae 1))) (λ_ _ _ _ _=>(bP 0 uX.nd)) (λ_ _ _ _ _ p7=>(aE (n:=4) (ai (eC uo hr (av 1 (av 0 ag))) (ai aj (ai (eC gb hr (ai (aJ rfl (aA (ae 1)) (ae 0)) ag)) (ai (eC IT hr (av 2 (av 0 ag))) ag)))) rfl)) rfl))) λ_=>rfl)))
abbrev qO:DF:=dv 30 1 1 fw
def Ob(D:DI v qO):D.O:=
 gV D λhr nd eA=>
 (SF.bu (aJ rfl (aA (aJ rfl (aA (ae 0)) aj)) aj) λ_=>rfl)
abbrev uH:DF:=dv 31 1 1 tV
def S2(D:DI v uH):D.O:=
 gV D λhr nd eA=>
 (SF.bu (aJ rfl (aA (aJ rfl (aA (ae 0)) aj)) (ly aj)) λ_=>rfl)
abbrev yA:DF:=dv 32 2 1 xo
def Xj(D:DI v yA)(q:NB v)(OG:qO.C v):D.O:=
 gV D λhr nd eA=>
 (SF.bu (dz rfl rfl q.tuple (nA (cj rfl uW (aR rfl (aX (yj rfl (ae 0) (ku aj) jo))) (λ_ _ _ _ _=>(bP 0 uW.nd)) (λ_ _ _ _ _ p5=>(eC OG hr (av 0 ag))) rfl))) λ_=>rfl)
abbrev n9:DF:=dL 33 2 [.v,.v] 2 j9
def Lm(D:DI v n9)(q:NB v)(cz:d8.C v):D.O:=
 NI D λhr nd aq bI=>
 (sv 2 nd (eC cz hr (av 0 (av 1 ag))) λir=>
 (SF.jm (aaS (bT (e7 rfl (aQ hr)) (bZ rfl rfl q.len (ae 2)) aj) (aH (n:=2) (av 2 (ai (aE (n:=2) (ai (aJ rfl (aA (ae 2)) aj) (ai (aJ rfl (aA (ae 2)) aj) ag)) rfl) ag)) rfl) (aH (n:=0) ag rfl)) λ_=>rfl))
abbrev qL:DF:=dL 34 2 [.v,.v] 2 lW
def N6(D:DI v qL)(LJ:oj.C v):D.O:=
 NI D λhr nd aq bI=>
 (sv 2 nd (eC LJ hr (av 0 (av 1 ag))) λyG=>
 (SF.jm (jA rfl (aZ (cj rfl pS (aR rfl (aX (ae 2))) (λ_ _ _ _ _=>(bP 0 pS.nd)) (λ_ _ _ _ _ p5=>(aE (n:=2) (av 1 (av 0 ag)) rfl)) rfl)) (aZ (cj rfl pR (aR rfl (aX (ae 2))) (λ_ _ _ _ _=>(bP 0 pR.nd)) (λ_ _ _ _ _ p9=>(aE (n:=2) (av 0 (av 1 ag)) rfl)) rfl))) λ_=>rfl))
abbrev my:DF:=dL 35 3 [.v,.v,.v] 3 fv
def Oa(D:DI v my)(q:NB v)(sW:v.mg "FOUND"=ap (.str "found" Qb))(sV:v.mg "SPLIT"=ap (.str "split" Qa))(yD:v.mg "OVER"=ap (.str "over" Vt))(lB:v.mg "DOUBLED"=ap (.str "doubled" Gk))(Tv:uF.C v)(LG:n9.C v)(OB:qL.C v):D.O:=
 NI D λhr nd aq a6 bI=>
 (SF.MJ (dB rfl (gm rfl .str rfl q.isinstance (ae 1) rfl q.str wE) (λ_=>rfl))
 (SF.jm (aaS (dB rfl (eC Tv hr (av 0 (av 2 (av 1 ag)))) (λ_=>rfl)) (aH (n:=1) (ai (aE (n:=2) (ai (yk sW rfl) (ai (aE (n:=0) ag rfl) ag)) rfl) ag) rfl) (aH (n:=0) ag rfl)) λ_=>rfl)
 (SF.lM (i:=3) rfl nd rfl rfl pV (aR rfl (uZ (lC LG hr (av 0 (av 2 ag))))) (λ_ _ _ _ _=>(bP 0 pV.nd)) (λ_ _ _ _ _ QC=>(aE (n:=2) (ai (yk sV rfl) (av 0 ag)) rfl)) rfl λQh=>
 SF.c6 3 rfl (SF.lM (i:=4) rfl nd rfl rfl pU (aR rfl (uZ (lC OB hr (av 0 (av 2 ag))))) (λ_ _ _ _ _=>(bP 0 pU.nd)) (λ_ _ _ _ _ p18=>(aE (n:=2) (ai (yk yD rfl) (av 0 ag)) rfl)) rfl λQD=>
 SF.c6 4 rfl (SF.jm (aaQ rfl (aQ hr) rfl q.sorted (aZ (jA rfl (aZ (jA rfl (aZ (aH (n:=1) (ai (aE (n:=2) (ai (yk lB rfl) (ai (aE (n:=2) (av 2 (av 2 ag)) rfl) ag)) rfl) ag) rfl)) (jn (ae 3)))) (jn (ae 4))))) λ_=>rfl))))
abbrev uC:DF:=dv 36 2 2 oY
def SW(D:DI v uC)(q:NB v)(qD:mr.C v):D.O:=
 gV D λhr nd aq aF=>
 (SF.bu (sQ (eC qD hr (av 1 ag)) (sN (abO GN QX aj (ae 1) (bZ rfl rfl q.len (ae 0))))) λ_=>rfl)
abbrev uE:DF:=dv 37 3 2 o4
def SY(D:DI v uE)(q:NB v)(Ts:uC.C v)(cz:d8.C v):D.O:=
 gV D λhr nd aq aF=>
 (SF.MJ (yU.t (Gh (je (dB rfl (gm rfl .tup rfl q.isinstance (ae 1) rfl q.tuple boot_tuple) (λ_=>rfl))) (tH (bT (e7 rfl (aQ hr)) (bZ rfl rfl q.len (ae 1)) aj))))
 (SF.bu nZ λ_=>rfl)
 (SF.MJ (je (dB rfl (sR rfl rfl rfl q.all (aZ (cj rfl sf (aR rfl (aX (ae 1))) (λ_ _ _ _ _=>(bP 0 sf.nd)) (λ_ _ _ _ _ p2=>(eC Ts hr (av 1 (av 0 ag)))) rfl))) (λ_=>rfl)))
 (SF.bu nZ λ_=>rfl)
 (SF.bu (sR rfl rfl rfl q.all (aZ (xE rfl me (ui rfl rfl q.zip (aX (ae 1)) (aX (yj rfl (ae 1) (ku aj) jo))) (λ_ _ _ _ _=>(MM rfl (c8 rfl (aB (bP 0 me.nd) (aB (bP 1 me.nd) bW))))) (λ_ _ _ _ _ yR=>(adj rfl (aQ hr) (ae 1) (aA (eC cz hr (av 2 (av 0 ag)))))) (Lc rfl rfl ⋯) ⋯))) λ_=>rfl)))
abbrev oe:DF:=dv 38 4 3 ka
def Lq(D:DI v oe)(q:NB v)(Tu:uE.C v)(jB:lA.C v):D.O:=
 gV D λhr nd aq a6 aF=>
 (sv 3 nd (vL (dB rfl (gm rfl .str rfl q.isinstance (ae 1) rfl q.str wE) (λ_=>rfl)) aj aj) λWX=>
 (SF.bu (sQ (eC jB hr (av 2 (av 3 ag))) (sQ (eC Tu hr (av 0 (ai (aJ rfl (aA (ae 2)) aj) ag))) (sN (gm rfl .str rfl q.isinstance (aJ rfl (aA (ae 2)) aj) rfl q.str wE)))) λ_=>rfl))
abbrev ic:DF:=dv 39 5 3 fh
def vC(D:DI v ic)(q:NB v)(LH:oe.C v)(gb:jJ.C v):D.O:=
 gV D λhr nd aq bz aF=>
 (SF.lM (i:=4) rfl nd rfl rfl jy (aR rfl (aX (ae 1))) (λ_ _ _ _ _=>(bP 0 jy.nd)) (λ_ _ _ _ _ p3=>ip) rfl λU7=>
 (SF.HC 4 rfl rfl (.inl rfl) (ae 2) (ly aj) λql=>
 (SF.LW (hd:=(λ(tK:O PV)=>([ap (.val aq),ap (.val bz),ap (.val aF),bm,ap (.ol bm tK),bm,bm,bm,bm]:bD))) (s0:=ql) (inj:=id) Ax rfl (QZ rfl q.range (va (bZ rfl rfl q.len (ae 1)) aj) (ly aj) (ly aj)) (.refl _) (bP 5 nd) (λ_=>trivial) (λtK oQ=>
 (sv 3 nd (aJ rfl (aA (ae 1)) (ae 5)) λvZ=>
 (sv 6 nd (aJ rfl (cu 4) (ae 5)) λHj=>
 (SF.MJ (je (dB rfl (eC LH hr (av 0 (av 3 (av 6 ag)))) (λ_=>rfl)))
 (SF.ret (k:=λqX=>(Lp.out qX)) ip λ_=>rfl)
 (SF.TC (hd:=(λ(ó:O PV)=>([ap (.val aq),ap (.val bz),ap (.val aF),ap (.val vZ),ap (.ol bm ó),ap (.val oQ),ap (.val Hj),bm,bm]:bD))) (s0:=tK) Ax rfl (ui rfl rfl q.zip (aX (eC gb hr (av 3 ag))) (aX (yj rfl (ae 6) (ku aj) jo))) (.refl _) (λ_=>(MM rfl (c8 rfl (aB (bP 7 nd) (aB (bP 8 nd) bW))))) (λó Ŕ=>
 (SF.HC 4 rfl rfl (.inl rfl) (ae 8) (ae 7) λPX=>
 (SF.cV rfl (.m 384)))) λó=>
 (SF.cV rfl (.m 104))))))) λtK=>
 (SF.c6 4 rfl (SF.bu (ae 4) λ_=>rfl)))))
abbrev uG:DF:=dv 40 4 3 o6
def S1(D:DI v uG)(XT:yA.C v)(qE:my.C v)(Tx:uH.C v):D.O:=
 gV D λhr nd aq a6 eA=>
 (SF.bu (adj rfl (aQ hr) (aE (n:=2) (ai (aJ rfl (aA (ae 2)) aj) (ai (eC XT hr (av 2 ag)) ag)) rfl) (nA (lC qE hr (av 0 (av 1 (ai (eC Tx hr (av 2 ag)) ag)))))) λ_=>rfl)
abbrev yz:DF:=dv 41 6 3 rQ
def Xh(D:DI v yz)(q:NB v)(Tq:uB.C v)(eI:iM.C v)(vI:ic.C v)(Tw:uG.C v):D.O:=
 gV D λhr nd aq dH aF=>
 (SF.MJ (je (dB rfl (eC Tq hr (av 1 ag)) (λ_=>rfl)))
 (SF.bu nZ λ_=>rfl)
 (sv 3 nd (eC eI hr (av 1 ag)) λM8=>
 (sv 4 nd (eC vI hr (av 0 (av 3 (av 2 ag)))) λql=>
 (SF.MJ (yU.t (Gh (bT ug (ae 4) ip) (tH (bT (Lz rfl (aQ hr)) (bZ rfl rfl q.len (aJ rfl (aA (ae 2)) aj)) aj))))
 (SF.bu nZ λ_=>rfl)
 (SF.bu (sR rfl rfl rfl q.all (aZ (xE rfl nN (ui rfl rfl q.zip (aX (ae 3)) (aX (ae 4))) (λ_ _ _ _ _=>(MM rfl (c8 rfl (aB (bP 0 nN.nd) (aB (bP 1 nN.nd) bW))))) (λ_ _ _ _ _ yR=>(eC Tw hr (av 2 (av 0 (av 1 ag))))) (Lc rfl rfl ⋯) ⋯))) λ_=>rfl)))))
abbrev kL:DF:=dL 42 1 [.v] 1 kB
def zw(D:DI v kL)(q:NB v):D.O:=
 NI D λhr nd eA=>
 (sl 1 nd (aH (n:=0) ag rfl) λfy=>
 (sl 2 nd (aH (n:=1) (av 0 ag) rfl) λc7=>
 (SF.acs (hd:=(λ(s4:O PV×O PV)=>([ap (.val eA),ap (.ol bm s4.1),ap (.ol bm s4.2),bm]:bD))) (s0:=(fy,c7)) Ax (.refl _) (λs4=>(Vs rfl (cu 2) (λ_=>rfl))) (λs4=>
 (SF.xa 2 3 rfl ⋯ rfl rfl (.inl rfl) nd rfl (Co rfl) λt7=>
 (SF.append 1 rfl rfl rfl (.inl rfl) (ae 3) λgG=>
 (SF.extend 2 rfl rfl rfl (.inl rfl) (aA (yj rfl (ae 3) (ku aj) jo)) λdR=>
 (SF.cV rfl (.m 8)))))) λs4=>
 (SF.jm (acQ rfl rfl rfl q.list rfl q.reversed (HF 1)) λ_=>rfl))))
abbrev uA:DF:=dv 44 2 2 oW
def SU(D:DI v uA)(q:NB v)(cz:d8.C v):D.O:=
 gV D λhr nd aq acH=>
 (SF.bu (uw rfl rfl q.len (nA (Lf rfl rZ (aR rfl (aX (yj rfl (ae 1) jo (ku (ly aj))))) (λ_ _ _ _ _=>(bP 0 rZ.nd)) (λ_ _ _ _ _ p5=>(bT (e7 rfl (aQ hr)) (bZ rfl rfl q.len (eC cz hr (av 1 (av 0 ag)))) aj)) (λ_ _ _ _ _ p5=>(ae 0)) rfl))) λ_=>rfl)
abbrev uI:DF:=dv 45 3 2 o8
def S3(D:DI v uI)(q:NB v)(iQ:v.mg "DEEDS"=ap (.ref pI))(mf:Pu v.K pI ["split","doubled","over"])(zI:kL.C v)(Tp:uA.C v):D.O:=
 gV D λhr nd aq eA=>
 (sl 2 nd (lC zI hr (av 1 ag)) λHK=>
 SF.c6 2 rfl (sl 3 nd (cj rfl sj (aR rfl (aX (ae 2))) (λ_ _ _ _ _=>(bP 0 sj.nd)) (λ_ _ _ _ _ p5=>(aJ rfl (aA (ae 0)) aj)) rfl) λYu=>
 SF.c6 3 rfl (sv 4 nd (yi rfl rfl rfl q.sum (aZ (cj rfl si (aR rfl (aX (ae 2))) (λ_ _ _ _ _=>(bP 0 si.nd)) (λ_ _ _ _ _ p8=>(eC Tp hr (av 1 (ai (aJ rfl (aA (ae 0)) aj) ag)))) rfl))) λWY=>
 (SF.bu (dz rfl rfl q.tuple (nA (jA rfl (aZ (cj rfl sh (ai2 rfl iQ mf) (λ_ _ _ _ _=>(bP 0 sh.nd)) (λ_ _ _ _ _ p12=>(abN rfl (aQ hr) (jn (ae 1)) (ae 0))) rfl)) (aZ (aH (n:=1) (av 4 ag) rfl))))) λ_=>rfl))))
abbrev yx:DF:=dv 46 1 2 rO
def Xf(D:DI v yx)(q:NB v):D.O:=
 gV D λhr nd aG YB=>
 (SF.bu (yi rfl rfl rfl q.sum (aZ (xE rfl nM (ui rfl rfl q.zip (aX (ae 0)) (aX (ae 1))) (λ_ _ _ _ _=>(MM rfl (c8 rfl (aB (bP 0 nM.nd) (aB (bP 1 nM.nd) bW))))) (λ_ _ _ _ _ t5=>(sP (ae 0) (ae 1))) (Lc rfl rfl ⋯) ⋯))) λ_=>rfl)
abbrev sS:DF:=dv 49 1 1 nG
def Xd(D:DI v sS)(q:NB v):D.O:=
 gV D λhr nd uJ=>
 (SF.bu (vL (ahx rfl (aQ hr) ip (aA (ae 0))) ip (yi rfl rfl rfl q.sum (jn (ae 0)))) λ_=>rfl)
abbrev jK:DF:=dv 50 1 1 dW
def Oc(D:DI v jK)(q:NB v):D.O:=
 gV D λhr nd uJ=>
 (SF.bu (af2 rfl rfl rfl q.min (aZ (Lf rfl pW (aR rfl (aX (ae 0))) (λ_ _ _ _ _=>(bP 0 pW.nd)) (λ_ _ _ _ _ p2=>(bT QW (ae 0) ip)) (λ_ _ _ _ _ p2=>(ae 0)) rfl))) λ_=>rfl)
abbrev qJ:DF:=dv 51 1 2 gw
def N4(D:DI v qJ)(iQ:v.mg "DEEDS"=ap (.ref pI))(mf:Pu v.K pI ["split","doubled","over"]):D.O:=
 gV D λhr nd aG yr=>
 (SF.bu (vL (ahw rfl (aQ hr) (ae 1) iQ mf) (aJ rfl (aA (ae 0)) (af3 rfl (ae 1) iQ mf)) aj) λ_=>rfl)
abbrev og:DF:=dv 52 2 4 fB
def Lr(D:DI v og)(q:NB v)(gb:jJ.C v)(xV:sS.C v)(Oz:qJ.C v):D.O:=
 gV D λhr nd aG eL a6 yr=>
 (SF.Qp (i:=4) rfl nd rfl rfl jz (ui rfl rfl q.zip (aX (eC gb hr (av 2 ag))) (aX (aJ rfl (aA (ae 3)) aj))) (λ_ _ _ _ _=>(MM rfl (c8 rfl (aB (bP 0 jz.nd) (aB (bP 1 jz.nd) bW))))) (λ_ _ _ _ _ t7=>(aJ rfl (aA (aJ rfl (aA (ae 2)) (ae 0))) (ae 1))) (Lc rfl rfl ⋯) ⋯ λKO=>
 SF.c6 4 rfl (SF.bu (eC xV hr (ai (hU (jA rfl (aZ (aH (n:=1) (ai (eC Oz hr (av 0 (ai (aJ rfl (aA (ae 3)) aj) ag))) ag) rfl)) (jn (ae 4)))) ag)) λ_=>rfl))
abbrev iO:DF:=dL 53 4 [.v,.v,.v,.v,.v] 5 dq
def Iq(D:DI v iO)(qE:my.C v)(LI:og.C v):D.O:=
 NI D λhr nd aq aG eL a6 bI=>
 (SF.jm (cj rfl mT (aR rfl (uZ (lC qE hr (av 0 (av 3 (av 4 ag)))))) (λ_ _ _ _ _=>(bP 0 mT.nd)) (λ_ _ _ _ _ p5=>(eC LI hr (av 2 (av 3 (av 1 (av 0 ag)))))) rfl) λ_=>rfl)
abbrev n8:DF:=dv 54 2 3 j8
def Ll(D:DI v n8)(q:NB v)(yF:v.mg "LOST"=ap (.int 3 Vv))(cz:d8.C v):D.O:=
 gV D λhr nd aq aG bI=>
 (SF.bu (vL (bT (e7 rfl (aQ hr)) (bZ rfl rfl q.len (eC cz hr (av 0 (av 2 ag)))) aj) (aJ rfl (aA (ae 1)) (ym yF rfl)) aj) λ_=>rfl)
abbrev iL:DF:=dL 55 3 [.v,.v,.v,.v] 4 dm
def Ik(D:DI v iL)(LD:n8.C v)(cz:d8.C v)(xV:sS.C v):D.O:=
 NI D λhr nd aq aG ah2 bI=>
 (sv 4 nd (eC LD hr (av 0 (av 1 (av 3 ag)))) λacJ=>
 (SF.jm (cj rfl mR (aR rfl (aX (eC cz hr (av 0 (av 3 ag))))) (λ_ _ _ _ _=>(bP 0 mR.nd)) (λ_ _ _ _ _ p8=>(eC xV hr (ai (hU (aH (n:=2) (av 1 (ai (aJ rfl (aA (ae 2)) (ae 0)) ag)) rfl)) ag))) rfl) λ_=>rfl))
abbrev yw:DF:=dv 56 5 4 rN
def Xe(D:DI v yw)(q:NB v)(ml:iO.C v)(mj:iL.C v)(jC:jK.C v):D.O:=
 gV D λhr nd aq aG eL a6=>
 (sl 4 nd (aH (n:=0) ag rfl) λVT=>
 (SF.kI (hd:=(λ(s3:O PV)=>([ap (.val aq),ap (.val aG),ap (.val eL),ap (.val a6),ap (.ol bm s3),bm,bm]:bD))) (s0:=VT) Ax rfl (cM rfl q.range (bZ rfl rfl q.len (ae 0))) (.refl _) (bP 5 nd) (λs3 Nf=>
 (sl 6 nd (aiR 4 rfl (jA rfl (aZ (lC ml hr (av 0 (av 1 (av 2 (av 3 (av 5 ag))))))) (aZ (lC mj hr (av 0 (av 1 (av 4 (av 5 ag)))))))) λRt=>
 SF.c6 6 rfl (SF.append 4 rfl rfl rfl (.inl rfl) (eC jC hr (av 6 ag)) λVS=>
 (SF.cV rfl (.m 96))))) λs3=>
 (SF.bu (dz rfl rfl q.tuple (cu 4)) λ_=>rfl)))
abbrev wC:DF:=dv 57 6 3 lU
def aa0(D:DI v wC)(q:NB v)(eI:iM.C v)(XQ:yw.C v):D.O:=
 gV D λhr nd aq dH aG=>
 (sl 3 nd (aH (n:=0) ag rfl) λNm=>
 (SF.kI (hd:=(λ(s3:O PV)=>([ap (.val aq),ap (.val dH),ap (.val aG),ap (.ol bm s3),bm]:bD))) (s0:=Nm) Ax rfl (aR rfl (aX (eC eI hr (av 1 ag)))) (.refl _) (bP 4 nd) (λs3 kA=>
 (SF.append 3 rfl rfl rfl (.inl rfl) (aj0 3 rfl (eC XQ hr (av 0 (av 2 (av 3 (av 4 ag)))))) λVP=>
 (SF.cV rfl (.m 16)))) λs3=>
 (SF.bu (dz rfl rfl q.tuple (cu 3)) λ_=>rfl)))
abbrev Jx:DF:=dv 58 7 3 v9
def aa2(D:DI v Jx)(jC:jK.C v)(wu:wC.C v):D.O:=
 gV D λhr nd aq dH aG=>
 (SF.bu (eC jC hr (ai (aJ rfl (aA (eC wu hr (av 0 (av 1 (av 2 ag))))) (ly aj)) ag)) λ_=>rfl)
abbrev mw:DF:=dv 60 2 2 fW
def Im(D:DI v mw)(q:NB v)(qD:mr.C v)(jB:lA.C v):D.O:=
 gV D λhr nd aq aF=>
 (SF.bu (sQ (eC jB hr (av 1 (ai (bZ rfl rfl q.len (ae 0)) ag))) (sN (sR rfl rfl rfl q.all (aZ (cj rfl mS (aR rfl (aX (ae 1))) (λ_ _ _ _ _=>(bP 0 mS.nd)) (λ_ _ _ _ _ p2=>(aoo (qd ug (ae 0) ip) (sN (eC qD hr (av 0 ag))))) rfl))))) λ_=>rfl)
abbrev uD:DF:=dv 61 3 3 oZ
def SX(D:DI v uD)(q:NB v)(IP:mw.C v)(jB:lA.C v)(eI:iM.C v):D.O:=
 gV D λhr nd aq dH aF=>
 (SF.bu (sQ (eC jB hr (av 2 (ai (bZ rfl rfl q.len (eC eI hr (av 1 ag))) ag))) (sN (sR rfl rfl rfl q.all (aZ (cj rfl se (aR rfl (aX (ae 2))) (λ_ _ _ _ _=>(bP 0 se.nd)) (λ_ _ _ _ _ p2=>(eC IP hr (av 1 (av 0 ag)))) rfl))))) λ_=>rfl)
abbrev kj:DF:=dv 62 1 2 gX
def Ln(D:DI v kj):D.O:=
 gV D λhr nd OS Po=>
 (SF.MJ (bT ug (ae 1) ip)
 (SF.bu nZ λ_=>rfl)
 (SF.bu (sQ (qd QW (ae 0) ip) (sN (qd GN (ae 0) (ae 1)))) λ_=>rfl))
abbrev mx:DF:=dv 63 5 6 iA
def Io(D:DI v mx)(ml:iO.C v)(mj:iL.C v)(nV:kj.C v)(jC:jK.C v):D.O:=
 gV D λhr nd aq aG eL oS a6 bI=>
 (sl 6 nd (jA rfl (aZ (lC ml hr (av 0 (av 1 (av 2 (av 4 (av 5 ag))))))) (aZ (lC mj hr (av 0 (av 1 (ai (aJ rfl (aA (ae 2)) (ae 3)) (av 5 ag))))))) λRu=>
 SF.c6 6 rfl (SF.bu (eC nV hr (ai (aJ rfl (aA (aJ rfl (aA (ae 2)) (ae 3))) (ae 5)) (ai (eC jC hr (av 6 ag)) ag))) λ_=>rfl))
abbrev gF:DF:=dv 64 6 5 eG
def uf(D:DI v gF)(q:NB v)(IQ:mx.C v):D.O:=
 gV D λhr nd aq aG eL oS a6=>
 (SF.bu (sR rfl rfl rfl q.all (aZ (cj rfl ig (cM rfl q.range (bZ rfl rfl q.len (ae 0))) (λ_ _ _ _ _=>(bP 0 ig.nd)) (λ_ _ _ _ _ p3=>(eC IQ hr (av 1 (av 4 (av 5 (av 3 (av 2 (av 0 ag)))))))) rfl))) λ_=>rfl)
abbrev kN:DF:=dv 65 7 5 dE
def zy(D:DI v kN)(q:NB v)(Tt:uD.C v)(XS:yz.C v)(eI:iM.C v)(uq:gF.C v)(XR:yx.C v)(Tz:uI.C v)(nV:kj.C v):D.O:=
 gV D λhr nd aq dH aG eA aF=>
 (SF.MJ (yU.t (Gh (je (dB rfl (eC XS hr (av 0 (av 1 (av 3 ag)))) (λ_=>rfl))) (tH (je (dB rfl (eC Tt hr (av 0 (av 1 (av 4 ag)))) (λ_=>rfl))))))
 (SF.bu nZ λ_=>rfl)
 (sv 5 nd (eC eI hr (av 1 ag)) λVh=>
 (SF.MJ (je (dB rfl (sR rfl rfl rfl q.all (aZ (xE rfl gB (ph rfl rfl q.enumerate (aX (ae 5))) (λ_ _ _ _ _=>(MM rfl (c8 rfl (aB (bP 0 gB.nd) (aB (bP 1 gB.nd) bW))))) (λ_ _ _ _ _ yR=>(eC uq hr (av 2 (av 3 (av 4 (av 0 (av 1 ag))))))) (Lc rfl rfl ⋯) ⋯))) (λ_=>rfl)))
 (SF.bu nZ λ_=>rfl)
 (sv 6 nd (eC XR hr (av 2 (ai (eC Tz hr (av 0 (av 3 ag))) ag))) λRv=>
 (SF.bu (sR rfl rfl rfl q.all (aZ (cj rfl k8 (aR rfl (aX (aJ rfl (aA (ae 4)) (ly aj)))) (λ_ _ _ _ _=>(bP 0 k8.nd)) (λ_ _ _ _ _ p24=>(eC nV hr (av 1 (av 0 ag)))) rfl))) λ_=>rfl)))))
abbrev kM:DF:=dL 67 1 [.v,.v] 2 gJ
def zx(D:DI v kM)(q:NB v):D.O:=
 NI D λhr nd gL eS=>
 (SF.jm (aiQ rfl gA (ui rfl rfl q.zip (aX (ae 0)) (aX (ae 1))) (λ_ _ _ _ _=>(MM rfl (c8 rfl (aB (bP 0 gA.nd) (aB (bP 1 gA.nd) bW))))) (λ_ _ _ _ _ t5=>(je (dB rfl (gm rfl .str rfl q.isinstance (ae 0) rfl q.str wE) (λ_=>rfl)))) (λ_ _ _ _ _ t5=>(ae 1)) (Lc rfl rfl ⋯) ⋯) λ_=>rfl)
abbrev qI:DF:=dL 68 4 [.v,.v,.v] 3 lV
def N3(D:DI v qI)(q:NB v)(qF:mB.C v):D.O:=
 NI D λhr nd eQ eS mK=>
 (sv 3 nd (eC qF hr (av 0 ag)) λfm=>
 (sl 4 nd (aH (n:=0) ag rfl) λHN=>
 (SF.TC (hd:=(λ(s5:O PV)=>([ap (.val eQ),ap (.val eS),ap (.val mK),ap (.val fm),ap (.ol bm s5),bm,bm,bm,bm]:bD))) (s0:=HN) Ax rfl (ph rfl rfl q.enumerate (aX (ae 2))) (.refl _) (λ_=>(MM rfl (c8 rfl (aB (bP 5 nd) (aB (bP 6 nd) bW))))) (λs5 t7=>
 (SF.TC (hd:=(λ(s9:O PV)=>([ap (.val eQ),ap (.val eS),ap (.val mK),ap (.val fm),ap (.ol bm s9),ap (.val t7.1),ap (.val t7.2),bm,bm]:bD))) (s0:=s5) Ax rfl (ph rfl rfl q.enumerate (aX (ae 1))) (.refl _) (λ_=>(MM rfl (c8 rfl (aB (bP 7 nd) (aB (bP 8 nd) bW))))) (λs9 Ĕ=>
 (SF.Y2 (yU.t (nu (bT GN (ae 8) (ae 6)) (jW (yU.t (Gh (bT ug (aJ rfl (aA (ae 3)) (ae 7)) ip) (tH (bT QX (ae 6) (aJ rfl (aA (ae 1)) (aJ rfl (aA (ae 3)) (ae 7))))))))))
 (SF.append 4 rfl rfl rfl (.inl rfl) (aE (n:=2) (av 7 (av 5 ag)) rfl) λKJ=>
 (SF.cV rfl (.m 384)))
 (SF.cV rfl (.m 384)))) λs9=>
 (SF.cV rfl (.m 96)))) λs5=>
 (SF.VU 4 rfl rfl))))
abbrev uz:DF:=dv 69 2 5 oV
def SR(D:DI v uz)(q:NB v)(gb:jJ.C v)(uo:pD.C v):D.O:=
 gV D λhr nd gL eS mK rH Wz=>
 (sv 5 nd (aJ rfl (aA (ae 4)) aj) λpq=>
 (sv 6 nd (aJ rfl (aA (ae 4)) aj) λsk=>
 (sv 7 nd (qd QX (aJ rfl (aA (ae 1)) (ae 5)) (aJ rfl (aA (ae 2)) (ae 6))) λGR=>
 (sv 8 nd (vL (dB rfl (ae 7) (λ_=>rfl)) (aE (n:=1) (av 5 ag) rfl) (eC gb hr (ai (aJ rfl (aA (ae 0)) (ae 5)) ag))) λbelow_4=>
 (sv 9 nd (dz rfl rfl q.tuple (nA (cj rfl rY (aR rfl (aX (ae 8))) (λ_ _ _ _ _=>(bP 0 rY.nd)) (λ_ _ _ _ _ p9=>(Yo (aQ hr) (ae 2) (aE (n:=2) (av 0 (ai (va (ae 1) aj) ag)) rfl) (λ_ _=>rfl))) rfl))) λP4=>
 (sv 10 nd (dz rfl rfl q.tuple (nA (Lf rfl rX (aa9 (ae 3)) (λ_ _ _ _ _=>(bP 0 rX.nd)) (λ_ _ _ _ _ Ě=>(yU.t (nu (bT (e7 rfl (aQ hr)) (aJ rfl (aA (ae 0)) aj) (ae 2)) (jW (bT (Lz rfl (aQ hr)) (aJ rfl (aA (ae 0)) aj) (ae 1)))))) (λ_ _ _ _ _ Ě=>(Yo (aQ hr) (ae 3) (ae 0) (λ_ _=>rfl))) rfl))) λHa=>
 (SF.bu (aE (n:=4) (ai (eC uo hr (av 0 (av 5 ag))) (av 6 (av 9 (av 10 ag)))) rfl) λ_=>rfl)))))))
abbrev Jy:DF:=dv 70 5 2 o7
def aa3(D:DI v Jy)(q:NB v)(eI:iM.C v)(zJ:kM.C v)(Oy:qI.C v)(Tn:uz.C v):D.O:=
 gV D λhr nd eQ eS=>
 (sv 2 nd (eC eI hr (av 0 ag)) λbr=>
 (sl 3 nd (jA rfl (aZ (aH (n:=1) (ai aj ag) rfl)) (aZ (aaR rfl rfl q.sorted (aZ (lC zJ hr (av 2 (av 1 ag))))))) λyH=>
 SF.c6 3 rfl (sl 4 nd (lC Oy hr (av 0 (av 1 (av 3 ag)))) λHM=>
 SF.c6 4 rfl (sv 5 nd (aop (abY rfl rfl (aQ hr) rfl q.dict (aZ (xE rfl qA (ph rfl rfl q.enumerate (aX (ae 4))) (λ_ _ _ _ _=>(MM rfl (c8 rfl (aB (bP 0 qA.nd) (aB (bP 1 qA.nd) bW))))) (λ_ _ _ _ _ ŕ=>(aE (n:=2) (av 1 (av 0 ag)) rfl)) (Lc rfl rfl ⋯) ⋯)))) λxc=>
 (SF.bu (dz rfl rfl q.tuple (nA (cj rfl xB (aR rfl (aX (ae 4))) (λ_ _ _ _ _=>(bP 0 xB.nd)) (λ_ _ _ _ _ p21=>(eC Tn hr (av 3 (av 2 (av 1 (av 4 (av 0 ag))))))) rfl))) λ_=>rfl)))))
abbrev oo:DF:=dL 72 1 [.v,.v] 2 ke
def Lx(D:DI v oo)(q:NB v):D.O:=
 NI D λhr nd fR k_=>
 (sv 2 nd (vL (bT QX (ae 1) (bZ rfl rfl q.len (ae 0))) (aJ rfl (aA (ae 0)) (ae 1)) aj) λox=>
 (sv 3 nd (sP (adl rfl q.abs (ae 2)) (abH rfl q.int (qd ai1 (adl rfl q.abs (ae 2)) (adi aj aj)))) λiI=>
 (SF.jm (aH (n:=3) (av 3 (ai (vc (sP (ck rfl (ck rfl (vc (ae 2) aj) (sP (sP aj (ae 1)) (ae 1))) aj) aj) aj) (ai aj ag))) rfl) λ_=>rfl)))
abbrev bU:DF:=dV 73 1 [.p (iT gh),.v] 1 bM
def Lu(D:DI v bU):D.O:=
 aeC (n:=1) (fnO (n:=1) (m:=kC) D.fn rB rfl λad d6 l hl=>match l,hl with | [dj],_=>λ_ _ _ _ _ _ hr=>show SF _ _ _ [ap (.ol (ap ad) d6),ap (.val dj),bm] _ (kC d6 dj) _ from
 (SF.HC 0 rfl rfl (.inl rfl) (ck rfl (aJ rfl (cu 0) aj) aj) aj λaV=>
 (SF.MJ (yU.t (nu (bT acY (aJ rfl (cu 0) aj) aj) (jW (bT GN (aJ rfl (cu 0) aj) aj))))
 (sv 2 rB.nd (vc (aJ rfl (cu 0) aj) (ae 1)) λwB=>
 (SF.HC 0 rfl rfl (.inl rfl) (adk (aJ rfl (cu 0) aj) (ae 1)) aj λhE=>
 (SF.ah4 0 (k:=λx8=>(x8,hE)) rfl (ae 2) λ_=>rfl)))
 (SF.HC 0 rfl rfl (.inl rfl) (vc (ck rfl (ck rfl (sP (aJ rfl (cu 0) aj) aj) aj) (aJ rfl (cu 0) aj)) aj) aj λcO=>
 (SF.ah4 0 (k:=λlE=>(lE,cO)) rfl (vc (adk (vc (sP (aJ rfl (cu 0) aj) (ck rfl (vc (aJ rfl (cu 0) aj) aj) aj)) aj) aj) (ae 1)) λ_=>rfl))))) Vm
abbrev dh:DF:=dV 74 2 [.p (iT gh),.v] 1 bE
def Lv(D:DI v dh)(q:NB v)(aM:bU.C v):D.O:=
 gV D λhr nd Gp=>
 (SF.bu (aJ rfl (aA (ae 1)) (eC aM hr (cB 0 (ai (bZ rfl rfl q.len (ae 1)) ag)))) λ_=>rfl)
abbrev mC:DF:=dL 75 3 [.p (iT gh),.v] 1 nI
def Iu(D:DI v mC)(q:NB v)(aM:bU.C v)(bL:dh.C v):D.O:=
 NI D λhr nd dj=>
 (sv 2 nd ik λpd=>
 (SF.R3 (aE (n:=2) (ai (eC aM hr (cB 0 (ai aj ag))) (ai (eC bL hr (cB 0 (ai (hU (aH (n:=6) (ai aj (ai aj (ai aj (ai aj (ai aj (ai aj ag)))))) rfl)) ag))) ag)) rfl) (MM rfl (c8 rfl (aB (bP 3 nd) (aB (bP 4 nd) bW)))) λkR=>
 (sv 5 nd (eC bL hr (cB 0 (ai (hU (aH (n:=5) (ai ik (ai ik (ai ik (ai ik (ai ik ag))))) rfl)) ag))) λvT=>
 (SF.jm (cj rfl mV (cM rfl q.range (ae 1)) (λ_ _ _ _ _=>(bP 0 mV.nd)) (λ_ _ _ _ _ ĸ=>(ck rfl (ajZ (ae 2) (vc (ck rfl (ae 1) (sP (ae 4) (ae 0))) aj) (λ_ _=>rfl)) (ae 3))) rfl) λ_=>rfl))))
abbrev gT:DF:=dV 76 2 [.p (iT gh),.v] 1 dF
def zB(D:DI v gT)(q:NB v)(aM:bU.C v):D.O:=
 gV D λhr nd Gp=>
 (sl 1 nd (afd rfl rfl q.list (aA (ae 1))) λqp=>
 (SF.kI (hd:=(λ(s3:O PV)=>([ap (.ng (iT gh)),ap (.ol bm s3),bm,bm,bm,bm]:bD))) (s0:=qp) Ax rfl (cM rfl q.range (va (uw rfl rfl q.len (cu 1)) aj)) (.refl _) (bP 2 nd) (λs3 adT=>
 (SF.amG 1 3 rfl ⋯ rfl rfl (.inl rfl) nd rfl (Co rfl) (eC aM hr (cB 0 (ai (uw rfl rfl q.len (cu 1)) ag))) λt8=>
 (sv 4 nd (eC aM hr (cB 0 (ai (uw rfl rfl q.len (cu 1)) ag))) λagm=>
 (sv 5 nd (aE (n:=2) (av 3 (ai (aJ rfl (cu 1) (ae 4)) ag)) rfl) λHP=>
 (SF.HC 1 rfl rfl (.inl rfl) (vL (bT (e7 rfl (aQ hr)) (eC aM hr (cB 0 (ai aj ag))) aj) (ae 5) (af0 rfl (ae 5) jo jo (ku (ly aj)))) (ae 4) λQo=>
 (SF.cV rfl (.m 60))))))) λs3=>
 (SF.bu (aJ rfl (cu 1) aj) λ_=>rfl)))
abbrev mH:DF:=dV 77 4 [.p (iT gh),.v] 1 dY
def IA(D:DI v mH)(IU:mC.C v)(aM:bU.C v)(kG:gT.C v):D.O:=
 gV D λhr nd xk=>
 (sl 2 nd (lC IU hr (cB 0 (ai (ck rfl aj (eC aM hr (cB 0 (av 1 ag)))) ag))) λeg=>
 SF.c6 2 rfl (SF.bu (aE (n:=2) (ai (eC kG hr (cB 0 (av 2 ag))) (av 2 ag)) rfl) λ_=>rfl))
abbrev mG:DF:=dV 78 3 [.p (iT gh),.v,.v] 2 dX
def Iz(D:DI v mG)(q:NB v)(aM:bU.C v)(bL:dh.C v)(kG:gT.C v):D.O:=
 gV D λhr nd uN xk=>
 (SF.lM (i:=3) rfl nd rfl rfl mX (cM rfl q.range (ck rfl aj (eC aM hr (cB 0 (av 2 ag))))) (λ_ _ _ _ _=>(bP 0 mX.nd)) (λ_ _ _ _ _ p5=>(eC bL hr (cB 1 (av 2 ag)))) rfl λqp=>
 SF.c6 3 rfl (SF.bu (eC kG hr (cB 0 (av 3 ag))) λ_=>rfl))
abbrev iP:DF:=dL 79 12 [.v] 1 (bb 12)
theorem su(D:DI v iP)(q:NB v):∀n,iU v.P v.w v.K v.mg v.base yQ (n+0) D.f D.fd (Nr (top 79)) (Hw v.K [.v] (rj 1 (bb n)))
 | 0=>XY (Qj λl Q hl=>match l,hl with | [cI],_=>λh=>h.elim)
 | n+1=>have dw:=D.cN (su D q n)
  fnL (k:=n+0) (n:=1) (m:=bb (n+1)) D.fn eX rfl (uT HW) λl hl=>match l,hl with | [cI],_=>λ_ _ _ _ _ _ hr=>show SF _ _ _ [ap (.val cI),bm,bm,bm,bm] _ (bb (n+1) cI) _ from
 (SF.MJ (dB rfl (gm rfl .str rfl q.isinstance (ae 0) rfl q.str wE) (λ_=>rfl))
 (SF.jm (aH (n:=1) (av 0 ag) rfl) λ_=>rfl)
 (SF.par (i:=1) (j:=2) rfl eX.nd rfl rfl ⋯ rfl rfl (hU (lC dw hr (ai (aJ rfl (aA (ae 0)) aj) ag))) (hU (lC dw hr (ai (aJ rfl (aA (ae 0)) aj) ag))) λjZ jY=>
 (sl 3 eX.nd (aH (n:=0) ag rfl) λjl=>
 (SF.kI (hd:=(λ(s7:O PV)=>([ap (.val cI),ap (.val jZ),ap (.val jY),ap (.ol bm s7),bm]:bD))) (s0:=jl) Ax rfl (aR rfl (aX (ae 2))) (.refl _) (bP 4 eX.nd) (λs7 kz=>
 (SF.ifS (out1:=λ(ą:PV)=>.nx ([ap (.val cI),ap (.val jZ),ap (.val jY),ap (.ol bm s7),ap (.val ą)]:bD)) (je (dB rfl (gm rfl .str rfl q.isinstance (ae 4) rfl q.str wE) (λ_=>rfl)))
 (sv 4 eX.nd (aE (n:=2) (ai (ck rfl (aJ rfl (aA (ae 4)) aj) (bZ rfl rfl q.len (ae 1))) (ai (ck rfl (aJ rfl (aA (ae 4)) aj) (bZ rfl rfl q.len (ae 1))) ag)) rfl) λvY=>
 (SF.nil rfl (.refl _)))
 (SF.nil rfl (.refl _))
 λą=>(SF.append 3 rfl rfl rfl (.inl rfl) (ae 4) λmQ=>
 (SF.cV rfl (.m 16))))) λs7=>
 (SF.jm (jA rfl (aZ (jA rfl (jn (ae 1)) (HF 3))) (aZ (aH (n:=1) (ai (aE (n:=2) (ai (va (bZ rfl rfl q.len (ae 1)) aj) (ai (va (ck rfl (bZ rfl rfl q.len (ae 1)) (bZ rfl rfl q.len (ae 2))) aj) ag)) rfl) ag) rfl))) λ_=>rfl)))))
abbrev mJ:DF:=dV 80 13 [.p (iT gh),.v] 1 f7
def IC(D:DI v mJ)(q:NB v)(dw:iP.C v)(bL:dh.C v)(aM:bU.C v):D.O:=
 gV D λhr nd bc=>
 (sl 2 nd (lC dw hr (av 1 ag)) λbr=>
 SF.c6 2 rfl (sl 3 nd (aiO (aH (n:=1) (ai aj ag) rfl) (bZ rfl rfl q.len (ae 2))) λsG=>
 (sv 4 nd aj λyu=>
 (SF.aee (i:=6) rfl nd rfl rfl hZ (ph rfl rfl q.enumerate (aX (ae 2))) (λ_ _ _ _ _=>(MM rfl (c8 rfl (aB (bP 0 hZ.nd) (aB (bP 1 hZ.nd) bW))))) (λ_ _ _ _ _ yR=>(je (dB rfl (gm rfl .str rfl q.isinstance (ae 1) rfl q.str wE) (λ_=>rfl)))) (λ_ _ _ _ _ yR=>(ae 0)) (Lc rfl rfl ⋯) ⋯ λgp=>
 (SF.kI (hd:=(λ(uQ:O PV×PV×O PV)=>([ap (.ng (iT gh)),ap (.val bc),ap (.val (.cl br)),ap (.ol bm uQ.1),ap (.val uQ.2.1),bm,ap (.ol bm uQ.2.2),bm,bm]:bD))) (s0:=(sG,yu,gp)) Ax rfl (cM rfl q.range (uw rfl rfl q.len (cu 6))) (.refl _) (bP 7 nd) (λuQ Hm=>
 (sl 8 nd (aH (n:=0) ag rfl) λsF=>
 (SF.ajI 6 (hd:=(λagq (R6:O PV)=>([ap (.ng (iT gh)),ap (.val bc),ap (.val (.cl br)),ap (.ol bm uQ.1),ap (.val uQ.2.1),bm,ap (.ol (ap agq) uQ.2.2),ap (.val Hm),ap (.ol bm R6)]:bD))) (s0:=sF) rfl rfl rfl (.inl rfl) Ax rfl (λ_=>(.refl _)) (λ_ _=>rfl) (bP 5 nd) (λagq R6 vg=>
 (SF.Y2 (yU.t (nu (Hs rfl (aQ hr) (aJ rfl (aA (aJ rfl (aA (ae 2)) (ae 5))) aj) (cu 6)) (jW (Hs rfl (aQ hr) (aJ rfl (aA (aJ rfl (aA (ae 2)) (ae 5))) aj) (cu 6)))))
 (SF.append 8 rfl rfl rfl (.inl rfl) (ae 5) λwz=>
 (SF.cV rfl (.m 32)))
 (SF.cV rfl (.m 32)))) λagq R6=>
 (SF.c6 8 rfl (sv 5 nd (eC bL hr (cB 0 (av 8 ag))) λHc=>
 (sv 4 nd (ck rfl (ck rfl (ae 4) aj) (eC aM hr (cB 0 (ai aj ag)))) λpB=>
 (SF.HC 3 rfl rfl (.inl rfl) (ae 4) (ae 5) λsH=>
 (SF.remove 6 rfl rfl rfl (.inl rfl) (ae 5) λlH=>
 (SF.cV rfl (.m 416)))))))))) λuQ=>
 (SF.bu (dz rfl rfl q.tuple (cu 3)) λ_=>rfl))))))
abbrev mF:DF:=dV 81 14 [.p (iT gh),.v] 1 fX
def Iy(D:DI v mF)(aM:bU.C v)(XU:yB.C v)(abn:Jy.C v)(Jb:mJ.C v):D.O:=
 gV D λhr nd bc=>
 (SF.MJ (bT (e7 rfl (aQ hr)) (eC aM hr (cB 0 (ai aj ag))) aj)
 (SF.bu (eC XU hr (av 1 ag)) λ_=>rfl)
 (SF.bu (eC abn hr (av 1 (ai (eC Jb hr (cB 0 (av 1 ag))) ag))) λ_=>rfl))
abbrev gR:DF:=dV 82 3 [.p (iT gh)] 0 bK
def zA(D:DI v gR)(q:NB v)(aM:bU.C v)(bL:dh.C v):D.O:=
 gV D λhr nd=>
 (sl 1 nd (aH (n:=0) ag rfl) λcP=>
 (SF.kI (hd:=(λ(s3:O PV)=>([ap (.ng (iT gh)),ap (.ol bm s3),bm,bm]:bD))) (s0:=cP) Ax rfl (cM rfl q.range aj) (.refl _) (bP 2 nd) (λs3 k_4=>
 (sl 3 nd (aH (n:=7) (ai aj (ai aj (ai aj (ai aj (ai aj (ai (eC aM hr (cB 0 (ai aj ag))) (ai (eC aM hr (cB 0 (ai aj ag))) ag))))))) rfl) λVG=>
 SF.c6 3 rfl (sl 3 nd (jA rfl (jn (ae 3)) (aZ (aH (n:=2) (ai aj (ai (ck rfl (adi aj aj) (eC aM hr (cB 0 (ai aj ag)))) ag)) rfl))) λQn=>
 SF.c6 3 rfl (SF.append 1 rfl rfl rfl (.inl rfl) (eC bL hr (cB 0 (av 3 ag))) λnW=>
 (SF.cV rfl (.m 12)))))) λs3=>
 (SF.bu (dz rfl rfl q.tuple (cu 1)) λ_=>rfl)))
abbrev mI:DF:=dL 83 1 [.v,.v,.v,.v] 4 f6
def IB(D:DI v mI)(q:NB v):D.O:=
 NI D λhr nd ao bz a6 Ç=>
 (SF.R3 (aJ rfl (aA (ae 0)) (ae 3)) (g_4 rfl (c8 rfl (aB (bP 4 nd) (aB (bP 5 nd) (aB (bP 6 nd) (aB (bP 7 nd) bW)))))) λt3=>
 (SF.MJ (dB rfl (gm rfl .str rfl q.isinstance (aJ rfl (aA (ae 1)) (ae 2)) rfl q.str wE) (λ_=>rfl))
 (SF.jm (aaS (yU.t (nu (bT (e7 rfl (aQ hr)) (ae 6) (aE (n:=0) ag rfl)) (jW (bT (e7 rfl (aQ hr)) (ae 4) (aJ rfl (aA (ae 1)) (ae 2)))))) (aH (n:=1) (ai (aE (n:=2) (ai ip (ai (hU (aH (n:=0) ag rfl)) ag)) rfl) ag) rfl) (aH (n:=0) ag rfl)) λ_=>rfl)
 (SF.R3 (aJ rfl (aA (ae 1)) (ae 2)) (MM rfl (c8 rfl (aB (bP 8 nd) (aB (bP 9 nd) bW)))) λt8=>
 (sl 10 nd (aH (n:=1) (ai (aE (n:=2) (ai aj (ai (hU (aH (n:=2) (ai (aE (n:=2) (av 8 (av 3 ag)) rfl) (ai (aE (n:=2) (av 9 (av 3 ag)) rfl) ag)) rfl)) ag)) rfl) ag) rfl) λJc=>
 (SF.kI (hd:=(λ(Kq:O PV)=>([ap (.val ao),ap (.val bz),ap (.val a6),ap (.val Ç),ap (.val t3.1),ap (.val t3.2.1),ap (.val t3.2.2.1),ap (.val t3.2.2.2),ap (.val t8.1),ap (.val t8.2),ap (.ol bm Kq),bm]:bD))) (s0:=Jc) Ax rfl (aR rfl (aX (ae 7))) (.refl _) (bP 11 nd) (λKq Vj=>
 (SF.append 10 rfl rfl rfl (.inl rfl) (aE (n:=2) (ai aj (ai (hU (aH (n:=2) (ai (aE (n:=2) (av 8 (av 3 ag)) rfl) (ai (aE (n:=2) (av 9 (av 11 ag)) rfl) ag)) rfl)) ag)) rfl) λnW=>
 (SF.append 10 rfl rfl rfl (.inl rfl) (aE (n:=2) (ai aj (ai (hU (aH (n:=2) (ai (aE (n:=2) (av 8 (av 11 ag)) rfl) (ai (aE (n:=2) (av 9 (av 3 ag)) rfl) ag)) rfl)) ag)) rfl) λLP=>
 (SF.cV rfl (.m 2048))))) λKq=>
 (SF.ifS (out1:=λ(Ķ:O PV)=>.nx ([ap (.val ao),ap (.val bz),ap (.val a6),ap (.val Ç),ap (.val t3.1),ap (.val t3.2.1),ap (.val t3.2.2.1),ap (.val t3.2.2.2),ap (.val t8.1),ap (.val t8.2),ap (.ol bm Ķ),bm]:bD)) (bT (e7 rfl (aQ hr)) (bZ rfl rfl q.len (ae 6)) aj)
 (SF.append 10 rfl rfl rfl (.inl rfl) (aE (n:=2) (ai aj (ai (hU (aH (n:=2) (ai (aE (n:=2) (av 8 (ai (aJ rfl (aA (ae 6)) aj) ag)) rfl) (ai (aE (n:=2) (av 9 (ai (aJ rfl (aA (ae 6)) aj) ag)) rfl) ag)) rfl)) ag)) rfl) λLO=>
 (SF.append 10 rfl rfl rfl (.inl rfl) (aE (n:=2) (ai aj (ai (hU (aH (n:=2) (ai (aE (n:=2) (av 8 (ai (aJ rfl (aA (ae 6)) aj) ag)) rfl) (ai (aE (n:=2) (av 9 (ai (aJ rfl (aA (ae 6)) aj) ag)) rfl) ag)) rfl)) ag)) rfl) λLN=>
 (SF.nil rfl (.refl _))))
 (SF.nil rfl (.refl _))
 λĶ=>(SF.VU 10 rfl rfl)))))))
abbrev mE:DF:=dL 84 1 [.v,.v,.v] 3 iD
def Iw(D:DI v mE)(q:NB v):D.O:=
 NI D λhr nd ao a6 Ç=>
 (sv 3 nd (aJ rfl (aA (aJ rfl (aA (ae 0)) (ae 2))) aj) λir=>
 (sv 4 nd (vL (bT (e7 rfl (aQ hr)) (bZ rfl rfl q.len (ae 3)) aj) aj ip) λQv=>
 (SF.jm (cj rfl mW (aR rfl (aX (ae 3))) (λ_ _ _ _ _=>(bP 0 mW.nd)) (λ_ _ _ _ _ p4=>(aE (n:=2) (av 2 (ai (hU (aH (n:=1) (ai (aE (n:=2) (av 1 (av 0 ag)) rfl) ag) rfl)) ag)) rfl)) rfl) λ_=>rfl)))
abbrev qQ:DF:=dL 85 50 [.v,.v,.v,.v] 4 (cx 50)
theorem xK(D:DI v qQ)(q:NB v):∀n,iU v.P v.w v.K v.mg v.base yQ (n+0) D.f D.fd (Nr (top 85)) (Hw v.K [.v,.v,.v,.v] (rj 4 (cx n)))
 | 0=>XY (Qj λl Q hl=>match l,hl with | [ao,bz,a6,Ç],_=>λh=>h.elim)
 | n+1=>have jD:=D.cN (xK D q n)
  fnL (k:=n+0) (n:=4) (m:=cx (n+1)) D.fn aU rfl (uT (uT (uT (uT HW)))) λl hl=>match l,hl with | [ao,bz,a6,Ç],_=>λ_ _ _ _ _ _ hr=>show SF _ _ _ [ap (.val ao),ap (.val bz),ap (.val a6),ap (.val Ç),bm,bm,bm,bm,bm,bm,bm,bm,bm,bm,bm,bm,bm,bm,bm] _ (cx (n+1) ao bz a6 Ç) _ from
 (sl 4 aU.nd (aH (n:=0) ag rfl) λcP=>
 (sv 5 aU.nd (aJ rfl (aA (ae 1)) (ae 2)) λi9=>
 (SF.R3 (aJ rfl (aA (ae 0)) (ae 3)) (g_4 rfl (c8 rfl (aB (bP 6 aU.nd) (aB (bP 7 aU.nd) (aB (bP 8 aU.nd) (aB (bP 9 aU.nd) bW)))))) λt4=>
 (SF.ifS (out1:=λ(ė:O PV)=>.nx ([ap (.val ao),ap (.val bz),ap (.val a6),ap (.val Ç),ap (.ol bm ė),ap (.val i9),ap (.val t4.1),ap (.val t4.2.1),ap (.val t4.2.2.1),ap (.val t4.2.2.2),bm,bm,bm,bm,bm,bm,bm,bm,bm]:bD)) (dB rfl (gm rfl .str rfl q.isinstance (ae 5) rfl q.str wE) (λ_=>rfl))
 (sl 4 aU.nd (aaS (yU.t (nu (bT (e7 rfl (aQ hr)) (ae 8) (aE (n:=0) ag rfl)) (jW (bT (e7 rfl (aQ hr)) (ae 6) (ae 5))))) (aH (n:=1) (ai (aE (n:=2) (ai (aE (n:=1) (av 3 ag) rfl) (ai ik ag)) rfl) ag) rfl) (aH (n:=0) ag rfl)) λLM=>
 (SF.nil rfl (.refl _)))
 (sl 10 aU.nd (aH (n:=1) (ai (aE (n:=3) (ai ik (av 3 (av 3 ag))) rfl) ag) rfl) λHz=>
 (SF.kI (hd:=(λ(ç:O PV)=>([ap (.val ao),ap (.val bz),ap (.val a6),ap (.val Ç),ap (.ol bm cP),ap (.val i9),ap (.val t4.1),ap (.val t4.2.1),ap (.val t4.2.2.1),ap (.val t4.2.2.2),ap (.ol bm ç),bm,bm,bm,bm,bm,bm,bm,bm]:bD))) (s0:=Hz) Ax rfl (aR rfl (aX (ae 9))) (.refl _) (bP 11 aU.nd) (λç Vi=>
 (sl 10 aU.nd (jA rfl (HF 10) (aZ (aH (n:=2) (ai (aE (n:=3) (ai ik (av 3 (av 11 ag))) rfl) (ai (aE (n:=3) (ai ik (av 11 (av 3 ag))) rfl) ag)) rfl))) λQl=>
 (SF.cV rfl (.m 2048)))) λç=>
 (SF.ifS (out1:=λ(R7:O PV)=>.nx ([ap (.val ao),ap (.val bz),ap (.val a6),ap (.val Ç),ap (.ol bm cP),ap (.val i9),ap (.val t4.1),ap (.val t4.2.1),ap (.val t4.2.2.1),ap (.val t4.2.2.2),ap (.ol bm R7),bm,bm,bm,bm,bm,bm,bm,bm]:bD)) (bT (e7 rfl (aQ hr)) (bZ rfl rfl q.len (ae 8)) aj)
 (SF.append 10 rfl rfl rfl (.inl rfl) (aE (n:=3) (ai ik (ai (aJ rfl (aA (ae 8)) aj) (ai (aJ rfl (aA (ae 8)) aj) ag))) rfl) λrA=>
 (SF.append 10 rfl rfl rfl (.inl rfl) (aE (n:=3) (ai ik (ai (aJ rfl (aA (ae 8)) aj) (ai (aJ rfl (aA (ae 8)) aj) ag))) rfl) λrz=>
 (SF.nil rfl (.refl _))))
 (SF.nil rfl (.refl _))
 λR7=>(SF.c6 10 rfl (SF.TC (hd:=(λ(Kr:O PV)=>([ap (.val ao),ap (.val bz),ap (.val a6),ap (.val Ç),ap (.ol bm Kr),ap (.val i9),ap (.val t4.1),ap (.val t4.2.1),ap (.val t4.2.2.1),ap (.val t4.2.2.2),ap (.val (.cl R7)),bm,bm,bm,bm,bm,bm,bm,bm]:bD))) (s0:=cP) Ax rfl (aR rfl (aX (ae 10))) (.refl _) (λ_=>(g_3 rfl (c8 rfl (aB (bP 12 aU.nd) (aB (bP 13 aU.nd) (aB (bP 14 aU.nd) bW)))))) (λKr Nb=>
 (sl 15 aU.nd (lC jD hr (av 0 (av 1 (ai (aJ rfl (aA (ae 5)) aj) (av 14 ag))))) λqt=>
 SF.c6 15 rfl (SF.kI (hd:=(λ(Nl:O PV)=>([ap (.val ao),ap (.val bz),ap (.val a6),ap (.val Ç),ap (.ol bm Nl),ap (.val i9),ap (.val t4.1),ap (.val t4.2.1),ap (.val t4.2.2.1),ap (.val t4.2.2.2),ap (.val (.cl R7)),bm,ap (.val Nb.1),ap (.val Nb.2.1),ap (.val Nb.2.2),ap (.val (.cl qt)),bm,bm,bm]:bD))) (s0:=Kr) Ax rfl (aR rfl (uZ (lC jD hr (av 0 (av 1 (ai (aJ rfl (aA (ae 5)) aj) (av 13 ag))))))) (.refl _) (bP 16 aU.nd) (λNl QG=>
 (SF.extend 4 rfl rfl rfl (.inl rfl) (nA (cj rfl pZ (aR rfl (aX (ae 15))) (λ_ _ _ _ _=>(bP 0 pZ.nd)) (λ_ _ _ _ _ Ő=>(aE (n:=4) (ai (aE (n:=1) (av 1 ag) rfl) (av 2 (av 3 (av 0 ag)))) rfl)) rfl)) λGS=>
 (SF.cV rfl (.m 65536)))) λNl=>
 (SF.cV rfl (.m 61440))))) λKr=>
 (SF.nil rfl (.m 1024)))))))
 λė=>(SF.kI (hd:=(λ(HD:O PV)=>([ap (.val ao),ap (.val bz),ap (.val a6),ap (.val Ç),ap (.ol bm HD),ap (.val i9),ap (.val t4.1),ap (.val t4.2.1),ap (.val t4.2.2.1),ap (.val t4.2.2.2),bm,bm,bm,bm,bm,bm,bm,bm,bm]:bD))) (s0:=ė) Ax rfl (aR rfl (aX (ae 8))) (.refl _) (bP 17 aU.nd) (λHD pH=>
 (sl 18 aU.nd (lC jD hr (av 0 (av 1 (av 2 (av 17 ag))))) λq9=>
 SF.c6 18 rfl (SF.extend 4 rfl rfl rfl (.inl rfl) (nA (cj rfl pY (aR rfl (aX (ae 18))) (λ_ _ _ _ _=>(bP 0 pY.nd)) (λ_ _ _ _ _ Sj=>(ck rfl (aE (n:=1) (ai (ck rfl (aE (n:=1) (av 1 ag) rfl) (aJ rfl (aA (ae 0)) aj)) ag) rfl) (yj rfl (ae 0) (ku aj) jo))) rfl)) λpz=>
 (SF.cV rfl (.m 393216))))) λHD=>
 (SF.VU 4 rfl rfl))))))
abbrev om:DF:=dv 86 2 2 gY
def Lw(D:DI v om)(q:NB v)(Ja:mI.C v)(IW:mE.C v):D.O:=
 gV D λhr nd ao bz=>
 (SF.ahW (i:=2) nd rfl (Co rfl)
 (SF.kI (hd:=(λ(s3:O (O Key×PV))=>([ap (.val ao),ap (.val bz),ap (.ot s3),bm,bm,bm,bm,bm,bm,bm,bm]:bD))) (s0:=[]) Ax rfl (cM rfl q.range (bZ rfl rfl q.len (ae 1))) (.refl _) (bP 3 nd) (λs3 kA=>
 (SF.kI (hd:=(λ(s6:O (O Key×PV))=>([ap (.val ao),ap (.val bz),ap (.ot s6),ap (.val kA),bm,bm,bm,bm,bm,bm,bm]:bD))) (s0:=s3) Ax rfl (cM rfl q.range (bZ rfl rfl q.len (ae 0))) (.refl _) (bP 4 nd) (λs6 Uq=>
 (sv 5 nd aj λHn=>
 (sl 6 nd (lC Ja hr (av 0 (av 1 (av 3 (av 4 ag))))) λHy=>
 SF.c6 6 rfl (SF.TC (hd:=(λ(Kq:PV)=>([ap (.val ao),ap (.val bz),ap (.ot s6),ap (.val kA),ap (.val Uq),ap (.val Kq),ap (.val (.cl Hy)),bm,bm,bm,bm]:bD))) (s0:=Hn) Ax rfl (aR rfl (uZ (jA rfl (jn (ae 6)) (aZ (lC IW hr (av 0 (av 3 (av 4 ag)))))))) (.refl _) (λ_=>(MM rfl (c8 rfl (aB (bP 7 nd) (aB (bP 8 nd) bW))))) (λKq ĳ=>
 (sv 9 nd aj λlT=>
 (SF.kI (hd:=(λ(ZK:PV)=>([ap (.val ao),ap (.val bz),ap (.ot s6),ap (.val kA),ap (.val Uq),ap (.val Kq),ap (.val (.cl Hy)),ap (.val ĳ.1),ap (.val ĳ.2),ap (.val ZK),bm]:bD))) (s0:=lT) Ax rfl (aR rfl (aX (ae 8))) (.refl _) (bP 10 nd) (λZK sM=>
 (sv 9 nd (sP (ae 9) (af4 2 rfl (aQ hr) (ae 10) (hsl:=λ_ _=>rfl))) λiz=>
 (SF.cV rfl (.m 1024)))) λZK=>
 (sv 5 nd (ck rfl (ae 5) (ae 9)) λKf=>
 (SF.cV rfl (.m 896)))))) λKq=>
 (SF.Ks 2 rfl (aQ hr) rfl (.inl rfl) (ae 5) (aE (n:=2) (av 3 (av 4 ag)) rfl) λLi=>
 (SF.cV rfl (.m 112))))))) λs6=>
 (SF.cV rfl (.m 8)))) λs3=>
 (SF.bu (yi rfl rfl rfl q.sum (aZ (afc 2 rfl rfl rfl q.list))) λ_=>rfl)))
abbrev oq:DF:=dv 87 8 3 (bF 8)
theorem uY(D:DI v oq)(q:NB v):∀n,iU v.P v.w v.K v.mg v.base yQ (n+0) D.f D.fd (Nr (top 87)) (RX v.K [.v,.v,.v] (rj 3 (bF n)))
 | 0=>XY (aeb λl Q hl=>match l,hl with | [ao,cK,eA],_=>λh=>h.elim)
 | n+1=>have fD:=D.cN (uY D q n)
  fnV (k:=n+0) (n:=3) (m:=bF (n+1)) D.fn iy rfl (uT (uT (uT HW))) λl hl=>match l,hl with | [ao,cK,eA],_=>λ_ _ _ _ _ _ hr=>show SF _ _ _ [ap (.val ao),ap (.val cK),ap (.val eA),bm] _ (bF (n+1) ao cK eA) _ from
 (sv 3 iy.nd (yi rfl rfl rfl q.sum (aZ (Lf rfl nP (aR rfl (aX (yj rfl (aJ rfl (aA (ae 2)) aj) jo (ku (ly aj))))) (λ_ _ _ _ _=>(bP 0 nP.nd)) (λ_ _ _ _ _ p6=>(bT (e7 rfl (aQ hr)) (bZ rfl rfl q.len (aJ rfl (aA (aJ rfl (aA (ae 2)) (ae 0))) aj)) aj)) (λ_ _ _ _ _ p6=>(aJ rfl (aA (ae 1)) aj)) rfl))) λHo=>
 (SF.MJ (bT (e7 rfl (aQ hr)) (aJ rfl (aA (ae 2)) aj) ik)
 (SF.bu (ae 3) λ_=>rfl)
 (sv 3 iy.nd (ck rfl (ae 3) (aJ rfl (aA (ae 1)) (abL rfl (aQ hr) (aZ (aH (n:=3) (ai ik (ai ik (ai ik ag))) rfl)) (aJ rfl (aA (ae 2)) aj)))) λP6=>
 (sv 3 iy.nd (ck rfl (ae 3) (eC fD hr (av 0 (av 1 (ai (aJ rfl (aA (ae 2)) aj) ag))))) λKg=>
 (SF.bu (ck rfl (ae 3) (eC fD hr (av 0 (av 1 (ai (aJ rfl (aA (ae 2)) aj) ag))))) λ_=>rfl)))))
abbrev qP:DF:=dV 88 15 [.p (iT gh),.v] 1 iE
def Oe(D:DI v qP)(q:NB v)(I0:mH.C v)(IX:mF.C v)(IZ:mG.C v)(LK:om.C v)(dw:iP.C v)(aM:bU.C v)(kF:gR.C v):D.O:=
 gV D λhr nd hJ=>
 (SF.R3 (eC I0 hr (cB 0 (av 1 ag))) (MM rfl (c8 rfl (aB (bP 2 nd) (aB (bP 3 nd) bW)))) λt3=>
 (sv 4 nd (eC IX hr (cB 0 (av 2 ag))) λdi=>
 (sv 5 nd (eC IZ hr (cB 0 (av 3 (ai aj ag)))) λfP=>
 (SF.kI (hd:=(λ(tK:PV)=>([ap (.ng (iT gh)),ap (.val hJ),ap (.val t3.1),ap (.val t3.2),ap (.val di),ap (.val tK),bm]:bD))) (s0:=fP) Ax rfl (cM rfl q.range aj) (.refl _) (bP 6 nd) (λtK P5=>
 (SF.Y2 (bT acY (eC LK hr (av 4 (ai (hU (lC dw hr (av 5 ag))) ag))) aj)
 (sv 5 nd (aJ rfl (aA (ae 5)) (eC aM hr (cB 0 (ai aj ag)))) λgI=>
 (SF.cV rfl (.m 64)))
 (SF.cV rfl (.m 64)))) λtK=>
 (SF.bu (aE (n:=4) (av 4 (av 5 (ai (hU (lC dw hr (av 5 ag))) (ai (eC kF hr (cB 0 ag)) ag)))) rfl) λ_=>rfl)))))
abbrev jL:DF:=dV 89 3 [.p (iT gh),.v] 1 fZ
def xJ(D:DI v jL)(q:NB v)(bL:dh.C v):D.O:=
 gV D λhr nd eL=>
 (sl 2 nd (aH (n:=0) ag rfl) λcP=>
 (SF.kI (hd:=(λ(s2:O PV)=>([ap (.ng (iT gh)),ap (.val eL),ap (.ol bm s2),bm,bm,bm,bm]:bD))) (s0:=cP) Ax rfl (aR rfl (aX (ae 1))) (.refl _) (bP 3 nd) (λs2 VQ=>
 (sl 4 nd (aH (n:=0) ag rfl) λNh=>
 (SF.kI (hd:=(λ(s5:O PV)=>([ap (.ng (iT gh)),ap (.val eL),ap (.ol bm s2),ap (.val VQ),ap (.ol bm s5),bm,bm]:bD))) (s0:=Nh) Ax rfl (aR rfl (aX (ae 3))) (.refl _) (bP 5 nd) (λs5 WH=>
 (sv 6 nd (eC bL hr (cB 0 (ai (hU (aH (n:=7) (ai aj (ai aj (ai aj (ai aj (ai (ly aj) (ai aj (ai (ly aj) ag))))))) rfl)) ag))) λadf=>
 (SF.append 4 rfl rfl rfl (.inl rfl) (vL (bT ug (ae 5) ip) ip (ck rfl (ae 5) (ae 6))) λQm=>
 (SF.cV rfl (.m 96))))) λs5=>
 (SF.append 2 rfl rfl rfl (.inl rfl) (dz rfl rfl q.tuple (cu 4)) λLQ=>
 (SF.cV rfl (.m 24)))))) λs2=>
 (SF.bu (dz rfl rfl q.tuple (cu 2)) λ_=>rfl)))
abbrev mD:DF:=dL 90 51 [.v,.v] 2 iC
def Iv(D:DI v mD)(q:NB v)(jD:qQ.C v):D.O:=
 NI D λhr nd ao bz=>
 (sl 2 nd (aH (n:=0) ag rfl) λcP=>
 (SF.kI (hd:=(λ(s3:O PV)=>([ap (.val ao),ap (.val bz),ap (.ol bm s3),bm,bm]:bD))) (s0:=cP) Ax rfl (cM rfl q.range (bZ rfl rfl q.len (ae 0))) (.refl _) (bP 3 nd) (λs3 Ž=>
 (SF.kI (hd:=(λ(s9:O PV)=>([ap (.val ao),ap (.val bz),ap (.ol bm s9),ap (.val Ž),bm]:bD))) (s0:=s3) Ax rfl (aR rfl (uZ (lC jD hr (av 0 (av 1 (ai (va (bZ rfl rfl q.len (ae 1)) aj) (av 3 ag))))))) (.refl _) (bP 4 nd) (λs9 M3=>
 (SF.Y2 (bT (e7 rfl (aQ hr)) (bZ rfl rfl q.len (aJ rfl (aA (ae 4)) aj)) aj)
 (SF.append 2 rfl rfl rfl (.inl rfl) (ae 4) λLR=>
 (SF.cV rfl (.m 16)))
 (SF.cV rfl (.m 16)))) λs9=>
 (SF.cV rfl (.m 8)))) λs3=>
 (SF.VU 2 rfl rfl)))
abbrev ado:DF:=dv 91 52 1 xn
def aiZ(D:DI v ado)(q:NB v)(LL:oo.C v)(OH:qP.C v)(IV:mD.C v)(fD:oq.C v)(wu:wC.C v)(abm:Jx.C v)(bL:dh.C v)(qb:kN.C v)(kF:gR.C v)(xW:jL.C v):D.O:=
 gV D λhr nd fR=>
 (SF.LW (hd:=(λ(s6:Unit)=>([ap (.val fR),bm,bm,bm,bm,bm,bm,bm,bm,bm,bm,bm,bm,bm,bm]:bD))) (s0:=()) (inj:=id) Ax rfl (cM rfl q.range (ajX rfl rfl q.max aj (ajW rfl rfl q.min aj (bZ rfl rfl q.len (ae 0))))) (.refl _) (bP 1 nd) (λ_=>trivial) (λs6 ġ=>
 (sl 2 nd (lC LL hr (av 0 (av 1 ag))) λu0=>SF.ng 2 rfl
 (SF.R3 (eC OH hr (cB 2 (ai aj ag))) (g_4 rfl (c8 rfl (aB (bP 3 nd) (aB (bP 4 nd) (aB (bP 5 nd) (aB (bP 6 nd) bW)))))) λkR=>
 (sl 7 nd (lC IV hr (av 3 (av 5 ag))) λlG=>
 SF.c6 7 rfl (sv 9 nd (af1 rfl rfl rfl q.min (aZ (cj rfl Lb (aR rfl (aX (ae 7))) (λ_ _ _ _ _=>(bP 0 Lb.nd)) (λ_ _ _ _ _ p19=>(eC fD hr (av 2 (av 1 (av 0 ag))))) rfl))) λdA=>
 (sv 10 nd (eC wu hr (av 3 (av 4 (av 6 ag)))) λoJ=>
 (SF.MJ (bT (Lz rfl (aQ hr)) (eC abm hr (av 3 (av 4 (av 6 ag)))) (ae 9))
 (SF.ret (k:=λZb=>(Lp.out Zb)) nZ λ_=>rfl)
 (sl 11 nd (jA rfl (aZ (cj rfl La (cM rfl q.range aj) (λ_ _ _ _ _=>(bP 0 La.nd)) (λ_ _ _ _ _ p34=>(eC bL hr (cB 1 (av 2 ag)))) rfl)) (aZ (aiN rfl (jn (ae 7)) jo (ku aj)))) λoI=>
 SF.c6 11 rfl (SF.LW (hd:=(λ(ķ:Unit)=>([ap (.val fR),ap (.val ġ),ap (.ng (iT gh)),ap (.val kR.1),ap (.val kR.2.1),ap (.val kR.2.2.1),ap (.val kR.2.2.2),ap (.val (.cl lG)),bm,ap (.val dA),ap (.val oJ),ap (.val (.cl oI)),bm,bm,bm]:bD))) (s0:=()) (inj:=Lp.out) Ax rfl (aR rfl (aX (ae 11))) (.refl _) (bP 8 nd) (λ_=>trivial) (λķ M1=>
 (sv 12 nd (qd (e7 rfl (aQ hr)) (eC fD hr (av 3 (av 6 (av 8 ag)))) (ae 9)) λYs=>
 (SF.Y2 (bT (Lz rfl (aQ hr)) (eC qb hr (av 3 (av 4 (av 6 (av 8 (av 10 ag)))))) (ae 12))
 (SF.ret (k:=λx52=>(Lp.out x52)) nZ λ_=>rfl)
 (SF.cV rfl (.m 4352))))) λķ=>
 (SF.lM (i:=13) rfl nd rfl rfl K9 (cM rfl q.range aj) (λ_ _ _ _ _=>(bP 0 K9.nd)) (λ_ _ _ _ _ p56=>(eC wu hr (av 3 (av 2 (ai (eC kF hr (cB 1 ag)) ag))))) rfl λGv=>
 SF.c6 13 rfl (sl 13 nd (jA rfl (jn (ae 13)) (aZ (cj rfl K8 (cM rfl q.range aj) (λ_ _ _ _ _=>(bP 0 K8.nd)) (λ_ _ _ _ _ p63=>(eC xW hr (cB 1 (av 2 ag)))) rfl))) λoO=>
 SF.c6 13 rfl (SF.LW (hd:=(λ(ĵ:Unit)=>([ap (.val fR),ap (.val ġ),ap (.ng (iT gh)),ap (.val kR.1),ap (.val kR.2.1),ap (.val kR.2.2.1),ap (.val kR.2.2.2),ap (.val (.cl lG)),bm,ap (.val dA),ap (.val oJ),ap (.val (.cl oI)),bm,ap (.val (.cl oO)),bm]:bD))) (s0:=()) (inj:=Lp.out) Ax rfl (aR rfl (aX (ae 13))) (.refl _) (bP 14 nd) (λ_=>trivial) (λĵ wQ=>
 (SF.LW (hd:=(λ(Ĵ:Unit)=>([ap (.val fR),ap (.val ġ),ap (.ng (iT gh)),ap (.val kR.1),ap (.val kR.2.1),ap (.val kR.2.2.1),ap (.val kR.2.2.2),ap (.val (.cl lG)),bm,ap (.val dA),ap (.val oJ),ap (.val (.cl oI)),bm,ap (.val (.cl oO)),ap (.val wQ)]:bD))) (s0:=()) (inj:=Lp.out) Ax rfl (aR rfl (uZ (aiN rfl (jn (ae 11)) jo (ku aj)))) (.refl _) (bP 8 nd) (λ_=>trivial) (λĴ M0=>
 (SF.Y2 (bT afp (eC qb hr (av 3 (av 4 (av 6 (av 8 (av 14 ag)))))) nZ)
 (SF.Y2 (bT (Lz rfl (aQ hr)) (eC fD hr (av 3 (av 6 (av 8 ag)))) (ae 9))
 (SF.ret (k:=λx82=>(Lp.out x82)) nZ λ_=>rfl)
 (SF.cV rfl (.m 256)))
 (SF.cV rfl (.m 256)))) λĴ=>
 (SF.cV rfl (.m 16384)))) λĵ=>
 (SF.cV rfl (.m 12030)))))))))))))) λs6=>
 (SF.bu nZ λ_=>rfl))
end
def all_d{K:Ab}(X:K.In h)(G:h.Ns f8 mg)(O0:DX K "is_whole" (top 1))(Yk:DX K "is_row" (top 2))(TN:DX K "is_word" (top 6))(O1:DX K "is_grown" (top 7))(TQ:DX K "is_tree" (top 8))(OX:DX K "parts_of" (top 9))(abJ:DX K "nodes" (top 10))(Ym:DX K "halves" (top 11))(O5:DX K "ahead_of" (top 12))(OU:DX K "under_at" (top 17))(L9:DX K "beside_at" (top 18))(TX:DX K "is_home" (top 19))(TK:DX K "name_of" (top 20))(OZ:DX K "lines_up" (top 21))(Jk:DX K "apart_from" (top 22))(Yn:DX K "ground" (top 23))(O3:DX K "comes_in" (top 30))(TZ:DX K "done_at" (top 31))(Yl:DX K "ins_of" (top 32))(L5:DX K "split_ins" (top 33))(OY:DX K "over_ins" (top 34))(O2:DX K "deeds_at" (top 35))(TR:DX K "is_stay" (top 36))(TV:DX K "is_path" (top 37))(L7:DX K "is_formed" (top 38))(vK:DX K "ways_of_nodes" (top 39))(TY:DX K "is_done" (top 40))(Yj:DX K "is_way" (top 41))(zK:DX K "ways_within" (top 42))(TL:DX K "lost_on" (top 44))(T3:DX K "counted" (top 45))(Yh:DX K "priced" (top 46))(Yf:DX K "summed" (top 49))(O4:DX K "cheapest" (top 50))(OW:DX K "price_of" (top 51))(L8:DX K "deed_cost" (top 52))(Jj:DX K "deed_costs" (top 53))(L4:DX K "step_cost" (top 54))(Jg:DX K "step_costs" (top 55))(Yg:DX K "row_of" (top 56))(abI:DX K "table" (top 57))(abK:DX K "least" (top 58))(Jh:DX K "is_entries" (top 60))(TU:DX K "is_rows" (top 61))(L6:DX K "is_within" (top 62))(Ji:DX K "is_bounded" (top 63))(ux:DX K "is_row_bounded" (top 64))(zM:DX K "shows_least" (top 65))(zL:DX K "split_dates" (top 67))(OV:DX K "standing" (top 68))(TJ:DX K "stay_of" (top 69))(abM:DX K "dated" (top 70))(Md:DX K "_law_hand" (top 72))(Ma:DX K "_law_take" (top 73))(Mb:DX K "_law_pick" (top 74))(Jl:DX K "_law_words" (top 75))(zO:DX K "_law_joined" (top 76))(Jr:DX K "_law_great" (top 77))(Jp:DX K "_law_small" (top 78))(Jq:DX K "_law_nodes" (top 79))(Jt:DX K "_law_dates" (top 80))(Jo:DX K "_law_stays" (top 81))(zN:DX K "_law_prices" (top 82))(Js:DX K "_law_deeds" (top 83))(Jn:DX K "_law_steps" (top 84))(O7:DX K "_law_all" (top 85))(Mc:DX K "_law_many" (top 86))(Me:DX K "_law_cost" (top 87))(O6:DX K "_law_few" (top 88))(yn:DX K "_law_shifted" (top 89))(Jm:DX K "_law_whole" (top 90))(de:AQ K f8 "LONGEST_WORD"=ap (ap (.int 8 ny)))(i7:AQ K f8 "LETTERS"=ap (ap (.str "abcdefghijklmnopqrstuvwxyz" Gj)))(sU:AQ K f8 "UNDER"=ap (ap (.int 2 P9)))(oy:AQ K f8 "BESIDE"=ap (ap (.int 3 Kh)))(yE:AQ K f8 "NAME"=ap (ap (.int 0 Vu)))(sW:AQ K f8 "FOUND"=ap (ap (.str "found" Qb)))(sV:AQ K f8 "SPLIT"=ap (ap (.str "split" Qa)))(yD:AQ K f8 "OVER"=ap (ap (.str "over" Vt)))(lB:AQ K f8 "DOUBLED"=ap (ap (.str "doubled" Gk)))(iQ:AQ K f8 "DEEDS"=ap (ap (.ref pI)))(mf:Pu K pI ["split","doubled","over"])(yF:AQ K f8 "LOST"=ap (ap (.int 3 Vv)))(Hg:AQ K f8 "isinstance"=ap bm)(adD:AQ K f8 "bool"=ap bm)(ahj:AQ K f8 "int"=ap bm)(ahi:AQ K f8 "len"=ap bm)(Y9:AQ K f8 "tuple"=ap bm)(ahf:AQ K f8 "str"=ap bm)(ahk:AQ K f8 "all"=ap bm)(adB:AQ K f8 "list"=ap bm)(MV:AQ K f8 "reversed"=ap bm)(J7:AQ K f8 "enumerate"=ap bm)(Za:AQ K f8 "range"=ap bm)(UY:AQ K f8 "sorted"=ap bm)(ahc:AQ K f8 "zip"=ap bm)(ahe:AQ K f8 "sum"=ap bm)(ahg:AQ K f8 "min"=ap bm)(adC:AQ K f8 "dict"=ap bm)(ahl:AQ K f8 "abs"=ap bm)(ahh:AQ K f8 "max"=ap bm):ako K mg ado:=by
 constructor
 rintro v rfl rfl D;have q:NB v:=⟨AR X G Hg,AR X G adD,AR X G ahj,AR X G ahi,AR X G Y9,AR X G ahf,AR X G ahk,AR X G adB,AR X G MV,AR X G J7,AR X G Za,AR X G UY,AR X G ahc,AR X G ahe,AR X G ahg,AR X G adC,AR X G ahl,AR X G ahh⟩;replace de:=BN X G de;replace i7:=BN X G i7;replace sU:=BN X G sU;replace oy:=BN X G oy;replace yE:=BN X G yE;replace sW:=BN X G sW;replace sV:=BN X G sV;replace yD:=BN X G yD;replace lB:=BN X G lB;replace iQ:=BN X G iQ;replace yF:=BN X G yF;obtain⟨i8⟩:=TN.mk2 (d:=lz) X G;refine O0.go (d:=mr) X G (λD=>N8 D q) λyI=>?_;refine Yk.go (d:=lA) X G (λD=>Xi D q) λtm=>?_;have UI:=i8.cA (GL i8 q de i7);have aha:=i8.c (GL i8 q de i7);obtain⟨yP⟩:=O1.mk2 (d:=(qN i8.f)) X G;have PJ:=yP.c (N9 yP UI tm);refine TQ.go (d:=uB) X G (λD=>SV D i8.at' PJ) λUw=>?_;refine OX.go (d:=qK) X G (λD=>N5 D q) λPy=>?_;refine abJ.go (d:=iM) X G (λD=>aa1 D q Py) λmO=>?_;refine Ym.go (d:=jJ) X G (λD=>Xk D q) λoz=>?_;refine O5.go (d:=mB) X G (λD=>Od D q mO oz) λyK=>?_;refine OU.go (d:=d8) X G (λD=>N2 D sU) λgH=>?_;refine L9.go (d:=oj) X G (λD=>Ls D oy) λMv=>?_;refine TX.go (d:=uF) X G (λD=>S0 D yE gH) λUA=>?_;refine TK.go (d:=pD) X G (λD=>SS D q) λHd=>?_;refine OZ.go (d:=qM) X G (λD=>N7 D q yK) λPF=>?_;refine Jk.go (d:=mz) X G (λD=>Ir D q) λJN=>?_;refine Yn.go (d:=yB) X G (λD=>Xl D q mO PF Hd oz JN) λYW=>?_;refine O3.go (d:=qO) X G (λD=>Ob D) λPK=>?_;refine TZ.go (d:=uH) X G (λD=>S2 D) λUC=>?_;refine Yl.go (d:=yA) X G (λD=>Xj D q PK) λYV=>?_;refine L5.go (d:=n9) X G (λD=>Lm D q gH) λMs=>?_;refine OY.go (d:=qL) X G (λD=>N6 D Mv) λPB=>?_;refine O2.go (d:=my) X G (λD=>Oa D q sW sV yD lB UA Ms PB) λyJ=>?_;refine TR.go (d:=uC) X G (λD=>SW D q yI) λUx=>?_;refine TV.go (d:=uE) X G (λD=>SY D q Ux gH) λUz=>?_;refine L7.go (d:=oe) X G (λD=>Lq D q Uz tm) λMt=>?_;refine vK.go (d:=ic) X G (λD=>vC D q Mt oz) λvO=>?_;refine TY.go (d:=uG) X G (λD=>S1 D YV yJ UC) λUB=>?_;refine Yj.go (d:=yz) X G (λD=>Xh D q Uw mO vO UB) λYU=>?_;refine zK.go (d:=kL) X G (λD=>zw D q) λzV=>?_;refine TL.go (d:=uA) X G (λD=>SU D q gH) λUv=>?_;refine T3.go (d:=uI) X G (λD=>S3 D q iQ mf zV Uv) λUD=>?_;refine Yh.go (d:=yx) X G (λD=>Xf D q) λYT=>?_;refine Yf.go (d:=sS) X G (λD=>Xd D q) λMq=>?_;refine O4.go (d:=jK) X G (λD=>Oc D q) λqT=>?_;refine OW.go (d:=qJ) X G (λD=>N4 D iQ mf) λPx=>?_;refine L8.go (d:=og) X G (λD=>Lr D q oz Mq Px) λMu=>?_;refine Jj.go (d:=iO) X G (λD=>Iq D yJ Mu) λtq=>?_;refine L4.go (d:=n8) X G (λD=>Ll D q yF gH) λMr=>?_;refine Jg.go (d:=iL) X G (λD=>Ik D Mr gH Mq) λtj=>?_;refine Yg.go (d:=yw) X G (λD=>Xe D q tq tj qT) λYS=>?_;refine abI.go (d:=wC) X G (λD=>aa0 D q mO YS) λRE=>?_;refine abK.go (d:=Jx) X G (λD=>aa2 D qT RE) λacb=>?_;refine Jh.go (d:=mw) X G (λD=>Im D q yI tm) λJL=>?_;refine TU.go (d:=uD) X G (λD=>SX D q JL tm mO) λUy=>?_;refine L6.go (d:=kj) X G (λD=>Ln D) λvh=>?_;refine Ji.go (d:=mx) X G (λD=>Io D tq tj vh qT) λJM=>?_;refine ux.go (d:=gF) X G (λD=>uf D q JM) λuL=>?_;refine zM.go (d:=kN) X G (λD=>zy D q Uy YU mO uL YT UD vh) λzX=>?_;refine zL.go (d:=kM) X G (λD=>zx D q) λzW=>?_;refine OV.go (d:=qI) X G (λD=>N3 D q yK) λPw=>?_;refine TJ.go (d:=uz) X G (λD=>SR D q oz Hd) λUu=>?_;refine abM.go (d:=Jy) X G (λD=>aa3 D q mO zW Pw Uu) λacd=>?_;refine Md.go (d:=oo) X G (λD=>Lx D q) λMx=>?_;refine Ma.go (d:=bU) X G (λD=>Lu D) λcS=>?_;refine Mb.go (d:=dh) X G (λD=>Lv D q cS) λfH=>?_;refine Jl.go (d:=mC) X G (λD=>Iu D q cS fH) λJO=>?_;refine zO.go (d:=gT) X G (λD=>zB D q cS) λqi=>?_;refine Jr.go (d:=mH) X G (λD=>IA D JO cS qi) λJT=>?_;refine Jp.go (d:=mG) X G (λD=>Iz D q cS fH qi) λJS=>?_;refine Jq.go (d:=iP) X G (λD=>su D q 12) λtu=>?_;refine Jt.go (d:=mJ) X G (λD=>IC D q tu fH cS) λJV=>?_;refine Jo.go (d:=mF) X G (λD=>Iy D cS YW acd JV) λJR=>?_;refine zN.go (d:=gR) X G (λD=>zA D q cS fH) λqh=>?_;refine Js.go (d:=mI) X G (λD=>IB D q) λJU=>?_;refine Jn.go (d:=mE) X G (λD=>Iw D q) λJQ=>?_;refine O7.go (d:=qQ) X G (λD=>xK D q 50) λPN=>?_;refine Mc.go (d:=om) X G (λD=>Lw D q JU JQ) λMw=>?_;refine Me.go (d:=oq) X G (λD=>uY D q 8) λMz=>?_;refine O6.go (d:=qP) X G (λD=>Oe D q JT JR JS Mw tu cS qh) λPM=>?_;refine yn.go (d:=jL) X G (λD=>xJ D q fH) λyL=>?_;refine Jm.go (d:=mD) X G (λD=>Iv D q PN) λJP=>?_;exact aiZ D q Mx PM JP Mz RE acb fH zX qh yL
def walk{l:Fv}{q:wn}{d:DefRec}{K:Params->Ab}(hn:l.most=ap 63)(Ī:d.params.defaults=[])
  (hY:∀(w:wT) (h:pr),YP w h->(K w.params).In h)
  (F:∀(w:wT) (mg:Str->Option ce) (fa:ci) (h:pr),(K w.params).In h->h.Ns f8 mg->mg d.name=ap (.ref fa)->
   ∃fd:FB,(∀(s:cr) (u:ce),BindsTo s fd ⟨[u],[]⟩ [("_law_script",u)])/\∀base:pr,(K w.params).In base->base.Ns f8 mg->iU l.prog w (K w.params) mg base yQ 52 fa fd ["_law_script"] (Qi (K w.params))) :
  PySem.W.WalkO q Ô XP YP l.row.toRowW d [] (λf vs=>Ge f vs):=
 L2.Zf (n:=63) (k:=52) (x:="_law_script") (CX:=λ_=>yQ) (sp:=λw=>Qi (K w.params)) hn ⋯ Ī ⟨rfl,by decide,by decide,rfl⟩ hY F (λ_ _ a ns hl hO hS=>⟨a,ns,rfl,hO,hS,hl,λ_=>rfl⟩) λ_ _ _ _ _ z=>z
end My
end
open PySem PySem.W PyProof.Rows
structure PySem.W.Fast:Prop where(tw11806496252015496786 tw14077619272349152029 tw13966405518973177559 tw1948277004898467965 tw2816394024030547902 tw14517635530111937317 tw15774449355292546027 tw4755090629891667657 tw14479159679763584212 tw4700234538929988026 tw16290755135005108134 tw13700675494648381663 tw4458239754436143478 tw2379862600306607255 tw10457365856072139756 tw8442750207840419442 tw14813639638409250619 tw17602849029418199612 tw17834486756049054770 tw3543240741489086178 tw6489638531610171383 tw7074590495281744249 tw11847090829339893556 tw1125244086119645048 tw17078193333377700562 tw11165011479447362762 tw2641406475420483224 tw4200782243294879926 tw8351443414724921952 tw13300270566561236987 tw6000434811871349724 tw8159573863096518050 tw8802607583168456465 tw4881228859619565949 tw2243384235667713055 tw17679402301916315580 tw16056106442103358894 tw3932141269825793366 tw6131324237421041457 tw15676425832448352361 tw12384389077119233656 tw546181359110825710 tw15054471508022830160 tw12975247030817762018 tw7111507896202341729 tw580493520833016950 tw4821855832729227213 tw12695239113097751514 tw3991127926184199667 tw10130380575078649438 tw11455107751999763548 tw14464522976168761584 tw15874505506791138502 tw13968403660222795456 tw17860188876205345261 tw7044570963519788445 tw3706376957311382043 tw10737208192122705670 tw10351110959331484623 tw11821819779205517703 tw4435427889709670586 tw5471525957706195423 tw11086253773331300374 tw5796318611271520523 tw520783402185531745 tw12961789311694146063 tw12848666262154581089 tw15458574568442245406 tw17913419749612443839 tw12310482078539542482 tw17423048642824764517 tw6339765002720509893 tw8094612032930713138 tw12302601640058669893 tw1572897189440955734 tw16937589097678507463 tw11028254315658971844 tw11491322287226159069 tw16805504760231347054 tw16795549325703532044 tw16140218435069354627 tw12611873003052159870 tw18313353588199371403 tw2364821788877629687 tw13147121342937219242 tw15932722044040367099 tw17043785734869146937 tw17172794267670321063 tw7712704958664124228 tw11826863391954634262 tw568189520388908132 tw11530424251783374851 tw2125859465991925282 tw5546284210475137391 tw9854673577576418343 tw15948483035080935550 tw13712254367780303602 tw3845203248745015238 tw6815193688541639779 tw17105993633958946566 tw3136521565770929020 tw4722648390386042751 tw18261822085747751610 tw12511407130452253911 tw14036231804822626819 tw15265156645253379992 tw2502829202419016476 tw16274823170968940910 tw7028033913907590943 tw3291926979220815130 tw14554989181470518638 tw17185028721522068200 tw7450186476310656948 tw9261630733280829562 tw13066055445491015957 tw12825793906564115552 tw871366947891357031 tw17164739576178182087 tw6520011895464415703 tw13514827566845711803 tw11355063771376144856 tw10328163672740856838 tw8480662890474807218 tw15262826032798738196 tw11721605089967210146 tw7522166930048469756 tw1114697612887664523 tw486080492247581133 tw4661287375924699208 tw5561426001221973919 tw11451547461007531747 tw3780486867609616187 tw8669483643943578657 tw10239691028100876763 tw7125677464964734420 tw17681926466723099601 tw12455839359634258247 tw10562080608865518086 tw13378454911589492743 tw14020788423856961691 tw6457170092060821088 tw13184993080982884038 tw7379865232230037327 tw12524803330236170041 tw13463226618856606324 tw1572887729602954848 tw12132815249818883349 tw13104428043825544121 tw14771311679695385592 tw4765447670828001980 tw905892721136605107 tw9965400999733827610 tw7390913510742901738 tw17463343982556524997 tw10656668910528767344 tw48649935295493932 tw12143904367750316644 tw14349264428863343079 tw6192348699098357343 tw6619806822969421462 tw14606016180496524785 tw499990588322527623 tw10453192210784178206 tw9581239194945831394 tw13361195578511036195 tw6600128986074736763 tw12895096283914749744 tw16060087819017952485 tw11729874889133314225 tw4523222664445017248 tw8041631795035500481 tw2338849087734451061 tw8926505644456124038 tw6760850002842276694 tw2316638028066189159 tw10846350606028501236 tw17114518405284615131 tw14007111262902216370 tw6915375675568730638 tw4818609496626104076 tw14332519039330969937 tw1943950566432823954 tw17959919853745104887 tw7764911467951890960 tw9597874415350377069 tw17188863715363182981 tw1737135293758582768 tw5558120398428183340 tw14251949130114421421 tw3391425773515902158 tw3049061803870510715 tw11031025985529989007 tw3745274148219081704 tw1096110804506287346 tw9204707467336481441 tw16934530713385431310 tw11232067393667849154 tw7538719246411609569 tw17520330449946741694 tw14510092817236692707 tw11669105458789146859 tw2359715734260762789 tw11186920257619174104 tw15054022114392312713 tw3233236880171103544 tw926610650756363731 tw5343383284756891795 tw10690446581757519342 tw3748777804628584176 tw4320837250463234520 tw10390242004149699376 tw7947474470190611219 tw14022338284079953073 tw6647350284784925304 tw14258058537832655367 tw11485563545110072558 tw5328771511174295993 tw6830263760939116834 tw7706063387962011477 tw5180831204710113826 tw4940243649253100902 tw10315231232276893862 tw4604341430722062069 tw5352658350365740628 tw9256092438996168949 tw16099928994080131135 tw14026209220631863977 tw1926052620176345718 tw4973818660316738809 tw17812774030157062107 tw3073456356090332670 tw10165641981650488142 tw5887919914816482233 tw7460704976201550986 tw15181393692836795245 tw17319165143073426121 tw2199182838124046192 tw9166464322357889279 tw9821300864260654583 tw1919612073889660302 tw11111642106603057098 tw13894459141135282912 tw1156054489554848004 tw12971253736306074593 tw8181831897449365975 tw697284552659095823 tw1069011934982623253 tw1382924860240788932 tw2285427084793968250 tw1003194224521501885:True)
def PySem.W.Fast.tw12740012511962912014:=PySem.Challenge.pw_treewithin_k38_whole_what_is_taken_is_le
theorem PySem.W.Fast.te12740012511962912014:PySem.Challenge.pw_treewithin_k38_whole_what_is_taken_is_le=PySem.W.Fast.tw12740012511962912014:=rfl
set_option maxRecDepth 100000 in
set_option maxHeartbeats 0 in
theorem PySem.Challenge.cw_treewithin_k38_whole_what_is_taken_is_le_holds : PySem.Challenge.rw_treewithin_k38_whole_what_is_taken_is_le.Holds := by
 w_on;o_law;k_head;(case hw=>w_witness2)
 k_fill
 refine My.walk (l:=PySem.Challenge.rw_treewithin_k38_whole_what_is_taken_is_le) rfl rfl (fun w h Y=>PySem.W.kIn_of Y) ?F
 case F=>
  intro w mg fa h KX G hmg;refine' FL.mkAll (st:=My.top 91) (k:=52) My.law38_ok KX G hmg ?e (fun _ _ _ _ _ _=>FL.usN fun _=>rfl) (My.all_d KX G ..)
  all_goals try first | (refine' FL.dx ?a ?l ?c ?k;(case a=>k_is);(case l=>k_is);(case c=>k_is);(case k=>k_is)) | (refine' FL.tup3K ?a;(case a=>k_is)) | k_is
#print axioms PySem.Challenge.cw_treewithin_k38_whole_what_is_taken_is_le_holds
