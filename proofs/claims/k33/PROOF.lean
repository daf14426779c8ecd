import PyProof.Rows.All
import Wide.All
import OpenK.AllK
import Wide.FinOn
import Lean
import PyProof.EqAt
import PyProof.EqKinds
import PyProof.TupleCall
import PyProof.NeKinds
import PyProof.FactsAll.tuple_2
import PyProof.FactsAll.str_0
import PyProof.FactsAll.str_1
import PyProof.FactsAll.str_2
import PyProof.FactsAll.str_3
import PyProof.Rows.MinMaxN
import PyProof.Rows.SumAny
import PyProof.Rows.SetFrom
import PyProof.ReprRoads
import PyProof.Rows.StrKeys3
import PyProof.CallFns
import KE.KSortTup
import KE.KDictSum
import PyProof.Rows.CallKwBuiltin
import KE.KMinBuiltin
import KE.KDictList
import KE.KEqDict
import PySem.Challenge.RW_treewithin_k33_tables_of_anything
local macro_rules | `(tactic| omega) => `(tactic| lia)
open PySem renaming wpAny_bind -> Aa, wpAny_pure -> Ae, wpAny_newObj_type -> AQ, wpAny_callSpecial?_slot -> AV, wpAny_field -> AY, Value -> A6, wpAny_call_entry -> Bc, wpAny_setField_rec -> Bg, wpAny_holding -> Bh, wpAny_seqItems -> Bt, Addr -> BD, wpAny_Call_Name_kw -> BE, wpAny_mono -> BL, mem_of_lookup -> BM, Expr -> BX, wpAny_typeNameOfWhole_keyiter -> B2, Str -> B7, wpAny_truthy_bool -> B8, Pos -> Cd, wpAny_passesOwn -> Cm, wpAny_typeNameOf_keyiter -> Cp, wpAny_of_eq -> Cy, wpAny_letGo -> Cz, wpAny_typeOf -> CD, wpAny_updateSeq -> CH, wpAny_pyIter_list -> CS, wpAny_rule -> CZ, wpAny_newTuple -> C0, wpAny_attempt -> De, wpAny_pyIter_enum -> Dm, wpAny_isInstance -> DA, wpAny_eqBool_str -> DB, wpAny_updateSeq_pair -> DM, wpAny_execs_nil -> DU, Shared -> D3, wpAny_tryCatch -> Ed, wpAny_setField -> Ee, wpAny_pyIter_tuple -> Ef, wpAny_letOwnedTupleGo_enum -> Eg, wpAny_sequenceKey -> Ew, wpAny_dictEntries -> Ex, wpAny_standAt -> EA, wpAny_onRaise -> EB, wpAny_comprehension_free -> EC, wpAny_specialOf -> E8, wpAny_dictEpoch -> E9, Heap -> FO, Obj -> FW, call -> F0
open PySem.W renaming Frag -> Ab, nsIn -> AG, mg_none_of -> AI, kia_one -> Ba, kitOne -> Bo, mg_of -> BI, fnOf -> BZ, KasT -> D1, keepIn -> D6, codeIn -> D7, methodObj -> Ep, kitx_list -> Er, kitx_dict -> Es, cellsFrom_some -> EN, kas_rev -> E4, instObj -> E5, OpenLaw -> E6, lookIn -> Fm, kitx_tuple -> FK, plainGet -> FR, kat_cons -> FT, kas_sort -> FU
open List renaming getElem?_eq_getElem -> Ad, length_map -> Af, size_toArray -> Ah, length_append -> Ai, getD_eq_getElem?_getD -> Aj, getElem?_eq_some_iff -> Ak, getElem?_map -> Al, replicate -> An, map_cons -> Ap, length_cons -> Ar, mem_map -> Av, mem_cons -> Ax, map_map -> Ay, append_assoc -> AA, mem_singleton -> AD, mem_append -> AE, range -> AL, map_append -> AO, getElem?_append_left -> AR, getElem?_eq_none -> AW, mem_cons_of_mem -> AZ, getElem?_append_right -> A1, not_mem_nil -> A2, mem_range -> A5, mem_append_right -> A7, filterMap_cons -> A9, mem_filter -> Bd, mem_of_getElem? -> Be, find?_cons -> Bj, lookup_cons -> Bk, drop_eq_getElem_cons -> Bm, length_nil -> Bp, length_replicate -> Bq, getElem?_replicate -> Bs, mem_cons_self -> Bu, replicate_succ -> Bw, length_filter_le -> Bz, any_cons -> BA, length_take -> BG, idxOf_lt_length_of_mem -> BH, map_congr_left -> BN, getElem?_range -> BO, length_set -> BQ, length -> BR, forIn_cons -> BS, pairwise_iff_getElem -> BU, getElem?_set_ne -> B3, getElem?_of_mem -> B4, eq_nil_of_length_eq_zero -> B5, flatten_cons -> B9, ext_getElem? -> Ca, length_reverse -> Cb, cons_append -> Ce, all_eq_true -> Cf, length_pos_iff -> Cr, length_drop -> Cu, isEmpty_iff -> Cv, eraseIdx_cons_succ -> Cw, getElem?_set_self -> CG, append_nil -> CJ, perm_append_comm -> CO, reverse_cons -> CT, length_range -> CU, flatMap_cons -> CV, take_succ -> C2, take_length -> C4, getElem_mem -> C5, mergeSort_perm -> C8, foldl_cons -> Df, take_of_length_le -> Dp, pairwise_lt_range -> Dq, all_map -> Dr, replicate_append_replicate -> Ds, eraseIdxIfInBounds_toArray -> Du, length_singleton -> Dw, filter_cons -> DC, drop_length -> DE, sum_cons -> DG, getElem_toArray -> DP, nodup_cons -> DV, length_take_le -> DY, getElem_of_mem -> DZ, map_nil -> D5, pairwise_cons -> Ei, nodup_nil -> Ej, mem_filterMap -> Ek, filter_append -> El, pairwise_map -> Ey, length_erase_of_mem -> ED, all_cons -> EE, pairwise_mergeSort -> EL, map_set -> EX, length_pos_of_mem -> EY, filter_eq_nil_iff -> EZ, drop_eq_nil_of_le -> E1, of_mem_zip -> Fc, nil_append -> Fd, getElem?_toArray -> Fj, mem_of_mem_take -> Fv, mem_of_mem_drop -> Fw, mem_append_left -> Fx, length_eraseIdx -> Fy, reverse_append -> FH, map -> F1
open PySem.Heap renaming get?_push_of_some -> Ag, get?_push_size -> Aq, lt_size -> Au, get?_update_other -> BK, get?_update_self -> BV, SameBut -> Cc, size_push -> Cs, size_update -> EH, IsSliceOf -> Fo, get?_update_ne -> FG, ExtBut -> FY
open Nat renaming le_refl -> Am, ne_of_lt -> AB, zero_add -> AH, lt_of_lt_of_le -> AJ, lt_irrefl -> AX, zero_le -> A8, add_assoc -> Bl, le_trans -> Bv, le_add_right -> BF, strongRecOn -> Cn, sub_self -> CF, lt_or_ge -> Dn, le_of_ble_eq_true -> Dv, le_succ -> DN, le_of_lt -> D4, eq_or_lt_of_le -> Eh, lt_succ_self -> EJ, add_sub_cancel_left -> EK, succ_mul -> EU, lt_trans -> EW, two_pow_pos -> Fb, pow_le_pow_right -> Ft, mul_le_mul_right -> Fu, sub_zero -> FQ
open Bool renaming false_eq_true -> Ao, and_eq_true -> Aw, false_ne_true -> A4, not_true -> CM, not_false -> C3, and_false -> En, eq_iff_iff -> Ff, false_and -> Fz, true_and -> FJ
open PySem.Value renaming ref -> Az, none -> AU, str -> Bb, type -> CC, bool -> CW, int -> Di
open PySem.PassesOwn renaming never -> AM
open PyProof.Rows renaming slot_tuple_getitem -> AN, callWith_type1 -> Bi
open Int renaming toNat_natCast -> A3, emod_lt_of_pos -> Ck, mul_le_mul_of_nonneg_left -> CA, le_refl -> CB, emod_nonneg -> CK, mul_nonneg -> Em, zero_add -> E2, le_antisymm -> Fe, toNat -> FX
open PySem.NameKind renaming free -> Bf, cell -> FI
open PySem.Obj renaming mapSeq -> Bn, data_mapFields -> Dh, isFreed_of_fields -> Fg
open False renaming elim -> Br
open Ne renaming symm -> Bx
open PySem.F renaming slot_dict_keyiterator_next -> BC, plainAttrs_list -> B6, slot_tuple_iterator_next -> Ci, plain_min_loop -> Ct, slot_enumerate_next -> CN, args_tuple_add_2 -> C9, slot_list_getattribute -> Dc, entry_tuple_add -> Dj, slot_tuple_add -> Dk, args_dict_keyiterator_next_1 -> Dy, entry_dict_keyiterator_next -> DH, args_list_extend_2 -> DJ, slot_zip_next -> DR, args_tuple_iterator_next_1 -> DS, entry_list_extend -> DW, entry_tuple_iterator_next -> D2, slot_list_extend -> Eb, args_enumerate_next_1 -> EI, entry_enumerate_next -> EO, type_list_pop -> Fh, slot_list_pop -> Fi
open PySem.Str renaming ofString -> BJ
open Array renaming length_toList -> BP, getElem?_eq_getElem -> C7, getElem?_toList -> Dx, perm_iff_toList_perm -> Eo, getElem?_eq_none -> E3
open PySem.AutoSeq1 renaming wpAny_loadPart' -> BW, sub_tuple_tuple -> Dz, sub_tuple_list -> DK, sub_list_tuple -> DL, sub_list_list -> DT, idx_int -> ES
open PySem.PyData renaming hasDict -> B1, hasDictAll -> Eu
open True renaming intro -> Cg
open PySem.Calls renaming spliced_cons -> Cj, spliced_nil -> CP, Name_function_global -> Ec, callWith_builtin -> ER
open ForInStep renaming yield -> Co
open Or renaming inr -> Cq, inl -> C1
open Option renaming map_some -> CI, map_eq_none_iff -> ET
open PySem.SeqAt renaming EqAt -> CY, RcAt -> FN, RcNeAt -> FP
open And renaming right -> C6
open PySem.SeqAt.EqAt renaming of_refs -> Dg, same -> DQ, int_int -> Ea
open PySem.EqBoolInt renaming of_rcne -> Dl, of_rc -> E7
open PySem.SeqAt.RcNeAt renaming lists_lengths -> D8, lists -> D9, tuples -> FE
open PySem.SeqAt.RcAt renaming tuples -> Et, lists_lengths -> Ez, lists -> EG
open Classical renaming propDecidable -> EM
open PySem.Fin renaming done -> Fp
open PySem.Data renaming seq -> Fq
open PySem.Around renaming under_plainId -> Fs
open Sum renaming inr -> FA, inl -> FC
open PyProof.Rows.IsTup renaming new -> FD
open PySem.Expr renaming Name -> FV
open PySem.Flow renaming ret -> FZ
set_option compiler.extract_closed false
set_option Elab.async false
set_option linter.all false
set_option maxRecDepth 100000
set_option maxHeartbeats 1000000
open Option renaming some→ap,none→bm
open PyProof.Rows renaming seqObj→sB,IntsAre→tt,boot_str→wn,envOfC→xz,boot_tuple→xL,AllBare→FB
open PySem renaming Value→bn,Addr→ce,Shared→cr,wpAny→db,model→ev,mainGlobals→f8,starEach→ga,Expr→kw,swapsWith→lc,eval→lf,Heap→lm,bootBuiltins→lw,tupleKind→nn,Scope→nw,compareOp→o0,cLine→pc,attributeBase→pr,sysModules→re,behindInMarks→r9,binaryOp→sn,Stmt→ss,Program→sw,call_meets→sK,World→tz,rawInt→t0,backTo→ut,Around→u8,plainId_quiet→vv,Builtin→vD,PassesOwn→vR,setField→wf,NameKind→wv,IntMulOk→ww,assignEach→wE,sliceBounds→wP,storedH→zn,holding→BT,getItem→Ch,codeAny→Da,swapsWithSole→Db,swappedStores→Ev,assign→EQ,FuncData→Fa,typeLookup→Fk,letOwnedTupleGo→FM,codeAny_builtin→FS
local macro_rules | `(∅)=>`(by omega)
local macro_rules | `(⋯)=>`(by decide)
open PySem PySem.Spec PyProof.Rows
abbrev O.{u}(α:Type u):=List α
namespace L2
end L2
namespace My
end My
namespace PL
end PL
namespace FL
end FL
open L2 My PL FL
namespace L2
abbrev Key:=Sum Int Str
def vB:Key->bn->Bool
 | .inl k,v=>Value.isInt k v
 | .inr x,v=>Value.isStrOf x v
def afV(w:tz):Key->Int
 | .inl k=>hashInt k
 | .inr x=>hashStr w x
def bZ:∀{k:Key}{v:bn},vB k v=true->(∃i t,k=FC i/\v=Di i t)\/(∃x t,k=FA x/\v=Bb x t)
 | .inl i,v,h=>by
  obtain⟨t,e⟩:=Value.isInt_shape (k:=i) (v:=v) h;exact .inl ⟨i,t,rfl,e⟩
 | .inr x,v,h=>by
  obtain⟨t,e⟩:=Value.isStrOf_shape (x:=x) (v:=v) h;exact .inr ⟨x,t,rfl,e⟩
def M0(i:Int)(t:Tok):vB (.inl i) (.int i t)=true:=by simp[vB,Value.isInt]
def MZ(x:Str)(t:Tok):vB (.inr x) (.str x t)=true:=by simp[vB,Value.isStrOf]
def Yw(a b:Int):decide ((FC a:Key)=FC b)=(a==b):=by
 by_cases e:a=b
 ·subst e;simp
 ·have h:¬(FC a:Key)=FC b:=λq=>e (FC.inj q);rw[decide_eq_false h];exact(beq_eq_false_iff_ne.mpr e).symm
def Yt(a b:Str):decide ((FA a:Key)=FA b)=decide (a=b):=by
 by_cases e:a=b
 ·subst e;simp
 ·have h:¬(FA a:Key)=FA b:=λq=>e (FA.inj q);rw[decide_eq_false h,decide_eq_false e]
def Yv(a:Int)(b:Str):decide ((FC a:Key)=FA b)=false:=decide_eq_false (λq=>nomatch q)
def Yu(a:Str)(b:Int):decide ((FA a:Key)=FC b)=false:=decide_eq_false (λq=>nomatch q)
def bG(prog:sw)(w:tz):PySem.KeyKind prog w Key where
 is:=vB
 hash:=afV w
 inj:=λv a b ha hb=>by
  rcases bZ ha with⟨i,t,rfl,rfl⟩ | ⟨x,t,rfl,rfl⟩
  ·rcases bZ hb with⟨j,u,rfl,e⟩ | ⟨y,u,rfl,e⟩
   ·injection e with e1 _;rw[e1]
   ·exact nomatch e
  ·rcases bZ hb with⟨j,u,rfl,e⟩ | ⟨y,u,rfl,e⟩
   ·exact nomatch e
   ·injection e with e1 _;rw[e1]
 byValue:=λk v h=>by
  rcases bZ h with⟨i,t,rfl,rfl⟩ | ⟨x,t,rfl,rfl⟩ <;> rfl
 pyHash:=λhv h=>by
  rcases bZ hv with⟨i,t,rfl,rfl⟩ | ⟨x,t,rfl,rfl⟩
  ·exact wpAny_pyHash_int h
  ·exact wpAny_pyHash_str h
 eqBool:=λhu hv h=>by
  rcases bZ hu with⟨i,t,rfl,rfl⟩ | ⟨x,t,rfl,rfl⟩
  ·rcases bZ hv with⟨j,u,rfl,rfl⟩ | ⟨y,u,rfl,rfl⟩
   ·rw[Yw]at h;exact wpAny_eqBool_int h
   ·rw[Yv]at h;exact CY.int_str i t y u _ _ _ _ h
  ·rcases bZ hv with⟨j,u,rfl,rfl⟩ | ⟨y,u,rfl,rfl⟩
   ·rw[Yu]at h;exact CY.str_int x t j u _ _ _ _ h
   ·rw[Yt]at h;exact DB h
 «strs»:=λk x t v h=>by
  rcases bZ h with⟨i,u,rfl,e⟩ | ⟨y,u,rfl,e⟩
  ·exact nomatch e
  ·injection e with e1 _;subst e1;cases v <;> rfl
def Gj(prog:sw)(w:tz)(i:Int)(t:Tok):(bG prog w).is (.inl i) (.int i t)=true:=M0 i t
def Gi(prog:sw)(w:tz)(x:Str)(t:Tok):(bG prog w).is (.inr x) (.str x t)=true:=MZ x t
end L2
variable{us:O A6}{u:A6}{κ α β:Type}{a b e:BD}{P:PySem.Program}{w:PySem.World}{h h':FO}{ob:FW}
namespace L2
inductive V where
 | ax | bl (b:Bool) | int (i:Int) | str (x:Str) | Zu (b:Array UInt8) | Z5 (b:UInt64) | ref (a:ce) | ty (n:String)
 deriving DecidableEq
def RelV:V->bn->Prop
 | .ax,u=>u=AU
 | .bl b,u=>u=CW b
 | .int i,u=>∃t,u=Di i t
 | .str x,u=>∃t,u=Bb x t
 | .Zu b,u=>∃t,u=Value.bytes b t
 | .Z5 b,u=>∃t,u=Value.float b t
 | .ref a,u=>u=Az a
 | .ty n,u=>u=CC n
abbrev Vals:O V->O bn->Prop:=Paired RelV
def Vals.length{xs:O V}(r:Vals xs us):xs.length=us.length:=Paired.length r
theorem Vals.get:∀{xs:O V}{us:O bn}{i:Nat}{x:V},Vals xs us->xs[i]?=ap x->∃u,us[i]?=ap u/\RelV x u
 | _,_,_,_,.nil,e=>by simp at e
 | _,_,0,_,.cons r _,e=>by simp at e;subst e;exact⟨_,rfl,r⟩
 | _,_,i+1,x,.cons _ t,e=>by
  obtain⟨u,h1,h2⟩:=Vals.get (i:=i) (x:=x) t (by simpa using e);exact⟨u,by simpa using h1,h2⟩
theorem Vals.set{x:V}(r:RelV x u):∀{xs:O V}{us:O bn} (i:Nat),Vals xs us->Vals (xs.set i x) (us.set i u)
 | _,_,_,.nil=>.nil
 | _,_,0,.cons _ t=>.cons r t
 | _,_,i+1,.cons q t=>.cons q (Vals.set r i t)
theorem Vals.append:∀{xs ys:O V}{us ws:O bn},Vals xs us->Vals ys ws->Vals (xs++ys) (us++ws)
 | _,_,_,_,.nil,s=>s
 | _,_,_,_,.cons r t,s=>.cons r (Vals.append t s)
theorem Vals.take:∀{xs:O V}{us:O bn} (n:Nat),Vals xs us->Vals (xs.take n) (us.take n)
 | _,_,0,_=>.nil
 | _,_,_+1,.nil=>.nil
 | _,_,n+1,.cons r t=>.cons r (Vals.take n t)
theorem Vals.drop:∀{xs:O V}{us:O bn} (n:Nat),Vals xs us->Vals (xs.drop n) (us.drop n)
 | _,_,0,r=>r
 | _,_,_+1,.nil=>.nil
 | _,_,n+1,.cons _ t=>Vals.drop n t
def uh:Option V->Option bn->Prop
 | some v,ap u=>RelV v u
 | none,bm=>True
 | _,_=>False
def KV:O (κ×V)->O (κ×bn)->Prop:=Paired λ(p:κ×V) (q:κ×bn)=>p.1=q.1/\RelV p.2 q.2
def kV:Key->V
 | .inl i=>.int i
 | .inr x=>.str x
inductive HO where
 | lst (xs:List V)
 | tup (xs:List V)
 | dK (kvs:List (Key×V)) | dT (kvs:List (List Key×V))
 | set (S:Int->Bool) (n:Nat)
 | ins (C dx:ce) (fs:List (Str×V))
 | own (x:ce)
 | xd (fs:List (Str×V))
 | met (f x:ce)
 | rng (lo hi:Int)
 | cq (o:Obj) (u:HO)
 | WW (ps:Array bn)
 | ext (φ:lm->Prop)
abbrev Hp:=ce->Option HO
def upd(H:Hp)(a:ce)(o:HO):Hp:=λb=>if b=a then ap o else H b
def aM{H:Hp}{o:HO}:upd H a o a=ap o:=by unfold upd;rw[if_pos rfl]
def aq{H:Hp}{o:HO}(h:b≠a):upd H a o b=H b:=by unfold upd;rw[if_neg h]
def Li{H:Hp}{o u:HO}(h:H a=ap o)(h':H b=ap u)(d:o≠u):a≠b:=by
 intro e;subst e;rw[h]at h';exact d (Option.some.inj h')
def bz{H:Hp}{o:HO}(h:H a=ap o)(h':H b=bm):a≠b:=by
 intro e;subst e;rw[h]at h';cases h'
section
variable(P:sw)(w:tz)
def a6(H:Hp)(h:lm)(a:ce):HO->Prop
 | .lst xs=>xs.length<=sizeLine/\∃(ao:O bn) (n:Nat),Vals xs ao/\h.get? a=ap {cls:=.type "list",data:=.seq ao.toArray n}
 | .tup xs=>xs.length<=sizeLine/\∃ao:O bn,Vals xs ao/\IsTup h a ao.toArray
 | .dK kvs=>kvs.length<=sizeLine/\(a==re)=false/\∃vs,KV kvs vs/\h.DictOf (bG P w) a vs
 | .dT kvs=>kvs.length<=sizeLine/\(a==re)=false/\∃xs:O (O Key×ce×bn),
   Paired (λ(p:O Key×V) (q:O Key×ce×bn)=>p.1=q.1/\H q.2.1=ap (.tup (p.1.map kV))/\RelV p.2 q.2.2) kvs xs/\
   ∃o es ep,h.get? a=ap o/\o.ExactDict/\o.data=.dict es ep/\es.toList=xs.map (entryOfKey (nn (bG P w)))/\(xs.map (·.1)).Nodup
 | .set S n=>h.SetOf (intKind P w) a S n
 | .ins C dx fs=>H dx=ap (.own a)/\fs.length<=1000/\dx≠a/\h.get? a=ap (E5 C dx)/\
   ∃mA,h.Ns1 dx mA/\(∀f,uh (fs.lookup f) (mA f))/\PySem.Within mA (fs.map (·.1))
 | .own _=>∃o,h.get? a=ap o
 | .xd fs=>∃mA,h.Ns1 a mA/\∀f,uh (fs.lookup f) (mA f)
 | .rng lo hi=>∃t u v,h.get? a=ap {cls:=.type "range",data:=.fields #[.int lo t,.int hi u,.int 1 v]}
 | .cq o u=>h.get? a=ap o/\a6 H h a u
 | .WW ps=>h.get? a=ap {cls:=.none,data:=.fields ps}
 | .met f x=>h.get? a=ap (Ep (.ref f) (.ref x))
 | .ext φ=>φ h/\(∃o,h.get? a=ap o)/\∀h1 h2:lm,φ h1->(∀o,h1.get? a=ap o->h2.get? a=ap o)->φ h2
def lY(H:Hp)(h:lm):Prop:=∀a o,H a=ap o->a6 P w H h a o
end
section
variable{H H':Hp}{o:HO}
def a6.lt(x:a6 P w H h a o):a < h.objs.size:=by
 cases o with
 | lst xs=>obtain⟨_,_,_,_,e⟩:=x;exact Au e
 | tup xs=>obtain⟨_,_,_,p⟩:=x;exact p.lt
 | dK kvs=>obtain⟨_,_,_,_,o,_,_,e,_⟩:=x;exact Au e
 | dT kvs=>obtain⟨_,_,_,_,o,_,_,e,_⟩:=x;exact Au e
 | set S n=>obtain⟨o,_,_,_,e,_⟩:=x;exact Au e
 | ins C dx fs=>obtain⟨_,_,_,e,_⟩:=x;exact Au e
 | own y=>obtain⟨_,e⟩:=x;exact Au e
 | xd fs=>obtain⟨_,⟨_,_,_,e,_⟩,_⟩:=x;exact Au e
 | rng lo hi=>obtain⟨_,_,_,e⟩:=x;exact Au e
 | cq ob u=>obtain⟨e,_⟩:=x;exact Au e
 | WW ps=>exact Au (show h.get? a=ap _ from x)
 | met f y=>exact Au (show h.get? a=ap _ from x)
 | ext φ=>obtain⟨_,⟨_,e⟩,_⟩:=x;exact Au e
theorem Paired.Yh{F G:α->β->Prop}:∀{l₁:List α}{l₂:List β},Paired F l₁ l₂->(∀a b,F a b->G a b)->Paired G l₁ l₂
 | _,_,.nil,_=>.nil
 | _,_,.cons r t,f=>.cons (f _ _ r) (Paired.Yh t f)
def a6.wG(x:a6 P w H h a o)(k:∀b u,(b=a\/H b=ap (.own a))->h.get? b=ap u->h'.get? b=ap u)
  (ho:∀b,H b=ap (.own a)->H' b=ap (.own a)) (ht:∀b xs,H b=ap (.tup xs)->H' b=ap (.tup xs)):a6 P w H' h' a o:=by
 induction o with
 | lst xs=>obtain⟨z,ao,n,r,e⟩:=x;exact⟨z,ao,n,r,k _ _ (.inl rfl) e⟩
 | tup xs=>obtain⟨z,ao,r,ob,e,c⟩:=x;exact⟨z,ao,r,ob,k _ _ (.inl rfl) e,c⟩
 | dK kvs=>obtain⟨z,y,vs,r,ob,es,ep,e,c⟩:=x;exact⟨z,y,vs,r,ob,es,ep,k _ _ (.inl rfl) e,c⟩
 | dT kvs=>
  obtain⟨z,y,xs,r,ob,es,ep,e,c⟩:=x;exact⟨z,y,xs,Paired.Yh r λp q z=>⟨z.1,ht _ _ z.2.1,z.2.2⟩,ob,es,ep,k _ _ (.inl rfl) e,c⟩
 | set S n=>obtain⟨ob,es,ep,t,e,c⟩:=x;exact⟨ob,es,ep,t,k _ _ (.inl rfl) e,c⟩
 | ins C dx fs=>
  obtain⟨d,z,ne,e,mA,⟨od,es,ep,e2,c⟩,r⟩:=x;exact⟨ho _ d,z,ne,k _ _ (.inl rfl) e,mA,⟨od,es,ep,k _ _ (.inr d) e2,c⟩,r⟩
 | own y=>obtain⟨ob,e⟩:=x;exact⟨ob,k _ _ (.inl rfl) e⟩
 | xd fs=>obtain⟨mA,⟨od,es,ep,e,c⟩,r⟩:=x;exact⟨mA,⟨od,es,ep,k _ _ (.inl rfl) e,c⟩,r⟩
 | rng lo hi=>obtain⟨t,u,v,e⟩:=x;exact⟨t,u,v,k _ _ (.inl rfl) e⟩
 | cq ob u ih=>obtain⟨e,q⟩:=x;exact⟨k _ _ (.inl rfl) e,ih q⟩
 | WW ps=>
  have e:h.get? a=ap {cls:=.none,data:=.fields ps}:=x;show h'.get? a=ap {cls:=.none,data:=.fields ps};exact k a _ (.inl rfl) e
 | met f y=>
  have e:h.get? a=ap (Ep (.ref f) (.ref y)):=x;show h'.get? a=ap (Ep (.ref f) (.ref y));exact k a _ (.inl rfl) e
 | ext φ=>obtain⟨p,⟨o,e⟩,st⟩:=x;exact⟨st _ _ p λo q=>k _ _ (.inl rfl) q,⟨o,k _ _ (.inl rfl) e⟩,st⟩
def lY.lt(x:lY P w H h)(e:H a=ap o):a < h.objs.size:=(x a o e).lt
def lY.fresh(x:lY P w H h)(e:h.objs.size<=a):H a=bm:=by
 cases q:H a with
 | none=>rfl
 | some u=>exact absurd (AJ (x.lt q) e) (AX _)
def lY.kept(x:lY P w H h)(k:∀b u,h.get? b=ap u->h'.get? b=ap u):lY P w H h':=λa o e=>
 (x a o e).wG (λb u _ q=>k b u q) (λ_ q=>q) λ_ _ q=>q
def lY.laid(x:lY P w H h)(k:∀b u,h.get? b=ap u->h'.get? b=ap u)(hp:h.objs.size<=a)(new:a6 P w (upd H a o) h' a o):lY P w (upd H a o) h':=λb u e=>by
 have hn:=x.fresh hp;by_cases hb:b=a
 ·subst hb;rw[aM]at e;cases e;exact new
 ·rw[aq hb]at e;exact(x b u e).wG (λc v _ q=>k c v q) (λc q=>by rw[aq (bz q hn)];exact q) λc xs q=>by rw[aq (bz q hn)];exact q
end
def Rd(H:Hp)(a:ce)(u:HO):Prop:=H a=ap u\/∃o,H a=ap (.cq o u)
def Rd.ok{H:Hp}{u:HO}(r:Rd H a u)(x:lY P w H h):a6 P w H h a u:=by
 rcases r with r | ⟨o,r⟩
 ·exact x a u r
 ·obtain⟨_,q⟩:=x a _ r;exact q
def Mut:Option HO->Prop
 | some (.lst _)=>True
 | some (.dK _)=>True
 | some (.dT _)=>True
 | some (.set _ _)=>True
 | some (.ins _ _ _)=>True
 | some (.ext _)=>True
 | _=>False
section
variable{H:Hp}{x:ce}{o':HO}
def lY.write(ok:lY P w H h)(mu:Mut (H x))(he:e=x\/H e=ap (.own x))(k:∀b u,b≠e->h.get? b=ap u->h'.get? b=ap u)(ZZ:∃u,h'.get? e=ap u)
  (new:a6 P w (upd H x o') h' x o'):lY P w (upd H x o') h':=λb u q=>by
 have abH:∀c y,H c=ap (.own y)->c≠x:=λc y r z=>by subst z;rw[r]at mu;exact mu
 have afD:∀c xs,H c=ap (.tup xs)->c≠x:=λc xs r z=>by subst z;rw[r]at mu;exact mu
 by_cases hb:b=x
 ·subst hb;rw[aM]at q;cases q;exact new
 ·rw[aq hb]at q;by_cases YV:b=e
  ·have q':H b=ap (.own x):=by
    rcases he with z | z
    ·exact absurd (YV.trans z) hb
    ·rw[YV];exact z
   rw[q]at q';cases q';obtain⟨v,hv⟩:=ZZ;exact⟨v,by rw[YV];exact hv⟩
  ·refine(ok b u q).wG (λc v hc r=>k c v ?_ r) (λc r=>by rw[aq (abH c b r)];exact r) λc xs r=>by rw[aq (afD c xs r)];exact r
   rcases hc with rfl | hc
   ·exact YV
   ·rintro rfl;rcases he with z | z
    ·exact abH c b hc z
    ·rw[hc]at z;cases z;exact hb rfl
end
structure Un(fs ex:List ce)(H H':Hp)(h h':lm):Prop where
 keep:∀b o,h.get? b=ap o->H b=bm->b∉fs->b∉ex->h'.get? b=ap o
 slot:∀b o,h.get? b=ap o->H b=bm->b∈fs->b∉ex->∃sl,h'.get? b=ap {o with slots:=sl}
 free:∀b o,h.get? b=ap o->H b=bm->b∉ex->H' b=bm
 there:∀b o,h.get? b=ap o->b∉ex->∃o',h'.get? b=ap o'
 d7:∀b xs,H b=ap (.tup xs)->H' b=ap (.tup xs)
 tD:∀b o u,H b=ap (.cq o u)->H' b=ap (.cq o u)
 wC:∀b ps,H b=ap (.WW ps)->∃more,H' b=ap (.WW (ps++more))
section
variable{fs ex:O ce}{H H1:Hp}{h1:lm}{x:ce}{o:HO}
def Un.any(u:Un fs ex H H1 h h1)(q:h.get? b=ap ob)(n:H b=bm)(hx:b∉ex):∃sl,h1.get? b=ap {ob with slots:=sl}:=by
 by_cases hb:b∈fs
 ·exact u.slot b ob q n hb hx
 ·exact⟨ob.slots,u.keep b ob q n hb hx⟩
def Un.kept(k:∀b u,h.get? b=ap u->h'.get? b=ap u):Un fs ex H H h h':=
 ⟨λb ob q _ _ _=>k b ob q,λb ob q _ _ _=>⟨ob.slots,k b ob q⟩,λ_ _ _ n _=>n,λb ob q _=>⟨ob,k b ob q⟩,λ_ _ q=>q,λ_ _ _ q=>q,λ_ ps q=>⟨#[],by rw[q];simp⟩⟩
def Un.refl:Un fs ex H H h h:=Un.kept λ_ _ q=>q
def Un.laid(k:∀b u,h.get? b=ap u->h'.get? b=ap u)(hp:h.objs.size<=a)(hn:H a=bm):Un fs ex H (upd H a o) h h' where
 keep:=λb u q _ _ _=>k b u q
 slot:=λb u q _ _ _=>⟨u.slots,k b u q⟩
 free:=λb u q n _=>by rw[aq (AB (AJ (Au q) hp))];exact n
 there:=λb u q _=>⟨u,k b u q⟩
 d7:=λb xs q=>by rw[aq (bz q hn)];exact q
 tD:=λb u xs q=>by rw[aq (bz q hn)];exact q
 wC:=λb ps q=>⟨#[],by rw[aq (bz q hn),q];simp⟩
def Un.write(mu:Mut (H x))(he:e=x\/H e=ap (.own x))(k:∀b u,b≠e->h.get? b=ap u->h'.get? b=ap u)(ZZ:∃u,h'.get? e=ap u):Un fs ex H (upd H x o) h h':=by
 have hx:∀b,H b=bm->b≠x:=λb n z=>by subst z;rw[n]at mu;exact mu
 have hb:∀b,H b=bm->b≠e:=λb n z=>by
  subst z;rcases he with r | r
  ·exact hx b n r
  ·rw[n]at r;cases r
 have hm:∀b u,H b=ap u->¬Mut (ap u)->b≠x:=λb u q nm z=>by subst z;rw[q]at mu;exact nm mu
 refine⟨λb u q n _ _=>k b u (hb b n) q,λb u q n _ _=>⟨u.slots,k b u (hb b n) q⟩,λb u q n _=>by rw[aq (hx b n)];exact n,λb u q _=>?_,
  λb xs q=>by rw[aq (hm b _ q λz=>z)];exact q,λb u xs q=>by rw[aq (hm b _ q λz=>z)];exact q,λb ps q=>⟨#[],by rw[aq (hm b _ q λz=>z),q];simp⟩⟩
 by_cases YV:b=e
 ·subst YV;exact ZZ
 ·exact⟨u,k b u YV q⟩
end
def trk(h:lm)(H:Hp):O ce:=(AL h.objs.size).filter λa=>(H a).isSome
def xQ(h:lm)(H:Hp):lm:=PySem.W.hideAll h (trk h H)
def Ni(h:lm)(H:Hp):(xQ h H).objs.size=h.objs.size:=PySem.W.hideAll_size _ _
def QI{H:Hp}{o:Obj}(e:h.get? b=ap o)(n:H b=bm):(xQ h H).get? b=ap o:=
 PySem.W.hideAll_get _ e λhm=>by
  have q:=(Bd.mp hm).2;rw[n]at q;simp at q
def TU{H:Hp}{o:Obj}(e:(xQ h H).get? b=ap o):h.get? b=ap o/\H b=bm:=by
 have e':=PySem.W.of_hideAll (trk h H) e;refine⟨e',?_⟩;cases q:H b with
 | none=>rfl
 | some x=>
  have hm:b∈trk h H:=Bd.mpr ⟨A5.mpr (Au e'),by simp[q]⟩;have z:(xQ h H).get? b=bm:=PySem.W.hideAll_none (trk h H) hm;rw[z]at e;cases e
def Vq(g h:lm)(L:ce):O (ce×Obj):=(AL h.objs.size).filterMap λa=>if a=L\/(g.get? a).isSome=true then bm else (h.get? a).map λo=>(a,o)
def rest(g h:lm)(L d:ce):O (ce×Obj):=(Vq g h L).filter λp=>decide (p.1≠d)
end L2
variable{H H':L2.Hp}{o:FW}{Z:O (BD×FW)}{s s':D3}{g':Array PySem.GenState}{ch:O BD}{it:BD}{i j:Nat}{M:PySem.Model}{A:PySem.Around}{E:A6->D3->Prop}{v:L2.V}{Q:Unit->D3->Prop}
namespace L2
structure Mod(K:Ab)(mg:Str->Option bn)(base:lm):Prop where
 kin:K.In base
 glob:base.Ns f8 mg
 blt:∃mb,base.Ns builtinsNs mb/\∀x:Str,x≠"__name__"->mb x=lw x
 nolimit:base.NoLimit
structure Cx where
 prog:sw
 w:tz
 K:Ab
 mg:Str->Option bn
 base:lm
 A:u8
 N:List Str
 s₀:cr
 H₀:Hp
 env:Env
 outer:List Env
 stack:List Env
 ex:List ce
 fn:Str->Bool
 calm:Bool
 pn:List (ce×Obj)
 xe:bn->cr->Prop
abbrev jh(x:Str):Prop:=(x==("__debug__":Str))=false
abbrev HI(x:Str):Prop:=(x==("__classdict__":Str))=false
abbrev gZ(X:Cx)(e:kw)(es:O kw):Prop:=ga (e::es) X.env=(false,lf e X.env)::ga es X.env
abbrev lF(X:Cx)(p:Pos)(es:O kw):Prop:=(ut p (ga es X.env)).any (·.1)=false
abbrev um(X:Cx)(e:kw):Prop:=∀x,foldedSetIterable e X.env x=pure x
abbrev ZL(X:Cx)(p:Pos)(l:O kw):Prop:=((ut p (ga l X.env)).all (λx=>!x.1)&&(backToKw p (keywordEach [] X.env)).all (λx=>x.1.isSome)&&decide (l.length+([]:O Keyword).length+(if ([]:O Keyword).isEmpty then 0 else 1) < 30))=true
abbrev Sl(p q:Pos):Prop:=(p.endLine==q.line)=true
abbrev Oc(X:Cx)(y:Str):Prop:=X.fn y=true\/X.env.scope.names.lookup y=ap .local
def Oa(l:O Env):O ce:=l.filterMap (·.frame)
abbrev Cx.fs(X:Cx):O ce:=Oa X.outer
def zx(sc:nw)(x:Str):Prop:=sc.names.lookup x=ap .local\/sc.names.lookup x=ap .cell\/sc.names.lookup x=ap .free
def Loc(sc:nw)(x:Str):Prop:=sc.names.lookup x=ap .local\/sc.names.lookup x=ap .cell
def Look(env:Env)(h:lm)(m:Str->Option bn)(x:Str)(u:bn):Prop:=
 (env.kindOf x=ap .local/\m x=ap u)\/((env.kindOf x=ap .cell\/env.kindOf x=ap .free)/\∃c,env.cells.lookup x=ap c/\h.IsCell c (ap u))
structure Cx.Ok(X:Cx):Prop where
 mod:Mod X.K X.mg X.base
 kind:X.env.scope.kind=.function
 glob:X.env.globals=f8
 blt:X.env.builtins=builtinsNs
 above:X.s₀.heap.objs.size<=X.env.locals
 inj:∀x y c,X.env.cells.lookup x=ap c->X.env.cells.lookup y=ap c->x=y
 has:∀x,(X.env.kindOf x=ap .cell\/X.env.kindOf x=ap .free)->∃c,X.env.cells.lookup x=ap c
 cab:∀x c,X.fn x=true->X.env.cells.lookup x=ap c->X.s₀.heap.objs.size<=c
 hd:X.calm=true->X.A.handled=bm
 frames:X.A.frames=ap X.stack
 stk:X.stack=X.outer\/(X.stack=X.env::X.outer/\X.env.frame=ap X.env.locals)
 exf:∀b∈X.ex,b≠X.env.locals/\∀x c,X.env.cells.lookup x=ap c->c≠b
 bs:∀b o,X.base.get? b=ap o->X.s₀.heap.get? b=ap o/\X.H₀ b=bm
 WC:X.base.objs.size<=X.s₀.heap.objs.size
 PR:∀b o,X.base.get? b=ap o->b∉X.ex
 Q6:∀b∈X.ex,b∉X.fs
 tB:X.s₀.heap.FunFrames X.base X.outer
 Z2:∀b∈X.fs,X.H₀ b=bm
structure Inv(X:Cx)(Z:List (ce×Obj))(σ:List (Option V))(H:Hp)(s:cr):Prop where
 ok:X.Ok
 os:s.os=X.s₀.os
 bare:FB s.gens
 base:Un X.fs X.ex X.H₀ H X.s₀.heap s.heap
 loc:∃m,s.heap.Ns X.env.locals m/\∀(i:Nat) (x:Str) (v:V),X.N[i]?=ap x->σ[i]?=ap (ap v)->zx X.env.scope x->∃u,RelV v u/\Look X.env s.heap m x u
 cell:∀x c,X.env.cells.lookup x=ap c->∃v,s.heap.IsCell c v
 free:H X.env.locals=bm
 kj:∀x c,X.env.cells.lookup x=ap c->H c=bm
 pin:∀p∈X.pn++Z,s.heap.get? p.1=ap p.2/\H p.1=bm/\p.1≠X.env.locals/\p.1∉X.fs/\∀v,p.2.data≠.cell v
 br:lY X.prog X.w H s.heap
 len:σ.length=X.N.length
section
variable{X:Cx}{σ:O (Option V)}
def Cx.Ok.afF(ok:X.Ok)(e:X.base.get? b=ap o):b∉X.fs:=λhb=>by
 have:=(ok.tB.mem hb).1;rw[e]at this;cases this
def Inv.bs(I:Inv X Z σ H s):∀b o,X.base.get? b=ap o->s.heap.get? b=ap o/\H b=bm:=λb o e=>
 ⟨I.base.keep b o (I.ok.bs b o e).1 (I.ok.bs b o e).2 (I.ok.afF e) (I.ok.PR b o e),I.base.free b o (I.ok.bs b o e).1 (I.ok.bs b o e).2 (I.ok.PR b o e)⟩
def Inv.bk(I:Inv X Z σ H s):∀b o,X.base.get? b=ap o->s.heap.get? b=ap o:=λb o e=>(I.bs b o e).1
def Inv.mod(I:Inv X Z σ H s):Mod X.K X.mg X.base:=I.ok.mod
def Inv.vE(I:Inv X Z σ H s):X.K.In s.heap:=I.ok.mod.kin.keeps I.bk
def Inv.lt(I:Inv X Z σ H s):X.env.locals < s.heap.objs.size:=let ⟨_,hn,_⟩:=I.loc;hn.lt
def Inv.sz(I:Inv X Z σ H s):X.s₀.heap.objs.size<=s.heap.objs.size:=Bv I.ok.above (D4 I.lt)
def Inv.afE(I:Inv X Z σ H s)(h:s.heap.objs.size<=a):a∉X.fs:=λhb=>by
 obtain⟨_,o,ho,_⟩:=I.ok.tB.mem hb;exact absurd (AJ (Au ho) (Bv I.sz h)) (AX _)
def Inv.Zs(I:Inv X Z σ H s):∀x c,X.env.cells.lookup x=ap c->c≠X.env.locals:=λx c e z=>by
 obtain⟨v,o,ho,hd⟩:=I.cell x c e;obtain⟨m,⟨o',es,ep,YQ,Ł,_⟩,_⟩:=I.loc;rw[z,YQ]at ho;cases ho;rw[Ł]at hd;cases hd
def Inv.tB(I:Inv X Z σ H s):s.heap.FunFrames X.base X.outer:=by
 have all:∀(l:O Env),(∀b∈Oa l,b∈X.fs)->X.s₀.heap.FunFrames X.base l->s.heap.FunFrames X.base l:=by
  intro l
  induction l with
  | nil=>intro _ _;trivial
  | cons env r ih=>
   intro hs hl;obtain⟨hk,⟨L,o,hf,hn,ho,hd⟩,hr⟩:=hl;have hL:=hs L (by unfold Oa;rw[A9,hf];exact Bu);obtain⟨sl,e⟩:=I.base.slot L o ho (I.ok.Z2 L hL) hL λz=>I.ok.Q6 L z hL;exact⟨hk,⟨L,_,hf,hn,e,hd⟩,ih (λb hb=>hs b (by unfold Oa;rw[A9,hf];exact AZ _ hb)) hr⟩
 exact all X.outer (λ_ hb=>hb) I.ok.tB
def Inv.stack(I:Inv X Z σ H s):s.heap.FunFrames X.base X.stack:=by
 rcases I.ok.stk with e | ⟨e,hf⟩
 ·rw[e];exact I.tB
 ·rw[e];obtain⟨m,hn,_⟩:=I.loc;refine .cons (by rw[I.ok.kind];decide) hf hn ?_ I.tB;exact Heap.get?_none_of_le (Bv I.ok.WC I.ok.above)
def Inv.Ib(I:Inv X Z σ H s):∀b∈Oa X.stack,b∈X.env.locals::X.fs:=λb hb=>by
 rcases I.ok.stk with e | ⟨e,hf⟩
 ·rw[e]at hb;exact AZ _ hb
 ·rw[e]at hb;unfold Oa at hb;rw[A9,hf]at hb;exact hb
def Inv.KD(I:Inv X Z σ H s):∀b∈Oa X.stack,H b=bm:=λb hb=>by
 rcases Ax.mp (I.Ib b hb) with e | hb
 ·rw[e];exact I.free
 ·obtain⟨_,o,ho,_⟩:=I.ok.tB.mem hb;exact I.base.free b o ho (I.ok.Z2 b hb) λz=>I.ok.Q6 b z hb
def Inv.step{t':Nat}{d':Drawn}(I:Inv X Z σ H s)
  (Se:∀b∈ch,(b∈X.ex\/X.s₀.heap.objs.size<=b)/\b≠X.env.locals/\(∀x c,X.env.cells.lookup x=ap c->c≠b)/\∀p∈X.pn++Z,p.1≠b)
  (keep:∀b o,b≠X.env.locals->b∉X.fs->b∉ch->s.heap.get? b=ap o->H b=bm->h'.get? b=ap o)
  (slot:∀b o,b≠X.env.locals->b∈X.fs->b∉ch->s.heap.get? b=ap o->H b=bm->∃sl,h'.get? b=ap {o with slots:=sl}) (free:∀b o,b∉ch->s.heap.get? b=ap o->H b=bm->H' b=bm)
  (there:∀b o,b∉ch->s.heap.get? b=ap o->∃o',h'.get? b=ap o')
  (d7:∀b xs,H b=ap (.tup xs)->H' b=ap (.tup xs)) (tD:∀b o u,H b=ap (.cq o u)->H' b=ap (.cq o u)) (wC:∀b ps,H b=ap (.WW ps)->∃more,H' b=ap (.WW (ps++more)))
  (ns:∀m,s.heap.Ns X.env.locals m->h'.Ns X.env.locals m) (br:lY X.prog X.w H' h') (hg:FB g') :
  Inv X Z σ H' {s with heap:=h',gens:=g',drawn:=d',toks:=t'}:=by
 have neL:∀b o,X.s₀.heap.get? b=ap o->b≠X.env.locals:=λb o e=>AB (AJ (Au e) I.ok.above);have Ď:∀b o,X.s₀.heap.get? b=ap o->b∉X.ex->b∉ch:=λb o e hx hb=>by
  rcases (Se b hb).1 with z | z
  ·exact hx z
  ·exact absurd (AJ (Au e) z) (AX _)
 have Þ:∀x c,X.env.cells.lookup x=ap c->∀v,s.heap.IsCell c v->h'.IsCell c v:=λx c e v ⟨o,ho,hd⟩=>by
  have ò:c∉ch:=λz=>(Se c z).2.2.1 x c e rfl;by_cases hc:c∈X.fs
  ·obtain⟨sl,q⟩:=slot c o (I.Zs x c e) hc ò ho (I.kj x c e);exact⟨_,q,hd⟩
  ·exact⟨o,keep c o (I.Zs x c e) hc ò ho (I.kj x c e),hd⟩
 refine⟨I.ok,I.os,hg,⟨λb o e n hb hx=>?_,λb o e n hb hx=>?_,λb o e n hx=>?_,λb o e hx=>?_,λb xs e=>d7 b xs (I.base.d7 b xs e),λb o xs e=>tD b o xs (I.base.tD b o xs e),λb ps e=>?_⟩,?_,λx c e=>?_,?_,λx c e=>?_,λp hp=>?_,br,I.len⟩
 ·exact keep b o (neL b o e) hb (Ď b o e hx) (I.base.keep b o e n hb hx) (I.base.free b o e n hx)
 ·obtain⟨sl,e1⟩:=I.base.slot b o e n hb hx;obtain⟨sl',e2⟩:=slot b _ (neL b o e) hb (Ď b o e hx) e1 (I.base.free b o e n hx);exact⟨sl',e2⟩
 ·obtain⟨o',e1⟩:=I.base.there b o e hx;exact free b o' (Ď b o e hx) e1 (I.base.free b o e n hx)
 ·obtain⟨o',e1⟩:=I.base.there b o e hx;exact there b o' (Ď b o e hx) e1
 ·obtain⟨m1,e1⟩:=I.base.wC b ps e;obtain⟨m2,e2⟩:=wC b _ e1;exact⟨m1++m2,by rw[e2,Array.append_assoc]⟩
 ·obtain⟨m,hn,hl⟩:=I.loc;refine⟨m,ns m hn,λi x v e1 e2 e3=>?_⟩;obtain⟨u,r,l⟩:=hl i x v e1 e2 e3;refine⟨u,r,?_⟩;rcases l with l | ⟨k,c,e,z⟩
  ·exact .inl l
  ·exact .inr ⟨k,c,e,Þ x c e _ z⟩
 ·obtain⟨v,z⟩:=I.cell x c e;exact⟨v,Þ x c e v z⟩
 ·obtain⟨m,⟨o,_,_,ho,_⟩,_⟩:=I.loc;exact free _ o (λz=>(Se _ z).2.1 rfl) ho I.free
 ·obtain⟨v,o,ho,hd⟩:=I.cell x c e;exact free c o (λz=>(Se c z).2.2.1 x c e rfl) ho (I.kj x c e)
 ·obtain⟨e,n,ne,nf,d⟩:=I.pin p hp;have ò:p.1∉ch:=λz=>(Se p.1 z).2.2.2 p hp rfl;exact⟨keep p.1 p.2 ne nf ò e n,free p.1 p.2 ò e n,ne,nf,d⟩
def Inv.un{t':Nat}(I:Inv X Z σ H s)(u:Un X.fs [] H H' s.heap h')(br:lY X.prog X.w H' h'):Inv X Z σ H' {s with heap:=h',toks:=t'}:=by
 obtain⟨m,⟨o,es,ep,ho,r⟩,_⟩:=id I.loc;obtain⟨sl,hL⟩:=u.any ho I.free (by simp);exact I.step (g':=s.gens) (d':=s.drawn) (ch:=[]) (λ_ z=>nomatch z) (λb o _ hb _ e n=>u.keep b o e n hb (by simp)) (λb o _ hb _ e n=>u.slot b o e n hb (by simp)) (λb o _ e n=>u.free b o e n (by simp)) (λb o _ e=>u.there b o e (by simp)) u.d7 u.tD u.wC (λm' hm=>by
  obtain⟨o',Ĝ,ĝ,YQ,r'⟩:=hm;rw[ho]at YQ;cases YQ;exact⟨_,Ĝ,ĝ,hL,r'⟩) br I.bare
def Inv.call{t':Nat}{d':Drawn}(I:Inv X Z σ H s)(u:Un (Oa X.stack) ch H H' s.heap h')(br:lY X.prog X.w H' h')(hg:FB g')
  (Se:∀b∈ch,(b∈X.ex\/X.s₀.heap.objs.size<=b)/\b≠X.env.locals/\(∀x c,X.env.cells.lookup x=ap c->c≠b)/\∀p∈X.pn++Z,p.1≠b) :
  Inv X Z σ H' {s with heap:=h',gens:=g',drawn:=d',toks:=t'}:=by
 obtain⟨m,⟨o,es,ep,ho,r⟩,_⟩:=id I.loc;obtain⟨sl,hL⟩:=u.any ho I.free λz=>(Se _ z).2.1 rfl;exact I.step (ch:=ch) Se (λb o hL hb hc e n=>u.keep b o e n (λz=>(Ax.mp (I.Ib b z)).elim hL hb) hc) (λb o _ _ hc e n=>u.any e n hc) (λb o hc e n=>u.free b o e n hc) (λb o hc e=>u.there b o e hc) u.d7 u.tD u.wC (λm' hm=>by
  obtain⟨o',Ĝ,ĝ,YQ,r'⟩:=hm;rw[ho]at YQ;cases YQ;exact⟨_,Ĝ,ĝ,hL,r'⟩) br hg
def Inv.turned{t':Nat}(I:Inv X Z σ H s)(k:∀b o,b≠it->s.heap.get? b=ap o->h'.get? b=ap o)(hn:H it=bm)(hL:it≠X.env.locals)
  (h1:it∈X.ex\/X.s₀.heap.objs.size<=it) (h2:∀x c,X.env.cells.lookup x=ap c->c≠it) (h3:∀p∈X.pn++Z,p.1≠it):Inv X Z σ H {s with heap:=h',toks:=t'}:=by
 have VY:∀b u,H b=ap u->b≠it:=λb u e z=>by rw[z,hn]at e;cases e
 refine I.step (g':=s.gens) (d':=s.drawn) (ch:=[it]) (λb hb=>?_) (λb o _ _ hc e _=>k b o (λz=>hc (by simp[z])) e) (λb o _ _ hc e _=>⟨o.slots,k b o (λz=>hc (by simp[z])) e⟩) (λ_ _ _ _ n=>n)
  (λb o hc e=>⟨o,k b o (λz=>hc (by simp[z])) e⟩) (λ_ _ e=>e) (λ_ _ _ e=>e) (λb ps e=>⟨#[],by rw[e];simp⟩) (λm hm=>?_) (λb u e=>?_) I.bare
 ·have e:b=it:=by simpa using hb
  subst e;exact⟨h1,hL,h2,h3⟩
 ·obtain⟨o,es,ep,ho,r⟩:=hm;exact⟨o,es,ep,k _ o (Bx hL) ho,r⟩
 ·refine(I.br b u e).wG (λc v hc q=>k c v ?_ q) (λ_ q=>q) λ_ _ q=>q;rcases hc with z | z
  ·rw[z];exact VY b u e
  ·exact VY c _ z
def Inv.tok(I:Inv X Z σ H s)(t:Nat):Inv X Z σ H {s with toks:=t}:=I.un (h':=s.heap) (t':=t) Un.refl I.br
def Inv.kept{t':Nat}(I:Inv X Z σ H s)(k:∀b u,s.heap.get? b=ap u->h'.get? b=ap u):Inv X Z σ H {s with heap:=h',toks:=t'}:=I.un (Un.kept k) (I.br.kept k)
def Inv.laid{o:HO}{t':Nat}(I:Inv X Z σ H s)(k:∀b u,s.heap.get? b=ap u->h'.get? b=ap u)(hp:s.heap.objs.size<=a)(new:a6 X.prog X.w (upd H a o) h' a o) :
  Inv X Z σ (upd H a o) {s with heap:=h',toks:=t'}:=I.un (Un.laid k hp (I.br.fresh hp)) (I.br.laid k hp new)
def Inv.write{x:ce}{o:HO}{t':Nat}(I:Inv X Z σ H s)(mu:Mut (H x))(he:e=x\/H e=ap (.own x))(k:∀b u,b≠e->s.heap.get? b=ap u->h'.get? b=ap u)(ZZ:∃u,h'.get? e=ap u)
  (new:a6 X.prog X.w (upd H x o) h' x o):Inv X Z σ (upd H x o) {s with heap:=h',toks:=t'}:=I.un (Un.write mu he k ZZ) (I.br.write mu he k ZZ new)
def Inv.K2{z9:O (ce×Obj)}(I:Inv X Z σ H s)(h:∀p∈z9,s.heap.get? p.1=ap p.2/\H p.1=bm/\p.1≠X.env.locals/\p.1∉X.fs/\∀v,p.2.data≠.cell v):Inv X z9 σ H s:=
 ⟨I.ok,I.os,I.bare,I.base,I.loc,I.cell,I.free,I.kj,λp hp=>(AE.mp hp).elim (λz=>I.pin p (Fx _ z)) (h p),I.br,I.len⟩
def Ge{N:O Str}(hN:N.Nodup){x:Str}(a:N[i]?=ap x)(b:N[j]?=ap x):i=j:=by
 obtain⟨h1,e1⟩:=Ak.mp a;obtain⟨h2,e2⟩:=Ak.mp b;exact(List.getElem_inj hN).mp (e1.trans e2.symm)
def vd{x:Str}(I:Inv X Z σ H s)(hN:X.N.Nodup)(hi:X.N[i]?=ap x)(hx:Loc X.env.scope x)(r:RelV v u)
  (h:∀s',Inv X Z (σ.set i (ap v)) H s'->(∃a,Cc a s.heap s'.heap/\(a=X.env.locals\/X.env.cells.lookup x=ap a))->Q () s') (hf:Oc X x:=by first | exact .inl rfl | exact .inr rfl | assumption):db M A (storeName X.env x u) Q E s:=by
 obtain⟨m,hn,hl⟩:=id I.loc;have agx:(X.env.scope.kind==.class||(X.env.scope.kind==.module&&X.env.locals != X.env.globals))=false:=by rw[I.ok.kind];rfl
 have acn:i < σ.length:=by rw[I.len];exact(Ak.mp hi).1
 have Zs:=I.Zs;have Ï:∀{a:ce}{h':lm},(∃o,s.heap.get? a=ap o/\H a=bm)->Cc a s.heap h'->lY X.prog X.w H h':=λ{a h'} ha hs b ob e=>by
  obtain⟨_,_,Wj⟩:=ha;refine(I.br b ob e).wG (λc w' hc q=>(hs.2 c ?_).trans q) (λ_ q=>q) λ_ _ q=>q;rintro rfl;rcases hc with rfl | hc
  ·rw[Wj]at e;cases e
  ·rw[Wj]at hc;cases hc
 rcases hx with hk | hk
 ·refine wpAny_storeName_local hk hn (λh' hn' hs=>?_) agx;obtain⟨oL,_,_,ė,_⟩:=id hn;refine h _ ⟨I.ok,I.os,I.bare,⟨λb o e n hb hx=>?_,λb o e n hb hx=>?_,I.base.free,λb o e hx=>?_,I.base.d7,I.base.tD,I.base.wC⟩,⟨_,hn',λj y v' e1 e2 e3=>?_⟩,λy c e=>?_,I.free,I.kj,λp hp=>?_,Ï ⟨oL,ė,I.free⟩ hs,by simpa using I.len⟩ ⟨_,hs,.inl rfl⟩
  ·exact(hs.2 b (AB (AJ (Au e) I.ok.above))).trans (I.base.keep b o e n hb hx)
  ·obtain⟨sl,e1⟩:=I.base.slot b o e n hb hx;exact⟨sl,(hs.2 b (AB (AJ (Au e) I.ok.above))).trans e1⟩
  ·obtain⟨o',e1⟩:=I.base.there b o e hx;exact⟨o',(hs.2 b (AB (AJ (Au e) I.ok.above))).trans e1⟩
  ·by_cases hj:j=i
   ·subst hj;rw[hi]at e1;cases e1;rw[CG acn]at e2;cases e2;exact⟨u,r,.inl ⟨hk,by simp⟩⟩
   ·rw[B3 (Bx hj)]at e2;obtain⟨u',r',q⟩:=hl j y v' e1 e2 e3;refine⟨u',r',?_⟩;rcases q with⟨k,e⟩ | ⟨k,c,e,z⟩
    ·refine .inl ⟨k,?_⟩;have:y≠x:=λe=>hj (Ge hN e1 (e▸hi));simp[this,e]
    ·exact .inr ⟨k,c,e,z.sameBut hs (Zs y c e)⟩
  ·obtain⟨w',z⟩:=I.cell y c e;exact⟨w',z.sameBut hs (Zs y c e)⟩
  ·obtain⟨e,n,ne,nf,d⟩:=I.pin p hp;exact⟨(hs.2 p.1 ne).trans e,n,ne,nf,d⟩
 ·have ý:X.fn x=true:=by
   rcases hf with z | z
   ·exact z
   ·rw[z]at hk;cases hk
  obtain⟨c,hc⟩:=I.ok.has x (.inl hk);obtain⟨w',z⟩:=I.cell x c hc;refine wpAny_storeName_cell I.ok.kind hk hc z (λh' Z1 hs=>?_);obtain⟨oc,hoc,agi⟩:=id z;refine h {s with heap:=h'} ⟨I.ok,I.os,I.bare,⟨λb o e n hb hx=>?_,λb o e n hb hx=>?_,I.base.free,λb o e hx=>?_,I.base.d7,I.base.tD,I.base.wC⟩,⟨m,hn.sameBut hs (Bx (Zs x c hc)),λj y v' e1 e2 e3=>?_⟩,λy c' e=>?_,I.free,I.kj,λp hp=>?_,Ï ⟨oc,hoc,I.kj x c hc⟩ hs,by simpa using I.len⟩ ⟨c,hs,.inr hc⟩
  ·exact(hs.2 b (AB (AJ (Au e) (I.ok.cab x c ý hc)))).trans (I.base.keep b o e n hb hx)
  ·obtain⟨sl,e1⟩:=I.base.slot b o e n hb hx;exact⟨sl,(hs.2 b (AB (AJ (Au e) (I.ok.cab x c ý hc)))).trans e1⟩
  ·obtain⟨o',e1⟩:=I.base.there b o e hx;exact⟨o',(hs.2 b (AB (AJ (Au e) (I.ok.cab x c ý hc)))).trans e1⟩
  ·by_cases hj:j=i
   ·subst hj;rw[hi]at e1;cases e1;rw[CG acn]at e2;cases e2;exact⟨u,r,.inr ⟨.inl hk,c,hc,Z1⟩⟩
   ·rw[B3 (Bx hj)]at e2;obtain⟨u',r',q⟩:=hl j y v' e1 e2 e3;refine⟨u',r',?_⟩;rcases q with q | ⟨k,c',e,z'⟩
    ·exact .inl q
    ·refine .inr ⟨k,c',e,z'.sameBut hs ?_⟩;rintro rfl;exact hj (Ge hN e1 (I.ok.inj _ _ _ e hc▸hi))
  ·by_cases hcc:c'=c
   ·subst hcc;exact⟨_,Z1⟩
   ·obtain⟨w2,z2⟩:=I.cell y c' e;exact⟨w2,z2.sameBut hs hcc⟩
  ·obtain⟨e,n,ne,nf,d⟩:=I.pin p hp;refine⟨(hs.2 p.1 ?_).trans e,n,ne,nf,d⟩;intro q;rw[q,hoc]at e;have q':oc=p.2:=Option.some.inj e;exact d w' (by rw[<- q'];exact agi)
def nh{x:Str}(I:Inv X Z σ H s)(hN:X.N.Nodup)(hi:X.N[i]?=ap x)(hx:Loc X.env.scope x)(r:RelV v u)
  (h:∀s',Inv X Z (σ.set i (ap v)) H s'->Q () s') (hf:Oc X x:=by first | exact .inl rfl | exact .inr rfl | assumption):db M A (storeName X.env x u) Q E s:=
 vd I hN hi hx r (λs' I' _=>h s' I') hf
def Inv.ada(I:Inv X Z σ H s)(ho:s'.os=s.os)(u:Un (Oa X.stack) ch H H' s.heap s'.heap)(br:lY X.prog X.w H' s'.heap)(hg:FB s'.gens)
  (Se:∀b∈ch,(b∈X.ex\/X.s₀.heap.objs.size<=b)/\b≠X.env.locals/\(∀x c,X.env.cells.lookup x=ap c->c≠b)/\∀p∈X.pn++Z,p.1≠b):Inv X Z σ H' s':=by
 obtain⟨h',g',d',t',o'⟩:=s';have e:o'=s.os:=ho;subst e;exact I.call (g':=g') (t':=t') (d':=d') u br hg Se
end
abbrev XK:=bn->Option ce->Hp->Prop
abbrev St:=O (Option V)
abbrev VK:=V->Hp->Prop
abbrev TE:=St->Hp->VK->Prop
abbrev TT:=St->Hp->(Bool->Hp->Prop)->Prop
abbrev TA:=St->Hp->(O V->Hp->Prop)->Prop
structure Ends where
 nx:St->Hp->Prop
 rt:VK
 bk:St->Hp->Prop:=λ_ _=>False
 ct:St->Hp->Prop:=λ_ _=>False
abbrev TS:=Ends->St->Hp->Prop
def EP(X:Cx)(Z:O (ce×Obj))(σ:St)(Q:VK)(u:bn)(s':cr):Prop:=∃v H',Inv X Z σ H' s'/\RelV v u/\Q v H'
def TP(X:Cx)(Z:O (ce×Obj))(σ:St)(Q:Bool->Hp->Prop)(b:Bool)(s':cr):Prop:=∃H',Inv X Z σ H' s'/\Q b H'
def AP(X:Cx)(Z:O (ce×Obj))(σ:St)(Q:O V->Hp->Prop)(us:O bn)(s':cr):Prop:=∃vs H',Inv X Z σ H' s'/\Vals vs us/\Q vs H'
def SP(X:Cx)(Z:O (ce×Obj))(D:Ends)(f:Flow)(s':cr):Prop:=
 match f with
 | .next=>∃σ' H',Inv X Z σ' H' s'/\D.nx σ' H'
 | .brk=>∃σ' H',Inv X Z σ' H' s'/\D.bk σ' H'
 | .cont=>∃σ' H',Inv X Z σ' H' s'/\D.ct σ' H'
 | .ret u=>∃v σ' H',Inv X Z σ' H' s'/\RelV v u/\D.rt v H'
def PE(X:Cx)(e:kw)(t:TE):Prop:=
 ∀(Z:O (ce×Obj)) (s:cr) (σ:St) (H:Hp) (Q:VK),Inv X Z σ H s->t σ H Q->db (ev X.prog X.w) X.A (lf e X.env) (EP X Z σ Q) X.xe s
def PT(X:Cx)(e:kw)(t:TT):Prop:=
 ∀(Z:O (ce×Obj)) (s:cr) (σ:St) (H:Hp) (Q:Bool->Hp->Prop),Inv X Z σ H s->t σ H Q->db (ev X.prog X.w) X.A (isTrue e X.env (lf e X.env)) (TP X Z σ Q) X.xe s
def PW(X:Cx)(e:kw)(t:TT):Prop:=
 ∀(Å:Sem bn) (Z:O (ce×Obj)) (s:cr) (σ:St) (H:Hp) (Q:Bool->Hp->Prop),Inv X Z σ H s->t σ H Q->db (ev X.prog X.w) X.A (isTrue e X.env Å) (TP X Z σ Q) X.xe s
def PW.pt{X:Cx}{e:kw}{t:TT}(h:PW X e t):PT X e t:=h _
def PA(X:Cx)(es:O kw)(t:TA):Prop:=
 ∀(pos:Pos) (Z:O (ce×Obj)) (s:cr) (σ:St) (H:Hp) (Q:O V->Hp->Prop),Inv X Z σ H s->t σ H Q->db (ev X.prog X.w) X.A (spliced (ut pos (ga es X.env))) (AP X Z σ Q) X.xe s
def PS(X:Cx)(st:ss)(t:TS):Prop:=
 ∀(Z:O (ce×Obj)) (s:cr) (σ:St) (H:Hp) (D:Ends),Inv X Z σ H s->t D σ H->db (ev X.prog X.w) X.A (exec st X.env) (SP X Z D) X.xe s
def rE(X:Cx)(st:O ss)(t:TS):Prop:=
 ∀(Z:O (ce×Obj)) (s:cr) (σ:St) (H:Hp) (D:Ends),Inv X Z σ H s->t D σ H->db (ev X.prog X.w) X.A (execs st X.env) (SP X Z D) X.xe s
def bV{t:Sem α}{Q Q':α->cr->Prop}(h:db M A t Q E s)(hQ:∀a s,Q a s->Q' a s):db M A t Q' E s:=BL h hQ λ_ _ x=>x
end L2
variable{x:B7}{a:BX}{X:L2.Cx}{σ:L2.St}{Q:A6->D3->Prop}{ta tb:L2.TE}{R:L2.V->L2.V->L2.Hp->Prop}{pos:Cd}
namespace L2
section
def bin{b:kw}(ha:PE X a ta)(hb:PE X b tb)(I:Inv X Z σ H s)(h:ta σ H λx H1=>tb σ H1 λy H2=>R x y H2){Q:α->cr->Prop}{f:bn->bn->Sem α}
  (hf:∀v u s2 x y H2,Inv X Z σ H2 s2->RelV x v->RelV y u->R x y H2->db (ev X.prog X.w) X.A (f v u) Q X.xe s2) :
  db (ev X.prog X.w) X.A (lf a X.env) (λv s₁=>db (ev X.prog X.w) X.A (lf b X.env) (λu s₂=>db (ev X.prog X.w) X.A (f v u) Q X.xe s₂) X.xe s₁) X.xe s:=by
 refine bV (ha Z s σ H _ I h) λv s1 ⟨x,H1,I1,r1,q1⟩=>?_;refine bV (hb Z s1 σ H1 _ I1 q1) λu s2 ⟨y,H2,I2,r2,q2⟩=>?_;exact hf v u s2 x y H2 I2 r1 r2 q2
def ae5(i:Nat):TE:=λσ H Q=>∃v,σ[i]?=ap (ap v)/\Q v H
def tC(v:V):TE:=λ_ H Q=>Q v H
def d9(hN:X.N[i]?=ap x)(hv:zx X.env.scope x)(hd:jh x:=by decide)(jc:HI x:=by decide):PE X (.Name x pos) (ae5 i):=by
 intro Z s σ H Q I h;obtain⟨v,e,h⟩:=h;obtain⟨m,hn,hl⟩:=I.loc;obtain⟨u,r,l⟩:=hl i x v hN e hv;have fin:EP X Z σ Q u s:=⟨v,H,I,r,h⟩;rcases l with⟨hk,hm⟩ | ⟨hk,c,hc,Wm⟩
 ·exact wpAny_Name (wpAny_loadName_local I.ok.kind hk hn hm fin) hd
 ·rcases hk with hk | hk
  ·exact wpAny_Name (wpAny_loadName_cell I.ok.kind hk hc Wm fin) hd
  ·exact wpAny_Name (wpAny_loadName_free I.ok.kind hk hc Wm fin jc) hd
def XQ{i j pos}:PE X (.Constant (.int i) j pos) (tC (.int i)):=λ_ _ _ H _ I h=>wpAny_Constant_int ⟨.int i,H,I.tok _,⟨_,rfl⟩,h⟩
def abt{b j pos}:PE X (.Constant (.bool b) j pos) (tC (.bl b)):=λ_ _ _ H _ I h=>Constant_bool ⟨.bl b,H,I,rfl,h⟩
def Pw{j pos}:PE X (.Constant .none j pos) (tC .ax):=λ_ _ _ H _ I h=>Constant_none ⟨.ax,H,I,rfl,h⟩
def XM{x j pos}:PE X (.Constant (.str x) j pos) (tC (.str x)):=λ_ _ _ H _ I h=>Calls.Constant_str ⟨.str x,H,I.tok _,⟨_,rfl⟩,h⟩
def Gl(X:Cx)(x:Str):Prop:=X.env.kindOf x=ap .globalImplicit
def Ln(I:Inv X Z σ H s)(hg:Gl X x)(hm:X.mg x=ap u)(h:Q u s)
  (hd:jh x:=by decide):db (ev X.prog X.w) X.A (lf (.Name x pos) X.env) Q E s:=
 Ec I.ok.kind hg (Calls.loadGlobal_global (by rw[I.ok.glob];exact I.mod.glob.keeps I.bk) hm h) hd
def iD(I:Inv X Z σ H s)(hg:Gl X x)(hm:X.mg x=bm)(hv:lw x=ap u)(h:Q u s)
  (hn:x≠"__name__":=by decide) (hd:jh x:=by decide):db (ev X.prog X.w) X.A (lf (.Name x pos) X.env) Q E s:=by
 obtain⟨mb,h1,h2⟩:=I.mod.blt;exact Ec I.ok.kind hg (Calls.loadGlobal_builtin (by rw[I.ok.glob];exact I.mod.glob.keeps I.bk) hm (by rw[I.ok.blt];exact h1.keeps I.bk) ((h2 x hn).trans hv) h) hd
def qX(hg:Gl X x)(hm:X.mg x=ap u)(r:RelV v u)(hd:jh x:=by decide):PE X (.Name x pos) (tC v):=
 λ_ _ _ H _ I h=>Ln I hg hm ⟨v,H,I,r,h⟩ hd
def K6(hg:Gl X x)(hm:X.mg x=bm)(hv:lw x=ap u)(r:RelV v u)(hn:x≠"__name__":=by decide)(hd:jh x:=by decide):PE X (.Name x pos) (tC v):=
 λ_ _ _ H _ I h=>iD I hg hm hv ⟨v,H,I,r,h⟩ hn hd
variable{b:kw}
variable{tA Ć:TT}{rest:O kw}
def afg(t u:TT):TT:=λσ H Q=>t σ H λc H1=>if c=true then u σ H1 Q else Q false H1
def tOr(t u:TT):TT:=λσ H Q=>t σ H λc H1=>if c=true then Q true H1 else u σ H1 Q
def afb(t:TT):TT:=λσ H Q=>t σ H λc H1=>Q (!c) H1
def S8(ha:PT X a tA):PW X (.BoolOp .And [a] pos) tA:=by
 intro wh Z s σ H Q I h;refine isTrue_and (bV (ha Z s σ H Q I h) λc s1 e=>?_);cases c with
 | true=>exact isTrue_and_nil e
 | false=>exact e
def XC(ha:PT X a tA):PW X (.BoolOp .Or [a] pos) tA:=by
 intro wh Z s σ H Q I h;refine isTrue_or (bV (ha Z s σ H Q I h) λc s1 e=>?_);cases c with
 | false=>exact isTrue_or_nil e
 | true=>exact e
def XD(ha:PT X a tA)(hb:PW X (.BoolOp .And (b::rest) pos) Ć):PW X (.BoolOp .And (a::b::rest) pos) (afg tA Ć):=by
 intro wh Z s σ H Q I h;refine isTrue_and (bV (ha Z s σ H _ I h) λc s1 ⟨H1,I1,q1⟩=>?_);cases c with
 | true=>exact hb wh Z s1 σ H1 Q I1 q1
 | false=>exact⟨H1,I1,q1⟩
def abm(ha:PT X a tA)(hb:PW X (.BoolOp .Or (b::rest) pos) Ć):PW X (.BoolOp .Or (a::b::rest) pos) (tOr tA Ć):=by
 intro wh Z s σ H Q I h;refine isTrue_or (bV (ha Z s σ H _ I h) λc s1 ⟨H1,I1,q1⟩=>?_);cases c with
 | true=>exact⟨H1,I1,q1⟩
 | false=>exact hb wh Z s1 σ H1 Q I1 q1
def XE(ha:PT X a tA):PT X (.UnaryOp .Not a pos) (afb tA):=by
 intro Z s σ H Q I h;exact isTrue_not (ha Z s σ H (λc H1=>Q (!c) H1) I h)
def aaP(ta tb:TE):TE:=λσ H Q=>ta σ H λx H1=>∃c,x=.bl c/\if c=true then tb σ H1 Q else Q (.bl false) H1
def afa(ta tb:TE):TE:=λσ H Q=>ta σ H λx H1=>∃c,x=.bl c/\if c=true then Q (.bl true) H1 else tb σ H1 Q
def aaG(ta:TE):TE:=λσ H Q=>ta σ H λx H1=>∃c,x=.bl c/\Q (.bl (!c)) H1
def XN{op}{t:TE}(h:PE X a t):PE X (.BoolOp op [a] pos) t:=λZ s σ H Q I hw=>BoolOp_one (h Z s σ H Q I hw)
def XS(ha:PE X a ta)(hb:PE X (.BoolOp .And (b::rest) pos) tb):PE X (.BoolOp .And (a::b::rest) pos) (aaP ta tb):=by
 intro Z s σ H Q I h;refine BoolOp_and (bV (ha Z s σ H _ I h) λv s1 ⟨x,H1,I1,r1,q1⟩=>?_);obtain⟨c,rfl,q1⟩:=q1;cases r1;refine B8 ?_;cases c with
 | true=>exact hb Z s1 σ H1 Q I1 q1
 | false=>exact⟨.bl false,H1,I1,rfl,q1⟩
def abp(ha:PE X a ta)(hb:PE X (.BoolOp .Or (b::rest) pos) tb):PE X (.BoolOp .Or (a::b::rest) pos) (afa ta tb):=by
 intro Z s σ H Q I h;refine BoolOp_or (bV (ha Z s σ H _ I h) λv s1 ⟨x,H1,I1,r1,q1⟩=>?_);obtain⟨c,rfl,q1⟩:=q1;cases r1;refine B8 ?_;cases c with
 | false=>exact hb Z s1 σ H1 Q I1 q1
 | true=>exact⟨.bl true,H1,I1,rfl,q1⟩
def XO(ha:PE X a ta):PE X (.UnaryOp .Not a pos) (aaG ta):=by
 intro Z s σ H Q I h;refine UnaryOp_ (bV (ha Z s σ H _ I h) λv s1 ⟨x,H1,I1,r1,q1⟩=>?_);obtain⟨c,rfl,q1⟩:=q1;cases r1;exact not_of (B8 ⟨.bl (!c),H1,I1,rfl,q1⟩)
def tIf(t:TT)(ta tb:TE):TE:=λσ H Q=>t σ H λc H1=>if c=true then ta σ H1 Q else tb σ H1 Q
def F2{c:kw}(hc:PT X c tA)(ha:PE X a ta)(hb:PE X b tb):PE X (.IfExp c a b pos) (tIf tA ta tb):=by
 intro Z s σ H Q I h;refine wpAny_IfExp (bV (hc Z s σ H _ I h) λd s1 ⟨H1,I1,q1⟩=>?_);cases d with
 | true=>exact ha Z s1 σ H1 Q I1 q1
 | false=>exact hb Z s1 σ H1 Q I1 q1
end
end L2
variable{xs ys:O L2.V}{e tg:BX}{y:L2.V}{D:L2.Ends}{te:L2.TE}{es:O BX}{k n:Nat}{Ú px py pt:Cd}{body:O PySem.Stmt}
namespace L2
def c6(K:Ab)(H:Hp)(a:ce)(xs:O V):Prop:=
 Rd H a (.lst xs)\/
  ∃(o:Obj) (ao:Array bn) (n:Nat),K.lookup a=ap o/\o.cls=.type "list"/\o.dict=bm/\o.data=.seq ao n/\ao.size<=sizeLine/\Vals xs ao.toList
def dj(K:Ab)(H:Hp)(a:ce)(xs:O V):Prop:=
 Rd H a (.tup xs)\/
  ∃(o:Obj) (ao:Array bn) (n:Nat),K.lookup a=ap o/\o.cls=.type "tuple"/\o.data=.seq ao n/\ao.size<=sizeLine/\Vals xs ao.toList
def ag5:bn->Option V
 | .none=>ap .ax
 | .bool b=>ap (.bl b)
 | .int i _=>ap (.int i)
 | .str x _=>ap (.str x)
 | .bytes b _=>ap (.Zu b)
 | .float b _=>ap (.Z5 b)
 | .ref a=>ap (.ref a)
 | .type n=>ap (.ty n)
 | _=>bm
def RelV.abs{x:V}(r:RelV x u):ag5 u=ap x:=by
 cases x with
 | ax=>cases r;rfl
 | bl _=>cases r;rfl
 | int _=>obtain⟨t,rfl⟩:=r;rfl
 | str _=>obtain⟨t,rfl⟩:=r;rfl
 | Zu _=>obtain⟨t,rfl⟩:=r;rfl
 | Z5 _=>obtain⟨t,rfl⟩:=r;rfl
 | ref _=>cases r;rfl
 | ty _=>cases r;rfl
def RelV.inj{x:V}(r:RelV x u)(q:RelV y u):x=y:=Option.some.inj (r.abs.symm.trans q.abs)
theorem Vals.inj:∀{xs ys:O V}{us:O bn},Vals xs us->Vals ys us->xs=ys
 | _,_,_,.nil,.nil=>rfl
 | _,_,_,.cons r t,.cons r' t'=>by rw[r.inj r',Vals.inj t t']
section
variable{a:ce}
def c6.of{K:Ab}(h:H a=ap (.lst xs)):c6 K H a xs:=.inl (.inl h)
def dj.of{K:Ab}(h:H a=ap (.tup xs)):dj K H a xs:=.inl (.inl h)
theorem Inv.list(I:Inv X Z σ H s)(h:c6 X.K H a xs):∃ao:O bn,Vals xs ao/\PlainL s.heap a ao.toArray/\xs.length<=sizeLine:=by
 rcases h with h | ⟨o,ao,n,hk,hc,hd,hs,hz,r⟩
 ·obtain⟨z,ao,n,r,e⟩:=h.ok I.br;exact⟨ao,r,⟨_,n,e,rfl,rfl,rfl⟩,z⟩
 ·refine⟨ao.toList,r,⟨o,n,I.vE a o hk,hc,hd,by simpa using hs⟩,?_⟩;have e:=r.length;simp only[BP]at e;omega
theorem Inv.tuple(I:Inv X Z σ H s)(h:dj X.K H a xs):∃ao:O bn,Vals xs ao/\IsTup s.heap a ao.toArray/\xs.length<=sizeLine:=by
 rcases h with h | ⟨o,ao,n,hk,hc,hs,hz,r⟩
 ·obtain⟨z,ao,r,p⟩:=h.ok I.br;exact⟨ao,r,p,z⟩
 ·refine⟨ao.toList,r,⟨o,I.vE a o hk,hc,n,by simpa using hs⟩,?_⟩;have e:=r.length;simp only[BP]at e;omega
def Inv.Gr(I:Inv X Z σ H s)(h:c6 X.K H a xs)(h':c6 X.K H a ys):xs=ys:=by
 obtain⟨ao,r,⟨o,n,e,_,_,d⟩,_⟩:=I.list h;obtain⟨its',r',⟨o',n',e',_,_,d'⟩,_⟩:=I.list h';rw[e]at e';cases e';rw[d]at d';injection d' with d1 _;have:ao=its':=by simpa using congrArg Array.toList d1
 subst this;exact r.inj r'
def Inv.lI(I:Inv X Z σ H s)(h:dj X.K H a xs)(h':dj X.K H a ys):xs=ys:=by
 obtain⟨ao,r,⟨o,e,_,n,d⟩,_⟩:=I.tuple h;obtain⟨its',r',⟨o',e',_,n',d'⟩,_⟩:=I.tuple h';rw[e]at e';cases e';rw[d]at d';injection d' with d1 _;have:ao=its':=by simpa using congrArg Array.toList d1
 subst this;exact r.inj r'
end
abbrev Cx.uq(X:Cx)(E:bn->cr->Prop):Cx:={X with xe:=E}
abbrev Cx.VW(X:Cx):Cx:=X.uq λ_ _=>False
def Cx.Ok.uq(ok:X.Ok)(E:bn->cr->Prop):(X.uq E).Ok:=
 ⟨ok.mod,ok.kind,ok.glob,ok.blt,ok.above,ok.inj,ok.has,ok.cab,ok.hd,ok.frames,ok.stk,ok.exf,ok.bs,ok.WC,ok.PR,ok.Q6,ok.tB,ok.Z2⟩
def Cx.Ok.kD(ok:(X.uq E).Ok):X.Ok:=
 ⟨ok.mod,ok.kind,ok.glob,ok.blt,ok.above,ok.inj,ok.has,ok.cab,ok.hd,ok.frames,ok.stk,ok.exf,ok.bs,ok.WC,ok.PR,ok.Q6,ok.tB,ok.Z2⟩
section
def Inv.uq(I:Inv X Z σ H s)(E:bn->cr->Prop):Inv (X.uq E) Z σ H s:=⟨I.ok.uq E,I.os,I.bare,I.base,I.loc,I.cell,I.free,I.kj,I.pin,I.br,I.len⟩
def Inv.kD(I:Inv (X.uq E) Z σ H s):Inv X Z σ H s:=⟨I.ok.kD,I.os,I.bare,I.base,I.loc,I.cell,I.free,I.kj,I.pin,I.br,I.len⟩
def SP.kD{f:Flow}(h:SP (X.uq E) Z D f s'):SP X Z D f s':=by
 cases f with
 | next=>obtain⟨σ',H',I,q⟩:=h;exact⟨σ',H',I.kD,q⟩
 | brk=>obtain⟨σ',H',I,q⟩:=h;exact⟨σ',H',I.kD,q⟩
 | cont=>obtain⟨σ',H',I,q⟩:=h;exact⟨σ',H',I.kD,q⟩
 | ret u=>obtain⟨v,σ',H',I,r,q⟩:=h;exact⟨v,σ',H',I.kD,r,q⟩
def rE.VW{st:O ss}{t:TS}(h:rE X.VW st t):rE X st t:=λZ s σ H D I hw=>
 BL (h Z s σ H D (I.uq _) hw) (λ_ _ q=>q.kD) λ_ _ z=>Br z
end
section
variable{st:ss}{rest:O ss}{t u:TS}
def aaI:TS:=λD σ H=>D.nx σ H
def ae7(t u:TS):TS:=λD σ H=>t {D with nx:=u D} σ H
def wR:rE X [] aaI:=λ_ _ σ H _ I h=>DU ⟨σ,H,I,h⟩
def zU(h1:PS X st t)(h2:rE X rest u):rE X (st::rest) (ae7 t u):=by
 intro Z s σ H D I h;refine wpAny_execs_cons (bV (h1 Z s σ H {D with nx:=u D} I h) λf s1 q=>?_);cases f with
 | next=>
  obtain⟨σ',H',I',q⟩:=q;exact h2 Z s1 σ' H' D I' q
 | ret v=>exact q
 | brk=>exact q
 | cont=>exact q
def Ta(h1:PS X st t):rE X [st] t:=by
 intro Z s σ H D I h;refine wpAny_execs_cons (bV (h1 Z s σ H D I h) λf s1 q=>?_);cases f with
 | next=>exact DU q
 | ret v=>exact q
 | brk=>exact q
 | cont=>exact q
def aaM:TS:=λD σ H=>D.ct σ H
def zW:PS X (.Continue pos) aaM:=λ_ _ σ H _ I h=>wpAny_Continue ⟨σ,H,I,h⟩
def Inv.quiet(I:Inv X Z σ H s):interactive X.env=false:=by simp[interactive,I.ok.kind]
def aaK(te:TE):TS:=λD σ H=>te σ H λ_ H1=>D.nx σ H1
def qW(he:PE X e te)(hs:lc e bm pos.line X.env=pure false:=by rfl):PS X (.Expr e pos) (aaK te):=by
 intro Z s σ H D I h;exact wpAny_Expr_any (bV (he Z s σ H _ I h) λv s1 ⟨x,H1,I1,r1,q1⟩=>⟨σ,H1,I1,q1⟩) I.quiet hs
def ae8(te:TE):TS:=λD σ H=>te σ H D.rt
def wV(he:PE X e te):PS X (.Return (ap e) pos) (ae8 te):=by
 intro Z s σ H D I h;exact wpAny_Return_some (bV (he Z s σ H _ I h) λv s1 ⟨x,H1,I1,r1,q1⟩=>⟨x,σ,H1,I1,r1,q1⟩)
def afd(c:TT)(t u:TS):TS:=λD σ H=>c σ H λb H1=>if b=true then t D σ H1 else u D σ H1
def Pj{c:kw}{a b:O ss}{tc:TT}(hc:PT X c tc)(ha:rE X a t)(hb:rE X b u):PS X (.If c a b pos) (afd tc t u):=by
 intro Z s σ H D I h;refine wpAny_If (bV (hc Z s σ H _ I h) λd s1 ⟨H1,I1,q1⟩=>?_);cases d with
 | true=>exact ha Z s1 σ H1 D I1 q1
 | false=>exact hb Z s1 σ H1 D I1 q1
def W3:TS:=λ_ _ _=>False
end
abbrev TG:=V->St->Hp->(St->Hp->Prop)->Prop
abbrev ZG:=O V->St->Hp->(St->Hp->Prop)->Prop
def PG(X:Cx)(È:kw)(t:TG):Prop:=
 ∀(Z:O (ce×Obj)) (s:cr) (σ:St) (H:Hp) (v:V) (u:bn) (Q:St->Hp->Prop),Inv X Z σ H s->RelV v u->t v σ H Q->
  db (ev X.prog X.w) X.A (EQ È X.env u) (λ_ s'=>∃σ' H',Inv X Z σ' H' s'/\Q σ' H') X.xe s
def PGs(X:Cx)(ts:O kw)(t:ZG):Prop:=
 ∀(Z:O (ce×Obj)) (s:cr) (σ:St) (H:Hp) (vs:O V) (us:O bn) (Q:St->Hp->Prop),Inv X Z σ H s->Vals vs us->t vs σ H Q->
  db (ev X.prog X.w) X.A (assignInOrder ((wE ts X.env).map (·.2)) us) (λ_ s'=>∃σ' H',Inv X Z σ' H' s'/\Q σ' H') X.xe s
abbrev R3:=V->V->V->Hp->(Hp->Prop)->Prop
def NY(X:Cx)(t:R3):Prop:=
 ∀(Z:O (ce×Obj)) (s:cr) (σ:St) (H:Hp) (o i v:V) (ov iv u:bn) (Q:Hp->Prop),Inv X Z σ H s->RelV o ov->RelV i iv->RelV v u->t o i v H Q->
  db (ev X.prog X.w) X.A (setItem ov iv u) (λ_ s'=>∃H',Inv X Z σ H' s'/\Q H') X.xe s
section
def dY(i:Nat):TG:=λv σ H Q=>Q (σ.set i (ap v)) H
def Th(hN:X.N.Nodup)(hi:X.N[i]?=ap x)(hx:Loc X.env.scope x)(hf:Oc X x:=by first | exact .inl rfl | exact .inr rfl | assumption):PG X (.Name x pos) (dY i):=by
 intro Z s σ H v u Q I r h;exact wpAny_assign_Name (nh I hN hi hx r (λs' I'=>⟨_,H,I',h⟩) hf)
def Y1:ZG:=λvs σ H Q=>vs=[]/\Q σ H
def tw(t:TG)(u:ZG):ZG:=λvs σ H Q=>∃v r,vs=v::r/\t v σ H λσ' H'=>u r σ' H' Q
def da:PGs X [] Y1:=by
 intro Z s σ H vs us Q I r h;obtain⟨e,h⟩:=h;subst e;cases r;exact assignInOrder_nil ⟨σ,H,I,h⟩
def aH{t:TG}{u:ZG}(h1:PG X e t)(h2:PGs X es u)
  (hs:(wE (e::es) X.env).map (·.2)=EQ e X.env::(wE es X.env).map (·.2):=by rfl):PGs X (e::es) (tw t u):=by
 intro Z s σ H vs us Q I r h;obtain⟨v,vr,e1,h⟩:=h;subst e1;cases r with
 | cons r rr=>
  rw[hs];refine assignInOrder_cons (bV (h1 Z s σ H _ _ _ I r h) λ_ s1 ⟨σ1,H1,I1,q1⟩=>?_);exact h2 Z s1 σ1 H1 _ _ Q I1 rr q1
def Y0(K:Ab)(n:Nat)(t:ZG):TG:=λv σ H Q=>∃a xs,v=.ref a/\dj K H a xs/\xs.length=n/\t xs σ H Q
def eX{t:ZG}(hc:X.calm=true)(h:PGs X es t)
  (hn:(wE es X.env).length=n:=by rfl) (rk:(wE es X.env).findIdx? (·.1)=bm:=by rfl):PG X (.Tuple es k pos) (Y0 X.K n t):=by
 intro Z s σ H v u Q I r hw;obtain⟨a,xs,e1,hq,hl,hw⟩:=hw;subst e1;cases r;obtain⟨ao,rv,ht,hz⟩:=I.tuple hq;refine assign_Tuple_tuple (I.ok.hd hc) ht (by simp[hn,<- hl,rv.length]) rk λh' hx=>?_;have I1:Inv X Z σ H {s with heap:=h'}:=I.kept (t':=s.toks) λb o e=>hx b o (AB (Au e)) e;exact h Z _ σ H xs _ Q I1 (by simpa using rv) hw
def agJ(to ti:TE)(t:R3):TG:=λv σ H Q=>to σ H λo H1=>ti σ H1 λi H2=>t o i v H2 λH3=>Q σ H3
def XJ{o i:kw}{to ti:TE}{t:R3}(ho:PE X o to)(hi:PE X i ti)(hs:NY X t)
  (ha:∀v,EQ (.Subscript o i pos) X.env v=(do
   let ov <- BT [v] (lf o X.env)
   let iv <- BT [v,ov] (lf i X.env)
   standAt pos
   BT [v,ov,iv] (setItem ov iv v)
   release [v,ov,iv] []):=by intro _;rfl):PG X (.Subscript o i pos) (agJ to ti t):=by
 intro Z s σ H v u Q I r h;refine Aa (Bh (bV (ho Z s σ H _ I h) λov s1 ⟨x,H1,I1,r1,q1⟩=>?_));refine Aa (Bh (bV (hi Z s1 σ H1 _ I1 q1) λiv s2 ⟨y,H2,I2,r2,q2⟩=>?_));refine Aa (EA (Aa (Bh (bV (hs Z s2 σ H2 x y v ov iv u _ I2 r1 r2 r q2) λ_ s3 ⟨H3,I3,q3⟩=>?_))));exact wpAny_release ⟨σ,H3,I3,q3⟩
def W6(te:TE)(g:TG):TS:=λD σ H=>te σ H λx H1=>g x σ H1 D.nx
def Pk{g:TG}(he:PE X e te)(hg:PG X tg g)(hs:Db [tg] e pos.line X.env=pure false:=by rfl)(hw:Ev [tg] e X.env=pure bm:=by rfl)
  (h1:(wE [tg] X.env).map (·.2)=[EQ tg X.env]:=by rfl):PS X (.Assign [tg] e pos) (W6 te g):=by
 intro Z s σ H D I h;refine wpAny_Assign_stores (bV (he Z s σ H _ I h) λv s1 ⟨x,H1,I1,r1,q1⟩=>?_) hs hw;rw[h1];exact bV (hg Z s1 σ H1 x v _ I1 r1 q1) λ_ s2 q=>q
def sf(hN:X.N.Nodup)(hi:X.N[i]?=ap x)(hx:Loc X.env.scope x)(he:PE X e te)(hs:lc e (ap (.Name x Ú)) pos.line X.env=pure false:=by rfl)(hf:Oc X x:=by first | exact .inl rfl | exact .inr rfl | assumption) :
  PS X (.Assign [.Name x Ú] e pos) (W6 te (dY i)):=by
 intro Z s σ H D I h;refine wpAny_Assign_Name (bV (he Z s σ H _ I h) λv s1 ⟨y,H1,I1,r1,q1⟩=>?_) hs;exact nh I1 hN hi hx r1 (λs2 I2=>⟨_,H1,I2,q1⟩) hf
def ae9(i j:Nat)(ta:TA):TS:=λD σ H=>ta σ H λvs H1=>∃v w,vs=[v,w]/\D.nx ((σ.set i (ap v)).set j (ap w)) H1
def XG{y:Str}{b:kw}{ta:TA}{kt k2 XF}(hc:X.calm=true)(hN:X.N.Nodup)(hi:X.N[i]?=ap x)(hj:X.N[j]?=ap y)(ú:i≠j)
  (hx:X.env.scope.names.lookup x=ap .local) (hy:X.env.scope.names.lookup y=ap .local) (ha:PA X [a,b] ta)
  (hw:Ev [.Tuple [.Name x px,.Name y py] kt pt] (.Tuple [a,b] k2 XF) X.env=pure (ap [x,y]))
  (hs:Db [.Tuple [.Name x px,.Name y py] kt pt] (.Tuple [a,b] k2 XF) pos.line X.env=pure false:=by rfl) :
  PS X (.Assign [.Tuple [.Name x px,.Name y py] kt pt] (.Tuple [a,b] k2 XF) pos) (ae9 i j ta):=by
 intro Z s σ H D I h;refine Aa (EA ?_);refine Aa (Ae ?_);rw[if_neg ⋯];refine Aa (Tuple_ (bV (ha _ Z s σ H _ I h) λus s1 ⟨vs,H1,I1,r1,q1⟩=>?_));obtain⟨v,w,e1,q1⟩:=q1;subst e1;obtain⟨u1,u2,rfl,rv,wM⟩:∃u1 u2,us=[u1,u2]/\RelV v u1/\RelV w u2:=by
  cases r1 with
  | cons p q=>
   cases q with
   | cons p' q'=>
    cases q';exact⟨_,_,rfl,p,p'⟩
 refine AQ ?_ (by show 2<=sizeLine;decide);have I2:Inv X Z σ H1 {s1 with heap:=s1.heap.push {cls:=.type "tuple",data:=.seq [u1,u2].toArray}}:=I1.kept (t':=s1.toks) λb o e=>Ag _ e;rw[hw];refine Aa (Ae ?_);refine Aa (CZ (Aa (unpackItems_tuple (items:=#[u1,u2]) (I.ok.hd hc) (FD s1.heap _) λh' vJ=>?_)));have I3:=I2.kept (h':=h') (t':=s1.toks) λb o e=>vJ b o (AB (Au e)) e;show db _ _ (assignInOrder [λv=>bindName X.env y v,λv=>bindName X.env x v] [u2,u1] >>= λ_=>pure Flow.next) _ _ _;refine Aa (assignInOrder_cons (wpAny_bindName (nh I3 hN hj (.inl hy) wM (λs2 I4=>?_) (.inr hy))));refine assignInOrder_cons (wpAny_bindName (nh I4 hN hi (.inl hx) rv (λs3 I5=>assignInOrder_nil (Ae ?_)) (.inr hx)));rw[List.set_comm _ _ (Bx ú)]at I5;exact⟨_,H1,I5,q1⟩
end
section
def W0(c:TT)(tb:TS):TS:=λD σ H=>∃W:Nat->St->Hp->Prop,(∃m,W m σ H)/\∀m σ H,W m σ H->
 c σ H λb H1=>if b=true then ∃N:St->Hp->Prop,(∀σ' H',N σ' H'->∃m',m' < m/\W m' σ' H')/\tb {D with nx:=N,ct:=N,bk:=D.nx} σ H1 else D.nx σ H1
def Ph{c:kw}{tc:TT}{tb:TS}(hp:vR (ev X.prog X.w) X.A X.env X.xe)(hc:PT X c tc)(hb:rE X body tb):PS X (.While c body [] pos) (W0 tc tb):=by
 intro Z s σ H D I h;obtain⟨W,⟨m0,w0⟩,turn⟩:=h;refine wpAny_While (codeAny_whileLoop (λn s'=>∃σ' H',Inv X Z σ' H' s'/\W n σ' H') ?_ m0 ⟨σ,H,I,w0⟩);rintro n s1 ⟨σ1,H1,I1,w1⟩;refine Cm hp (bV (hc Z s1 σ1 H1 _ I1 (turn n σ1 H1 w1)) λb s2 ⟨H2,I2,q2⟩=>?_);cases b with
 | true=>
  obtain⟨N,hN,q2⟩:=q2;refine Cm hp (bV (hb Z s2 σ1 H2 _ I2 q2) λf s3 q3=>?_);cases f with
  | next=>
   obtain⟨σ3,H3,I3,n3⟩:=q3;obtain⟨m',hm,w3⟩:=hN σ3 H3 n3;exact⟨m',hm,σ3,H3,I3,w3⟩
  | cont=>
   obtain⟨σ3,H3,I3,n3⟩:=q3;obtain⟨m',hm,w3⟩:=hN σ3 H3 n3;exact⟨m',hm,σ3,H3,I3,w3⟩
  | brk=>exact q3
  | ret v=>exact q3
 | false=>
  exact DU ⟨σ1,H2,I2,q2⟩
end
structure It where
 go:Nat->Hp->Prop
 VE:Nat->Hp->V->Hp->Prop
 stop:Nat->Hp->Prop
def u5(X:Cx)(Z:O (ce×Obj))(H:Hp)(b:ce):Prop:=
 H b=bm/\b≠X.env.locals/\b∉X.fs/\(b∈X.ex\/X.s₀.heap.objs.size<=b)/\(∀x c,X.env.cells.lookup x=ap c->c≠b)/\∀p∈X.pn++Z,p.1≠b
def Inv.yh(I:Inv X Z σ H s)(hb:s.heap.objs.size<=b)(hn:H' b=bm):u5 X Z H' b:=by
 refine⟨hn,Nat.ne_of_gt (AJ I.lt hb),I.afE hb,.inr (Bv I.sz hb),λx c e z=>?_,λp hp z=>?_⟩
 ·obtain⟨v,q⟩:=I.cell x c e;exact absurd (AJ q.lt (by rw[z];exact hb)) (AX _)
 ·exact absurd (AJ (Au (I.pin p hp).1) (by rw[z];exact hb)) (AX _)
structure Turn(P:sw)(w:tz)(K:Ab)(tg:kw)(J:It)(fp:List ce)(it:ce)(tn:Nat->lm->Prop):Prop where
 mem:it∈fp
 obj:∀i h,tn i h->∀b∈fp,∃o,h.get? b=ap o/\∀v,o.data≠.cell v
 keep:∀i h h',tn i h->(∀b∈fp,∀o,h.get? b=ap o->h'.get? b=ap o)->tn i h'
 item:∀(X:Cx),X.prog=P->X.w=w->X.K=K->X.calm=true->∀(i:Nat) (Z:List (ce×Obj)) (s:cr) (σ:St) (H:Hp) (E:bn->cr->Prop),Inv X Z σ H s->(∀b∈fp,u5 X Z H b)->tn i s.heap->J.go i H->
  db (ev P w) X.A (pyNext (.ref it)) (λr s1=>∃u,r=ap u/\
   db (ev P w) X.A (FM tg (.ref it) u) (λ_ s2=>∃x H',Inv X Z σ H' s2/\RelV x u/\J.VE i H x H'/\tn (i+1) s2.heap/\∀b∈fp,H' b=bm) E s1) E s
 done:∀(X:Cx),X.prog=P->X.w=w->X.K=K->X.calm=true->∀(i:Nat) (Z:List (ce×Obj)) (s:cr) (σ:St) (H:Hp) (E:bn->cr->Prop),Inv X Z σ H s->(∀b∈fp,u5 X Z H b)->tn i s.heap->J.stop i H->
  db (ev P w) X.A (pyNext (.ref it)) (λr s1=>r=bm/\Inv X Z σ H s1) E s
 self:∀(A:u8) (i:Nat) (s:cr) (Q:bn->cr->Prop) (E:bn->cr->Prop),tn i s.heap->Q (.ref it) s->db (ev P w) A (pyIter (.ref it)) Q E s
abbrev TI:=St->Hp->(It->Hp->Prop)->Prop
def PIE(X:Cx)(Z:O (ce×Obj))(σ:St)(tg:kw)(R:It->Hp->Prop)(đ:bn)(s2:cr):Prop:=
 ∃(it:ce) (fp:O ce) (tn:Nat->lm->Prop) (J:It) (H':Hp),đ=.ref it/\Inv X Z σ H' s2/\Turn X.prog X.w X.K tg J fp it tn/\tn 0 s2.heap/\(∀b∈fp,u5 X Z H' b)/\R J H'
def PI(X:Cx)(tg iter:kw)(wi:TI):Prop:=
 ∀(Z:O (ce×Obj)) (s:cr) (σ:St) (H:Hp) (R:It->Hp->Prop),Inv X Z σ H s->wi σ H R->
  db (ev X.prog X.w) X.A (lf iter X.env) (λv s1=>db (ev X.prog X.w) X.A (pyIter v) (PIE X Z σ tg R) X.xe s1) X.xe s
def GL{n:String}{vs:Array bn}{Q:Unit->cr->Prop}(ho:s.heap.get? it=ap o)(hc:o.cls=.type n)(hd:o.data=.fields vs)
  (hn:["enumerate","zip","dict_itemiterator","dict_reverseitemiterator","odict_iterator","itertools.zip_longest","itertools.pairwise"].contains n=false) (hQ:Q () s):db M A (FM tg (.ref it) u) Q E s:=by
 unfold FM;cases tg <;> first
  | exact Ae hQ
  | (cases u <;> first
    | exact Ae hQ
    | (
      refine Aa (wpAny_load ho ?_);rw[hc,hd];show db M A (if (["enumerate","zip","dict_itemiterator","dict_reverseitemiterator","odict_iterator","itertools.zip_longest","itertools.pairwise"].contains n&&vs[0]?==ap (t0 _))=true then _ else _) Q E s;rw[if_neg (by intro h;rw[hn,Fz]at h;cases h)];exact Ae hQ))
def Itl(K:Ab)(a:ce):It:=
 ⟨λi H=>∃xs x,c6 K H a xs/\xs[i]?=ap x,λi H x H'=>H'=H/\∀xs,c6 K H a xs->xs[i]?=ap x,λi H=>∃xs,c6 K H a xs/\xs.length<=i⟩
def Itt(K:Ab)(a:ce):It:=
 ⟨λi H=>∃xs x,dj K H a xs/\xs[i]?=ap x,λi H x H'=>H'=H/\∀xs,dj K H a xs->xs[i]?=ap x,λi H=>∃xs,dj K H a xs/\xs.length<=i⟩
def Itr(lo:Int)(n:Nat):It:=⟨λi _=>i < n,λi H x H'=>H'=H/\x=.int (lo+i),λi _=>n<=i⟩
theorem u7{K:Ab}(a it:ce):Turn P w K tg (Itl K a) [it] it (λi h=>h.IsListIter it a i) where
 mem:=by simp
 obj:=λi h st b hb=>by
  have e:b=it:=by simpa using hb
  subst e;obtain⟨o,e,c,d⟩:=st;exact⟨o,e,λv z=>by rw[d]at z;cases z⟩
 keep:=λi h h' st k=>st.at λo e=>k it (by simp) o e
 item:=by
  intro X hP hw hK hc i Z s σ H E I hf st hg;subst hP hw hK;obtain⟨xs,x,hq,hx⟩:=hg;obtain⟨ao,rv,p,hz⟩:=I.list hq;obtain⟨u,hu,ru⟩:=rv.get hx;obtain⟨f0,f1,f2,f3,f4,f5⟩:=hf it (by simp);refine wpAny_pyNext_list_item st p.isList (x:=u) (by simpa using hu) λh' qU sb=>?_;have I1:Inv X Z σ H {s with heap:=h'}:=I.turned (t':=s.toks) (λb o hb e=>(sb.2 b hb).trans e) f0 f1 f3 f4 f5;obtain⟨o,e,c,d⟩:=id qU;exact⟨u,rfl,GL (s:={s with heap:=h'}) e c d ⋯ ⟨x,H,I1,ru,⟨rfl,λys hy=>by rw[I.Gr hy hq];exact hx⟩,qU,λb hb=>(hf b hb).1⟩⟩
 done:=by
  intro X hP hw hK hc i Z s σ H E I hf st hg;subst hP hw hK;obtain⟨xs,hq,hx⟩:=hg;obtain⟨ao,rv,p,hz⟩:=I.list hq;obtain⟨f0,f1,f2,f3,f4,f5⟩:=hf it (by simp);have hl:=rv.length;exact wpAny_pyNext_list_end (I.ok.hd hc) st p.isList (by simp;omega) λh' eb=>⟨rfl,I.turned (t':=s.toks) (λb o hb e=>eb b o hb e) f0 f1 f3 f4 f5⟩
 self:=λ_ _ _ _ _ st h=>wpAny_pyIter_listiter st h
theorem H0{K:Ab}(a it:ce):Turn P w K tg (Itt K a) [it] it (λi h=>h.IsTupleIter it a i) where
 mem:=by simp
 obj:=λi h st b hb=>by
  have e:b=it:=by simpa using hb
  subst e;obtain⟨o,e,c,d⟩:=st;exact⟨o,e,λv z=>by rw[d]at z;cases z⟩
 keep:=λi h h' st k=>st.at λo e=>k it (by simp) o e
 item:=by
  intro X hP hw hK hc i Z s σ H E I hf st hg;subst hP hw hK;obtain⟨xs,x,hq,hx⟩:=hg;obtain⟨ao,rv,p,hz⟩:=I.tuple hq;obtain⟨u,hu,ru⟩:=rv.get hx;obtain⟨f0,f1,f2,f3,f4,f5⟩:=hf it (by simp);refine wpAny_pyNext_tuple_item st (show s.heap.IsTuple a ao.toArray from p) (x:=u) (by simpa using hu) λh' qU sb=>?_;have I1:Inv X Z σ H {s with heap:=h'}:=I.turned (t':=s.toks) (λb o hb e=>(sb.2 b hb).trans e) f0 f1 f3 f4 f5;obtain⟨o,e,c,d⟩:=id qU;exact⟨u,rfl,GL (s:={s with heap:=h'}) e c d ⋯ ⟨x,H,I1,ru,⟨rfl,λys hy=>by rw[I.lI hy hq];exact hx⟩,qU,λb hb=>(hf b hb).1⟩⟩
 done:=by
  intro X hP hw hK hc i Z s σ H E I hf st hg;subst hP hw hK;obtain⟨xs,hq,hx⟩:=hg;obtain⟨ao,rv,p,hz⟩:=I.tuple hq;obtain⟨f0,f1,f2,f3,f4,f5⟩:=hf it (by simp);have hl:=rv.length;exact wpAny_pyNext_tuple_end (I.ok.hd hc) st (show s.heap.IsTuple a ao.toArray from p) (by simp;omega) λh' eb=>⟨rfl,I.turned (t':=s.toks) (λb o hb e=>eb b o hb e) f0 f1 f3 f4 f5⟩
 self:=λ_ _ _ _ _ st h=>wpAny_pyIter_tupleiter st h
theorem H9{K:Ab}(it:ce)(lo:Int)(n:Nat):Turn P w K tg (Itr lo n) [it] it (λi h=>IsRangeIter h it (lo+(i:Nat)*1) ((n:Int)-(i:Nat)) 1) where
 mem:=by simp
 obj:=λi h st b hb=>by
  have e:b=it:=by simpa using hb
  subst e;exact⟨_,st,λv z=>by
   have z':=z;cases z'⟩
 keep:=λi h h' st k=>k it (by simp) _ st
 item:=by
  intro X hP hw hK hc i Z s σ H E I hf st hg;subst hP hw hK;obtain⟨f0,f1,f2,f3,f4,f5⟩:=hf it (by simp);have W:=Walks.range (prog:=X.prog) (w:=X.w) (I.ok.hd hc) it lo 1 n;refine W.item i s _ _ hg st λv h' tk hv qU kk=>?_;obtain⟨t,rfl⟩:=hv;have I1:Inv X Z σ H {s with heap:=h',toks:=tk}:=I.turned (λb o hb e=>kk b o (by simpa using hb) e) f0 f1 f3 f4 f5;refine⟨_,rfl,GL (s:={s with heap:=h',toks:=tk}) (n:="range_iterator") qU rfl rfl ⋯ ⟨.int (lo+i),H,I1,⟨t,?_⟩,⟨rfl,rfl⟩,qU,λb hb=>(hf b hb).1⟩⟩;rw[Int.mul_one]
 done:=by
  intro X hP hw hK hc i Z s σ H E I hf st hg;obtain⟨f0,f1,f2,f3,f4,f5⟩:=hf it (by simp);exact wpAny_pyNext_range_end (I.ok.hd hc) st (by have:n<=i:=hg;omega) λh' eb=>⟨rfl,I.turned (t':=s.toks) (λb o hb e=>eb b o hb e) f0 f1 f3 f4 f5⟩
 self:=λ_ _ _ _ _ st h=>wpAny_pyIter_rangeiter st h
end L2
variable{tl:L2.TE}{p:Cd}{fp:O BD}{iter:BX}{wi:L2.TI}
namespace L2
section
def Wg(K:Ab)(tl:TE):TI:=λσ H R=>tl σ H λx H1=>∃a,x=.ref a/\(∃xs,c6 K H1 a xs)/\R (Itl K a) H1
def Tg{l:kw}(hl:PE X l tl):PI X tg l (Wg X.K tl):=by
 intro Z s σ H R I h;refine bV (hl Z s σ H _ I h) λv s1 ⟨x,H1,I1,r1,q1⟩=>?_;obtain⟨a,e,⟨xs,hq⟩,q⟩:=q1;subst e;cases r1;obtain⟨ao,rv,p,hz⟩:=I1.list hq;refine CS p.isList ?_;refine⟨s1.heap.objs.size,[s1.heap.objs.size],_,_,H1,rfl,I1.kept (t':=s1.toks) λb o e=>Ag _ e,u7 a _,⟨_,Aq _ rfl,rfl,rfl⟩,λb hb=>?_,q⟩;have e:b=s1.heap.objs.size:=by simpa using hb
 subst e;exact I1.yh (Am _) (I1.br.fresh (Am _))
theorem O5{R:It->Hp->Prop}{lo hi:Int}{t u v:Tok}{tk:Nat}(I:Inv X Z σ H s)(h1:-(2 ^ 62)<=lo)(h2:lo < 2 ^ 62)(h3:-(2 ^ 62)<=hi)(h4:hi < 2 ^ 62)
  (q:R (Itr lo (hi-lo).toNat) H):db (ev X.prog X.w) X.A (pyIter (.ref s.heap.objs.size)) (PIE X Z σ tg R) E {s with heap:=s.heap.push {cls:=.type "range",data:=.fields #[.int lo t,.int hi u,.int 1 v]},toks:=tk}:=by
 refine wpAny_pyIter_range (IsRange.new ..) (small_one h1 h2 h3 h4) ?_;have I1:Inv X Z σ H {s with heap:=s.heap.push {cls:=.type "range",data:=.fields #[.int lo t,.int hi u,.int 1 v]},toks:=tk}:=I.kept λb o e=>Ag _ e;refine⟨(s.heap.push {cls:=.type "range",data:=.fields #[.int lo t,.int hi u,.int 1 v]}).objs.size,[(s.heap.push {cls:=.type "range",data:=.fields #[.int lo t,.int hi u,.int 1 v]}).objs.size],_,_,H,rfl,
  I1.kept (t':=tk) λb o e=>Ag _ e,H9 _ lo (hi-lo).toNat,?_,λb hb=>?_,q⟩
 ·have e1:lo+((0:Nat):Int)*1=lo:=by simp
  have e2:(((hi-lo).toNat:Nat):Int)-((0:Nat):Int)=Builtin.Range.rangeSize lo hi 1:=by rw[rangeSize_one];split <;> omega
  show IsRangeIter _ _ (lo+((0:Nat):Int)*1) ((((hi-lo).toNat:Nat):Int)-((0:Nat):Int)) 1;rw[e1,e2];exact Aq _ rfl
 ·have e:b=(s.heap.push {cls:=.type "range",data:=.fields #[.int lo t,.int hi u,.int 1 v]}).objs.size:=by simpa using hb
  subst e;exact I1.yh (Am _) (I1.br.fresh (Am _))
def ab5(ta:TA):TI:=λσ H R=>ta σ H λvs H1=>∃j:Int,vs=[.int j]/\-(2 ^ 62)<=j/\j < 2 ^ 62/\R (Itr 0 j.toNat) H1
theorem MB{ta:TA}(hg:Gl X "range")(hm:X.mg "range"=bm)(ha:PA X [a] ta)(hs:ga [a] X.env=[(false,lf a X.env)]:=by rfl):PI X tg (.Call (.Name "range" p) [a] [] pos) (ab5 ta):=by
 intro Z s σ H R I h;refine Call_ (iD I hg hm boot_range (Bi (bV (ha pos Z s σ H _ I h) λus s1 ⟨vs,H1,I1,r1,q1⟩=>?_) hs rfl));obtain⟨j,e,q1,q2,q⟩:=q1;subst e;cases r1 with
 | cons r rr=>
  cases rr;obtain⟨t,rfl⟩:=r;exact call_range_1 (O5 I1 ∅ ∅ q1 q2 (by simpa using q))
def afe(wi:TI)(g:TG)(tb:TS):TS:=λD σ H=>wi σ H λJ H1=>∃W:Nat->Nat->St->Hp->Prop,(∃m,W 0 m σ H1)/\∀i m σ H,W i m σ H->
 (J.stop i H/\D.nx σ H)\/(J.go i H/\∃N:St->Hp->Prop,(∀σ' H',N σ' H'->∃m',m' < m/\W (i+1) m' σ' H')/\∀x H',J.VE i H x H'->g x σ H' λσ2 H2=>tb {D with nx:=N,ct:=N,bk:=D.nx} σ2 H2)
def pz(fp:O ce)(h:lm):O (ce×Obj):=fp.filterMap λb=>(h.get? b).map λo=>(b,o)
def jw(hb:b∈fp)(e:h.get? b=ap o):(b,o)∈pz fp h:=Ek.mpr ⟨b,hb,by rw[e];rfl⟩
def MD{p:ce×Obj}(hp:p∈pz fp h):p.1∈fp/\h.get? p.1=ap p.2:=by
 obtain⟨b,hb,e⟩:=Ek.mp hp;cases q:h.get? b with
 | none=>rw[q]at e;cases e
 | some o=>
  rw[q]at e;have e':=Option.some.inj e;subst e';exact⟨hb,q⟩
def Inv.pinned(I:Inv X Z σ H s)(hf:∀b∈fp,u5 X Z H b)(ho:∀b∈fp,∃o,s.heap.get? b=ap o/\∀v,o.data≠.cell v):Inv X (Z++pz fp s.heap) σ H s:=
 I.K2 λp hp=>(AE.mp hp).elim (λz=>I.pin p (A7 _ z)) λz=>by
  obtain⟨hb,e⟩:=MD z;obtain⟨f0,f1,f2,_⟩:=hf p.1 hb;obtain⟨o,e',d⟩:=ho p.1 hb;rw[e]at e';cases e';exact⟨e,f0,f1,f2,d⟩
def Inv.kE{pl:O (ce×Obj)}(I:Inv X (Z++pl) σ H s):Inv X Z σ H s:=I.K2 λp hp=>I.pin p (A7 _ (Fx _ hp))
def Im{g:TG}{tb:TS}(hp:vR (ev X.prog X.w) X.A X.env X.xe)(hc:X.calm=true)(hi:PI X tg iter wi)(hg:PG X tg g)(hb:rE X body tb)
  (hs:um X iter:=by intro _;rfl):PS X (.For tg iter body [] pos) (afe wi g tb):=by
 intro Z s σ H D I h;refine wpAny_For (bV (hi Z s σ H _ I h) λv s1 h1=>bV h1 λđ s2 h2=>?_) hs;obtain⟨it,fp,tn,J,H2,e,I2,T,Mk,f2,W,⟨m0,w0⟩,turn⟩:=h2;subst e;have Xb:∀{H':Hp},(∀b∈fp,H' b=bm)->∀b∈fp,u5 X Z H' b:=λhn b hb=>⟨hn b hb,(f2 b hb).2⟩;refine codeAny_forLoop_any (λn s'=>∃i σ' H',Inv X Z σ' H' s'/\tn i s'.heap/\(∀b∈fp,H' b=bm)/\W i n σ' H') ?_ m0 ⟨0,σ,H2,I2,Mk,λb hb=>(f2 b hb).1,w0⟩;rintro n s3 ⟨i,σ3,H3,I3,è,ă,w3⟩;rcases turn i n σ3 H3 w3 with⟨stop,qn⟩ | ⟨go,N,hN,step⟩
 ·refine Cm hp (bV (T.done X rfl rfl rfl hc i Z s3 σ3 H3 X.xe I3 (Xb ă) è stop) λr s4 ⟨hr,I4⟩=>?_);subst hr;exact DU ⟨σ3,H3,I4,qn⟩
 ·refine Cm hp (bV (T.item X rfl rfl rfl hc i Z s3 σ3 H3 X.xe I3 (Xb ă) è go) λr s4 ⟨u,hr,h4⟩=>?_);subst hr;refine Cm hp (bV h4 λ_ s5 ⟨x,H5,I5,r5,y5,Xc,ņ⟩=>?_);have Ŋ:=I5.pinned (Xb ņ) (T.obj _ _ Xc);refine Cm hp (bV (hg _ s5 σ3 H5 x u _ Ŋ r5 (step x H5 y5)) λ_ s6 ⟨σ6,H6,I6,q6⟩=>?_);refine Cm hp (bV (hb _ s6 σ6 H6 _ I6 q6) λf s7 q7=>?_);have again:∀{σ7:St}{H7:Hp},Inv X (Z++pz fp s5.heap) σ7 H7 s7->N σ7 H7->∃m,m < n/\∃i σ' H',Inv X Z σ' H' s7/\tn i s7.heap/\(∀b∈fp,H' b=bm)/\W i m σ' H':=λ{σ7 H7} I7 n7=>by
   obtain⟨m',hm,w7⟩:=hN σ7 H7 n7;refine⟨m',hm,i+1,σ7,H7,I7.kE,T.keep _ _ _ Xc λb hb o e=>(I7.pin (b,o) (A7 _ (A7 _ (jw hb e)))).1,λb hb=>?_,w7⟩;obtain⟨o,e,d⟩:=T.obj _ _ Xc b hb;exact(I7.pin (b,o) (A7 _ (A7 _ (jw hb e)))).2.1
  cases f with
  | next=>obtain⟨σ7,H7,I7,n7⟩:=q7;exact again I7 n7
  | cont=>obtain⟨σ7,H7,I7,n7⟩:=q7;exact again I7 n7
  | brk=>obtain⟨σ7,H7,I7,q7⟩:=q7;exact⟨σ7,H7,I7.kE,q7⟩
  | ret v=>obtain⟨x7,σ7,H7,I7,r7,q7⟩:=q7;exact⟨x7,σ7,H7,I7.kE,r7,q7⟩
end
end L2
variable{i:Int}{g:Int->Int->Int}{ao:O A6}
namespace L2
abbrev R2:=V->V->Hp->VK->Prop
def iR(X:Cx)(f:bn->bn->Sem bn)(r:R2):Prop:=
 ∀(Z:O (ce×Obj)) (s:cr) (σ:St) (H:Hp) (x y:V) (v u:bn) (Q:VK),Inv X Z σ H s->RelV x v->RelV y u->r x y H Q->
  db (ev X.prog X.w) X.A (f v u) (EP X Z σ Q) X.xe s
def UnR(X:Cx)(f:bn->Sem bn)(r:V->Hp->VK->Prop):Prop:=
 ∀(Z:O (ce×Obj)) (s:cr) (σ:St) (H:Hp) (x:V) (v:bn) (Q:VK),Inv X Z σ H s->RelV x v->r x H Q->
  db (ev X.prog X.w) X.A (f v) (EP X Z σ Q) X.xe s
def bL(X:Cx)(f:bn)(r:O V->Hp->VK->Prop):Prop:=
 ∀(Z:O (ce×Obj)) (s:cr) (σ:St) (H:Hp) (xs:O V) (us:O bn) (Q:VK),Inv X Z σ H s->Vals xs us->r xs H Q->
  db (ev X.prog X.w) X.A (call f us) (EP X Z σ Q) X.xe s
def ag7(X:Cx)(r:V->Hp->(Bool->Hp->Prop)->Prop):Prop:=
 ∀(Z:O (ce×Obj)) (s:cr) (σ:St) (H:Hp) (x:V) (v:bn) (Q:Bool->Hp->Prop),Inv X Z σ H s->RelV x v->r x H Q->
  db (ev X.prog X.w) X.A (truthy v) (TP X Z σ Q) X.xe s
def W2(r:R2)(ta tb:TE):TE:=λσ H Q=>ta σ H λx H1=>tb σ H1 λy H2=>r x y H2 Q
def tUn(r:V->Hp->VK->Prop)(ta:TE):TE:=λσ H Q=>ta σ H λx H1=>r x H1 Q
def rI(C:Int->Int->Prop)(g:Int->Int->V):R2:=λx y H Q=>∃i j,x=.int i/\y=.int j/\C i j/\Q (g i j) H
def S4(g:Int->Int->V):R2:=λx y H Q=>∃i j,x=.int i/\y=.int j/\Q (g i j) H
def rU(g:Int->V):V->Hp->VK->Prop:=λx H Q=>∃i,x=.int i/\Q (g i) H
section
variable{b:kw}
def Zw(ha:PE X a ta)(hb:PE X b tb)(I:Inv X Z σ H s)
  (h:ta σ H λx H1=>tb σ H1 λy H2=>R x y H2) {f:bn->bn->Sem bn}
  (hf:∀v u s2 x y H2,Inv X Z σ H2 s2->RelV x v->RelV y u->R x y H2->db (ev X.prog X.w) X.A (f v u) Q X.xe s2) :
  db (ev X.prog X.w) X.A (lf a X.env) (λv s₁=>db (ev X.prog X.w) X.A (lf b X.env) (λu s₂=>db (ev X.prog X.w) X.A (f v u) Q X.xe s₂) X.xe s₁) X.xe s:=by
 refine bV (ha Z s σ H _ I h) λv s1 ⟨x,H1,I1,r1,q1⟩=>?_;refine bV (hb Z s1 σ H1 _ I1 q1) λu s2 ⟨y,H2,I2,r2,q2⟩=>?_;exact hf v u s2 x y H2 I2 r1 r2 q2
def K3{op:Operator}{r:R2}(ho:iR X (sn op) r)(ha:PE X a ta)(hb:PE X b tb):PE X (.BinOp a op b pos) (W2 r ta tb):=by
 intro Z s σ H Q I h;exact wpAny_BinOp (Zw ha hb I h λv u s2 x y H2 I2 rx ry q=>ho Z s2 σ H2 x y v u Q I2 rx ry q)
def abo{op:UnaryOp}{r:V->Hp->VK->Prop}(ho:UnR X (unaryOp op) r)(ha:PE X a ta):PE X (.UnaryOp op a pos) (tUn r ta):=by
 intro Z s σ H Q I h;exact UnaryOp_ (bV (ha Z s σ H _ I h) λv s1 ⟨x,H1,I1,r1,q1⟩=>ho Z s1 σ H1 x v Q I1 r1 q1)
def opI{f:bn->bn->Sem bn}{C:Int->Int->Prop}
  (rule:∀(i j:Int) (t u:Tok) (s:cr) (Q:bn->cr->Prop) (E:bn->cr->Prop),C i j->Q (.int (g i j) s.toks) {s with toks:=s.toks+1}->db (ev X.prog X.w) X.A (f (.int i t) (.int j u)) Q E s) :
  iR X f (rI C λi j=>.int (g i j)):=by
 intro Z s σ H x y v u Q I rx ry h;obtain⟨i,j,rfl,rfl,hc,q⟩:=h;obtain⟨t,rfl⟩:=rx;obtain⟨t',rfl⟩:=ry;exact rule i j t t' s _ _ hc ⟨.int (g i j),H,I.tok _,⟨_,rfl⟩,q⟩
def abB{f:bn->bn->Sem bn}
  (rule:∀(i j:Int) (t u:Tok) (s:cr) (Q:bn->cr->Prop) (E:bn->cr->Prop),Q (.int (g i j) s.toks) {s with toks:=s.toks+1}->db (ev X.prog X.w) X.A (f (.int i t) (.int j u)) Q E s) :
  iR X f (S4 λi j=>.int (g i j)):=by
 intro Z s σ H x y v u Q I rx ry h;obtain⟨i,j,rfl,rfl,q⟩:=h;obtain⟨t,rfl⟩:=rx;obtain⟨t',rfl⟩:=ry;exact rule i j t t' s _ _ ⟨.int (g i j),H,I.tok _,⟨_,rfl⟩,q⟩
def TR{f:bn->bn->Sem bn}{g:Int->Int->Bool}
  (rule:∀(i j:Int) (t u:Tok) (s:cr) (Q:bn->cr->Prop) (E:bn->cr->Prop),Q (.bool (g i j)) s->db (ev X.prog X.w) X.A (f (.int i t) (.int j u)) Q E s) :
  iR X f (S4 λi j=>.bl (g i j)):=by
 intro Z s σ H x y v u Q I rx ry h;obtain⟨i,j,rfl,rfl,q⟩:=h;obtain⟨t,rfl⟩:=rx;obtain⟨t',rfl⟩:=ry;exact rule i j t t' s _ _ ⟨.bl (g i j),H,I,rfl,q⟩
def N2(i j:Int):Prop:=0 < j/\j < 1073741824
def NZ(i j:Int):Prop:=0<=j/\j<=1000000/\i.natAbs < 2 ^ 64
def VD(i j:Int):Prop:=(-(2 ^ 64) < i/\i < 2 ^ 64)\/(-(2 ^ 64) < j/\j < 2 ^ 64)
def VD.ok{j:Int}(h:VD i j):ww i j:=by
 rcases h with⟨h1,h2⟩ | ⟨h1,h2⟩
 ·exact .of_left (intBits_le_64 h1 h2)
 ·exact .of_right (intBits_le_64 h1 h2)
def X4:iR X (sn .Add) (S4 λi j=>.int (i+j)):=abB λ_ _ _ _ _ _ _ q=>add_int q
def XW:iR X (sn .Sub) (S4 λi j=>.int (i-j)):=abB λ_ _ _ _ _ _ _ q=>sub_int q
theorem TH:iR X (sn .FloorDiv) (rI N2 λi j=>.int (i / j)):=opI λi j _ _ _ _ _ hc q=>by
 have h1:(0:Int) < j:=hc.1;have h2:j < 1073741824:=hc.2;exact floordiv_int ∅ (by rw[Int.fdiv_eq_ediv_of_nonneg i ∅];exact q) (.inl (PyProof.noPylong_small ∅))
theorem X0:iR X (sn .Mod) (rI (λ_ j=>0 < j) λi j=>.int (i % j)):=opI λi j _ _ _ _ _ hc q=>by
 have h1:(0:Int) < j:=hc;exact mod_int' ∅ (by rw[Int.fmod_eq_emod_of_nonneg i ∅];exact q)
def XY:iR X (sn .Pow) (rI NZ λi j=>.int (i ^ j.toNat)):=opI λ_ _ _ _ _ _ _ hc q=>pow_int_small hc.1 hc.2.1 hc.2.2 q
def unI{f:bn->Sem bn}{g:Int->Int}
  (rule:∀(i:Int) (t:Tok) (s:cr) (Q:bn->cr->Prop) (E:bn->cr->Prop),Q (.int (g i) s.toks) {s with toks:=s.toks+1}->db (ev X.prog X.w) X.A (f (.int i t)) Q E s) :
  UnR X f (rU λi=>.int (g i)):=by
 intro Z s σ H x v Q I rx h;obtain⟨i,rfl,q⟩:=h;obtain⟨t,rfl⟩:=rx;exact rule i t s _ _ ⟨.int (g i),H,I.tok _,⟨_,rfl⟩,q⟩
def WS:UnR X (unaryOp .USub) (rU λi=>.int (-i)):=unI λ_ _ _ _ _ q=>neg_int q
end
section
variable{b c:kw}
def Q1{Q:VK}{k k':Bool}(I:Inv X Z σ H s)(q:Q (.bl k) H)(e:k=k'):EP X Z σ Q (.bool k') s:=by
 subst e;exact⟨.bl k,H,I,rfl,q⟩
def abx:iR X (o0 .Lt) (S4 λi j=>.bl (decide (i < j))):=TR λ_ _ _ _ _ _ _ q=>lt_int q
def aby:iR X (o0 .LtE) (S4 λi j=>.bl (decide (i<=j))):=TR λ_ _ _ _ _ _ _ q=>le_int q
def abz:iR X (o0 .Gt) (S4 λi j=>.bl (decide (j < i))):=TR λ_ _ _ _ _ _ _ q=>gt_int q
def abA:iR X (o0 .GtE) (S4 λi j=>.bl (decide (j<=i))):=TR λ_ _ _ _ _ _ _ q=>ge_int q
def X1:iR X (o0 .Is) (λx y H Q=>y=.ax/\Q (.bl (decide (x=.ax))) H):=by
 intro Z s σ H x y v u Q I rx ry h;obtain⟨rfl,q⟩:=h;cases ry;refine is_none_gen (Q1 I q ?_);cases x <;> first
  | (cases rx;rfl)
  | (obtain⟨t,rfl⟩:=rx;rfl)
def Tz:iR X (o0 .IsNot) (λx y H Q=>y=.ax/\Q (.bl (!decide (x=.ax))) H):=by
 intro Z s σ H x y v u Q I rx ry h;obtain⟨rfl,q⟩:=h;cases ry;refine isnot_none_gen (Q1 I q ?_);cases x <;> first
  | (cases rx;rfl)
  | (obtain⟨t,rfl⟩:=rx;rfl)
def iR.or{f:bn->bn->Sem bn}{r r':R2}(h:iR X f r)(h':iR X f r'):iR X f (λx y H Q=>r x y H Q\/r' x y H Q):=by
 intro Z s σ H x y v u Q I rx ry q;rcases q with q | q
 ·exact h Z s σ H x y v u Q I rx ry q
 ·exact h' Z s σ H x y v u Q I rx ry q
def ju(b:kw){op:CmpOp}(h:op≠.In:=by decide)(h2:op≠.NotIn:=by decide):r9 op b=false:=by
 have e1:(op==CmpOp.In)=false:=by cases op <;> first | rfl | exact absurd rfl h
 have e2:(op==CmpOp.NotIn)=false:=by cases op <;> first | rfl | exact absurd rfl h2
 cases b <;> simp[r9,e1,e2]
def K5{op:CmpOp}{r:R2}(ho:iR X (o0 op) r)(ha:PE X a ta)(hb:PE X b tb)(hm:r9 op b=false):PE X (.Compare a [op] [b] pos) (W2 r ta tb):=by
 intro Z s σ H Q I h;exact wpAny_Compare1 (Zw ha hb I h λv u s2 x y H2 I2 rx ry q=>ho Z s2 σ H2 x y v u Q I2 rx ry q) hm
def aaD(t:TE):TT:=λσ H Q=>t σ H λx H'=>∃k,x=.bl k/\Q k H'
def nB{op:CmpOp}{r:R2}(ho:iR X (o0 op) r)(ha:PE X a ta)(hb:PE X b tb)(hm:r9 op b=false):PT X (.Compare a [op] [b] pos) (aaD (W2 r ta tb)):=by
 intro Z s σ H Q I h;refine wpAny_isTrue_Compare1 (bV (ha Z s σ H _ I h) λv s1 ⟨x,H1,I1,r1,q1⟩=>bV (hb Z s1 σ H1 _ I1 q1) λu s2 ⟨y,H2,I2,r2,q2⟩=>
  bV (ho Z s2 σ H2 x y v u _ I2 r1 r2 q2) λc s3 ⟨z,H3,I3,r3,k,e,q3⟩=>?_) hm
 subst e;cases r3;exact B8 ⟨H3,I3,q3⟩
def ZF(K:Ab)(x:V)(H:Hp)(k:Bool):Prop:=
 match x with
 | .ax=>k=false
 | .bl b=>k=b
 | .int i=>k=(i != 0)
 | .str y=>y.length<=sizeLine/\k=((y.length:Int) != 0)
 | .Zu y=>y.size<=sizeLine/\k=((y.size:Int) != 0)
 | .ref p=>(∃xs,c6 K H p xs/\k=!xs.isEmpty)\/(∃xs,dj K H p xs/\k=!xs.isEmpty)\/∃kvs,H p=ap (.dK kvs)/\k=!kvs.isEmpty
 | _=>False
def Ji{kvs:O (κ×V)}{vs:O (κ×bn)}(r:KV kvs vs):(!vs.isEmpty)=!kvs.isEmpty:=by
 cases r <;> rfl
def sV(r:Vals xs ao):(!ao.toArray.isEmpty)=!xs.isEmpty:=by
 cases r <;> simp
def xk:(sizeLine:Nat) < 2 ^ 63:=by rw[sizeLine_eq];decide
theorem WU:ag7 X (λx H Q=>∃k,ZF X.K x H k/\Q k H):=by
 intro Z s σ H x v Q I rx h;obtain⟨k,e,q⟩:=h;have hs:=sizeLine_eq;cases x with
 | ax=>
  cases rx;have e':=e;subst e';exact truthy_none ⟨H,I,q⟩
 | bl b=>
  cases rx;have e':=e;subst e';exact B8 ⟨H,I,q⟩
 | int i=>
  obtain⟨t,rfl⟩:=rx;have e':=e;subst e';exact PySem.P.truthy_int ⟨H,I,q⟩
 | str y=>
  obtain⟨t,rfl⟩:=rx;obtain⟨hy,e'⟩:y.length<=sizeLine/\k=((y.length:Int) != 0):=e;subst e';exact PySem.P.truthy_str ∅ ⟨H,I.tok _,q⟩
 | Zu y=>
  obtain⟨t,rfl⟩:=rx;obtain⟨hy,e'⟩:y.size<=sizeLine/\k=((y.size:Int) != 0):=e;subst e';exact PySem.W.truthy_bytes ∅ ⟨H,I.tok _,q⟩
 | ref p=>
  cases rx;have e':=e;rcases e' with⟨xs,hx,e'⟩ | ⟨xs,hx,e'⟩ | ⟨kvs,hx,e'⟩
  ·subst e';obtain⟨ao,r,pl,hz⟩:=I.list hx;have Á:=r.length;exact wpAny_truthy_list pl.isList (by simp only[Ah];omega) ⟨H,I.tok _,by rw[sV r];exact q⟩
  ·subst e';obtain⟨ao,r,pl,hz⟩:=I.tuple hx;have Á:=r.length;exact truthy_tuple pl (by simp only[Ah];omega) ⟨H,I.tok _,by rw[sV r];exact q⟩
  ·subst e';obtain⟨hz,hS,vs,r,m⟩:kvs.length<=sizeLine/\(p==re)=false/\∃vs,KV kvs vs/\s.heap.DictOf (bG X.prog X.w) p vs:=I.br p _ hx;have Á:=Paired.length r;exact wpAny_truthy_dict hS m ∅ ⟨H,I.tok _,by rw[Ji r];exact q⟩
 | _=>exact(show False from e).elim
def Pg(ha:PE X a ta)(he:∀Å,isTrue a X.env Å=(do let v <- Å;standAt a.pos;BT [v] (truthy v))) :
  PT X a (λσ H Q=>ta σ H λx H'=>∃k,ZF X.K x H' k/\Q k H'):=by
 intro Z s σ H Q I h;exact isTrue_plain (bV (ha Z s σ H _ I h) λv s1 ⟨x,H1,I1,r1,q1⟩=>WU Z s1 σ H1 x v Q I1 r1 q1) (he _)
def Iw:iR X (sn .Add) (λx y H Q=>∃i j,x=.str i/\y=.str j/\i.length+j.length<=sizeLine/\Q (.str (i++j)) H):=by
 intro Z s σ H x y v u Q I rx ry h;obtain⟨i,j,rfl,rfl,hz,q⟩:=h;obtain⟨t,rfl⟩:=rx;obtain⟨t',rfl⟩:=ry;exact add_str (λt' tk=>⟨.str (i++j),H,I.tok _,⟨_,rfl⟩,q⟩) hz
def vals1{x:V}(r:Vals [x] us):∃u,us=[u]/\RelV x u:=by
 cases r with
 | cons r1 r2=>cases r2;exact⟨_,rfl,r1⟩
def vals2{x:V}(r:Vals [x,y] us):∃u w',us=[u,w']/\RelV x u/\RelV y w':=by
 cases r with
 | cons r1 r2=>
  cases r2 with
  | cons r3 r4=>cases r4;exact⟨_,_,rfl,r1,r3⟩
def RK:bL X (.builtin "abs") (λxs H Q=>∃i,xs=[.int i]/\Q (.int (if i < 0 then -i else i)) H):=by
 intro Z s σ H xs us Q I r h;obtain⟨i,rfl,q⟩:=h;obtain⟨u,rfl,t,rfl⟩:=vals1 r;exact call_abs_int λu tk=>⟨.int (if i < 0 then -i else i),H,I.tok _,⟨_,rfl⟩,q⟩
def NM(hc:X.calm=true):bL X (.builtin "max") (λxs H Q=>∃i j,xs=[.int i,.int j]/\Q (.int (if j > i then j else i)) H):=by
 intro Z s σ H xs us Q I r h;obtain⟨i,j,rfl,q⟩:=h;obtain⟨u,w',rfl,⟨t,rfl⟩,⟨t',rfl⟩⟩:=vals2 r;refine max_two_ints (I.ok.hd hc) λh' tk k=>⟨_,H,I.kept k,?_,q⟩;by_cases hj:j > i
 ·rw[if_pos hj,if_pos hj];exact⟨_,rfl⟩
 ·rw[if_neg hj,if_neg hj];exact⟨_,rfl⟩
def NL(hc:X.calm=true):bL X (.builtin "min") (λxs H Q=>∃i j,xs=[.int i,.int j]/\Q (.int (if j < i then j else i)) H):=by
 intro Z s σ H xs us Q I r h;obtain⟨i,j,rfl,q⟩:=h;obtain⟨u,w',rfl,⟨t,rfl⟩,⟨t',rfl⟩⟩:=vals2 r;refine min_two_ints (I.ok.hd hc) λh' tk k=>⟨_,H,I.kept k,?_,q⟩;by_cases hj:j < i
 ·rw[if_pos hj,if_pos hj];exact⟨_,rfl⟩
 ·rw[if_neg hj,if_neg hj];exact⟨_,rfl⟩
def NP:bL X (.type "int") (λxs H Q=>(∃i,xs=[.int i]/\Q (.int i) H)\/∃k,xs=[.bl k]/\Q (.int (if k then 1 else 0)) H):=by
 intro Z s σ H xs us Q I r h;rcases h with⟨i,rfl,q⟩ | ⟨k,rfl,q⟩
 ·obtain⟨u,rfl,t,rfl⟩:=vals1 r;exact call_int_int ⟨.int i,H,I,⟨_,rfl⟩,q⟩
 ·obtain⟨u,rfl,r1⟩:=vals1 r;cases r1;exact call_int_bool ⟨.int (if k then 1 else 0),H,I.tok _,⟨_,rfl⟩,q⟩
def adl(K:Ab)(x:V)(H:Hp)(n:Nat):Prop:=
 match x with
 | .str y=>y.length<=sizeLine/\n=y.length
 | .Zu y=>y.size<=sizeLine/\n=y.size
 | .ref p=>(∃xs,c6 K H p xs/\n=xs.length)\/∃xs,dj K H p xs/\n=xs.length
 | _=>False
theorem RJ:bL X (.builtin "len") (λxs H Q=>∃x n,xs=[x]/\adl X.K x H n/\Q (.int n) H):=by
 intro Z s σ H xs us Q I r h;obtain⟨x,n,rfl,e,q⟩:=h;obtain⟨u,rfl,rx⟩:=vals1 r;have hs:=sizeLine_eq;cases x with
 | str y=>
  obtain⟨t,rfl⟩:=rx;obtain⟨hy,e'⟩:y.length<=sizeLine/\n=y.length:=e;subst e';exact len_str ∅ ⟨.int _,H,I.tok _,⟨_,rfl⟩,q⟩
 | Zu y=>
  obtain⟨t,rfl⟩:=rx;obtain⟨hy,e'⟩:y.size<=sizeLine/\n=y.size:=e;subst e';exact PySem.W.len_bytes ∅ ⟨.int _,H,I.tok _,⟨_,rfl⟩,q⟩
 | ref p=>
  cases rx;have e':=e;rcases e' with⟨xs,hx,e'⟩ | ⟨xs,hx,e'⟩
  ·subst e';obtain⟨ao,r',pl,hz⟩:=I.list hx;have Á:=r'.length;exact Calls.call_len_list pl.isList (by simp only[Ah];omega) ⟨.int xs.length,H,I.tok _,⟨_,by simp only[Ah];rw[Á]⟩,q⟩
  ·subst e';obtain⟨ao,r',pl,hz⟩:=I.tuple hx;have Á:=r'.length;exact len_tuple pl (by simp only[Ah];omega) ⟨.int xs.length,H,I.tok _,⟨_,by simp only[Ah];rw[Á]⟩,q⟩
 | _=>exact(show False from e).elim
end
end L2
variable{a:BD}{mA:B7->Option A6}
namespace L2
structure ZI(h:lm)(x dx C:ce)(mA:Str->Option bn):Prop where
 obj:h.get? x=ap (E5 C dx)
 ns:h.Ns1 dx mA
 ne:dx≠x
def MW{dx:ce}(n:h.Ns1 dx mA):∃od,h.get? dx=ap od/\∀name,Fm name od=ap (mA name):=by
 obtain⟨o,es,ep,ho,hd,hk,_,hm⟩:=n;refine⟨o,ho,λname=>?_⟩;have e:=hm name;unfold nsFind findBy at e;rw[<- Array.find?_toList]at e;unfold Fm;rw[hd];dsimp only
 split
 ·rename_i y q;rw[q]at e;exact congrArg ap e
 ·rename_i q;rw[q]at e;have a:es.toList.any (·.refKey)=false:=by
   rw[List.any_eq_false];intro y hy;obtain⟨z,t,agn⟩:=hk y (Array.mem_toList_iff.mp hy);simp[DictEntry.refKey,agn]
  have a':¬es.toList.any (·.refKey)=true:=by rw[a];exact A4
  rw[if_neg a'];exact congrArg ap e
def ZI.look{x dx C:ce}(I:ZI h x dx C mA):∃od,PySem.W.InstAt h x (E5 C dx) C (ap od)/\∀name,Fm name od=ap (mA name):=
 let ⟨od,ho,hl⟩:=MW I.ns
 ⟨od,⟨I.obj,rfl,rfl,ho⟩,hl⟩
def uh.some_of{o:Option bn}(r:uh (ap v) o):∃u,o=ap u/\RelV v u:=by
 cases o with
 | none=>exact(show False from r).elim
 | some u=>exact⟨u,rfl,r⟩
section
variable{C dx:ce}{fs:O (Str×V)}
def UC(br:lY P w H h)(e:H a=ap (.ins C dx fs)):∃mA,ZI h a dx C mA/\(∀f,uh (fs.lookup f) (mA f))/\PySem.Within mA (fs.map (·.1))/\fs.length<=1000/\H dx=ap (.own a):=by
 obtain⟨d,z,ne,ob,mA,n,r,q⟩:=(show a6 P w H h a (.ins C dx fs) from br a _ e);exact⟨mA,⟨ob,n,ne⟩,r,q,z,d⟩
end
structure Cls(K:Ab)(C:ce):Prop where
 pg:FR K C Str.empty=true
 hd:PySem.W.hasDictIn K C=true
 po:PySem.W.plainOver K C=true
 sa:PySem.W.findIn K (.ref C) "__setattr__"=ap (ap (.builtin "object.__setattr__"))
def Cls.get{K:Ab}{C:ce}(c:Cls K C)(f:Str):FR K C f=true:=c.pg
section
variable{c:bn}{b:Bool}
inductive lB(K:Ab)(H:Hp):V->bn->Prop where
 | ax:lB K H .ax (.type "NoneType")
 | bl (x:Bool):lB K H (.bl x) (.type "bool")
 | int (i:Int):lB K H (.int i) (.type "int")
 | str (x:Str):lB K H (.str x) (.type "str")
 | Z5 (x:UInt64):lB K H (.Z5 x) (.type "float")
 | lst {a:ce}{xs:List V} (e:H a=ap (.lst xs)):lB K H (.ref a) (.type "list")
 | cq {a:ce}{o:Obj}{xs:List V} (e:H a=ap (.cq o (.lst xs))):lB K H (.ref a) (.type "list")
 | tup {a:ce}{xs:List V} (e:H a=ap (.tup xs)):lB K H (.ref a) (.type "tuple")
 | dK {a:ce}{kvs:List (Key×V)} (e:H a=ap (.dK kvs)):lB K H (.ref a) (.type "dict")
 | dT {a:ce}{kvs:List (List Key×V)} (e:H a=ap (.dT kvs)):lB K H (.ref a) (.type "dict")
 | ins {a C dx:ce}{fs:List (Str×V)} (e:H a=ap (.ins C dx fs)) (cl:Cls K C) (ha:PySem.W.findIn K (.ref C) "__class__"=ap (ap (.builtin "object.__class__")))
   (hn:PySem.W.specialIn K (.builtin "object.__class__") "__get__"=ap (ap (.builtin "getset_descriptor.__get__"))) (htk:PySem.W.takesIn K (.builtin "object.__class__")=ap true)
   (hm:PySem.W.mroIn K C (.type "object")=ap true):lB K H (.ref a) (.ref C)
def M8{x:V}{t:bn}(I:Inv X Z σ H s)(rx:RelV x u)(ty:lB X.K H x t)(e:Bo X.K t c=ap b)(h:∀tk,Q (.bool b) {s with toks:=tk}) :
  db (ev X.prog X.w) A (call (.builtin "isinstance") [u,c]) Q E s:=by
 cases ty with
 | ax=>cases (show u=AU from rx);exact Ba PySem.W.kitx_none I.vE Cg e (λz=>nomatch z) h
 | bl y=>cases (show u=CW y from rx);exact Ba PySem.W.kitx_bool I.vE Cg e (λz=>nomatch z) h
 | int i=>obtain⟨t,q⟩:=(show ∃t,u=Di i t from rx);cases q;exact Ba PySem.W.kitx_int I.vE Cg e (λz=>nomatch z) h
 | str y=>obtain⟨t,q⟩:=(show ∃t,u=Bb y t from rx);cases q;exact Ba PySem.W.kitx_str I.vE Cg e (λz=>nomatch z) h
 | Z5 y=>obtain⟨t,q⟩:=(show ∃t,u=Value.float y t from rx);cases q;exact Ba PySem.W.kitx_float I.vE Cg e (λz=>nomatch z) h
 | @lst a xs ea=>
  cases (show u=Az a from rx);obtain⟨_,_,n,_,h1⟩:=(show a6 X.prog X.w H s.heap a (.lst xs) from I.br a _ ea);exact Ba Er I.vE ⟨_,h1,rfl⟩ e (λz=>nomatch z) h
 | @cq a ob xs ea=>
  cases (show u=Az a from rx);obtain⟨_,_,_,n,_,h1⟩:=(show a6 X.prog X.w H s.heap a (.cq ob (.lst xs)) from I.br a _ ea);exact Ba Er I.vE ⟨_,h1,rfl⟩ e (λz=>nomatch z) h
 | @tup a xs ea=>
  cases (show u=Az a from rx);obtain⟨_,_,_,p⟩:=(show a6 X.prog X.w H s.heap a (.tup xs) from I.br a _ ea);obtain⟨o,h1,h2,_⟩:=p;exact Ba FK I.vE ⟨o,h1,h2⟩ e (λz=>nomatch z) h
 | @dK a kvs ea=>
  cases (show u=Az a from rx);obtain⟨_,_,vs,_,p⟩:=(show a6 X.prog X.w H s.heap a (.dK kvs) from I.br a _ ea);obtain⟨o,es,ep,h1,h2,_⟩:=p;exact Ba Es I.vE ⟨o,h1,h2.1⟩ e (λz=>nomatch z) h
 | @dT a kvs ea=>
  cases (show u=Az a from rx);obtain⟨_,_,xs,_,o,es,ep,h1,h2,_⟩:=(show a6 X.prog X.w H s.heap a (.dT kvs) from I.br a _ ea);exact Ba Es I.vE ⟨o,h1,h2.1⟩ e (λz=>nomatch z) h
 | @ins a C dx fs ea cl ha hn htk hm=>
  cases (show u=Az a from rx);obtain⟨mA,O_,_⟩:=UC I.br ea;obtain⟨od,J,_⟩:=O_.look;exact Ba (PySem.W.kitx_own (cl.get _) cl.hd ha hn htk hm) I.vE J e (λz=>nomatch z) h
end
end L2
variable{v Ç pm fv ct oc:A6}{vs:O L2.V}{mg:B7->Option A6}{base:FO}{fd:PySem.FuncData}{ps:O B7}{Â:Cd}{sc scope:PySem.Scope}{qual:B7}{an od:Option BD}{Sa:Array (Option A6)}
namespace L2
structure fh(k:Nat)(A:u8):Prop where
 hd:A.handled=bm
 dp:A.depth+3*k+5 < recursionLimit
 un:A.units+16*k+200 < pc
 gd:A.guards=ap []
theorem fh.mono(r:fh k A)(h:j<=k):fh j A:=⟨r.hd,by have:=r.dp;omega,by have:=r.un;omega,r.gd⟩
theorem fh.deeper(r:fh (k+1) A)(env:Env):fh k (A.deeper env):=
 ⟨r.hd,by have:=r.dp;show A.depth+1+3*k+5 < _;omega,by have:=r.un;show A.units+3+16*k+200 < _;omega,r.gd⟩
theorem fh.depth(r:fh k A):A.depth < recursionLimit:=by have:=r.dp;omega
def aaH:TA:=λ_ H Q=>Q [] H
def VG(ta:TE)(tr:TA):TA:=λσ H Q=>ta σ H λx H1=>tr σ H1 λxs H2=>Q (x::xs) H2
section
variable{t:TA}
def bO:PA X [] aaH:=λ_ _ _ _ H Q I h=>CP ⟨[],H,I,.nil,h⟩
def aW(ha:PE X e te)(hr:PA X es t)(hs:gZ X e es:=by rfl):PA X (e::es) (VG te t):=by
 intro pos Z s σ H Q I h;rw[hs];refine Cj (bV (ha Z s σ H _ I h) λu s1 ⟨x,H1,I1,r1,q1⟩=>?_);exact bV (hr pos Z s1 σ H1 _ I1 q1) λus s2 ⟨xs,H2,I2,r2,q2⟩=>⟨x::xs,H2,I2,.cons r1 r2,q2⟩
end
abbrev Sp:=O V->Hp->VK->XK->Prop
abbrev R6:=O Env->Hp->cr->XK->bn->cr->Prop
structure VA(P:sw)(w:tz)(K:Ab)(mg:Str->Option bn)(base:lm)(A:u8)(outer:List Env)(s:cr)(H:Hp):Prop where
 frames:A.frames=ap outer
 mod:Mod K mg base
 bs:∀b o,base.get? b=ap o->s.heap.get? b=ap o/\H b=bm
 WC:base.objs.size<=s.heap.objs.size
 tB:s.heap.FunFrames base outer
 Z2:∀b∈Oa outer,H b=bm
 br:lY P w H s.heap
 bare:FB s.gens
def CE(outer:O Env)(P:sw)(w:tz)(H:Hp)(s:cr)(Q:VK)(u:bn)(s':cr):Prop:=
 ∃v H',s'.os=s.os/\FB s'.gens/\Un (Oa outer) [] H H' s.heap s'.heap/\lY P w H' s'.heap/\RelV v u/\Q v H'
def CR(CX:R6)(outer:O Env)(P:sw)(w:tz)(H:Hp)(s:cr)(Q:VK)(E:XK)(r:Result)(s':cr):Prop:=
 match r with
 | .ok (.ret u)=>CE outer P w H s Q u s'
 | .ok _=>False
 | .error e=>CX outer H s E e s'
structure g8(P:sw)(w:tz)(K:Ab)(mg:Str->Option bn)(base:lm)(CX:R6)(k:Nat)(f:ce)(fd:Fa)(ps:List Str)(sp:Sp):Prop where
 len:∀vs H Q E,sp vs H Q E->vs.length=ps.length
 run:∀(A:u8) (outer:List Env) (s:cr) (H:Hp) (args:Args) (us:List bn) (vs:List V) (Q:VK) (E:XK),fh k A->VA P w K mg base A outer s H->BindsTo s fd args (ps.zip us)->Vals vs us->sp vs H Q E->
  Da (ev P w) A (.call (.ref f) args) (CR CX outer P w H s Q E) s
def g8.imp{K:Ab}{CX:R6}{f:ce}{sp sp':Sp}(F:g8 P w K mg base CX k f fd ps sp)
  (h:∀vs H Q E,sp' vs H Q E->sp vs H Q E):g8 P w K mg base CX k f fd ps sp':=
 ⟨λvs H Q E q=>F.len vs H Q E (h _ _ _ _ q),λA outer s H args us vs Q E hr he hb hv hs=>F.run A outer s H args us vs Q E hr he hb hv (h _ _ _ _ hs)⟩
section
def Inv.agZ(I:Inv X Z σ H s):VA X.prog X.w X.K X.mg X.base X.A X.stack s H:=
 ⟨I.ok.frames,I.ok.mod,I.bs,Bv I.ok.WC I.sz,I.stack,I.KD,I.br,I.bare⟩
def Inv.after{Q:VK}(I:Inv X Z σ H s)(h:CE X.stack X.prog X.w H s Q u s'):EP X Z σ Q u s':=by
 obtain⟨v,H',os,bare,un,br,r,q⟩:=h;obtain⟨hh,g,d,t,os'⟩:=s';obtain rfl:os'=s.os:=os;exact⟨v,H',I.call (h':=hh) (g':=g) (d':=d) (t':=t) (ch:=[]) un br bare (λb z=>absurd z (by simp)),r,q⟩
end
def Binds(K:Ab)(fd:Fa)(ps:O Str)(ds:O bn):Prop:=
 ∀(s:cr) (us:O bn),K.In s.heap->(us++ds).length=ps.length->BindsTo s fd ⟨us,[]⟩ (ps.zip (us++ds))
def Binds.all{K:Ab}(h:∀us:O bn,us.length=ps.length->bindArgs fd ⟨us,[]⟩=pure (ps.zip us)):Binds K fd ps []:=λs us _ hl=>by
 rw[CJ]at hl ⊢;exact .of_eq (h us hl)
def Passes(CX:R6)(X:Cx)(E:XK):Prop:=∀(Z:O (ce×Obj)) (σ:St) (H:Hp) (s:cr) (e:bn) (s':cr),Inv X Z σ H s->CX X.stack H s E e s'->X.xe e s'
section
variable{CX:R6}{f:ce}{sp:Sp}{dvs:O V}{ds:O bn}{E:XK}
def Xk{Q:VK}(F:g8 X.prog X.w X.K X.mg X.base CX k f fd ps sp)(hr:fh k X.A)(hb:Binds X.K fd ps ds)(hd:Vals dvs ds)(hx:Passes CX X E)
  (I:Inv X Z σ H s) (r:Vals vs us) (h:sp (vs++dvs) H Q E):db (ev X.prog X.w) X.A (call (.ref f) us) (EP X Z σ Q) X.xe s:=by
 have r2:Vals (vs++dvs) (us++ds):=r.append hd;have hl:(us++ds).length=ps.length:=by rw[<- r2.length];exact F.len _ _ _ _ h
 refine wpAny_call (codeAny_mono (F.run X.A X.stack s H ⟨us,[]⟩ (us++ds) (vs++dvs) Q E hr I.agZ (hb s us I.vE hl) r2 h) λr s' hq=>?_);cases r with
 | error e=>exact hx Z σ H s e s' I hq
 | ok fl=>
  cases fl with
  | ret u=>exact I.after hq
  | next=>exact Br hq
  | brk=>exact Br hq
  | cont=>exact Br hq
end
structure cY(N P:List Str)(sc:nw):Prop where
 kind:sc.kind=.function
 co:sc.isCoroutine=false
 gen:sc.isGenerator=false
 nd:N.Nodup
 pre:N.take P.length=P
 par:∀x∈P,sc.names.lookup x=ap .local\/sc.names.lookup x=ap .cell
 Ya:∀y∈sc.names,y.2≠.free
theorem vW{kindOf:Str->Option wv}:∀{binds:O (Str×bn)}{m:Str->Option bn},(∀v,(x,v)∉binds)->bindL kindOf binds m x=m x
 | [],_,_=>rfl
 | (n,v)::r,m,h=>by
  unfold bindL;rw[vW λw hw=>h w (AZ _ hw)]
  split
  ·have:x≠n:=by rintro rfl;exact h v Bu
   simp[this]
  ·rfl
theorem vY{kindOf:Str->Option wv}:∀{binds:O (Str×bn)}{m:Str->Option bn},(∀v,(x,v)∉binds)->bindC kindOf binds m x=m x
 | [],_,_=>rfl
 | (n,v)::r,m,h=>by
  unfold bindC;rw[vY λw hw=>h w (AZ _ hw)]
  split
  ·rfl
  ·have:x≠n:=by rintro rfl;exact h v Bu
   simp[this]
theorem vX{kindOf:Str->Option wv}:∀{P:O Str}{vs:O bn}{i:Nat}{m:Str->Option bn},P.Nodup->P[i]?=ap x->vs[i]?=ap v->kindOf x=ap .local->
  bindL kindOf (P.zip vs) m x=ap v
 | [],_,_,_,_,h,_,_=>by simp at h
 | _::_,[],_,_,_,_,h,_=>by simp at h
 | p::P,w::vs,0,m,nd,h1,h2,hk=>by
  simp at h1 h2;subst h1;subst h2;show bindL kindOf ((p,w)::P.zip vs) m p=_;unfold bindL;rw[vW λv hv=>(DV.mp nd).1 (Fc hv).1,if_pos hk];simp
 | p::P,w::vs,i+1,m,nd,h1,h2,hk=>by
  show bindL kindOf ((p,w)::P.zip vs) m x=_;unfold bindL;exact vX (i:=i) (DV.mp nd).2 (by simpa using h1) (by simpa using h2) hk
theorem vZ{kindOf:Str->Option wv}:∀{P:O Str}{vs:O bn}{i:Nat}{m:Str->Option bn},P.Nodup->P[i]?=ap x->vs[i]?=ap v->kindOf x≠ap .local->
  bindC kindOf (P.zip vs) m x=ap v
 | [],_,_,_,_,h,_,_=>by simp at h
 | _::_,[],_,_,_,_,h,_=>by simp at h
 | p::P,w::vs,0,m,nd,h1,h2,hk=>by
  simp at h1 h2;subst h1;subst h2;show bindC kindOf ((p,w)::P.zip vs) m p=_;unfold bindC;rw[vY λv hv=>(DV.mp nd).1 (Fc hv).1,if_neg hk];simp
 | p::P,w::vs,i+1,m,nd,h1,h2,hk=>by
  show bindC kindOf ((p,w)::P.zip vs) m x=_;unfold bindC;exact vZ (i:=i) (DV.mp nd).2 (by simpa using h1) (by simpa using h2) hk
def start(N:O Str)(vs:O V):St:=vs.map ap++An (N.length-vs.length) bm
def uU(CX:R6)(P:sw)(w:tz)(K:Ab)(mg:Str->Option bn)(base:lm)(N:O Str)(qual:Str)(scope:nw)(f:ce)(cd:bn)(A:u8)(outer:O Env)(s:cr)(H:Hp)(E:XK):Cx where
 prog:=P
 w:=w
 K:=K
 mg:=mg
 base:=base
 A:=A.deeper (xz qual scope s.heap.objs.size f cd)
 N:=N
 s₀:=s
 H₀:=H
 env:=xz qual scope s.heap.objs.size f cd
 outer:=outer
 stack:=xz qual scope s.heap.objs.size f cd::outer
 ex:=[]
 calm:=true
 fn:=λ_=>true
 pn:=[]
 xe:=λe s'=>db (ev P w) (A.deeper (xz qual scope s.heap.objs.size f cd)) (leaving (xz qual scope s.heap.objs.size f cd) e) (λ_ ë=>CX outer H s E e ë) (λe' ë=>CX outer H s E e' ë) s'
def Ho(h:sc.names.lookup x=ap .cell):∃c,(cellsFrom n sc.names []).lookup x=ap c:=by
 have q:=EN sc.names n [] (.inl h);exact Option.isSome_iff_exists.mp q
theorem Na{CX:R6}{K:Ab}{N:O Str}{f:ce}{cd:bn}{outer:O Env}{s1:cr}{E:XK}
  (S:cY N ps scope) (hd:A.handled=bm) (e0:VA P w K mg base A outer s H) (hl:vs.length=ps.length) (r:Vals vs us)
  (x:InCallC s s.heap.objs.size (bindL (xz qual scope s.heap.objs.size f cd).kindOf (ps.zip us) λ_=>bm) (cellsFrom (s.heap.objs.size+1) scope.names []) (bindC (xz qual scope s.heap.objs.size f cd).kindOf (ps.zip us) λ_=>bm) s1) :
  Inv (uU CX P w K mg base N qual scope f cd A outer s H E) [] (start N vs) H s1:=by
 have c9:ps.length<=N.length:=by have:=congrArg BR S.pre;rw[BG]at this;omega
 obtain⟨h1,tk,rfl,hk⟩:=x.done;have ñ:∀b:ce,b∉(uU CX P w K mg base N qual scope f cd A outer s H E).ex:=λb z=>absurd (show b∈([]:O ce) from z) (by simp);refine⟨⟨e0.mod,S.kind,rfl,rfl,Am _,λy z c h1 h2=>?_,λy hy=>?_,λy c _ h=>?_,λ_=>hd,Around.frames_deeper e0.frames,.inr ⟨rfl,rfl⟩,λb z=>absurd z (ñ b),e0.bs,e0.WC,λb _ _=>ñ b,λb z=>absurd z (ñ b),e0.tB,e0.Z2⟩,
  rfl,e0.bare,Un.kept hk,⟨_,x.toInCall.ns,λi y v h1 h2 h3=>?_⟩,λy c h=>⟨_,x.cell y c h⟩,e0.br.fresh (Am _),λy c h=>?_,λp hp=>absurd (show p∈([]:O (ce×Obj)) from hp) (by simp),e0.br.kept hk,?_⟩
 ·exact name_of_addr x.apart (BM h1) (BM h2)
 ·rcases hy with hy | hy
  ·exact Ho hy
  ·exact absurd rfl (S.Ya _ (BM hy))
 ·exact D4 (x.above y c (BM h))
 ·have hi:i < vs.length:=by
   unfold start at h2;by_cases hi:i < vs.length
   ·exact hi
   ·rw[A1 (by simpa using hi)]at h2;rw[Bs]at h2
    split at h2 <;> cases h2
  have ha:vs[i]?=ap v:=by
   unfold start at h2;rw[AR (by simpa using hi),Al]at h2;cases e:vs[i]? with
   | none=>rw[e]at h2;cases h2
   | some a=>rw[e]at h2;cases h2;rfl
  obtain⟨u,hu,rv⟩:=r.get ha;have hp:ps[i]?=ap y:=by
   rw[<- S.pre,List.getElem?_take_of_lt ∅];exact h1
  have ndP:ps.Nodup:=by rw[<- S.pre];exact S.nd.sublist (List.take_sublist _ _)
  refine⟨u,rv,?_⟩;rcases S.par y (Be hp) with k | k
  ·exact .inl ⟨k,vX ndP hp hu k⟩
  ·obtain⟨c,e⟩:=Ho (n:=s.heap.objs.size+1) k;refine .inr ⟨.inl k,c,e,?_⟩;have q:=x.cell y c e;rw[vZ ndP hp hu (by show scope.names.lookup y≠_;rw[k];decide)]at q;exact q
 ·exact e0.br.fresh (D4 (x.above y c (BM h)))
 ·unfold start;show _=N.length;rw[Ai,Af,Bq];omega
def acM{CX:R6}{K:Ab}{f:ce}{name:Str}{params:Arguments}{dV kV:bn}{N:O Str}{sp:Sp}(lk:K.lookup f=ap ⟨oc,od,.func (BZ name qual params body scope dV kV Ç pm an fv ct),Sa⟩)(jc:D7 K fv qual=true)(S:cY N ps scope)
  (len:∀vs H Q E,sp vs H Q E->vs.length=ps.length)
  (QL:∀(A:u8) (outer:O Env) (s:cr) (H:Hp) (vs:O V) (Q:VK) (E:XK),fh k (A.deeper (xz qual scope s.heap.objs.size f fv))->sp vs H Q E->
   ∃t,rE (uU CX P w K mg base N qual scope f fv A outer s H E) body t/\t {nx:=λ_ H'=>Q .ax H',rt:=Q} (start N vs) H) :
  g8 P w K mg base CX (k+1) f (BZ name qual params body scope dV kV Ç pm an fv ct) ps sp:=by
 refine⟨len,λA outer s H args us vs Q E hr e0 hb r UH=>?_⟩;have hl:=len _ _ _ _ UH;have KX:K.In s.heap:=e0.mod.kin.keeps λb o e=>(e0.bs b o e).1;have lim:s.heap.NoLimit:=e0.mod.nolimit.keeps λb o e=>(e0.bs b o e).1;have acm:∀y∈ps.zip us,scope.names.lookup y.1=ap .local\/(scope.names.lookup y.1=ap .cell/\((cellsFrom (s.heap.objs.size+1) scope.names []).lookup y.1).isSome=true):=λ⟨n,v⟩ hy=>by
  rcases S.par n (Fc hy).1 with q | q
  ·exact .inl q
  ·exact .inr ⟨q,EN _ _ _ (.inl q)⟩
 refine codeAny_call_function hr.depth (KX _ _ lk) rfl S.co S.gen rfl (PySem.W.codeRec_of KX jc) (hb _ _ _ _ ?_);refine wpAny_newFunctionEnv_cells S.kind acm λenv he s1 x=>?_;subst he;refine⟨lim.keeps x.toInCall.keep,codeAny_func ?_⟩;obtain⟨t,ht,hq⟩:=QL A outer s H vs Q E (hr.deeper _) UH;have I:Inv (uU CX P w K mg base N qual scope f fv A outer s H E) [] (start N vs) H s1:=Na S hr.hd e0 hl r x;refine BL (ht [] s1 (start N vs) H _ I hq) (λfl s' hs=>?_) λe s' hs=>hs;have fin:∀{σ':St}{H':Hp}{v:V}{u:bn},Inv (uU CX P w K mg base N qual scope f fv A outer s H E) [] σ' H' s'->RelV v u->Q v H'->CE outer P w H s Q u s':=
  λ{σ' H' v u} J rv q=>⟨v,H',J.os,J.bare,J.base,J.br,rv,q⟩
 cases fl with
 | ret u=>
  obtain⟨v,σ',H',J,rv,q⟩:=hs;exact fin J rv q
 | next=>
  obtain⟨σ',H',J,q⟩:=hs;exact fin (v:=V.ax) (u:=AU) J rfl q
 | brk=>
  obtain⟨_,_,_,q⟩:=hs;exact Br q
 | cont=>
  obtain⟨_,_,_,q⟩:=hs;exact Br q
end L2
variable{T:String}
namespace L2
section
variable{t:TA}{id:String}{r:O V->Hp->VK->Prop}
def tCB(r:O V->Hp->VK->Prop)(t:TA):TE:=λσ H Q=>t σ H λvs H1=>r vs H1 Q
def dD(hc:bL X (.builtin id) r)(hg:Gl X x)(hm:X.mg x=bm)(hv:lw x=ap (.builtin id))(ha:PA X (e::es) t)(hn:x≠"__name__":=by decide)(oq:jh x:=by decide)
  (he:gZ X e es:=by rfl) (c9:lF X pos es:=by rfl):PE X (.Call (.Name x p) (e::es) [] pos) (tCB r t):=by
 intro Z s σ H Q I h;refine BE (iD I hg hm hv ?_ hn oq);exact PyProof.Rows.callWith_builtin1 (bV (ha pos Z s σ H _ I h) λus s1 ⟨vs,H1,I1,r1,q1⟩=>hc Z s1 σ H1 vs us Q I1 r1 q1) he c9
def iX(hc:bL X (.type T) r)(hg:Gl X x)(hm:X.mg x=bm)(hv:lw x=ap (.type T))(ha:PA X (e::es) t)(hn:x≠"__name__":=by decide)(oq:jh x:=by decide)
  (he:gZ X e es:=by rfl) (c9:lF X pos es:=by rfl):PE X (.Call (.Name x p) (e::es) [] pos) (tCB r t):=by
 intro Z s σ H Q I h;refine BE (iD I hg hm hv ?_ hn oq);exact Bi (bV (ha pos Z s σ H _ I h) λus s1 ⟨vs,H1,I1,r1,q1⟩=>hc Z s1 σ H1 vs us Q I1 r1 q1) he c9
end
end L2
variable{l:BD}{hi:Option Int}{prog:PySem.Program}{items:Array A6}{ns ms:O Int}{vl vu:A6}
namespace HT
open PySem PyProof.Rows
def lexLt:O Int->O Int->Bool
 | [],[]=>false
 | [],_::_=>true
 | _::_,[]=>false
 | x::xs,y::ys=>if x=y then lexLt xs ys else decide (x < y)
theorem IL(x y:Int)(xs ys:O Int):lexLt (x::xs) (y::ys)=if x=y then lexLt xs ys else decide (x < y):=rfl
def Rk(A:u8)(s:cr)(a:Int)(t:Tok)(c:Int)(u:Tok):∃e,CY A s (.int a t) (.int c u) e/\(e=true↔a=c):=
 ⟨(a==c),Ea a t c u,by simp⟩
def O4(A:u8)(s:cr)(a:Int)(t:Tok)(c:Int)(u:Tok)(prog:sw)(w:tz)(E:bn->cr->Prop)(Q:bn->cr->Prop)(h:Q (.bool (decide (a < c))) s) :
  db (ev prog w) A (richCompare .Lt (.int a t) (.int c u)) Q E s:=
 (PyProof.Rows.lt_int h:db (ev prog w) A (o0 .Lt (.int a t) (.int c u)) Q E s)
section
open PySem.SeqAt
open PySem.AutoSeq1 (wpAny_loadPart')
open PySem.MeetsSeq PySem.MeetsSeq2 PySem.MeetsSeq3
theorem uv(l b:ce)(items bU:Array bn)(n n2:Nat)(dd Vb:Option ce)(sl R9:Array (Option bn))(ns ms:O Int)(hi:tt items.toList ns)(hj:tt bU.toList ms) :
  Meets (vD.«tuple.__lt__» ⟨[.ref l,.ref b],[]⟩)
   (λ_ R s=>s.heap.get? l=ap {cls:=.type "tuple",dict:=dd,data:=.seq items n,slots:=sl}/\s.heap.get? b=ap {cls:=.type "tuple",dict:=Vb,data:=.seq bU n2,slots:=R9}/\
    R (.ok (.ret (.bool (lexLt ns ms)))) s):=
 .of_wp λprog w A R s h=>by
  obtain⟨hp,g,d,tk,os⟩:=s;obtain⟨hl,hb,h⟩:=h;have f2:=AutoSeq1.sub_tuple_tuple;have z1:items.size=ns.length:=by rw[<- hi.length];simp
  have z2:bU.size=ms.length:=by rw[<- hj.length];simp
  wp_walk using wpAny_loadPart' hl,wpAny_loadPart' hb,wpAny_forIn_list _ (λrest b s'=>b.1=bm/\s'=⟨hp,g,d,tk,os⟩/\∃(vs ws:O bn) (Gd ZR:O Int),rest=vs.zip ws/\
   tt vs Gd/\tt ws ZR/\Gd.length+bU.size=ZR.length+items.size/\R (.ok (.ret (.bool (lexLt Gd ZR)))) ⟨hp,g,d,tk,os⟩) _
  case turn=>
   rintro⟨y,x⟩ rest b s' ⟨ě,rfl,vs,ws,Gd,ZR,hz,hvi,hwi,Á,hR⟩;cases hvi with
   | nil=>rw[List.zip_nil_left]at hz;cases hz
   | cons a t af4=>
    cases hwi with
    | nil=>rw[List.zip_nil_right]at hz;cases hz
    | cons c u af3=>
     rw[List.zip_cons_cons]at hz;injection hz with hyx acf;injection hyx with hy hx;subst hy hx;rw[IL]at hR;simp only[Ar]at Á;obtain⟨e,he,acq⟩:=Rk A.in1 ⟨hp,g,d,tk,os⟩ a t c u;refine Aa (he prog w _ _ ?_);cases e with
     | true=>
      rw[if_pos (acq.mp rfl)]at hR
      wp_walk
      exact⟨rfl,rfl,_,_,_,_,acf,af4,af3,by omega,hR⟩
     | false=>
      rw[if_neg (λq=>absurd (acq.mpr q) A4)]at hR;have hri:=O4 A.in1 ⟨hp,g,d,tk,os⟩ a t c u prog w
      wp_walk using hri
      exact⟨_,rfl,by simpa using hR⟩
  case fin=>
   rintro⟨b1,b2⟩ s' ⟨ě,rfl,vs,ws,Gd,ZR,hz,hvi,hwi,Á,hR⟩;simp only at ě;subst ě;have hv:lexLt Gd ZR=decide (items.size < bU.size):=by
    cases hvi with
    | nil=>
     cases hwi with
     | nil=>
      exact(decide_eq_false ∅).symm
     | cons c u hw=>
      simp only[Bp,Ar]at Á;exact(decide_eq_true ∅).symm
    | cons a t hv=>
     cases hwi with
     | nil=>
      simp only[Bp,Ar]at Á;exact(decide_eq_false ∅).symm
     | cons c u hw=>
      rw[List.zip_cons_cons]at hz;cases hz
   rw[hv]at hR
   wp_walk
   exact⟨_,rfl,by simpa[Builtin.Tuple.tupleCompareSizes]using hR⟩
  case h=>
   exact⟨rfl,rfl,items.toList,bU.toList,ns,ms,rfl,hi,hj,by omega,h⟩
end
section
def II{bU:Array bn}(hl:IsTup s.heap l items)(hb:IsTup s.heap b bU)(hi:tt items.toList ns)(hj:tt bU.toList ms)
  (hu:A.units < pc) (h:Q (.bool (lexLt ns ms)) s):db (ev prog w) A (o0 .Lt (.ref l) (.ref b)) Q E s:=by
 obtain⟨⟨cls,dd,data,sl⟩,ho,hc,n,hd⟩:=id hl;obtain⟨⟨Zt,Vb,data2,R9⟩,Ng,QK,n2,Ô⟩:=id hb;simp only at hc hd QK Ô;subst hc hd QK Ô;exact richCompare_meets_room (op:=.Lt) ⟨_,ho,rfl⟩ ⟨_,Ng,rfl⟩ PySem.F.slot_tuple_lt PySem.F.entry_tuple_lt (PySem.F.args_tuple_lt_2 _ _) (uv l b items bU n n2 dd Vb sl R9 ns ms hi hj)
  ⟨ho,Ng,show CW (lexLt ns ms)≠Value.notImplemented/\Q (.bool (lexLt ns ms)) s from⟨(λx=>nomatch x),h⟩⟩ hu
def Vf{t:ce}{vs ws:O bn}(ht:IsTup s.heap t vs.toArray)(hb:IsTup s.heap b ws.toArray)(hv:vs≠[])
  (h1:ws=[]->Q (.ref t) s) (h2:ws≠[]->Q (.ref s.heap.objs.size) {s with heap:=s.heap.push {cls:=.type "tuple",data:=.seq (vs++ws).toArray}})
  (hsz:vs.length+ws.length<=sizeLine):db (ev prog w) A (sn .Add (.ref t) (.ref b)) Q E s:=by
 obtain⟨⟨cls,dd,data,sl⟩,ho,hc,n,hd⟩:=id ht;obtain⟨⟨Zt,Vb,data2,R9⟩,Ng,QK,n2,Ô⟩:=id hb;simp only at hc hd QK Ô;subst hc hd QK Ô;have e:vs.toArray++ws.toArray=(vs++ws).toArray:=by simp
 by_cases hw:ws=[]
 ·exact concat_meets ⟨_,ho,rfl⟩ ⟨_,Ng,rfl⟩ noFill_tuple_add seq_tuple_add Dk Dj (C9 _ _)
   (tuple_addW1 t b vs.toArray ws.toArray n n2 dd Vb sl R9 (by simpa using hv) (by simp[hw])) ⟨ho,Ng,h1 hw⟩
 ·refine concat_meets ⟨_,ho,rfl⟩ ⟨_,Ng,rfl⟩ noFill_tuple_add seq_tuple_add Dk Dj (C9 _ _)
   (tuple_addW2 t b vs.toArray ws.toArray n n2 dd Vb sl R9 (by simpa using hv) (by simpa using hw) (by rw[Ah,Ah];exact hsz)) ⟨ho,Ng,?_⟩
  rw[e];exact h2 hw
def dC(n d:Nat):Option Int->Nat
 | none=>d
 | some v=>if v < 0 then (v+(n:Int)).toNat else min v.toNat n
theorem zQ(n d:Nat):dC n d bm=d:=rfl
theorem qV(n d k:Nat):dC n d (ap (k:Int))=min k n:=by
 show(if (k:Int) < 0 then ((k:Int)+(n:Int)).toNat else min (k:Int).toNat n)=min k n;rw[if_neg ∅,A3]
theorem LX(v:Int)(n d:Nat):(if v < 0 then max (v+(n:Int)) 0 else min v (n:Int))=((dC n d (ap v):Nat):Int):=by
 show(if v < 0 then max (v+(n:Int)) 0 else min v (n:Int))=(((if v < 0 then (v+(n:Int)).toNat else min v.toNat n):Nat):Int);by_cases hv:v < 0
 ·simp only[if_pos hv];omega
 ·simp only[if_neg hv];omega
theorem Ka(lo hi:Option Int)(n:Nat):Builtin.Slice.sliceAdjust lo hi 1 (n:Int)=(((dC n 0 lo:Nat):Int),((dC n n hi:Nat):Int)):=by
 have h1:¬((1:Int) < 0):=by omega
 unfold Builtin.Slice.sliceAdjust;refine Prod.ext ?_ ?_
 ·cases lo with
  | none=>rfl
  | some v=>exact LX v n 0
 ·cases hi with
  | none=>rfl
  | some v=>exact LX v n n
theorem Ip(i j:Nat):Builtin.Slice.slicePlaces (i:Int) (j:Int) 1=j-i:=by
 unfold Builtin.Slice.slicePlaces;have h1:(1:Int) > 0:=by omega
 split <;> omega
def gE{o:Option Int}{Q:Option Int->cr->Prop}(p:IsPart v o)(h:Q o s):db (ev prog w) A (Builtin.Slice.slicePartIndex v) Q E s:=by
 cases p with
 | none=>exact slicePart_none h
 | int i t=>exact slicePart_int h
def iV{sl:ce}{lo:Option Int}{Q:Int×Int×Nat->cr->Prop}(hs:s.heap.IsSliceOf sl vl vu .none)(pl:IsPart vl lo)(pu:IsPart vu hi)
  (h:Q (((dC n 0 lo:Nat):Int),1,dC n n hi-dC n 0 lo) s):db (ev prog w) A (Builtin.Slice.sliceApplied (.ref sl) (pure (n:Int))) Q E s:=by
 obtain⟨os,N8,Z0,UP⟩:=id hs;refine Aa (Aa (AY N8 UP (x:=vl) rfl (Aa (AY N8 UP (x:=vu) rfl (Aa (AY N8 UP (x:=.none) rfl (Ae ?_)))))));refine Aa (slicePart_none ?_);refine Aa (gE pl (Aa (gE pu (Aa (Ae ?_)))));show db _ _ (match Builtin.Slice.sliceAdjust lo hi 1 (n:Int) with | (lo,hi)=>pure (lo,(1:Int),Builtin.Slice.slicePlaces lo hi 1)) _ _ s;rw[Ka lo hi n];show db _ _ (pure (((dC n 0 lo:Nat):Int),(1:Int),Builtin.Slice.slicePlaces ((dC n 0 lo:Nat):Int) ((dC n n hi:Nat):Int) 1)) _ _ s;rw[Ip];exact Ae h
theorem Pn(xs:Array bn)(i k:Nat):((AL k).filterMap λ(m:Nat)=>xs[((i:Int)+(m:Int)*1).toNat]?).toArray=((xs.toList.drop i).take k).toArray:=by
 have e:(λ(m:Nat)=>xs[((i:Int)+(m:Int)*1).toNat]?)=λm=>xs[i+m]?:=by
  funext m;have:((i:Int)+(m:Int)*1).toNat=i+m:=by omega
  rw[this]
 rw[e];have:=pick_run xs i k;rw[List.filterMap_map]at this;have e2:((λx=>xs[x]?)∘λx=>i+x)=λm=>xs[i+m]?:=rfl;rw[e2]at this;rw[this]
theorem ox{t sl:ce}{lo:Option Int}(ht:IsTup s.heap t items)(hs:s.heap.IsSliceOf sl vl vu .none)(pl:IsPart vl lo)(pu:IsPart vu hi)
  (hw:¬(dC items.size 0 lo=0/\dC items.size items.size hi=items.size))
  (h:Q (.ref s.heap.objs.size) {s with heap:=s.heap.push {cls:=.type "tuple",data:=.seq ((items.toList.drop (dC items.size 0 lo)).take (dC items.size items.size hi-dC items.size 0 lo)).toArray}})
  (hsz:items.size<=sizeLine):db (ev prog w) A (Ch (.ref t) (.ref sl)) Q E s:=by
 have Lx:sizeOk (.seq ((items.toList.drop (dC items.size 0 lo)).take (dC items.size items.size hi-dC items.size 0 lo)).toArray):=by
  show((items.toList.drop (dC items.size 0 lo)).take (dC items.size items.size hi-dC items.size 0 lo)).toArray.size<=sizeLine;rw[Ah,BG,Cu,BP];omega
 obtain⟨os,N8,Z0,UP⟩:=id hs;have ā:s.TypeIs (.ref sl) "slice":=⟨os,N8,Z0⟩;unfold Ch
 try with_reducible refine Bh ?_
 first | refine Aa (Ae ?_) | skip
 refine Aa (Ew ht.typeIs ⋯ ?_);refine Aa (AV (name:=BJ "__getitem__") ht.typeIs AN
  (Bc AN ht.typeIs entry_tuple_getitem ?_ (args_tuple_getitem _ _)))
 show db _ _ (Builtin.Tuple.tupleItemsOf (.ref t) >>= _) _ _ s;refine Aa (tupleItemsOf_ ht ?_);refine Aa (CD ā ?_);refine Aa (iV hs pl pu ?_);have hno:¬((((dC items.size 0 lo:Nat):Int)==0&&(1:Int)==1&&(dC items.size items.size hi-dC items.size 0 lo)==items.size)=true):=by
  intro q;rw[Aw,Aw]at q;have q1:=eq_of_beq q.1.1;have q2:=eq_of_beq q.2;exact hw ⟨by omega,by omega⟩
 show db _ _ (if (((dC items.size 0 lo:Nat):Int)==0&&(1:Int)==1&&(dC items.size items.size hi-dC items.size 0 lo)==items.size)=true then _ else _) _ _ s;rw[if_neg hno,Pn]
 first
  | exact Aa (m:=Builtin.Tuple.tupleExact _) (AQ (Ae ⟨_,rfl,Ae h⟩) Lx)
  | exact Aa (m:=Builtin.Tuple.tupleExact _) (AQ (Aa (Ae (Ae ⟨_,rfl,Ae h⟩))) Lx)
  | exact Aa (Aa (m:=Builtin.Tuple.tupleExact _) (AQ (Ae (Ae ⟨_,rfl,Ae h⟩)) Lx))
  | exact Aa (Aa (m:=Builtin.Tuple.tupleExact _) (AQ (Ae ⟨_,rfl,Ae h⟩) Lx))
end
end HT
variable{p2:Cd}
namespace L2
abbrev TO:=St->Hp->(Option Int->Hp->Prop)->Prop
def PO(X:Cx)(e:Option kw)(t:TO):Prop:=
 ∀(Z:O (ce×Obj)) (s:cr) (σ:St) (H:Hp) (Q:Option Int->Hp->Prop),Inv X Z σ H s->t σ H Q->
  db (ev X.prog X.w) X.A (evalPart e X.env) (λu s'=>∃o H',Inv X Z σ H' s'/\IsPart u o/\Q o H') X.xe s
def SD:TO:=λ_ H Q=>Q bm H
def aaF(t:TE):TO:=λσ H Q=>t σ H λx H1=>∃i,x=.int i/\Q (ap i) H1
def intsAre_of:∀{us:O bn},Vals (ns.map V.int) us->tt us ns:=by
 induction ns with
 | nil=>intro us r;rw[D5]at r;cases r;exact .nil
 | cons n ns ih=>
  intro us r;rw[Ap]at r;cases r with
  | cons r1 r2=>
   obtain⟨t,e⟩:=r1;subst e;exact .cons n t (ih r2)
section
variable{lo hi:Option kw}{tl th:TO}
def Te:PO X bm SD:=by
 intro Z s σ H Q I h;exact Ae ⟨bm,H,I,.none,h⟩
def Td(h:PE X e te):PO X (ap e) (aaF te):=by
 intro Z s σ H Q I hw;refine bV (h Z s σ H _ I hw) λu s1 ⟨x,H1,I1,r1,q1⟩=>?_;obtain⟨i,rfl,q⟩:=q1;obtain⟨t,rfl⟩:=r1;exact⟨ap i,H1,I1,.int i t,q⟩
def SlR(X:Cx)(r:V->Option Int->Option Int->Hp->VK->Prop):Prop:=
 ∀(Z:O (ce×Obj)) (s:cr) (σ:St) (H:Hp) (x:V) (v vl vu:bn) (lo hi:Option Int) (sl:ce) (Q:VK),Inv X Z σ H s->RelV x v->s.heap.IsSliceOf sl vl vu .none->IsPart vl lo->IsPart vu hi->r x lo hi H Q->
  ∃T id,Fk (.type T) "__getitem__"=pure (ap (.builtin id))/\s.TypeIs v T/\db (ev X.prog X.w) X.A (Ch v (.ref sl)) (EP X Z σ Q) X.xe s
def tSl(r:V->Option Int->Option Int->Hp->VK->Prop)(te:TE)(tl th:TO):TE:=λσ H Q=>te σ H λx H1=>tl σ H1 λl H2=>th σ H2 λu H3=>r x l u H3 Q
def Pu{r:V->Option Int->Option Int->Hp->VK->Prop}(hr:SlR X r)(he:PE X e te)(hl:PO X lo tl)(hu:PO X hi th):PE X (.Subscript e (.Slice lo hi bm p2) pos) (tSl r te tl th):=by
 intro Z s σ H Q I h;refine Subscript_ (bV (he Z s σ H _ I h) λv s1 ⟨x,H1,I1,r1,q1⟩=>?_);refine wpAny_Slice (bV (hl Z s1 σ H1 _ I1 q1) λvl s2 ⟨l,H2,I2,pl,q2⟩=>bV (hu Z s2 σ H2 _ I2 q2) λvu s3 ⟨u,H3,I3,pu,q3⟩=>?_);rw[evalPart_none];refine Ae ?_;have I4:Inv X Z σ H3 {s3 with heap:=s3.heap.push {cls:=.type "slice",data:=.fields #[vl,vu,.none]}}:=I3.kept (t':=s3.toks) λb ob q=>Ag _ q;obtain⟨T,id,hT,ht,hg⟩:=hr Z {s3 with heap:=s3.heap.push {cls:=.type "slice",data:=.fields #[vl,vu,.none]}} σ H3 x v vl vu l u s3.heap.objs.size Q I4 r1 (Fo.new ..) pl pu q3;show db (ev X.prog X.w) X.A (subscriptTail e (.Slice lo hi bm p2) v (.ref s3.heap.objs.size)) (EP X Z σ Q) X.xe {s3 with heap:=s3.heap.push {cls:=.type "slice",data:=.fields #[vl,vu,.none]}};exact tail_any (ops:=[.ref s3.heap.objs.size,v]) ht hT hg (by with_unfolding_all rfl)
def yU(xs:O V)(lo hi:Option Int):O V:=(xs.drop (HT.dC xs.length 0 lo)).take (HT.dC xs.length xs.length hi-HT.dC xs.length 0 lo)
theorem qx(xs:O V)(lo hi:Option Int):(yU xs lo hi).length<=xs.length:=by
 unfold yU;rw[BG,Cu];omega
def afr(K:Ab):V->Option Int->Option Int->Hp->VK->Prop:=λx lo hi H Q=>∃a xs,x=.ref a/\dj K H a xs/\
 ¬(HT.dC xs.length 0 lo=0/\HT.dC xs.length xs.length hi=xs.length)/\∀p,H p=bm->Q (.ref p) (upd H p (.tup (yU xs lo hi)))
def Xd:SlR X (afr X.K):=by
 intro Z s σ H x v vl vu lo hi sl Q I rx hs pl pu h;obtain⟨a,xs,rfl,hx,hw,q⟩:=h;cases rx;obtain⟨ao,r,ht,hz⟩:=I.tuple hx;have Á:ao.toArray.size=xs.length:=by rw[Ah];exact r.length.symm
 refine⟨"tuple",_,AN.lookup,ht.typeIs,?_⟩;refine HT.ox ht hs pl pu (by rw[Á];exact hw) ?_ (by rw[Á];exact hz);rw[Á];refine⟨.ref s.heap.objs.size,_,I.laid (t':=s.toks) (o:=.tup (yU xs lo hi)) (λb ob q=>Ag _ q) (Am _) ?_,rfl,q _ (I.br.fresh (Am _))⟩;exact⟨Bv (qx xs lo hi) hz,_,(r.drop (HT.dC xs.length 0 lo)).take (HT.dC xs.length xs.length hi-HT.dC xs.length 0 lo),FD _ _⟩
def VS(K:Ab):R2:=λx y H Q=>∃a b xs ys,x=.ref a/\y=.ref b/\dj K H a xs/\dj K H b ys/\xs≠[]/\xs.length+ys.length<=sizeLine/\
 (ys=[]->Q (.ref a) H)/\(ys≠[]->∀p,H p=bm->Q (.ref p) (upd H p (.tup (xs++ys))))
def Vals.jv(r:Vals xs us):us=[]↔xs=[]:=by
 cases r with
 | nil=>simp
 | cons _ _=>simp
def K9:iR X (sn .Add) (VS X.K):=by
 intro Z s σ H x y v u Q I rx ry h;obtain⟨a,b,xs,ys,rfl,rfl,ha,hb,hx,hz,q1,q2⟩:=h;cases rx;cases ry;obtain⟨ao,r1,p1,_⟩:=I.tuple ha;obtain⟨bS,r2,p2,_⟩:=I.tuple hb;refine HT.Vf p1 p2 (λz=>hx (r1.jv.mp z)) (λz=>⟨.ref a,H,I,rfl,q1 (r2.jv.mp z)⟩) (λz=>?_) (by rw[<- r1.length,<- r2.length];exact hz);refine⟨.ref s.heap.objs.size,_,I.laid (t':=s.toks) (o:=.tup (xs++ys)) (λb ob q=>Ag _ q) (Am _) ?_,rfl,q2 (λw=>z (r2.jv.mpr w)) _ (I.br.fresh (Am _))⟩;exact⟨by rw[Ai];exact hz,_,r1.append r2,FD _ _⟩
end
end L2
variable{its':O A6}
namespace L2
def vF(n:Nat)(i:Int):Option Nat:=if 0<=i then (if i < n then ap i.toNat else bm) else if -(n:Int)<=i then ap (i+n).toNat else bm
def d4(xs:List α)(i:Int):Option α:=(vF xs.length i).bind λj=>xs[j]?
theorem xI(h:vF n i=ap j):seqIndex? i n=ap j/\j < n/\-(n:Int)<=i/\i < n:=by
 unfold vF at h;by_cases h0:0<=i
 ·rw[if_pos h0]at h;by_cases h1:i < n
  ·rw[if_pos h1]at h;have e:=Option.some.inj h;exact⟨by rw[seqIndex_of h0 h1,e],by omega,by omega,h1⟩
  ·rw[if_neg h1]at h;cases h
 ·rw[if_neg h0]at h;by_cases h1:-(n:Int)<=i
  ·rw[if_pos h1]at h;have e:=Option.some.inj h;exact⟨by rw[seqIndex_neg ∅ h1,e],by omega,h1,by omega⟩
  ·rw[if_neg h1]at h;cases h
def yW{xs:List α}{v:α}(h:d4 xs i=ap v):∃j,seqIndex? i xs.length=ap j/\xs[j]?=ap v/\j < xs.length/\-(xs.length:Int)<=i/\i < xs.length:=by
 unfold d4 at h;cases e:vF xs.length i with
 | none=>rw[e]at h;cases h
 | some j=>
  rw[e]at h;obtain⟨h1,h2,h3,h4⟩:=xI e;exact⟨j,h1,h,h2,h3,h4⟩
theorem di{xs:List α}{v:α}(h:xs[j]?=ap v):d4 xs (j:Int)=ap v:=by
 have hj:=(Ak.mp h).1;have e:vF xs.length (j:Int)=ap j:=by
  unfold vF;rw[if_pos ∅,if_pos ∅];simp
 unfold d4;rw[e];exact h
def zq(b:kw):Prop:=∀o i,subscripted b false o i=operate [o,i] (Ch o i)
def Sj(X:Cx)(r:R2):Prop:=
 ∀(value Æ:kw) (Z:O (ce×Obj)) (s:cr) (σ:St) (H:Hp) (x y:V) (v u:bn) (Q:VK),Inv X Z σ H s->RelV x v->RelV y u->r x y H Q->
  subscripted Æ false v u=operate [v,u] (Ch v u)->db (ev X.prog X.w) X.A (subscriptTail value Æ v u) (EP X Z σ Q) X.xe s
def MtR(X:Cx)(id:String)(r:V->O V->Hp->VK->Prop):Prop:=
 ∀(Z:O (ce×Obj)) (s:cr) (σ:St) (H:Hp) (x:V) (xs:O V) (v:bn) (us:O bn) (Q:VK),Inv X Z σ H s->RelV x v->Vals xs us->r x xs H Q->
  db (ev X.prog X.w) X.A (call (.builtin id) (v::us)) (EP X Z σ Q) X.xe s
section
variable{X:Cx}{a b:kw}{ta tb:TE}{pos:Pos}
def Sj.or{r r':R2}(h:Sj X r)(h':Sj X r'):Sj X (λx y H Q=>r x y H Q\/r' x y H Q):=by
 intro value Æ Z s σ H x y v u Q I rx ry q hs;rcases q with q | q
 ·exact h value Æ Z s σ H x y v u Q I rx ry q hs
 ·exact h' value Æ Z s σ H x y v u Q I rx ry q hs
def VU{r:R2}(hr:Sj X r)(ha:PE X a ta)(hb:PE X b tb)(hs:zq b):PE X (.Subscript a b pos) (W2 r ta tb):=by
 intro Z s σ H Q I h;exact Subscript_ (Zw ha hb I h λv u s2 x y H2 I2 rx ry q=>hr a b Z s2 σ H2 x y v u Q I2 rx ry q (hs _ _))
def abf(K:Ab):R2:=λx y H Q=>∃p xs i v,x=.ref p/\y=.int i/\c6 K H p xs/\d4 xs i=ap v/\Q v H
def abe(K:Ab):R2:=λx y H Q=>∃p xs i v,x=.ref p/\y=.int i/\dj K H p xs/\d4 xs i=ap v/\Q v H
def Xy:R2:=λx y H Q=>∃z i c,x=.str z/\y=.int i/\z.length<=sizeLine/\d4 z.cps.toList i=ap c/\Q (.str ⟨#[c]⟩) H
theorem Ux:Sj X (abf X.K):=by
 intro value Æ Z s σ H x y v u Q I rx ry h hs;obtain⟨p,xs,i,z,rfl,rfl,hq,he,q⟩:=h;cases rx;obtain⟨t,rfl⟩:=ry;obtain⟨ao,r,pl,hz⟩:=I.list hq;obtain⟨j,h1,h2,h3,h4,h5⟩:=yW he;obtain⟨w,ew,wM⟩:=r.get h2;have hl:=r.length;have hn:=xk;have fin:EP X Z σ Q w s:=⟨z,H,I,wM,q⟩;by_cases h0:0<=i
 ·have hj:i.toNat=j:=by
   rw[seqIndex_of h0 h5]at h1;exact Option.some.inj h1
  exact item_listR pl.isList h0 ∅ (by rw[hj];simpa using ew) fin hs
 ·have hj:(i+(ao.toArray.size:Int)).toNat=j:=by
   rw[seqIndex_neg ∅ h4]at h1;rw[Ah,<- hl];exact Option.some.inj h1
  exact subscriptTail_builtinR (x:=w) pl.isList.typeIs slot_list_getitem.lookup
   (wpAny_getItem_list_neg (Q:=λr s'=>r=w/\EP X Z σ Q r s') pl.isList ∅ (by rw[Ah] <;> omega) ∅ (by rw[hj];simpa using ew) ⟨rfl,fin⟩) hs
theorem YA:Sj X (abe X.K):=by
 intro value Æ Z s σ H x y v u Q I rx ry h hs;obtain⟨p,xs,i,z,rfl,rfl,hq,he,q⟩:=h;cases rx;obtain⟨t,rfl⟩:=ry;obtain⟨ao,r,pl,hz⟩:=I.tuple hq;obtain⟨j,h1,h2,h3,h4,h5⟩:=yW he;obtain⟨w,ew,wM⟩:=r.get h2;have hl:=r.length;have hn:=xk;have fin:EP X Z σ Q w s:=⟨z,H,I,wM,q⟩;exact subscriptTail_builtinR (x:=w) pl.typeIs slot_tuple_getitem.lookup
  (getItem_tuple (j:=j) (Q:=λr s'=>r=w/\EP X Z σ Q r s') pl ∅ ∅ (by rw[Ah,<- hl];exact h1) (by simpa using ew) ⟨rfl,fin⟩) hs
theorem Qw:Sj X Xy:=by
 intro value Æ Z s σ H x y v u Q I rx ry h hs;obtain⟨z,i,c,rfl,rfl,hz,he,q⟩:=h;obtain⟨t,rfl⟩:=rx;obtain⟨t',rfl⟩:=ry;obtain⟨j,h1,h2,h3,h4,h5⟩:=yW he;have hl:z.cps.toList.length=z.length:=by simp[Str.length]
 rw[hl]at h1 h4 h5;have hn:=xk;exact tail_any (typeIs_str s z t) slot_str_getitem.lookup (getItem_str (c:=c) (by
  have e1:decide (i < -(2 ^ 63:Int))=false:=decide_eq_false ∅;have e2:decide (i≥2 ^ 63)=false:=decide_eq_false ∅;rw[e1,e2,Bool.or_false]) (by rw[h1];simpa using h2) ⟨.str ⟨#[c]⟩,H,I.tok _,⟨_,rfl⟩,q⟩) hs
def rIx(K:Ab):R2:=λx y H Q=>abf K x y H Q\/abe K x y H Q\/Xy x y H Q
def YB:Sj X (rIx X.K):=Ux.or (YA.or Qw)
def IH(ao:O bn)(n j:Nat)(u:bn):Bn (·.setIfInBounds j u) {cls:=.type "list",data:=.seq ao.toArray n}={cls:=.type "list",data:=.seq (ao.set j u).toArray n}:=by
 simp[Bn]
def Inv.lst{Z:O (ce×Obj)}{σ:St}{H:Hp}{s:cr}{p:ce}{xs:O V}(I:Inv X Z σ H s)(h:H p=ap (.lst xs)) :
  ∃(ao:O bn) (n:Nat),Vals xs ao/\s.heap.get? p=ap {cls:=.type "list",data:=.seq ao.toArray n}/\xs.length<=sizeLine:=by
 obtain⟨z,ao,n,r,e⟩:=I.br p _ h;exact⟨ao,n,r,e,z⟩
def Inv.Yi{p:ce}{n':Nat}{f:Obj->Obj}(I:Inv X Z σ H s)(h:H p=ap (.lst xs))
  (ho:s.heap.get? p=ap {cls:=.type "list",data:=.seq ao.toArray n}) (hf:f {cls:=.type "list",data:=.seq ao.toArray n}={cls:=.type "list",data:=.seq its'.toArray n'}) (r:Vals ys its') (hz:ys.length<=sizeLine) (t:Nat) :
  Inv X Z σ (upd H p (.lst ys)) {s with heap:=s.heap.update p f,toks:=t}:=by
 have e:(s.heap.update p f).get? p=ap {cls:=.type "list",data:=.seq its'.toArray n'}:=by
  rw[BV f ho (by rw[hf] <;> rfl),hf]
 refine I.write (x:=p) (e:=p) (by rw[h];trivial) (.inl rfl) (λb u hb q=>(BK _ _ (Bx hb)).trans q) ⟨_,e⟩ ?_;exact⟨hz,its',n',r,e⟩
def aa9:V->V->V->Hp->(Hp->Prop)->Prop:=λo i v H Q=>∃p xs k j,o=.ref p/\i=.int k/\H p=ap (.lst xs)/\vF xs.length k=ap j/\Q (upd H p (.lst (xs.set j v)))
theorem set_list:NY X aa9:=by
 intro Z s σ H o i v ov iv u Q I ro ri rv h;obtain⟨p,xs,k,j,rfl,rfl,hp,hj,q⟩:=h;cases ro;obtain⟨t,rfl⟩:=ri;obtain⟨ao,n,r,ho,hz⟩:=I.lst hp;obtain⟨h1,h2,h3,h4⟩:=xI hj;have hl:=r.length;have hn:=xk;have I':Inv X Z σ (upd H p (.lst (xs.set j v))) {s with heap:=s.heap.update p (Bn (·.setIfInBounds j u))}:=
  I.Yi hp ho (IH ao n j u) (r.set rv j) (by rw[BQ];exact hz) s.toks
 by_cases h0:0<=k
 ·have hk:k.toNat=j:=by
   rw[seqIndex_of h0 h4]at h1;exact Option.some.inj h1
  exact PySem.W.ki_setAt ho h0 ∅ (by rw[Ah,<- hl];exact h4) (by rw[hk];exact⟨_,I',q⟩)
 ·have hk:(k+(ao.toArray.size:Int)).toNat=j:=by
   rw[seqIndex_neg ∅ h3]at h1;rw[Ah,<- hl];exact Option.some.inj h1
  exact PySem.W.ki_setBack ho ∅ (by rw[Ah,<- hl];exact h3) ∅ (by rw[hk];exact⟨_,I',q⟩)
theorem wK(lo hi:Option Int)(n:Nat):(wP lo hi bm n).1=((HT.dC n 0 lo:Nat):Int)/\(wP lo hi bm n).2.1=((HT.dC n n hi:Nat):Int)/\(wP lo hi bm n).2.2=1:=by
 refine⟨?_,?_,rfl⟩
 ·cases lo with
  | none=>simp[wP,HT.dC]
  | some i=>
   simp only[wP,HT.dC,Option.getD_none,show(1:Int) > 0 by decide,if_true];by_cases h:i < 0
   ·simp only[h,if_true] <;> omega
   ·simp only[h,if_false] <;> omega
 ·cases hi with
  | none=>simp[wP,HT.dC]
  | some i=>
   simp only[wP,HT.dC,Option.getD_none,show(1:Int) > 0 by decide,if_true];by_cases h:i < 0
   ·simp only[h,if_true] <;> omega
   ·simp only[h,if_false] <;> omega
def uw(ao:O bn)(lo hi:Option Int):slicePick ao.toArray lo hi bm=((ao.drop (HT.dC ao.length 0 lo)).take (HT.dC ao.length ao.length hi-HT.dC ao.length 0 lo)).toArray:=by
 obtain⟨h1,h2,h3⟩:=wK lo hi ao.toArray.size;unfold slicePick;rw[h1,h2,h3];simp only[sliceRange_one,pick_run,Ah] <;> rfl
def afs(K:Ab):V->Option Int->Option Int->Hp->VK->Prop:=λx lo hi H Q=>∃a xs,x=.ref a/\c6 K H a xs/\∀p,H p=bm->Q (.ref p) (upd H p (.lst (yU xs lo hi)))
theorem adA:SlR X (afs X.K):=by
 intro Z s σ H x v vl vu lo hi sl Q I rx hs pl pu h;obtain⟨a,xs,rfl,hx,q⟩:=h;cases rx;obtain⟨ao,r,ht,hz⟩:=I.list hx;have Á:=r.length;refine⟨"list",_,slot_list_getitem.lookup,ht.isList.typeIs,?_⟩;refine wpAny_getItem_list_slice ht.isList hs pl pu .none (by simp) ?_ (by rw[Ah] <;> omega);rw[uw,<- Á];refine⟨.ref s.heap.objs.size,_,I.laid (t':=s.toks) (o:=.lst (yU xs lo hi)) (λb ob q=>Ag _ q) (Am _) ?_,rfl,q _ (I.br.fresh (Am _))⟩;exact⟨Bv (qx xs lo hi) hz,_,0,(r.drop (HT.dC xs.length 0 lo)).take (HT.dC xs.length xs.length hi-HT.dC xs.length 0 lo),Aq _ rfl⟩
theorem yV:bL X (.type "list") (λxs H Q=>∃p ys,xs=[.ref p]/\(c6 X.K H p ys\/dj X.K H p ys)/\∀l,H l=bm->Q (.ref l) (upd H l (.lst ys))):=by
 intro Z s σ H xs us Q I r h;obtain⟨p,ys,rfl,hq,q⟩:=h;obtain⟨u,rfl,rx⟩:=vals1 r;cases rx;have fin:∀(ao:O bn),Vals ys ao->ys.length<=sizeLine->∀(h':lm) (c':Nat),(∀b o',s.heap.get? b=ap o'->h'.get? b=ap o')->
   h'.get? s.heap.objs.size=ap {cls:=.type "list",dict:=bm,data:=.seq ao.toArray c',slots:=#[]}->EP X Z σ Q (.ref s.heap.objs.size) {s with heap:=h'}:=λao r' hz h' c' kp e=>
  ⟨.ref s.heap.objs.size,_,I.laid (t':=s.toks) kp (Am _) (show a6 X.prog X.w _ h' _ (.lst ys) from⟨hz,ao,c',r',e⟩),rfl,q _ (I.br.fresh (Am _))⟩
 rcases hq with hq | hq
 ·obtain⟨ao,r',pl,hz⟩:=I.list hq;have Á:=r'.length;obtain⟨o,ho,hc,n,hd⟩:=pl.isList;exact call_list_seq p (.inl rfl) ho hc hd (λh' c' kp e=>fin ao r' hz h' c' kp e) (by simp only[Ah] <;> omega)
 ·obtain⟨ao,r',pl,hz⟩:=I.tuple hq;have Á:=r'.length;obtain⟨o,ho,hc,n,hd⟩:=pl;exact call_list_seq p (.inr rfl) ho hc hd (λh' c' kp e=>fin ao r' hz h' c' kp e) (by simp only[Ah] <;> omega)
theorem uV:bL X (.type "tuple") (λxs H Q=>∃p ys,xs=[.ref p]/\((c6 X.K H p ys/\∀l,H l=bm->Q (.ref l) (upd H l (.tup ys)))\/(dj X.K H p ys/\Q (.ref p) H))):=by
 intro Z s σ H xs us Q I r h;obtain⟨p,ys,rfl,h⟩:=h;obtain⟨u,rfl,rx⟩:=vals1 r;cases rx;rcases h with⟨hq,q⟩ | ⟨hq,q⟩
 ·obtain⟨ao,r',pl,hz⟩:=I.list hq;have Á:=r'.length;refine call_tuple_list pl.isList (λh' kp=>?_) (by simp only[Ah] <;> omega);have I1:Inv X Z σ H {s with heap:=h'}:=I.kept (t':=s.toks) kp;have I2:Inv X Z σ (upd H h'.objs.size (.tup ys)) {s with heap:=h'.push {cls:=.type "tuple",data:=.seq ao.toArray}}:=
   I1.laid (t':=s.toks) (λb o e=>Ag _ e) (Am _) (show a6 X.prog X.w _ _ _ (.tup ys) from⟨hz,ao,r',FD _ _⟩)
  exact⟨.ref h'.objs.size,_,I2,rfl,q _ (I1.br.fresh (Am _))⟩
 ·obtain⟨ao,r',pl,hz⟩:=I.tuple hq;exact call_tuple_same pl ⟨.ref p,H,I,rfl,q⟩
def tyV(K:Ab)(T:String)(x:V)(H:Hp):Prop:=match x with
 | .str _=>T="str"
 | .int _=>T="int"
 | .ref p=>(T="list"/\∃xs,c6 K H p xs)\/(T="tuple"/\∃o,K.lookup p=ap o/\o.cls=.type "tuple"/\o.dict=bm)\/
   (T="dict"/\((∃kvs,H p=ap (.dK kvs))\/∃kvs,H p=ap (.dT kvs)))\/(T="set"/\∃S n,H p=ap (.set S n))
 | _=>False
def Ou{x:V}(I:Inv X Z σ H s)(r:RelV x v)(ty:tyV X.K T x H) :
  s.TypeIs v T/\∀a,v=.ref a->∃ob,s.heap.get? a=ap ob/\ob.dict=bm:=by
 cases x with
 | str z=>
  obtain⟨t,rfl⟩:=r;cases (show T="str" from ty);exact⟨typeIs_str s z t,λ_ e=>nomatch e⟩
 | int i=>
  obtain⟨t,rfl⟩:=r;cases (show T="int" from ty);exact⟨typeIs_int s i t,λ_ e=>nomatch e⟩
 | ref p=>
  cases r;rcases ty with⟨rfl,xs,hq⟩ | ⟨rfl,o,hk,hc,hd⟩ | ⟨rfl,hk⟩ | ⟨rfl,S,n,hk⟩
  ·obtain⟨ao,_,pl,_⟩:=I.list hq;refine⟨pl.isList.typeIs,λa e=>?_⟩;cases e;obtain⟨o,n,e,c,hd,_⟩:=pl;exact⟨o,e,hd⟩
  ·refine⟨⟨o,I.vE p o hk,hc⟩,λa e=>?_⟩;cases e;exact⟨o,I.vE _ o hk,hd⟩
  ·have z:∃o,s.heap.get? p=ap o/\o.ExactDict:=by
    rcases hk with⟨kvs,hk⟩ | ⟨kvs,hk⟩
    ·obtain⟨_,_,_,_,o,_,_,e,ex,_⟩:=I.br p _ hk;exact⟨o,e,ex⟩
    ·obtain⟨_,_,_,_,o,_,_,e,ex,_⟩:=I.br p _ hk;exact⟨o,e,ex⟩
   obtain⟨o,e,ex⟩:=z;refine⟨⟨o,e,ex.1⟩,λa e2=>?_⟩;cases e2;exact⟨o,e,ex.2.1⟩
  ·obtain⟨o,_,_,_,e,ex,_⟩:=I.br p _ hk;refine⟨⟨o,e,ex.1⟩,λa e2=>?_⟩;cases e2;exact⟨o,e,ex.2.1⟩
 | _=>exact Br ty
def aaO(K:Ab)(T:String)(r:V->O V->Hp->VK->Prop)(to:TE):TE:=λσ H Q=>to σ H λx H1=>tyV K T x H1/\r x [] H1 Q
def tBM(K:Ab)(T:String)(r:V->O V->Hp->VK->Prop)(to:TE)(t:TA):TE:=λσ H Q=>to σ H λx H1=>tyV K T x H1/\t σ H1 λxs H2=>r x xs H2 Q
variable{o e:kw}{es:O kw}{to:TE}{t:TA}{name:Str}{Â bP:Pos}{T id:String}{r:V->O V->Hp->VK->Prop}
def XR(pa:PlainAttrs T)(slot:Slot T name id)(YN:typeOf (.builtin id)=pure (.type "method_descriptor"))(hm:MtR X id r)(ho:PE X o to)
  (eK:pr o name X.env (lf o X.env)=lf o X.env:=by rfl) (eJ:Sl Â bP:=by rfl):PE X (.Call (.Attribute o name Â) [] [] bP) (aaO X.K T r to):=by
 intro Z s σ H Q I h;refine wpAny_Call_method0_late eK eJ (bV (ho Z s σ H _ I h) λv s1 ⟨x,H1,I1,r1,ty,q1⟩=>?_);obtain⟨h1,h2⟩:=Ou I1 r1 ty;exact⟨T,id,pa,slot,YN,h1,h2,ER rfl (PySem.evalArgs_none (hm Z s1 σ H1 x [] v [] Q I1 r1 .nil q1))⟩
def abr(pa:PlainAttrs T)(slot:Slot T name id)(YN:typeOf (.builtin id)=pure (.type "method_descriptor"))(hm:MtR X id r)(ho:PE X o to)(ha:PA X (e::es) t)
  (eK:pr o name X.env (lf o X.env)=lf o X.env:=by rfl)
  (pS:ZL X bP (e::es):=by rfl)
  (eJ:Sl Â bP:=by rfl) (hs:gZ X e es:=by rfl) (fe:lF X bP es:=by rfl) :
  PE X (.Call (.Attribute o name Â) (e::es) [] bP) (tBM X.K T r to t):=by
 intro Z s σ H Q I h;refine wpAny_Call_method_late eK pS eJ rfl (bV (ho Z s σ H _ I h) λv s1 ⟨x,H1,I1,r1,ty,q1⟩=>?_);obtain⟨h1,h2⟩:=Ou I1 r1 ty;refine⟨T,id,pa,slot,YN,h1,h2,?_⟩;have hA:=ha bP Z s1 σ H1 _ I1 q1;rw[hs]at hA ⊢;refine ER (by show(false||(ut bP (ga es X.env)).any (·.1))=false;rw[fe] <;> rfl) (Calls.evalArgs_plain ?_);exact bV hA λus s2 ⟨vs,H2,I2,r2,q2⟩=>hm Z s2 σ H2 x vs v us Q I2 r1 r2 q2
end
def L6(X:Cx)(id:String)(r:V->O V->Hp->VK->Prop):Prop:=
 ∀(Z:O (ce×Obj)) (s:cr) (σ:St) (H:Hp) (x:V) (xs:O V) (v:bn) (us:O bn) (Q:VK),Inv X Z σ H s->RelV x v->Vals xs us->r x xs H Q->
  db (ev X.prog X.w) X.A (call (.builtin id) (v::us)) (EP X Z σ Q) X.xe s
def Vals.one:∀{x:V}{us:O bn},Vals [x] us->∃u,us=[u]/\RelV x u
 | _,_,.cons r .nil=>⟨_,rfl,r⟩
def Vals.zero:∀{us:O bn},Vals [] us->us=[]
 | _,.nil=>rfl
def Vals.dropLast(h:Vals xs us):Vals xs.dropLast us.dropLast:=by
 induction h with
 | nil=>exact .nil
 | cons r t ih=>
  cases t with
  | nil=>exact .nil
  | cons q t'=>exact .cons r ih
theorem Vals.eraseIdx:∀{xs:O V}{us:O bn} (i:Nat),Vals xs us->Vals (xs.eraseIdx i) (us.eraseIdx i)
 | _,_,_,.nil=>.nil
 | _,_,0,.cons _ t=>t
 | _,_,i+1,.cons r t=>.cons r (Vals.eraseIdx i t)
theorem Vals.rep(h:Vals xs us):∀k:Nat,Vals (An k xs).flatten (An k us).flatten
 | 0=>.nil
 | k+1=>by
  rw[Bw,Bw,B9,B9];exact Vals.append h (Vals.rep h k)
theorem Jz(l:List α):l.eraseIdx (l.length-1)=l.dropLast:=by
 induction l with
 | nil=>rfl
 | cons a r ih=>
  cases r with
  | nil=>rfl
  | cons b r=>
   have e:(a::b::r).length-1=((b::r).length-1)+1:=by
    have h1:(a::b::r).length=r.length+2:=rfl;have h2:(b::r).length=r.length+1:=rfl;omega
   rw[e,Cw,ih]
   all_goals rfl
theorem vt:∀(l:List α) (i:Nat),(l.eraseIdx i).length<=l.length
 | [],_=>Am _
 | _::_,0=>DN _
 | _::r,i+1=>Nat.succ_le_succ (vt r i)
theorem foldl_rep(ao:O bn):∀(k:Nat) (Ä:O bn),
  List.foldl (λx1 x2=>x1++x2) Ä.toArray (An k ao.toArray)=(Ä++(An k ao).flatten).toArray
 | 0,Ä=>by simp
 | k+1,Ä=>by
  have e:Ä.toArray++ao.toArray=(Ä++ao).toArray:=by simp
  have e2:(Ä++ao)++(An k ao).flatten=Ä++(An (k+1) ao).flatten:=by
   rw[Bw,B9,AA]
  rw[<- e2,<- foldl_rep ao k (Ä++ao),<- e,Bw,Df]
section
def Inv.IJ{f:Array bn->Array bn}{t':Nat}(I:Inv X Z σ H s)(hH:H l=ap (.lst xs))
  (e:s.heap.get? l=ap {cls:=.type "list",data:=.seq ao.toArray n}) (hf:f ao.toArray=its'.toArray) (hv:Vals ys its') (hz:ys.length<=sizeLine) :
  Inv X Z σ (upd H l (.lst ys)) {s with heap:=s.heap.update l (Bn f),toks:=t'}:=by
 have q:=PySem.IsL.update e f;rw[hf]at q;refine I.write (x:=l) (e:=l) (by rw[hH];exact trivial) (.inl rfl) (λb' u hb hu=>(BK s.heap (Bn f) (Bx hb)).trans hu) ⟨_,q⟩ ?_;exact⟨hz,its',_,hv,q⟩
def Inv.Yj{t':Nat}(I:Inv X Z σ H s)(hv:Vals ys ao)(hz:ys.length<=sizeLine) :
  Inv X Z σ (upd H s.heap.objs.size (.lst ys)) {s with heap:=s.heap.push {cls:=.type "list",data:=.seq ao.toArray},toks:=t'}:=
 I.laid (λ_ _ q=>Ag _ q) (Am _) ⟨hz,ao,0,hv,Aq _ rfl⟩
def Inv.fresh(I:Inv X Z σ H s):H s.heap.objs.size=bm:=I.br.fresh (Am _)
def Inv.qC(I:Inv X Z σ H s)(hH:H l=ap (.lst xs)):xs.length<=sizeLine/\∃(ao:O bn) (n:Nat),Vals xs ao/\xs.length=ao.length/\s.heap.get? l=ap {cls:=.type "list",data:=.seq ao.toArray n}:=by
 obtain⟨z,ao,n,r,e⟩:=I.br l _ hH;exact⟨z,ao,n,r,r.length,e⟩
theorem nK(h:n<=sizeLine):Builtin.List.listTooLong n=false:=by
 exact decide_eq_false ∅
end
section
def S7:V->O V->Hp->VK->Prop:=λx vs H Q=>∃l xs y,x=.ref l/\vs=[y]/\H l=ap (.lst xs)/\xs.length < sizeLine/\Q .ax (upd H l (.lst (xs++[y])))
theorem MH:L6 X "list.append" S7:=by
 intro Z s σ H x vs v us Q I rx rv h;obtain⟨l,xs,y,rfl,rfl,hH,hz,q⟩:=h;cases rx;obtain⟨u,rfl,ru⟩:=rv.one;obtain⟨z,ao,n,r,hl,e⟩:=I.qC hH;refine sK F.slot_list_append ⟨_,e,rfl⟩ F.entry_list_append (F.args_list_append_2 _ _) (PySem.list_append l ao.toArray n u (by rw[Ah];omega)) ⟨e,?_⟩;refine⟨.ax,_,I.IJ (its':=ao++[u]) hH e (by simp) (r.append (.cons ru .nil)) ?_,rfl,q⟩;rw[Ai,Dw];omega
def S5:V->O V->Hp->VK->Prop:=λx vs H Q=>∃l b xs zs,x=.ref l/\vs=[.ref b]/\H l=ap (.lst xs)/\H b=ap (.lst zs)/\xs.length+zs.length<=sizeLine/\Q .ax (upd H l (.lst (xs++zs)))
theorem ZQ:L6 X "list.extend" S5:=by
 intro Z s σ H x vs v us Q I rx rv h;obtain⟨l,b,xs,zs,rfl,rfl,hH,hB,hz,q⟩:=h;cases rx;obtain⟨u,rfl,ru⟩:=rv.one;cases ru;obtain⟨z,ao,n,r,hl,e⟩:=I.qC hH;obtain⟨z2,bS,n2,r2,Sd,e2⟩:=I.qC hB;have hsz:ao.toArray.size+bS.toArray.size<=sizeLine:=by rw[Ah,Ah];omega
 have sX:¬(!ao.toArray.isEmpty&&Builtin.List.listTooLong (ao.toArray.size+bS.toArray.size))=true:=by
  rw[nK hsz,En];exact A4
 refine sK Eb ⟨_,e,rfl⟩ DW (DJ _ _)
  (AutoSeq1.list_extend_list_list_0 l ao.toArray n b bS.toArray n2 sX (by rw[Ah];omega) ∅) ⟨e,e2,?_⟩
 refine⟨.ax,_,I.IJ (its':=ao++bS) hH e (by simp) (r.append r2) ?_,rfl,q⟩;rw[Ai];omega
def afu:V->O V->Hp->VK->Prop:=λx vs H Q=>∃l xs y,x=.ref l/\vs=[]/\H l=ap (.lst xs)/\xs[xs.length-1]?=ap y/\Q y (upd H l (.lst xs.dropLast))
theorem Yg:L6 X "list.pop" afu:=by
 intro Z s σ H x vs v us Q I rx rv h;obtain⟨l,xs,y,rfl,rfl,hH,hy,q⟩:=h;cases rx;have hus:=rv.zero;subst hus;obtain⟨z,ao,n,r,hl,e⟩:=I.qC hH;obtain⟨u,hu,ru⟩:=r.get hy;have YJ:ao.toArray[ao.toArray.size-1]?=ap u:=by
  show ao.toArray[ao.length-1]?=ap u;rw[<- Dx,<- hl];exact hu
 refine sK F.slot_list_pop ⟨_,e,rfl⟩ F.entry_list_pop (F.args_list_pop_1 _) (MeetsSeq.list_pop_last l ao.toArray n u YJ (by rw[Ah];omega)) ⟨e,?_⟩;refine⟨y,_,I.IJ (its':=ao.dropLast) hH e ?_ r.dropLast ?_,ru,q⟩
 ·rw[Ah,Du,Jz]
 ·rw[List.length_dropLast];omega
def Xu:V->O V->Hp->VK->Prop:=λx vs H Q=>∃l xs i k y,x=.ref l/\vs=[.int i]/\H l=ap (.lst xs)/\-(2 ^ 63)<=i/\i < 2 ^ 63/\seqIndex? i xs.length=ap k/\xs[k]?=ap y/\Q y (upd H l (.lst (xs.eraseIdx k)))
theorem PY:L6 X "list.pop" Xu:=by
 intro Z s σ H x vs v us Q I rx rv h;obtain⟨l,xs,i,k,y,rfl,rfl,hH,h1,h2,hk,hy,q⟩:=h;cases rx;obtain⟨u,rfl,ru⟩:=rv.one;obtain⟨t,rfl⟩:=ru;obtain⟨z,ao,n,r,hl,e⟩:=I.qC hH;obtain⟨w,hw,wM⟩:=r.get hy;refine sK F.slot_list_pop ⟨_,e,rfl⟩ F.entry_list_pop (F.args_list_pop_2 _ _)
  (MeetsSeq.list_pop_at l ao.toArray n i t k w (fitsIndex_both h1 h2) (by rw[Ah,<- hl];exact hk) (by rw[<- Dx];exact hw) (by rw[Ah];omega)) ⟨e,?_⟩
 refine⟨y,_,I.IJ (its':=ao.eraseIdx k) hH e ?_ (r.eraseIdx k) ?_,wM,q⟩
 ·show ao.toArray.eraseIdxIfInBounds k=(ao.eraseIdx k).toArray;rw[Du]
 ·have:=vt xs k;omega
def afw:R2:=λx y H Q=>∃l b xs zs,x=.ref l/\y=.ref b/\H l=ap (.lst xs)/\H b=ap (.lst zs)/\xs.length+zs.length<=sizeLine/\∀p,H p=bm->Q (.ref p) (upd H p (.lst (xs++zs)))
theorem X3:iR X (sn .Add) afw:=by
 intro Z s σ H x y v u Q I rx ry h;obtain⟨l,b,xs,zs,rfl,rfl,hH,hB,hz,q⟩:=h;cases rx;cases ry;obtain⟨z,ao,n,r,hl,e⟩:=I.qC hH;obtain⟨z2,bS,n2,r2,Sd,e2⟩:=I.qC hB;refine PySem.P.add_list e e2 ?_ (by rw[Ah,Ah];omega);have ea:ao.toArray++bS.toArray=(ao++bS).toArray:=by simp
 rw[ea];exact⟨.ref _,_,I.Yj (t':=s.toks) (r.append r2) (by rw[Ai];omega),rfl,q _ I.fresh⟩
def aft:R2:=λx y H Q=>∃l k xs,x=.ref l/\y=.int k/\H l=ap (.lst xs)/\-(2 ^ 63)<=k/\k < 2 ^ 63/\xs.length*k.toNat<=sizeLine/\
 ∀p,H p=bm->Q (.ref p) (upd H p (.lst (An k.toNat xs).flatten))
def len_rep(xs:List α)(k:Nat):(An k xs).flatten.length=k*xs.length:=by
 induction k with
 | zero=>simp
 | succ k ih=>rw[Bw,B9,Ai,ih,EU,Nat.add_comm]
theorem XX:iR X (sn .Mult) aft:=by
 intro Z s σ H x y v u Q I rx ry h;obtain⟨l,k,xs,rfl,rfl,hH,h1,h2,hz,q⟩:=h;cases rx;obtain⟨t,rfl⟩:=ry;obtain⟨z,ao,n,r,hl,e⟩:=I.qC hH;have Á:ao.toArray.size*k.toNat<=sizeLine:=by rw[Ah,<- hl];exact hz
 have agy:¬ao.toArray.size*k.toNat > (2 ^ 63-1) / 8:=by
  have:(sizeLine:Nat)<=(2 ^ 63-1) / 8:=by decide
  omega
 have ags:¬(!Builtin.List.listFitsIndex k)=true:=by
  rw[fitsIndex_both h1 h2];exact A4
 have sX:¬Builtin.List.listTooLong (ao.toArray.size*k.toNat)=true:=by
  rw[nK Á];exact A4
 have UL:List.foldl (λx1 x2=>x1++x2) #[] (An (if ao.toArray.isEmpty=true then 0 else k.toNat) ao.toArray)=(An k.toNat ao).flatten.toArray:=by
  have f0:∀m:Nat,List.foldl (λx1 x2=>x1++x2) #[] (An m ao.toArray)=(An m ao).flatten.toArray:=λm=>by
   have:=foldl_rep ao m [];exact this
  rw[f0];cases ao with
  | nil=>simp
  | cons a r'=>rw[if_neg (by simp)]
 refine wpAny_binaryOp_repeat_ref (T:="list") (U:="int") ⋯ ⟨_,e,rfl⟩ (λs'=>typeIs_int s' k t) noFill_list_mul F.fills_int_mul F.slot_int_rmul repeat_list F.slot_int_index.lookup
  (sK F.slot_int_rmul (typeIs_int s k t) F.entry_int_rmul (F.args_int_rmul_2 _ _) (int___rmul___int_list k t l ao.toArray n)
   ⟨e,rfl,⟨_,e,rfl⟩,sK F.slot_list_mul ⟨_,e,rfl⟩ F.entry_list_mul (F.args_list_mul_2 _ _) (AutoListH.list___mul___list_int_3 l ao.toArray n k t ags agy sX) ⟨e,?_⟩⟩)
 rw[UL];exact⟨.ref _,_,I.Yj (t':=s.toks) (r.rep k.toNat) (by rw[len_rep,Nat.mul_comm];exact hz),rfl,q _ I.fresh⟩
end
end L2
variable{xs:O (O L2.Key×BD×A6)}{o:Option L2.V}{v:L2.V}{kvs:O (O L2.Key×L2.V)}{env:PySem.Env}{value:BX}{wz:Cd}
namespace L2
section
variable{κ:Type}[DecidableEq κ]
def iA(kvs:O (κ×V))(k:κ):Option V:=(kvs.find? λkv=>decide (kv.1=k)).map (·.2)
def putK(kvs:O (κ×V))(k:κ)(v:V):O (κ×V):=
 if (kvs.any λkv=>decide (kv.1=k))=true then kvs.map (λkv=>if kv.1=k then (kv.1,v) else kv) else kvs++[(k,v)]
def kB{p:κ×V}{r:O (κ×V)}{k:κ}(e:p.1=k):iA (p::r) k=ap p.2:=by simp[iA,Bj,e]
def kC{p:κ×V}{r:O (κ×V)}{k:κ}(e:¬p.1=k):iA (p::r) k=iA r k:=by simp[iA,Bj,e]
theorem rN(k:κ):∀kvs:O (κ×V),(kvs.any λkv=>decide (kv.1=k))=(iA kvs k).isSome
 | []=>rfl
 | p::r=>by
  rw[BA];by_cases e:p.1=k
  ·simp only[kB e,decide_eq_true e,Bool.true_or,Option.isSome_some]
  ·rw[kC e,decide_eq_false e,Bool.false_or];exact rN k r
theorem qh(kvs:O (κ×V))(k:κ)(v:V):(putK kvs k v).length<=kvs.length+1:=by
 unfold putK
 split
 ·rw[Af];omega
 ·rw[Ai,Ar,Bp];omega
def uh.M9{u:Option bn}(r:uh o u):o.isSome=u.isSome:=by
 cases o with
 | none=>cases u with
  | none=>rfl
  | some _=>exact(show False from r).elim
 | some _=>cases u with
  | none=>exact(show False from r).elim
  | some _=>rfl
def KV.val{kvs:O (κ×V)}{vs:O (κ×bn)}(r:KV kvs vs)(k:κ):uh (iA kvs k) (valueAt vs k):=by
 unfold KV at r
 induction r with
 | nil=>exact Cg
 | @cons p q ps qs h t ih=>
  obtain⟨h1,h2⟩:=h;by_cases e:p.1=k
  ·have e':q.1=k:=h1.symm.trans e;have b:valueAt (q::qs) k=ap q.2:=by simp[valueAt,Bj,e']
   rw[kB e,b];exact h2
  ·have e':¬q.1=k:=λz=>e (h1.trans z);have b:valueAt (q::qs) k=valueAt qs k:=by simp[valueAt,Bj,e']
   rw[kC e,b];exact ih
def KV.any{kvs:O (κ×V)}{vs:O (κ×bn)}(r:KV kvs vs)(k:κ):(kvs.any λkv=>decide (kv.1=k))=vs.any λkv=>decide (kv.1=k):=by
 induction r with
 | nil=>rfl
 | cons h t ih=>rw[BA,BA,ih,h.1]
def KV.Xo{kvs:O (κ×V)}{vs:O (κ×bn)}(r:KV kvs vs)(k:κ)(ry:RelV y u) :
  KV (kvs.map λkv=>if kv.1=k then (kv.1,y) else kv) (vs.map λkv=>if kv.1=k then (kv.1,u) else kv):=by
 induction r with
 | nil=>exact .nil
 | @cons p q ps qs h t ih=>
  rw[Ap,Ap];refine .cons ?_ ih;obtain⟨h1,h2⟩:=h;by_cases e:p.1=k
  ·rw[if_pos e,if_pos (h1.symm.trans e)];exact⟨h1,ry⟩
  ·rw[if_neg e,if_neg (λz=>e (h1.trans z))];exact⟨h1,h2⟩
def KV.put{kvs:O (κ×V)}{vs:O (κ×bn)}(r:KV kvs vs)(k:κ)(ry:RelV y u):KV (putK kvs k y) (stored vs k u):=by
 unfold putK stored;rw[r.any k];by_cases e:(vs.any λkv=>decide (kv.1=k))=true
 ·rw[if_pos e,if_pos e];exact r.Xo k ry
 ·rw[if_neg e,if_neg e];exact Paired.snoc r ⟨rfl,ry⟩
def KV.length{kvs:O (κ×V)}{vs:O (κ×bn)}(r:KV kvs vs):kvs.length=vs.length:=Paired.length r
end
def Qr{k:Key}(r:RelV (kV k) u):(bG P w).is k u=true:=by
 cases k with
 | inl i=>obtain⟨t,e⟩:=(show ∃t,u=Di i t from r);subst e;exact Gj P w i t
 | inr x=>obtain⟨t,e⟩:=(show ∃t,u=Bb x t from r);subst e;exact Gi P w x t
theorem vG:∀{ks:O Key}{us:O bn},Vals (ks.map kV) us->ItemsAre (bG P w) ks us
 | [],_,r=>by rw[D5]at r;cases r;exact .nil
 | k::ks,_,r=>by
  rw[Ap]at r;cases r with
  | cons h t=>exact .cons (Qr h) (vG t)
abbrev KT(H:Hp):O (O Key×V)->O (O Key×ce×bn)->Prop:=Paired λp q=>p.1=q.1/\H q.2.1=ap (.tup (p.1.map kV))/\RelV p.2 q.2.2
def KT.val(r:KT H kvs xs)(k:O Key):uh (iA kvs k) ((atKey xs k).map (·.2)):=by
 induction r with
 | nil=>exact Cg
 | @cons p q ps qs h t ih=>
  obtain⟨h1,_,h2⟩:=h;by_cases e:p.1=k
  ·have e':q.1=k:=h1.symm.trans e;have b:atKey (q::qs) k=ap q.2:=by simp[atKey,Bj,e']
   rw[kB e,b];exact h2
  ·have e':¬q.1=k:=λz=>e (h1.trans z);have b:atKey (q::qs) k=atKey qs k:=by simp[atKey,Bj,e']
   rw[kC e,b];exact ih
def KT.Xo(r:KT H kvs xs)(k:O Key)(ry:RelV y u) :
  KT H (kvs.map λkv=>if kv.1=k then (kv.1,y) else kv) (xs.map (putAt k u)):=by
 induction r with
 | nil=>exact .nil
 | @cons p q ps qs h t ih=>
  rw[Ap,Ap];refine .cons ?_ ih;obtain⟨h1,h2,h3⟩:=h;unfold putAt;by_cases e:p.1=k
  ·rw[if_pos e,if_pos (h1.symm.trans e)];exact⟨h1,h2,ry⟩
  ·rw[if_neg e,if_neg (λz=>e (h1.trans z))];exact⟨h1,h2,h3⟩
def KT.put(r:KT H kvs xs)(k:O Key)(hb:H b=ap (.tup (k.map kV)))(ry:RelV y u) :
  KT H (putK kvs k y) (zn xs k b u):=by
 have e:(kvs.any λkv=>decide (kv.1=k))=(atKey xs k).isSome:=by
  rw[rN,(r.val k).M9,Option.isSome_map]
 unfold putK zn;rw[e];by_cases q:(atKey xs k).isSome=true
 ·rw[if_pos q,if_pos q];exact r.Xo k ry
 ·rw[if_neg q,if_neg q];exact Paired.snoc r ⟨rfl,hb,ry⟩
def KT.keeps(r:KT H kvs xs)(ht:∀b ys,H b=ap (.tup ys)->H' b=ap (.tup ys)):KT H' kvs xs:=
 Paired.Yh r λ_ _ z=>⟨z.1,ht _ _ z.2.1,z.2.2⟩
section
def VO{u:HO}(ok:lY P w H h)(e:Rd H a u):a6 P w H h a u:=e.ok ok
def tT{kvs:O (Key×V)}(ok:lY P w H h)(e:Rd H a (.dK kvs)):kvs.length<=sizeLine/\(a==re)=false/\∃vs,KV kvs vs/\h.DictOf (bG P w) a vs:=
 show a6 P w H h a (.dK kvs) from VO ok e
def ac6{kvs:O (Key×V)}(ok:lY P w H h)(e:H a=ap (.dK kvs)):kvs.length<=sizeLine/\(a==re)=false/\∃vs,KV kvs vs/\h.DictOf (bG P w) a vs:=tT ok (.inl e)
def xo{ks:O Key}(ok:lY P w H h)(e:H a=ap (.tup (ks.map kV))):(nn (bG P w)).is h ks a:=by
 obtain⟨_,ao,r,o,h1,h2,n,h3⟩:=(show a6 P w H h a (.tup (ks.map kV)) from ok a _ e);exact⟨o,ao.toArray,n,h1,h2,h3,by simpa using vG r⟩
def tS(ok:lY P w H h)(e:Rd H a (.dT kvs)):kvs.length<=sizeLine/\(a==re)=false/\
  ∃xs,KT H kvs xs/\h.DictOfH (nn (bG P w)) a xs:=by
 obtain⟨z,y,xs,r,o,es,ep,h1,h2,h3,h4,h5⟩:=(show a6 P w H h a (.dT kvs) from VO ok e);refine⟨z,y,xs,r,o,es,ep,h1,h2,h3,h4,λx hx=>?_,h5⟩;have all:∀{l:O (O Key×V)}{m:O (O Key×ce×bn)},KT H l m->∀x∈m,(nn (bG P w)).is h x.1 x.2.1:=by
  intro l m q
  induction q with
  | nil=>intro x hx;exact nomatch hx
  | @cons p q ps qs hq t ih=>
   intro x hx;rcases Ax.mp hx with e | hx
   ·subst e;exact xo ok (by rw[<- hq.1];exact hq.2.1)
   ·exact ih x hx
 exact all r x hx
def ac4(ok:lY P w H h)(e:H a=ap (.dT kvs)):kvs.length<=sizeLine/\(a==re)=false/\
  ∃xs,KT H kvs xs/\h.DictOfH (nn (bG P w)) a xs:=tS ok (.inl e)
end
def Km(H:Hp)(a:ce)(y:V)(r:Option V):Prop:=
 (∃kvs k,Rd H a (.dK kvs)/\y=kV k/\r=iA kvs k)\/∃kvs k b,Rd H a (.dT kvs)/\y=.ref b/\H b=ap (.tup (k.map kV))/\r=iA kvs k
def R5(H:Hp)(a:ce)(y v:V)(H':Hp):Prop:=
 (∃kvs k,H a=ap (.dK kvs)/\y=kV k/\kvs.length < sizeLine/\H'=upd H a (.dK (putK kvs k v)))\/
 ∃kvs k b,H a=ap (.dT kvs)/\y=.ref b/\H b=ap (.tup (k.map kV))/\kvs.length < sizeLine/\H'=upd H a (.dT (putK kvs k v))
def Km.t{k:O Key}(e:H a=ap (.dT kvs))(eb:H b=ap (.tup (k.map kV))):Km H a (.ref b) (iA kvs k):=.inr ⟨kvs,k,b,.inl e,rfl,eb,rfl⟩
def R5.t{k:O Key}(e:H a=ap (.dT kvs))(eb:H b=ap (.tup (k.map kV)))(hl:kvs.length < sizeLine) :
  R5 H a (.ref b) v (upd H a (.dT (putK kvs k v))):=.inr ⟨kvs,k,b,e,rfl,eb,hl,rfl⟩
section
variable{r:bn}
def Inv.big(I:Inv X Z σ H s):re < s.heap.objs.size:=by
 have h:=(I.mod.glob.keeps I.bk).lt;exact EW ⋯ h
def ND(hu:A.units+1 < pc)(I:Inv X Z σ H s)(g:Km H a y (ap v))(ry:RelV y u)(h:∀w' s',Inv X Z σ H s'->RelV v w'->Q w' s') :
  db (ev X.prog X.w) A (Ch (.ref a) u) Q E s:=by
 rcases g with⟨kvs,k,e,ey,l⟩ | ⟨kvs,k,b,e,ey,eb,l⟩
 ·subst ey;obtain⟨z,hd,vs,Õ,dd⟩:=tT I.br e;obtain⟨w',hw,wM⟩:=uh.some_of (v:=v) (o:=valueAt vs k) (by rw[l];exact Õ.val k);exact wpAny_getItem_of (Qr ry) dd.mapOf hw (h w' _ (I.tok _) wM)
 ·subst ey;cases (show u=Az b from ry);obtain⟨z,hd,xs,Õ,dd⟩:=tS I.br e;obtain⟨w',hw,wM⟩:=uh.some_of (v:=v) (o:=(atKey xs k).map (·.2)) (by rw[l];exact Õ.val k);obtain⟨p,hp,xO⟩:=Option.map_eq_some_iff.mp hw;refine wpAny_getItem_heap (tupleKind_room_in1 hu) (xo I.br eb) dd hp ?_;rw[xO];exact h w' _ (I.tok _) wM
def LV{t':Nat}{ob:HO}(I:Inv X Z σ H s)(mu:Mut (H a))(hs:Cc a s.heap h')(he:∃q,h'.get? a=ap q)(new:a6 X.prog X.w (upd H a ob) h' a ob) :
  Inv X Z σ (upd H a ob) {s with heap:=h',toks:=t'}:=
 I.write (x:=a) (e:=a) mu (.inl rfl) (λb q hb z=>(hs.2 b hb).trans z) he new
def Zo{kvs:O (Key×V)}{vs:O (Key×bn)}(z:kvs.length<=sizeLine)(hd:(a==re)=false)(Õ:KV kvs vs)(dd:h'.DictOf (bG P w) a vs) :
  a6 P w H' h' a (.dK kvs):=⟨z,hd,vs,Õ,dd⟩
theorem NC{Q:Unit->cr->Prop}(hu:A.units+1 < pc)(I:Inv X Z σ H s)(g:R5 H a y v H')(ry:RelV y u)(rv:RelV v r)(h:∀s',Inv X Z σ H' s'->Q () s') :
  db (ev X.prog X.w) A (setItem (.ref a) u r) Q E s:=by
 rcases g with⟨kvs,k,e,ey,l,eH⟩ | ⟨kvs,k,b,e,ey,eb,l,eH⟩
 ·subst ey eH;obtain⟨z,hd,vs,Õ,dd⟩:=ac6 I.br e;have hz:vs.length<=sizeLine:=by rw[<- Õ.length];exact z
  have hl:(putK kvs k v).length<=sizeLine:=by have:=qh kvs k v;omega
  refine wpAny_setItem_pairs (hsz:=hz) (Qr ry) dd λh' ğ hs=>h _ ?_;have he:∃q,h'.get? a=ap q:=let ⟨q,_,_,hq,_⟩:=ğ;⟨q,hq⟩;exact LV I (by rw[e];exact Cg) hs he (Zo hl hd (Õ.put k rv) ğ)
 ·subst ey eH;cases (show u=Az b from ry);obtain⟨z,hd,xs,Õ,dd⟩:=ac4 I.br e;have hz:xs.length<=sizeLine:=by rw[<- Paired.length Õ];exact z
  have hl:(putK kvs k v).length<=sizeLine:=by have:=qh kvs k v;omega
  refine wpAny_setItem_heap (hsz:=hz) (tupleKind_room_in1 hu) (xo I.br eb) dd λh' ğ hs=>h _ ?_;obtain⟨q,es,ep,hq,h2,h3,h4,_,h5⟩:=ğ;refine LV I (by rw[e];exact Cg) hs ⟨q,hq⟩ ⟨hl,hd,_,(Õ.put k eb rv).keeps λc ys ec=>?_,q,es,ep,hq,h2,h3,h4,h5⟩;rw[aq (Li ec e (λz=>nomatch z))];exact ec
end
def Vx(i:kw):Prop:=∀ov iv,subscripted i false ov iv=operate [ov,iv] (Ch ov iv)
def SI{Æ:kw}{id:String}
  (hl:Fk (.type T) "__getitem__"=pure (ap (.builtin id))) (hs:Vx Æ)
  (h:db (ev prog w) A (lf value env) (λo s₁=>db (ev prog w) A (lf Æ env) (λi s₂=>s₂.TypeIs o T/\db (ev prog w) A (Ch o i) Q E s₂) E s₁) E s) :
  db (ev prog w) A (lf (.Subscript value Æ pos) env) Q E s:=by
 refine Subscript_ (BL h (λo s₁ h₁=>BL h₁ (λi s₂ h₂=>?_) λ_ _ x=>x) λ_ _ x=>x);obtain⟨hT,h₂⟩:=h₂;refine Aa ?_;refine Aa (E8 hT hl ?_);have fin:db (ev prog w) A (subscripted Æ false o i) (λr s₃=>db (ev prog w) A (letTemporaryGo value o r >>= λ_=>pure r) Q E s₃) E s₂:=by
  rw[hs o i];exact wpAny_operating (BL h₂ (λr s₃ h₃=>Aa (wpAny_letTemporaryGo (Ae h₃))) λ_ _ x=>x)
 first
  | exact Ae (Aa fin)
  | exact Aa (Ae (Aa fin))
  | exact Aa fin
def Hi(I:Inv X Z σ H s)(g:Km H a y o):s.TypeIs (.ref a) "dict":=by
 rcases g with⟨kvs,k,e,_,_⟩ | ⟨kvs,k,b,e,_,_,_⟩
 ·obtain⟨_,_,vs,_,dd⟩:=tT I.br e;exact dd.typeIs
 ·obtain⟨_,_,xs,_,dd⟩:=tS I.br e;exact dd.typeIs
def aaL(td ty:TE):TE:=λσ H Q=>td σ H λx H1=>ty σ H1 λy H2=>∃a v,x=.ref a/\Km H2 a y (ap v)/\Q v H2
def aaY(td ty tv:TE):TS:=λD σ H=>tv σ H λv H1=>td σ H1 λx H2=>ty σ H2 λy H3=>∃a H4,x=.ref a/\R5 H3 a y v H4/\D.nx σ H4
section
variable{o i:kw}{td ty tv:TE}
def K4(hu:X.A.units+1 < pc)(ho:PE X o td)(hi:PE X i ty)(hs:Vx i):PE X (.Subscript o i pos) (aaL td ty):=by
 intro Z s σ H Q I h;refine SI PySem.F.slot_dict_getitem.lookup hs (bV (ho Z s σ H _ I h) λu s1 ⟨x,H1,I1,rx,q1⟩=>bV (hi Z s1 σ H1 _ I1 q1) λiv s2 ⟨y,H2,I2,ry,a,v,ex,g,q2⟩=>?_);subst ex;obtain rfl:u=Az a:=rx;exact⟨Hi I2 g,ND hu I2 g ry λw' s3 I3 wM=>⟨v,H2,I3,wM,q2⟩⟩
def Tb(hu:X.A.units+1 < pc)(ho:PE X o td)(hi:PE X i ty)(hv:PE X value tv)(hs:lc value (ap (.Subscript o i Ú)) pos.line X.env=pure false) :
  PS X (.Assign [.Subscript o i Ú] value pos) (aaY td ty tv):=by
 intro Z s σ H D I h;refine wpAny_Assign_Subscript (bV (hv Z s σ H _ I h) λr s1 ⟨v,H1,I1,rv,q1⟩=>bV (ho Z s1 σ H1 _ I1 q1) λu s2 ⟨x,H2,I2,rx,q2⟩=>bV (hi Z s2 σ H2 _ I2 q2) λiv s3 ⟨y,H3,I3,ry,a,H4,ex,g,q3⟩=>?_) hs;subst ex;obtain rfl:u=Az a:=rx;exact NC hu I3 g ry rv λs4 I4=>⟨σ,H4,I4,q3⟩
end
def RE(h:lm)(hb:re < h.objs.size):a6 P w H (h.push {cls:=.type "dict",data:=.dict #[]}) h.objs.size (.dK []):=
 ⟨A8 _,beq_eq_false_iff_ne.mpr (Bx (AB hb)),[],.nil,Heap.DictOf.new h⟩
def RC(h:lm)(hb:re < h.objs.size):a6 P w H (h.push {cls:=.type "dict",data:=.dict #[]}) h.objs.size (.dT []):=
 ⟨A8 _,beq_eq_false_iff_ne.mpr (Bx (AB hb)),[],.nil,_,#[],0,Aq _ rfl,⟨rfl,rfl,rfl⟩,rfl,rfl,Ej⟩
def W5:TE:=λ_ H Q=>∀p,H p=bm->Q (.ref p) (upd H p (.dK []))
def W4:TE:=λ_ H Q=>∀p,H p=bm->Q (.ref p) (upd H p (.dT []))
section
def Py:PE X (.Dict [] [] pos) W5:=λZ s σ H Q I h=>
 wpAny_Dict_empty ⟨.ref s.heap.objs.size,_,I.laid (a:=s.heap.objs.size) (o:=.dK []) (t':=s.toks) (λ_ _ q=>Ag _ q) (Am _) (RE s.heap I.big),rfl,h _ (I.br.fresh (Am _))⟩
def Px:PE X (.Dict [] [] pos) W4:=λZ s σ H Q I h=>
 wpAny_Dict_empty ⟨.ref s.heap.objs.size,_,I.laid (a:=s.heap.objs.size) (o:=.dT []) (t':=s.toks) (λ_ _ q=>Ag _ q) (Am _) (RC s.heap I.big),rfl,h _ (I.br.fresh (Am _))⟩
end
structure M2(X:Cx)(o:kw)(m:Str)(Â:Pos)(e f:kw)(bP:Pos):Prop where
 base:pr o m X.env (lf o X.env)=lf o X.env
 few:((ut bP (ga [e,f] X.env)).all (λx=>!x.1)&&(backToKw bP (keywordEach [] X.env)).all (λx=>x.1.isSome)
  && decide (([e,f]:List kw).length+([]:List Keyword).length+(if ([]:List Keyword).isEmpty then 0 else 1) < 30))=true
 line:(Â.endLine==bP.line)=true
 trees:ut bP (ga [e,f] X.env)=[(false,lf e X.env),(false,lf f X.env)]
def IsD(H:Hp)(a:ce):Prop:=(∃kvs,Rd H a (.dK kvs))\/∃kvs,Rd H a (.dT kvs)
end L2
variable{Ò:O B7}{XP:(B7->Option A6)->FO->Prop}{YP:PySem.World->FO->Prop}
namespace Att
open PySem PySem.W PySem.Calls PyProof.Rows
def qI{P:Params}:∀(ns:O Int) (vs:O bn),WellAll P h vs (ns.map WData.int)->tt vs ns:=by
 intro ns
 induction ns with
 | nil=>
  intro vs w;cases w;exact .nil
 | cons n ns ih=>
  intro vs w;cases w with
  | cons a b=>
   cases a;exact .cons _ _ (ih _ b)
theorem Mr{l:OpenLaw}(hn:l.most=ap n){P:Params}{args:O WData}{ß:O bn}
  (UI:l.row.toRowW.claim.pre args=true) (İ:WellAll P h ß args) :
  ∃a vs ns,ß=[Az a]/\args=[WData.list (ns.map WData.int)]/\h.get? a=ap {cls:=.type "list",data:=.seq vs.toArray}/\tt vs ns/\ns.length<=n:=by
 have hsh:=(pre_splitW UI).1;have hc:l.pre.holds [] {args:=args}=true:=(pre_splitW UI).2;obtain⟨d,r,rfl,h1,h2⟩:=hasAllW_cons hsh;obtain rfl:=hasAllW_nil h2;obtain⟨xs,rfl,h3⟩:=hasW_list h1;obtain⟨ns,rfl⟩:=items_int h3;have Á:ns.length<=n:=by
  unfold OpenLaw.pre at hc;have h4:(WTm.not (.lt (.lit (.int (n:Int))) (.len (.arg 0)))).holds [] {args:=[.list (ns.map .int)]}=true:=by
   have h4:=(holds_andW hc).1;rw[hn]at h4;exact h4
  have h5:=condW_of h4 (w_not (w_lt w_lit (w_len_list (w_arg rfl))));refine Nat.le_of_not_lt λq=>?_
  first
   | (rw[decide_eq_true q']at h5;exact absurd h5 ⋯)
   | (simp at h5;omega)
 cases İ with
 | cons w1 w2=>
  cases w2;cases w1 with
  | list ho agB=>exact⟨_,_,ns,rfl,rfl,ho,qI ns _ agB,Á⟩
def Mx(l:OpenLaw)(args:O WData):l.row.toRowW.claim.post args (.bool true) args=true:=
 postW_of (r:=l.row.toRowW) (X:=(true==true))
  (show WShape.has [] (.bool true) .bool=true by first | rfl | decide | simp[WShape.has,WShape.arms,WShape.armsAll])
  (show(WTm.eq .res (.lit (.bool true))).value [] {args:=args,res:=ap (.bool true),after:=args}=ap (.bool (true==true)) from w_eq_bool (w_res rfl) w_lit) rfl
def Hr{l:OpenLaw}{q:sw}{d:DefRec}
  (hn:l.most=ap n) (þ:d.params.defaults=[])
  (call:∀(w:tz) (s₀ s₁:cr) (mg mb:Str->Option bn) (fa:ce) (o:Obj) (pm cd Ç:bn) (a:ce) (vs:O bn) (ns:O Int),
   Ground q Ò [] XP w s₀ mg mb s₁.heap->YP w s₁.heap->
   s₁.heap.get? fa=ap o->o.data=.func (docDef d.name d.params d.body d.scope pm cd Ç)->s₁.heap.CodeRec cd d.name->mg d.name=ap (.ref fa)->
   s₁.heap.get? a=ap {cls:=.type "list",data:=.seq vs.toArray}->tt vs ns->ns.length<=n->s₁.gens=#[]->
   Da (ev l.prog w) callerA (.call (.ref fa) ⟨[.ref a],[]⟩) (λr s'=>r=.ok (.ret (.bool true))/\OldK s₁.heap s'.heap/\s'.os=s₁.os/\FB s'.gens) s₁) :
  WalkO q Ò XP YP l.row.toRowW d [] (λf vs=>F0 f vs):=by
 intro w s₀ s₁ mg mb G Y fa o pm cd Ç dV kV ho hd jc hD hmg hg args ß as UI akm hrd İ hlo;obtain rfl:dV=.none:=Dflts.none hD þ;obtain rfl:kV=.none:=Dflts.noKw hD;obtain⟨a,vs,ns,rfl,rfl,YO,Ö,Á⟩:=Mr hn UI İ;refine enter_call (codeAny_mono (call w s₀ s₁ mg mb fa o pm cd Ç a vs ns G Y ho (fd_plain hd) jc hmg YO Ö Á hg) λr s' hq=>?_);obtain⟨rfl,h2,h3,h4⟩:=hq;exact⟨.inl ⟨.bool true,.bool true,[],rfl,λ_=>rfl,.bool true,Mx l _,λ_=>⟨List.Pairwise.nil,λ_ hm=>(nomatch hm)⟩⟩,h2,h3,h4⟩
end Att
variable{sp:L2.Sp}
namespace L2
theorem oZ:∀{vs:O bn}{ns:O Int},tt vs ns->Vals (ns.map V.int) vs
 | _,_,.nil=>.nil
 | _,_,.cons n t h=>.cons ⟨t,rfl⟩ (oZ h)
def Vw(H:Hp):Prop:=∀b,H b=bm\/∃o xs,H b=ap (.cq o (.lst xs))
def Qb{K:Ab}{mb:Str->Option bn}{CX:R6}{fa:ce}{s₁:cr}{vs:O bn}
  (KX:K.In s₁.heap) (HN:s₁.heap.Ns f8 mg) (hb:s₁.heap.Ns builtinsNs mb) (hbb:∀x:Str,x≠"__name__"->mb x=lw x) (agk:s₁.heap.NoLimit) (hg:s₁.gens=#[])
  (ha:s₁.heap.get? a=ap {cls:=.type "list",data:=.seq vs.toArray}) (hi:tt vs ns) (hl:ns.length<=sizeLine) (hr:fh k callerA)
  (F:∀base:lm,K.In base->base.Ns f8 mg->g8 P w K mg base CX k fa fd [x] sp) (acx:∀(s:cr) (u:bn),BindsTo s fd ⟨[u],[]⟩ [(x,u)])
  (UH:∀H:Hp,Vw H->c6 K H a (ns.map V.int)->sp [.ref a] H (λv _=>v=.bl true) λ_ _ _=>False)
  (ń:∀H e s',CX [] H s₁ (λ_ _ _=>False) e s'->False) :
  Da (ev P w) callerA (.call (.ref fa) ⟨[.ref a],[]⟩) (λr s'=>r=.ok (.ret (.bool true))/\OldK s₁.heap s'.heap/\s'.os=s₁.os/\FB s'.gens) s₁:=by
 have rv:=oZ hi;have afK:=hi.length;have Ü:∀H:Hp,Vw H->c6 K H a (ns.map V.int)->lY P w H s₁.heap->(∀b,H b≠bm->b=a)->(H a≠bm->K.lookup a=bm)->
   Da (ev P w) callerA (.call (.ref fa) ⟨[.ref a],[]⟩) (λr s'=>r=.ok (.ret (.bool true))/\OldK s₁.heap s'.heap/\s'.os=s₁.os/\FB s'.gens) s₁:=by
  intro H hO hS br hA hK;have L0:∀{b:ce}{o:Obj},s₁.heap.get? b=ap o->H b=bm->(xQ s₁.heap H).get? b=ap o:=λe n=>QI e n;have ñ:∀{b:ce}{o:Obj}{es:Array DictEntry}{ep:Nat},s₁.heap.get? b=ap o->o.data=.dict es ep->H b=bm:=λ{b o es ep} e d=>by
   cases q:H b with
   | none=>rfl
   | some u=>
    have e':b=a:=hA b (by rw[q];simp);subst e';rw[ha]at e;cases e;have d':Fq vs.toArray _=Data.dict es ep:=d;cases d'
  have č:∀{b:ce}{m:Str->Option bn},s₁.heap.Ns b m->(xQ s₁.heap H).Ns b m:=λ{b m} ⟨o,es,ep,e,d,r⟩=>⟨o,es,ep,L0 e (ñ e d),d,r⟩;have hKb:K.In (xQ s₁.heap H):=λb o e=>L0 (KX b o e) (by
   cases q:H b with
   | none=>rfl
   | some u=>
    have e':b=a:=hA b (by rw[q];simp);subst e';rw[hK (by rw[q];simp)]at e;cases e)
  have hM:Mod K mg (xQ s₁.heap H):=⟨hKb,č HN,⟨mb,č hb,hbb⟩,let ⟨mc,h1,h2⟩:=agk;⟨mc,č h1,h2⟩⟩;have e0:VA P w K mg (xQ s₁.heap H) callerA [] s₁ H:=⟨rfl,hM,λb o e=>TU e,Nat.le_of_eq (Ni _ _),trivial,λb hb=>absurd (show b∈([]:O ce) from hb) (by simp),br,.of_eq hg⟩;refine codeAny_mono ((F _ hKb (č HN)).run callerA [] s₁ H ⟨[.ref a],[]⟩ [.ref a] [.ref a] _ _ hr e0 (acx s₁ (.ref a)) (.cons rfl .nil) (UH H hO hS)) λr s' h=>?_;cases r with
  | error e=>exact(ń H e s' h).elim
  | ok fl=>
   cases fl with
   | next=>exact Br h
   | brk=>exact Br h
   | cont=>exact Br h
   | ret u=>
    obtain⟨v,H',os,bare,un,agh,r',q⟩:=h;have q':v=.bl true:=q;subst q';obtain rfl:u=CW true:=r';refine⟨rfl,OldK.of_keep λb o e=>?_,os,bare⟩;cases q:H b with
    | none=>exact un.keep b o e q (by intro z;exact absurd (show b∈([]:O ce) from z) (by simp)) (by simp)
    | some u=>
     rcases hO b with z | ⟨ob,xs,z⟩
     ·rw[q]at z;cases z
     ·have z2:=un.tD b ob _ z;obtain⟨e1,_⟩:=br b _ z;obtain⟨e2,_⟩:=agh b _ z2;rw[e]at e1;cases e1;exact e2
 cases hk:K.lookup a with
 | some o=>
  have e:=KX a o hk;rw[ha]at e;cases e;refine Ü (λ_=>bm) (λ_=>.inl rfl) (.inr ⟨_,vs.toArray,_,hk,rfl,rfl,rfl,by rw[Ah,afK];exact hl,by simpa using rv⟩) (λb u z=>by have z':(bm:Option HO)=ap u:=z;cases z') (λb z=>absurd rfl z) λz=>absurd rfl z
 | none=>
  refine Ü (λb=>if b=a then ap (.cq {cls:=.type "list",data:=.seq vs.toArray} (.lst (ns.map V.int))) else bm) (λb=>?_) (.inl (.inr ⟨{cls:=.type "list",data:=.seq vs.toArray},if_pos rfl⟩)) (λb u z=>?_) (λb z=>?_) λ_=>hk
  ·by_cases hb:b=a
   ·exact .inr ⟨_,_,if_pos hb⟩
   ·exact .inl (if_neg hb)
  ·by_cases hb:b=a
   ·have z':=(if_pos hb).symm.trans z;cases z';subst hb;exact⟨ha,by rw[Af];exact hl,vs,_,rv,ha⟩
   ·have z':=(if_neg hb).symm.trans z;cases z'
  ·by_cases hb:b=a
   ·exact hb
   ·exact absurd (if_neg hb) z
def Ss{l:E6}{q:sw}{d:DefRec}{K:Params->Ab}{CX:tz->R6}{sp:tz->Sp}
  (hn:l.most=ap n) (hn2:n<=sizeLine) (þ:d.params.defaults=[]) (hr:fh k callerA)
  (hY:∀(w:tz) (h:lm),YP w h->(K w.params).In h)
  (F:∀(w:tz) (mg:Str->Option bn) (fa:ce) (h:lm),(K w.params).In h->h.Ns f8 mg->mg d.name=ap (.ref fa)->
   ∃fd:Fa,(∀(s:cr) (u:bn),BindsTo s fd ⟨[u],[]⟩ [(x,u)])/\
    ∀base:lm,(K w.params).In base->base.Ns f8 mg->g8 l.prog w (K w.params) mg base (CX w) k fa fd [x] (sp w))
  (UH:∀(w:tz) (H:Hp) (a:ce) (ns:O Int),ns.length<=n->Vw H->c6 (K w.params) H a (ns.map V.int)->sp w [.ref a] H (λv _=>v=.bl true) λ_ _ _=>False)
  (ń:∀(w:tz) (H:Hp) (s:cr) (e:bn) (s':cr),CX w [] H s (λ_ _ _=>False) e s'->False) :
  PySem.W.WalkO q Ò XP YP l.row.toRowW d [] (λf vs=>F0 f vs):=by
 refine Att.Hr hn þ λw s₀ s₁ mg mb fa o pm cd Ç a vs ns G Y ho hd jc hmg YO Ö Á hg=>?_;have KX:=hY w _ Y;obtain⟨fd,hb,hF⟩:=F w mg fa _ KX G.T.g hmg;exact Qb KX G.T.g G.T.b G.T.builtins G.T.nolimit hg YO Ö (Bv Á hn2) hr hF hb (λH hO hS=>UH w H a ns Á hO hS) λH e s'=>ń w H s₁ e s'
end L2
variable{B:Prop}
namespace L2
def ft(s:ss):Arguments:=match s with
 | .FunctionDef _ a _ _ _ _ _ _ _ _=>a
 | _=>{posonlyargs:=[],args:=[],vararg:=bm,kwonlyargs:=[],kw_defaults:=[],kwarg:=bm,defaults:=[]}
def cX(s:ss):O ss:=match s with
 | .FunctionDef _ _ b _ _ _ _ _ _ _=>b
 | _=>[]
def aF(s:ss):nw:=match s with
 | .FunctionDef _ _ _ _ _ _ sc _ _ _=>sc
 | _=>{kind:=.function,names:=[],isGenerator:=false,isCoroutine:=false}
abbrev ui:R6:=λ_ _ _ _ _ _=>False
abbrev E0:XK:=λ_ _ _=>False
def abu:Passes ui X E0:=λ_ _ _ _ _ _ _ h=>h.elim
structure Sk(K:Ab)(x qual:Str)(st:ss)(f:ce)(fd:Fa):Prop where
 ex:∃(oc:bn) (od:Option ce) (kV Ç pm:bn) (an:Option ce) (fv ct:bn) (Sa:Array (Option bn)),
  fd=BZ x qual (ft st) (cX st) (aF st) .none kV Ç pm an fv ct/\K.lookup f=ap ⟨oc,od,.func fd,Sa⟩/\D7 K fv qual=true
 kp:D6 K (.ref f)=true
section
variable{K:Ab}
def Sk.ok{st:ss}{f:ce}{N:O Str}(F:Sk K x qual st f fd)(S:cY N ps (aF st))(len:∀vs H Q E,sp vs H Q E->vs.length=ps.length)
  (QL:∀(fv:bn) (A:u8) (outer:O Env) (s:cr) (H:Hp) (vs:O V) (Q:VK) (E:XK),fh k (A.deeper (xz qual (aF st) s.heap.objs.size f fv))->sp vs H Q E->
   ∃t,rE (uU ui P w K mg base N qual (aF st) f fv A outer s H E).VW (cX st) t/\t {nx:=λ_ H'=>Q .ax H',rt:=Q} (start N vs) H):g8 P w K mg base ui (k+1) f fd ps sp:=by
 obtain⟨oc,od,kV,Ç,pm,an,fv,ct,Sa,rfl,lk,jc⟩:=F.ex;refine acM lk jc S len λA outer s H vs Q E hr UH=>?_;obtain⟨t,h,q⟩:=QL fv A outer s H vs Q E hr UH;exact⟨t,h.VW,q⟩
def Sk.binds{st:ss}{f:ce}(F:Sk K x qual st f fd)
  (h:∀(kV Ç pm:bn) (an:Option ce) (fv ct:bn) (us:O bn),us.length=ps.length->bindArgs (BZ x qual (ft st) (cX st) (aF st) .none kV Ç pm an fv ct) ⟨us,[]⟩=pure (ps.zip us)):Binds K fd ps []:=by
 obtain⟨oc,od,kV,Ç,pm,an,fv,ct,Sa,rfl,lk,jc⟩:=F.ex;exact .all (h kV Ç pm an fv ct)
def Y2{st:ss}{f:ce}{kV:bn}(l:K.lookup f=ap ⟨oc,od,.func (BZ x qual (ft st) (cX st) (aF st) .none kV Ç pm an fv ct),Sa⟩)
  (c:D7 K fv qual=true) (k:D6 K (.ref f)=true):Sk K x qual st f (BZ x qual (ft st) (cX st) (aF st) .none kV Ç pm an fv ct):=⟨⟨oc,od,kV,Ç,pm,an,fv,ct,Sa,rfl,l,c⟩,k⟩
end
def Mn(h:n<=1000):n < sizeLine:=Nat.lt_of_le_of_lt h ⋯
def xK{A:Prop}(h:B):if false=true then A else B:=by
 exact h
def xJ{A:Prop}(h:A):if true=true then A else B:=by
 exact h
def lE(H H':Hp):Prop:=∀b o,H b=ap o->H' b=ap o
def lE.refl(H:Hp):lE H H:=λ_ _ h=>h
end L2
variable{a b:Nat}{H2:L2.Hp}{R:PySem.Result->D3->Prop}{Xs:PySem.Scope}{N':O B7}{ix:O (Option Nat)}{Ã:BX}{É:O BX}{kr:Cd}
namespace L2
def lsz{o:Obj}(e:h.get? b=ap o):b < h.objs.size:=Au e
def neN(h:a≠b):a≠b:=h
def ltN(h:a < b):a < b:=h
def WB{c:Nat}{v:Option bn}(q:h.IsCell c v):c < h.objs.size:=q.lt
structure bc(Xs:nw)(N:List Str)(sc:nw)(N':List Str)(ix:List (Option Nat)):Prop where
 kind:sc.kind=.function
 nc:∀y∈sc.names,y.2≠.cell
 loc:∀y∈sc.names,y.2=.local->sc.names.lookup y.1=ap .local
 fr:∀y∈sc.names,y.2=.free->(Xs.names.lookup y.1=ap .cell\/Xs.names.lookup y.1=ap .free)
 nd:N'.Nodup
 len:ix.length=N'.length
 map:((ix.zip N').all λp=>match p.1 with | none=>true | some j=>decide (N[j]?=ap p.2)&&decide (sc.names.lookup p.2=ap .free))=true
def bc.at{N:O Str}(S:bc Xs N sc N' ix){i:Nat}(h1:ix[i]?=ap (ap j))(h2:N'[i]?=ap x) :
  N[j]?=ap x/\sc.names.lookup x=ap .free:=by
 have hm:((ap j,x):Option Nat×Str)∈ix.zip N':=by
  refine Be (i:=i) ?_;rw[List.getElem?_zip_eq_some];exact⟨h1,h2⟩
 have q:=Cf.mp S.map _ hm;simp only[Aw,decide_eq_true_eq]at q;exact q
def oM(ix:O (Option Nat))(σ:St):St:=ix.map λo=>match o with | some j=>(σ[j]?).getD bm | none=>bm
def fw(X:Cx)(sc:nw)(N':O Str)(cl:O (Str×ce))(C:ce)(s2:cr)(H2:Hp)(fp:O ce):Cx where
 prog:=X.prog
 w:=X.w
 K:=X.K
 mg:=X.mg
 base:=X.base
 A:=X.A
 N:=N'
 s₀:=s2
 H₀:=H2
 env:=compEnvC sc cl C X.env
 outer:=X.stack
 stack:=X.stack
 ex:=fp
 calm:=X.calm
 fn:=λ_=>false
 pn:=[]
 xe:=λ_ _=>False
theorem mU:∀(names:O (Str×wv)) (cs:O (Str×ce)),(∀y∈names,y.2=.free->∃c,env.cells.lookup y.1=ap c)->
  ∃cl,(forIn names cs λ(x:Str×wv) (c:O (Str×ce))=>(match x with | (name,kind)=>do
    let c <- if (kind==Bf)=true then do let a <- cellOf env name;pure ((name,a)::c) else pure c
    pure (Co c):Sem (ForInStep (O (Str×ce)))))=pure cl/\(∀x c,cl.lookup x=ap c->cs.lookup x=ap c\/(env.cells.lookup x=ap c/\(x,Bf)∈names))/\(∀x,((x,Bf)∈names\/(∃c,cs.lookup x=ap c))->∃c,cl.lookup x=ap c)
 | [],cs,_=>⟨cs,rfl,λ_ _ h=>.inl h,λx h=>h.elim (λz=>nomatch z) λz=>z⟩
 | (n,k)::r,cs,h=>by
  by_cases hk:k=.free
  ·subst hk;obtain⟨c,hc⟩:=h (n,.free) Bu rfl;obtain⟨cl,e,h1,h2⟩:=mU r ((n,c)::cs) λy hy=>h y (AZ _ hy);refine⟨cl,?_,λx d hd=>?_,λx hx=>?_⟩
   ·rw[BS,<- e];simp only[beq_self_eq_true,if_true,cellOf,hc,pure_bind]
   ·rcases h1 x d hd with z | ⟨z1,z2⟩
    ·rw[Bk]at z;by_cases hx:(x==n)=true
     ·rw[hx]at z;have vJ:x=n:=eq_of_beq hx;subst vJ;cases z;exact .inr ⟨hc,Bu⟩
     ·have vJ:(x==n)=false:=by simpa using hx
      rw[vJ]at z;exact .inl z
    ·exact .inr ⟨z1,AZ _ z2⟩
   ·refine h2 x ?_;rcases hx with hx | ⟨d,hd⟩
    ·rcases Ax.mp hx with z | z
     ·injection z with z1 _;subst z1;exact .inr ⟨c,by rw[Bk];simp⟩
     ·exact .inl z
    ·by_cases hx:(x==n)=true
     ·exact .inr ⟨c,by rw[Bk,hx]⟩
     ·have vJ:(x==n)=false:=by simpa using hx
      exact .inr ⟨d,by rw[Bk,vJ];exact hd⟩
  ·obtain⟨cl,e,h1,h2⟩:=mU r cs λy hy=>h y (AZ _ hy);refine⟨cl,?_,λx d hd=>?_,λx hx=>?_⟩
   ·have hb:(k==Bf)=false:=by simpa using hk
    rw[BS,<- e];simp only[hb,Ao,if_false,pure_bind]
   ·rcases h1 x d hd with z | ⟨z1,z2⟩
    ·exact .inl z
    ·exact .inr ⟨z1,AZ _ z2⟩
   ·refine h2 x ?_;rcases hx with hx | hx
    ·rcases Ax.mp hx with z | z
     ·injection z with _ z2;exact absurd z2.symm hk
     ·exact .inl z
    ·exact .inr hx
def my(h:∀y∈sc.names,y.2=.free->∃c,env.cells.lookup y.1=ap c) :
  ∃cl,closureFor sc env=pure cl/\(∀x c,cl.lookup x=ap c->env.cells.lookup x=ap c/\(x,Bf)∈sc.names)/\(∀x,(x,Bf)∈sc.names->∃c,cl.lookup x=ap c):=by
 obtain⟨cl,e,h1,h2⟩:=mU (env:=env) sc.names [] h;refine⟨cl,?_,λx c hc=>(h1 x c hc).resolve_left (λz=>nomatch z),λx hx=>h2 x (.inl hx)⟩;unfold closureFor;have e':(forIn sc.names ([]:O (Str×ce)) λx r=>(match x with | (name,kind)=>if (kind==Bf)=true then do let a <- cellOf env name;pure (Co ((name,a)::r)) else pure (Co r):Sem (ForInStep (O (Str×ce)))))=pure cl:=by
  rw[<- e]
  first
   | rfl
   | (
     congr 1;funext x r;obtain⟨n,k⟩:=x;by_cases hk:(k==Bf)=true
     ·simp only[hk,if_true,pure_bind]
     ·simp only[hk,if_false,pure_bind,Ao])
   | simp only[pure_bind]
 simpa using e'
theorem gM{env:Env}:∀{names:O (Str×wv)}{x:Str},
  (names.map λ(n,k)=>if (k==Bf&&env.scope.kind==.function&&env.kindOf n==ap .cell) then (n,FI) else (n,k)).lookup x =
   (names.lookup x).map λk=>if (k==Bf&&env.scope.kind==.function&&env.kindOf x==ap .cell) then FI else k
 | [],_=>rfl
 | (n,k)::r,x=>by
  have ih:=@gM env r x;show List.lookup x ((if (k==Bf&&env.scope.kind==.function&&env.kindOf n==ap .cell)=true then (n,FI) else (n,k))::_)=_;cases hx:x==n with
  | true=>
   have e:=eq_of_beq hx;subst e;by_cases hc:(k==Bf&&env.scope.kind==.function&&env.kindOf x==ap .cell)=true
   ·rw[if_pos hc,Bk,Bk,hx];simp only[CI,hc,if_true]
   ·rw[if_neg hc,Bk,Bk,hx];simp only[CI,hc,if_false];simp
  | false=>
   by_cases hc:(k==Bf&&env.scope.kind==.function&&env.kindOf n==ap .cell)=true
   ·rw[if_pos hc,Bk,Bk,hx];exact ih
   ·rw[if_neg hc,Bk,Bk,hx];exact ih
def PFs(X:Cx)(É:O kw)(t:TT):Prop:=
 ∀(Z:O (ce×Obj)) (s:cr) (σ:St) (H:Hp) (Q:Bool->Hp->Prop),Inv X Z σ H s->t σ H Q->
  db (ev X.prog X.w) X.A (forIn É true λc r=>if r=true then do let ok <- isTrue c X.env (lf c X.env);pure (Co ok) else pure (Co r)) (TP X Z σ Q) X.xe s
def afh:TT:=λ_ H Q=>Q true H
def Tj:PFs X [] afh:=λZ s σ H Q I h=>by
 exact Ae ⟨H,I,h⟩
def Ti{c:kw}{t:TT}(hc:PT X c t):PFs X [c] t:=λZ s σ H Q I h=>by
 rw[BS];simp only[if_true,bind_assoc,pure_bind];refine Aa (bV (hc Z s σ H Q I h) λb s1 q=>?_);exact Ae q
def tLc(ix:O (Option Nat))(wi:TI)(g:TG)(tf:TT)(te:TE):TE:=λσ H Q=>wi σ H λJ H1=>∀D,H1 D=bm->∃W:Nat->Nat->St->O V->Hp->Prop,
 (∃m,W 0 m (oM ix σ) [] (upd H1 D (.lst [])))/\∀i m σ' ys H,W i m σ' ys H->H D=ap (.lst ys)/\
  ((J.stop i H/\Q (.ref D) H)\/(J.go i H/\∀x H',J.VE i H x H'->g x σ' H' λσ2 H2=>tf σ2 H2 λb H3=>
   if b=true then te σ2 H3 λy H4=>H4 D=ap (.lst ys)/\ys.length+1<=sizeLine/\∃m',m' < m/\W (i+1) m' σ2 (ys++[y]) (upd H4 D (.lst (ys++[y]))) else ∃m',m' < m/\W (i+1) m' σ2 ys H3))
def md{È:kw}{it Ä:bn}(I:Nat->cr->Prop)
  (turn:∀n s,I n s->db (ev prog w) A (pyNext it) (λr s₁=>match r with
   | none=>R (.ok .next) s₁
   | some v=>db (ev prog w) A (FM È it v) (λ_ VH=>db (ev prog w) A (EQ È env v) (λ_ s₂=>
     db (ev prog w) A (forIn É true λc r=>if r=true then do let ok <- isTrue c env (lf c env);pure (Co ok) else pure (Co r)) (λok s₃=>
      if ok=true then db (ev prog w) A (lf Ã env) (λx s₄=>
       db (ev prog w) A (call (.builtin "list.append") [Ä,x]) (λ_ s₅=>∃m,m < n/\I m s₅) (λ_ _=>False) s₄) (λ_ _=>False) s₃
      else ∃m,m < n/\I m s₃) (λ_ _=>False) s₂) (λ_ _=>False) VH) (λ_ _=>False) s₁) (λ_ _=>False) s)
  (n:Nat) (h:I n s) :
  Da (ev prog w) A (.compLoop (.ListComp Ã [⟨È,iter,É,0⟩] scope pos) 0 it Ä env) R s:=by
 refine codeAny_loop rfl I (λn s hI=>?_) n h;refine wpAny_noted ?_;rw[compTurn_list];refine Aa (EA (Aa (BL (turn n s hI) (λr s₁ h₁=>?_) λ_ _ h'=>h'.elim)));cases r with
 | none=>exact Ae h₁
 | some v=>
  refine Aa (BL h₁ (λ_ VH ab7=>?_) λ_ _ h'=>h'.elim);refine Aa (BL ab7 (λ_ s₂ h₂=>Aa (BL h₂ (λok s₃ h₃=>?_) λ_ _ h'=>h'.elim)) λ_ _ h'=>h'.elim);cases ok with
  | false=>exact Ae ⟨rfl,h₃⟩
  | true=>
   have ab6:db (ev prog w) A (lf Ã env) (λx s₄=>
       db (ev prog w) A (call (.builtin "list.append") [Ä,x]) (λ_ s₅=>∃m,m < n/\I m s₅) (λ_ _=>False) s₄) (λ_ _=>False) s₃:=h₃
   exact Aa (Aa (BL ab6 (λx s₄ h₄=>Aa (BL h₄ (λ_ s₅ h₅=>Ae (Ae ⟨rfl,h₅⟩)) λ_ _ h'=>h'.elim)) λ_ _ h'=>h'.elim))
section
variable{g:TG}{tf:TT}
structure adq(X:Cx)(Z:List (ce×Obj))(H:Hp)(C:ce):Prop where
 hn:H C=bm
 hL:C≠X.env.locals
 ab:X.s₀.heap.objs.size<=C
 cl:∀x c,X.env.cells.lookup x=ap c->c≠C
 pn:∀p∈X.pn++Z,p.1≠C
theorem Lo(hc:X.calm=true)(S:bc X.env.scope X.N sc N' ix)
  (hg:∀cl C s2 H2 fp,PG (fw X sc N' cl C s2 H2 fp) tg g) (hf:∀cl C s2 H2 fp,PFs (fw X sc N' cl C s2 H2 fp) É tf) (he:∀cl C s2 H2 fp,PE (fw X sc N' cl C s2 H2 fp) Ã te) {s2:cr}{cl:O (Str×ce)} (sY:∀x c,cl.lookup x=ap c->X.env.cells.lookup x=ap c/\(x,Bf)∈sc.names) (Nj:∀x,(x,Bf)∈sc.names->∃c,cl.lookup x=ap c) {tn:Nat->lm->Prop}{J:It}{Q:VK} (I2:Inv X Z σ H2 s2) (T:Turn X.prog X.w X.K tg J fp it tn) (Mk:tn 0 s2.heap) (f2:∀b∈fp,u5 X Z H2 b)
  (hW:∀D,H2 D=bm->∃W:Nat->Nat->St->O V->Hp->Prop,
   (∃m,W 0 m (oM ix σ) [] (upd H2 D (.lst [])))/\∀i m σ' ys H,W i m σ' ys H->H D=ap (.lst ys)/\
    ((J.stop i H/\Q (.ref D) H)\/(J.go i H/\∀x H',J.VE i H x H'->g x σ' H' λσ2 H2=>tf σ2 H2 λb H3=>
     if b=true then te σ2 H3 λy H4=>H4 D=ap (.lst ys)/\ys.length+1<=sizeLine/\∃m',m' < m/\W (i+1) m' σ2 (ys++[y]) (upd H4 D (.lst (ys++[y]))) else ∃m',m' < m/\W (i+1) m' σ2 ys H3)))
  {RR:bn->ce->Result->cr->Prop}{E:bn->cr->Prop}
  (hRR:∀D C m s' H',Inv X Z σ H' s'->Q (.ref D) H'->s'.heap.Ns C m->adq X Z H' C->RR (.ref D) C (.ok .next) s') :
  db (ev X.prog X.w) X.A (newList []) (λÄ s₃=>db (ev X.prog X.w) X.A (newFunctionEnv sc X.env.globals cl [] X.env.qual bm .none (ap X.env)) (λac9 s₄=>
   Da (ev X.prog X.w) X.A (.compStart (.ListComp Ã [⟨tg,iter,É,0⟩] sc pos) 0 (.ref it) Ä {ac9 with scope:=relabel sc X.env}) (RR Ä ac9.locals) s₄) E s₃) E s2:=by
 refine AQ (wpAny_newFunctionEnv S.nc (by intro y hy;simp at hy) (λh₁ Jl xN=>?_) S.kind);generalize hH2:s2.heap.push {cls:=.type "list",dict:=bm,data:=.seq ([]:O bn).toArray}=G2 at Jl xN ⊢;have hC:G2.objs.size=s2.heap.objs.size+1:=by rw[<- hH2,Cs]
 obtain⟨D,hD⟩:∃D:Nat,s2.heap.objs.size=D:=⟨_,rfl⟩;obtain⟨C,hCC⟩:∃C:Nat,G2.objs.size=C:=⟨_,rfl⟩;simp only[hD,hCC]at Jl xN hC ⊢;have hDC:D≠C:=by omega
 have Ë:∀b o,s2.heap.get? b=ap o->h₁.get? b=ap o:=λb o e=>by
  have hb:=lsz e;exact xN.extBut b o (neN ∅) (Ag _ (hH2▸Ag _ e))
 have acz:h₁.get? D=ap {cls:=.type "list",data:=.seq ([]:O bn).toArray}:=by
  refine xN.extBut D _ hDC (Ag _ ?_);rw[<- hH2,<- hD];exact Aq _ rfl
 have hD2:H2 D=bm:=I2.br.fresh ∅;have hC2:H2 C=bm:=I2.br.fresh ∅;obtain⟨W,⟨m0,w0⟩,turn⟩:=hW D hD2;have WA:∀x c,cl.lookup x=ap c->∃v,s2.heap.IsCell c v:=λx c e=>I2.cell x c (sY x c e).1;have ag4:∀x c,cl.lookup x=ap c->c < D:=λx c e=>by
  obtain⟨v,q⟩:=WA x c e;have:=WB q;exact ltN ∅
 have ň:∀b∈fp,b < D:=λb hb=>by
  obtain⟨o,e,_⟩:=T.obj 0 _ Mk b hb;have:=lsz e;exact ltN ∅
 have Yok:(fw X sc N' cl C s2 H2 fp).Ok:=by
  refine⟨I2.ok.mod,S.kind,I2.ok.glob,I2.ok.blt,?_,?_,?_,?_,I2.ok.hd,I2.ok.frames,.inl rfl,?_,I2.bs,?_,?_,?_,I2.stack,I2.KD⟩
  ·show s2.heap.objs.size<=C;omega
  ·intro x y c e1 e2;exact I2.ok.inj x y c (sY x c e1).1 (sY y c e2).1
  ·intro x hx;have vJ:(relabel sc X.env).names.lookup x=ap .cell\/(relabel sc X.env).names.lookup x=ap .free:=hx;unfold relabel at vJ;rw[gM]at vJ;cases q:sc.names.lookup x with
   | none=>rw[q]at vJ;simp at vJ
   | some k=>
    have hm:=BM q;by_cases hk:k=.free
    ·subst hk;exact Nj x hm
    ·have YS:k≠.cell:=S.nc _ hm;rw[q]at vJ;have hb:(k==Bf)=false:=by simpa using hk
     simp only[CI,hb,Fz,Ao,if_false]at vJ;rcases vJ with z | z
     ·exact absurd (Option.some.inj z) YS
     ·exact absurd (Option.some.inj z) hk
  ·intro x c ý;exact absurd ý A4
  ·intro b hb;refine⟨?_,λx c e z=>(f2 b hb).2.2.2.2.1 x c (sY x c e).1 z⟩;show b≠C;have:=ltN (ň b hb);exact neN ∅
  ·exact Bv I2.ok.WC I2.sz
  ·intro b o e hb;rcases (f2 b hb).2.2.2.1 with z | z
   ·exact I2.ok.PR b o e z
   ·have h1:=lsz (h:=X.base) e;have h2:=I2.ok.WC;omega
  ·intro b hb z;rcases Ax.mp (I2.Ib b z) with q | q
   ·exact(f2 b hb).2.1 q
   ·exact(f2 b hb).2.2.1 q
 have un0:Un (Oa X.stack) fp H2 (upd H2 D (.lst [])) s2.heap h₁:=Un.laid Ë ∅ hD2;have agg:lY X.prog X.w (upd H2 D (.lst [])) h₁:=I2.br.laid Ë ∅ ⟨A8 _,[],0,.nil,acz⟩;have IY:∀tk,Inv (fw X sc N' cl C s2 H2 fp) [] (oM ix σ) (upd H2 D (.lst [])) {s2 with heap:=h₁,toks:=tk}:=λtk=>by
  refine⟨Yok,rfl,I2.bare,un0,⟨_,Jl,λi x v e1 e2 e3=>?_⟩,λx c e=>?_,?_,λx c e=>?_,λp hp=>absurd (show p∈([]:O (ce×Obj)) from hp) (by simp),agg,?_⟩
  ·have qN:N'[i]?=ap x:=e1;unfold oM at e2;rw[Al]at e2;cases q:ix[i]? with
   | none=>rw[q]at e2;cases e2
   | some o=>
    cases o with
    | none=>rw[q]at e2;cases e2
    | some j=>
     rw[q]at e2;have Ğ:(σ[j]?).getD bm=ap v:=Option.some.inj e2;have e4:σ[j]?=ap (ap v):=by
      cases z:σ[j]? with
      | none=>rw[z]at Ğ;cases Ğ
      | some y=>rw[z]at Ğ;exact congrArg ap Ğ
     obtain⟨a1,a2⟩:=S.at q qN;have acj:=BM a2;have hk:=S.fr _ acj rfl;obtain⟨m,_,hl⟩:=I2.loc;obtain⟨u,r,l⟩:=hl j x v a1 e4 (.inr hk);refine⟨u,r,.inr ⟨?_,?_⟩⟩
     ·show(relabel sc X.env).names.lookup x=ap .cell\/(relabel sc X.env).names.lookup x=ap .free;unfold relabel;rw[gM,a2];by_cases hb:(X.env.scope.kind==.function&&X.env.kindOf x==ap .cell)=true
      ·left
       simp only[CI,beq_self_eq_true,FJ,hb,if_true]
      ·right
       simp only[CI,beq_self_eq_true,FJ,hb,if_false,Ao]
     ·obtain⟨c,hcx⟩:=Nj x acj;have hcX:=(sY x c hcx).1;refine⟨c,hcx,?_⟩;rcases l with⟨k,_⟩ | ⟨k,c',e',z⟩
      ·have k':X.env.scope.names.lookup x=ap .local:=k;rcases hk with y | y <;> rw[k']at y <;> cases y
      ·rw[hcX]at e';cases e';obtain⟨o,ho,hd⟩:=z;exact⟨o,Ë _ _ ho,hd⟩
  ·obtain⟨v,o,ho,hd⟩:=WA x c e;exact⟨v,o,Ë _ _ ho,hd⟩
  ·show upd H2 D (.lst []) C=bm;rw[aq (Bx hDC)];exact hC2
  ·have ir:=ltN (ag4 x c e);show upd H2 D (.lst []) c=bm;rw[aq (neN ∅)];exact I2.kj x c (sY x c e).1
  ·unfold oM;rw[Af];exact S.len
 have Ň:∀{z9:O (ce×Obj)}{H':Hp},(∀b∈fp,H' b=bm)->(∀p∈z9,p.1∉fp)->∀b∈fp,u5 (fw X sc N' cl C s2 H2 fp) z9 H' b:=λhn hp b hb=>by
  refine⟨hn b hb,?_,?_,.inl hb,λx c e z=>(f2 b hb).2.2.2.2.1 x c (sY x c e).1 z,λp Ķ z=>?_⟩
  ·show b≠C;have:=ltN (ň b hb);exact neN ∅
  ·exact Yok.Q6 b hb
  ·have agb:p∈([]:O (ce×Obj))++_:=Ķ;exact hp p agb (z▸hb)
 have ó:∀s₃:cr,s₃={s2 with heap:=h₁,toks:=s2.toks+([]:O (Str×bn)).length}->
   Da (ev X.prog X.w) X.A (.compLoop (.ListComp Ã [⟨tg,iter,É,0⟩] sc pos) 0 (.ref it) (.ref D) (compEnvC sc cl C X.env)) (RR (.ref D) C) s₃:=by
  rintro s₃ rfl;refine md (λn s'=>∃i σ' ys H',Inv (fw X sc N' cl C s2 H2 fp) [] σ' H' s'/\tn i s'.heap/\(∀b∈fp,H' b=bm)/\W i n σ' ys H') ?_ m0
   ⟨0,_,[],_,IY _,T.keep _ _ _ Mk (λb _ o e=>Ë b o e),λb hb=>by rw[aq (AB (ň b hb))];exact(f2 b hb).1,w0⟩
  rintro n s3 ⟨i,σ3,ys,H3,I3,è,ă,w3⟩;obtain⟨hDl,w3⟩:=turn i n σ3 ys H3 w3;rcases w3 with⟨stop,qn⟩ | ⟨go,step⟩
  ·refine bV (T.done (fw X sc N' cl C s2 H2 fp) rfl rfl rfl hc i [] s3 σ3 H3 _ I3 (Ň ă (by simp)) è stop) λr s4 ⟨hr,I4⟩=>?_;subst hr;obtain⟨m,hn,_⟩:=I4.loc;refine hRR D C m s4 H3 (I2.ada (ch:=fp) I4.os I4.base I4.br I4.bare λb hb=>?_) qn hn ?_
   ·obtain⟨a0,a1,a2,a3,a4,a5⟩:=f2 b hb;exact⟨a3,a1,a4,a5⟩
   ·refine⟨I4.free,?_,?_,λx c e z=>?_,λp hp z=>?_⟩
    ·have:=ltN I2.lt;exact neN ∅
    ·have:=I2.sz;omega
    ·obtain⟨v,q⟩:=I2.cell x c e;have:=WB q;exact neN (a:=c) (b:=C) ∅ z
    ·have:=lsz (I2.pin p hp).1;exact neN (a:=p.1) (b:=C) ∅ z
  ·refine bV (T.item (fw X sc N' cl C s2 H2 fp) rfl rfl rfl hc i [] s3 σ3 H3 (λ_ _=>False) I3 (Ň ă (by simp)) è go) λr s4 ⟨u,hr,h4⟩=>?_;subst hr;refine bV h4 λ_ s5 ⟨x,H5,I5,r5,y5,Xc,ņ⟩=>?_;have Ŋ:=I5.pinned (Ň ņ (by simp)) (T.obj _ _ Xc);refine bV (hg _ _ _ _ _ _ s5 σ3 H5 x u _ Ŋ r5 (step x H5 y5)) λ_ s6 ⟨σ6,H6,I6,q6⟩=>?_;refine bV (hf _ _ _ _ _ _ s6 σ6 H6 _ I6 q6) λb s7 ⟨H7,I7,q7⟩=>?_;have Qi:∀{s8:cr}{σ8:St}{H8:Hp},Inv (fw X sc N' cl C s2 H2 fp) ([]++pz fp s5.heap) σ8 H8 s8->tn (i+1) s8.heap/\∀b∈fp,H8 b=bm:=λ{s8 σ8 H8} I8=>by
    refine⟨T.keep _ _ _ Xc λb hb o e=>(I8.pin (b,o) (A7 _ (A7 _ (jw hb e)))).1,λb hb=>?_⟩;obtain⟨o,e,d⟩:=T.obj _ _ Xc b hb;exact(I8.pin (b,o) (A7 _ (A7 _ (jw hb e)))).2.1
   cases b with
   | false=>
    have q7':=q7;obtain⟨m',hm,w7⟩:=q7';obtain⟨t7,fr7⟩:=Qi I7;exact⟨m',hm,i+1,σ6,ys,H7,I7.kE,t7,fr7,w7⟩
   | true=>
    refine bV (he _ _ _ _ _ _ s7 σ6 H7 _ I7 q7) λyv s8 ⟨y,H8,I8,r8,hD8,hz8,m',hm,w8⟩=>?_;obtain⟨z,ao,k,rv,hl8,e8⟩:=I8.qC hD8;obtain⟨t8,fr8⟩:=Qi I8;refine wpAny_list_append_plain (s:=s8) (items:=ao.toArray) (hsz:=by rw[Ah];omega) ⟨_,e8⟩ λh9 hl9 hs9=>?_;obtain⟨k9,e9⟩:=hl9;have hv9:=Vals.append rv (.cons r8 .nil);have I9:Inv (fw X sc N' cl C s2 H2 fp) ([]++pz fp s5.heap) σ6 (upd H8 D (.lst (ys++[y]))) {s8 with heap:=h9,toks:=s8.toks}:=by
     refine I8.write (x:=D) (e:=D) (by rw[hD8];exact trivial) (.inl rfl) (λb u hb hu=>(hs9.2 b hb).trans hu) ⟨_,e9⟩ ?_;refine⟨by rw[Ai,Dw];exact hz8,ao++[yv],k9,hv9,?_⟩;rw[e9];simp
    obtain⟨t9,fr9⟩:=Qi I9;exact⟨m',hm,i+1,σ6,_,_,I9.kE,t9,fr9,w8⟩
 exact codeAny_compStart_list (ó _ rfl) (T.self _ 0 _ _ _ (T.keep _ _ _ Mk λb _ o e=>Ë b o e) (ó _ rfl))
def abq(hc:X.calm=true)(S:bc X.env.scope X.N sc N' ix)(hi:PI X tg iter wi)
  (hg:∀cl C s2 H2 fp,PG (fw X sc N' cl C s2 H2 fp) tg g) (hf:∀cl C s2 H2 fp,PFs (fw X sc N' cl C s2 H2 fp) É tf) (he:∀cl C s2 H2 fp,PE (fw X sc N' cl C s2 H2 fp) Ã te)
  (hs:um X iter:=by intro _;rfl):PE X (.ListComp Ã [⟨tg,iter,É,0⟩] sc pos) (tLc ix wi g tf te):=by
 intro Z s σ H Q I h;have Jm:∀y∈sc.names,y.2=.free->∃c,X.env.cells.lookup y.1=ap c:=λy hy hk=>I.ok.has y.1 (S.fr y hy hk);obtain⟨cl,QJ,sY,Nj⟩:=my Jm;refine EC (use:=bm) rfl hs QJ S.kind S.loc (bV (hi Z s σ H _ I h) λv s1 h1=>bV h1 λđ s2 h2=>?_);obtain⟨it,fp,tn,J,H2,rfl,I2,T,Mk,f2,hW⟩:=h2;refine Lo (RR:=λÄ C=>compPost (ev X.prog X.w) X.A X.xe bm (EP X Z σ Q) Ä C) hc S hg hf he sY Nj I2 T Mk f2 hW λD C m s' H' I' q hn F=>?_;refine⟨m,hn,λh' ĵ=>⟨.ref D,H',?_,rfl,q⟩⟩;exact I'.turned (it:=C) (t':=s'.toks) (λb o hb e=>(ĵ.2 b hb).trans e) F.hn F.hL (.inr F.ab) F.cl F.pn
def zV{i:Nat}(hc:X.calm=true)(hN:X.N.Nodup)(xR:X.N[i]?=ap x)(hx:X.env.scope.names.lookup x=ap .local)(S:bc X.env.scope X.N sc N' ix)(hi:PI X tg iter wi)
  (hg:∀cl C s2 H2 fp,PG (fw X sc N' cl C s2 H2 fp) tg g) (hf:∀cl C s2 H2 fp,PFs (fw X sc N' cl C s2 H2 fp) É tf) (he:∀cl C s2 H2 fp,PE (fw X sc N' cl C s2 H2 fp) Ã te)
  (oo:lc (.ListComp Ã [⟨tg,iter,É,0⟩] sc pos) (ap (.Name x px)) kr.line X.env=pure true:=by rfl)
  (hs:um X iter:=by intro _;rfl):PS X (.Assign [.Name x px] (.ListComp Ã [⟨tg,iter,É,0⟩] sc pos) kr) (W6 (tLc ix wi g tf te) (dY i)):=by
 intro Z s σ H D0 I h;rw[exec_Assign_Name_used _ _ _ _ oo];refine Aa (EA (Aa ?_));show db _ X.A (do let _ <- comprehension (.ListComp Ã [⟨tg,iter,É,0⟩] sc pos) sc X.env _ (newList []) false (lf iter X.env) (ap (EQ (.Name x px) X.env))) _ _ s;have Jm:∀y∈sc.names,y.2=.free->∃c,X.env.cells.lookup y.1=ap c:=λy hy hk=>I.ok.has y.1 (S.fr y hy hk);obtain⟨cl,QJ,sY,Nj⟩:=my Jm;refine Aa (BL (EC (use:=ap (EQ (.Name x px) X.env)) (Q:=λ_ s'=>SP X Z D0 .next s') rfl hs QJ S.kind S.loc (bV (hi Z s σ H _ I h) λv s1 h1=>bV h1 λđ s2 h2=>?_)) (λ_ s' hq=>Ae (Ae hq)) λ_ _ e=>e);obtain⟨it,fp,tn,J,H2,rfl,I2,T,Mk,f2,hW⟩:=h2;refine Lo (RR:=λÄ C=>compPost (ev X.prog X.w) X.A X.xe (ap (EQ (.Name x px) X.env)) (λ_ s'=>SP X Z D0 .next s') Ä C) (Q:=λx H1=>dY i x σ H1 D0.nx) hc S hg hf he sY Nj I2 T Mk f2 hW λD C m s' H' I' q hn F=>?_;show db _ X.A (EQ (.Name x px) X.env (.ref D)) _ _ _;refine wpAny_assign_Name (vd (v:=.ref D) I' hN xR (.inl hx) rfl (λë I'' Ĵ=>?_) (.inr hx));obtain⟨a,Ĵ,ha⟩:=Ĵ;have haC:C≠a:=by
  rcases ha with z | z
  ·rw[z];exact F.hL
  ·exact Bx (F.cl _ _ z)
 refine⟨m,hn.sameBut Ĵ haC,λh' ĵ=>⟨_,H',?_,q⟩⟩;exact I''.turned (it:=C) (t':=ë.toks) (λb o hb e=>(ĵ.2 b hb).trans e) F.hn F.hL (.inr F.ab) F.cl F.pn
end
end L2
variable{a b:BX}
namespace L2
section
def qz:bL X (.builtin "isinstance") (λxs H Q=>∃x c t b,xs=[x,.ty c]/\lB X.K H x t/\Bo X.K t (.type c)=ap b/\Q (.bl b) H):=by
 intro Z s σ H xs us Q I r h;obtain⟨x,c,t,b,rfl,ty,hk,q⟩:=h;obtain⟨u,w',rfl,ru,wM⟩:=vals2 r;cases (show w'=CC c from wM);exact M8 I ru ty hk λtk=>⟨.bl b,H,I.tok _,rfl,q⟩
def MC(hu:X.A.units < pc):iR X (o0 .NotEq) (λx y H Q=>∃p q xs,x=.ref p/\y=.ref q/\c6 X.K H p xs/\c6 X.K H q []/\Q (.bl (!xs.isEmpty)) H):=by
 intro Z s σ H x y v u Q I rx ry h;obtain⟨p,q,xs,rfl,rfl,hp,hq,k⟩:=h;cases rx;cases ry;obtain⟨ao,r,pl,hz⟩:=I.list hp;obtain⟨bS,r2,VT,hz2⟩:=I.list hq;cases r2;cases xs with
 | nil=>
  cases r;refine Dl (D9 (e:=λ_=>true) pl.isList VT.isList rfl hu λj h1=>absurd h1 (by simp)) ?_;exact⟨.bl false,H,I,rfl,k⟩
 | cons y ys=>
  have hl:=r.length;refine Dl (D8 pl.isList VT.isList (by simp at hl ⊢;intro z;subst z;simp at hl) hu) ?_;exact⟨.bl true,H,I,rfl,k⟩
def RM{bs:O Bool}:∀{us:O bn},Vals (bs.map V.bl) us->us=bs.map CW:=by
 induction bs with
 | nil=>intro us r;rw[D5]at r;cases r;rfl
 | cons n ns ih=>
  intro us r;cases r with
  | cons r1 r2=>
   cases r1;rw[ih r2];rfl
def J4(hc:X.calm=true):bL X (.builtin "all") (λxs H Q=>∃(p:ce) (bs:O Bool),xs=[.ref p]/\c6 X.K H p (bs.map V.bl)/\Q (.bl (bs.all id)) H):=by
 intro Z s σ H xs us Q I r h;obtain⟨p,bs,rfl,hp,q⟩:=h;obtain⟨u,rfl,ru⟩:=vals1 r;cases ru;obtain⟨ao,rv,pl,hz⟩:=I.list hp;have eb:=RM rv;subst eb;have hl:=pl.isList;have ir:p < s.heap.objs.size:=by obtain⟨_,e,_⟩:=hl;exact Au e
 refine call_all_walk (CS hl ?_);refine⟨s.heap.objs.size,[s.heap.objs.size,p],[s.heap.objs.size],(bs.map CW).toArray.size,_,_,λi=>(bs[i]?).getD true,rfl,Walks.list (A:=X.A.in1) (I.ok.hd hc) _ p (AB ir) (bs.map CW).toArray,
  ⟨⟨_,Aq _ rfl,rfl,rfl⟩,hl.push _⟩,λi v s' Q' E' hP hQ=>?_,λh' tk hk=>?_⟩
 ·have QO:(bs.map CW)[i]?=ap v:=by simpa using hP
  rw[Al]at QO;cases e:bs[i]? with
  | none=>rw[e]at QO;cases QO
  | some b=>
   rw[e]at QO;cases QO;simp only[e,Option.getD_some]at hQ;exact B8 hQ
 ·have e:((AL (bs.map CW).toArray.size).all λi=>(bs[i]?).getD true)=bs.all id:=by
   rw[Ah,Af];exact LSm.range_all bs
  rw[e];exact⟨.bl (bs.all id),H,I.kept (LSm.kept_iter hk),rfl,q⟩
def qG(l:ce)(items:Array bn)(n:Nat)(b:ce)(bU:Array bn)(n2:Nat)(dd:Option ce)(sl:Array (Option bn))(hs0:¬(!items.isEmpty&&Builtin.List.listTooLong (items.size+bU.size))=true)(HM:items.size<=sizeLine)(rm:items.size+bU.size<=sizeLine+1) :
  Meets (vD.«list.extend» ⟨[.ref l,.ref b],[]⟩) (λ_ R s=>s.heap.get? l=ap {cls:=.type "list",dict:=bm,data:=.seq items n,slots:=#[]}/\s.heap.get? b=ap {cls:=.type "tuple",dict:=dd,data:=.seq bU n2,slots:=sl}/\R (.ok (.ret AU)) {s with heap:=s.heap.update l (Bn λx=>x++bU),toks:=s.toks}):=
 .of_wp λprog w A R s h=>by
  obtain⟨hp,g,d,tk,os⟩:=s;obtain⟨hl,hb,h⟩:=h;have f1:=ES;have f2:=Dz;have f3:=DT;have f4:=DK;have f5:=DL;have Nd:(items++bU).size<=sizeLine+1:=by rw[Array.size_append];exact rm
  wp_walk using (CH hl rfl (hz:=HM) (_hz':=Nd)),BW hl,BW hb;exact⟨_,rfl,h⟩
def Pb(K:Ab):V->O V->Hp->VK->Prop:=λx vs H Q=>∃l b xs zs,x=.ref l/\vs=[.ref b]/\H l=ap (.lst xs)/\dj K H b zs/\xs.length+zs.length<=sizeLine/\Q .ax (upd H l (.lst (xs++zs)))
theorem ID:L6 X "list.extend" (Pb X.K):=by
 intro Z s σ H x vs v us Q I rx rv h;obtain⟨l,b,xs,zs,rfl,rfl,hH,hB,hz,q⟩:=h;cases rx;obtain⟨u,rfl,ru⟩:=rv.one;cases ru;obtain⟨z,ao,n,r,hl,e⟩:=I.qC hH;obtain⟨bS,r2,⟨⟨cls,dd,data,sl⟩,e2,hc,n2,hd⟩,z2⟩:=I.tuple hB;simp only at hc hd;subst hc hd;have Sd:=r2.length;have hsz:ao.toArray.size+bS.toArray.size<=sizeLine:=by rw[Ah,Ah];omega
 have sX:¬(!ao.toArray.isEmpty&&Builtin.List.listTooLong (ao.toArray.size+bS.toArray.size))=true:=by
  rw[nK hsz,En];exact A4
 refine sK Eb ⟨_,e,rfl⟩ DW (DJ _ _)
  (qG l ao.toArray n b bS.toArray n2 dd sl sX (by rw[Ah];omega) ∅) ⟨e,e2,?_⟩
 refine⟨.ax,_,I.IJ (its':=ao++bS) hH e (by simp) (r.append r2) ?_,rfl,q⟩;rw[Ai];omega
end
end L2
variable{o:L2.HO}{k':Nat}{bP:Cd}
namespace L2
def oW(l:ce)(H H':Hp):Prop:=∀b u,b≠l->H b=ap u->H' b=ap u
def gF{p:ce}(h:H p=bm)(o:HO):lE H (upd H p o):=λb u q=>by rw[aq (bz q h)];exact q
def Ms{p:ce}(o:HO):oW p H (upd H p o):=λb u n q=>by rw[aq n];exact q
def kI(H:Hp)(o:HO)(Q:VK):Prop:=∀p H',lE H H'->H' p=ap o->H p=bm->Q (.ref p) H'
def kI.at{Q:VK}(h:kI H o Q)(p:ce)(hp:H p=bm):Q (.ref p) (upd H p o):=h p _ (gF hp o) aM hp
def zE(H:Hp)(l:ce)(o:HO)(Q:Hp->Prop):Prop:=∀H',oW l H H'->H' l=ap o->Q H'
def zE.at{Q:Hp->Prop}(h:zE H l o Q):Q (upd H l o):=h _ (Ms o) aM
def iR.mono{f:bn->bn->Sem bn}{r r':R2}(h:iR X f r)(hr:∀x y H Q,r' x y H Q->r x y H Q):iR X f r':=λZ s σ H x y v u Q I rx ry q=>h Z s σ H x y v u Q I rx ry (hr _ _ _ _ q)
def bL.mono{f:bn}{r r':O V->Hp->VK->Prop}(h:bL X f r)(hr:∀xs H Q,r' xs H Q->r xs H Q):bL X f r':=λZ s σ H xs us Q I rx q=>h Z s σ H xs us Q I rx (hr _ _ _ q)
def L6.mono{id:String}{r r':V->O V->Hp->VK->Prop}(h:L6 X id r)(hr:∀x xs H Q,r' x xs H Q->r x xs H Q):L6 X id r':=λZ s σ H x xs v us Q I rx rv q=>h Z s σ H x xs v us Q I rx rv (hr _ _ _ _ q)
def NY.mono{r r':R3}(h:NY X r)(hr:∀o i v H Q,r' o i v H Q->r o i v H Q):NY X r':=λZ s σ H o i v ov iv u Q I ro ri rv q=>h Z s σ H o i v ov iv u Q I ro ri rv (hr _ _ _ _ _ q)
section
variable{o:kw}{t:TA}
def aaC(t:TA):TE:=λσ H Q=>t σ H λxs H1=>xs.length<=sizeLine/\kI H1 (.tup xs) Q
def aaJ(t:TA):TE:=λσ H Q=>t σ H λxs H1=>xs.length<=sizeLine/\kI H1 (.lst xs) Q
def Tn{x1}(h:PA X es t):PE X (.Tuple es x1 pos) (aaC t):=by
 intro Z s σ H Q I hq;refine wpAny_Tuple_spliced (bV (h pos Z s σ H _ I hq) λus s1 ⟨xs,H1,I1,r,z,q⟩=>⟨by rw[<- r.length];exact z,?_⟩);have hf:=I1.br.fresh (Am _);refine⟨.ref s1.heap.objs.size,upd H1 s1.heap.objs.size (.tup xs),I1.laid (t':=s1.toks) (λb u e=>Ag _ e) (Am _) ?_,rfl,q.at _ hf⟩;exact⟨z,us,r,⟨_,Aq _ rfl,rfl,_,rfl⟩⟩
def Ts(h:PA X es t):PE X (.List es pos) (aaJ t):=by
 intro Z s σ H Q I hq;refine wpAny_List_spliced (bV (h pos Z s σ H _ I hq) λus s1 ⟨xs,H1,I1,r,z,q⟩=>⟨by rw[<- r.length];exact z,?_⟩);have hf:=I1.br.fresh (Am _);refine⟨.ref s1.heap.objs.size,upd H1 s1.heap.objs.size (.lst xs),I1.laid (t':=s1.toks) (λb u e=>Ag _ e) (Am _) ?_,rfl,q.at _ hf⟩;exact⟨z,us,0,r,Aq _ rfl⟩
def VP(K:Ab):R2:=λx y H Q=>match x with
 | .int i=>∃j,y=.int j/\Q (.int (i+j)) H
 | .str i=>∃j,y=.str j/\i.length+j.length<=sizeLine/\Q (.str (i++j)) H
 | .ref a=>(∃b xs zs,y=.ref b/\H a=ap (.lst xs)/\H b=ap (.lst zs)/\xs.length+zs.length<=sizeLine/\kI H (.lst (xs++zs)) Q)\/VS K x y H Q
 | _=>False
def TN:iR X (sn .Add) (VP X.K):=by
 refine((X4.or Iw).or (X3.or K9)).mono λx y H Q h=>?_;cases x with
 | int i=>obtain⟨j,rfl,q⟩:=h;exact .inl (.inl ⟨i,j,rfl,rfl,q⟩)
 | str i=>obtain⟨j,rfl,hl,q⟩:=h;exact .inl (.inr ⟨i,j,rfl,rfl,hl,q⟩)
 | ref a=>
  rcases h with⟨b,xs,zs,rfl,h1,h2,hz,q⟩ | h
  ·exact .inr (.inl ⟨a,b,xs,zs,rfl,rfl,h1,h2,hz,λp hp=>q.at p hp⟩)
  ·exact .inr (.inr h)
 | _=>exact h.elim
def TC:iR X (sn .Mult) (rI ww λi j=>.int (i*j)):=opI λ_ _ _ _ _ _ _ hc q=>mul_int q hc
def J1:bL X (.type "list") (λxs H Q=>∃p ys,xs=[.ref p]/\(c6 X.K H p ys\/dj X.K H p ys)/\kI H (.lst ys) Q):=yV.mono λxs H Q ⟨p,ys,e,h,q⟩=>⟨p,ys,e,h,λl hl=>q.at l hl⟩
def Pc:V->O V->Hp->VK->Prop:=λx vs H Q=>∃l xs y,x=.ref l/\vs=[y]/\H l=ap (.lst xs)/\xs.length < sizeLine/\zE H l (.lst (xs++[y])) (Q .ax)
def IE:L6 X "list.append" Pc:=MH.mono λx xs H Q ⟨l,ys,y,e1,e2,h,hz,q⟩=>⟨l,ys,y,e1,e2,h,hz,q.at⟩
def Mv(K:Ab):V->O V->Hp->VK->Prop:=λx vs H Q=>∃l b xs zs,x=.ref l/\vs=[.ref b]/\H l=ap (.lst xs)/\dj K H b zs/\xs.length+zs.length<=sizeLine/\zE H l (.lst (xs++zs)) (Q .ax)
def Gg:L6 X "list.extend" (Mv X.K):=ID.mono λx xs H Q ⟨l,b,ys,zs,e1,e2,h1,h2,hz,q⟩=>⟨l,b,ys,zs,e1,e2,h1,h2,hz,q.at⟩
def aba:V->O V->Hp->VK->Prop:=λx vs H Q=>∃l xs y,x=.ref l/\vs=[]/\H l=ap (.lst (xs++[y]))/\zE H l (.lst xs) (Q y)
def T6:L6 X "list.pop" aba:=Yg.mono λx xs H Q ⟨l,ys,y,e1,e2,h,q⟩=>⟨l,ys++[y],y,e1,e2,h,by simp,by rw[List.dropLast_concat];exact q.at⟩
def Xt:R3:=λo i v H Q=>∃p xs k j,o=.ref p/\i=.int k/\H p=ap (.lst xs)/\vF xs.length k=ap j/\zE H p (.lst (xs.set j v)) Q
def Mq:NY X Xt:=set_list.mono λo i v H Q ⟨p,xs,k,j,e1,e2,h,hj,q⟩=>⟨p,xs,k,j,e1,e2,h,hj,q.at⟩
end
section
variable(K:Ab)(hK:X.K=K){o:kw}{to:TE}{t:TA}{name:Str}{ZU:String}{r:V->O V->Hp->VK->Prop}{l:kw}
include hK
def Uw:Sj X (rIx K):=hK▸YB
def TL:iR X (sn .Add) (VP K):=hK▸TN
def Xx(K:Ab):O V->Hp->VK->Prop:=λxs H Q=>∃x n,xs=[x]/\adl K x H n/\Q (.int n) H
def vQ:bL X (.builtin "len") (Xx K):=hK▸RJ
def O8(K:Ab):O V->Hp->VK->Prop:=λxs H Q=>∃p ys,xs=[.ref p]/\(c6 K H p ys\/dj K H p ys)/\kI H (.lst ys) Q
def J0:bL X (.type "list") (O8 K):=hK▸J1
def abl(K:Ab):O V->Hp->VK->Prop:=λxs H Q=>∃(p:ce) (bs:O Bool),xs=[.ref p]/\c6 K H p (bs.map V.bl)/\Q (.bl (bs.all id)) H
def NQ(hc:X.calm=true):bL X (.builtin "all") (abl K):=hK▸J4 hc
def Xw(K:Ab):R2:=λx y H Q=>∃p q xs,x=.ref p/\y=.ref q/\c6 K H p xs/\c6 K H q []/\Q (.bl (!xs.isEmpty)) H
def Iu(hu:X.A.units < pc):iR X (o0 .NotEq) (Xw K):=hK▸MC hu
def ae6(K:Ab)(ta:TE):TT:=λσ H Q=>ta σ H λx H'=>∃k,ZF K x H' k/\Q k H'
def vh(ha:PE X a ta)(he:∀Å,isTrue a X.env Å=(do let v <- Å;standAt a.pos;BT [v] (truthy v))):PT X a (ae6 K ta):=hK▸Pg ha he
def Po(hl:PE X l tl):PI X tg l (Wg K tl):=hK▸Tg hl
def Tt(pa:PlainAttrs T)(slot:Slot T name ZU)(YN:typeOf (.builtin ZU)=pure (.type "method_descriptor"))(hm:MtR X ZU r)(ho:PE X o to)
  (eK:pr o name X.env (lf o X.env)=lf o X.env:=by rfl) (eJ:Sl Â bP:=by rfl):PE X (.Call (.Attribute o name Â) [] [] bP) (aaO K T r to):=hK▸XR pa slot YN hm ho eK eJ
def si(pa:PlainAttrs T)(slot:Slot T name ZU)(YN:typeOf (.builtin ZU)=pure (.type "method_descriptor"))(hm:MtR X ZU r)(ho:PE X o to)(ha:PA X (e::es) t)
  (eK:pr o name X.env (lf o X.env)=lf o X.env:=by rfl)
  (pS:ZL X bP (e::es):=by rfl)
  (eJ:Sl Â bP:=by rfl) (hs:gZ X e es:=by rfl) (fe:lF X bP es:=by rfl) :
  PE X (.Call (.Attribute o name Â) (e::es) [] bP) (tBM K T r to t):=hK▸abr pa slot YN hm ho ha eK pS eJ hs fe
omit hK
end
structure VC(P:sw)(w:tz)(K:Ab)(mg:Str->Option bn)(base:lm)(x:Str)(k:Nat)(ps:List Str)(sp:Sp) where
 f:ce
 fd:Fa
 ok:g8 P w K mg base ui k f fd ps sp
 bi:Binds K fd ps []
 kp:D6 K (.ref f)=true
 at':mg x=ap (.ref f)
section
variable{t:TA}
def aaN(sp:Sp)(t:TA):TE:=λσ H Q=>t σ H λvs H1=>sp vs H1 Q E0
def PB(G:VC X.prog X.w X.K X.mg X.base x k ps sp)(hr:fh k' X.A)(hk:k<=k')(hg:Gl X x)(ha:PA X (e::es) t)(oq:jh x:=by decide)
  (he:gZ X e es:=by rfl) (c9:lF X pos es:=by rfl) :
  PE X (.Call (.Name x p) (e::es) [] pos) (aaN sp t):=by
 intro Z s σ H Q I h;refine BE (Ln I hg G.at' ?_ oq);refine PySem.W.callWith_K (h₀:=X.base) I.ok.mod.kin G.kp (bV (ha pos Z s σ H _ I h) λus s1 ⟨vs,H1,I1,r,q⟩=>⟨I1.vE,?_⟩) he c9;refine Xk (dvs:=[]) (ds:=[]) G.ok (hr.mono hk) G.bi .nil abu I1 r ?_;rw[CJ];exact q
end
section
theorem RT{xs:List α}(h0:0<=i)(h1:i < xs.length):∃v,d4 xs i=ap v/\xs[i.toNat]?=ap v:=by
 have hk:i.toNat < xs.length:=by omega
 have q:=di (by rw[Ad hk]);have e:((i.toNat:Nat):Int)=i:=by omega
 rw[e]at q;exact⟨_,q,by rw[Ad hk]⟩
def VZ{j:Int}(h1:-18446744073709551616 < i)(h2:i < 18446744073709551616):ww i j:=VD.ok (.inl ⟨h1,h2⟩)
def mul_r{j:Int}(h1:-18446744073709551616 < j)(h2:j < 18446744073709551616):ww i j:=VD.ok (.inr ⟨h1,h2⟩)
end
def bE(h:n<=1000):n<=sizeLine:=D4 (Mn h)
section
variable(K:Ab)(hK:X.K=K)
include hK
def XA(K:Ab):R2:=λx y H Q=>∃p q xs,x=.ref p/\y=.ref q/\c6 K H p xs/\c6 K H q []/\Q (.bl xs.isEmpty) H
def Iv(hu:X.A.units < pc):iR X (o0 .Eq) (XA K):=by
 subst hK;intro Z s σ H x y v u Q I rx ry h;obtain⟨p,q,xs,rfl,rfl,hp,hq,k⟩:=h;cases rx;cases ry;obtain⟨ao,r,pl,hz⟩:=I.list hp;obtain⟨bS,r2,VT,hz2⟩:=I.list hq;cases r2;cases xs with
 | nil=>
  cases r;refine E7 (EG (e:=λ_=>true) pl.isList VT.isList rfl hu λj h1=>absurd h1 (by simp)) ?_;exact⟨.bl true,H,I,rfl,k⟩
 | cons y ys=>
  have hl:=r.length;refine E7 (Ez pl.isList VT.isList (by simp at hl ⊢;intro z;subst z;simp at hl) hu) ?_;exact⟨.bl false,H,I,rfl,k⟩
omit hK
end
end L2
variable{p1:Cd}
namespace L2
theorem Vals.sd:∀{xs:O V}{us:O bn},Vals xs us->Vals xs.reverse us.reverse
 | _,_,.nil=>.nil
 | _,_,.cons h t=>by rw[CT,CT];exact(Vals.sd t).append (.cons h .nil)
def Yk:Fk (.type "list_reverseiterator") (BJ "__len__")=pure bm:=by kernel_rfl
def Uc:Fk (.type "list_reverseiterator") (BJ "__length_hint__")=pure (ap (.builtin "list_reverseiterator.__length_hint__")):=by kernel_rfl
def SN:splitId "list_reverseiterator.__length_hint__"=ap ("list_reverseiterator","__length_hint__"):=by kernel_rfl
def SH:isSubtype (.type "list_reverseiterator") (.type "list_reverseiterator")=pure true:=by kernel_rfl
def QH{r:ce}{Q:Bool->cr->Prop}(h:s.heap.IsRevIter r l i)(q:Q false s):db (ev prog w) A (Builtin.List.listLengthHint (Az r)) Q E s:=by
 refine Aa (E8 h.typeIs Yk ?_);refine Aa (E8 h.typeIs Uc ?_);dsimp only;rw[SN];dsimp only;refine Aa (DA h.typeIs SH ?_);rw[if_neg ⋯];exact Ae q
def uC{r S:ce}(hA:A.handled=bm)(h:s.heap.IsRevIter r l (items.size-1))(hl:s.heap.IsList l items)(UM:l≠r)(ł:S≠r)(hSl:S≠l)(hz:items.size<=sizeLine)
  (hS:s.heap.get? S=ap {cls:=CC "list",data:=Fq #[]})
  (q:∀(h':lm) (tk:Nat) (Ä:Array bn) (c:Nat),(∀b o,b≠S->b≠r->s.heap.get? b=ap o->h'.get? b=ap o)->h'.get? S=ap {cls:=CC "list",data:=Fq Ä c}->ItemsOf (λi v=>items[items.size-1-i]?=ap v) Ä items.size->R (.ok (.ret .none)) {s with heap:=h',toks:=tk}) :
  db (ev prog w) A.in1 (vD.«list.__init__» {pos:=[Az S,Az r]})
   (λfin s'=>match fin with | Fp f=>R (Except.ok f) s' | Fin.again c'=>c'.quiet=true/\Da (ev prog w) A c' R s') (λe s'=>R (Except.error e) s') s:=by
 unfold vD.«list.__init__»;refine Aa (wpAny_listItems hS rfl ?_);refine Aa ?_;refine CH hS rfl ?_ (by simp) (by simp);refine Aa (Cz ?_);have k1:∀b o,b≠S->s.heap.get? b=ap o->(s.heap.update S (Bn λ_=>#[])).get? b=ap o:=λb o hb e=>by rw[BK _ _ (Bx hb)];exact e
 have hS1:=BV (Bn λ_=>#[]) hS rfl;generalize s.heap.update S (Bn λ_=>#[])=h1 at k1 hS1 ⊢;have ĕ:h1.IsRevIter r l (items.size-1):=let ⟨o,e,p⟩:=h;⟨o,k1 _ _ (Bx ł) e,p⟩;have ĺ:h1.IsList l items:=let ⟨o,e,p⟩:=hl;⟨o,k1 _ _ (Bx hSl) e,p⟩;unfold Builtin.List.listExtendWith;refine Aa (CD (T:="list_reverseiterator") ĕ.typeIs ?_);rw[if_neg (by
  have e1:Builtin.List.listSameRef (Az S) (Az r)=false:=by
   unfold Builtin.List.listSameRef;simpa using ł
  rw[e1];decide)]
 refine Aa (wpAny_pyIter_revIter ĕ ?_);refine Aa (Bh (QH ĕ ?_));rw[if_neg ⋯];refine Ae ⟨vv F.plain_extend_loop _,?_⟩;refine codeAny_extend_loopS (Walks.toS (Walks.listRev (A:=A.in1) hA r l UM items)) hz S (by simp[ł,hSl]) .none items.size 0 _ #[] _ (FQ _) (A8 _) ⟨A8 _,by simpa using ĕ,ĺ⟩ hS1 (ItemsOf.nil _) ?_;intro s' Ä c mv e io;rw[mv.eq_with];exact q s'.heap s'.toks Ä c (λb o n1 n2 e'=>mv.heap b o (by simp[n1,n2]) (k1 b o n1 e')) e io
def uW{r:ce}(hA:A.handled=bm)(h:s.heap.IsRevIter r l (items.size-1))(hl:s.heap.IsList l items)(UM:l≠r)(hz:items.size<=sizeLine)
  (q:∀(h':lm) (tk:Nat) (Ä:Array bn) (c:Nat),(∀b o,b≠r->s.heap.get? b=ap o->h'.get? b=ap o)->h'.get? s.heap.objs.size=ap {cls:=CC "list",data:=Fq Ä c}->ItemsOf (λi v=>items[items.size-1-i]?=ap v) Ä items.size->Q (.ref s.heap.objs.size) {s with heap:=h',toks:=tk}) :
  db (ev prog w) A (call (CC "list") [Az r]) Q E s:=by
 have lr:=let ⟨_,e,_⟩:=h;Au e;have ll:=let ⟨_,e,_⟩:=hl;Au e;refine callType_codes F.called_list (F.typeCall_list_1 _) F.entry_list_init (code_list_new (Q₁:=λv s₁=>v=.ref s.heap.objs.size/\s₁={s with heap:=s.heap.push {cls:=CC "list",data:=Fq #[]}}) _ ⟨rfl,rfl⟩) ?_;rintro obj s₁ ⟨rfl,rfl⟩;refine⟨⟨_,Aq _ rfl,rfl⟩,F.args_list_init_2 _ _,?_⟩;have kp:∀b o,s.heap.get? b=ap o->(s.heap.push {cls:=CC "list",data:=Fq #[]}).get? b=ap o:=λb o e=>Ag _ e;refine uC (A:=A.in1) (items:=items) (l:=l) hA (let ⟨o,e,p⟩:=h;⟨o,kp _ _ e,p⟩) (let ⟨o,e,p⟩:=hl;⟨o,kp _ _ e,p⟩) UM (λz=>by rw[z]at lr;exact AX _ lr) (λz=>by rw[z]at ll;exact AX _ ll) hz (Aq _ rfl) ?_;intro h' tk Ä c k e io;exact⟨rfl,q h' tk Ä c (λb o n e'=>k b o (λz=>by rw[z]at e';exact AX _ (Au e')) n (kp b o e')) e io⟩
def tLR(K:Ab)(te:TE):TE:=λσ H Q=>te σ H λx H1=>∃p ys,x=.ref p/\c6 K H1 p ys/\kI H1 (.lst ys.reverse) Q
section
variable(K:Ab)(hK:X.K=K){q1 q2:Pos}
include hK
theorem Ir(hc:X.calm=true)(ľ:Gl X "list")(ę:X.mg "list"=bm)(Ľ:Gl X "reversed")(ZW:X.mg "reversed"=bm)(he:PE X e te)
  (HM:ga [.Call (.Name "reversed" q1) [e] [] q2] X.env=(false,lf (.Call (.Name "reversed" q1) [e] [] q2) X.env)::ga [] X.env:=by rfl) (rm:gZ X e []:=by rfl) :
  PE X (.Call (.Name "list" p1) [.Call (.Name "reversed" q1) [e] [] q2] [] p2) (tLR K te):=by
 intro Z s σ H Q I h;subst hK;refine BE (iD I ľ ę boot_list ?_ ⋯ ⋯);refine Bi ?_ HM rfl;refine Cj ?_;refine BE (iD I Ľ ZW boot_reversed ?_ ⋯ ⋯);refine Bi ?_ rm rfl;rw[rm];refine Cj (bV (he Z s σ H _ I h) λu s1 ⟨x,H1,I1,r1,pa,ys,ex,hS,q⟩=>CP ?_);subst ex;cases r1;obtain⟨ao,rv,pl,hz⟩:=I1.list hS;have Á:=rv.length;have lp:=let ⟨_,e,_⟩:=pl.isList;Au e;refine call_reversed_list pl.isList ?_;refine CP ?_;have kp:∀b o,s1.heap.get? b=ap o->(s1.heap.push (revObj pa (ao.toArray.size-1))).get? b=ap o:=λb o e=>Ag _ e;refine uW (items:=ao.toArray) (l:=pa) (r:=s1.heap.objs.size) (I1.ok.hd hc) ⟨_,Aq _ rfl,rfl,rfl⟩ (let ⟨o,e,p⟩:=pl.isList;⟨o,kp _ _ e,p⟩) (λz=>by rw[z]at lp;exact AX _ lp) (by rw[Ah];omega) ?_;intro h' tk Ä c k e io;have kk:∀b o,s1.heap.get? b=ap o->h'.get? b=ap o:=λb o eb=>k b o (λz=>by rw[z]at eb;exact AX _ (Au eb)) (kp b o eb);have ea:Ä=ao.reverse.toArray:=by
  obtain⟨z1,z2⟩:=io;apply Array.ext
  ·rw[z1,Ah,Ah,Cb]
  ·intro j h1 h2;have:=z2 j Ä[j] (C7 h1);rw[Ah]at this;have hj:j < ao.length:=by rw[z1,Ah]at h1;exact h1
   rw[Fj]at this;have e3:ao.reverse[j]?=ap Ä[j]:=by rw[List.getElem?_reverse hj];exact this
   rw[DP];exact(Option.some.inj (((Ad (by rw[Cb];exact hj)).symm.trans e3))).symm
 subst ea;have rm:s1.heap.objs.size<=(s1.heap.push (revObj pa (ao.toArray.size-1))).objs.size:=by simp[Heap.push]
 refine⟨.ref _,upd H1 _ (.lst ys.reverse),I1.laid (t':=tk) kk rm ?_,rfl,q.at _ (I1.br.fresh rm)⟩;exact⟨by rw[Cb];exact hz,ao.reverse,c,rv.sd,e⟩
end
end L2
namespace My
def Wd(x:Str):Prop:=1<=x.length/\x.length<=8/\∀c∈x.cps.toList,97<=c/\c < 123
def Part(x:Str)(n:Nat):Prop:=x.length<=n/\∀c∈x.cps.toList,97<=c/\c < 123
theorem uD{d st:Int}(h:st=1\/st=3\/st=5\/st=7\/st=9\/st=11)(hn:n<=26):((AL n).map λk:Nat=>ap (97+((d+st*(0+(k:Int))) % 26).toNat)).Nodup:=by
 unfold List.Nodup;rw[Ey];refine List.Pairwise.imp_of_mem ?_ Dq;intro a b ha hb GK hz;have ě:=A5.mp hb;have Nd:=Option.some.inj hz;rcases h with rfl | rfl | rfl | rfl | rfl | rfl <;> omega
def xb{g:α->β}{l:List α}(h:(l.map g).Nodup):l.Nodup:=(Ey.mp h).imp λh e=>h (congrArg g e)
def IM:∀k:_root_.Fin 26,d4 ("abcdefghijklmnopqrstuvwxyz":Str).cps.toList (k.val:Int)=ap (97+k.val):=by decide +kernel
theorem MX{n:Int}(h0:0<=n)(h1:n < 26):d4 ("abcdefghijklmnopqrstuvwxyz":Str).cps.toList n=ap (97+n.toNat):=by
 have e:=IM ⟨n.toNat,by omega⟩;have e2:((n.toNat:Nat):Int)=n:=by omega
 rw[e2]at e;exact e
inductive Tr where
 | leaf (x:Str)
 | node (l r:Tr)
def Tr.az:Tr->O Str
 | .leaf x=>[x]
 | .node l r=>l.az++r.az
def Tr.size:Tr->Nat
 | .leaf _=>1
 | .node l r=>l.size+r.size+1
def Tr.depth:Tr->Nat
 | .leaf _=>0
 | .node l r=>max l.depth r.depth+1
def Tr.Ws(t:Tr):Prop:=∀x∈t.az,Wd x
theorem Tr.jE:∀t:Tr,1<=t.az.length
 | .leaf _=>Am _
 | .node l r=>by have:=l.jE;show 1<=(l.az++r.az).length;rw[Ai];omega
theorem Tr.oE:∀t:Tr,t.depth < t.az.length
 | .leaf _=>EJ 0
 | .node l r=>by
  have h1:=l.oE;have h2:=r.oE;have h3:=l.jE;have h4:=r.jE;show max l.depth r.depth+1 < (l.az++r.az).length;rw[Ai];omega
theorem Tr.size_eq:∀t:Tr,t.size+1=2*t.az.length
 | .leaf _=>rfl
 | .node l r=>by
  have h1:=l.size_eq;have h2:=r.size_eq;show l.size+r.size+1+1=2*(l.az++r.az).length;rw[Ai];omega
def eV(ts:O Tr):Nat:=(ts.map Tr.size).sum
def fX(a b:O Tr):eV (a++b)=eV a+eV b:=by unfold eV;rw[AO,List.sum_append]
def o9(t:Tr):eV [t]=t.size:=by simp[eV]
theorem Tr.size_pos:∀t:Tr,1<=t.size
 | .leaf _=>Am _
 | .node l r=>by show 1<=l.size+r.size+1;omega
theorem vq:∀ts:O Tr,ts.length<=eV ts
 | []=>Am _
 | t::r=>by have:=vq r;have:=t.size_pos;show r.length+1<=t.size+eV r;omega
def Tr.post:Tr->O Tr
 | .leaf x=>[.leaf x]
 | .node l r=>l.post++r.post++[.node l r]
def Tr.kG:∀t:Tr,t.post.length=t.size
 | .leaf _=>rfl
 | .node l r=>by show(l.post++r.post++[_]).length=l.size+r.size+1;rw[Ai,Ai,l.kG,r.kG];rfl
def iW(ts:O Tr):O Tr:=(ts.map Tr.post).flatten
def jt(a b:O Tr):iW (a++b)=iW a++iW b:=by unfold iW;rw[AO,List.flatten_append]
def pq(t:Tr):iW [t]=t.post:=by simp[iW]
def Mw(t u:Tr):iW [t,u]=t.post++u.post:=by simp[iW]
inductive Ent where
 | word (x:Str)
 | pair (a b:Nat)
def Tr.nd:Tr->Nat->O Ent
 | .leaf x,_=>[.word x]
 | .node l r,o=>l.nd o++r.nd (o+l.size)++[.pair (o+l.size-1) (o+l.size+r.size-1)]
def Tr.ba:∀(t:Tr) (o:Nat),(t.nd o).length=t.size
 | .leaf _,_=>rfl
 | .node l r,o=>by show(l.nd o++r.nd (o+l.size)++[_]).length=l.size+r.size+1;rw[Ai,Ai,l.ba,r.ba];rfl
def run:O Tr->O Ent->O Nat->Option (O Ent×O Nat)
 | [],À,ls=>ap (À,ls)
 | .leaf x::k,À,ls=>run k (À++[.word x]) (À.length::ls)
 | .node _ _::k,À,b::a::ls=>run k (À++[.pair a b]) (À.length::ls)
 | .node _ _::_,_,_=>bm
theorem rZ:∀(t:Tr) (k:O Tr) (À:O Ent) (ls:O Nat),run (t.post++k) À ls=run k (À++t.nd À.length) ((À.length+t.size-1)::ls)
 | .leaf x,k,À,ls=>rfl
 | .node l r,k,À,ls=>by
  have e1:(Tr.node l r).post++k=l.post++(r.post++(Tr.node l r::k)):=by show l.post++r.post++[_]++k=_;simp
  rw[e1,rZ l,rZ r];have e2:(À++l.nd À.length).length=À.length+l.size:=by rw[Ai,l.ba]
  rw[e2];show run k _ _=run k _ _;have e3:(À++l.nd À.length++r.nd (À.length+l.size)).length=À.length+(Tr.node l r).size-1:=by
   rw[Ai,Ai,l.ba,r.ba];show _=À.length+(l.size+r.size+1)-1;omega
  rw[e3];have e4:À++(Tr.node l r).nd À.length=À++l.nd À.length++r.nd (À.length+l.size)++[.pair (À.length+l.size-1) (À.length+l.size+r.size-1)]:=by
   show À++(l.nd À.length++r.nd (À.length+l.size)++[_])=_;simp
  rw[e4]
def Mt(t:Tr):run t.post [] []=ap (t.nd 0,[t.size-1]):=by
 have:=rZ t [] [] [];rw[CJ]at this;rw[this];show ap ([]++t.nd 0,[0+t.size-1])=_;simp
end My
variable{xs:O L2.V}{x:A6}{σ:L2.St}{i:Nat}
namespace L2
def hX{t:ce}(h:s.heap.IsTupleIter it t i)(ht:s.heap.IsTuple t items)(hx:items[i]?=ap x)
  (q:∀h':lm,h'.IsTupleIter it t (i+1)->Cc it s.heap h'->Q x {s with heap:=h'}):db (ev prog w) A (Builtin.SmallTypes.nextOf (.ref it)) Q E s:=by
 unfold Builtin.SmallTypes.nextOf;refine Aa (AV h.typeIs Ci (Bc Ci h.typeIs D2 ?_ (DS _)));obtain⟨o,ho,hc,hd⟩:=id h;obtain⟨ot,ĸ,htc,n,Ĳ⟩:=id ht;show db _ _ (field (.ref it) 0 >>= λseq=>_) _ _ s;refine Aa (AY ho hd rfl ?_);refine Aa (AY ho hd rfl ?_);refine Aa (Bt ĸ Ĳ ?_);show db _ _ (match items[i]? with | some x=>(do wf (.ref it) 1 (t0 ((i:Int)+1));ret x) | none=>_) _ _ s;rw[hx];refine Aa (Ee ho hd (show 1 < 2 by decide) ?_);refine Ae ⟨x,rfl,Ae (q _ ⟨_,BV _ ho (by rw[Fg (Dh hd _)]),by rw[Obj.cls_mapFields];exact hc,by rw[Dh hd];rfl⟩ (Cc.update ..))⟩
def SJ{Q:α->cr->Prop}(hA:A.handled=bm)
  (q:∀(h':lm) (e:ce),(∀b o,s.heap.get? b=ap o->h'.get? b=ap o)->(∃o,h'.get? e=ap o/\o.cls=.type "StopIteration")->E (.ref e) {s with heap:=h'}):db (ev prog w) A (Builtin.SmallTypes.stopIteration (α:=α)) Q E s:=by
 refine Aa ?_;refine Aa (C0 ?_ (by show 0<=sizeLine;decide));refine Aa (Cy (a:=AU) rfl ?_);refine AQ ?_ (sizeOk_excFields ..);unfold raiseNew;refine Aa (wpAny_handled ?_);rw[hA];refine wpAny_throw (q _ _ (λb o e=>Ag _ (Ag _ e)) ⟨_,Aq _ rfl,rfl⟩)
def iZ{t:ce}(hA:A.handled=bm)(h:s.heap.IsTupleIter it t i)(ht:s.heap.IsTuple t items)(hx:items[i]?=bm)
  (q:∀(h':lm) (e:ce),FY it s.heap h'->(∃o,h'.get? e=ap o/\o.cls=.type "StopIteration")->E (.ref e) {s with heap:=h'}):db (ev prog w) A (Builtin.SmallTypes.nextOf (.ref it)) Q E s:=by
 unfold Builtin.SmallTypes.nextOf;refine Aa (AV h.typeIs Ci (Bc Ci h.typeIs D2 ?_ (DS _)));obtain⟨o,ho,hc,hd⟩:=id h;obtain⟨ot,ĸ,htc,n,Ĳ⟩:=id ht;show db _ _ (field (.ref it) 0 >>= λseq=>_) _ _ s;refine Aa (AY ho hd rfl ?_);refine Aa (AY ho hd rfl ?_);refine Aa (Bt ĸ Ĳ ?_);show db _ _ (match items[i]? with | some x=>(do wf (.ref it) 1 (t0 ((i:Int)+1));ret x) | none=>(do rule _;wf (.ref it) 0 .none;Builtin.SmallTypes.stopIteration)) _ _ s;rw[hx];refine Aa (CZ ?_);refine Aa (Ee ho hd (show 0 < 2 by decide) ?_);refine SJ (A:=A.in1) hA λh' e k ex=>q h' e (λb o n eb=>k b o ?_) ex;rw[(Cc.update _ _ _).2 b n];exact eb
def Inv.rS{t':Nat}{a:ce}(I:Inv X Z σ H s)(hf:∀b∈ch,u5 X Z H b)(k:∀b u,b∉ch->s.heap.get? b=ap u->h'.get? b=ap u)
  (hp:s.heap.objs.size<=a) (new:a6 X.prog X.w (upd H a o) h' a o):Inv X Z σ (upd H a o) {s with heap:=h',toks:=t'}:=by
 have hn:=I.br.fresh hp;have VY:∀b u,H b=ap u->b∉ch:=λb u e z=>by rw[(hf b z).1]at e;cases e
 have nL:X.env.locals∉ch:=λz=>(hf _ z).2.1 rfl;refine I.step (g':=s.gens) (d':=s.drawn) (ch:=ch) (λb hb=>⟨(hf b hb).2.2.2.1,(hf b hb).2.1,(hf b hb).2.2.2.2.1,(hf b hb).2.2.2.2.2⟩) (λb u _ _ hc e _=>k b u hc e) (λb u _ _ hc e _=>⟨u.slots,k b u hc e⟩)
  (λb u _ e n=>by rw[aq (AB (AJ (Au e) hp))];exact n) (λb u hc e=>⟨u,k b u hc e⟩) (λb xs e=>by rw[aq (bz e hn)];exact e) (λb u xs e=>by rw[aq (bz e hn)];exact e)
  (λb ps e=>⟨#[],by rw[aq (bz e hn),e];simp⟩) (λm hm=>?_) (λb u e=>?_) I.bare
 ·obtain⟨o',es,ep,ho,r⟩:=hm;exact⟨o',es,ep,k _ o' nL ho,r⟩
 ·by_cases hb:b=a
  ·subst hb;rw[aM]at e;cases e;exact new
  ·rw[aq hb]at e;refine(I.br b u e).wG (λc v hc q=>k c v ?_ q) (λc q=>by rw[aq (bz q hn)];exact q) λc xs q=>by rw[aq (bz q hn)];exact q
   rcases hc with z | z
   ·rw[z];exact VY b u e
   ·exact VY c _ z
def Inv.wy{t':Nat}(I:Inv X Z σ H s)(hf:∀b∈ch,u5 X Z H b)(k:∀b u,b∉ch->s.heap.get? b=ap u->h'.get? b=ap u) :
  Inv X Z σ H {s with heap:=h',toks:=t'}:=by
 have VY:∀b u,H b=ap u->b∉ch:=λb u e z=>by rw[(hf b z).1]at e;cases e
 have nL:X.env.locals∉ch:=λz=>(hf _ z).2.1 rfl;refine I.step (g':=s.gens) (d':=s.drawn) (ch:=ch) (λb hb=>⟨(hf b hb).2.2.2.1,(hf b hb).2.1,(hf b hb).2.2.2.2.1,(hf b hb).2.2.2.2.2⟩) (λb u _ _ hc e _=>k b u hc e) (λb u _ _ hc e _=>⟨u.slots,k b u hc e⟩)
  (λ_ _ _ _ n=>n) (λb u hc e=>⟨u,k b u hc e⟩) (λ_ _ e=>e) (λ_ _ _ e=>e) (λb ps e=>⟨#[],by rw[e];simp⟩) (λm hm=>?_) (λb u e=>?_) I.bare
 ·obtain⟨o',es,ep,ho,r⟩:=hm;exact⟨o',es,ep,k _ o' nL ho,r⟩
 ·refine(I.br b u e).wG (λc v hc q=>k c v ?_ q) (λ_ q=>q) λ_ _ q=>q;rcases hc with z | z
  ·rw[z];exact VY b u e
  ·exact VY c _ z
def m6(h:Vals xs us):∀{i:Nat}{x:V},xs[i]?=ap x->∃u,us[i]?=ap u/\RelV x u:=by
 induction h with
 | nil=>intro i x e;simp at e
 | cons r t ih=>
  intro i x e;cases i with
  | zero=>simp at e;subst e;exact⟨_,rfl,r⟩
  | succ i=>exact ih (by simpa using e)
end L2
variable{e:BD}{Ë:A6}{Î:O BX}
namespace L2
def qL{E:bn->cr->Prop}{t:ce}(N9:e≠it)(ē:t≠e)(UG:t≠it)
  (hz:IsEnum s.heap e it i Ë) (hi:s.heap.IsTupleIter it t i) (ht:s.heap.IsTuple t items) (hx:items[i]?=ap x)
  (q:∀(h':lm) (tk:Nat),IsEnumOut h' e it (i+1:Nat) x s.heap.objs.size->h'.IsTupleIter it t (i+1)->IsPair h' s.heap.objs.size (.int i s.toks) x->(∀c o,c≠e->c≠it->s.heap.get? c=ap o->h'.get? c=ap o)->Q (.ref s.heap.objs.size) {s with heap:=h',toks:=tk}) :
  db (ev prog w) A (vD.«enumerate.__next__» {pos:=[.ref e]}) (λfin s'=>∃v,fin=Fp (FZ v)/\Q v s') E s:=by
 show db _ _ (field (.ref e) 2 >>= λr=>_) _ _ s;refine Aa (AY hz rfl rfl ?_);refine Aa (hX hi ht hx λh1 j1 b1=>?_);have z1:=(b1.2 _ N9).trans hz;refine Aa (AY z1 rfl rfl ?_);refine Aa (AY z1 rfl rfl ?_);refine Aa (wpAny_mkInt ?_);refine Aa (Bg z1 (show 3 < 6 by decide) λh2 z2 b2=>?_);refine Aa (Bg z2 (show 4 < 6 by decide) λh3 z3 b3=>?_);have sz3:=b3.1.trans (b2.1.trans b1.1);have Ì:∀b,b≠e->b≠it->h3.get? b=s.heap.get? b:=λb n1 n2=>(b3.2 b n1).trans ((b2.2 b n1).trans (b1.2 b n2));refine Aa (C0 ?_ (by show 2<=sizeLine;decide));have kp:∀b o,h3.get? b=ap o->(h3.push {cls:=.type "tuple",data:=.seq [Di i s.toks,x].toArray}).get? b=ap o:=λb o e=>Ag _ e;have Yd:(h3.push {cls:=.type "tuple",data:=.seq [Di i s.toks,x].toArray}).get? h3.objs.size=ap {cls:=.type "tuple",data:=.seq #[.int i s.toks,x]}:=Aq _ rfl;generalize h3.push {cls:=.type "tuple",data:=.seq [Di i s.toks,x].toArray}=h4 at kp Yd ⊢;have z4:h4.get? e=ap {cls:=.type "enumerate",data:=.fields #[.none,.bool false,.ref it,t0 (i+1),.none,Ë]}:=kp _ _ z3;refine Aa ?_;refine Aa (AY z4 rfl rfl ?_);refine Ae ?_;refine Aa (CZ ?_);refine Aa (AY z4 rfl rfl ?_);refine Aa (Bg z4 (show 5 < 6 by decide) λh5 z5 b5=>?_);refine Aa ?_;refine Aa (Bg z5 (show 0 < 6 by decide) λh6 z6 b6=>?_);refine Bg z6 (show 1 < 6 by decide) λh7 z7 b7=>?_;refine Aa (Cz ?_);have YZ:∀b,b≠e->h7.get? b=h4.get? b:=λb n=>(b7.2 b n).trans ((b6.2 b n).trans (b5.2 b n));have ne:s.heap.objs.size≠e:=λz=>by have:=Au hz;rw[<- z]at this;exact AX _ this
 refine Ae ⟨.ref h3.objs.size,rfl,?_⟩;rw[sz3]at z7 Yd ⊢;refine q h7 _ ?_ ?_ ?_ ?_
 ·exact z7
 ·obtain⟨o,eo,p⟩:=j1;refine⟨o,?_,p⟩;rw[YZ _ (Bx N9)];exact kp _ _ ((b3.2 _ (Bx N9)).trans ((b2.2 _ (Bx N9)).trans eo))
 ·rw[IsPair,YZ _ ne];exact Yd
 ·intro c o n1 n2 ec;rw[YZ _ n1];exact kp _ _ ((Ì _ n1 n2).trans ec)
def tL{t:ce}{Q:PySem.Fin->cr->Prop}(hA:A.handled=bm)
  (hz:IsEnum s.heap e it i Ë) (hi:s.heap.IsTupleIter it t i) (ht:s.heap.IsTuple t items) (hx:items[i]?=bm)
  (q:∀(h':lm) (x:ce),(∀c o,c≠it->s.heap.get? c=ap o->h'.get? c=ap o)->(∃o,h'.get? x=ap o/\o.cls=.type "StopIteration")->E (.ref x) {s with heap:=h'}) :
  db (ev prog w) A (vD.«enumerate.__next__» {pos:=[.ref e]}) Q E s:=by
 show db _ _ (field (.ref e) 2 >>= λr=>_) _ _ s;refine Aa (AY hz rfl rfl ?_);exact Aa (iZ hA hi ht hx λh' x k ex=>q h' x (λc o n e'=>k c o n e') ex)
def nA{t:ce}{Q:Option bn->cr->Prop}(N9:e≠it)(ē:t≠e)(UG:t≠it)
  (hz:IsEnum s.heap e it i Ë) (hi:s.heap.IsTupleIter it t i) (ht:s.heap.IsTuple t items) (hx:items[i]?=ap x)
  (q:∀(h':lm) (tk:Nat),IsEnumOut h' e it (i+1:Nat) x s.heap.objs.size->h'.IsTupleIter it t (i+1)->IsPair h' s.heap.objs.size (.int i s.toks) x->(∀c o,c≠e->c≠it->s.heap.get? c=ap o->h'.get? c=ap o)->Q (ap (.ref s.heap.objs.size)) {s with heap:=h',toks:=tk}) :
  db (ev prog w) A (pyNext (.ref e)) Q E s:=by
 have ty:s.TypeIs (.ref e) "enumerate":=⟨_,hz,rfl⟩;refine Aa (De (AV ty CN (Bc CN ty EO ?_ (EI _))));exact qL N9 ē UG hz hi ht hx λh' tk a b c d=>Ae (q h' tk a b c d)
def pj{t:ce}{Q:Option bn->cr->Prop}(hA:A.handled=bm)
  (hz:IsEnum s.heap e it i Ë) (hi:s.heap.IsTupleIter it t i) (ht:s.heap.IsTuple t items) (hx:items[i]?=bm)
  (q:∀h':lm,(∀c o,c≠it->s.heap.get? c=ap o->h'.get? c=ap o)->Q bm {s with heap:=h'}) :
  db (ev prog w) A (pyNext (.ref e)) Q E s:=by
 have ty:s.TypeIs (.ref e) "enumerate":=⟨_,hz,rfl⟩;refine Aa (De (AV ty CN (Bc CN ty EO ?_ (EI _))));refine tL (A:=A.in1) hA hz hi ht hx λh' x k ex=>?_;obtain⟨o,eo,hc⟩:=ex;refine Aa (DA (T:="StopIteration") ⟨o,eo,hc⟩ isSubtype_stop ?_);exact Ae (q h' k)
def qB(t:ce)(items:Array bn):Meets (vD.«enumerate.__new__» {pos:=[.type "enumerate",.ref t]}) (λ_ R s=>s.heap.IsTuple t items/\
  ∀h':lm,IsEnum h' (s.heap.objs.size+1) s.heap.objs.size (0:Nat) .none->h'.IsTupleIter s.heap.objs.size t 0->(∀b o,s.heap.get? b=ap o->h'.get? b=ap o)->R (.ok (.ret (.ref (s.heap.objs.size+1)))) {s with heap:=h'}):=
 .of_wp λprog w A R s h=>by
  obtain⟨h1,q⟩:=h;refine Aa ?_;refine Aa (Cy (a:=true) rfl ?_);refine Aa (Cy sub_enumerate ?_);refine Ae ?_;refine Aa ?_;refine Aa (wpAny_stack_any λst=>Ae ?_);have fin:db (ev prog w) A.in1 (pyIter (.ref t) >>= λit=>(Builtin.SmallTypes.newRecord (.type "enumerate") (Builtin.SmallTypes.ownedTupleFields++[it,t0 0,.none,.none]) >>= λr=>ret r)) (λfin s'=>∃v,fin=Fp (FZ v)/\R (Except.ok (FZ v)) s') (λe s'=>R (Except.error e) s') s:=by
   refine Aa (Ef h1 ?_);have k1:∀b o,s.heap.get? b=ap o->(s.heap.push {cls:=.type "tuple_iterator",data:=.fields #[.ref t,.int 0 0]}).get? b=ap o:=λb o e=>Ag _ e;have g1:(s.heap.push {cls:=.type "tuple_iterator",data:=.fields #[.ref t,.int 0 0]}).get? s.heap.objs.size=ap {cls:=.type "tuple_iterator",data:=.fields #[.ref t,.int 0 0]}:=Aq _ rfl;have z1:(s.heap.push {cls:=.type "tuple_iterator",data:=.fields #[.ref t,.int 0 0]}).objs.size=s.heap.objs.size+1:=Cs ..;generalize s.heap.push {cls:=.type "tuple_iterator",data:=.fields #[.ref t,.int 0 0]}=xP at k1 g1 z1 ⊢;show db _ _ (newObj (.type "enumerate") (.fields #[.none,.bool false,.ref s.heap.objs.size,t0 0,.none,.none]) >>= λr=>ret r) _ _ _;refine Aa (AQ ?_ (by simp[sizeOk];decide));have g2:(xP.push {cls:=.type "enumerate",data:=.fields #[.none,.bool false,.ref s.heap.objs.size,t0 0,.none,.none]}).get? xP.objs.size=ap {cls:=.type "enumerate",data:=.fields #[.none,.bool false,.ref s.heap.objs.size,t0 0,.none,.none]}:=Aq _ rfl;refine Ae ⟨.ref xP.objs.size,rfl,?_⟩;rw[z1]at g2 ⊢;exact q _ g2 ⟨_,Ag _ g1,rfl,rfl⟩ λb o e=>Ag _ (k1 _ _ e)
  refine wpAny_ite_split (λ_=>?_) (λ_=>?_)
  ·exact Aa (Cy (a:=(Az t,bm)) rfl fin)
  ·exact Aa (Cy (a:=(Az t,bm)) rfl fin)
def J2{t:ce}(h1:s.heap.IsTuple t items)
  (q:∀h':lm,IsEnum h' (s.heap.objs.size+1) s.heap.objs.size (0:Nat) .none->h'.IsTupleIter s.heap.objs.size t 0->(∀b o,s.heap.get? b=ap o->h'.get? b=ap o)->Q (.ref (s.heap.objs.size+1)) {s with heap:=h'}) :
  db (ev prog w) A (call (.type "enumerate") [.ref t]) Q E s:=
 callType_new F.called_enumerate ⋯ (F.typeCall_enumerate_1 _) (F.newCall_enumerate_1 _) (λo=>F.args_object_init_2 o _) F.entry_enumerate_new (qB t items) ⟨h1,λh' z i k=>⟨⟨_,z,rfl⟩,q h' z i k⟩⟩
def Ite(K:Ab)(a:ce):It where
 go:=λi H=>∃xs x,dj K H a xs/\xs[i]?=ap x
 VE:=λi H v H'=>∃p x,v=.ref p/\H p=bm/\H'=upd H p (.tup [.int i,x])/\∀xs,dj K H a xs->xs[i]?=ap x
 stop:=λi H=>∃xs,dj K H a xs/\xs.length<=i
theorem Mb{K:Ab}{kk:Nat}{t:ce}(N9:e≠it)(ē:t≠e)(UG:t≠it):Turn P w K (.Tuple Î kk pos) (Ite K t) [e,it] e (λi h=>(∃Ë,IsEnum h e it (i:Nat) Ë)/\h.IsTupleIter it t i) where
 mem:=by simp
 obj:=λi h st b hb=>by
  simp only[Ax,A2,or_false]at hb;rcases hb with rfl | rfl
  ·obtain⟨⟨_,e⟩,_⟩:=st;exact⟨_,e,λv z=>by cases z⟩
  ·obtain⟨_,⟨o,e,_,d⟩⟩:=st;exact⟨o,e,λv z=>by rw[d]at z;cases z⟩
 keep:=λi h h' st k=>⟨let ⟨o,e'⟩:=st.1;⟨o,k e (by simp) _ e'⟩,let ⟨o,e',p⟩:=st.2;⟨o,k it (by simp) _ e',p⟩⟩
 item:=by
  intro X hP hw hK hc i Z s σ H E I hf st hg;subst hP hw hK;obtain⟨xs,x,hx,gx⟩:=hg;obtain⟨ao,rx,tx,_⟩:=I.tuple hx;obtain⟨u,gu,ru⟩:=m6 rx gx;obtain⟨⟨Ë,hz⟩,hi⟩:=st;refine nA N9 ē UG hz hi tx (by simpa using gu) λh' tk zo j np k=>?_;refine⟨_,rfl,?_⟩;refine Eg zo λh2 z2 b2=>?_;have le:=Au hz;have li:=let ⟨_,e',_⟩:=hi;Au e';have lt:∀b∈[e,it],b < s.heap.objs.size:=λb hb=>by
   simp only[Ax,A2,or_false]at hb;rcases hb with rfl | rfl
   ·exact le
   ·exact li
  have nz:s.heap.objs.size≠e:=λz=>AX _ (by have:=le;rw[<- z]at this;exact this);have ô:∀b o,b∉[e,it]->s.heap.get? b=ap o->h2.get? b=ap o:=λb o hb e'=>by
   have Nd:b≠e:=λq=>hb (by simp[q]);rw[b2.2 b Nd];exact k b o Nd (λq=>hb (by simp[q])) e'
  have ð:h2.get? s.heap.objs.size=ap {cls:=.type "tuple",data:=.seq #[.int i s.toks,u]}:=(b2.2 _ nz).trans np;have ü:=I.br.fresh (Am s.heap.objs.size);refine⟨.ref s.heap.objs.size,upd H s.heap.objs.size (.tup [.int i,x]),I.rS (t':=tk) hf ô (Am _) ⟨by show 2<=sizeLine;decide,[.int i s.toks,u],.cons ⟨_,rfl⟩ (.cons ru .nil),⟨_,ð,rfl,_,rfl⟩⟩,rfl,⟨_,x,rfl,ü,rfl,λxs' h'=>by rw[I.lI h' hx];exact gx⟩,⟨⟨_,z2⟩,let ⟨o,e',p⟩:=j;⟨o,(b2.2 _ (Bx N9)).trans e',p⟩⟩,λb hb=>?_⟩;rw[aq (AB (lt b hb))];exact(hf b hb).1
 done:=by
  intro X hP hw hK hc i Z s σ H E I hf st hg;subst hP hw hK;obtain⟨xs,hx,hl⟩:=hg;obtain⟨ao,rx,tx,_⟩:=I.tuple hx;have el:=rx.length;obtain⟨⟨Ë,hz⟩,hi⟩:=st;refine pj (I.ok.hd hc) hz hi tx (by simp;omega) λh' k=>⟨rfl,I.wy (t':=s.toks) hf λb o hb e'=>k b o (λz=>hb (by simp[z])) e'⟩
 self:=λA i s Q E st h=>let ⟨_,e'⟩:=st.1;Dm e' h
end L2
namespace My
def RX(l:O V)(i:Nat):Ent->O V
 | .word _=>l
 | .pair a b=>(l.set a (.int i)).set b (.int i)
def ah:O Ent->Nat->O V->O V
 | [],_,l=>l
 | e::es,i,l=>ah es (i+1) (RX l i e)
theorem y6:∀(es:O Ent) (e:Ent) (i:Nat) (l:O V),ah (es++[e]) i l=RX (ah es i l) (i+es.length) e
 | [],e,i,l=>rfl
 | x::es,e,i,l=>by
  show ah (es++[e]) (i+1) (RX l i x)=RX (ah es (i+1) (RX l i x)) (i+(es.length+1)) e;rw[y6 es e];congr 1;omega
def Vr(l:O V)(i:Nat)(e:Ent):(RX l i e).length=l.length:=by cases e with
 | word=>rfl
 | pair=>show((l.set _ _).set _ _).length=_;rw[BQ,BQ]
theorem J8:∀(es:O Ent) (i:Nat) (l:O V),(ah es i l).length=l.length
 | [],_,_=>rfl
 | e::es,i,l=>by show(ah es (i+1) (RX l i e)).length=_;rw[J8 es,Vr]
end My
namespace L2
def Itd(lo:Int)(n:Nat):It:=⟨λi _=>i < n,λi H x H'=>H'=H/\x=.int (lo-i),λi _=>n<=i⟩
theorem zG{K:Ab}(it:ce)(lo:Int)(n:Nat):Turn P w K tg (Itd lo n) [it] it (λi h=>IsRangeIter h it (lo+(i:Nat)*(-1)) ((n:Int)-(i:Nat)) (-1)) where
 mem:=by simp
 obj:=λi h st b hb=>by
  have e:b=it:=by simpa using hb
  subst e;exact⟨_,st,λv z=>by
   have z':=z;cases z'⟩
 keep:=λi h h' st k=>k it (by simp) _ st
 item:=by
  intro X hP hw hK hc i Z s σ H E I hf st hg;subst hP hw hK;obtain⟨f0,f1,f2,f3,f4,f5⟩:=hf it (by simp);have W:=Walks.range (prog:=X.prog) (w:=X.w) (I.ok.hd hc) it lo (-1) n;refine W.item i s _ _ hg st λv h' tk hv qU kk=>?_;obtain⟨t,rfl⟩:=hv;have I1:Inv X Z σ H {s with heap:=h',toks:=tk}:=I.turned (λb o hb e=>kk b o (by simpa using hb) e) f0 f1 f3 f4 f5;refine⟨_,rfl,GL (s:={s with heap:=h',toks:=tk}) (n:="range_iterator") qU rfl rfl ⋯ ⟨.int (lo-i),H,I1,⟨t,?_⟩,⟨rfl,rfl⟩,qU,λb hb=>(hf b hb).1⟩⟩;rw[show lo+(i:Int)*(-1)=lo-i by omega]
 done:=by
  intro X hP hw hK hc i Z s σ H E I hf st hg;obtain⟨f0,f1,f2,f3,f4,f5⟩:=hf it (by simp);exact wpAny_pyNext_range_end (I.ok.hd hc) st (by have:n<=i:=hg;omega) λh' eb=>⟨rfl,I.turned (t':=s.toks) (λb o hb e=>eb b o hb e) f0 f1 f3 f4 f5⟩
 self:=λ_ _ _ _ _ st h=>wpAny_pyIter_rangeiter st h
section
theorem Mu{σ:St}{R:It->Hp->Prop}{lo hi:Int}{t u v:Tok}{tk:Nat}(I:Inv X Z σ H s)(h1:-(2 ^ 62)<=lo)(h2:lo < 2 ^ 62)(h3:-(2 ^ 62)<=hi)(h4:hi < 2 ^ 62)
  (q:R (Itd lo (lo-hi).toNat) H):db (ev X.prog X.w) X.A (pyIter (.ref s.heap.objs.size)) (PIE X Z σ tg R) E {s with heap:=s.heap.push {cls:=.type "range",data:=.fields #[.int lo t,.int hi u,.int (-1) v]},toks:=tk}:=by
 refine wpAny_pyIter_range (IsRange.new ..) (PySem.W.small_down h1 h2 h3 h4) ?_;have I1:Inv X Z σ H {s with heap:=s.heap.push {cls:=.type "range",data:=.fields #[.int lo t,.int hi u,.int (-1) v]},toks:=tk}:=I.kept λb o e=>Ag _ e;refine⟨(s.heap.push {cls:=.type "range",data:=.fields #[.int lo t,.int hi u,.int (-1) v]}).objs.size,[(s.heap.push {cls:=.type "range",data:=.fields #[.int lo t,.int hi u,.int (-1) v]}).objs.size],_,_,H,rfl,
  I1.kept (t':=tk) λb o e=>Ag _ e,zG _ lo (lo-hi).toNat,?_,λb hb=>?_,q⟩
 ·have e1:lo+((0:Nat):Int)*(-1)=lo:=by simp
  have e2:(((lo-hi).toNat:Nat):Int)-((0:Nat):Int)=Builtin.Range.rangeSize lo hi (-1):=by rw[PySem.W.rangeSize_down];split <;> omega
  show IsRangeIter _ _ (lo+((0:Nat):Int)*(-1)) ((((lo-hi).toNat:Nat):Int)-((0:Nat):Int)) (-1);rw[e1,e2];exact Aq _ rfl
 ·have e:b=(s.heap.push {cls:=.type "range",data:=.fields #[.int lo t,.int hi u,.int (-1) v]}).objs.size:=by simpa using hb
  subst e;exact I1.yh (Am _) (I1.br.fresh (Am _))
def ab4(ta:TA):TI:=λσ H R=>ta σ H λvs H1=>∃i j:Int,vs=[.int i,.int j,.int (-1)]/\(-(2 ^ 62)<=i/\i < 2 ^ 62/\-(2 ^ 62)<=j/\j < 2 ^ 62)/\R (Itd i (i-j).toNat) H1
def Mz{c:kw}{ta:TA}(hg:Gl X "range")(hm:X.mg "range"=bm)(ha:PA X [a,b,c] ta)(hs:ga [a,b,c] X.env=[(false,lf a X.env),(false,lf b X.env),(false,lf c X.env)]:=by rfl)(rm:ga [b,c] X.env=[(false,lf b X.env),(false,lf c X.env)]:=by rfl) :
  PI X tg (.Call (.Name "range" p) [a,b,c] [] pos) (ab4 ta):=by
 intro Z s σ H R I h;refine Call_ (iD I hg hm boot_range (Bi (bV (ha pos Z s σ H _ I h) λus s1 ⟨vs,H1,I1,r1,q1⟩=>?_) (by show ga _ _=_;rw[hs,rm]) (by rw[rm];rfl)));obtain⟨i,j,e,⟨q1,q2,q3,q4⟩,q⟩:=q1;subst e;cases r1 with
 | cons r rr=>
  cases rr with
  | cons r' rr=>
   cases rr with
   | cons r'' rr=>
    cases rr;obtain⟨t,rfl⟩:=r;obtain⟨t',rfl⟩:=r';obtain⟨t'',rfl⟩:=r'';refine call_range_3 ⋯ (Mu I1 q1 q2 q3 q4 q) (.inl ?_);unfold Builtin.divisionGoesByPylong;have e1:decide ((if ((-1:Int)==0)=true then 0 else (-1:Int).natAbs.log2 / 30+1) > 300)=false:=by decide
    simp only[e1,Fz]
end
def adn(K:Ab)(a:ce):It where
 go:=λi H=>∃xs x,c6 K H a xs/\xs[i]?=ap x
 VE:=λi H v H'=>∃p x,v=.ref p/\H p=bm/\H'=upd H p (.tup [.int i,x])/\∀xs,c6 K H a xs->xs[i]?=ap x
 stop:=λi H=>∃xs,c6 K H a xs/\xs.length<=i
theorem Ia{K:Ab}{kk:Nat}{t:ce}(N9:e≠it):Turn P w K (.Tuple Î kk pos) (adn K t) [e,it] e (λi h=>(∃Ë,IsEnum h e it (i:Nat) Ë)/\h.IsListIter it t i) where
 mem:=by simp
 obj:=λi h st b hb=>by
  simp only[Ax,A2,or_false]at hb;rcases hb with rfl | rfl
  ·obtain⟨⟨_,e⟩,_⟩:=st;exact⟨_,e,λv z=>by cases z⟩
  ·obtain⟨_,⟨o,e,_,d⟩⟩:=st;exact⟨o,e,λv z=>by rw[d]at z;cases z⟩
 keep:=λi h h' st k=>⟨let ⟨o,e'⟩:=st.1;⟨o,k e (by simp) _ e'⟩,let ⟨o,e',p⟩:=st.2;⟨o,k it (by simp) _ e',p⟩⟩
 item:=by
  intro X hP hw hK hc i Z s σ H E I hf st hg;subst hP hw hK;obtain⟨xs,x,hx,gx⟩:=hg;obtain⟨ao,rx,tx,_⟩:=I.list hx;obtain⟨u,gu,ru⟩:=m6 rx gx;obtain⟨⟨Ë,hz⟩,hi⟩:=st;refine wpAny_pyNext_enum_item hz hi tx.isList (by simpa using gu) N9 λh' zo j np _ k=>?_;refine⟨_,rfl,?_⟩;refine Eg zo λh2 z2 b2=>?_;have le:=Au hz;have li:=let ⟨_,e',_⟩:=hi;Au e';have lt:∀b∈[e,it],b < s.heap.objs.size:=λb hb=>by
   simp only[Ax,A2,or_false]at hb;rcases hb with rfl | rfl
   ·exact le
   ·exact li
  have nz:s.heap.objs.size≠e:=λz=>AX _ (by have:=le;rw[<- z]at this;exact this);have ô:∀b o,b∉[e,it]->s.heap.get? b=ap o->h2.get? b=ap o:=λb o hb e'=>by
   have Nd:b≠e:=λq=>hb (by simp[q]);rw[b2.2 b Nd];exact k b o Nd (λq=>hb (by simp[q])) e'
  have ð:h2.get? s.heap.objs.size=ap {cls:=.type "tuple",data:=.seq #[.int i s.toks,u]}:=(b2.2 _ nz).trans np;have ü:=I.br.fresh (Am s.heap.objs.size);refine⟨.ref s.heap.objs.size,upd H s.heap.objs.size (.tup [.int i,x]),I.rS (t':=s.toks+1) hf ô (Am _) ⟨by show 2<=sizeLine;decide,[.int i s.toks,u],.cons ⟨_,rfl⟩ (.cons ru .nil),⟨_,ð,rfl,_,rfl⟩⟩,rfl,⟨_,x,rfl,ü,rfl,λxs' h'=>by rw[I.Gr h' hx];exact gx⟩,⟨⟨_,z2⟩,let ⟨o,e',p⟩:=j;⟨o,(b2.2 _ (Bx N9)).trans e',p⟩⟩,λb hb=>?_⟩;rw[aq (AB (lt b hb))];exact(hf b hb).1
 done:=by
  intro X hP hw hK hc i Z s σ H E I hf st hg;subst hP hw hK;obtain⟨xs,hx,hl⟩:=hg;obtain⟨ao,rx,tx,_⟩:=I.list hx;have el:=rx.length;obtain⟨⟨Ë,hz⟩,hi⟩:=st;refine wpAny_pyNext_enum_end (I.ok.hd hc) hz hi tx.isList (by simp;omega) λh' k=>⟨rfl,I.wy (t':=s.toks) hf λb o hb e'=>k b o (λz=>hb (by simp[z])) e'⟩
 self:=λA i s Q E st h=>let ⟨_,e'⟩:=st.1;Dm e' h
end L2
namespace My
def en:Tr->Nat->Nat->Ent
 | .leaf x,_,_=>.word x
 | .node l r,o,j=>if j < l.size then en l o j else if j < l.size+r.size then en r (o+l.size) (j-l.size) else .pair (o+l.size-1) (o+l.size+r.size-1)
def up:Tr->Nat->Nat->O Nat->O Nat
 | .leaf _,o,_,ab=>o::ab
 | .node l r,o,j,ab=>if j < l.size then up l o j ((o+l.size+r.size)::ab) else if j < l.size+r.size then up r (o+l.size) (j-l.size) ((o+l.size+r.size)::ab) else (o+l.size+r.size)::ab
def kz:Tr->Nat->Nat->V->V
 | .leaf _,_,_,p=>p
 | .node l r,o,j,p=>if j < l.size then kz l o j (.int (o+l.size+r.size:Nat)) else if j < l.size+r.size then kz r (o+l.size) (j-l.size) (.int (o+l.size+r.size:Nat)) else p
def be:Tr->Nat->Nat->O Nat
 | .leaf _,o,_=>[o]
 | .node l r,o,j=>if j < l.size then be l o j else if j < l.size+r.size then be r (o+l.size) (j-l.size) else be l o (l.size-1)++be r (o+l.size) (r.size-1)
theorem gI:∀(t:Tr) (o j:Nat),j < t.size->(t.nd o)[j]?=ap (en t o j)
 | .leaf x,o,j,h=>by
  have:j=0:=by have:j < 1:=h;omega
  subst this;rfl
 | .node l r,o,j,h=>by
  have es:(Tr.node l r).size=l.size+r.size+1:=rfl;have hn:(Tr.node l r).nd o=l.nd o++r.nd (o+l.size)++[.pair (o+l.size-1) (o+l.size+r.size-1)]:=rfl;have ln:=l.ba o;have rn:=r.ba (o+l.size);unfold en;by_cases c1:j < l.size
  ·rw[if_pos c1,hn,AA,AR ∅];exact gI l o j c1
  ·rw[if_neg c1];by_cases c2:j < l.size+r.size
   ·rw[if_pos c2,hn,AA,A1 ∅,AR ∅,ln];exact gI r _ _ ∅
   ·rw[if_neg c2,hn,A1 (by rw[Ai];omega),Ai,ln,rn];have:j-(l.size+r.size)=0:=by omega
    rw[this];rfl
theorem RP:∀(t:Tr) (o j:Nat),j < t.size->(∃x,en t o j=.word x/\be t o j=[o+j])\/∃a b,en t o j=.pair (o+a) (o+b)/\a < j/\b < j/\be t o j=be t o a++be t o b
 | .leaf x,o,j,h=>by
  have:j=0:=by have:j < 1:=h;omega
  subst this;exact .inl ⟨x,rfl,rfl⟩
 | .node l r,o,j,h=>by
  have es:(Tr.node l r).size=l.size+r.size+1:=rfl;have lp:=l.size_pos;have rp:=r.size_pos;by_cases c1:j < l.size
  ·have e1:en (.node l r) o j=en l o j:=by rw[en,if_pos c1]
   have e2:∀k,k < l.size->be (.node l r) o k=be l o k:=λk hk=>by rw[be,if_pos hk]
   rw[e1];rcases RP l o j c1 with⟨x,q1,q2⟩ | ⟨a,b,q1,q2,q3,q4⟩
   ·exact .inl ⟨x,q1,by rw[e2 j c1];exact q2⟩
   ·exact .inr ⟨a,b,q1,q2,q3,by rw[e2 j c1,e2 a ∅,e2 b ∅];exact q4⟩
  ·by_cases c2:j < l.size+r.size
   ·have e1:en (.node l r) o j=en r (o+l.size) (j-l.size):=by rw[en,if_neg c1,if_pos c2]
    have e2:∀k,k < r.size->be (.node l r) o (l.size+k)=be r (o+l.size) k:=λk hk=>by
     rw[be,if_neg ∅,if_pos ∅];congr 1;omega
    have ej:j=l.size+(j-l.size):=by omega
    rw[e1];rcases RP r (o+l.size) (j-l.size) ∅ with⟨x,q1,q2⟩ | ⟨a,b,q1,q2,q3,q4⟩
    ·refine .inl ⟨x,q1,?_⟩;rw[ej,e2 _ ∅,q2];congr 1;omega
    ·refine .inr ⟨l.size+a,l.size+b,?_,by omega,by omega,?_⟩
     ·rw[q1,Bl,Bl]
     ·rw[e2 a ∅,e2 b ∅,ej,e2 _ ∅,q4]
   ·have ej:j=l.size+r.size:=by omega
    refine .inr ⟨l.size-1,l.size+r.size-1,?_,by omega,by omega,?_⟩
    ·rw[en,if_neg c1,if_neg c2];congr 1 <;> omega
    ·rw[be,if_neg c1,if_neg c2,be,if_pos ∅,be,if_neg ∅,if_pos ∅];congr 2;omega
theorem rO:∀(t:Tr) (o j:Nat) (p:V) (ab:O Nat),j < t.size->(j=t.size-1/\kz t o j p=p/\up t o j ab=(o+j)::ab)\/∃a,j < a/\a < t.size/\kz t o j p=.int (o+a:Nat)/\up t o j ab=(o+j)::up t o a ab
 | .leaf x,o,j,p,ab,h=>by
  have:j=0:=by have:j < 1:=h;omega
  subst this;exact .inl ⟨rfl,rfl,rfl⟩
 | .node l r,o,j,p,ab,h=>by
  have es:(Tr.node l r).size=l.size+r.size+1:=rfl;have lp:=l.size_pos;have rp:=r.size_pos;have er:up (.node l r) o (l.size+r.size) ab=(o+l.size+r.size)::ab:=by rw[up,if_neg ∅,if_neg ∅]
  by_cases c1:j < l.size
  ·have e1:kz (.node l r) o j p=kz l o j (.int (o+l.size+r.size:Nat)):=by rw[kz,if_pos c1]
   have e2:∀k,k < l.size->up (.node l r) o k ab=up l o k ((o+l.size+r.size)::ab):=λk hk=>by rw[up,if_pos hk]
   rw[e1,e2 j c1];rcases rO l o j (.int (o+l.size+r.size:Nat)) ((o+l.size+r.size)::ab) c1 with⟨q1,q2,q3⟩ | ⟨a,q1,q2,q3,q4⟩
   ·refine .inr ⟨l.size+r.size,by omega,by omega,by rw[q2,Bl],by rw[q3,er]⟩
   ·exact .inr ⟨a,q1,by omega,q3,by rw[q4,e2 a q2]⟩
  ·by_cases c2:j < l.size+r.size
   ·have e1:kz (.node l r) o j p=kz r (o+l.size) (j-l.size) (.int (o+l.size+r.size:Nat)):=by rw[kz,if_neg c1,if_pos c2]
    have e2:∀k,k < r.size->up (.node l r) o (l.size+k) ab=up r (o+l.size) k ((o+l.size+r.size)::ab):=λk hk=>by
     rw[up,if_neg ∅,if_pos ∅];congr 1;omega
    obtain⟨i,rfl⟩:∃i,j=l.size+i:=⟨j-l.size,by omega⟩;have ei:l.size+i-l.size=i:=by omega
    rw[e1,e2 i ∅,ei];rcases rO r (o+l.size) i (.int (o+l.size+r.size:Nat)) ((o+l.size+r.size)::ab) ∅ with⟨q1,q2,q3⟩ | ⟨a,q1,q2,q3,q4⟩
    ·refine .inr ⟨l.size+r.size,by omega,by omega,by rw[q2,Bl],by rw[q3,er,Bl]⟩
    ·exact .inr ⟨l.size+a,by omega,by omega,by rw[q3,Bl],by rw[q4,e2 a q2,Bl]⟩
   ·have ej:j=l.size+r.size:=by omega
    refine .inl ⟨by omega,by rw[kz,if_neg c1,if_neg c2],?_⟩;rw[ej,er,Bl]
def mz:Tr->Nat->V->O V
 | .leaf _,_,p=>[p]
 | .node l r,o,p=>mz l o (.int (o+l.size+r.size:Nat))++mz r (o+l.size) (.int (o+l.size+r.size:Nat))++[p]
theorem jY:∀(t:Tr) (o:Nat) (p:V),(mz t o p).length=t.size
 | .leaf _,_,_=>rfl
 | .node l r,o,p=>by
  unfold mz;rw[Ai,Ai,jY l,jY r];rfl
theorem L3(t:Tr)(o:Nat)(p q:V)(A B:O V):(A++mz t o p++B).set (A.length+t.size-1) q=A++mz t o q++B:=by
 have key:∃I,mz t o p=I++[p]/\mz t o q=I++[q]:=by
  cases t with
  | leaf _=>exact⟨[],rfl,rfl⟩
  | node l r=>exact⟨_,rfl,rfl⟩
 obtain⟨I,e1,e2⟩:=key;have h1:=jY t o p;rw[e1,Ai]at h1;have gR:I.length+1=t.size:=h1;rw[e1,e2];have ei:A.length+t.size-1=(A++I).length:=by rw[Ai];omega
 rw[ei,show A++(I++[p])++B=(A++I)++p::B by simp,List.set_append_right _ _ (Am _),CF];simp
theorem RV:∀(es fs:O Ent) (i:Nat) (l:O V),ah (es++fs) i l=ah fs (i+es.length) (ah es i l)
 | [],fs,i,l=>rfl
 | e::es,fs,i,l=>by
  show ah (es++fs) (i+1) (RX l i e)=ah fs (i+(es.length+1)) (ah es (i+1) (RX l i e));rw[RV es fs];congr 1;omega
theorem J9:∀(t:Tr) (A B:O V),ah (t.nd A.length) A.length (A++An t.size .ax++B)=A++mz t A.length .ax++B
 | .leaf x,A,B=>rfl
 | .node l r,A,B=>by
  have es:(Tr.node l r).size=l.size+r.size+1:=rfl;have hn:(Tr.node l r).nd A.length=l.nd A.length++r.nd (A.length+l.size)++[.pair (A.length+l.size-1) (A.length+l.size+r.size-1)]:=rfl;have ln:=l.ba A.length;have rn:=r.ba (A.length+l.size);have h1:=J9 l A (An r.size .ax++([V.ax]++B));have e0:A++An (Tr.node l r).size V.ax++B=A++An l.size .ax++(An r.size .ax++([V.ax]++B)):=by
   rw[es,<- Ds,<- Ds];simp only[AA];rfl
  rw[hn,y6,RV,e0,h1,ln];have la:(A++mz l A.length V.ax).length=A.length+l.size:=by rw[Ai,jY]
  have h2:=J9 r (A++mz l A.length V.ax) ([V.ax]++B);rw[la]at h2;have e1:A++mz l A.length V.ax++(An r.size V.ax++([V.ax]++B))=A++mz l A.length V.ax++An r.size V.ax++([V.ax]++B):=by simp[AA]
  rw[e1,h2,Ai,ln,rn];show((_:O V).set (A.length+l.size-1) _).set (A.length+l.size+r.size-1) _=_;have s1:=L3 l A.length .ax (.int (A.length+(l.size+r.size):Nat)) A (mz r (A.length+l.size) V.ax++([V.ax]++B));have e2:A++mz l A.length V.ax++mz r (A.length+l.size) V.ax++([V.ax]++B)=A++mz l A.length V.ax++(mz r (A.length+l.size) V.ax++([V.ax]++B)):=by simp[AA]
  rw[e2,s1];have lb:(A++mz l A.length (V.int (A.length+(l.size+r.size):Nat))).length=A.length+l.size:=by rw[Ai,jY]
  have s2:=L3 r (A.length+l.size) .ax (.int (A.length+(l.size+r.size):Nat)) (A++mz l A.length (V.int (A.length+(l.size+r.size):Nat))) ([V.ax]++B);rw[lb]at s2;have e3:A++mz l A.length (V.int (A.length+(l.size+r.size):Nat))++(mz r (A.length+l.size) V.ax++([V.ax]++B))=A++mz l A.length (V.int (A.length+(l.size+r.size):Nat))++mz r (A.length+l.size) V.ax++([V.ax]++B):=by simp[AA]
  rw[e3,s2];have e4:mz (.node l r) A.length .ax=mz l A.length (.int (A.length+l.size+r.size:Nat))++mz r (A.length+l.size) (.int (A.length+l.size+r.size:Nat))++[.ax]:=rfl;rw[e4,Bl A.length l.size r.size];simp[AA]
theorem yY:∀(t:Tr) (o j:Nat) (p:V),j < t.size->(mz t o p)[j]?=ap (kz t o j p)
 | .leaf x,o,j,p,h=>by
  have:j=0:=by have:j < 1:=h;omega
  subst this;rfl
 | .node l r,o,j,p,h=>by
  have es:(Tr.node l r).size=l.size+r.size+1:=rfl;have ln:=jY l o (.int (o+l.size+r.size:Nat));have rn:=jY r (o+l.size) (.int (o+l.size+r.size:Nat));unfold mz kz;by_cases c1:j < l.size
  ·rw[if_pos c1,AA,AR ∅];exact yY l _ _ _ c1
  ·rw[if_neg c1];by_cases c2:j < l.size+r.size
   ·rw[if_pos c2,AA,A1 ∅,AR ∅,ln];exact yY r _ _ _ ∅
   ·rw[if_neg c2,A1 (by rw[Ai];omega),Ai,ln,rn];have:j-(l.size+r.size)=0:=by omega
    rw[this];rfl
def ZA(t:Tr)(h:j < t.size):(ah (t.nd 0) 0 (An t.size .ax))[j]?=ap (kz t 0 j .ax):=by
 have q:=J9 t [] [];have e:([]:O V)++An t.size .ax++[]=An t.size .ax:=by simp
 have e2:([]:O V)++mz t ([]:O V).length .ax++[]=mz t 0 .ax:=by simp
 rw[e,e2]at q;have q':ah (t.nd 0) 0 (An t.size .ax)=mz t 0 .ax:=q;rw[q'];exact yY t 0 j .ax h
end My
variable{H1:L2.Hp}{ι:O BD}
namespace PL
section
variable{K:Ab}
def WE(K:Ab)(H:Hp)(a:ce)(xs:O V):Prop:=(∃o,H a=ap (.cq o (.lst xs)))\/
  ∃(o:Obj) (ao:Array bn) (n:Nat),K.lookup a=ap o/\o.cls=.type "list"/\o.dict=bm/\o.data=.seq ao n/\ao.size<=sizeLine/\Vals xs ao.toList
def WE.sq{a:ce}(h:WE K H a xs):c6 K H a xs:=h.elim (λh=>.inl (.inr h)) .inr
structure bh(K:Ab)(H H':Hp):Prop where
 t:∀p vs,H p=ap (.tup vs)->H' p=ap (.tup vs)
 z:∀p o u,H p=ap (.cq o u)->H' p=ap (.cq o u)
def bh.f{H H':Hp}(t:bh K H H')(p:ce)(vs:O V)(h:WE K H p vs):WE K H' p vs:=h.elim (λ⟨o,h⟩=>.inl ⟨o,t.z _ _ _ h⟩) .inr
def bh.refl(H:Hp):bh K H H:=⟨λ_ _ h=>h,λ_ _ _ h=>h⟩
def bh.trans(a:bh K H H1)(b:bh K H1 H2):bh K H H2:=⟨λp vs h=>b.t p vs (a.t p vs h),λp o w h=>b.z p o w (a.z p o w h)⟩
def _root_.L2.lE.d6(s:lE H H'):bh K H H':=⟨λp vs h=>s _ _ h,λp o u h=>s _ _ h⟩
inductive PV where
 | ax | bl (b:Bool) | int (i:Int) | str (x:Str) | tup (l:List PV) | ref (n:Nat) | ty (n:String) | cl (l:List PV) | dv (ks vs:List PV)
def kP:Key->PV
 | .inl i=>.int i
 | .inr x=>.str x
inductive PO where
 | lst (xs:List PV) | dk (kvs:List (Key×PV)) | dt (kvs:List (List Key×PV)) | opq (φ:List V->Prop)
abbrev PH:=O PO
abbrev zy:=O (Option PV)
mutual
inductive VR(K:Ab)(ι:List ce)(H:Hp):V->PV->Prop
 | ax:VR K ι H .ax .ax
 | bl (b:Bool):VR K ι H (.bl b) (.bl b)
 | int (i:Int):VR K ι H (.int i) (.int i)
 | str (x:Str):VR K ι H (.str x) (.str x)
 | ty (n:String):VR K ι H (.ty n) (.ty n)
 | tup {p:ce}{vs:List V}{l:List PV} (h:H p=ap (.tup vs)) (r:ay K ι H vs l):VR K ι H (.ref p) (.tup l)
 | ref {n:Nat}{a:ce} (h:ι[n]?=ap a):VR K ι H (.ref a) (.ref n)
 | cl {a:ce}{vs:List V}{l:List PV} (h:WE K H a vs) (r:ay K ι H vs l):VR K ι H (.ref a) (.cl l)
 | dk {a:ce}{o:Obj}{kvs:List (Key×V)}{ks l:List PV} (h:H a=ap (.cq o (.dK kvs))) (e:ks=kvs.map λkv=>kP kv.1) (r:ay K ι H (kvs.map (·.2)) l):VR K ι H (.ref a) (.dv ks l)
 | dt {a:ce}{o:Obj}{kvs:List (List Key×V)}{ks l:List PV} (h:H a=ap (.cq o (.dT kvs))) (e:ks=kvs.map λkv=>.tup (kv.1.map kP)) (r:ay K ι H (kvs.map (·.2)) l):VR K ι H (.ref a) (.dv ks l)
inductive ay(K:Ab)(ι:List ce)(H:Hp):List V->List PV->Prop
 | nil:ay K ι H [] []
 | cons {v:V}{p:PV}{vs:List V}{ps:List PV} (r:VR K ι H v p) (t:ay K ι H vs ps):ay K ι H (v::vs) (p::ps)
end
section
variable{ι':O ce}
mutual
theorem VR.mono(ht:bh K H H')(hi:∀(n:Nat) (a:ce),ι[n]?=ap a->ι'[n]?=ap a):∀{v:V}{p:PV},VR K ι H v p->VR K ι' H' v p
 | _,_,.ax=>.ax
 | _,_,.bl b=>.bl b
 | _,_,.int i=>.int i
 | _,_,.str x=>.str x
 | _,_,.ty n=>.ty n
 | _,_,.tup h r=>.tup (ht.t _ _ h) (ay.mono ht hi r)
 | _,_,.cl h r=>.cl (ht.f _ _ h) (ay.mono ht hi r)
 | _,_,.dk h e r=>.dk (ht.z _ _ _ h) e (ay.mono ht hi r)
 | _,_,.dt h e r=>.dt (ht.z _ _ _ h) e (ay.mono ht hi r)
 | _,_,.ref h=>.ref (hi _ _ h)
theorem ay.mono(ht:bh K H H')(hi:∀(n:Nat) (a:ce),ι[n]?=ap a->ι'[n]?=ap a):∀{vs:O V}{ps:O PV},ay K ι H vs ps->ay K ι' H' vs ps
 | _,_,.nil=>.nil
 | _,_,.cons r t=>.cons (VR.mono ht hi r) (ay.mono ht hi t)
end
theorem ay.length:∀{vs:O V}{ps:O PV},ay K ι H vs ps->vs.length=ps.length
 | _,_,.nil=>rfl
 | _,_,.cons _ t=>by rw[Ar,Ar,ay.length t]
theorem ay.get:∀{vs:O V}{ps:O PV}{i:Nat}{p:PV},ay K ι H vs ps->ps[i]?=ap p->∃v,vs[i]?=ap v/\VR K ι H v p
 | _,_,_,_,.nil,e=>by simp at e
 | _,_,0,_,.cons r _,e=>by simp at e;subst e;exact⟨_,rfl,r⟩
 | _,_,i+1,p,.cons _ t,e=>by
  obtain⟨v,h1,h2⟩:=ay.get (i:=i) (p:=p) t (by simpa using e);exact⟨v,by simpa using h1,h2⟩
theorem ay.acC:∀{vs:O V}{ps:O PV}{i:Nat}{v:V},ay K ι H vs ps->vs[i]?=ap v->∃p,ps[i]?=ap p/\VR K ι H v p
 | _,_,_,_,.nil,e=>by simp at e
 | _,_,0,_,.cons r _,e=>by simp at e;subst e;exact⟨_,rfl,r⟩
 | _,_,i+1,p,.cons _ t,e=>by
  obtain⟨v,h1,h2⟩:=ay.acC (i:=i) (v:=p) t (by simpa using e);exact⟨v,by simpa using h1,h2⟩
theorem ay.set{p:PV}(r:VR K ι H v p):∀{vs:O V}{ps:O PV} (i:Nat),ay K ι H vs ps->ay K ι H (vs.set i v) (ps.set i p)
 | _,_,_,.nil=>.nil
 | _,_,0,.cons _ t=>.cons r t
 | _,_,i+1,.cons q t=>.cons q (ay.set r i t)
theorem ay.append:∀{xs ys:O V}{us ws:O PV},ay K ι H xs us->ay K ι H ys ws->ay K ι H (xs++ys) (us++ws)
 | _,_,_,_,.nil,s=>s
 | _,_,_,_,.cons r t,s=>.cons r (ay.append t s)
theorem ay.take:∀{xs:O V}{us:O PV} (n:Nat),ay K ι H xs us->ay K ι H (xs.take n) (us.take n)
 | _,_,0,_=>.nil
 | _,_,_+1,.nil=>.nil
 | _,_,n+1,.cons r t=>.cons r (ay.take n t)
theorem ay.drop:∀{xs:O V}{us:O PV} (n:Nat),ay K ι H xs us->ay K ι H (xs.drop n) (us.drop n)
 | _,_,0,r=>r
 | _,_,_+1,.nil=>.nil
 | _,_,n+1,.cons _ t=>ay.drop n t
theorem ay.reverse:∀{xs:O V}{us:O PV},ay K ι H xs us->ay K ι H xs.reverse us.reverse
 | _,_,.nil=>.nil
 | _,_,.cons r t=>by rw[CT,CT];exact(ay.reverse t).append (.cons r .nil)
def ay.one{p:PV}(r:VR K ι H v p):ay K ι H [v] [p]:=.cons r .nil
end
structure Go(ι ι':List ce)(H H':Hp):Prop where
 ext:∃m,ι'=ι++m
 new:∀a,a∈ι'->a∉ι->H a=bm
 keep:∀a o,a∉ι->H a=ap o->H' a=ap o
def Go.refl(ι:O ce)(H:Hp):Go ι ι H H:=⟨⟨[],by simp⟩,λa h n=>absurd h n,λ_ _ _ h=>h⟩
def OR(K:Ab)(ι:O ce)(H:Hp)(a:ce):PO->Prop
 | .lst xs=>∃vs,H a=ap (.lst vs)/\ay K ι H vs xs
 | .dk kvs=>∃vs:O (Key×V),H a=ap (.dK vs)/\vs.map (·.1)=kvs.map (·.1)/\ay K ι H (vs.map (·.2)) (kvs.map (·.2))
 | .dt kvs=>∃vs:O (O Key×V),H a=ap (.dT vs)/\vs.map (·.1)=kvs.map (·.1)/\ay K ι H (vs.map (·.2)) (kvs.map (·.2))
 | .opq φ=>∃vs,H a=ap (.lst vs)/\φ vs
structure HR(K:Ab)(ι:List ce)(H:Hp)(h:PH):Prop where
 nd:ι.Nodup
 len:ι.length=h.length
 obj:∀(n:Nat) (a:ce) (o:PO),ι[n]?=ap a->h[n]?=ap o->OR K ι H a o
end
end PL
variable{e:BX}
namespace PL
section
variable{K:Ab}
abbrev QV:=PV->PH->Prop
structure ME where
 run:zy->PH->QV->Prop
 mono:∀{ps h}{Q Q':QV},(∀v h',Q v h'->Q' v h')->run ps h Q->run ps h Q'
structure MT where
 run:zy->PH->(Bool->PH->Prop)->Prop
 mono:∀{ps h}{Q Q':Bool->PH->Prop},(∀v h',Q v h'->Q' v h')->run ps h Q->run ps h Q'
structure MA where
 run:zy->PH->(List PV->PH->Prop)->Prop
 mono:∀{ps h}{Q Q':List PV->PH->Prop},(∀v h',Q v h'->Q' v h')->run ps h Q->run ps h Q'
structure ML where
 run:zy->PH->(List PV->PH->Prop)->Prop
 mono:∀{ps h}{Q Q':List PV->PH->Prop},(∀v h',Q v h'->Q' v h')->run ps h Q->run ps h Q'
structure Src where
 items:List PV
 ok:PH->Prop
 fz:Bool
structure MI where
 run:zy->PH->(Src->PH->Prop)->Prop
 mono:∀{ps h}{Q Q':Src->PH->Prop},(∀v h',Q v h'->Q' v h')->run ps h Q->run ps h Q'
structure PD where
 nx:zy->PH->Prop
 rt:QV
 bk:zy->PH->Prop
 ct:zy->PH->Prop
structure PD.Le(D D':PD):Prop where
 nx:∀ps h,D.nx ps h->D'.nx ps h
 rt:∀v h,D.rt v h->D'.rt v h
 bk:∀ps h,D.bk ps h->D'.bk ps h
 ct:∀ps h,D.ct ps h->D'.ct ps h
structure MS where
 run:PD->zy->PH->Prop
 mono:∀{D D' ps h},PD.Le D D'->run D ps h->run D' ps h
structure MG where
 run:PV->zy->PH->(zy->PH->Prop)->Prop
 mono:∀{v ps h}{Q Q':zy->PH->Prop},(∀ps h,Q ps h->Q' ps h)->run v ps h Q->run v ps h Q'
def pQ(K:Ab)(ι:O ce)(H:Hp)(Q:VK):QV:=λp h'=>∀ι' v H',Go ι ι' H H'->HR K ι' H' h'->VR K ι' H' v p->Q v H'
def PE.imp{t t':TE}(h:PE X e t)(f:∀σ H Q,t' σ H Q->t σ H Q):PE X e t':=λZ s σ H Q I q=>h Z s σ H Q I (f _ _ _ q)
def PT.imp{t t':TT}(h:PT X e t)(f:∀σ H Q,t' σ H Q->t σ H Q):PT X e t':=λZ s σ H Q I q=>h Z s σ H Q I (f _ _ _ q)
def PW.imp{t t':TT}(h:PW X e t)(f:∀σ H Q,t' σ H Q->t σ H Q):PW X e t':=λw Z s σ H Q I q=>h w Z s σ H Q I (f _ _ _ q)
def PA.imp{e:O kw}{t t':TA}(h:PA X e t)(f:∀σ H Q,t' σ H Q->t σ H Q):PA X e t':=λpos Z s σ H Q I q=>h pos Z s σ H Q I (f _ _ _ q)
def PS.imp{e:ss}{t t':TS}(h:PS X e t)(f:∀D σ H,t' D σ H->t D σ H):PS X e t':=λZ s σ H D I q=>h Z s σ H D I (f _ _ _ q)
def rE.imp{e:O ss}{t t':TS}(h:rE X e t)(f:∀D σ H,t' D σ H->t D σ H):rE X e t':=λZ s σ H D I q=>h Z s σ H D I (f _ _ _ q)
def PG.imp{t t':TG}(h:PG X e t)(f:∀v σ H Q,t' v σ H Q->t v σ H Q):PG X e t':=λZ s σ H v u Q I r q=>h Z s σ H v u Q I r (f _ _ _ _ q)
def PI.imp{t t':TI}(h:PI X tg e t)(f:∀σ H Q,t' σ H Q->t σ H Q):PI X tg e t':=λZ s σ H R I q=>h Z s σ H R I (f _ _ _ q)
section
abbrev P2:=PV->PV->PH->QV->Prop
structure M2 where
 f:P2
 mono:∀{x y h}{Q Q':QV},(∀v h',Q v h'->Q' v h')->f x y h Q->f x y h Q'
def M2.Ok(K:Ab)(r:R2)(m:M2):Prop:=∀{ι H h u v x y Q},HR K ι H h->VR K ι H u x->VR K ι H v y->m.f x y h (pQ K ι H Q)->r u v H Q
end
end
section
variable{K:Ab}
section
def kN:∀{vs:O V}{l:O PV},ay K ι H vs l->(!l.isEmpty)=!vs.isEmpty
 | _,_,.nil=>rfl
 | _,_,.cons _ _=>rfl
structure MQ where
 run:zy->PH->(Src->PH->Prop)->Prop
 mono:∀{ps h}{Q Q':Src->PH->Prop},(∀v h',Q v h'->Q' v h')->run ps h Q->run ps h Q'
end
end
section
structure MGs where
 run:List PV->zy->PH->(zy->PH->Prop)->Prop
 mono:∀{v ps h}{Q Q':zy->PH->Prop},(∀ps h,Q ps h->Q' ps h)->run v ps h Q->run v ps h Q'
end
section
variable{K:Ab}
section
structure wj where
 f:List PV->PH->QV->Prop
 mono:∀{l h}{Q Q':QV},(∀v h',Q v h'->Q' v h')->f l h Q->f l h Q'
def wj.Ok(K:Ab)(r:O V->Hp->VK->Prop)(m:wj):Prop:=∀{ι H h vs l Q},HR K ι H h->ay K ι H vs l->m.f l h (pQ K ι H Q)->r vs H Q
end
end
end PL
variable{g':Int->Int->L2.V}{g:Int->Int->PL.PV}
namespace PL
section
variable{K:Ab}
def aI(g:Int->Int->PV):M2:=⟨λx y h Q=>match x,y with | .int i,.int j=>Q (g i j) h | _,_=>False,λf q=>by
 revert q
 split
 ·exact f _ _
 ·exact λz=>z⟩
def ZE(C:Int->Int->Prop)(g:Int->Int->PV):M2:=⟨λx y h Q=>match x,y with | .int i,.int j=>C i j/\Q (g i j) h | _,_=>False,λf q=>by
 revert q
 split
 ·exact λq=>⟨q.1,f _ _ q.2⟩
 ·exact λz=>z⟩
def Hv(hg:∀ι H i j,VR K ι H (g' i j) (g i j)):M2.Ok K (S4 g') (aI g):=by
 intro ι H h u v x y Q hr hu hv q;unfold aI at q;dsimp only at q;revert q
 split
 ·intro q;cases hu;cases hv;exact⟨_,_,rfl,rfl,q ι _ H (Go.refl _ _) hr (hg _ _ _ _)⟩
 ·exact Br
def y7{C:Int->Int->Prop}(hg:∀ι H i j,VR K ι H (g' i j) (g i j)):M2.Ok K (rI C g') (ZE C g):=by
 intro ι H h u v x y Q hr hu hv q;unfold ZE at q;dsimp only at q;revert q
 split
 ·intro q;cases hu;cases hv;exact⟨_,_,rfl,rfl,q.1,q.2 ι _ H (Go.refl _ _) hr (hg _ _ _ _)⟩
 ·exact Br
def xa:=aI λi j=>.int (i-j)
def pC:=ZE ww λi j=>.int (i*j)
def oDiv:=ZE N2 λi j=>.int (i / j)
def oMod:=ZE (λ_ j=>0 < j) λi j=>.int (i % j)
def MF:=ZE NZ λi j=>.int (i ^ j.toNat)
def oLt:=aI λi j=>.bl (decide (i < j))
def oLe:=aI λi j=>.bl (decide (i<=j))
def oGt:=aI λi j=>.bl (decide (j < i))
def oGe:=aI λi j=>.bl (decide (j<=i))
section
def ay.jv:∀{vs:O V}{l:O PV},ay K ι H vs l->(vs=[]↔l=[])
 | _,_,.nil=>by simp
 | _,_,.cons _ _=>by simp
end
mutual
def PV.dat:PV->Bool
 | .tup l=>tV l
 | .ref _=>false
 | .ty _=>false
 | .cl _=>false
 | .dv _ _=>false
 | _=>true
def tV:O PV->Bool
 | []=>true
 | x::l=>x.dat&&tV l
end
end
section
variable{K:Ab}
section
def PV.dq:PV->Bool
 | .ax=>true
 | _=>false
def nH:M2:=⟨λx y h Q=>match y with | .ax=>Q (.bl x.dq) h | _=>False,λf q=>by
 revert q
 split
 ·exact f _ _
 ·exact λz=>z⟩
def vj:M2:=⟨λx y h Q=>match y with | .ax=>Q (.bl (!x.dq)) h | _=>False,λf q=>by
 revert q
 split
 ·exact f _ _
 ·exact λz=>z⟩
def vH{x:PV}(h:VR K ι H v x):decide (v=.ax)=x.dq:=by cases h <;> simp[PV.dq]
def TY:M2.Ok K (λx y H Q=>y=.ax/\Q (.bl (decide (x=.ax))) H) nH:=by
 intro ι H h u v x y Q hr hu hv q;cases hv with
 | ax=>exact⟨rfl,q ι _ H (Go.refl _ _) hr (by rw[vH hu];exact .bl _)⟩
 | _=>exact q.elim
def PN:M2.Ok K (λx y H Q=>y=.ax/\Q (.bl (!decide (x=.ax))) H) vj:=by
 intro ι H h u v x y Q hr hu hv q;cases hv with
 | ax=>exact⟨rfl,q ι _ H (Go.refl _ _) hr (by rw[vH hu];exact .bl _)⟩
 | _=>exact q.elim
end
end
end PL
variable{l:O PL.PV}
namespace PL
section
variable{K:Ab}
section
def O3{v':V}{w:bn}(h:RelV v w)(h':RelV v' w):v=v':=Option.some.inj (h.abs.symm.trans h'.abs)
end
section
variable{c:kw}
def mIx(a:MQ)(b:ME):ME:=⟨λps h Q=>a.run ps h λS h1=>b.run ps h1 λy h2=>match y with
 | .int k=>S.ok h2/\match d4 S.items k with | some v=>Q v h2 | none=>False
 | _=>False,λf q=>a.mono (λ_ _ q=>b.mono (λ_ _ q=>by
  revert q
  split
  ·rintro⟨q0,q⟩;refine⟨q0,?_⟩;revert q
   split
   ·exact f _ _
   ·exact λz=>z
  ·exact λz=>z) q) q⟩
def ay.d4(r:ay K ι H vs l){k:Int}{p:PV}(e:L2.d4 l k=ap p):∃v,L2.d4 vs k=ap v/\VR K ι H v p:=by
 unfold L2.d4 at e ⊢;rw[r.length];cases z:vF l.length k with
 | none=>rw[z]at e;cases e
 | some j=>
  rw[z]at e;exact r.get e
def PQ:M2:=⟨λx y h Q=>match x,y with
 | .str z,.int k=>z.length<=sizeLine/\match L2.d4 z.cps.toList k with | some c=>Q (.str ⟨#[c]⟩) h | none=>False
 | _,_=>False,λf q=>by
  revert q
  split
  ·rintro⟨q0,q⟩;refine⟨q0,?_⟩;revert q
   split
   ·exact f _ _
   ·exact λz=>z
  ·exact λz=>z⟩
def TX:M2.Ok K Xy PQ:=by
 intro ι H h u v x y Q hr hu hv q;unfold PQ at q;dsimp only at q;revert q
 split
 ·rename_i z k;rintro⟨q0,q⟩;cases hu;cases hv;cases e:L2.d4 z.cps.toList k with
  | none=>rw[e]at q;exact q.elim
  | some c=>rw[e]at q;exact⟨z,k,c,rfl,rfl,q0,e,q ι _ H (Go.refl _ _) hr (.str _)⟩
 ·exact Br
def cn:wj:=⟨λl h Q=>match l with
 | [.str y]=>y.length<=sizeLine/\Q (.int y.length) h
 | [.tup l]=>Q (.int l.length) h
 | [.cl l]=>Q (.int l.length) h
 | [.ref n]=>match h[n]? with
  | some (.lst xs)=>Q (.int xs.length) h
  | _=>False
 | _=>False,λf q=>by
  revert q
  split
  ·exact λq=>⟨q.1,f _ _ q.2⟩
  ·exact f _ _
  ·exact f _ _
  ·split
   ·exact f _ _
   ·exact λz=>z
  ·exact λz=>z⟩
def Vi(K:Ab):wj.Ok K (Xx K) cn:=by
 intro ι H h vs l Q hr hv q;unfold cn at q;dsimp only at q;revert q
 split
 ·intro q;cases hv with
  | cons x t=>cases t;cases x;exact⟨_,_,rfl,⟨q.1,rfl⟩,q.2 ι _ H (Go.refl _ _) hr (.int _)⟩
 ·intro q;cases hv with
  | cons x t=>
   cases t;cases x with
   | tup e r=>exact⟨_,_,rfl,.inr ⟨_,dj.of e,r.length.symm⟩,q ι _ H (Go.refl _ _) hr (.int _)⟩
 ·intro q;cases hv with
  | cons x t=>
   cases t;cases x with
   | cl e r=>exact⟨_,_,rfl,.inl ⟨_,e.sq,r.length.symm⟩,q ι _ H (Go.refl _ _) hr (.int _)⟩
 ·rename_i n;cases hv with
  | cons x t=>
   cases t;cases x with
   | @ref _ a e=>
   split
   ·rename_i xs hn;intro q;obtain⟨ws,e1,e2⟩:=hr.obj n a _ e hn;exact⟨_,_,rfl,.inl ⟨ws,c6.of e1,e2.length.symm⟩,q ι _ H (Go.refl _ _) hr (.int _)⟩
   ·exact Br
 ·exact Br
inductive Kd where
 | str | tup | int | bool
def Kd.name:Kd->String
 | .str=>"str" | .tup=>"tuple" | .int=>"int" | .bool=>"bool"
def Kd.is:Kd->PV->Bool
 | .str,.str _=>true
 | .tup,.tup _=>true
 | .int,.int _=>true
 | .int,.bl _=>true
 | .bool,.bl _=>true
 | _,_=>false
def abg(K:Ab):O V->Hp->VK->Prop:=λxs H Q=>∃x c t b,xs=[x,.ty c]/\(lB K H x t\/(t=.type "tuple"/\∃a vs,x=.ref a/\dj K H a vs))/\Bo K t (.type c)=ap b/\Q (.bl b) H
def NN(K:Ab)(hK:X.K=K):bL X (.builtin "isinstance") (abg K):=by
 subst hK;intro Z s σ H xs us Q I r h;obtain⟨x,c,t,b,rfl,ty | ⟨rfl,a,vs,rfl,hT⟩,e,q⟩:=h
 ·exact qz Z s σ H _ us Q I r ⟨x,c,t,b,rfl,ty,e,q⟩
 ·obtain⟨u,w,rfl,r1,r2⟩:=vals2 r;cases r1;cases r2;obtain⟨ao,_,⟨o,h1,h2,_⟩,_⟩:=I.tuple hT;exact Ba FK I.vE ⟨o,h1,h2⟩ e (λz=>nomatch z) λtk=>⟨.bl b,H,I.tok _,rfl,q⟩
def rh(K:Ab):(∀k:Kd,Bo K (.type "NoneType") (.type k.name)=ap false)/\(∀k:Kd,Bo K (.type "list") (.type k.name)=ap false)/\(∀k:Kd,Bo K (.type "dict") (.type k.name)=ap false):=
 ⟨λk=>by cases k <;> kernel_rfl,λk=>by cases k <;> kernel_rfl,λk=>by cases k <;> kernel_rfl⟩
def Ys(K:Ab)(b:Bool)(k:Kd):Bo K (.type "bool") (.type k.name)=ap (k.is (.bl b)):=by cases k <;> kernel_rfl
def Uq(K:Ab)(b:Int)(k:Kd):Bo K (.type "int") (.type k.name)=ap (k.is (.int b)):=by cases k <;> kernel_rfl
def Up(K:Ab)(b:Str)(k:Kd):Bo K (.type "str") (.type k.name)=ap (k.is (.str b)):=by cases k <;> kernel_rfl
def Uo(K:Ab)(b:O PV)(k:Kd):Bo K (.type "tuple") (.type k.name)=ap (k.is (.tup b)):=by cases k <;> kernel_rfl
def Hq:wj:=⟨λl h Q=>match l with | [.int i]=>Q (.int (if i < 0 then -i else i)) h | _=>False,λf q=>by
 revert q
 split
 ·exact f _ _
 ·exact λz=>z⟩
def Vk:wj.Ok K (λxs H Q=>∃i,xs=[.int i]/\Q (.int (if i < 0 then -i else i)) H) Hq:=by
 intro ι H h vs l Q hr hv q;unfold Hq at q;dsimp only at q;revert q
 split
 ·intro q;cases hv with
  | cons x t=>cases t;cases x;exact⟨_,rfl,q ι _ H (Go.refl _ _) hr (.int _)⟩
 ·exact Br
def J5:wj:=⟨λl h Q=>match l with | [.int i]=>Q (.int i) h | [.bl k]=>Q (.int (if k then 1 else 0)) h | _=>False,λf q=>by
 revert q
 split
 ·exact f _ _
 ·exact f _ _
 ·exact λz=>z⟩
def Vj:wj.Ok K (λxs H Q=>(∃i,xs=[.int i]/\Q (.int i) H)\/∃k,xs=[.bl k]/\Q (.int (if k then 1 else 0)) H) J5:=by
 intro ι H h vs l Q hr hv q;unfold J5 at q;dsimp only at q;revert q
 split
 ·intro q;cases hv with
  | cons x t=>cases t;cases x;exact .inl ⟨_,rfl,q ι _ H (Go.refl _ _) hr (.int _)⟩
 ·intro q;cases hv with
  | cons x t=>cases t;cases x;exact .inr ⟨_,rfl,q ι _ H (Go.refl _ _) hr (.int _)⟩
 ·exact Br
def NT:wj:=⟨λl h Q=>match l with | [.int i,.int j]=>Q (.int (if j > i then j else i)) h | _=>False,λf q=>by
 revert q
 split
 ·exact f _ _
 ·exact λz=>z⟩
def NS:wj:=⟨λl h Q=>match l with | [.int i,.int j]=>Q (.int (if j < i then j else i)) h | _=>False,λf q=>by
 revert q
 split
 ·exact f _ _
 ·exact λz=>z⟩
def Vh:wj.Ok K (λxs H Q=>∃i j,xs=[.int i,.int j]/\Q (.int (if j > i then j else i)) H) NT:=by
 intro ι H h vs l Q hr hv q;unfold NT at q;dsimp only at q;revert q
 split
 ·intro q;cases hv with
  | cons x t=>cases t with
   | cons y t=>cases t;cases x;cases y;exact⟨_,_,rfl,q ι _ H (Go.refl _ _) hr (.int _)⟩
 ·exact Br
def Vg:wj.Ok K (λxs H Q=>∃i j,xs=[.int i,.int j]/\Q (.int (if j < i then j else i)) H) NS:=by
 intro ι H h vs l Q hr hv q;unfold NS at q;dsimp only at q;revert q
 split
 ·intro q;cases hv with
  | cons x t=>cases t with
   | cons y t=>cases t;cases x;cases y;exact⟨_,_,rfl,q ι _ H (Go.refl _ _) hr (.int _)⟩
 ·exact Br
end
end
end PL
variable{o:BX}
namespace PL
section
variable{K:Ab}
section
def O6(K:Ab):O V->Hp->VK->Prop:=λxs H Q=>∃p ys,xs=[.ref p]/\((c6 K H p ys/\kI H (.tup ys) Q)\/(dj K H p ys/\Q (.ref p) H))
def NJ(K:Ab)(hK:X.K=K):bL X (.type "tuple") (O6 K):=by
 subst hK;exact uV.mono λxs H Q ⟨p,ys,e,h⟩=>⟨p,ys,e,h.imp (λ⟨h1,h2⟩=>⟨h1,λl hl=>h2.at l hl⟩) λz=>z⟩
theorem vV:∀{bs:O Bool}{vs:O V},ay K ι H vs (bs.map PV.bl)->vs=bs.map V.bl
 | [],_,h=>by cases h;rfl
 | b::bs,_,h=>by
  cases h with
  | cons x t=>cases x;rw[vV t];rfl
structure MQL where
 run:zy->PH->(Src->PH->Prop)->Prop
 mono:∀{ps h}{Q Q':Src->PH->Prop},(∀v h',Q v h'->Q' v h')->run ps h Q->run ps h Q'
structure MO where
 run:zy->PH->(Option Int->PH->Prop)->Prop
 mono:∀{ps h}{Q Q':Option Int->PH->Prop},(∀v h',Q v h'->Q' v h')->run ps h Q->run ps h Q'
def PO.imp{e:Option kw}{t t':TO}(h:L2.PO X e t)(f:∀σ H Q,t' σ H Q->t σ H Q):L2.PO X e t':=λZ s σ H Q I q=>h Z s σ H Q I (f _ _ _ q)
def ly(xs:O PV)(lo hi:Option Int):O PV:=(xs.drop (HT.dC xs.length 0 lo)).take (HT.dC xs.length xs.length hi-HT.dC xs.length 0 lo)
def ay.cut(r:ay K ι H vs l)(lo hi:Option Int):ay K ι H (yU vs lo hi) (ly l lo hi):=by
 unfold yU ly;rw[r.length];exact(r.drop _).take _
end
end
end PL
variable{t1:L2.TE}{tp:Cd}
namespace PL
section
variable{K:Ab}
section
variable{c:kw}
def jb(lo:Int)(n:Nat):O PV:=(AL n).map λ(i:Nat)=>.int (lo+(i:Int))
def i9(lo:Int)(n:Nat):(jb lo n).length=n:=by unfold jb;simp
def pR{lo:Int}{p:PV}(h:(jb lo n)[i]?=ap p):i < n/\p=.int (lo+i):=by
 unfold jb at h;rw[Al]at h;cases z:(AL n)[i]? with
 | none=>rw[z]at h;cases h
 | some k=>
  rw[z]at h;obtain⟨h1,h2⟩:=Ak.mp z;simp at h1 h2;subst h2;exact⟨h1,(Option.some.inj h).symm⟩
def qv(lo:Int)(n:Nat):O PV:=(AL n).map λ(i:Nat)=>.int (lo-(i:Int))
def vO(lo:Int)(n:Nat):(qv lo n).length=n:=by unfold qv;simp
def vP{lo:Int}{p:PV}(h:(qv lo n)[i]?=ap p):i < n/\p=.int (lo-i):=by
 unfold qv at h;rw[Al]at h;cases z:(AL n)[i]? with
 | none=>rw[z]at h;cases h
 | some k=>
  rw[z]at h;obtain⟨h1,h2⟩:=Ak.mp z;simp at h1 h2;subst h2;exact⟨h1,(Option.some.inj h).symm⟩
def SS(i:Int):Prop:=-(2 ^ 62)<=i/\i < 2 ^ 62
def adO(m:MA):MI:=⟨λps h Q=>m.run ps h λl h1=>match l with | [.int j]=>SS j/\Q ⟨jb 0 j.toNat,λ_=>True,false⟩ h1 | _=>False,λf q=>m.mono (λl h1 q=>by
 revert q
 split
 ·exact λq=>⟨q.1,f _ _ q.2⟩
 ·exact λz=>z) q⟩
def dH(k:Nat):O PV->O PV
 | []=>[]
 | x::l=>.tup [.int (k:Int),x]::dH (k+1) l
theorem cz:∀(k:Nat) (l:O PV),(dH k l).length=l.length
 | _,[]=>rfl
 | k,x::l=>by rw[dH,Ar,Ar,cz]
theorem gz:∀{k:Nat}{l:O PV}{i:Nat}{p:PV},(dH k l)[i]?=ap p->∃x,l[i]?=ap x/\p=.tup [.int ((k+i:Nat):Int),x]
 | _,[],_,_,h=>by simp[dH]at h
 | k,x::l,0,p,h=>by simp[dH]at h;subst h;exact⟨x,rfl,by simp⟩
 | k,x::l,i+1,p,h=>by
  obtain⟨y,h1,h2⟩:=gz (k:=k+1) (l:=l) (i:=i) (p:=p) (by simpa[dH]using h);exact⟨y,by simpa using h1,by rw[h2,show k+1+i=k+(i+1) by omega]⟩
def YH(K:Ab)(t1:TE):TI:=λσ H R=>t1 σ H λx H1=>∃a,x=.ref a/\(((∃xs,c6 K H1 a xs)/\R (adn K a) H1)\/((∃xs,dj K H1 a xs)/\R (Ite K a) H1))
def Pp{X:Cx}(K:Ab)(hK:X.K=K){e1:kw}{kk:Nat}(hg:Gl X "enumerate")(hm:X.mg "enumerate"=bm)(h1:PE X e1 t1)
  (HM:gZ X e1 []:=by rfl):PI X (.Tuple Î kk tp) (.Call (.Name "enumerate" p1) [e1] [] p2) (YH K t1):=by
 subst hK;intro Z s σ H R I h;refine BE (iD I hg hm boot_enumerate ?_ ⋯ ⋯);refine Bi ?_ HM rfl;rw[HM];refine Cj (bV (h1 Z s σ H _ I h) λu1 s1 ⟨x,H1,I1,r1,a,ex,hh⟩=>CP ?_);subst ex;cases r1;have d1:s1.heap.objs.size+1≠s1.heap.objs.size:=Nat.succ_ne_self _;rcases hh with⟨⟨xs,hx⟩,q⟩ | ⟨⟨xs,hx⟩,q⟩
 ·obtain⟨ao,rx,tx,_⟩:=I1.list hx;refine call_enumerate_list tx.isList λh' ze hi _ k=>?_;refine Dm ze ?_;refine⟨_,_,_,_,H1,rfl,I1.kept (t':=s1.toks) k,Ia d1,⟨⟨_,ze⟩,hi⟩,λc hc=>?_,q⟩;have Ù:s1.heap.objs.size<=c:=by
   simp only[Ax,A2,or_false]at hc;rcases hc with rfl | rfl
   ·exact BF _ _
   ·exact Am _
  exact I1.yh Ù (I1.br.fresh Ù)
 ·obtain⟨ao,rx,tx,_⟩:=I1.tuple hx;have l1:=let ⟨_,e,_⟩:=tx;Au e;refine J2 tx λh' ze hi k=>?_;refine Dm ze ?_;refine⟨_,_,_,_,H1,rfl,I1.kept (t':=s1.toks) k,Mb d1 (AB (AJ l1 (BF _ 1))) (AB l1),⟨⟨_,ze⟩,hi⟩,λc hc=>?_,q⟩;have Ù:s1.heap.objs.size<=c:=by
   simp only[Ax,A2,or_false]at hc;rcases hc with rfl | rfl
   ·exact BF _ _
   ·exact Am _
  exact I1.yh Ù (I1.br.fresh Ù)
def eR:O PV->O PV->O PV
 | x::l,y::m=>.tup [x,y]::eR l m
 | _,_=>[]
theorem rG:∀{l m:O PV}{i:Nat}{p:PV},(eR l m)[i]?=ap p->∃x y,l[i]?=ap x/\m[i]?=ap y/\p=.tup [x,y]
 | [],m,i,p,h=>by simp[eR]at h
 | x::l,[],i,p,h=>by simp[eR]at h
 | x::l,y::m,0,p,h=>by simp[eR]at h;subst h;exact⟨x,y,rfl,rfl,rfl⟩
 | x::l,y::m,i+1,p,h=>by
  obtain⟨u,w,h1,h2,h3⟩:=rG (l:=l) (m:=m) (i:=i) (p:=p) (by simpa[eR]using h);exact⟨u,w,by simpa using h1,by simpa using h2,h3⟩
end
end
end PL
variable{op:PySem.CmpOp}{p3 p4:Cd}
namespace PL
section
variable{K:Ab}
section
structure JC(X:Cx)(K:Ab)(op:CmpOp)(b:kw)(m:M2):Prop where
 p:∃r,iR X (o0 op) r/\M2.Ok K r m
 k:r9 op b=false
def Qv:JC X K .Lt b oLt:=⟨⟨_,abx,Hv λ_ _ _ _=>.bl _⟩,ju _⟩
def Wa:JC X K .LtE b oLe:=⟨⟨_,aby,Hv λ_ _ _ _=>.bl _⟩,ju _⟩
def ab0:JC X K .Gt b oGt:=⟨⟨_,abz,Hv λ_ _ _ _=>.bl _⟩,ju _⟩
def ab1:JC X K .GtE b oGe:=⟨⟨_,abA,Hv λ_ _ _ _=>.bl _⟩,ju _⟩
def kL:JC X K .Is b nH:=⟨⟨_,X1,TY⟩,ju _⟩
def Ls:JC X K .IsNot b vj:=⟨⟨_,Tz,PN⟩,ju _⟩
end
end
theorem Hj:∀{l:O PV},tV l=true↔∀x∈l,x.dat=true
 | []=>by simp[tV]
 | x::l=>by rw[tV,Aw,Hj];simp
section
variable{K:Ab}
section
variable{c:kw}
def Ro(h:ay K ι H vs l):vs.isEmpty=l.isEmpty:=by cases h <;> rfl
def ay.rep(h:ay K ι H vs l):∀k:Nat,ay K ι H (An k vs).flatten (An k l).flatten
 | 0=>.nil
 | k+1=>by
  rw[Bw,Bw,B9,B9];exact h.append (h.rep k)
def O7:V->O V->Hp->VK->Prop:=λx vs H Q=>∃(l:ce) (ns:O Int) (k:Int),x=.ref l/\vs=[.int k]/\H l=ap (.lst (ns.map V.int))/\k∈ns/\zE H l (.lst ((ns.erase k).map V.int)) (Q .ax)
theorem ints_get:∀{us:O bn}{ns:O Int},tt us ns->∀(i:Nat) (hi:i < us.length),∃n t,ns[i]?=ap n/\us[i]=.int n t
 | _,_,.nil,i,hi=>by simp at hi
 | _,_,.cons _ _ r,i,hi=>by
  cases i with
  | zero=>exact⟨_,_,rfl,rfl⟩
  | succ i=>exact ints_get r i (by simpa using hi)
theorem QC{k:Int}:∀{ns:O Int}{m:Nat},ns[m]?=ap k->ns.idxOf k<=m
 | [],m,h=>by simp at h
 | a::ns,0,h=>by
  have:a=k:=by simpa using h
  subst this;simp
 | a::ns,m+1,h=>by
  have:=QC (ns:=ns) (m:=m) (by simpa using h);rw[List.idxOf_cons];by_cases c:a=k
  ·have:(a==k)=true:=by simpa using c
   rw[this];exact A8 _
  ·have c2:(a==k)=false:=by simpa using c
   rw[c2];exact Nat.succ_le_succ this
theorem vN(f:α->β):∀(l:List α) (j:Nat),(l.eraseIdx j).map f=(l.map f).eraseIdx j
 | [],_=>rfl
 | a::l,0=>rfl
 | a::l,j+1=>by
  show f a::(l.eraseIdx j).map f=f a::(l.map f).eraseIdx j;rw[vN f l j]
def isK(k:Int):bn->Bool
 | .int a _=>a==k
 | _=>false
def ur(r:Vals vs us):∀j,Vals (vs.eraseIdx j) (us.eraseIdx j):=by
 induction r with
 | nil=>intro j;exact .nil
 | cons h r ih=>
  intro j;cases j with
  | zero=>exact r
  | succ j=>exact .cons h (ih j)
theorem IC:L6 X "list.remove" O7:=by
 intro Z s σ H x vs v us Q I rx rv h;obtain⟨l,ns,k,rfl,rfl,hH,hk,q⟩:=h;cases rx;obtain⟨u,rfl,ru⟩:=rv.one;obtain⟨t,rfl⟩:=ru;obtain⟨z,ao,n,r,hl,e⟩:=I.qC hH;have hi:=intsAre_of r;have Á:ns.length=ao.length:=by rw[Af]at hl;omega
 have hj:=BH hk;have hej:ns.erase k=ns.eraseIdx (ns.idxOf k):=by rw[List.erase_eq_eraseIdx_of_idxOf rfl]
 refine sK F.slot_list_remove ⟨_,e,rfl⟩ F.entry_list_remove (F.args_list_remove_2 _ _) (MeetsSeq.list_remove l ao.toArray n (.int k t) (isK k) (λy hy=>?_) (ns.idxOf k) (by rw[Ah];omega) ?_ (λm hm ir=>?_) (by rw[Ah];omega)) ⟨e,?_⟩
 ·have YJ:y∈ao:=by simpa using hy
  obtain⟨i,UN⟩:=B4 YJ;obtain⟨h1,h2⟩:=Ak.mp UN;obtain⟨n',t',g1,g2⟩:=ints_get hi i h1;rw[<- h2,g2];exact MeetsSeq.EqGives.int _ _ _ _
 ·have h1:ns.idxOf k < ao.length:=by omega
  obtain⟨n',t',g1,g2⟩:=ints_get hi (ns.idxOf k) h1;have g3:ns[ns.idxOf k]?=ap k:=by rw[Ad hj,List.getElem_idxOf hj]
  rw[g3]at g1;cases g1;rw[DP,g2];simp[isK]
 ·have h1:m < ao.length:=by rw[Ah]at hm;exact hm
  obtain⟨n',t',g1,g2⟩:=ints_get hi m h1;rw[DP,g2];have:n'≠k:=λz=>by
   subst z;have:=QC g1;omega
  simp[isK,this]
 ·refine⟨.ax,_,I.IJ (its':=ao.eraseIdx (ns.idxOf k)) (ys:=(ns.erase k).map V.int) hH e (by simp[Array.toList_eraseIdxIfInBounds,<- Array.toList_inj]) ?_ ?_,rfl,q.at⟩
  ·rw[hej,vN];exact ur r _
  ·rw[hej,Af,Fy]
   split <;> omega
theorem jF:∀{ns:O Int}{vs:O V},ay K ι H vs (ns.map PV.int)->vs=ns.map V.int
 | [],_,h=>by cases h;rfl
 | b::bs,_,h=>by
  cases h with
  | cons x t=>cases x;rw[jF t];rfl
theorem om(ι:O ce)(H:Hp):∀ns:O Int,ay K ι H (ns.map V.int) (ns.map PV.int)
 | []=>.nil
 | n::ns=>.cons (.int n) (om ι H ns)
def Xr(K:Ab):O V->Hp->VK->Prop:=λxs H Q=>∃(p:ce) (ns:O Int),xs=[.ref p]/\c6 K H p (ns.map V.int)/\ns.length < 64/\∀ms:O Int,ms.Perm ns->ms.Pairwise (·<=·)->kI H (.lst (ms.map V.int)) Q
theorem JZ(K:Ab)(hK:X.K=K):bL X (.builtin "sorted") (Xr K):=by
 subst hK;intro Z s σ H xs us Q I r h;obtain⟨p,ns,rfl,hq,Ă,q⟩:=h;obtain⟨u,rfl,rx⟩:=vals1 r;cases rx;obtain⟨ao,r',pl,hz⟩:=I.list hq;have hi:=intsAre_of r';have hl:=r'.length;rw[Af]at hl hz;refine PyProof.Rows.sorted_ints pl.isList hi ∅ λout ms a1 a2 a3=>?_;obtain⟨e,he⟩:=sortedAll_at s.heap ao out;refine⟨.ref (s.heap.objs.size+1),_,I.laid (t':=s.toks) (λ_ _=>sortedAll_old) (DN _) (show a6 X.prog X.w _ _ _ (.lst (ms.map V.int)) from⟨?_,out.toList,e,oZ a1,?_⟩),rfl,(q ms a2 a3).at _ (I.br.fresh (DN _))⟩
 ·rw[Af,a2.length_eq];exact hz
 ·rw[Array.toArray_toList];exact he
end
end
end PL
variable{xs:Array A6}{a:BD}{o:FW}
namespace L2
def mJ{name:Str}{Q:Option bn->cr->Prop}
  (hx:s.heap.get? a=ap o) (hc:o.cls=.type "list") (ou:o.data=.seq xs k) (hd:o.dict=bm) (aci:Fk (.type "list") name=pure bm) (ach:(["__module__","__name__","__qualname__","__doc__","__annotations__"]:O Str).contains name=false) (hA:A.handled=bm)
  (h:∀h' tk e,Heap.NewExcOf s.heap h' e "AttributeError"->Q bm {s with heap:=h',toks:=tk}) (hsz:name.length+100<=sizeLine:=by size_fits) :
  db (ev prog w) A (getAttr? (.ref a) name) Q E s:=by
 obtain⟨c,dct,dat,sl⟩:=o;simp only at hc ou hd;subst hc ou hd;obtain⟨hp,g,d,tk,os⟩:=s;have hT:∀ą,(⟨hp,g,d,ą,os⟩:cr).TypeIs (.ref a) "list":=λ_=>⟨_,hx,rfl⟩;have f1:=sub_AttributeError;have f3:=Dc.lookup;have f4:=Dc.bind (.ref a);have f5:=am_list_getattr_none
 repeat (any_goals (first | assumption | exact hT _ | ((with_reducible show db _ _ (call (Value.builtin "list.__getattribute__") _ _) _ _ _);refine sK Dc (hT _) am_entry_list_getattribute (F.args_list_getattribute_2 _ _) (meets_getattribute_miss_list a xs k sl name _ aci ach hsz) ⟨hx,hA,λh' ą e vJ=>?_⟩) | wp_step))
 obtain⟨t',u',he⟩:=vJ.there;unfold getattributeRaised
 repeat (any_goals (first | assumption | wp_step))
 exact h _ _ _ vJ.of
end L2
variable{b:BD}{v:A6}
namespace L2
def iw:entryFor table "dict.update.loop"=ap vD.«dict.update.loop»:=entryFor_of_fast (by kernel_rfl)
def hV:plainId "dict.update.loop"=true:=by decide +kernel
section
variable{K:Type}[DecidableEq K]{knd:KeyKind prog w K}
def zr(knd:KeyKind prog w K)(h:lm)(it d:ce)(v:bn)(x:O K×ce×bn):Prop:=
 ∃pa o n,v=.ref pa/\pa≠it/\pa≠d/\x.2.1≠it/\x.2.1≠d/\h.get? pa=ap o/\o.cls=.type "tuple"/\o.data=.seq #[.ref x.2.1,x.2.2] n/\(nn knd).is h x.1 x.2.1
def wA{k:O K}(x:(nn knd).is h k b)(kp:∀o,h.get? b=ap o->h'.get? b=ap o):(nn knd).is h' k b:=by
 obtain⟨o,ao,n,h1,h2⟩:=x;exact⟨o,ao,n,kp _ h1,h2⟩
def zr.keep{d:ce}{x:O K×ce×bn}(p:zr knd h it d v x)(kp:∀b o,b≠it->b≠d->h.get? b=ap o->h'.get? b=ap o):zr knd h' it d v x:=by
 obtain⟨pa,o,n,e,n1,n2,n3,n4,h1,h2,h3,h4⟩:=p;exact⟨pa,o,n,e,n1,n2,n3,n4,kp _ _ n1 n2 h1,h2,h3,wA h4 λo q=>kp _ _ n3 n4 q⟩
def yQ{d:ce}{xs:O (O K×ce×bn)}(m:h.DictOfH (nn knd) d xs)(hd:d≠it)(hx:∀x∈xs,x.2.1≠it)(kp:∀b o,b≠it->h.get? b=ap o->h'.get? b=ap o):h'.DictOfH (nn knd) d xs:=by
 obtain⟨o,es,ep,ho,hc,Ł,he,his,hn⟩:=m;exact⟨o,es,ep,kp _ _ hd ho,hc,Ł,he,λx q=>wA (his x q) λo z=>kp _ _ (hx x q) z,hn⟩
def zL{xs:O (O K×ce×bn)}{k:O K}(hx:∀x∈xs,x.2.1≠it)(hb:b≠it):∀x∈zn xs k b v,x.2.1≠it:=by
 intro x q;unfold zn at q
 split at q
 ·obtain⟨y,hy,rfl⟩:=Av.mp q;have e:(putAt k v y).2.1=y.2.1:=by unfold putAt;split <;> rfl
  rw[e];exact hx y hy
 ·rcases AE.mp q with q | q
  ·exact hx x q
  ·rw[AD.mp q];exact hb
def zM{xs:O (O K×ce×bn)}{k:O K}:(zn xs k b v).length<=xs.length+1:=by
 unfold zn
 split <;> simp
theorem zD(hA:A.handled=bm)(hu:A.units+1 < pc){d l:ce}(hz:items.size+items.size<=sizeLine)(ŀ:d≠it)(hli:l≠it)(hld:l≠d) :
  ∀(k i:Nat) (ys xs:O (O K×ce×bn)) (s:cr),items.size-i=k->i<=items.size->ys.length=items.size-i->xs.length<=i->s.heap.IsListIter it l i->s.heap.IsList l items->s.heap.DictOfH (nn knd) d xs->(∀x∈xs,x.2.1≠it)->
   (∀j x,ys[j]?=ap x->∃v,items[i+j]?=ap v/\zr knd s.heap it d v x)->
   (∀h' tk,h'.DictOfH (nn knd) d (ys.foldl (λa y=>zn a y.1 y.2.1 y.2.2) xs)->(∀b o,b≠it->b≠d->s.heap.get? b=ap o->h'.get? b=ap o)->R (.ok (.ret .none)) {s with heap:=h',toks:=tk})->
   Da (ev prog w) A (.builtin "dict.update.loop" ⟨[.ref d,.ref it,t0 i,.none],[]⟩) R s:=by
 intro k
 induction k with
 | zero=>
  intro i ys xs s hk hi hy hxl Ó hl hd hx hp q;have e0:ys=[]:=B5 ∅;subst e0;refine FS iw ?_;refine Aa (wpAny_pyNext_list_end (A:=A.in1) hA Ó hl (by rw[E3];omega) λh' ex=>?_);have kp:=ex;exact Aa (Ae (Ae (q h' s.toks (yQ hd ŀ hx kp) λb o n1 _ e=>kp b o n1 e)))
 | succ k ih=>
  intro i ys xs s hk hi hy hxl Ó hl hd hx hp q
  match ys,hy,hp,q with
  | [],hy,_,_=>exact absurd hy (by simp only[Bp];omega)
  | y::ys,hy,hp,q=>
  obtain⟨v,hv,pa⟩:=hp 0 y rfl;refine FS iw ?_;refine Aa (wpAny_pyNext_list_item Ó hl (by simpa using hv) λh1 ago sb=>?_);have Um:∀b o,b≠it->s.heap.get? b=ap o->h1.get? b=ap o:=λb o hb e=>(sb.2 b hb).trans e;have pa1:=pa.keep λb o n1 _ e=>Um b o n1 e;have ÿ:=yQ hd ŀ hx Um;have ĺ:h1.IsList l items:=let ⟨o,e,p⟩:=hl;⟨o,Um _ _ hli e,p⟩;obtain⟨p,o,n,rfl,n1,n2,n3,n4,g1,g2,g3,g4⟩:=pa1;refine Aa (Bh (Aa (Ed ?_)));refine Aa (CD (T:="tuple") ⟨_,g1,g2⟩ ?_);refine Aa (Bt g1 g3 (Ae ?_));refine Bh (wpAny_dictSet_heap (knd:=nn knd) (tupleKind_room_in1 hu) g4 ÿ (λh2 Ô sb2=>?_) ∅);have ī:∀b o,b≠d->h1.get? b=ap o->h2.get? b=ap o:=λb o hb e=>(sb2.2 b hb).trans e;refine Ae ⟨vv hV _,?_⟩;have kp:∀b o,b≠it->b≠d->s.heap.get? b=ap o->h2.get? b=ap o:=λb o a1 a2 e=>ī _ _ a2 (Um _ _ a1 e);refine ih (i+1) ys (zn xs y.1 y.2.1 y.2.2) _ ∅ ∅ (by rw[Ar]at hy;omega) (Bv zM ∅) ?_ ?_ Ô (zL hx n3) (λj x hj=>?_) (λh' tk dd k3=>?_)
  ·obtain⟨o',e1,e2⟩:=ago;exact⟨o',ī _ _ (Bx ŀ) e1,e2⟩
  ·obtain⟨o',e1,e2⟩:=ĺ;exact⟨o',ī _ _ hld e1,e2⟩
  ·obtain⟨v',h3,h4⟩:=hp (j+1) x hj;exact⟨v',by rw[show i+1+j=i+(j+1) by omega];exact h3,h4.keep kp⟩
  ·exact q h' tk dd λb o a1 a2 e=>k3 b o a1 a2 (kp b o a1 a2 e)
end
def xi:Fk (.type "list") (BJ "keys")=pure bm:=am_miss_of_fast (by decide +kernel)
section
variable{K:Type}[DecidableEq K]{knd:KeyKind prog w K}
theorem qO{l:ce}{ys:O (O K×ce×bn)}(hA:A.handled=bm)(hu:A.units+2 < pc)(ho:s.heap.get? l=ap o)(hc:o.cls=.type "list")(ou:o.data=.seq items n)(hd:o.dict=bm)
  (hz:items.size+items.size<=sizeLine) (hy:ys.length=items.size)
  (hp:∀(j:Nat) (x:O K×ce×bn),ys[j]?=ap x->∃(pa:ce) (op:Obj) (m:Nat),items[j]?=ap (Az pa)/\s.heap.get? pa=ap op/\op.cls=.type "tuple"/\op.data=.seq #[Az x.2.1,x.2.2] m/\(nn knd).is s.heap x.1 x.2.1)
  (q:∀h' tk,(∀b o,s.heap.get? b=ap o->h'.get? b=ap o)->h'.DictOfH (nn knd) s.heap.objs.size (ys.foldl (λa y=>zn a y.1 y.2.1 y.2.2) [])->Q (.ref s.heap.objs.size) {s with heap:=h',toks:=tk}) :
  db (ev prog w) A (call (.type "dict") [.ref l]) Q E s:=by
 refine callType_codes (Q₁:=λobj s₁=>obj=.ref s.heap.objs.size/\s₁={s with heap:=s.heap.push {cls:=.type "dict",data:=.dict #[]}}) F.kt_called_dict (F.kt_typeCall_dict_1 _) F.entry_dict_init (kt_code_dict_new _ ⟨rfl,rfl⟩) ?_;rintro obj s₁ ⟨rfl,rfl⟩;have ď:∀b o,s.heap.get? b=ap o->(s.heap.push {cls:=.type "dict",data:=.dict #[]}).get? b=ap o:=λb o e=>Ag _ e;have UL:(s.heap.push {cls:=.type "dict",data:=.dict #[]}).DictOf knd s.heap.objs.size []:=Heap.DictOf.new s.heap;have acg:(s.heap.push {cls:=.type "dict",data:=.dict #[]}).DictOfH (nn knd) s.heap.objs.size []:=⟨_,#[],0,Aq _ rfl,⟨rfl,rfl,rfl⟩,rfl,rfl,λx hx=>absurd hx (A2),Ej⟩;have ls:∀b o,s.heap.get? b=ap o->b≠s.heap.objs.size:=λb o e z=>by subst z;exact AX _ (Au e)
 refine⟨UL.typeIs,F.args_dict_init_2 _ _,?_⟩;refine Aa ?_;refine Aa (wpAny_notOrdered_dict UL.typeIs ?_);refine Ae ?_;refine Aa (CD (T:="list") ⟨_,ď _ _ ho,hc⟩ ?_);refine Aa (mJ (ď _ _ ho) hc ou hd xi (by decide +kernel) hA (λh1 tk e nx=>?_) ⋯);refine Aa (CZ (Aa ?_));refine CS (items:=items) ⟨_,nx.keeps _ _ (ď _ _ ho),hc,n,ou⟩ ?_;have hsz:=Au (nx.keeps _ _ (Aq s.heap rfl));have Um:∀b o,s.heap.get? b=ap o->(h1.push {cls:=.type "list_iterator",data:=.fields #[.ref l,.int 0 0]}).get? b=ap o:=λb o e=>Ag _ (nx.keeps _ _ (ď _ _ e));have ni:∀b o,s.heap.get? b=ap o->b≠h1.objs.size:=λb o e z=>by
  have h3:=Au e;subst z;exact AX _ (EW h3 hsz)
 refine Ae ⟨vv hV _,?_⟩;refine zD (A:=A.in1) (knd:=knd) hA (by show A.units+1+1 < _;omega) (items:=items) (d:=s.heap.objs.size) (it:=h1.objs.size) (l:=l) hz (AB hsz) (ni _ _ ho) (ls _ _ ho) items.size 0 ys [] _ (FQ _) (A8 _) (by rw[hy];rfl) (Am _)
  ⟨_,Aq _ rfl,rfl,rfl⟩ ⟨_,Um _ _ ho,hc,n,ou⟩ ?_ (λx hx=>nomatch hx) (λj x hj=>?_) (λh' ą dd kp=>?_)
 ·refine yQ (it:=h1.objs.size) acg (AB hsz) (λx hx=>nomatch hx) λb o _ e=>Ag _ (nx.keeps _ _ e)
 ·obtain⟨pa,op,m,e1,e2,e3,e4,e5⟩:=hp j x hj;have kb:∃ob,s.heap.get? x.2.1=ap ob:=let ⟨ob,_,_,z,_⟩:=e5;⟨ob,z⟩;obtain⟨ob,eb⟩:=kb;exact⟨.ref pa,by rw[AH];exact e1,pa,op,m,rfl,ni _ _ e2,ls _ _ e2,ni _ _ eb,ls _ _ eb,Um _ _ e2,e3,e4,wA e5 λo z=>Um _ _ z⟩
 ·exact⟨rfl,q h' ą (λb o e=>kp b o (ni _ _ e) (ls _ _ e) (Um _ _ e)) dd⟩
end
structure Pz where
 pa:ce
 k:List Key
 b:ce
 v:V
def Pz.At(H:Hp)(z:Pz):Prop:=H z.pa=ap (.tup [.ref z.b,z.v])/\H z.b=ap (.tup (z.k.map kV))
def XB(K:Ab):O V->Hp->VK->Prop:=λxs H Q=>∃(p:ce) (zs:O Pz),xs=[.ref p]/\c6 K H p (zs.map λz=>.ref z.pa)/\(∀z∈zs,z.At H)/\(zs.map (·.k)).Nodup/\zs.length<=1000/\kI H (.dT (zs.map λz=>(z.k,z.v))) Q
theorem qp{K:Type}[DecidableEq K]:∀(ys xs:O (K×ce×bn)),((xs++ys).map (·.1)).Nodup->ys.foldl (λa y=>zn a y.1 y.2.1 y.2.2) xs=xs++ys
 | [],xs,_=>by simp
 | y::ys,xs,h=>by
  have hn:atKey xs y.1=bm:=by
   cases e:atKey xs y.1 with
   | none=>rfl
   | some p=>
    exfalso;rw[AO,Ap]at h;have h2:=(List.nodup_append.mp h).2.2;have hm:y.1∈xs.map (·.1):=by
     by_cases hc:y.1∈xs.map (·.1)
     ·exact hc
     ·rw[atKey_none_of_get (λj q hj=>?_)]at e
      ·cases e
      ·exact hc (Av.mpr ⟨_,Be hj,rfl⟩)
    exact h2 _ hm _ Bu rfl
  rw[Df,storedH_new hn,qp ys (xs++[(y.1,y.2.1,y.2.2)]) (by simpa using h)];simp
section
theorem J3(K:Ab)(hK:X.K=K)(hc:X.calm=true)(hu:X.A.units+2 < pc):bL X (.type "dict") (XB K):=by
 subst hK;intro Z s σ H xs us Q I r h;obtain⟨p,zs,rfl,hq,hz,hn,hl,q⟩:=h;obtain⟨u,rfl,rx⟩:=vals1 r;cases rx;obtain⟨ao,rv,pl,hsz⟩:=I.list hq;obtain⟨o,n,ho,Z1,hd,ou⟩:=pl;have Ą:∀(zs:O Pz) (ao:O bn),(∀z∈zs,z.At H)->Vals (zs.map λz=>V.ref z.pa) ao->∃ys:O (O Key×ce×bn),ys.map (·.1)=zs.map (·.k)/\KT H (zs.map λz=>(z.k,z.v)) ys/\
   ∀(j:Nat) (x:O Key×ce×bn),ys[j]?=ap x->∃(pa:ce) (op:Obj) (m:Nat),ao[j]?=ap (Az pa)/\s.heap.get? pa=ap op/\op.cls=.type "tuple"/\op.data=.seq #[Az x.2.1,x.2.2] m/\(nn (bG X.prog X.w)).is s.heap x.1 x.2.1:=by
  intro zs
  induction zs with
  | nil=>intro ao _ _;exact⟨[],rfl,.nil,λj x h=>by simp at h⟩
  | cons z zs ih=>
   intro ao ha hv;cases hv with
   | @cons _ u _ us ru rus=>
   cases ru;obtain⟨ys,e1,e2,e3⟩:=ih us (λy hy=>ha y (AZ _ hy)) rus;obtain⟨a1,a2⟩:=ha z Bu;obtain⟨_,its',r',op,h1,h2,m,h3⟩:=(show a6 X.prog X.w H s.heap z.pa (.tup [.ref z.b,z.v]) from I.br _ _ a1);obtain⟨w,rfl,wM⟩:∃w,its'=[Az z.b,w]/\RelV z.v w:=by
    cases r' with
    | cons q1 q2=>cases q1;cases q2 with
     | cons q3 q4=>cases q4;exact⟨_,rfl,q3⟩
   refine⟨(z.k,z.b,w)::ys,by rw[Ap,Ap,e1],.cons ⟨rfl,a2,wM⟩ e2,λj x hj=>?_⟩;cases j with
   | zero=>
    cases hj;exact⟨z.pa,op,m,rfl,h1,h2,h3,xo I.br a2⟩
   | succ j=>exact e3 j x hj
 obtain⟨ys,e1,e2,e3⟩:=Ą zs ao hz rv;have Á:=rv.length;rw[Af]at Á;have Ē:ys.length=zs.length:=by have:=congrArg BR e1;simpa using this
 have hs:(1000:Nat)+1000<=sizeLine:=by decide
 refine qO (knd:=bG X.prog X.w) (items:=ao.toArray) (ys:=ys) (I.ok.hd hc) hu ho Z1 ou hd (by rw[Ah];omega) (by rw[Ah];omega) (λj x hj=>?_) (λh' tk kp dd=>?_)
 ·obtain⟨pa,op,m,g1,g2⟩:=e3 j x hj;exact⟨pa,op,m,by rw[Fj];exact g1,g2⟩
 ·rw[qp ys [] (by rw[Fd,e1];exact hn),Fd]at dd;obtain⟨od,es,ep,Ė,h2,h3,h4,_,h5⟩:=dd;have agz:=beq_eq_false_iff_ne.mpr (Bx (AB I.big));have fr:=I.br.fresh (Am s.heap.objs.size);refine⟨.ref s.heap.objs.size,_,I.laid (t':=tk) kp (Am _) (show a6 X.prog X.w (upd H s.heap.objs.size (.dT (zs.map λz=>(z.k,z.v)))) h' _ (.dT _) from⟨?_,agz,ys,?_,od,es,ep,Ė,h2,h3,h4,h5⟩),rfl,q.at _ fr⟩
  ·rw[Af];exact Bv hl ⋯
  ·refine e2.keeps λc xs ec=>?_;rw[aq (λz=>by subst z;rw[fr]at ec;cases ec)];exact ec
end
end L2
variable{es:Array PySem.DictEntry}{ep:Nat}
namespace L2
section
def Vv(h:lm)(d:ce)(es:Array DictEntry)(ep:Nat):Prop:=∃o,h.get? d=ap o/\o.ExactDict/\o.data=.dict es ep
theorem PU{d:ce}{Q:Option bn->cr->Prop}(Ó:s.heap.IsKeyIter it d i es.size ep)(hm:Vv s.heap d es ep)(hi:i < es.size)
  (q:∀h',h'.IsKeyIter it d (i+1) es.size ep->Cc it s.heap h'->Q (ap es[i].key) {s with heap:=h'}):db (ev prog w) A (pyNext (.ref it)) Q E s:=by
 have ty:=Ó.typeIs;obtain⟨o,ho,hc,hd⟩:=id Ó;obtain⟨od,UK,-,Wk⟩:=hm;have aco:(s.heap.update it (Obj.mapFields (·.setIfInBounds 1 (t0 ((i:Int)+1))))).IsKeyIter it d (i+1) es.size ep:=⟨_,BV _ ho (Fg (Dh hd _)),(Obj.cls_mapFields ..).trans hc,by rw[Dh hd];simp[t0]⟩;refine Aa (De (AV (name:=BJ "__next__") ty BC (Bc BC ty DH ?_ (Dy _))));refine Aa (Ae (Aa (Aa ?_)))
 first | refine Aa (B2 ty (Ae ?_)) | refine Aa (Cp ty (Ae ?_))
 refine Aa (wpAny_fieldsOf ho hd ?_);show db _ _ (if (Az d==AU)=true then _ else _) _ _ s;rw[if_neg (λz:(Az d==AU)=true=>A4 z)];refine Aa (Ae (Aa (Ex UK Wk ?_)));rw[if_neg (by simp)];refine Aa (Ae (Aa (E9 UK Wk ?_)));rw[if_neg (by simp)];refine Ae ?_;have i0:¬((i:Int) < 0):=by omega
 simp only[i0,if_false,A3,C7 hi];refine Aa ?_
 first | refine Aa (B2 ty (Ae ?_)) | refine Aa (Cp ty (Ae ?_))
 refine Aa (wpAny_isOneOf_keyiter ty ?_);show db _ _ (wf (.ref it) 1 (t0 ((i:Int)+1)) >>= _) _ _ s;refine Aa (Ee ho hd (by simp) (Aa (Bh (Aa (wpAny_isOneOf_keyiter (s:={s with heap:=s.heap.update it (Obj.mapFields (·.setIfInBounds 1 (t0 ((i:Int)+1))))}) aco.typeIs ?_)))));exact Ae (Ae ⟨_,rfl,Ae (q _ aco (Cc.update ..))⟩)
theorem U1{d:ce}{Q:Option bn->cr->Prop}(hh:A.handled=bm)(Ó:s.heap.IsKeyIter it d i es.size ep)(hm:Vv s.heap d es ep)(hi:es.size<=i)
  (q:∀h',FY it s.heap h'->Q bm {s with heap:=h'}):db (ev prog w) A (pyNext (.ref it)) Q E s:=by
 have ty:=Ó.typeIs;obtain⟨o,ho,hc,hd⟩:=id Ó;obtain⟨od,UK,-,Wk⟩:=hm;refine Aa (De (AV (name:=BJ "__next__") ty BC (Bc BC ty DH ?_ (Dy _))));refine Aa (Ae (Aa (Aa ?_)))
 first | refine Aa (B2 ty (Ae ?_)) | refine Aa (Cp ty (Ae ?_))
 refine Aa (wpAny_fieldsOf ho hd ?_);show db _ _ (if (Az d==AU)=true then _ else _) _ _ s;rw[if_neg (λz:(Az d==AU)=true=>A4 z)];refine Aa (Ae (Aa (Ex UK Wk ?_)));rw[if_neg (by simp)];refine Aa (Ae (Aa (E9 UK Wk ?_)));rw[if_neg (by simp)];refine Ae ?_;have i0:¬((i:Int) < 0):=by omega
 simp only[i0,if_false,A3,E3 hi];refine Aa ?_
 first | refine Aa (B2 ty (Ae ?_)) | refine Aa (Cp ty (Ae ?_))
 show db _ _ (wf (.ref it) 0 .none >>= _) _ _ s;refine Aa (Ee ho hd (by simp) ?_);refine Aa ?_;refine Aa (AQ (Aa (m:=firstArgMember _ _) (Cy (a:=AU) (by first | rfl | (simp only[firstArgMember];rfl)) (AQ ?_ (by size_fits)))) (by size_fits));unfold raiseNew;refine Aa (wpAny_handled ?_);rw[show A.in1.handled=bm from hh];refine Aa (Ae (wpAny_throw ?_));refine Aa (DA (T:="StopIteration") (b:=true) ⟨_,Aq _ rfl,rfl⟩ isSubtype_stop ?_);exact Ae (q _ (((Cc.update ..).extBut.push _).push _))
def Qx{d:ce}(hs:(d==re)=false)(hm:Vv s.heap d es ep)
  (q:Q (.ref s.heap.objs.size) {s with heap:=s.heap.push {cls:=.type "dict_keyiterator",data:=.fields #[.ref d,.int 0 0,.int es.size 0,.int ep 0]}}):db (ev prog w) A (pyIter (.ref d)) Q E s:=by
 obtain⟨od,UK,hx,Wk⟩:=hm;have ty:s.TypeIs (.ref d) "dict":=⟨_,UK,hx.1⟩;refine wpAny_pyIter_slot ty F.slot_dict_iter (Bc F.slot_dict_iter ty F.entry_dict_iter ?_ (F.args_dict_iter_1 _));refine Aa ?_;refine Aa (wpAny_notOrdered_dict ty ?_);refine Ae ?_;show db _ _ (Builtin.Dict.showsAll d >>= _) _ _ s;unfold Builtin.Dict.showsAll;rw[if_neg (by rw[hs];exact A4)];refine Aa (Ae (Aa (Ex UK Wk (Aa (E9 UK Wk ?_)))));exact Aa (AQ (Ae ⟨_,rfl,"dict_keyiterator",_,⟨_,Aq _ rfl,rfl⟩,BC.lookup,q⟩))
end
end L2
variable{u:L2.HO}
namespace L2
section
variable{σ:St}
def Inv.freeze(I:Inv X Z σ H s)(e:H a=ap (.dT kvs)):∃o,Inv X Z σ (upd H a (.cq o (.dT kvs))) s:=by
 obtain⟨z,hs,xs,r,o,es,ep,h1,h2,h3,h4,h5⟩:=(show a6 X.prog X.w H s.heap a (.dT kvs) from I.br a _ e);refine⟨o,?_⟩;have q:=I.write (x:=a) (e:=a) (o:=.cq o (.dT kvs)) (h':=s.heap) (t':=s.toks) (by rw[e];exact Cg) (.inl rfl) (λb u _ z=>z) ⟨o,h1⟩
  ⟨h1,z,hs,xs,KT.keeps r λb ys eb=>by rw[aq (Li eb e (λz=>nomatch z))];exact eb,o,es,ep,h1,h2,h3,h4,h5⟩
 exact q
def Inv.ae4(I:Inv X Z σ H s)(e:H a=ap (.cq o u))(h0:∀o u,X.H₀ a≠ap (.cq o u))(hu:a6 X.prog X.w (upd H a u) s.heap a u)(br:lY X.prog X.w (upd H a u) s.heap):Inv X Z σ (upd H a u) s:=by
 have ne:∀b v,H b=v->v≠ap (.cq o u)->b≠a:=λb v q n z=>by subst z;exact n (q.symm.trans e)
 refine⟨I.ok,I.os,I.bare,⟨I.base.keep,I.base.slot,λb ob q n hx=>?_,I.base.there,λb xs q=>?_,λb ob xs q=>?_,λb ps q=>?_⟩,I.loc,I.cell,?_,λx c q=>?_,λp hp=>?_,br,I.len⟩
 ·have:=I.base.free b ob q n hx;rw[aq (ne b _ this (by simp))];exact this
 ·have:=I.base.d7 b xs q;rw[aq (ne b _ this (by simp))];exact this
 ·have:=I.base.tD b ob xs q;have hb:b≠a:=λz=>by subst z;exact h0 _ _ q
  rw[aq hb];exact this
 ·obtain⟨m,this⟩:=I.base.wC b ps q;exact⟨m,by rw[aq (ne b _ this (by simp))];exact this⟩
 ·rw[aq (ne _ _ I.free (by simp))];exact I.free
 ·rw[aq (ne _ _ (I.kj x c q) (by simp))];exact I.kj x c q
 ·obtain⟨p1,p2,p3⟩:=I.pin p hp;exact⟨p1,by rw[aq (ne _ _ p2 (by simp))];exact p2,p3⟩
def QG(ok:lY P w H h)(e:H a=ap (.cq o u)):lY P w (upd H a u) h:=λb u' q=>by
 have ne:∀c v,H c=ap v->v≠.cq o u->upd H a u c=ap v:=λc v z n=>by
  rw[aq (λy=>by subst y;rw[e]at z;cases z;exact n rfl)];exact z
 by_cases hb:b=a
 ·subst hb;rw[aM]at q;cases q;exact a6.wG (ok b _ e).2 (λ_ _ _ z=>z) (λc z=>ne c _ z (by simp)) λc xs z=>ne c _ z (by simp)
 ·rw[aq hb]at q;exact a6.wG (ok b _ q) (λ_ _ _ z=>z) (λc z=>ne c _ z (by simp)) λc xs z=>ne c _ z (by simp)
end
def ado(a:ce)(o:Obj):It:=
 ⟨λi H=>∃kvs,H a=ap (.cq o (.dT kvs))/\i < kvs.length,λi H x H'=>H'=H/\∀kvs,H a=ap (.cq o (.dT kvs))->∃b k v,x=.ref b/\kvs[i]?=ap (k,v)/\H b=ap (.tup (k.map kV)),λi H=>∃kvs,H a=ap (.cq o (.dT kvs))/\kvs.length<=i⟩
theorem QW(x:a6 P w H h a (.cq o (.dT kvs)))(hd:o.data=.dict es ep) :
  Vv h a es ep/\es.size=kvs.length/\∀(i:Nat) (hi:i < es.size),∃b k v,es[i].key=.ref b/\kvs[i]?=ap (k,v)/\H b=ap (.tup (k.map kV)):=by
 obtain⟨e,z,hs,xs,r,o',Ĝ,ĝ,h1,h2,h3,h4,h5⟩:=x;rw[e]at h1;cases h1;rw[hd]at h3;cases h3;have hl:es.size=xs.length:=by have:=congrArg BR h4;simpa using this
 refine⟨⟨o,e,h2,hd⟩,hl.trans (Paired.length r).symm,λi hi=>?_⟩;have hx:xs[i]?=ap (xs[i]'∅):=Ad _;have pg:∀{l:O (O Key×V)}{m:O (O Key×ce×bn)}{i:Nat}{q:O Key×ce×bn},KT H l m->m[i]?=ap q->∃v,l[i]?=ap (q.1,v)/\H q.2.1=ap (.tup (q.1.map kV)):=by
  intro l m i q t
  induction t generalizing i with
  | nil=>intro h;simp at h
  | @cons p q' ps qs hq t ih=>
   intro h;cases i with
   | zero=>
    cases h;obtain⟨p1,p2⟩:=p;have e1:=hq.1;subst e1;exact⟨p2,rfl,hq.2.1⟩
   | succ i=>exact ih (by simpa using h)
 obtain⟨v,g1,g2⟩:=pg r hx;refine⟨_,_,v,?_,g1,g2⟩;have:es[i]=entryOfKey (nn (bG P w)) (xs[i]'∅):=by
  have h6:es.toList[i]?=ap (entryOfKey (nn (bG P w)) (xs[i]'∅)):=by rw[h4,Al,hx];rfl
  rw[Dx,C7 hi]at h6;exact Option.some.inj h6
 rw[this];rfl
theorem Mc{K:Ab}(a it:ce)(o:Obj)(hd:o.data=.dict es ep):Turn P w K tg (ado a o) [it] it (λi h=>h.IsKeyIter it a i es.size ep) where
 mem:=by simp
 obj:=λi h st b hb=>by
  have e:b=it:=by simpa using hb
  subst e;obtain⟨o,e,c,d⟩:=st;exact⟨o,e,λv z=>by rw[d]at z;cases z⟩
 keep:=λi h h' st k=>st.at λo e=>k it (by simp) o e
 item:=by
  intro X hP hw hK hc i Z s σ H E I hf st hg;subst hP hw hK;obtain⟨kvs,hq,hx⟩:=hg;obtain⟨Ĩ,hl,ky⟩:=QW (I.br a _ hq) hd;obtain⟨b,k,v,k1,k2,k3⟩:=ky i ∅;obtain⟨f0,f1,f2,f3,f4,f5⟩:=hf it (by simp);refine PU st Ĩ ∅ λh' qU sb=>?_;have I1:Inv X Z σ H {s with heap:=h'}:=I.turned (t':=s.toks) (λb o hb e=>(sb.2 b hb).trans e) f0 f1 f3 f4 f5;obtain⟨oi,e,c,d⟩:=id qU;refine⟨_,rfl,GL (s:={s with heap:=h'}) e c d ⋯ ⟨.ref b,H,I1,k1,⟨rfl,λajE Ė=>?_⟩,qU,λb hb=>(hf b hb).1⟩⟩;rw[hq]at Ė;cases Ė;exact⟨b,k,v,rfl,k2,k3⟩
 done:=by
  intro X hP hw hK hc i Z s σ H E I hf st hg;obtain⟨kvs,hq,hx⟩:=hg;obtain⟨Ĩ,hl,ky⟩:=QW (I.br a _ hq) hd;obtain⟨f0,f1,f2,f3,f4,f5⟩:=hf it (by simp);exact U1 (I.ok.hd hc) st Ĩ ∅ λh' eb=>⟨rfl,I.turned (t':=s.toks) (λb o hb e=>eb b o hb e) f0 f1 f3 f4 f5⟩
 self:=λ_ _ _ _ _ st h=>wpAny_pyIter_keyiter st h
def YI(tl:TE):TI:=λσ H R=>tl σ H λx H1=>∃a o kvs,x=.ref a/\H1 a=ap (.cq o (.dT kvs))/\R (ado a o) H1
def Pq{l:kw}(hl:PE X l tl):PI X tg l (YI tl):=by
 intro Z s σ H R I h;refine bV (hl Z s σ H _ I h) λv s1 ⟨x,H1,I1,r1,q1⟩=>?_;obtain⟨a,o,kvs,e,hq,q⟩:=q1;subst e;cases r1;obtain⟨eo,z,hs,xs,r,o',es,ep,h1,h2,h3,h4,h5⟩:=(show a6 X.prog X.w H1 s1.heap a (.cq o (.dT kvs)) from I1.br a _ hq);rw[eo]at h1;cases h1;refine Qx hs ⟨o,eo,h2,h3⟩ ?_;refine⟨s1.heap.objs.size,[s1.heap.objs.size],_,_,H1,rfl,I1.kept (t':=s1.toks) λb o e=>Ag _ e,Mc a _ o h3,⟨_,Aq _ rfl,rfl,rfl⟩,λb hb=>?_,q⟩;have e:b=s1.heap.objs.size:=by simpa using hb
 subst e;exact I1.yh (Am _) (I1.br.fresh (Am _))
end L2
variable{v:PL.PV}{φ:O L2.V->Prop}
noncomputable section
namespace FL
section
variable{K:Ab}
structure W(α:Type) where
 run:(α->Prop)->Prop
 mono:∀{Q Q':α->Prop},(∀a,Q a->Q' a)->run Q->run Q'
namespace W
variable{α β γ:Type}
def ext'{a b:W α}(h:∀Q,a.run Q↔b.run Q):a=b:=by
 cases a;cases b;congr;funext Q;exact propext (h Q)
noncomputable def ret(a:α):W α:=⟨λQ=>Q a,λh q=>h _ q⟩
noncomputable def bind(w:W α)(k:α->W β):W β:=⟨λQ=>w.run λa=>(k a).run Q,λh q=>w.mono (λa q=>(k a).mono h q) q⟩
def fail:W α:=⟨λ_=>False,λ_ q=>q⟩
def eQ(p:Prop)(w:W α):W α:=⟨λQ=>p/\w.run Q,λh q=>⟨q.1,w.mono h q.2⟩⟩
def any(p:α->Prop):W α:=⟨λQ=>∀a,p a->Q a,λh q a pa=>h a (q a pa)⟩
def Ld:Option α->W α
 | some a=>ret a
 | none=>fail
@[simp] theorem aa(a:α)(k:α->W β):bind (ret a) k=k a:=(rfl)
@[simp] theorem bind_assoc(w:W α)(f:α->W β)(g:β->W γ):bind (bind w f) g=bind w λa=>bind (f a) g:=(rfl)
@[simp] theorem adf(w:W α):bind w ret=w:=(rfl)
@[simp] theorem Z7(k:α->W β):bind fail k=fail:=(rfl)
@[simp] theorem ai(a:α)(Q:α->Prop):(ret a).run Q=Q a:=(rfl)
@[simp] theorem run_bind(w:W α)(k:α->W β)(Q:β->Prop):(bind w k).run Q=w.run λa=>(k a).run Q:=(rfl)
@[simp] theorem aa2(Q:α->Prop):(fail:W α).run Q=False:=(rfl)
@[simp] theorem adE(p Q:α->Prop):(any p).run Q=∀a,p a->Q a:=(rfl)
@[simp] theorem SW(p:Prop)(w:W α)(Q:α->Prop):(eQ p w).run Q=(p/\w.run Q):=(rfl)
@[simp] theorem RH(p:Prop)(w:W α)(k:α->W β):bind (eQ p w) k=eQ p (bind w k):=(rfl)
def ak{p:Prop}{w:W α}(h:p):eQ p w=w:=ext' λQ=>⟨λq=>q.2,λq=>⟨h,q⟩⟩
@[simp] theorem ac8{w:W α}:eQ True w=w:=ak trivial
@[simp] theorem aO(a:α):Ld (ap a)=ret a:=(rfl)
@[simp] theorem abE:Ld (bm:Option α)=fail:=(rfl)
end W
inductive SL where
 | val (v:PV) | adr (b:ce) | ol (q:Option ce) (l:List PV) | oll (bs:List ce) (ls:List (List PV)) | od (kvs:List (Key×PV)) | ot (kvs:List (List Key×PV)) | kF (φ:List V->Prop)
abbrev bb:=O (Option SL)
def SL.own:SL->Bool
 | .val _=>false
 | .adr _=>false
 | _=>true
def SL.We:SL->O ce
 | .oll bs _=>bs
 | _=>[]
def SL.has(s:SL)(x a:ce):Prop:=a=x\/a∈s.We
def kn(K:Ab)(H:Hp)(a:ce):SL->Prop
 | .val _=>False
 | .adr b=>a=b
 | .oll bs ls=>H a=ap (.lst (bs.map V.ref))/\a∉bs/\bs.Nodup/\bs.length=ls.length/\∀(j:Nat) (b:ce) (l:O PV),bs[j]?=ap b->ls[j]?=ap l->∃ws,H b=ap (.lst ws)/\ay K [] H ws l
 | .ol q l=>(∀b,q=ap b->a=b)/\∃vs,H a=ap (.lst vs)/\ay K [] H vs l
 | .od kvs=>∃vs:O (Key×V),H a=ap (.dK vs)/\vs.map (·.1)=kvs.map (·.1)/\ay K [] H (vs.map (·.2)) (kvs.map (·.2))
 | .ot kvs=>∃vs:O (O Key×V),H a=ap (.dT vs)/\vs.map (·.1)=kvs.map (·.1)/\ay K [] H (vs.map (·.2)) (kvs.map (·.2))
 | .kF φ=>∃vs,H a=ap (.lst vs)/\φ vs
def v9(K:Ab)(H:Hp)(u:V)(s:SL):Prop:=(∃v,s=.val v/\VR K [] H u v)\/∃a,u=.ref a/\kn K H a s
def dJ(σ:L2.St)(fs:bb)(a:ce):Prop:=∃(i:Nat) (s:SL) (x:ce),fs[i]?=ap (ap s)/\s.own=true/\σ[i]?=ap (ap (.ref x))/\s.has x a
def iz(σ:L2.St)(fs:bb)(φ:O V->Prop)(a:ce):Prop:=∃i:Nat,fs[i]?=ap (ap (.kF φ))/\σ[i]?=ap (ap (.ref a))
structure aU(K:Ab)(H:Hp)(σ:L2.St)(fs:bb):Prop where
 len:σ.length=fs.length
 at':∀(i:Nat) (s:SL),fs[i]?=ap (ap s)->∃u,σ[i]?=ap (ap u)/\v9 K H u s
 nd:∀(i j:Nat) (s t:SL) (x y a:ce),fs[i]?=ap (ap s)->fs[j]?=ap (ap t)->s.own=true->t.own=true->σ[i]?=ap (ap (.ref x))->σ[j]?=ap (ap (.ref y))->s.has x a->t.has y a->i=j
structure cM(σ:L2.St)(fs:bb)(H:Hp)(σ':L2.St)(bC:bb)(H':Hp):Prop where
 keep:∀a o,H a=ap o->¬dJ σ fs a->H' a=ap o/\¬dJ σ' bC a
 there:∀a,H' a=bm->H a=bm
 pk:∀a φ,iz σ fs φ a->iz σ' bC φ a\/(¬dJ σ' bC a/\∃vs,H' a=ap (.lst vs)/\φ vs)
structure cO(σ:L2.St)(fs:bb)(H H':Hp):Prop where
 keep:∀a o,H a=ap o->(∀φ,¬iz σ fs φ a)->H' a=ap o
 there:∀a,H' a=bm->H a=bm
section
variable{σ σ' σ1 σ2:L2.St}{fs bC UT cE:bb}{H H' H1 H2:Hp}
def iz.w5(p:iz σ fs φ a):dJ σ fs a:=let ⟨i,e1,e2⟩:=p;⟨i,_,_,e1,rfl,e2,.inl rfl⟩
def cO.refl:cO σ fs H H:=⟨λ_ _ h _=>h,λ_ h=>h⟩
def cO.trans(a:cO σ fs H H1)(b:cO σ fs H1 H2):cO σ fs H H2:=⟨λx o h n=>b.keep x o (a.keep x o h n) n,λx h=>a.there x (b.there x h)⟩
def cO.f(g:cO σ fs H H'):cM σ fs H σ fs H':=⟨λa o h n=>⟨g.keep a o h λφ p=>n p.w5,n⟩,g.there,λa φ p=>.inl p⟩
def cO.vC(g:cO σ fs H H'){o:HO}(h:H a=ap o)(n:¬dJ σ fs a):H' a=ap o:=g.keep a o h λφ p=>n p.w5
def cO.same(h:lE H H'):cO σ fs H H':=⟨λa o e _=>h a o e,λa e=>(by
 cases z:H a with
 | none=>rfl
 | some o=>rw[h a o z]at e;cases e)⟩
def kn.ex{c:ce}{s:SL}(h:kn K H a s)(ho:s.own=true)(hc:s.has a c):∃o,H c=ap o/\(∀vs,o≠.tup vs)/\∀ob u,o≠.cq ob u:=by
 cases s with
 | val _=>exact h.elim
 | adr _=>cases ho
 | ol q l=>obtain⟨_,vs,e,_⟩:=h;rcases hc with rfl | hc;exact⟨_,e,by simp,by simp⟩;cases hc
 | oll bs ls=>
  obtain⟨e,_,_,hl,hb⟩:=h;rcases hc with rfl | hc
  ·exact⟨_,e,by simp,by simp⟩
  ·obtain⟨j,hj⟩:=B4 (show c∈bs from hc);have h1:=(Ak.mp hj).1;obtain⟨ws,e,_⟩:=hb j c _ hj (Ad (by rw[<- hl];exact h1));exact⟨_,e,by simp,by simp⟩
 | od l=>obtain⟨vs,e,_⟩:=h;rcases hc with rfl | hc;exact⟨_,e,by simp,by simp⟩;cases hc
 | ot l=>obtain⟨vs,e,_⟩:=h;rcases hc with rfl | hc;exact⟨_,e,by simp,by simp⟩;cases hc
 | kF l=>obtain⟨vs,e,_⟩:=h;rcases hc with rfl | hc;exact⟨_,e,by simp,by simp⟩;cases hc
def aU.ownAt(s:aU K H σ fs){t:SL}(h1:fs[i]?=ap (ap t))(h2:t.own=true)(h3:σ[i]?=ap (ap (.ref a))):kn K H a t:=by
 obtain⟨u,e,r⟩:=s.at' i t h1;rw[h3]at e;cases e;rcases r with⟨v,rfl,_⟩ | ⟨b,e,r⟩
 ·cases h2
 ·cases e;exact r
def aU.w5(s:aU K H σ fs)(h:dJ σ fs a):∃o,H a=ap o/\(∀vs,o≠.tup vs)/\∀ob u,o≠.cq ob u:=by
 obtain⟨i,t,x,h1,h2,h3,h4⟩:=h;exact(s.ownAt h1 h2 h3).ex h2 h4
def aU.noOwn(s:aU K H σ fs)(h:H a=bm):¬dJ σ fs a:=λz=>by
 obtain⟨o,e,_⟩:=s.w5 z;rw[h]at e;cases e
def aU.Yb(s:aU K H σ fs)(h:H a=ap (.tup vs)):¬dJ σ fs a:=λz=>by
 obtain⟨o,e,n,_⟩:=s.w5 z;rw[h]at e;cases e;exact n vs rfl
def aU.Yc(s:aU K H σ fs)(h:H a=ap (.cq ob u)):¬dJ σ fs a:=λz=>by
 obtain⟨o,e,_,n⟩:=s.w5 z;rw[h]at e;cases e;exact n ob u rfl
def cM.refl:cM σ fs H σ fs H:=⟨λ_ _ h n=>⟨h,n⟩,λ_ h=>h,λ_ _ h=>.inl h⟩
def cM.trans(a:cM σ fs H σ1 UT H1)(b:cM σ1 UT H1 σ2 cE H2):cM σ fs H σ2 cE H2:=
 ⟨λx o h n=>let ⟨h1,n1⟩:=a.keep x o h n;b.keep x o h1 n1,λx h=>a.there x (b.there x h),λx φ h=>(a.pk x φ h).elim (b.pk x φ) λ⟨n,vs,e,p⟩=>.inr (let ⟨h1,n1⟩:=b.keep x _ e n;⟨n1,vs,h1,p⟩)⟩
def cM.d7(g:cM σ fs H σ' bC H')(s:aU K H σ fs):bh K H H':=
 ⟨λa vs h=>(g.keep a _ h (s.Yb h)).1,λa o u h=>(g.keep a _ h (s.Yc h)).1⟩
def VR.tk{u:V}(t:bh K H H')(r:VR K [] H u v):VR K [] H' u v:=r.mono t λ_ _ e=>e
def ay.tk{u:O V}{v:O PV}(t:bh K H H')(r:ay K [] H u v):ay K [] H' u v:=r.mono t λ_ _ e=>e
def cM.vr(g:cM σ fs H σ' bC H')(s:aU K H σ fs){u:V}(r:VR K [] H u v):VR K [] H' u v:=VR.tk (g.d7 s) r
def cO.d7(g:cO σ fs H H')(s:aU K H σ fs):bh K H H':=g.f.d7 s
def cO.vr(g:cO σ fs H H')(s:aU K H σ fs){u:V}(r:VR K [] H u v):VR K [] H' u v:=VR.tk (g.d7 s) r
def cO.Oq(g:cO σ fs H H')(s:aU K H σ fs){u:O V}{v:O PV}(r:ay K [] H u v):ay K [] H' u v:=ay.tk (g.d7 s) r
def kn.mono{s:SL}(t:bh K H H')(e:∀c o,s.own=true->s.has a c->H c=ap o->H' c=ap o)(h:kn K H a s):kn K H' a s:=by
 cases s with
 | val _=>exact h
 | adr _=>exact h
 | ol _ l=>obtain⟨z,vs,q,r⟩:=h;exact⟨z,vs,e _ _ rfl (.inl rfl) q,ay.tk t r⟩
 | oll bs ls=>
  obtain⟨z,h1,h2,h3,h4⟩:=h;refine⟨e _ _ rfl (.inl rfl) z,h1,h2,h3,λj b l hb hl=>?_⟩;obtain⟨ws,q,r⟩:=h4 j b l hb hl;exact⟨ws,e _ _ rfl (.inr (Be hb)) q,ay.tk t r⟩
 | od l=>obtain⟨vs,q,k,r⟩:=h;exact⟨vs,e _ _ rfl (.inl rfl) q,k,ay.tk t r⟩
 | ot l=>obtain⟨vs,q,k,r⟩:=h;exact⟨vs,e _ _ rfl (.inl rfl) q,k,ay.tk t r⟩
 | kF φ=>obtain⟨vs,q,k⟩:=h;exact⟨vs,e _ _ rfl (.inl rfl) q,k⟩
def v9.mono{u:V}{s:SL}(t:bh K H H')(e:∀x a o,u=.ref x->s.own=true->s.has x a->H a=ap o->H' a=ap o)(h:v9 K H u s):v9 K H' u s:=by
 rcases h with⟨v,q,r⟩ | ⟨a,q,r⟩
 ·exact .inl ⟨v,q,VR.tk t r⟩
 ·exact .inr ⟨a,q,r.mono t (λc o z y w=>e a c o q z y w)⟩
def aU.same(s:aU K H σ fs)(h:lE H H'):aU K H' σ fs:=⟨s.len,λi t e=>let ⟨u,h1,h2⟩:=s.at' i t e;⟨u,h1,h2.mono h.d6 (λ_ a o _ _ _ z=>h a o z)⟩,s.nd⟩
def cM.same(h:lE H H')(s:aU K H σ fs):cM σ fs H σ fs H':=⟨λa o e n=>⟨h a o e,n⟩,λa e=>(by
 cases z:H a with
 | none=>rfl
 | some o=>rw[h a o z]at e;cases e),λa φ p=>.inl p⟩
inductive gA:bb->bb->Prop
 | nil:gA [] []
 | drop {s:Option SL}{a b:bb} (h:gA a b):gA (s::a) (bm::b)
 | keep {s:Option SL}{a b:bb} (h:gA a b):gA (s::a) (s::b)
theorem gA.at{a b:bb}(h:gA a b):∀(i:Nat) (s:SL),b[i]?=ap (ap s)->a[i]?=ap (ap s):=by
 induction h with
 | nil=>intro i s e;simp at e
 | drop h ih=>intro i s e;cases i with | zero=>simp at e | succ i=>simp at e ⊢;exact ih i s e
 | keep h ih=>intro i s e;cases i with | zero=>simpa using e | succ i=>simp at e ⊢;exact ih i s e
theorem gA.length{a b:bb}(h:gA a b):a.length=b.length:=by induction h <;> simp_all
theorem gA.refl:∀a:bb,gA a a
 | []=>.nil
 | _::a=>.keep (gA.refl a)
def aU.le(s:aU K H σ fs)(h:gA fs bC):aU K H σ bC:=⟨s.len.trans h.length,λi t e=>s.at' i t (h.at i t e),λi j t u x y a e1 e2=>s.nd i j t u x y a (h.at i t e1) (h.at j u e2)⟩
def dJ.le(h:gA fs bC)(o:dJ σ bC a):dJ σ fs a:=let ⟨i,t,x,e1,e2,e3⟩:=o;⟨i,t,x,h.at i t e1,e2,e3⟩
def cM.le(s:aU K H σ fs)(h:gA fs bC):cM σ fs H σ bC H:=⟨λa o e n=>⟨e,λz=>n (z.le h)⟩,λ_ e=>e,λa φ p=>by
 obtain⟨i,e1,e2⟩:=p;by_cases c:dJ σ bC a
 ·obtain⟨j,t,x,c1,c2,c3,c4⟩:=c;have ij:=s.nd i j _ t a x a e1 (h.at j t c1) rfl c2 e2 c3 (.inl rfl) c4;subst ij;have:=h.at i t c1;rw[e1]at this;cases this;exact .inl ⟨i,c1,e2⟩
 ·obtain⟨vs,q,r⟩:=s.ownAt e1 rfl e2;exact .inr ⟨c,vs,q,r⟩⟩
def cT{l:O (Option α)}{x y:α}(h:(l.set i (ap x))[j]?=ap (ap y)):(j=i/\y=x)\/(j≠i/\l[j]?=ap (ap y)):=by
 by_cases c:j=i
 ·subst c;rw[List.getElem?_set]at h;simp at h;exact .inl ⟨rfl,h.2.symm⟩
 ·rw[B3 (λz=>c z.symm)]at h;exact .inr ⟨c,h⟩
def cH{l:List α}{x:α}(h:i < l.length):(l.set i x)[i]?=ap x:=by rw[List.getElem?_set];simp[h]
def aP{l:List α}{x:α}(h:j≠i):(l.set i x)[j]?=l[j]?:=B3 (λz=>h z.symm)
def aU.put(s:aU K H σ fs){u:V}{t:SL}(hr:v9 K H u t)(hf:∀x a,u=.ref x->t.own=true->t.has x a->∀(j:Nat) (w:SL) (y:ce),j≠i->fs[j]?=ap (ap w)->w.own=true->σ[j]?=ap (ap (.ref y))->¬w.has y a):aU K H (σ.set i (ap u)) (fs.set i (ap t)):=by
 refine⟨by simp[s.len],λj w e=>?_,λj k w x b1 b2 a e1 e2 o1 o2 q1 q2 z1 z2=>?_⟩
 ·rcases cT e with⟨rfl,rfl⟩ | ⟨n,e⟩
  ·have hl:j < σ.length:=by
    have:=(Ak.mp e).1;rw[BQ]at this;rw[s.len];exact this
   exact⟨u,cH hl,hr⟩
  ·obtain⟨v,h1,h2⟩:=s.at' j w e;exact⟨v,by rw[aP n];exact h1,h2⟩
 ·rcases cT e1 with⟨y1,y2⟩ | ⟨n1,f1⟩ <;> rcases cT e2 with⟨y3,y4⟩ | ⟨n2,f2⟩
  ·exact y1.trans y3.symm
  ·subst y1;subst y2;rw[aP n2]at q2;have hl:j < σ.length:=by have:=(Ak.mp q1).1;simpa using this
   rw[cH hl]at q1;cases q1;exact absurd z2 (hf _ a rfl o1 z1 k x b2 n2 f2 o2 q2)
  ·subst y3;subst y4;rw[aP n1]at q1;have hl:k < σ.length:=by have:=(Ak.mp q2).1;simpa using this
   rw[cH hl]at q2;cases q2;exact absurd z1 (hf _ a rfl o2 z2 j w b1 n1 f1 o1 q1)
  ·rw[aP n1]at q1;rw[aP n2]at q2;exact s.nd j k w x b1 b2 a f1 f2 o1 o2 q1 q2 z1 z2
def aU.fy(s:aU K H σ fs){u:V}(hr:VR K [] H u v)(i:Nat):aU K H (σ.set i (ap u)) (fs.set i (ap (.val v))):=s.put (.inl ⟨v,rfl,hr⟩) λ_ _ _ z=>by cases z
def F5{u:V}{t:SL}(o:dJ (σ.set i (ap u)) (fs.set i (ap t)) a)(hl:σ.length=fs.length):dJ σ fs a\/∃x,u=.ref x/\t.own=true/\t.has x a:=by
 obtain⟨j,w,x,e1,e2,e3,e4⟩:=o;rcases cT e1 with⟨rfl,rfl⟩ | ⟨n,e1⟩
 ·have h2:j < σ.length:=by have:=(Ak.mp e3).1;simpa using this
  rw[cH h2]at e3;cases e3;exact .inr ⟨x,rfl,e2,e4⟩
 ·rw[aP n]at e3;exact .inl ⟨j,w,x,e1,e2,e3,e4⟩
def K0(s:aU K H σ fs){u:V}{t:SL}(p:iz σ fs φ a)(hu:∀x,u=.ref x->t.own=true->t.has x a->t=.kF φ):iz (σ.set i (ap u)) (fs.set i (ap t)) φ a\/¬dJ (σ.set i (ap u)) (fs.set i (ap t)) a:=by
 obtain⟨j,e1,e2⟩:=p;by_cases c:j=i
 ·subst c;by_cases c2:∃x,u=.ref x/\t.own=true/\t.has x a
  ·obtain⟨x,c3,c4,c5⟩:=c2;have hl:=(Ak.mp e2).1;have Sd:=(Ak.mp e1).1;have et:=hu x c3 c4 c5;subst et;rcases c5 with rfl | c5
   ·exact .inl ⟨j,by rw[cH Sd],by rw[cH hl,c3]⟩
   ·cases c5
  ·refine .inr λo=>?_;obtain⟨k,w,y,q1,q2,q3,q4⟩:=o;rcases cT q1 with⟨rfl,rfl⟩ | ⟨n,q1⟩
   ·have hl:=(Ak.mp e2).1;rw[cH hl]at q3;cases q3;exact c2 ⟨y,rfl,q2,q4⟩
   ·rw[aP n]at q3;exact n (s.nd k j w _ y a a q1 e1 q2 rfl q3 e2 q4 (.inl rfl))
 ·exact .inl ⟨j,by rw[aP c];exact e1,by rw[aP c];exact e2⟩
def cM.fy(s:aU K H σ fs)(u:V)(v:PV)(i:Nat):cM σ fs H (σ.set i (ap u)) (fs.set i (ap (.val v))) H:=
 ⟨λa o e n=>⟨e,λz=>(F5 z s.len).elim n λ⟨_,_,z,_⟩=>by cases z⟩,λ_ e=>e,λa φ p=>(K0 s p (λ_ _ z=>by cases z)).imp id λn=>⟨n,by
  obtain⟨j,e1,e2⟩:=p;obtain⟨vs,q,r⟩:=s.ownAt e1 rfl e2;exact⟨vs,q,r⟩⟩⟩
def aU.Pf(s:aU K H σ fs){t:SL}(hr:kn K H a t)(hn:∀c,t.has a c->¬dJ σ fs c)(i:Nat):aU K H (σ.set i (ap (.ref a))) (fs.set i (ap t)):=s.put (.inr ⟨a,rfl,hr⟩) λx c e _ hc j w y n e1 e2 e3 z=>by
 cases e;exact hn c hc ⟨j,w,y,e1,e2,e3,z⟩
def xS{t:SL}(hi:t.We=[]){c:ce}(h:t.has a c):c=a:=by
 rcases h with h | h
 ·exact h
 ·rw[hi]at h;cases h
def aU.wQ(s:aU K H σ fs){t:SL}(hr:kn K H a t)(hn:¬dJ σ fs a)(i:Nat)(hi:t.We=[]:=by rfl):aU K H (σ.set i (ap (.ref a))) (fs.set i (ap t)):=s.Pf hr (λc hc=>by rw[xS hi hc];exact hn) i
def cM.Pf(s:aU K H1 σ fs)(g:cM σ fs H σ fs H1){t:SL}(hn:∀c,t.has a c->¬dJ σ fs c)(h0:∀c,t.has a c->H c=bm)(i:Nat):cM σ fs H (σ.set i (ap (.ref a))) (fs.set i (ap t)) H1:=by
 refine⟨λb o e n=>⟨(g.keep b o e n).1,λz=>(F5 z s.len).elim n λ⟨x,z,_,y⟩=>?_⟩,g.there,λb φ p=>?_⟩
 ·cases z;rw[h0 b y]at e;cases e
 ·obtain⟨j,e1,e2⟩:=p;obtain⟨vs,q,r⟩:=s.ownAt e1 rfl e2;refine(K0 (t:=t) s ⟨j,e1,e2⟩ (λx z o y=>?_)).imp id λn=>⟨n,vs,q,r⟩;cases z;exact absurd ⟨j,_,_,e1,rfl,e2,.inl rfl⟩ (hn b y)
def cM.wQ(s:aU K H1 σ fs)(g:cM σ fs H σ fs H1){t:SL}(hn:¬dJ σ fs a)(h0:H a=bm)(i:Nat)(hi:t.We=[]:=by rfl):cM σ fs H (σ.set i (ap (.ref a))) (fs.set i (ap t)) H1:=cM.Pf s g (λc hc=>by rw[xS hi hc];exact hn) (λc hc=>by rw[xS hi hc];exact h0) i
def F6(s:aU K H σ fs){t t':SL}{c:ce}(e1:fs[i]?=ap (ap t))(o:t.own=true)(np:∀φ,t≠.kF φ)(e2:σ[i]?=ap (ap (.ref a)))(hc:t.has a c)(Z1:t'.has a c)(uJ:∀b,t'.has a b->t.has a b)(o':t'.own=true)(sx:oW c H H')(ht:bh K H H'->kn K H' a t'):aU K H' σ (fs.set i (ap t'))/\cM σ fs H σ (fs.set i (ap t')) H':=by
 have oa:=s.ownAt e1 o e2;obtain⟨ob,q,n1,n2⟩:=oa.ex o hc;have tk:bh K H H':=⟨λb vs z=>sx b _ (λy=>by subst y;rw[q]at z;cases z;exact n1 _ rfl) z,λb o u z=>sx b _ (λy=>by subst y;rw[q]at z;cases z;exact n2 _ _ rfl) z⟩;have ZP:=ht tk;have hi:i < fs.length:=(Ak.mp e1).1;have Tw:∀b,dJ σ (fs.set i (ap t')) b->dJ σ fs b:=λb z=>by
  obtain⟨j,w,x,z1,z2,z3,z4⟩:=z;rcases cT z1 with⟨rfl,rfl⟩ | ⟨n,z1⟩
  ·rw[e2]at z3;cases z3;exact⟨j,t,a,e1,o,e2,uJ b z4⟩
  ·exact⟨j,w,x,z1,z2,z3,z4⟩
 refine⟨⟨by simp[s.len],λj w e=>?_,λj k w x b1 b2 b z1 z2 o1 o2 q1 q2 y1 y2=>?_⟩,⟨λb ob e n=>⟨sx b ob (λz=>by subst z;exact n ⟨i,t,a,e1,o,e2,hc⟩) e,λz=>n (Tw b z)⟩,λb e=>?_,λb φ p=>?_⟩⟩
 ·rcases cT e with⟨rfl,rfl⟩ | ⟨n,e⟩
  ·exact⟨_,e2,.inr ⟨a,rfl,ZP⟩⟩
  ·obtain⟨u,h1,h2⟩:=s.at' j w e;refine⟨u,h1,h2.mono tk (λx b ob eb ow hb z=>sx b ob (λy=>?_) z)⟩;subst y;subst eb;exact n (s.nd j i w t x a b e e1 ow o h1 e2 hb hc)
 ·have f:∀{j:Nat}{w:SL}{y:ce},(fs.set i (ap t'))[j]?=ap (ap w)->w.own=true->σ[j]?=ap (ap (.ref y))->w.has y b->∃w',fs[j]?=ap (ap w')/\w'.own=true/\w'.has y b:=λ{j w y} z ow qy hy=>by
   rcases cT z with⟨rfl,rfl⟩ | ⟨n,z⟩
   ·rw[e2]at qy;cases qy;exact⟨t,e1,o,uJ b hy⟩
   ·exact⟨w,z,ow,hy⟩
  obtain⟨w',a1,a2,a3⟩:=f z1 o1 q1 y1;obtain⟨x',c1,c2,c3⟩:=f z2 o2 q2 y2;exact s.nd j k w' x' b1 b2 b a1 c1 a2 c2 q1 q2 a3 c3
 ·cases z:H b with
  | none=>rfl
  | some ob=>
   by_cases cc:b=c
   ·subst cc;obtain⟨o2,y,_⟩:=ZP.ex o' Z1;rw[e]at y;cases y
   ·rw[sx b ob cc z]at e;cases e
 ·obtain⟨j,p1,p2⟩:=p;have ji:j≠i:=λz=>by subst z;rw[e1]at p1;cases p1;exact np φ rfl
  exact .inl ⟨j,by rw[aP ji];exact p1,p2⟩
def eY(s:aU K H σ fs){t t':SL}(e1:fs[i]?=ap (ap t))(o:t.own=true)(np:∀φ,t≠.kF φ)(e2:σ[i]?=ap (ap (.ref a)))(sx:oW a H H')(ht:bh K H H'->kn K H' a t')(hi:t'.We=t.We:=by rfl)(o':t'.own=true:=by rfl):aU K H' σ (fs.set i (ap t'))/\cM σ fs H σ (fs.set i (ap t')) H':=
 F6 s e1 o np e2 (.inl rfl) (.inl rfl) (λb h=>by unfold SL.has at h ⊢;rw[hi]at h;exact h) o' sx ht
end
end
end FL
open FL.W renaming bind→am,ret→bd,run_bind→ci,aa→ii,ai→im,ak→mo,ext'→v4,aO→wS
local macro_rules | `($a\$b)=>`(am (bd $a) $b)
variable{x:B7}{u:L2.V}{o b:BX}{fs bC:FL.bb}{es:O BX}{σ':L2.St}{wa wb wc:FL.W PL.PV}{wl:FL.W (O PL.PV)}
namespace FL
section
variable{K:Ab}
def fE(K:Ab)(fs:bb)(w:W PV):TE:=λσ H Q=>aU K H σ fs/\w.run λv=>∀u H',cO σ fs H H'->aU K H' σ fs->VR K [] H' u v->Q u H'
def fT(K:Ab)(fs:bb)(w:W Bool):TT:=λσ H Q=>aU K H σ fs/\w.run λb=>∀H',cO σ fs H H'->aU K H' σ fs->Q b H'
def fO(K:Ab)(fs:bb)(w:W (Option Int)):TO:=λσ H Q=>aU K H σ fs/\w.run λb=>∀H',cO σ fs H H'->aU K H' σ fs->Q b H'
def fL(K:Ab)(fs:bb)(w:W (O PV)):TE:=λσ H Q=>aU K H σ fs/\w.run λl=>∀a vs H',cO σ fs H H'->aU K H' σ fs->H a=bm->H' a=ap (.lst vs)->ay K [] H' vs l->Q (.ref a) H'
def ZH(K:Ab)(H:Hp)(u:V)(l:O PV):Prop:=∃a vs,u=.ref a/\(WE K H a vs\/H a=ap (.tup vs))/\ay K [] H vs l
def Vu(K:Ab)(σ:L2.St)(fs:bb)(H:Hp)(u:V)(l:O PV):Prop:=ZH K H u l\/∃a,u=.ref a/\((¬dJ σ fs a/\∃vs,H a=ap (.lst vs)/\ay K [] H vs l)\/∃(i:Nat) (q:Option ce),fs[i]?=ap (ap (.ol q l))/\σ[i]?=ap (ap (.ref a)))
def fQ(K:Ab)(fs:bb)(w:W (O PV)):TE:=λσ H Q=>aU K H σ fs/\w.run λl=>∀u H',cO σ fs H H'->aU K H' σ fs->Vu K σ fs H' u l->Q u H'
def fI(K:Ab)(fs:bb)(w:W (O PV)):TE:=λσ H Q=>aU K H σ fs/\w.run λl=>∀u H',cO σ fs H H'->aU K H' σ fs->ZH K H' u l->Q u H'
inductive AK where
 | v | p (φ:List V->Prop) | f (a:ce)
inductive fJ(K:Ab)(σ:L2.St)(fs:bb)(H:Hp):List V->List AK->List PV->Prop
 | nil:fJ K σ fs H [] [] []
 | v {u:V}{x:PV}{vs:List V}{ks:List AK}{l:List PV} (r:VR K [] H u x) (t:fJ K σ fs H vs ks l):fJ K σ fs H (u::vs) (.v::ks) (x::l)
 | p {a:ce}{φ:List V->Prop}{vs:List V}{ks:List AK}{l:List PV} (r:iz σ fs φ a) (t:fJ K σ fs H vs ks l):fJ K σ fs H (.ref a::vs) (.p φ::ks) l
 | f {a:ce}{vs:List V}{ks:List AK}{l:List PV} (t:fJ K σ fs H vs ks l):fJ K σ fs H (.ref a::vs) (.f a::ks) l
def fA(K:Ab)(fs:bb)(ks:O AK)(w:W (O PV)):TA:=λσ H Q=>aU K H σ fs/\w.run λl=>∀vs H',cO σ fs H H'->aU K H' σ fs->fJ K σ fs H' vs ks l->Q vs H'
structure EF(X:Cx)(K:Ab)(fs:bb)(e:kw)(w:W PV):Prop where p:PE X e (fE K fs w)
structure LF(X:Cx)(K:Ab)(fs:bb)(e:kw)(w:W (List PV)):Prop where p:PE X e (fL K fs w)
structure QF(X:Cx)(K:Ab)(fs:bb)(e:kw)(w:W (List PV)):Prop where p:PE X e (fQ K fs w)
structure IF(X:Cx)(K:Ab)(fs:bb)(e:kw)(w:W (List PV)):Prop where p:PE X e (fI K fs w)
structure TF(X:Cx)(K:Ab)(fs:bb)(e:kw)(w:W Bool):Prop where p:PT X e (fT K fs w)
structure zm(X:Cx)(K:Ab)(fs:bb)(e:kw)(w:W Bool):Prop where p:PW X e (fT K fs w)
structure OF(X:Cx)(K:Ab)(fs:bb)(e:Option kw)(w:W (Option Int)):Prop where p:L2.PO X e (fO K fs w)
structure AF(X:Cx)(K:Ab)(fs:bb)(es:List kw)(ks:List AK){R:Type}(B:(List PV->W R)->W R):Prop where
 p:∃w:W (List PV),PA X es (fA K fs ks w)/\∀k,B k=am w k
section
def ZH.tk(t:bh K H H')(h:ZH K H u l):ZH K H' u l:=by
 obtain⟨a,vs,e,q,r⟩:=h;exact⟨a,vs,e,q.imp (t.f _ _) (t.t _ _),ay.tk t r⟩
def Vu.go(h:Vu K σ fs H u l)(s:aU K H σ fs)(g:cO σ fs H H'):Vu K σ fs H' u l:=by
 rcases h with h | ⟨a,e,⟨n,vs,q,r⟩ | q⟩
 ·exact .inl (h.tk (g.d7 s))
 ·exact .inr ⟨a,e,.inl ⟨n,vs,(g.vC q n),g.Oq s r⟩⟩
 ·exact .inr ⟨a,e,.inr q⟩
def Vu.sq(h:Vu K σ fs H u l)(s:aU K H σ fs):∃a vs,u=.ref a/\(c6 K H a vs\/dj K H a vs)/\ay K [] H vs l:=by
 rcases h with⟨a,vs,e,q,r⟩ | ⟨a,e,⟨n,vs,q,r⟩ | ⟨i,_,q1,q2⟩⟩
 ·exact⟨a,vs,e,q.elim (λq=>.inl q.sq) λq=>.inr (dj.of q),r⟩
 ·exact⟨a,vs,e,.inl (c6.of q),r⟩
 ·obtain⟨_,vs,q,r⟩:=s.ownAt q1 rfl q2;exact⟨a,vs,e,.inl (c6.of q),r⟩
end
section
variable{a c:kw}{rest:O kw}{w:W PV}
def ae(i:Nat)(hs:fs[i]?=ap (ap (.val v)):=by rfl)(hN:X.N[i]?=ap x:=by rfl)(hv:zx X.env.scope x:=by first | exact C1 rfl | exact Cq (C1 rfl) | exact Cq (Cq rfl))(hd:jh x:=by decide)(jc:HI x:=by decide):EF X K fs (.Name x pos) (.ret v):=
 ⟨PE.imp (d9 hN hv hd jc) λσ H Q ⟨sr,q⟩=>by
  obtain⟨u,e1,r⟩:=sr.at' i _ hs;rcases r with⟨w,e,r⟩ | ⟨a,_,r⟩
  ·cases e;exact⟨u,e1,q u H .refl sr r⟩
  ·exact r.elim⟩
def Z8{v:V}{p:PV}(hv:∀H,VR K [] H v p)(h:PE X e (tC v)):EF X K fs e (.ret p):=⟨PE.imp h λσ H Q ⟨sr,q⟩=>q v H .refl sr (hv _)⟩
def aj{i j}:EF X K fs (.Constant (.int i) j pos) (.ret (.int i)):=Z8 (λ_=>.int i) XQ
def JP{b j}:EF X K fs (.Constant (.bool b) j pos) (.ret (.bl b)):=Z8 (λ_=>.bl b) abt
def dZ{j}:EF X K fs (.Constant .none j pos) (.ret .ax):=Z8 (λ_=>.ax) Pw
def oD{x j}:EF X K fs (.Constant (.str x) j pos) (.ret (.str x)):=Z8 (λ_=>.str x) XM
def yC{i:Int}{t:Tok}(hm:X.mg x=ap (.int i t))(hg:Gl X x)(hd:jh x:=by decide):EF X K fs (.Name x pos) (.ret (.int i)):=Z8 (λ_=>.int i) (qX hg hm ⟨_,rfl⟩ hd)
def yB{i:Str}{t:Tok}(hm:X.mg x=ap (.str i t))(hg:Gl X x)(hd:jh x:=by decide):EF X K fs (.Name x pos) (.ret (.str i)):=Z8 (λ_=>.str i) (qX hg hm ⟨_,rfl⟩ hd)
def of2(m:M2)(x y:PV):W PV:=⟨λQ=>m.f x y [] λz h=>h=[]/\Q z,λf q=>m.mono (λ_ _ q=>⟨q.1,f _ q.2⟩) q⟩
def hr0(H:Hp):HR K [] H []:=⟨Ej,rfl,λn a o e _=>by simp at e⟩
def pq0{Q:VK}{z:PV}{h:PH}(sr:aU K H σ fs)(q:h=[]/\∀u H',cO σ fs H H'->aU K H' σ fs->VR K [] H' u z->Q u H'):pQ K [] H Q z h:=λι' v H' g r x=>by
 obtain⟨e,q⟩:=q;subst e;have:ι'=[]:=B5 r.len;subst this;have sm:lE H H':=λa o z=>g.keep a o (by simp) z;exact q v H' (cO.same sm) (sr.same sm) x
def X7{r:R2}{m:M2}(hm:M2.Ok K r m){Q:VK}{v:V}{x y:PV}(sr:aU K H σ fs)(hu:VR K [] H u x)(hv:VR K [] H v y)(q:(of2 m x y).run λz=>∀u H',cO σ fs H H'->aU K H' σ fs->VR K [] H' u z->Q u H'):r u v H Q:=
 hm (hr0 H) hu hv (m.mono (λz h q=>pq0 sr q) q)
def LI{r:R2}{m:M2}(hm:M2.Ok K r m):∀σ H Q,fE K fs (.bind wa λx=>.bind wb λy=>of2 m x y) σ H Q->W2 r (fE K fs wa) (fE K fs wb) σ H Q:=λσ H Q ⟨sr,q⟩=>
 ⟨sr,wa.mono (λx q1 u1 H1 g1 s1 v1=>⟨s1,wb.mono (λy q2 u2 H2 g2 s2 v2=>X7 hm s2 (g2.vr s1 v1) v2 ((of2 m x y).mono (λz q u3 H3 g3 s3 v3=>q u3 H3 ((g1.trans g2).trans g3) s3 v3) q2)) q1⟩) q⟩
def Ru{op:Operator}{r:R2}{m:M2}(ho:iR X (sn op) r)(hm:M2.Ok K r m)(ha:EF X K fs a wa)(hb:EF X K fs b wb):EF X K fs (.BinOp a op b pos) (.bind wa λx=>.bind wb λy=>of2 m x y):=⟨PE.imp (K3 ho ha.p hb.p) (LI hm)⟩
def tM(ha:EF X K fs a wa)(hb:EF X K fs b wb):EF X K fs (.BinOp a .Sub b pos) (.bind wa λx=>.bind wb λy=>of2 xa x y):=Ru XW (Hv λ_ _ _ _=>.int _) ha hb
def tN(ha:EF X K fs a wa)(hb:EF X K fs b wb):EF X K fs (.BinOp a .Mult b pos) (.bind wa λx=>.bind wb λy=>of2 pC x y):=Ru TC (y7 λ_ _ _ _=>.int _) ha hb
def Ww(ha:EF X K fs a wa)(hb:EF X K fs b wb):EF X K fs (.BinOp a .FloorDiv b pos) (.bind wa λx=>.bind wb λy=>of2 oDiv x y):=Ru TH (y7 λ_ _ _ _=>.int _) ha hb
def qu(ha:EF X K fs a wa)(hb:EF X K fs b wb):EF X K fs (.BinOp a .Mod b pos) (.bind wa λx=>.bind wb λy=>of2 oMod x y):=Ru X0 (y7 λ_ _ _ _=>.int _) ha hb
def Rt(ha:EF X K fs a wa)(hb:EF X K fs b wb):EF X K fs (.BinOp a .Pow b pos) (.bind wa λx=>.bind wb λy=>of2 MF x y):=Ru XY (y7 λ_ _ _ _=>.int _) ha hb
def IA:PV->W PV
 | .int i=>.ret (.int (-i))
 | _=>.fail
def G8(ha:EF X K fs a wa):EF X K fs (.UnaryOp .USub a pos) (.bind wa IA):=⟨PE.imp (abo WS ha.p) λσ H Q ⟨sr,q⟩=>⟨sr,wa.mono (λx q1 u1 H1 g1 s1 v1=>by
 cases v1 with
 | int i=>exact⟨_,rfl,q1 _ H1 g1 s1 (.int _)⟩
 | _=>exact q1.elim) q⟩⟩
def asB:PV->W Bool
 | .bl b=>.ret b
 | _=>.fail
def kY{m:M2}(hc:JC X K op b m)(ha:EF X K fs a wa)(hb:EF X K fs b wb):EF X K fs (.Compare a [op] [b] pos) (.bind wa λx=>.bind wb λy=>of2 m x y):=let ⟨_,h1,h2⟩:=hc.p;⟨PE.imp (K5 h1 ha.p hb.p hc.k) (LI h2)⟩
def acS{w:W PV}:∀σ H Q,fT K fs (.bind w asB) σ H Q->(fE K fs w) σ H λx H'=>∃k,x=.bl k/\Q k H':=λσ H Q ⟨sr,q⟩=>⟨sr,w.mono (λx q1 u1 H1 g1 s1 v1=>by
 cases v1 with
 | bl b=>exact⟨b,rfl,q1 H1 g1 s1⟩
 | _=>exact q1.elim) q⟩
def cu{m:M2}(hc:JC X K op b m)(ha:EF X K fs a wa)(hb:EF X K fs b wb):TF X K fs (.Compare a [op] [b] pos) (.bind wa λx=>.bind wb λy=>.bind (of2 m x y) asB):=let ⟨_,h1,h2⟩:=hc.p
 ⟨PT.imp (nB h1 ha.p hb.p hc.k) λσ H Q q=>LI h2 σ H _ (acS (w:=.bind wa λx=>.bind wb λy=>of2 m x y) σ H Q q)⟩
def RI(z:PV)(w:W PV):W PV:=match z with
 | .bl true=>w
 | .bl false=>.ret (.bl false)
 | _=>.fail
def Vp(x:PV)(w:W PV):W PV:=match x with
 | .bl true=>w
 | .bl false=>.ret (.bl false)
 | _=>.fail
def orW(x:PV)(w:W PV):W PV:=match x with
 | .bl true=>.ret (.bl true)
 | .bl false=>w
 | _=>.fail
def X9:PV->W PV
 | .bl b=>.ret (.bl (!b))
 | _=>.fail
def tR(ha:EF X K fs a wa)(hb:EF X K fs (.BoolOp .And (b::rest) pos) wb):EF X K fs (.BoolOp .And (a::b::rest) pos) (.bind wa λx=>Vp x wb):=⟨PE.imp (XS ha.p hb.p) λσ H Q ⟨sr,q⟩=>⟨sr,wa.mono (λx q1 u1 H1 g1 s1 v1=>by
 cases v1 with
 | bl k=>
  cases k with
  | true=>exact⟨true,rfl,by rw[if_pos rfl];exact⟨s1,wb.mono (λ_ q u H' g s v=>q u H' (g1.trans g) s v) q1⟩⟩
  | false=>exact⟨false,rfl,by rw[if_neg A4];exact q1 _ H1 g1 s1 (.bl _)⟩
 | _=>exact q1.elim) q⟩⟩
def ag0(ha:EF X K fs a wa)(hb:EF X K fs (.BoolOp .Or (b::rest) pos) wb):EF X K fs (.BoolOp .Or (a::b::rest) pos) (.bind wa λx=>orW x wb):=⟨PE.imp (abp ha.p hb.p) λσ H Q ⟨sr,q⟩=>⟨sr,wa.mono (λx q1 u1 H1 g1 s1 v1=>by
 cases v1 with
 | bl k=>
  cases k with
  | true=>exact⟨true,rfl,by rw[if_pos rfl];exact q1 _ H1 g1 s1 (.bl _)⟩
  | false=>exact⟨false,rfl,by rw[if_neg A4];exact⟨s1,wb.mono (λ_ q u H' g s v=>q u H' (g1.trans g) s v) q1⟩⟩
 | _=>exact q1.elim) q⟩⟩
def qt{op}(h:EF X K fs a wa):EF X K fs (.BoolOp op [a] pos) wa:=⟨XN h.p⟩
def acX(ha:EF X K fs a wa):EF X K fs (.UnaryOp .Not a pos) (.bind wa X9):=⟨PE.imp (XO ha.p) λσ H Q ⟨sr,q⟩=>⟨sr,wa.mono (λx q1 u1 H1 g1 s1 v1=>by
 cases v1 with
 | bl k=>exact⟨_,rfl,q1 _ H1 g1 s1 (.bl _)⟩
 | _=>exact q1.elim) q⟩⟩
variable{ta tb tc:W Bool}
def lH(h:TF X K fs a ta):zm X K fs (.BoolOp .And [a] pos) ta:=⟨S8 h.p⟩
def rQ(h:TF X K fs a ta):zm X K fs (.BoolOp .Or [a] pos) ta:=⟨XC h.p⟩
def o5(ha:TF X K fs a ta)(hb:zm X K fs (.BoolOp .And (b::rest) pos) tb):zm X K fs (.BoolOp .And (a::b::rest) pos) (.bind ta λk=>if k=true then tb else .ret false):=⟨PW.imp (XD ha.p hb.p) λσ H Q ⟨sr,q⟩=>⟨sr,ta.mono (λk q1 H1 g1 s1=>by
 cases k with
 | true=>exact xJ ⟨s1,tb.mono (λ_ q H' g s=>q H' (g1.trans g) s) q1⟩
 | false=>exact xK (q1 H1 g1 s1)) q⟩⟩
def rR(ha:TF X K fs a ta)(hb:zm X K fs (.BoolOp .Or (b::rest) pos) tb):zm X K fs (.BoolOp .Or (a::b::rest) pos) (.bind ta λk=>if k=true then .ret true else tb):=⟨PW.imp (abm ha.p hb.p) λσ H Q ⟨sr,q⟩=>⟨sr,ta.mono (λk q1 H1 g1 s1=>by
 cases k with
 | true=>exact xJ (q1 H1 g1 s1)
 | false=>exact xK ⟨s1,tb.mono (λ_ q H' g s=>q H' (g1.trans g) s) q1⟩) q⟩⟩
def zm.t(h:zm X K fs a ta):TF X K fs a ta:=⟨PW.pt h.p⟩
def qd(ha:TF X K fs a ta):TF X K fs (.UnaryOp .Not a pos) (.bind ta λk=>.ret (!k)):=⟨PT.imp (XE ha.p) λσ H Q ⟨sr,q⟩=>⟨sr,q⟩⟩
def qM(hc:TF X K fs c tc)(ha:EF X K fs a wa)(hb:EF X K fs b wb):EF X K fs (.IfExp c a b pos) (.bind tc λk=>if k=true then wa else wb):=⟨PE.imp (F2 hc.p ha.p hb.p) λσ H Q ⟨sr,q⟩=>⟨sr,tc.mono (λk q1 H1 g1 s1=>by
 cases k with
 | true=>exact xJ ⟨s1,wa.mono (λ_ q u H' g s v=>q u H' (g1.trans g) s v) q1⟩
 | false=>exact xK ⟨s1,wb.mono (λ_ q u H' g s v=>q u H' (g1.trans g) s v) q1⟩) q⟩⟩
def Yo{la lb:W (O PV)}(hc:TF X K fs c tc)(ha:LF X K fs a la)(hb:LF X K fs b lb):LF X K fs (.IfExp c a b pos) (.bind tc λk=>if k=true then la else lb):=⟨PE.imp (F2 hc.p ha.p hb.p) λσ H Q ⟨sr,q⟩=>⟨sr,tc.mono (λk q1 H1 g1 s1=>by
 cases k with
 | true=>exact xJ ⟨s1,la.mono (λ_ q a vs H' g s n e v=>q a vs H' (g1.trans g) s (g1.there a n) e v) q1⟩
 | false=>exact xK ⟨s1,lb.mono (λ_ q a vs H' g s n e v=>q a vs H' (g1.trans g) s (g1.there a n) e v) q1⟩) q⟩⟩
def eU:PV->W Bool
 | .ax=>.ret false
 | .bl b=>.ret b
 | .int i=>.ret (i != 0)
 | .str y=>.eQ (y.length<=sizeLine) (.ret ((y.length:Int) != 0))
 | .tup l=>.ret (!l.isEmpty)
 | .cl l=>.ret (!l.isEmpty)
 | _=>.fail
def dm(hK:X.K=K)(ha:EF X K fs a wa)(he:∀Å,isTrue a X.env Å=(do let v <- Å;standAt a.pos;BT [v] (truthy v))):TF X K fs a (.bind wa eU):=⟨PT.imp (vh K hK ha.p he) λσ H Q ⟨sr,q⟩=>⟨sr,wa.mono (λx q1 u1 H1 g1 s1 v1=>by
 cases v1 with
 | ax=>exact⟨false,rfl,q1 H1 g1 s1⟩
 | bl b=>exact⟨b,rfl,q1 H1 g1 s1⟩
 | int i=>exact⟨_,rfl,q1 H1 g1 s1⟩
 | str y=>exact⟨_,⟨q1.1,rfl⟩,q1.2 H1 g1 s1⟩
 | ty _=>exact q1.elim
 | dk _ _ _=>exact q1.elim
 | dt _ _ _=>exact q1.elim
 | ref _=>exact q1.elim
 | @tup p vs l e rs=>
  refine⟨!vs.isEmpty,.inr (.inl ⟨_,dj.of e,rfl⟩),?_⟩;rw[<- kN rs];exact q1 H1 g1 s1
 | @cl p vs l e rs=>
  refine⟨!vs.isEmpty,.inl ⟨_,e.sq,rfl⟩,?_⟩;rw[<- kN rs];exact q1 H1 g1 s1) q⟩⟩
def aay(hK:X.K=K)(ha:QF X K fs a wl)(he:∀Å,isTrue a X.env Å=(do let v <- Å;standAt a.pos;BT [v] (truthy v))):TF X K fs a (.bind wl λl=>.ret (!l.isEmpty)):=⟨PT.imp (vh K hK ha.p he) λσ H Q ⟨sr,q⟩=>⟨sr,wl.mono (λl q1 u1 H1 g1 s1 v1=>by
 obtain⟨b,vs,rfl,h,rs⟩:=v1.sq s1;refine⟨!vs.isEmpty,?_,?_⟩
 ·exact h.elim (λh=>.inl ⟨_,h,rfl⟩) λh=>.inr (.inl ⟨_,h,rfl⟩)
 ·rw[<- kN rs];exact q1 H1 g1 s1) q⟩⟩
variable{R:Type}{ks:O AK}{B:(O PV->W R)->W R}
def ag:AF X K fs [] [] (R:=R) (λk=>k []):=⟨.ret [],PA.imp bO λσ H Q ⟨sr,q⟩=>q [] H .refl sr .nil,λk=>rfl⟩
def af(ha:EF X K fs e w)(hr:AF X K fs es ks B)(hs:gZ X e es:=by rfl):AF X K fs (e::es) (.v::ks) (λk=>.bind w λx=>B λl=>k (x::l)):=by
 obtain⟨wr,hp,hB⟩:=hr.p;refine⟨.bind w λx=>.bind wr λl=>.ret (x::l),PA.imp (aW ha.p hp hs) λσ H Q ⟨sr,q⟩=>?_,λk=>?_⟩
 ·exact⟨sr,w.mono (λx q1 u1 H1 g1 s1 v1=>⟨s1,wr.mono (λl q2 vs H2 g2 s2 v2=>q2 _ H2 (g1.trans g2) s2 (.v (g2.vr s1 v1) v2)) q1⟩) q⟩
 ·have:(λx=>B λl=>k (x::l))=λx=>am wr λl=>k (x::l):=funext λx=>hB _;rw[this];rfl
def bJ(i:Nat)(hr:AF X K fs es ks B)(hs:fs[i]?=ap (ap (.kF φ)):=by rfl)(hN:X.N[i]?=ap x:=by rfl)(hv:zx X.env.scope x:=by first | exact C1 rfl | exact Cq (C1 rfl) | exact Cq (Cq rfl))(hd:jh x:=by decide)(jc:HI x:=by decide)
  (rk:ga (.Name x pos::es) X.env=(false,lf (.Name x pos) X.env)::ga es X.env:=by rfl):AF X K fs (.Name x pos::es) (.p φ::ks) B:=by
 obtain⟨wr,hp,hB⟩:=hr.p;refine⟨wr,PA.imp (aW (d9 hN hv hd jc) hp rk) λσ H Q ⟨sr,q⟩=>?_,hB⟩;obtain⟨u,e1,r⟩:=sr.at' i _ hs;rcases r with⟨v,e,_⟩ | ⟨a,e,r⟩
 ·cases e
 ·subst e;exact⟨_,e1,sr,wr.mono (λl q2 vs H2 g2 s2 v2=>q2 _ H2 g2 s2 (.p ⟨i,hs,e1⟩ v2)) q⟩
theorem fJ.Oq:∀{vs:O V}{n:Nat}{l:O PV},fJ K σ fs H vs (An n .v) l->ay K [] H vs l/\l.length=n
 | _,0,_,.nil=>⟨.nil,rfl⟩
 | _,n+1,_,.v r t=>⟨.cons r (fJ.Oq t).1,by rw[Ar,(fJ.Oq t).2]⟩
def acW{x1}{B:(O PV->W PV)->W PV}(h:AF X K fs es (An n .v) B)(hn:n<=1000:=by decide):EF X K fs (.Tuple es x1 pos) (B λl=>.ret (.tup l)):=by
 obtain⟨w,hp,hB⟩:=h.p;rw[hB];refine⟨PE.imp (Tn hp) λσ H Q ⟨sr,q⟩=>⟨sr,w.mono (λl q1 vs H1 g1 s1 v1=>?_) q⟩⟩;obtain⟨v2,hl⟩:=v1.Oq;refine⟨by rw[v2.length,hl];exact bE hn,λp H2 s2 e2 n2=>?_⟩;exact q1 _ H2 (g1.trans (cO.same s2)) (s1.same s2) (.tup e2 (ay.tk s2.d6 v2))
def V4{B:(O PV->W (O PV))->W (O PV)}(h:AF X K fs es (An n .v) B)(hn:n<=1000:=by decide):LF X K fs (.List es pos) (B λl=>.ret l):=by
 obtain⟨w,hp,hB⟩:=h.p;rw[hB];refine⟨PE.imp (Ts hp) λσ H Q ⟨sr,q⟩=>⟨sr,w.mono (λl q1 vs H1 g1 s1 v1=>?_) q⟩⟩;obtain⟨v2,hl⟩:=v1.Oq;refine⟨by rw[v2.length,hl];exact bE hn,λp H2 s2 e2 n2=>?_⟩;exact q1 _ _ H2 (g1.trans (cO.same s2)) (s1.same s2) (g1.there p n2) e2 (ay.tk s2.d6 v2)
end
end
end FL
namespace L2
def Inv.LA{σ:St}(I:Inv X Z σ H s)(e:H a=ap (.lst vs)):∃o,Inv X Z σ (upd H a (.cq o (.lst vs))) s:=by
 obtain⟨z,ao,n,r,h1⟩:=(show a6 X.prog X.w H s.heap a (.lst vs) from I.br a _ e);exact⟨_,I.write (x:=a) (e:=a) (o:=.cq _ (.lst vs)) (h':=s.heap) (t':=s.toks) (by rw[e];exact Cg) (.inl rfl) (λb u _ z=>z) ⟨_,h1⟩ ⟨h1,z,ao,n,r,h1⟩⟩
def Inv.LB{σ:St}{kvs:O (Key×V)}(I:Inv X Z σ H s)(e:H a=ap (.dK kvs)):∃o,Inv X Z σ (upd H a (.cq o (.dK kvs))) s:=by
 obtain⟨z,hs,vs,r,o,es,ep,h1,h2⟩:=(show a6 X.prog X.w H s.heap a (.dK kvs) from I.br a _ e);exact⟨o,I.write (x:=a) (e:=a) (o:=.cq o (.dK kvs)) (h':=s.heap) (t':=s.toks) (by rw[e];exact Cg) (.inl rfl) (λb u _ z=>z) ⟨o,h1⟩ ⟨h1,z,hs,vs,r,o,es,ep,h1,h2⟩⟩
end L2
variable{t:FL.SL}{ks:O FL.AK}{B:(O PL.PV->FL.W PL.PV)->FL.W PL.PV}{wm:FL.W (O PL.PV)}{q0:Option BD}
namespace FL
section
variable{K:Ab}
section
def qT(o':HO)(e:H a=ap (.lst vs)):bh K H (upd H a o'):=⟨λb ws q=>by rw[aq (Li q e (by intro z;cases z))];exact q,λb o u q=>by rw[aq (Li q e (by intro z;cases z))];exact q⟩
def Sf(kvs:O (Key×PV)):PV:=.dv (kvs.map λkv=>kP kv.1) (kvs.map (·.2))
def yP(kvs:O (O Key×PV)):PV:=.dv (kvs.map λkv=>.tup (kv.1.map kP)) (kvs.map (·.2))
def gB{oh:HO}(o':HO)(e:H a=ap oh)(n1:∀vs,oh≠.tup vs)(n2:∀o u,oh≠.cq o u):bh K H (upd H a o'):=⟨λb ws q=>by rw[aq (λz=>by subst z;rw[e]at q;cases q;exact n1 _ rfl)];exact q,λb o u q=>by rw[aq (λz=>by subst z;rw[e]at q;cases q;exact n2 _ _ rfl)];exact q⟩
def V5{vs:O (O Key×V)}{kvs:O (O Key×PV)}(h:vs.map (·.1)=kvs.map (·.1)):(kvs.map λkv=>PV.tup (kv.1.map kP))=vs.map λkv=>PV.tup (kv.1.map kP):=by
 have:=congrArg (F1 λk:O Key=>PV.tup (k.map kP)) h;rw[Ay,Ay]at this;exact this.symm
def V6{vs:O (Key×V)}{kvs:O (Key×PV)}(h:vs.map (·.1)=kvs.map (·.1)):(kvs.map λkv=>kP kv.1)=vs.map λkv=>kP kv.1:=by
 have:=congrArg (F1 kP) h;rw[Ay,Ay]at this;exact this.symm
def SL.bw:SL->Bool
 | .ol _ _=>true
 | .od _=>true
 | .ot _=>true
 | _=>false
def SL.bv:SL->PV
 | .ol _ l=>.cl l
 | .od kvs=>Sf kvs
 | .ot kvs=>yP kvs
 | _=>.ax
def SL.RL(h:t.bw=true):t.own=true:=by cases t <;> first | rfl | cases h
def acH(I:Inv X Z σ' H s)(oa:kn K H a t)(hb:t.bw=true):∃ob o,H a=ap o/\(∀vs,o≠.tup vs)/\(∀ob u,o≠.cq ob u)/\Inv X Z σ' (upd H a (.cq ob o)) s/\VR K [] (upd H a (.cq ob o)) (.ref a) t.bv:=by
 cases t with
 | ol q l=>
  obtain⟨_,vs,e,r⟩:=oa;obtain⟨ob,I2⟩:=I.LA e;exact⟨ob,_,e,by simp,by simp,I2,.cl (.inl ⟨ob,aM⟩) (ay.tk (gB _ e (by simp) (by simp)) r)⟩
 | od l=>
  obtain⟨vs,e,k,r⟩:=oa;obtain⟨ob,I2⟩:=I.LB e;exact⟨ob,_,e,by simp,by simp,I2,.dk aM (V6 k) (ay.tk (gB _ e (by simp) (by simp)) r)⟩
 | ot l=>
  obtain⟨vs,e,k,r⟩:=oa;obtain⟨ob,I2⟩:=I.freeze e;exact⟨ob,_,e,by simp,by simp,I2,.dt aM (V5 k) (ay.tk (gB _ e (by simp) (by simp)) r)⟩
 | _=>cases hb
def aU.acG{o u:HO}(sr:aU K H σ fs)(hs:fs[i]?=ap (ap t))(ho:t.own=true)(e1:σ[i]?=ap (ap (.ref a)))(h1:H a=ap o)(n1:∀vs,o≠.tup vs)(n2:∀ob u,o≠.cq ob u)(vr:VR K [] (upd H a u) (.ref a) v):aU K (upd H a u) σ (fs.set i (ap (.val v))):=by
 refine⟨by simp[sr.len],λj t' z=>?_,λj k t' u b1 b2 b z1 z2 o1 o2=>?_⟩
 ·rcases cT z with⟨rfl,rfl⟩ | ⟨n,z⟩
  ·exact⟨_,e1,.inl ⟨_,rfl,vr⟩⟩
  ·obtain⟨u,k1,k2⟩:=sr.at' j t' z;exact⟨u,k1,k2.mono (gB _ h1 n1 n2) (λx b o eb ow hb zz=>by
    subst eb;rw[aq (λy=>by subst y;exact n (sr.nd j i t' _ x b b z hs ow ho k1 e1 hb (.inl rfl)))];exact zz)⟩
 ·rcases cT z1 with⟨rfl,rfl⟩ | ⟨n1,z1⟩
  ·cases o1
  ·rcases cT z2 with⟨rfl,rfl⟩ | ⟨n2,z2⟩
   ·cases o2
   ·exact sr.nd j k t' u b1 b2 b z1 z2 o1 o2
def aU.side(s:aU K H σ fs)(n:¬dJ σ fs a)(e:H a=ap (.lst vs))(o':HO):aU K (upd H a o') σ fs:=⟨s.len,λi t q=>by
 obtain⟨u,h1,h2⟩:=s.at' i t q;exact⟨u,h1,h2.mono (qT o' e) (λx b o eb ow hb z=>by subst eb;rw[aq (λy:b=a=>n ⟨i,t,x,q,ow,h1,y▸hb⟩)];exact z)⟩,s.nd⟩
def cO.side(g:cO σ fs H H1)(h0:H a=bm)(o':HO):cO σ fs H (upd H1 a o'):=⟨λb o e n=>by rw[aq (bz e h0)];exact g.keep b o e n,λb e=>by
 by_cases c:b=a
 ·subst c;exact h0
 ·rw[aq c]at e;exact g.there b e⟩
end
section
variable{a:kw}{w:W PV}
def dI(h:LF X K fs e wl):EF X K fs e (.bind wl λl=>.ret (.cl l)):=⟨λZ s σ H Q I ⟨sr,q⟩=>by
 refine bV (h.p Z s σ H (λu H1=>∃a vs l,u=.ref a/\cO σ fs H H1/\aU K H1 σ fs/\H a=bm/\H1 a=ap (.lst vs)/\ay K [] H1 vs l/\∀u H',cO σ fs H H'->aU K H' σ fs->VR K [] H' u (.cl l)->Q u H') I ⟨sr,wl.mono (λl q1 a vs H1 g1 s1 n e v=>⟨a,vs,l,rfl,g1,s1,n,e,v,q1⟩) q⟩) λu s1 ⟨v,H1,I1,r1,a,vs,l,e,g1,SV,n,ea,vr,q1⟩=>?_;subst e;obtain⟨ob,I2⟩:=I1.LA ea;exact⟨.ref a,_,I2,r1,q1 _ _ (g1.side n _) (SV.side (λz=>sr.noOwn n z) ea _) (.cl (.inl ⟨ob,aM⟩) (ay.tk (qT _ ea) vr))⟩⟩
def aA:PV->W (O PV)
 | .tup l=>.ret l
 | .cl l=>.ret l
 | _=>.fail
def bx(h:EF X K fs e w):IF X K fs e (.bind w aA):=⟨PE.imp h.p λσ H Q ⟨sr,q⟩=>⟨sr,w.mono (λx q1 u1 H1 g1 s1 v1=>by
 cases v1 with
 | tup e r=>exact q1 _ H1 g1 s1 ⟨_,_,rfl,.inr e,r⟩
 | cl e r=>exact q1 _ H1 g1 s1 ⟨_,_,rfl,.inl e,r⟩
 | _=>exact q1.elim) q⟩⟩
def Lw(h:LF X K fs e wl):IF X K fs e wl:=bx (dI h)
theorem IF.q(h:IF X K fs e wl):QF X K fs e wl:=⟨PE.imp h.p λσ H Q ⟨sr,q⟩=>⟨sr,wl.mono (λl q1 u1 H1 g1 s1 v1=>q1 u1 H1 g1 s1 (.inl v1)) q⟩⟩
def aE(h:EF X K fs e w):QF X K fs e (.bind w aA):=(bx h).q
def se(h:LF X K fs e wl):QF X K fs e wl:=⟨PE.imp h.p λσ H Q ⟨sr,q⟩=>⟨sr,wl.mono (λl q1 a vs H1 g1 s1 n e v=>q1 _ H1 g1 s1 (.inr ⟨a,rfl,.inl ⟨sr.noOwn n,vs,e,v⟩⟩)) q⟩⟩
def cx(i:Nat)(hs:fs[i]?=ap (ap (.ol q0 l)):=by rfl)(hN:X.N[i]?=ap x:=by rfl)(hv:zx X.env.scope x:=by first | exact C1 rfl | exact Cq (C1 rfl) | exact Cq (Cq rfl))(hd:jh x:=by decide)(jc:HI x:=by decide):QF X K fs (.Name x pos) (.ret l):=
 ⟨PE.imp (d9 hN hv hd jc) λσ H Q ⟨sr,q⟩=>by
  obtain⟨u,e1,r⟩:=sr.at' i _ hs;rcases r with⟨w,e,r⟩ | ⟨a,e,r⟩
  ·cases e
  ·subst e;exact⟨_,e1,q _ H .refl sr (.inr ⟨a,rfl,.inr ⟨i,q0,hs,e1⟩⟩)⟩⟩
def Wb(l:O PV):PV->W PV
 | .int i=>.Ld (d4 l i)
 | _=>.fail
def aY(hK:X.K=K)(ha:QF X K fs a wl)(hb:EF X K fs b wb)(hs:zq b:=by exact λ_ _=>rfl):EF X K fs (.Subscript a b pos) (.bind wl λl=>.bind wb λy=>Wb l y):=⟨PE.imp (VU (Uw K hK) ha.p hb.p hs) λσ H Q ⟨sr,q⟩=>⟨sr,wl.mono (λl q1 u1 H1 g1 s1 v1=>⟨s1,wb.mono (λy q2 u2 H2 g2 s2 v2=>by
 cases v2 with
 | int i=>
  have q2:(W.Ld (d4 l i)).run _:=q2;cases z:d4 l i with
  | none=>rw[z]at q2;exact q2.elim
  | some x=>
   rw[z]at q2;obtain⟨ad,vs,rfl,h,rs⟩:=(v1.go s1 g2).sq s2;obtain⟨v,e1,e2⟩:=ay.d4 rs z;have q3:=q2 v H2 (g1.trans g2) s2 e2;exact h.elim (λh=>.inl ⟨ad,vs,i,v,rfl,rfl,h,e1,q3⟩) λh=>.inr (.inl ⟨ad,vs,i,v,rfl,rfl,h,e1,q3⟩)
 | _=>exact q2.elim) q1⟩) q⟩⟩
def ac1(ha:EF X K fs a wa)(hb:EF X K fs b wb)(hs:zq b):EF X K fs (.Subscript a b pos) (.bind wa λx=>.bind wb λy=>of2 PQ x y):=⟨PE.imp (VU Qw ha.p hb.p hs) (LI TX)⟩
def mX(m:wj)(l:O PV):W PV:=⟨λQ=>m.f l [] λz h=>h=[]/\Q z,λf q=>m.mono (λ_ _ q=>⟨q.1,f _ q.2⟩) q⟩
section
variable{id:String}{r:O V->Hp->VK->Prop}
def PM{m:wj}(hm:wj.Ok K r m){Q:VK}{us:O V}(sr:aU K H σ fs)(hu:ay K [] H us l)(q:(mX m l).run λz=>∀u H',cO σ fs H H'->aU K H' σ fs->VR K [] H' u z->Q u H'):r us H Q:=hm (hr0 H) hu (m.mono (λz h q=>pq0 sr q) q)
def rB{m:wj}(hc:bL X (.builtin id) r)(hB:wj.Ok K r m)(hg:Gl X x)(hm:X.mg x=bm)(hv:lw x=ap (.builtin id))(ha:AF X K fs (e::es) (An n .v) B)(hn:x≠"__name__":=by decide)(oq:jh x:=by decide)
  (he:gZ X e es:=by rfl) (c9:lF X pos es:=by rfl):EF X K fs (.Call (.Name x p) (e::es) [] pos) (B (mX m)):=by
 obtain⟨w,hp,Ņ⟩:=ha.p;rw[Ņ];exact⟨PE.imp (dD hc hg hm hv hp hn oq he c9) λσ H Q ⟨sr,q⟩=>⟨sr,w.mono (λl q1 vs H1 g1 s1 v1=>PM hB s1 v1.Oq.1 ((mX m l).mono (λz q u H' g s v=>q u H' (g1.trans g) s v) q1)) q⟩⟩
def Rz{m:wj}(hc:bL X (.type id) r)(hB:wj.Ok K r m)(hg:Gl X x)(hm:X.mg x=bm)(hv:lw x=ap (.type id))(ha:AF X K fs (e::es) (An n .v) B)(hn:x≠"__name__":=by decide)(oq:jh x:=by decide)
  (he:gZ X e es:=by rfl) (c9:lF X pos es:=by rfl):EF X K fs (.Call (.Name x p) (e::es) [] pos) (B (mX m)):=by
 obtain⟨w,hp,Ņ⟩:=ha.p;rw[Ņ];exact⟨PE.imp (iX hc hg hm hv hp hn oq he c9) λσ H Q ⟨sr,q⟩=>⟨sr,w.mono (λl q1 vs H1 g1 s1 v1=>PM hB s1 v1.Oq.1 ((mX m l).mono (λz q u H' g s v=>q u H' (g1.trans g) s v) q1)) q⟩⟩
def CQ(K:Ab)(r:O V->Hp->VK->Prop)(m:O PV->W PV):Prop:=∀{fs:bb}{σ:L2.St}{H:Hp}{Q:VK}{u:V}{l:O PV},aU K H σ fs->Vu K σ fs H u l->((m l).run λz=>∀u H',cO σ fs H H'->aU K H' σ fs->VR K [] H' u z->Q u H')->r [u] H Q
def CL(K:Ab)(r:O V->Hp->VK->Prop)(m:O PV->W (O PV)):Prop:=∀{fs:bb}{σ:L2.St}{H:Hp}{Q:VK}{u:V}{l:O PV},aU K H σ fs->Vu K σ fs H u l->((m l).run λz=>∀a vs H',cO σ fs H H'->aU K H' σ fs->H a=bm->H' a=ap (.lst vs)->ay K [] H' vs z->Q (.ref a) H')->r [u] H Q
def RA{m:O PV->W PV}(hc:bL X (.builtin id) r)(hB:CQ K r m)(hg:Gl X x)(hm:X.mg x=bm)(hv:lw x=ap (.builtin id))(ha:QF X K fs e wl)(hn:x≠"__name__":=by decide)(oq:jh x:=by decide)
  (he:gZ X e []:=by rfl) (c9:lF X pos []:=by rfl):EF X K fs (.Call (.Name x p) [e] [] pos) (.bind wl m):=⟨PE.imp (dD hc hg hm hv (aW ha.p bO he) hn oq he c9) λσ H Q ⟨sr,q⟩=>⟨sr,wl.mono (λl q1 u H1 g1 s1 v1=>hB s1 v1 ((m l).mono (λz q u H' g s v=>q u H' (g1.trans g) s v) q1)) q⟩⟩
def Nx{m:O PV->W PV}(hc:bL X (.type id) r)(hB:CQ K r m)(hg:Gl X x)(hm:X.mg x=bm)(hv:lw x=ap (.type id))(ha:QF X K fs e wl)(hn:x≠"__name__":=by decide)(oq:jh x:=by decide)
  (he:gZ X e []:=by rfl) (c9:lF X pos []:=by rfl):EF X K fs (.Call (.Name x p) [e] [] pos) (.bind wl m):=⟨PE.imp (iX hc hg hm hv (aW ha.p bO he) hn oq he c9) λσ H Q ⟨sr,q⟩=>⟨sr,wl.mono (λl q1 u H1 g1 s1 v1=>hB s1 v1 ((m l).mono (λz q u H' g s v=>q u H' (g1.trans g) s v) q1)) q⟩⟩
def adR{m:O PV->W (O PV)}(hc:bL X (.builtin id) r)(hB:CL K r m)(hg:Gl X x)(hm:X.mg x=bm)(hv:lw x=ap (.builtin id))(ha:QF X K fs e wl)(hn:x≠"__name__":=by decide)(oq:jh x:=by decide)
  (he:gZ X e []:=by rfl) (c9:lF X pos []:=by rfl):LF X K fs (.Call (.Name x p) [e] [] pos) (.bind wl m):=⟨PE.imp (dD hc hg hm hv (aW ha.p bO he) hn oq he c9) λσ H Q ⟨sr,q⟩=>⟨sr,wl.mono (λl q1 u H1 g1 s1 v1=>hB s1 v1 ((m l).mono (λz q a vs H' g s n e v=>q a vs H' (g1.trans g) s (g1.there a n) e v) q1)) q⟩⟩
def Qe{m:O PV->W (O PV)}(hc:bL X (.type id) r)(hB:CL K r m)(hg:Gl X x)(hm:X.mg x=bm)(hv:lw x=ap (.type id))(ha:QF X K fs e wl)(hn:x≠"__name__":=by decide)(oq:jh x:=by decide)
  (he:gZ X e []:=by rfl) (c9:lF X pos []:=by rfl):LF X K fs (.Call (.Name x p) [e] [] pos) (.bind wl m):=⟨PE.imp (iX hc hg hm hv (aW ha.p bO he) hn oq he c9) λσ H Q ⟨sr,q⟩=>⟨sr,wl.mono (λl q1 u H1 g1 s1 v1=>hB s1 v1 ((m l).mono (λz q a vs H' g s n e v=>q a vs H' (g1.trans g) s (g1.there a n) e v) q1)) q⟩⟩
end
def Gu(l:O PV):W PV:=.ret (.int l.length)
def Ug(K:Ab):CQ K (Xx K) Gu:=λ{fs σ H Q u l} s v q=>by
 obtain⟨a,vs,rfl,h,rs⟩:=v.sq s;refine⟨_,vs.length,rfl,?_,?_⟩
 ·exact h.elim (λh=>.inl ⟨_,h,rfl⟩) λh=>.inr ⟨_,h,rfl⟩
 ·rw[rs.length];exact q _ H .refl s (.int _)
def kq(l:O PV):W PV:=.ret (.tup l)
def SA(K:Ab):CQ K (O6 K) kq:=λ{fs σ H Q u l} s v q=>by
 have fresh:∀{a:ce}{vs:O V},c6 K H a vs->ay K [] H vs l->O6 K [.ref a] H Q:=λ{a vs} h rs=>⟨a,vs,rfl,.inl ⟨h,λp H2 s2 e2 n2=>q _ H2 (cO.same s2) (s.same s2) (.tup e2 (ay.tk s2.d6 rs))⟩⟩;rcases v with⟨a,vs,rfl,h | h,rs⟩ | ⟨a,rfl,⟨n,vs,h,rs⟩ | ⟨i,_,q1,q2⟩⟩
 ·exact fresh h.sq rs
 ·exact⟨a,vs,rfl,.inr ⟨dj.of h,q _ H .refl s (.tup h rs)⟩⟩
 ·exact fresh (c6.of h) rs
 ·obtain⟨_,vs,h,rs⟩:=s.ownAt q1 rfl q2;exact fresh (c6.of h) rs
end
end
end FL
variable{R:Type}
namespace FL
section
variable{K:Ab}
def zp(vs:O V)(ks:O AK)(φ:O V->Prop)(a:ce):Prop:=∃i:Nat,ks[i]?=ap (.p φ)/\vs[i]?=ap (.ref a)
structure GoC(vs:List V)(ks:List AK)(H H':Hp):Prop where
 keep:∀a o,H a=ap o->(∀φ,¬zp vs ks φ a)->H' a=ap o
 there:∀a,H' a=bm->H a=bm
 XH:∀a φ,zp vs ks φ a->∃ws,H' a=ap (.lst ws)/\φ ws
inductive iQ(K:Ab)(H:Hp):List V->List AK->List PV->Prop
 | nil:iQ K H [] [] []
 | v {u:V}{x:PV}{vs:List V}{ks:List AK}{l:List PV} (r:VR K [] H u x) (t:iQ K H vs ks l):iQ K H (u::vs) (.v::ks) (x::l)
 | p {a:ce}{φ:List V->Prop}{ws vs:List V}{ks:List AK}{l:List PV} (e:H a=ap (.lst ws)) (r:φ ws) (t:iQ K H vs ks l):iQ K H (.ref a::vs) (.p φ::ks) l
 | f {a:ce}{vs:List V}{ks:List AK}{l:List PV} (t:iQ K H vs ks l):iQ K H (.ref a::vs) (.f a::ks) l
def Ml(K:Ab)(ks:O AK)(m:O PV->W PV):Sp:=λvs H Q _=>∃l,iQ K H vs ks l/\(m l).run λv=>∀u H',GoC vs ks H H'->VR K [] H' u v->Q u H'
def zP(K:Ab)(ks:O AK)(m:O PV->W (O PV)):Sp:=λvs H Q _=>∃l,iQ K H vs ks l/\(m l).run λz=>∀a ws H',GoC vs ks H H'->H a=bm->H' a=ap (.lst ws)->ay K [] H' ws z->Q (.ref a) H'
def HS(R:Type):Nat->Type
 | 0=>W R
 | n+1=>PV->HS R n
def oX:(n:Nat)->HS R n->O PV->W R
 | 0,m,[]=>m
 | n+1,m,x::l=>oX n (m x) l
 | 0,_,_::_=>.fail
 | _+1,_,[]=>.fail
section
def fJ.kF(h:fJ K σ fs H vs ks l)(p:zp vs ks φ a):iz σ fs φ a:=by
 obtain⟨i,e1,e2⟩:=p
 induction h generalizing i with
 | nil=>simp at e1
 | v r t ih=>cases i with | zero=>simp at e1 | succ i=>exact ih i (by simpa using e1) (by simpa using e2)
 | p r t ih=>
  cases i with
  | zero=>simp at e1 e2;subst e1;subst e2;exact r
  | succ i=>exact ih i (by simpa using e1) (by simpa using e2)
 | f t ih=>cases i with | zero=>simp at e1 | succ i=>exact ih i (by simpa using e1) (by simpa using e2)
def fJ.c(h:fJ K σ fs H vs ks l)(s:aU K H σ fs):iQ K H vs ks l:=by
 induction h with
 | nil=>exact .nil
 | v r t ih=>exact .v r ih
 | p r t ih=>
  obtain⟨i,e1,e2⟩:=r;obtain⟨ws,q,x⟩:=s.ownAt e1 rfl e2;exact .p q x ih
 | f t ih=>exact .f ih
def GoC.caller(g:GoC vs ks H H')(h:fJ K σ fs H vs ks l)(s:aU K H σ fs):aU K H' σ fs/\cO σ fs H H':=by
 have gf:cO σ fs H H':=⟨λa o e n=>g.keep a o e λφ p=>n φ (h.kF p),g.there⟩;have tk:=gf.d7 s;refine⟨⟨s.len,λi t e=>?_,s.nd⟩,gf⟩;obtain⟨u,h1,h2⟩:=s.at' i t e;refine⟨u,h1,?_⟩;rcases h2 with⟨v,q,r⟩ | ⟨a,q,r⟩
 ·exact .inl ⟨v,q,VR.tk tk r⟩
 ·subst q;refine .inr ⟨a,rfl,?_⟩;by_cases c:(∃φ,zp vs ks φ a)/\t.own=true
  ·obtain⟨⟨φ,p⟩,ow⟩:=c;obtain⟨j,e1,e2⟩:=h.kF p;have ij:=s.nd i j t _ a a a e e1 ow rfl h1 e2 (.inl rfl) (.inl rfl);subst ij;rw[e]at e1;cases e1;exact g.XH a φ p
  ·refine r.mono tk (λb o ow hb z=>g.keep b o z λφ p=>?_);obtain⟨j,e1,e2⟩:=h.kF p;have ij:=s.nd i j t _ a b b e e1 ow rfl h1 e2 hb (.inl rfl);subst ij;rw[h1]at e2;cases e2;exact c ⟨⟨φ,p⟩,ow⟩
end
section
def Zn{m:O PV->W PV}(G:VC X.prog X.w X.K X.mg X.base x k ps (Ml K ks m))(hr:fh k' X.A)(hk:k<=k')(hg:Gl X x)(ha:AF X K fs (e::es) ks B)(oq:jh x:=by decide)
  (he:gZ X e es:=by rfl) (c9:lF X pos es:=by rfl):EF X K fs (.Call (.Name x p) (e::es) [] pos) (B m):=by
 obtain⟨w,hp,hB⟩:=ha.p;rw[hB];exact⟨PE.imp (PB G hr hk hg hp oq he c9) λσ H Q ⟨sr,q⟩=>⟨sr,w.mono (λl q1 vs H1 g1 s1 v1=>⟨l,v1.c s1,(m l).mono (λz q2 u H2 g2 r2=>let ⟨s2,g3⟩:=g2.caller v1 s1;q2 u H2 (g1.trans g3) s2 r2) q1⟩) q⟩⟩
def Yp{m:O PV->W (O PV)}{B:(O PV->W (O PV))->W (O PV)}(G:VC X.prog X.w X.K X.mg X.base x k ps (zP K ks m))(hr:fh k' X.A)(hk:k<=k')(hg:Gl X x)(ha:AF X K fs (e::es) ks B)(oq:jh x:=by decide)
  (he:gZ X e es:=by rfl) (c9:lF X pos es:=by rfl):LF X K fs (.Call (.Name x p) (e::es) [] pos) (B m):=by
 obtain⟨w,hp,hB⟩:=ha.p;rw[hB];exact⟨PE.imp (PB G hr hk hg hp oq he c9) λσ H Q ⟨sr,q⟩=>⟨sr,w.mono (λl q1 vs H1 g1 s1 v1=>⟨l,v1.c s1,(m l).mono (λz q2 a ws H2 g2 n2 e2 r2=>let ⟨s2,g3⟩:=g2.caller v1 s1;q2 a ws H2 (g1.trans g3) s2 (g1.there a n2) e2 r2) q1⟩) q⟩⟩
end
end
end FL
variable{x:Bool}{T:Type}{p':Cd}
namespace FL
section
variable{K:Ab}
inductive End where
 | nx (fs:bb) | nc (fs:bb) | ct (fs:bb) | rt (v:PV) | rl (l:List PV) | bk (fs:bb) | ro (v:PV) (a:ce) (l:List PV)
def zu(σ:L2.St)(fs:bb)(H:Hp)(a:ce):Prop:=H a=bm\/∃(i:Nat) (s:SL) (x:ce),fs[i]?=ap (ap s)/\s.own=true/\(∀φ,s≠.kF φ)/\σ[i]?=ap (ap (.ref x))/\s.has x a
def bQ(K:Ab)(x:Bool)(σ:L2.St)(fs:bb)(H:Hp)(D:Ends):End->Prop
 | .nx bC=>x=false->∀σ' H',cM σ fs H σ' bC H'->aU K H' σ' bC->D.nx σ' H'
 | .nc bC=>∀σ' H',cM σ fs H σ' bC H'->aU K H' σ' bC->(x=false->D.nx σ' H')/\D.ct σ' H'
 | .ct bC=>∀σ' H',cM σ fs H σ' bC H'->aU K H' σ' bC->D.ct σ' H'
 | .bk bC=>∀σ' H',cM σ fs H σ' bC H'->aU K H' σ' bC->D.bk σ' H'
 | .rt v=>∀u σ' bC H',cM σ fs H σ' bC H'->aU K H' σ' bC->VR K [] H' u v->D.rt u H'
 | .ro v a l=>∀u σ' bC H',cM σ fs H σ' bC H'->aU K H' σ' bC->(∃i:Nat,bC[i]?=ap (ap (.ol (ap a) l)))->VR K [] H' u v->D.rt u H'
 | .rl l=>∀a ws σ' bC H',cM σ fs H σ' bC H'->aU K H' σ' bC->zu σ fs H a->H' a=ap (.lst ws)->ay K [] H' ws l->D.rt (.ref a) H'
def fS(K:Ab)(x:Bool)(fs:bb)(w:W T)(out:T->End):TS:=λD σ H=>aU K H σ fs/\w.run λt=>bQ K x σ fs H D (out t)
structure SF(X:Cx)(K:Ab)(x:Bool)(fs:bb)(W9:List ss){T:Type}(w:W T)(out:T->End):Prop where p:rE X W9 (fS K x fs w out)
section
variable{σ1:L2.St}{UT:bb}
def zu.go(g:cM σ fs H σ1 UT H1)(s:aU K H σ fs)(s1:aU K H1 σ1 UT)(h:zu σ1 UT H1 a):zu σ fs H a:=by
 rcases h with h | ⟨i,t,x,e1,e2,np,e3,e4⟩
 ·exact .inl (g.there a h)
 ·cases z:H a with
  | none=>exact .inl z
  | some o=>
   by_cases c:dJ σ fs a
   ·obtain⟨j,t',y,c1,c2,c3,c4⟩:=c;by_cases d:∃φ,t'=.kF φ
    ·obtain⟨φ,rfl⟩:=d;rcases c4 with rfl | c4
     ·rcases g.pk a φ ⟨j,c1,c3⟩ with⟨k,k1,k2⟩ | ⟨n,_⟩
      ·have:=s1.nd i k t _ x a a e1 k1 e2 rfl e3 k2 e4 (.inl rfl);subst this;rw[e1]at k1;cases k1;exact absurd rfl (np φ)
      ·exact absurd ⟨i,t,x,e1,e2,e3,e4⟩ n
     ·cases c4
    ·exact .inr ⟨j,t',y,c1,c2,λφ e=>d ⟨φ,e⟩,c3,c4⟩
   ·exact absurd ⟨i,t,x,e1,e2,e3,e4⟩ (g.keep a o z c).2
def bQ.go(g:cM σ fs H σ1 UT H1)(s:aU K H σ fs)(s1:aU K H1 σ1 UT){E:End}(h:bQ K x σ fs H D E):bQ K x σ1 UT H1 D E:=by
 cases E with
 | nx bC=>exact λhx σ' H' g' s'=>h hx σ' H' (g.trans g') s'
 | nc bC=>exact λσ' H' g' s'=>h σ' H' (g.trans g') s'
 | bk bC=>exact λσ' H' g' s'=>h σ' H' (g.trans g') s'
 | ct bC=>exact λσ' H' g' s'=>h σ' H' (g.trans g') s'
 | rt v=>exact λu σ' bC H' g' s' r=>h u σ' bC H' (g.trans g') s' r
 | ro v a l=>exact λu σ' bC H' g' s' o r=>h u σ' bC H' (g.trans g') s' o r
 | rl l=>exact λa ws σ' bC H' g' s' f e r=>h a ws σ' bC H' (g.trans g') s' (f.go g s s1) e r
def bQ.exit{D':Ends}(h1:D'.rt=D.rt)(h2:D'.ct=D.ct)(h3:D'.bk=D.bk){E:End}(h:bQ K x σ fs H D E):bQ K true σ fs H D' E:=by
 cases E with
 | nx bC=>exact λhx=>nomatch hx
 | nc bC=>exact λσ' H' g' s'=>⟨λhx=>(nomatch hx),h2▸(h σ' H' g' s').2⟩
 | bk bC=>exact λσ' H' g' s'=>h3▸h σ' H' g' s'
 | ct bC=>exact λσ' H' g' s'=>h2▸h σ' H' g' s'
 | rt v=>exact λu σ' bC H' g' s' r=>h1▸h u σ' bC H' g' s' r
 | ro v a l=>exact λu σ' bC H' g' s' o r=>h1▸h u σ' bC H' g' s' o r
 | rl l=>exact λa ws σ' bC H' g' s' f e r=>h1▸h a ws σ' bC H' g' s' f e r
end
section
variable{X:Cx}{a b c e o:kw}{pos p:Pos}{fs bC:bb}{st:ss}{W9 rest sa sb:O ss}{T T1:Type}{w wk:W T}{out:T->End}{we:W PV}{wl:W (O PV)}{x:Bool}
def End.Qy:End->Prop
 | .rt _=>True
 | .rl _=>True
 | .ro _ _ _=>True
 | _=>False
def bQ.afz{D':Ends}{y:Bool}{E:End}(ho:E.Qy)(e:D'.rt=D.rt)(h:bQ K x σ fs H D E):bQ K y σ fs H D' E:=by
 cases E with
 | rt v=>exact λu σ' bC H' g s r=>e▸h u σ' bC H' g s r
 | rl v=>exact λa ws σ' bC H' g s f ea r=>e▸h a ws σ' bC H' g s f ea r
 | ro v a l=>exact λu σ' bC H' g s o r=>e▸h u σ' bC H' g s o r
 | _=>exact ho.elim
def zF(X:Cx)(K:Ab)(x:Bool)(rest:O ss){T:Type}(out:T->End):TS:=λD σ H=>∃bC w',SF X K x bC rest w' out/\fS K x bC w' out D σ H
def S1:rE X rest (zF X K x rest out):=λZ s σ H D I ⟨bC,w',h,q⟩=>h.p Z s σ H D I q
def PX:rE X rest W3:=λ_ _ _ _ _ _ h=>h.elim
def SF.step{t:TS}(h:PS X st t)(hq:∀D σ H,fS K x fs w out D σ H->t {D with nx:=zF X K x rest out D} σ H):SF X K x fs (st::rest) w out:=⟨rE.imp (zU h S1) λD σ H q=>hq D σ H q⟩
def SF.last{t:TS}(h:PS X st t)(hq:∀D σ H,fS K x fs w out D σ H->t {D with nx:=λ_ _=>False} σ H):SF X K x fs (st::rest) w out:=⟨rE.imp (zU h PX) λD σ H q=>hq D σ H q⟩
def SF.nil{t:T}(h:out t=.nx bC)(hl:gA fs bC):SF X K false fs [] (.ret t) out:=⟨rE.imp wR λD σ H ⟨sr,q⟩=>by
 have q:bQ K false σ fs H D (out t):=q;rw[h]at q;exact q rfl σ H (cM.le sr hl) (sr.le hl)⟩
def SF.fM{t:T}(h:out t=.nc bC)(hl:gA fs bC):SF X K false fs [] (.ret t) out:=⟨rE.imp wR λD σ H ⟨sr,q⟩=>by
 have q:bQ K false σ fs H D (out t):=q;rw[h]at q;exact(q σ H (cM.le sr hl) (sr.le hl)).1 rfl⟩
def SF.cont{t:T}(h:out t=.nc bC\/out t=.ct bC)(hl:gA fs bC):SF X K x fs (.Continue pos::rest) (.ret t) out:=SF.last zW λD σ H ⟨sr,q⟩=>by
 have q:bQ K x σ fs H D (out t):=q;rcases h with h | h
 ·rw[h]at q;exact(q σ H (cM.le sr hl) (sr.le hl)).2
 ·rw[h]at q;exact q σ H (cM.le sr hl) (sr.le hl)
def SF.ret{k:PV->T}(he:EF X K fs e we)(h:∀v,out (k v)=.rt v):SF X K x fs (.Return (ap e) pos::rest) (.bind we λv=>.ret (k v)) out:=SF.last (wV he.p) λD σ H ⟨sr,q⟩=>⟨sr,we.mono (λv q1 u H1 g1 s1 v1=>by
 have q1:bQ K x σ fs H D (out (k v)):=q1;rw[h]at q1;exact q1 u σ fs H1 g1.f s1 v1) q⟩
def SF.bR{out:PV->End}(he:EF X K fs e we)(h:∀v,out v=.rt v):SF X K x fs (.Return (ap e) pos::rest) we out:=SF.ret (k:=λv=>v) he h
def SF.afq{k:O PV->T}(he:LF X K fs e wl)(h:∀l,out (k l)=.rl l):SF X K x fs (.Return (ap e) pos::rest) (.bind wl λl=>.ret (k l)) out:=SF.last (wV he.p) λD σ H ⟨sr,q⟩=>⟨sr,wl.mono (λl q1 a ws H1 g1 s1 n e v1=>by
 have q1:bQ K x σ fs H D (out (k l)):=q1;rw[h]at q1;exact q1 a ws σ fs H1 g1.f s1 (.inl n) e v1) q⟩
def SF.hJ{out:O PV->End}(he:LF X K fs e wl)(h:∀v,out v=.rl v):SF X K x fs (.Return (ap e) pos::rest) wl out:=SF.afq (k:=λv=>v) he h
def SF.Xn(i:Nat){y:Str}{t:T}(hs:fs[i]?=ap (ap (.ol q0 l)))(h:out t=.rl l)(hN:X.N[i]?=ap y:=by rfl)(hv:zx X.env.scope y:=by first | exact C1 rfl | exact Cq (C1 rfl) | exact Cq (Cq rfl))(hd:jh y:=by decide)(jc:HI y:=by decide):SF X K x fs (.Return (ap (.Name y p)) pos::rest) (.ret t) out:=SF.last (wV (d9 hN hv hd jc)) λD σ H ⟨sr,q⟩=>by
 have q:bQ K x σ fs H D (out t):=q;rw[h]at q;obtain⟨u,e1,r⟩:=sr.at' i _ hs;rcases r with⟨v,e,_⟩ | ⟨a,e,r⟩
 ·cases e
 ·subst e;obtain⟨_,ws,q1,q2⟩:=r;exact⟨_,e1,q a ws σ fs H .refl sr (.inr ⟨i,_,_,hs,rfl,by simp,e1,.inl rfl⟩) q1 q2⟩
def SF.aa5(i:Nat){ad:ce}{k:PV->T}(hs:fs[i]?=ap (ap (.ol (ap ad) l)))(he:EF X K fs e we)(h:∀v,out (k v)=.ro v ad l):SF X K x fs (.Return (ap e) pos::rest) (.bind we λv=>.ret (k v)) out:=SF.last (wV he.p) λD σ H ⟨sr,q⟩=>⟨sr,we.mono (λv q1 u H1 g1 s1 v1=>by
 have q1:bQ K x σ fs H D (out (k v)):=q1;rw[h]at q1;exact q1 u σ fs H1 g1.f s1 ⟨i,hs⟩ v1) q⟩
def SF.expr{k:PV->W T}(he:EF X K fs e we)(hr:∀v,SF X K x fs rest (k v) out)(hs:lc e bm pos.line X.env=pure false:=by rfl):SF X K x fs (.Expr e pos::rest) (.bind we k) out:=SF.step (qW he.p hs) λD σ H ⟨sr,q⟩=>
 ⟨sr,we.mono (λv q1 u H1 g1 s1 v1=>⟨fs,k v,hr v,s1,(k v).mono (λt q2=>q2.go g1.f sr s1) q1⟩) q⟩
def SF.set{y:Str}{k:PV->W T}(hN:X.N.Nodup)(hi:X.N[i]?=ap y)(hx:Loc X.env.scope y)(he:EF X K fs e we)(hr:∀v,SF X K x (fs.set i (ap (.val v))) rest (k v) out)(hs:lc e (ap (.Name y p')) pos.line X.env=pure false:=by rfl)
  (hf:Oc X y:=by first | exact .inl rfl | exact .inr rfl | assumption):SF X K x fs (.Assign [.Name y p'] e pos::rest) (.bind we k) out:=SF.step (sf hN hi hx he.p hs hf) λD σ H ⟨sr,q⟩=>
 ⟨sr,we.mono (λv q1 u H1 g1 s1 v1=>⟨_,k v,hr v,s1.fy v1 i,(k v).mono (λt q2=>q2.go (g1.f.trans (cM.fy s1 u v i)) sr (s1.fy v1 i)) q1⟩) q⟩
def SF.afo{y:Str}{k:O PV->W T}(hN:X.N.Nodup)(hi:X.N[i]?=ap y)(hx:Loc X.env.scope y)(he:LF X K fs e wl)(hr:∀l,SF X K x (fs.set i (ap (.ol bm l))) rest (k l) out)(hs:lc e (ap (.Name y p')) pos.line X.env=pure false:=by rfl)
  (hf:Oc X y:=by first | exact .inl rfl | exact .inr rfl | assumption):SF X K x fs (.Assign [.Name y p'] e pos::rest) (.bind wl k) out:=SF.step (sf hN hi hx he.p hs hf) λD σ H ⟨sr,q⟩=>by
 refine⟨sr,wl.mono (λl q1 a ws H1 g1 s1 n e v1=>?_) q⟩;have no:=sr.noOwn n;have s2:=s1.wQ (t:=.ol bm l) ⟨by simp,ws,e,v1⟩ no i;exact⟨_,k l,hr l,s2,(k l).mono (λt q2=>q2.go (cM.wQ s1 g1.f no n i) sr s2) q1⟩
def SF.cq(i:Nat){t:SL}(hs:fs[i]?=ap (ap t))(hr:SF X K x (fs.set i (ap (.val t.bv))) W9 w out)(hb:t.bw=true:=by rfl):SF X K x fs W9 w out:=⟨λZ s σ H D I ⟨sr,q⟩=>by
 obtain⟨u,e1,r⟩:=sr.at' i _ hs;have ho:=SL.RL hb;rcases r with⟨v,e,_⟩ | ⟨a,e,oa⟩
 ·subst e;cases hb
 ·subst e;obtain⟨ob,o,h1,n1,n2,I2,vr⟩:=acH I oa hb;have ow:∀b,dJ σ (fs.set i (ap (.val t.bv))) b->dJ σ fs b:=λb z=>by
   obtain⟨j,t,x,z1,z2,z3,z4⟩:=z;rcases cT z1 with⟨rfl,rfl⟩ | ⟨n,z1⟩
   ·cases z2
   ·exact⟨j,t,x,z1,z2,z3,z4⟩
  have s2:=sr.acG hs ho e1 h1 n1 n2 vr;have g2:cM σ fs H σ (fs.set i (ap (.val t.bv))) (upd H a (.cq ob o)):=by
   refine⟨λb o z n=>⟨?_,λy=>n (ow b y)⟩,λb z=>?_,λb φ z=>?_⟩
   ·rw[aq (λy=>by subst y;exact n ⟨i,_,_,hs,ho,e1,.inl rfl⟩)];exact z
   ·by_cases c:b=a
    ·subst c;rw[aM]at z;cases z
    ·rw[aq c]at z;exact z
   ·obtain⟨j,z1,z2⟩:=z;have:j≠i:=λy=>by subst y;rw[hs]at z1;cases z1;cases hb
    exact .inl ⟨j,by rw[aP this];exact z1,z2⟩
  exact hr.p Z s σ _ D I2 ⟨s2,w.mono (λt q3=>q3.go g2 sr s2) q⟩⟩
variable{tc:W Bool}
def SF.ifT(hc:TF X K fs c tc)(ha:SF X K x fs sa w out)(hb:SF X K x fs sb wk out):SF X K x fs [.If c sa sb pos] (.bind tc λb=>if b=true then w else wk) out:=⟨rE.imp (Ta (Pj hc.p ha.p hb.p)) λD σ H ⟨sr,q⟩=>⟨sr,tc.mono (λk q1 H1 g1 s1=>by
 cases k with
 | true=>exact xJ ⟨s1,w.mono (λt q2=>q2.go g1.f sr s1) q1⟩
 | false=>exact xK ⟨s1,wk.mono (λt q2=>q2.go g1.f sr s1) q1⟩) q⟩⟩
def SF.Nc(hc:TF X K fs c tc)(ha:SF X K true fs sa w out)(hb:SF X K x fs rest wk out):SF X K x fs (.If c sa [] pos::rest) (.bind tc λb=>if b=true then w else wk) out:=SF.step (Pj hc.p ha.p wR) λD σ H ⟨sr,q⟩=>⟨sr,tc.mono (λk q1 H1 g1 s1=>by
 cases k with
 | true=>exact xJ ⟨s1,w.mono (λt q2=>bQ.exit (D:=D) (D':={D with nx:=zF X K x rest out D}) rfl rfl rfl (q2.go g1.f sr s1)) q1⟩
 | false=>exact xK ⟨fs,wk,hb,s1,wk.mono (λt q2=>q2.go g1.f sr s1) q1⟩) q⟩
def ZM(X:Cx)(K:Ab)(x:Bool)(rest:O ss){T:Type}(w:W T)(out:T->End):End->Prop
 | .nx bC=>SF X K x bC rest w out
 | .nc bC=>False
 | .bk bC=>∃t,w=.ret t/\out t=.bk bC
 | .ct bC=>∃t,w=.ret t/\(out t=.ct bC\/out t=.nc bC)
 | .rt v=>∃t,w=.ret t/\out t=.rt v
 | .rl l=>∃t,w=.ret t/\out t=.rl l
 | .ro v a l=>∃t,w=.ret t/\out t=.ro v a l
def ZM.r{E:End}(sr:aU K H σ fs)(h:ZM X K x rest w out E)(q:w.run λt=>bQ K x σ fs H D (out t)):bQ K false σ fs H {D with nx:=zF X K x rest out D} E:=by
 cases E with
 | nx bC=>exact λ_ σ' H' g' s'=>⟨bC,w,h,s',w.mono (λt q2=>q2.go g' sr s') q⟩
 | nc bC=>exact h.elim
 | bk bC=>
  obtain⟨t,rfl,h⟩:=h;have q:bQ K x σ fs H D (out t):=q;rw[h]at q;exact q
 | ct bC=>
  obtain⟨t,rfl,h⟩:=h;have q:bQ K x σ fs H D (out t):=q;rcases h with h | h
  ·rw[h]at q;exact q
  ·rw[h]at q;exact λσ' H' g s=>(q σ' H' g s).2
 | rt v=>
  obtain⟨t,rfl,h⟩:=h;have q:bQ K x σ fs H D (out t):=q;rw[h]at q;exact q
 | rl v=>
  obtain⟨t,rfl,h⟩:=h;have q:bQ K x σ fs H D (out t):=q;rw[h]at q;exact q
 | ro v a l=>
  obtain⟨t,rfl,h⟩:=h;have q:bQ K x σ fs H D (out t):=q;rw[h]at q;exact q
variable{w1 w2:W T1}{out1:T1->End}{k:T1->W T}
def SF.ifS(hc:TF X K fs c tc)(ha:SF X K false fs sa w1 out1)(hb:SF X K false fs sb w2 out1)(hr:∀t,ZM X K x rest (k t) out (out1 t)):SF X K x fs (.If c sa sb pos::rest) (.bind tc λb=>.bind (if b=true then w1 else w2) k) out:=SF.step (Pj hc.p ha.p hb.p) λD σ H ⟨sr,q⟩=>⟨sr,tc.mono (λb q1 H1 g1 s1=>by
 have fin:∀t,(k t).run (λt=>bQ K x σ fs H D (out t))->bQ K false σ fs H {D with nx:=zF X K x rest out D} (out1 t):=λt q=>(hr t).r sr q;cases b with
 | true=>exact xJ ⟨s1,w1.mono (λt q2=>(fin t q2).go g1.f sr s1) q1⟩
 | false=>exact xK ⟨s1,w2.mono (λt q2=>(fin t q2).go g1.f sr s1) q1⟩) q⟩
end
end
end FL
variable{is:O Nat}
namespace FL
section
variable{K:Ab}
def JF(K:Ab)(H:Hp)(J:It)(l:O PV):Prop:=l.length<=sizeLine/\∀H',bh K H H'->(∀(i:Nat) (p:PV),l[i]?=ap p->J.go i H'/\∀x H2,J.VE i H' x H2->lE H' H2/\VR K [] H2 x p)/\J.stop l.length H'
def JF.tk{J:It}(t:bh K H H')(h:JF K H J l):JF K H' J l:=⟨h.1,λH2 t2=>h.2 H2 (bh.trans t t2)⟩
def fIt(K:Ab)(fs:bb)(w:W (O PV)):TI:=λσ H R=>aU K H σ fs/\w.run λl=>∀J H',cO σ fs H H'->aU K H' σ fs->JF K H' J l->R J H'
structure qQ(X:Cx)(K:Ab)(fs:bb)(tg e:kw)(w:W (List PV)):Prop where p:PI X tg e (fIt K fs w)
section
variable{a c:kw}
def Vy{ad:ce}(h:WE K H ad vs)(r:ay K [] H vs l)(hz:l.length<=sizeLine):JF K H (Itl K ad) l:=⟨hz,λH' t=>by
 have e1:=(t.f _ _ h).sq;have e2:=ay.tk t r;refine⟨λi p hp=>?_,vs,e1,by rw[e2.length];exact Am _⟩;obtain⟨v,h3,h4⟩:=e2.get hp;refine⟨⟨vs,v,e1,h3⟩,λx H3 y=>?_⟩;obtain⟨rfl,y⟩:=y;have:=y vs e1;rw[h3]at this;cases this;exact⟨lE.refl _,h4⟩⟩
def ZJ{ad:ce}(h:H ad=ap (.tup vs))(r:ay K [] H vs l)(hz:l.length<=sizeLine):JF K H (Itt K ad) l:=⟨hz,λH' t=>by
 have e1:=dj.of (K:=K) (t.t _ _ h);have e2:=ay.tk t r;refine⟨λi p hp=>?_,vs,e1,by rw[e2.length];exact Am _⟩;obtain⟨v,h3,h4⟩:=e2.get hp;refine⟨⟨vs,v,e1,h3⟩,λx H3 y=>?_⟩;obtain⟨rfl,y⟩:=y;have:=y vs e1;rw[h3]at this;cases this;exact⟨lE.refl _,h4⟩⟩
def bA(hK:X.K=K)(h:IF X K fs e wl):qQ X K fs tg e wl:=⟨by
 subst hK;intro Z s σ H R I ⟨sr,q⟩;refine bV (h.p Z s σ H (λu H1=>∃l,ZH X.K H1 u l/\∀J,JF X.K H1 J l->R J H1) I ⟨sr,wl.mono (λl q1 u H1 g1 s1 v1=>⟨l,v1,λJ j=>q1 J H1 g1 s1 j⟩) q⟩) λv s1 ⟨x,H1,I1,r1,l,⟨ad,vs,e,hh,rs⟩,q1⟩=>?_;subst e;cases r1;rcases hh with hh | hh
 ·obtain⟨ao,rv,pl,hz⟩:=I1.list hh.sq;refine CS pl.isList ?_;refine⟨s1.heap.objs.size,[s1.heap.objs.size],_,_,H1,rfl,I1.kept (t':=s1.toks) λb o e=>Ag _ e,u7 ad _,⟨_,Aq _ rfl,rfl,rfl⟩,λb hb=>?_,q1 _ (Vy hh rs (by rw[<- rs.length];exact hz))⟩;have e:b=s1.heap.objs.size:=by simpa using hb
  subst e;exact I1.yh (Am _) (I1.br.fresh (Am _))
 ·obtain⟨ao,rv,pl,hz⟩:=I1.tuple (dj.of hh);refine Ef (show s1.heap.IsTuple ad ao.toArray from pl) ?_;refine⟨s1.heap.objs.size,[s1.heap.objs.size],_,_,H1,rfl,I1.kept (t':=s1.toks) λb o e=>Ag _ e,H0 ad _,⟨_,Aq _ rfl,rfl,rfl⟩,λb hb=>?_,q1 _ (ZJ hh rs (by rw[<- rs.length];exact hz))⟩;have e:b=s1.heap.objs.size:=by simpa using hb
  subst e;exact I1.yh (Am _) (I1.br.fresh (Am _))⟩
def okN(i j:Int):Prop:=-(2 ^ 62)<=i/\i < 2 ^ 62/\-(2 ^ 62)<=j/\j < 2 ^ 62/\(j-i).toNat<=sizeLine
def fx:PV->W (O PV)
 | .int j=>.eQ (okN 0 j) (.ret (jb 0 j.toNat))
 | _=>.fail
def O2:PV->PV->PV->W (O PV)
 | .int i,.int j,.int k=>.eQ (k = -1/\okN j i) (.ret (qv i (i-j).toNat))
 | _,_,_=>.fail
def ZK(lo:Int)(n:Nat)(hz:n<=sizeLine):JF K H (Itr lo n) (jb lo n):=⟨by rw[i9];exact hz,λH' t=>⟨λi p hp=>by
  obtain⟨h1,rfl⟩:=pR hp;refine⟨h1,λx H2 y=>?_⟩;obtain⟨rfl,rfl⟩:=y;exact⟨lE.refl _,.int _⟩,by show n<=(jb lo n).length;rw[i9];exact Am _⟩⟩
theorem cU(hg:Gl X "range")(hm:X.mg "range"=bm)(ha:EF X K fs a wa)(hs:ga [a] X.env=[(false,lf a X.env)]:=by rfl):qQ X K fs tg (.Call (.Name "range" p) [a] [] pos) (.bind wa fx):=
 ⟨PI.imp (MB hg hm (aW ha.p bO hs) hs) λσ H R ⟨sr,q⟩=>⟨sr,wa.mono (λx q1 u1 H1 g1 s1 v1=>by
  cases v1 with
  | int j=>exact⟨_,rfl,q1.1.2.2.1,q1.1.2.2.2.1,q1.2 _ H1 g1 s1 (ZK _ _ (by have:=q1.1.2.2.2.2;omega))⟩
  | _=>exact q1.elim) q⟩⟩
def Uy(hg:Gl X "range")(hm:X.mg "range"=bm)(ha:EF X K fs a wa)(hb:EF X K fs b wb)(hc:EF X K fs c wc)(hs:ga [a,b,c] X.env=[(false,lf a X.env),(false,lf b X.env),(false,lf c X.env)]:=by rfl)(rm:ga [b,c] X.env=[(false,lf b X.env),(false,lf c X.env)]:=by rfl)(hs3:ga [c] X.env=[(false,lf c X.env)]:=by rfl):qQ X K fs tg (.Call (.Name "range" p) [a,b,c] [] pos) (.bind wa λx=>.bind wb λy=>.bind wc λz=>O2 x y z):=
 ⟨PI.imp (Mz hg hm (aW ha.p (aW hb.p (aW hc.p bO hs3) (by show ga _ _=_;rw[rm,hs3])) (by show ga _ _=_;rw[hs,rm])) hs rm) λσ H R ⟨sr,q⟩=>⟨sr,wa.mono (λx q1 u1 H1 g1 s1 v1=>⟨s1,wb.mono (λy q2 u2 H2 g2 s2 v2=>⟨s2,wc.mono (λz q3 u3 H3 g3 s3 v3=>by
  cases v1 with
  | int i=>
   cases v2 with
   | int j=>
    cases v3 with
    | int k=>
     obtain⟨⟨rfl,k1,k2,k3,k4,k5⟩,q3⟩:=q3;refine⟨_,_,rfl,⟨k3,k4,k1,k2⟩,q3 _ H3 ((g1.trans g2).trans g3) s3 ⟨by rw[vO];exact k5,λH' t=>⟨λi p hp=>?_,?_⟩⟩⟩
     ·obtain⟨h1,rfl⟩:=vP hp;refine⟨h1,λx H2 y=>?_⟩;obtain⟨rfl,rfl⟩:=y;exact⟨lE.refl _,.int _⟩
     ·exact Nat.le_of_eq (vO _ _).symm
    | _=>exact q3.elim
   | _=>exact q3.elim
  | _=>exact q3.elim) q2⟩) q1⟩) q⟩⟩
def og(hK:X.K=K){kk:Nat}(hg:Gl X "enumerate")(hm:X.mg "enumerate"=bm)(h:IF X K fs e wl)(HM:gZ X e []:=by rfl):qQ X K fs (.Tuple Î kk tp) (.Call (.Name "enumerate" p1) [e] [] p2) (.bind wl λl=>.eQ (l.length<=sizeLine) (.ret (dH 0 l))):=
 ⟨PI.imp (Pp K hK hg hm h.p HM) λσ H R ⟨sr,q⟩=>⟨sr,wl.mono (λl q1 u1 H1 g1 s1 v1=>by
  obtain⟨ad,vs,rfl,hh,rs⟩:=v1;have yl:∀{H':Hp}{i:Nat}{x v:V}{y:PV}{pp:ce},H' pp=bm->VR K [] H' v y->lE H' (upd H' pp (.tup [.int (i:Int),v]))/\VR K [] (upd H' pp (.tup [.int (i:Int),v])) (.ref pp) (.tup [.int ((0+i:Nat):Int),y]):=λ{H' i x v y pp} hn h4=>
   have sm:=gF hn (.tup [.int (i:Int),v])
   ⟨sm,.tup aM (.cons (by rw[AH];exact .int _) (.cons (VR.tk sm.d6 h4) .nil))⟩
  refine⟨ad,rfl,?_⟩;rcases hh with hh | hh
  ·refine .inl ⟨⟨vs,hh.sq⟩,q1.2 _ H1 g1 s1 ⟨by rw[cz];exact q1.1,λH' t=>⟨λi p hp=>?_,vs,(t.f _ _ hh).sq,by rw[rs.length,cz];exact Am _⟩⟩⟩;obtain⟨y,hy,rfl⟩:=gz hp;obtain⟨v,h3,h4⟩:=(ay.tk t rs).get hy;refine⟨⟨vs,v,(t.f _ _ hh).sq,h3⟩,λx H3 z=>?_⟩;obtain⟨pp,x0,rfl,hn,rfl,hz⟩:=z;have:=hz vs (t.f _ _ hh).sq;rw[h3]at this;cases this;exact yl (x:=.ax) hn h4
  ·refine .inr ⟨⟨vs,dj.of hh⟩,q1.2 _ H1 g1 s1 ⟨by rw[cz];exact q1.1,λH' t=>⟨λi p hp=>?_,vs,dj.of (t.t _ _ hh),by rw[rs.length,cz];exact Am _⟩⟩⟩;obtain⟨y,hy,rfl⟩:=gz hp;obtain⟨v,h3,h4⟩:=(ay.tk t rs).get hy;refine⟨⟨vs,v,dj.of (t.t _ _ hh),h3⟩,λx H3 z=>?_⟩;obtain⟨pp,x0,rfl,hn,rfl,hz⟩:=z;have:=hz vs (dj.of (t.t _ _ hh));rw[h3]at this;cases this;exact yl (x:=.ax) hn h4) q⟩⟩
end
def rX:O Nat->O V->L2.St->L2.St
 | i::is,u::us,σ=>rX is us (σ.set i (ap u))
 | _,_,σ=>σ
def fG(K:Ab)(fs:bb)(is:O Nat)(wt:PV->W T)(cE:T->bb):TG:=λv σ H Q=>∃p,aU K H σ fs/\VR K [] H v p/\(wt p).run λt=>∀us,cM σ fs H (rX is us σ) (cE t) H->aU K H (rX is us σ) (cE t)->Q (rX is us σ) H
structure GF(X:Cx)(K:Ab)(fs:bb)(tg:kw)(is:List Nat){T:Type}(wt:PV->W T)(cE:T->bb):Prop where p:PG X tg (fG K fs is wt cE)
def uj:PV->W (PV×PV)
 | .tup [a,b]=>.ret (a,b)
 | _=>.fail
def un4:PV->W (PV×PV×PV×PV)
 | .tup [a,b,c,d]=>.ret (a,b,c,d)
 | _=>.fail
section
def Wn(h:PG X tg (dY i)):GF X K fs tg [i] .ret (λp=>fs.set i (ap (.val p))):=⟨PG.imp h λv σ H Q ⟨p,sr,r,q⟩=>q [v] (cM.fy sr v p i) (sr.fy r i)⟩
def QU(hK:X.K=K)(h:PG X tg (Y0 X.K 2 (tw (dY i) (tw (dY j) Y1)))):GF X K fs tg [i,j] uj (λt=>(fs.set i (ap (.val t.1))).set j (ap (.val t.2))):=⟨PG.imp h λv σ H Q ⟨p,sr,r,q⟩=>by
 unfold uj at q
 split at q
 ·cases r with
  | tup e rs=>
   cases rs with
   | cons ra t=>
   cases t with
   | cons rb t=>
   cases t;have s1:=sr.fy ra i;exact⟨_,_,rfl,dj.of e,rfl,_,_,rfl,_,_,rfl,rfl,q [_,_] ((cM.fy sr _ _ i).trans (cM.fy s1 _ _ j)) (s1.fy rb j)⟩
 ·exact q.elim⟩
def g_4{l:Nat}(hK:X.K=K)(h:PG X tg (Y0 X.K 4 (tw (dY i) (tw (dY j) (tw (dY k) (tw (dY l) Y1)))))):GF X K fs tg [i,j,k,l] un4 (λt=>(((fs.set i (ap (.val t.1))).set j (ap (.val t.2.1))).set k (ap (.val t.2.2.1))).set l (ap (.val t.2.2.2))):=⟨PG.imp h λv σ H Q ⟨p,sr,r,q⟩=>by
 unfold un4 at q
 split at q
 ·cases r with
  | tup e rs=>
   cases rs with
   | cons ra t=>
   cases t with
   | cons rb t=>
   cases t with
   | cons rc t=>
   cases t with
   | cons rd t=>
   cases t;have s1:=sr.fy ra i;have s2:=s1.fy rb j;have s3:=s2.fy rc k;exact⟨_,_,rfl,dj.of e,rfl,_,_,rfl,_,_,rfl,_,_,rfl,_,_,rfl,rfl,q [_,_,_,_] ((((cM.fy sr _ _ i).trans (cM.fy s1 _ _ j)).trans (cM.fy s2 _ _ k)).trans (cM.fy s3 _ _ l)) (s3.fy rd l)⟩
 ·exact q.elim⟩
end
section
variable{S T:Type}
def cA:O PV->S->(PV->S->W S)->W S
 | [],s,_=>.ret s
 | x::r,s,f=>.bind (f x s) λs'=>cA r s' f
inductive Lp(S T:Type) where
 | go (s:S) | out (t:T)
def ma:O PV->S->(PV->S->W (Lp S T))->W (Lp S T)
 | [],s,_=>.ret (.go s)
 | x::r,s,f=>.bind (f x s) λo=>match o with
  | .go s'=>ma r s' f
  | .out t=>.ret (.out t)
def Nl(k:S->W T)(inj:R->T):Lp S R->W T
 | .go s=>k s
 | .out r=>.ret (inj r)
@[simp] theorem agI(k:S->W T)(inj:R->T)(s:S):Nl k inj (.go s)=k s:=(rfl)
@[simp] theorem ad9(k:S->W T)(inj:R->T)(r:R):Nl k inj (.out r)=.ret (inj r):=(rfl)
def lpE(hd:S->bb)(out:R->End):Lp S R->End
 | .go s=>.nc (hd s)
 | .out r=>out r
def mC(c:S->W Bool)(b:S->W S):Nat->S->W S
 | 0,_=>.fail
 | n+1,s=>.bind (c s) λk=>if k=true then .bind (b s) (mC c b n) else .ret s
def HY(c:S->W Bool)(b:S->W S)(s:S):W S:=⟨λQ=>∃n,(mC c b n s).run Q,λh ⟨n,q⟩=>⟨n,(mC c b n s).mono h q⟩⟩
end
section
variable{c:kw}{rest:O ss}{S T T2:Type}{hd:S->bb}{s0:S}{wt:PV->W T2}{cE:S->T2->bb}{k:S->W T}{out:T->End}{R:Type}{inj:R->T}
theorem SF.for{f:PV->S->W S}{wb:T2->S->W S}(hp:vR (ev X.prog X.w) X.A X.env X.xe)(hc:X.calm=true)(hi:qQ X K fs tg iter wl)(hl:gA fs (hd s0))(hg:∀s,GF X K (hd s) tg is wt (cE s))(hf:∀p s,f p s=.bind (wt p) λt=>wb t s)
  (hb:∀s t,SF X K false (cE s t) body (wb t s) λs'=>.nc (hd s')) (hr:∀s,SF X K x (hd s) rest (k s) out) (hs:um X iter:=by intro _;rfl) :
  SF X K x fs (.For tg iter body [] pos::rest) (.bind wl λl=>.bind (cA l s0 f) k) out:=by
 refine SF.step (Im (g:=λv σ H Q=>∃s,fG K (hd s) is wt (cE s) v σ H Q) (tb:=λD σ H=>∃s t,fS K false (cE s t) (wb t s) (λs'=>.nc (hd s')) D σ H) hp hc hi.p (λZ s σ H v u Q I r ⟨s1,q⟩=>(hg s1).p Z s σ H v u Q I r q) (λZ s σ H D I ⟨s1,t1,q⟩=>(hb s1 t1).p Z s σ H D I q) hs) λD σ H ⟨sr,q⟩=>?_;refine⟨sr,wl.mono (λl q1 J H1 g1 s1 jf=>?_) q⟩;refine⟨λi m σ' H'=>∃s,aU K H' σ' (hd s)/\cM σ fs H σ' (hd s) H'/\JF K H' J l/\m=l.length-i/\i<=l.length/\(cA (l.drop i) s f).run λs'=>(k s').run λt=>bQ K x σ fs H D (out t),⟨l.length,s0,s1.le hl,g1.f.trans (cM.le s1 hl),jf,by simp,A8 _,by simpa using q1⟩,?_⟩;rintro i m σ2 H2 ⟨s,s2,g2,Uv,rfl,hi,q2⟩;obtain⟨j1,j2⟩:=Uv.2 H2 (bh.refl H2);by_cases ir:i < l.length
 ·obtain⟨go,yl⟩:=j1 i _ (Ad ir);have ed:=Bm ir;rw[ed]at q2;refine .inr ⟨go,λσ3 H3=>∃s',aU K H3 σ3 (hd s')/\cM σ fs H σ3 (hd s') H3/\JF K H3 J l/\(cA (l.drop (i+1)) s' f).run λs'=>(k s').run λt=>bQ K x σ fs H D (out t),λσ3 H3 ⟨s',a1,a2,a3,a4⟩=>⟨l.length-(i+1),by omega,s',a1,a2,a3,rfl,ir,a4⟩,λv H3 y=>?_⟩;obtain⟨sm,vx⟩:=yl v H3 y;have q2:(f l[i] s).run λs'=>(cA (l.drop (i+1)) s' f).run λs'=>(k s').run λt=>bQ K x σ fs H D (out t):=q2;rw[hf]at q2;have s3:=s2.same sm;have g3:=g2.trans (cM.same sm s2);refine⟨s,_,s3,vx,(wt l[i]).mono (λt q4 us g4 s4=>?_) q2⟩;refine⟨s,t,s4,(wb t s).mono (λs' q5 σ5 H5 g5 s5=>?_) q4⟩;have fin:∃s',aU K H5 σ5 (hd s')/\cM σ fs H σ5 (hd s') H5/\JF K H5 J l/\(cA (l.drop (i+1)) s' f).run λs'=>(k s').run λt=>bQ K x σ fs H D (out t):=⟨s',s5,(g3.trans g4).trans g5,Uv.tk (bh.trans sm.d6 (bh.trans (g4.d7 s3) (g5.d7 s4))),q5⟩;exact⟨λ_=>fin,fin⟩
 ·have e:i=l.length:=by omega
  subst e;rw[DE]at q2;exact .inl ⟨j2,hd s,k s,hr s,s2,(k s).mono (λt q3=>q3.go g2 sr s2) q2⟩
theorem SF.ma{f:PV->S->W (Lp S R)}{wb:T2->S->W (Lp S R)}(hp:vR (ev X.prog X.w) X.A X.env X.xe)(hc:X.calm=true)(hi:qQ X K fs tg iter wl)(hl:gA fs (hd s0))(hg:∀s,GF X K (hd s) tg is wt (cE s))(hf:∀p s,f p s=.bind (wt p) λt=>wb t s)
  (ho:∀t,(out (inj t)).Qy)
  (hb:∀s t,SF X K false (cE s t) body (wb t s) (lpE hd λr=>out (inj r))) (hr:∀s,SF X K x (hd s) rest (k s) out) (hs:um X iter:=by intro _;rfl) :
  SF X K x fs (.For tg iter body [] pos::rest) (.bind wl λl=>.bind (FL.ma l s0 f) (Nl k inj)) out:=by
 refine SF.step (Im (g:=λv σ H Q=>∃s,fG K (hd s) is wt (cE s) v σ H Q) (tb:=λD σ H=>∃s t,fS K false (cE s t) (wb t s) (lpE hd λr=>out (inj r)) D σ H) hp hc hi.p (λZ s σ H v u Q I r ⟨s1,q⟩=>(hg s1).p Z s σ H v u Q I r q) (λZ s σ H D I ⟨s1,t1,q⟩=>(hb s1 t1).p Z s σ H D I q) hs) λD σ H ⟨sr,q⟩=>?_;refine⟨sr,wl.mono (λl q1 J H1 g1 s1 jf=>?_) q⟩;have lo:∀(D':Ends) (y:Bool) (t:R),D'.rt=D.rt->bQ K x σ fs H D (out (inj t))->bQ K y σ fs H D' (out (inj t)):=λD' y t e h=>bQ.afz (ho t) e h;refine⟨λi m σ' H'=>∃s,aU K H' σ' (hd s)/\cM σ fs H σ' (hd s) H'/\JF K H' J l/\m=l.length-i/\i<=l.length/\(FL.ma (l.drop i) s f).run λo=>(Nl k inj o).run λt=>bQ K x σ fs H D (out t),⟨l.length,s0,s1.le hl,g1.f.trans (cM.le s1 hl),jf,by simp,A8 _,by simpa using q1⟩,?_⟩;rintro i m σ2 H2 ⟨s,s2,g2,Uv,rfl,hi,q2⟩;obtain⟨j1,j2⟩:=Uv.2 H2 (bh.refl H2);by_cases ir:i < l.length
 ·obtain⟨go,yl⟩:=j1 i _ (Ad ir);have ed:=Bm ir;rw[ed]at q2;refine .inr ⟨go,λσ3 H3=>∃s',aU K H3 σ3 (hd s')/\cM σ fs H σ3 (hd s') H3/\JF K H3 J l/\(FL.ma (l.drop (i+1)) s' f).run λo=>(Nl k inj o).run λt=>bQ K x σ fs H D (out t),λσ3 H3 ⟨s',a1,a2,a3,a4⟩=>⟨l.length-(i+1),by omega,s',a1,a2,a3,rfl,ir,a4⟩,λv H3 y=>?_⟩;obtain⟨sm,vx⟩:=yl v H3 y;have q2:(f l[i] s).run λo=>(match o with | .go s'=>FL.ma (l.drop (i+1)) s' f | .out t=>bd (.out t)).run λo=>(Nl k inj o).run λt=>bQ K x σ fs H D (out t):=q2;rw[hf]at q2;have s3:=s2.same sm;have g3:=g2.trans (cM.same sm s2);refine⟨s,_,s3,vx,(wt l[i]).mono (λt q4 us g4 s4=>?_) q2⟩;refine⟨s,t,s4,(wb t s).mono (λo q5=>?_) q4⟩;cases o with
  | out t5=>
   refine bQ.go (g3.trans g4) sr s4 (lo _ false t5 ?_ q5);rfl
  | go s'=>
   intro σ5 H5 g5 s5;have fin:∃s',aU K H5 σ5 (hd s')/\cM σ fs H σ5 (hd s') H5/\JF K H5 J l/\(FL.ma (l.drop (i+1)) s' f).run λo=>(Nl k inj o).run λt=>bQ K x σ fs H D (out t):=⟨s',s5,(g3.trans g4).trans g5,Uv.tk (bh.trans sm.d6 (bh.trans (g4.d7 s3) (g5.d7 s4))),q5⟩;exact⟨λ_=>fin,fin⟩
 ·have e:i=l.length:=by omega
  subst e;rw[DE]at q2;exact .inl ⟨j2,hd s,k s,hr s,s2,(k s).mono (λt q3=>q3.go g2 sr s2) q2⟩
def SF.aas{cw:S->W Bool}{b:S->W S}(hp:vR (ev X.prog X.w) X.A X.env X.xe)(hl:gA fs (hd s0))(hc:∀s,TF X K (hd s) c (cw s))(hb:∀s,SF X K false (hd s) body (b s) λs'=>.nc (hd s'))(hr:∀s,SF X K x (hd s) rest (k s) out) :
  SF X K x fs (.While c body [] pos::rest) (.bind (HY cw b s0) k) out:=by
 refine SF.step (Ph (tc:=λσ H Q=>∃s,fT K (hd s) (cw s) σ H Q) (tb:=λD σ H=>∃s,fS K false (hd s) (b s) (λs'=>.nc (hd s')) D σ H) hp (λZ s σ H Q I ⟨s1,q⟩=>(hc s1).p Z s σ H Q I q) (λZ s σ H D I ⟨s1,q⟩=>(hb s1).p Z s σ H D I q)) λD σ H ⟨sr,n,q⟩=>?_;refine⟨λm σ' H'=>∃s,aU K H' σ' (hd s)/\cM σ fs H σ' (hd s) H'/\(mC cw b m s).run λs'=>(k s').run λt=>bQ K x σ fs H D (out t),⟨n,s0,sr.le hl,cM.le sr hl,q⟩,?_⟩;rintro m σ1 H1 ⟨s,s1,g1,q1⟩;cases m with
 | zero=>exact q1.elim
 | succ m=>
  refine⟨s,s1,(cw s).mono (λkk q2 H2 g2 s2=>?_) q1⟩;cases kk with
  | false=>
   refine xK ?_;exact⟨hd s,k s,hr s,s2,(k s).mono (λt q3=>q3.go (g1.trans g2.f) sr s2) q2⟩
  | true=>
   refine xJ ?_;refine⟨λσ3 H3=>∃s,aU K H3 σ3 (hd s)/\cM σ fs H σ3 (hd s) H3/\(mC cw b m s).run λs'=>(k s').run λt=>bQ K x σ fs H D (out t),λσ3 H3 a=>⟨m,EJ m,a⟩,s,s2,(b s).mono (λs' q5 σ5 H5 g5 s5=>?_) q2⟩;have fin:∃s,aU K H5 σ5 (hd s)/\cM σ fs H σ5 (hd s) H5/\(mC cw b m s).run λs'=>(k s').run λt=>bQ K x σ fs H D (out t):=⟨s',s5,(g1.trans g2.f).trans g5,q5⟩;exact⟨λ_=>fin,fin⟩
end
end
end FL
variable{f:PL.PV->FL.W (Option PL.PV)}{mY:FL.bb}
namespace FL
section
variable{K:Ab}
def mq:O PV->(PV->W (Option PV))->W (O PV)
 | [],_=>.ret []
 | x::r,f=>.bind (f x) λo=>.bind (mq r f) λl=>.ret (o.toList++l)
def a7:O PV->(PV->W PV)->W (O PV)
 | [],_=>.ret []
 | x::r,f=>.bind (f x) λy=>.bind (a7 r f) λl=>.ret (y::l)
theorem xf(f:PV->W PV):∀l,a7 l f=mq l λp=>.bind (f p) λv=>.ret (ap v)
 | []=>rfl
 | x::r=>by
  show am (f x) (λy=>am (a7 r f) λl=>bd (y::l))=am (f x) λy=>am (mq r _) λl=>bd (y::l);rw[xf f r]
def bq(ix:O (Option Nat))(fs:bb):bb:=ix.map λo=>match o with | some j=>(fs[j]?).getD bm | none=>bm
section
def oO{s:SL}(h:(bq ix fs)[i]?=ap (ap s)):∃j,ix[i]?=ap (ap j)/\fs[j]?=ap (ap s):=by
 unfold bq at h;rw[Al]at h;cases q:ix[i]? with
 | none=>rw[q]at h;cases h
 | some o=>
  rw[q]at h;cases o with
  | none=>cases h
  | some j=>
   refine⟨j,rfl,?_⟩;have h:(fs[j]?).getD bm=ap s:=Option.some.inj h;cases z:fs[j]? with
   | none=>rw[z]at h;cases h
   | some y=>rw[z]at h;exact congrArg ap h
def lX(h:ix[i]?=ap (ap j))(e:σ[j]?=ap (ap u)):(oM ix σ)[i]?=ap (ap u):=by
 unfold oM;rw[Al,h];show ap ((σ[j]?).getD bm)=_;rw[e];rfl
def aU.fw(s:aU K H σ fs)(inj:∀i i' j:Nat,ix[i]?=ap (ap j)->ix[i']?=ap (ap j)->i=i'):aU K H (oM ix σ) (bq ix fs):=by
 refine⟨by unfold oM bq;simp,λi t e=>?_,λi i' t u x y a e1 e2 o1 o2 q1 q2 z1 z2=>?_⟩
 ·obtain⟨j,h1,h2⟩:=oO e;obtain⟨u,h3,h4⟩:=s.at' j t h2;exact⟨u,lX h1 h3,h4⟩
 ·obtain⟨j,h1,h2⟩:=oO e1;obtain⟨j',gR,rq⟩:=oO e2;obtain⟨u1,h3,_⟩:=s.at' j t h2;obtain⟨u2,QP,_⟩:=s.at' j' u rq;rw[lX h1 h3]at q1;rw[lX gR QP]at q2;cases q1;cases q2;have:=s.nd j j' t u x y a h2 rq o1 o2 h3 QP z1 z2;subst this;exact inj i i' j h1 gR
structure Vz(ix:List (Option Nat))(σ:L2.St)(fs:bb)(σ':L2.St)(bC:bb):Prop where
 own:∀(i:Nat) (t:SL),bC[i]?=ap (ap t)->t.own=true->∃j,ix[i]?=ap (ap j)/\fs[j]?=ap (ap t)/\σ'[i]?=σ[j]?
def Vz.w5(h:Vz ix σ fs σ' bC)(o:dJ σ' bC a):dJ σ fs a:=by
 obtain⟨i,t,x,e1,e2,e3,e4⟩:=o;obtain⟨j,h1,h2,h3⟩:=h.own i t e1 e2;exact⟨j,t,x,h2,e2,h3▸e3,e4⟩
def Vz.kF(h:Vz ix σ fs σ' bC)(o:iz σ' bC φ a):iz σ fs φ a:=by
 obtain⟨i,e1,e3⟩:=o;obtain⟨j,h1,h2,h3⟩:=h.own i _ e1 rfl;exact⟨j,h2,h3▸e3⟩
def Vz.out(h:Vz ix σ fs σ' bC)(s:aU K H1 σ fs)(g:cO σ' bC H1 H2)(s2:aU K H2 σ' bC):aU K H2 σ fs/\cO σ fs H1 H2:=by
 have gf:cO σ fs H1 H2:=⟨λa o e n=>g.keep a o e λφ z=>n φ (h.kF z),g.there⟩;refine⟨⟨s.len,λj t e=>?_,s.nd⟩,gf⟩;obtain⟨u,h1,h2⟩:=s.at' j t e;refine⟨u,h1,?_⟩;have tk:=gf.d7 s;rcases h2 with⟨v,q,r⟩ | ⟨a,q,r⟩
 ·exact .inl ⟨v,q,VR.tk tk r⟩
 ·subst q;refine .inr ⟨a,rfl,?_⟩;by_cases c:∃b,t.own=true/\t.has a b/\dJ σ' bC b
  ·obtain⟨b,ow,hb,i,t',x,c1,c2,c3,c4⟩:=c;obtain⟨j',k1,k2,k3⟩:=h.own i t' c1 c2;have jj:=s.nd j j' t t' a x b e k2 ow c2 h1 (k3▸c3) hb c4;subst jj;rw[e]at k2;cases k2;exact s2.ownAt c1 c2 (k3.trans h1)
  ·exact r.mono tk (λb o ow hb z=>g.vC z λy=>c ⟨b,ow,hb,y⟩)
theorem rV:∀{is:O Nat}{us:O V}{σ:L2.St}{i:Nat},i∉is->(rX is us σ)[i]?=σ[i]?
 | [],us,σ,i,_=>by cases us <;> rfl
 | j::is,[],σ,i,_=>rfl
 | j::is,u::us,σ,i,h=>by
  rw[rX,rV (λz=>h (AZ _ z))];exact aP (λz=>h (by rw[z];exact Bu))
end
section
variable{T2:Type}{wt:PV->W T2}{cE:T2->bb}{tf:T2->W Bool}{te:T2->W PV}
structure FF(X:Cx)(K:Ab)(fs:bb)(É:List kw)(w:W Bool):Prop where p:PFs X É (fT K fs w)
def Jx:FF X K fs [] (.ret true):=⟨λZ s σ H Q I ⟨sr,q⟩=>Tj Z s σ H Q I (q H .refl sr)⟩
def yn{c:kw}{w:W Bool}(h:TF X K fs c w):FF X K fs [c] w:=⟨Ti h.p⟩
def qP(is:O Nat)(mY:bb)(cE:T2->bb):Prop:=∀t,(cE t).length=mY.length/\∀(i:Nat) (s:SL),(cE t)[i]?=ap (ap s)->(i∈is/\s.own=false)\/(i∉is/\mY[i]?=ap (ap s))
theorem Q5(S:bc X.env.scope X.N sc N' ix)(hb:mY=bq ix fs)(hf:∀p,f p=.bind (wt p) λt=>.bind (tf t) λk=>if k=true then .bind (te t) λv=>.ret (ap v) else .ret bm)(hl:qP is mY cE)(hr:∀t,gA (cE t) mY)(uJ:∀j∈is,ix[j]?=ap bm) :
  ∀σ H Q,fL K fs (.bind wl λl=>mq l f) σ H Q->tLc ix (fIt K fs wl) (λv σ H Q=>fG K mY is wt cE v σ H Q) (λσ H Q=>∃t,fT K (cE t) (tf t) σ H Q) (λσ H Q=>∃t,fE K (cE t) (te t) σ H Q) σ H Q:=by
 subst hb;rintro σ H Q ⟨sr,q⟩;refine⟨sr,wl.mono (λl q1 J H1 g1 s1 jf D hD=>?_) q⟩;have inj:∀i i' j:Nat,ix[i]?=ap (ap j)->ix[i']?=ap (ap j)->i=i':=λi i' j h1 h2=>by
  have hi:i < N'.length:=by rw[<- S.len];exact(Ak.mp h1).1
  have xR:i' < N'.length:=by rw[<- S.len];exact(Ak.mp h2).1
  have e1:=(S.at h1 (Ad hi)).1;have e2:=(S.at h2 (Ad xR)).1;rw[e1]at e2;exact(List.getElem_inj S.nd).mp (Option.some.inj e2)
 have nD:=s1.noOwn hD;refine⟨λi m σ' ys H'=>∃Ä,aU K H' σ fs/\cO σ fs H H'/\aU K H' σ' (bq ix fs)/\Vz ix σ fs σ' (bq ix fs)/\JF K H' J l/\H' D=ap (.lst ys)/\ay K [] H' ys Ä/\Ä.length<=i/\m=l.length-i/\i<=l.length/\
  (mq (l.drop i) f).run λr=>∀a vs H',cO σ fs H H'->aU K H' σ fs->H a=bm->H' a=ap (.lst vs)->ay K [] H' vs (Ä++r)->Q (.ref a) H',⟨l.length,[],?_⟩,?_⟩
 ·have sm:=gF hD (.lst []);refine⟨s1.same sm,g1.trans (cO.same sm),(s1.same sm).fw inj,⟨λi t e o=>?_⟩,jf.tk sm.d6,aM,.nil,A8 _,by simp,A8 _,by simpa using q1⟩;obtain⟨j,h1,h2⟩:=oO e;obtain⟨u,h3,_⟩:=s1.at' j t h2;exact⟨j,h1,h2,by rw[lX h1 h3,h3]⟩
 rintro i m σ2 ys H2 ⟨Ä,sO,gO,s2,We,Uv,hy,vy,acz,rfl,hi,q2⟩;refine⟨hy,?_⟩;obtain⟨j1,j2⟩:=Uv.2 H2 (bh.refl H2);by_cases ir:i < l.length
 ·obtain⟨go,yl⟩:=j1 i _ (Ad ir);have ed:=Bm ir;rw[ed]at q2;refine .inr ⟨go,λv H3 y=>?_⟩;obtain⟨sm,vx⟩:=yl v H3 y;have q2:(f l[i]).run λo=>(mq (l.drop (i+1)) f).run λr=>∀a vs H',cO σ fs H H'->aU K H' σ fs->H a=bm->H' a=ap (.lst vs)->ay K [] H' vs (Ä++(o.toList++r))->Q (.ref a) H':=q2;rw[hf]at q2;have s3:=s2.same sm;have sO3:=sO.same sm;have gO3:=gO.trans (cO.same sm);have hy3:=sm _ _ hy;have vy3:=ay.tk sm.d6 vy;have jf3:=Uv.tk sm.d6;refine⟨_,s3,vx,(wt l[i]).mono (λt q4 us g4 s4=>?_) q2⟩;have UD:Vz ix σ fs (rX is us σ2) (cE t):=⟨λj u e o=>by
   rcases (hl t).2 j u e with⟨_,z⟩ | ⟨n,z⟩
   ·rw[z]at o;cases o
   ·obtain⟨j',k1,k2,k3⟩:=We.own j u z o;exact⟨j',k1,k2,by rw[rV n];exact k3⟩⟩
  refine⟨t,s4,(tf t).mono (λkk q5 H5 g5 s5=>?_) q4⟩;obtain⟨sO5,agL⟩:=UD.out sO3 g5 s5;have gO5:=gO3.trans agL;have tk5:=g5.d7 s4;have nD4:¬dJ (rX is us σ2) (cE t) D:=λz=>nD (UD.w5 z);have hy5:=g5.vC hy3 nD4;have vy5:=ay.tk tk5 vy3;have jf5:=jf3.tk (g5.d7 s4);have Ê:∀{H6:Hp},aU K H6 (rX is us σ2) (cE t)->aU K H6 (rX is us σ2) (bq ix fs)/\Vz ix σ fs (rX is us σ2) (bq ix fs):=λ{H6} z=>⟨z.le (hr t),⟨λj u e o=>UD.own j u ((hr t).at j u e) o⟩⟩;cases kk with
  | false=>
   refine xK ⟨l.length-(i+1),by omega,Ä,sO5,gO5,(Ê s5).1,(Ê s5).2,jf5,hy5,vy5,by omega,rfl,ir,?_⟩;exact q5
  | true=>
   refine xJ ⟨t,s5,(te t).mono (λv6 q6 u6 H6 g6 s6 v6'=>?_) q5⟩;obtain⟨sO6,agK⟩:=UD.out sO5 g6 s6;have gO6:=gO5.trans agK;have tk6:=g6.d7 s5;have ö:=g6.vC hy5 nD4;have vy6:=ay.tk tk6 vy5;have tkD:=qT (K:=K) (.lst (ys++[u6])) ö;have hD0:=g1.there D hD;refine⟨ö,by rw[vy6.length];have:=Uv.1;omega,l.length-(i+1),by omega,Ä++[v6],sO6.side nD ö _,gO6.side hD0 _,((Ê s6).1).side (λz=>nD ((Ê s6).2.w5 z)) ö _,(Ê s6).2,(jf5.tk (g6.d7 s5)).tk (qT _ ö),aM,ay.tk tkD (vy6.append (.cons v6' .nil)),by rw[Ai];simp;omega,rfl,ir,?_⟩;refine(mq (l.drop (i+1)) f).mono (λr q7 a vs H7 g7 s7 n e v7=>q7 a vs H7 g7 s7 n e ?_) q6;simpa using v7
 ·have e:i=l.length:=by omega
  subst e;rw[DE]at q2;exact .inl ⟨j2,q2 D ys H2 gO sO (g1.there D hD) hy (by simpa using vy)⟩
end
end
end FL
namespace L2
def qH(l:ce)(items:Array bn)(n:Nat)(b:ce)(bU:Array bn)(n2:Nat)(sl:Array (Option bn))(hc0:¬(!items.isEmpty&&Builtin.List.listTooLong (items.size+bU.size))=true)(hc1:items.size<=sizeLine)(rm:items.size+bU.size<=sizeLine+1) :
  Meets (vD.«list.extend» ⟨[.ref l,.ref b],[]⟩) (λ_ R s=>s.heap.get? l=ap {cls:=.type "list",dict:=bm,data:=.seq items n,slots:=#[]}/\s.heap.get? b=ap {cls:=.type "list",dict:=bm,data:=.seq bU n2,slots:=sl}/\R (.ok (.ret AU)) {s with heap:=s.heap.update l (Bn λx=>x++bU),toks:=s.toks}):=
 .of_wp λprog w A R s h=>by
  obtain⟨hp,g,d,tk,os⟩:=s;obtain⟨hl,hb,h⟩:=h;have f1:=ES;have f2:=Dz;have f3:=DT;have f4:=DK;have f5:=DL;have Nd:(items++bU).size<=sizeLine+1:=by rw[Array.size_append];exact rm
  wp_walk using (CH hl rfl (hz:=hc1) (_hz':=Nd)),BW hl,BW hb;exact⟨_,rfl,h⟩
def abi(K:Ab):V->O V->Hp->VK->Prop:=λx vs H Q=>∃l b xs zs,x=.ref l/\vs=[.ref b]/\H l=ap (.lst xs)/\(c6 K H b zs\/dj K H b zs)/\xs.length+zs.length<=sizeLine/\zE H l (.lst (xs++zs)) (Q .ax)
theorem T8(K:Ab)(hK:X.K=K):L6 X "list.extend" (abi K):=by
 subst hK;intro Z s σ H x vs v us Q I rx rv h;obtain⟨l,b,xs,zs,rfl,rfl,hH,hB | hB,hz,q⟩:=h
 ·cases rx;obtain⟨u,rfl,ru⟩:=rv.one;cases ru;obtain⟨z,ao,n,r,hl,e⟩:=I.qC hH;obtain⟨bS,r2,⟨⟨cls,dd,data,sl⟩,n2,e2,hc,hd,ou⟩,z2⟩:=I.list hB;simp only at hc hd ou;subst hc hd ou;have Sd:=r2.length;have hsz:ao.toArray.size+bS.toArray.size<=sizeLine:=by rw[Ah,Ah];omega
  have sX:¬(!ao.toArray.isEmpty&&Builtin.List.listTooLong (ao.toArray.size+bS.toArray.size))=true:=by
   rw[nK hsz,En];exact A4
  refine sK Eb ⟨_,e,rfl⟩ DW (DJ _ _)
   (qH l ao.toArray n b bS.toArray n2 sl sX (by rw[Ah];omega) ∅) ⟨e,e2,?_⟩
  refine⟨.ax,_,I.IJ (its':=ao++bS) hH e (by simp) (r.append r2) ?_,rfl,q.at⟩;rw[Ai];omega
 ·exact Gg Z s σ H _ _ v us Q I rx rv ⟨l,b,xs,zs,rfl,rfl,hH,hB,hz,q⟩
end L2
variable{y z:B7}{wi we:FL.W PL.PV}
namespace FL
section
variable{K:Ab}
section
variable{T2:Type}{wt:PV->W T2}{cE:T2->bb}{tf:T2->W Bool}{te:T2->W PV}
def Yn(hc:X.calm=true)(S:bc X.env.scope X.N sc N' ix)(hi:qQ X K fs tg iter wl)(hg:∀cl C s2 H2 fp,GF (fw X sc N' cl C s2 H2 fp) K (bq ix fs) tg is wt cE)(û:∀cl C s2 H2 fp t,FF (fw X sc N' cl C s2 H2 fp) K (cE t) É (tf t))(he:∀cl C s2 H2 fp t,EF (fw X sc N' cl C s2 H2 fp) K (cE t) Ã (te t))
  (hf:∀p,f p=.bind (wt p) λt=>.bind (tf t) λk=>if k=true then .bind (te t) λv=>.ret (ap v) else .ret bm) (hl:qP is (bq ix fs) cE/\∀t,gA (cE t) (bq ix fs)) (uJ:∀j∈is,ix[j]?=ap bm) (hs:um X iter:=by intro _;rfl) :
  LF X K fs (.ListComp Ã [⟨tg,iter,É,0⟩] sc pos) (.bind wl λl=>mq l f):=
 ⟨PE.imp (abq hc S hi.p (λcl C s2 H2 fp=>(hg cl C s2 H2 fp).p) (λcl C s2 H2 fp Z s σ H Q I ⟨t,q⟩=>(û cl C s2 H2 fp t).p Z s σ H Q I q) (λcl C s2 H2 fp Z s σ H Q I ⟨t,q⟩=>(he cl C s2 H2 fp t).p Z s σ H Q I q) hs) (Q5 S rfl hf hl.1 hl.2 uJ)⟩
def V3{f:PV->W PV}(hc:X.calm=true)(S:bc X.env.scope X.N sc N' ix)(hi:qQ X K fs tg iter wl)(hg:∀cl C s2 H2 fp,GF (fw X sc N' cl C s2 H2 fp) K (bq ix fs) tg is wt cE)(he:∀cl C s2 H2 fp t,EF (fw X sc N' cl C s2 H2 fp) K (cE t) Ã (te t))
  (hf:∀p,f p=.bind (wt p) te) (hl:qP is (bq ix fs) cE/\∀t,gA (cE t) (bq ix fs)) (uJ:∀j∈is,ix[j]?=ap bm) (hs:um X iter:=by intro _;rfl) :
  LF X K fs (.ListComp Ã [⟨tg,iter,[],0⟩] sc pos) (.bind wl λl=>a7 l f):=by
 have:(λl=>a7 l f)=λl=>mq l λp=>.bind (wt p) λt=>.bind (.ret true) λk=>if k=true then .bind (te t) λv=>.ret (ap v) else .ret bm:=funext λl=>by
  rw[xf];congr 1;funext p;rw[hf];rfl
 rw[this];exact Yn (tf:=λ_=>.ret true) hc S hi hg (λ_ _ _ _ _ _=>Jx) he (λp=>rfl) hl uJ hs
def SF.OT{rest:O ss}{out:T->End}{k:O PV->W T}(hc:X.calm=true)(hN:X.N.Nodup)(xR:X.N[i]?=ap y)(hx:X.env.scope.names.lookup y=ap .local)(S:bc X.env.scope X.N sc N' ix)(hi:qQ X K fs tg iter wl)(hg:∀cl C s2 H2 fp,GF (fw X sc N' cl C s2 H2 fp) K (bq ix fs) tg is wt cE)(û:∀cl C s2 H2 fp t,FF (fw X sc N' cl C s2 H2 fp) K (cE t) É (tf t))(he:∀cl C s2 H2 fp t,EF (fw X sc N' cl C s2 H2 fp) K (cE t) Ã (te t))
  (hf:∀p,f p=.bind (wt p) λt=>.bind (tf t) λk=>if k=true then .bind (te t) λv=>.ret (ap v) else .ret bm) (hl:qP is (bq ix fs) cE/\∀t,gA (cE t) (bq ix fs)) (uJ:∀j∈is,ix[j]?=ap bm) (hr:∀l,SF X K x (fs.set i (ap (.ol bm l))) rest (k l) out)
  (oo:lc (.ListComp Ã [⟨tg,iter,É,0⟩] sc pos) (ap (.Name y px)) kr.line X.env=pure true:=by rfl) (hs:um X iter:=by intro _;rfl) :
  SF X K x fs (.Assign [.Name y px] (.ListComp Ã [⟨tg,iter,É,0⟩] sc pos) kr::rest) (.bind (.bind wl λl=>mq l f) k) out:=
 SF.step (zV hc hN xR hx S hi.p (λcl C s2 H2 fp=>(hg cl C s2 H2 fp).p) (λcl C s2 H2 fp Z s σ H Q I ⟨t,q⟩=>(û cl C s2 H2 fp t).p Z s σ H Q I q) (λcl C s2 H2 fp Z s σ H Q I ⟨t,q⟩=>(he cl C s2 H2 fp t).p Z s σ H Q I q) oo hs) λD σ H ⟨sr,q⟩=>
  Q5 (K:=K) S rfl hf hl.1 hl.2 uJ σ H _ ⟨sr,(am wl λl=>mq l f).mono (λl q1 a ws H1 g1 s1 n e v1=>by
   have no:=sr.noOwn n;have s2:=s1.wQ (t:=.ol bm l) ⟨by simp,ws,e,v1⟩ no i;exact⟨_,k l,hr l,s2,(k l).mono (λt q2=>q2.go (cM.wQ s1 g1.f no n i) sr s2) q1⟩) q⟩
theorem xl:∀{l:bb}{i:Nat} (s:Option SL),l[i]?=ap bm->gA (l.set i s) l
 | [],_,_,h=>by simp at h
 | x::l,0,s,h=>by
  simp at h;subst h;exact .drop (gA.refl l)
 | x::l,i+1,s,h=>by
  rw[List.set_cons_succ];exact .keep (xl s (by simpa using h))
def gA.trans{a b c:bb}(h1:gA a b)(h2:gA b c):gA a c:=by
 induction h1 generalizing c with
 | nil=>exact h2
 | drop h ih=>cases h2 with | drop h2=>exact .drop (ih h2) | keep h2=>exact .drop (ih h2)
 | keep h ih=>cases h2 with | drop h2=>exact .drop (ih h2) | keep h2=>exact .keep (ih h2)
def sQ{l:bb}{is:O Nat}(hl:l.length=mY.length/\∀(j:Nat) (s:SL),l[j]?=ap (ap s)->(j∈is/\s.own=false)\/(j∉is/\mY[j]?=ap (ap s)))(hi:mY[i]?=ap bm) :
  (l.set i (ap (.val v))).length=mY.length/\∀(j:Nat) (s:SL),(l.set i (ap (.val v)))[j]?=ap (ap s)->(j∈is++[i]/\s.own=false)\/(j∉is++[i]/\mY[j]?=ap (ap s)):=by
 refine⟨by rw[BQ];exact hl.1,λj s e=>?_⟩;rcases cT e with⟨rfl,rfl⟩ | ⟨n,e⟩
 ·exact .inl ⟨by simp,rfl⟩
 ·rcases hl.2 j s e with⟨h1,h2⟩ | ⟨h1,h2⟩
  ·exact .inl ⟨by simp[h1],h2⟩
  ·exact .inr ⟨by simp[h1,n],h2⟩
def V1(mY:bb):mY.length=mY.length/\∀(j:Nat) (s:SL),mY[j]?=ap (ap s)->(j∈([]:O Nat)/\s.own=false)\/(j∉([]:O Nat)/\mY[j]?=ap (ap s)):=⟨rfl,λj s e=>.inr ⟨by simp,e⟩⟩
def Qa(hi:mY[i]?=ap bm):qP [i] mY (λp=>mY.set i (ap (.val p)))/\∀t,gA (mY.set i (ap (.val t))) mY:=⟨λt=>sQ (is:=[]) (V1 mY) hi,λt=>xl _ hi⟩
def OU{l:bb}{s:Option SL}(h:l[j]?=ap bm)(n:j≠i):(l.set i s)[j]?=ap bm:=by rw[aP n];exact h
def P9(hi:mY[i]?=ap bm)(hj:mY[j]?=ap bm)(n:j≠i):qP [i,j] mY (λt:PV×PV=>(mY.set i (ap (.val t.1))).set j (ap (.val t.2)))/\∀t:PV×PV,gA ((mY.set i (ap (.val t.1))).set j (ap (.val t.2))) mY:=
 ⟨λt=>sQ (is:=[i]) (sQ (is:=[]) (V1 mY) hi) hj,λt=>(xl _ (OU hj n)).trans (xl _ hi)⟩
end
section
variable{rest:O ss}{T:Type}{out:T->End}
def du(sr:aU K H σ fs)(hs:fs[i]?=ap (ap (.ol q0 l))):∃a ws,σ[i]?=ap (ap (.ref a))/\H a=ap (.lst ws)/\ay K [] H ws l:=by
 obtain⟨u,e1,r⟩:=sr.at' i _ hs;rcases r with⟨v,e,_⟩ | ⟨a,e,z,ws,q1,q2⟩
 ·cases e
 ·subst e;exact⟨a,ws,e1,q1,q2⟩
def nC{rK:O V}{l':O PV}(sr:aU K H σ fs)(hs:fs[i]?=ap (ap (.ol q0 l)))(e1:σ[i]?=ap (ap (.ref a)))(sx:oW a H H')(h':H' a=ap (.lst rK))(r:ay K [] H rK l'):aU K H' σ (fs.set i (ap (.ol q0 l')))/\cM σ fs H σ (fs.set i (ap (.ol q0 l'))) H':=
 eY (t':=.ol q0 l') sr hs rfl (by simp) e1 sx λtk=>⟨(sr.ownAt hs rfl e1).1,rK,h',ay.tk tk r⟩
def gY(l:O PV)(v:PV):W (O PV):=.eQ (l.length < sizeLine) (.ret (l++[v]))
theorem SF.append(i:Nat){k:O PV->W T}(hs:fs[i]?=ap (ap (.ol q0 l)))(hK:X.K=K)(hN:X.N[i]?=ap y)(hv:zx X.env.scope y)(he:EF X K fs e we)(hr:∀l',SF X K x (fs.set i (ap (.ol q0 l'))) rest (k l') out)
  (hd:jh y:=by decide) (jc:HI y:=by decide) (eK:pr (.Name y p) "append" X.env (lf (.Name y p) X.env)=lf (.Name y p) X.env:=by rfl)
  (pS:ZL X bP [e]:=by rfl)
  (eJ:Sl Â bP:=by rfl) (rk:gZ X e []:=by rfl) (fe:lF X bP []:=by rfl)
  (oo:lc (.Call (.Attribute (.Name y p) "append" Â) [e] [] bP) bm pos.line X.env=pure false:=by rfl) :
  SF X K x fs (.Expr (.Call (.Attribute (.Name y p) "append" Â) [e] [] bP) pos::rest) (.bind we λv=>.bind (gY l v) k) out:=
 SF.step (qW (si K hK B6 PySem.F.slot_list_append PySem.F.type_list_append IE (d9 hN hv hd jc) (aW he.p bO rk) eK pS eJ rk fe) oo) λD σ H ⟨sr,q⟩=>by
  obtain⟨a,ws,e1,h1,r1⟩:=du sr hs;refine⟨_,e1,.inl ⟨rfl,_,c6.of h1⟩,sr,we.mono (λv q1 u H1 g1 s1 v1=>?_) q⟩;obtain⟨a',rK,qN,gR,ux⟩:=du s1 hs;rw[e1]at qN;cases qN;refine⟨a,rK,u,rfl,rfl,gR,by rw[ux.length];exact q1.1,λH2 sx h2=>?_⟩;obtain⟨s2,g2⟩:=nC s1 hs e1 sx h2 (ux.append (.one v1));exact⟨_,k _,hr _,s2,(k _).mono (λt q2=>q2.go (g1.f.trans g2) sr s2) q1.2⟩
def Y7(l m:O PV):W (O PV):=.eQ (l.length+m.length<=sizeLine) (.ret (l++m))
theorem SF.extend(i:Nat){k:O PV->W T}(hs:fs[i]?=ap (ap (.ol q0 l)))(hK:X.K=K)(hN:X.N[i]?=ap y)(hv:zx X.env.scope y)(he:QF X K fs e wl)(hr:∀l',SF X K x (fs.set i (ap (.ol q0 l'))) rest (k l') out)
  (hd:jh y:=by decide) (jc:HI y:=by decide) (eK:pr (.Name y p) "extend" X.env (lf (.Name y p) X.env)=lf (.Name y p) X.env:=by rfl)
  (pS:ZL X bP [e]:=by rfl)
  (eJ:Sl Â bP:=by rfl) (rk:gZ X e []:=by rfl) (fe:lF X bP []:=by rfl)
  (oo:lc (.Call (.Attribute (.Name y p) "extend" Â) [e] [] bP) bm pos.line X.env=pure false:=by rfl) :
  SF X K x fs (.Expr (.Call (.Attribute (.Name y p) "extend" Â) [e] [] bP) pos::rest) (.bind wl λm=>.bind (Y7 l m) k) out:=
 SF.step (qW (si K hK B6 PySem.F.slot_list_extend PySem.F.type_list_extend (T8 K hK) (d9 hN hv hd jc) (aW he.p bO rk) eK pS eJ rk fe) oo) λD σ H ⟨sr,q⟩=>by
  obtain⟨a,ws,e1,h1,r1⟩:=du sr hs;refine⟨_,e1,.inl ⟨rfl,_,c6.of h1⟩,sr,wl.mono (λm q1 u H1 g1 s1 v1=>?_) q⟩;obtain⟨a',rK,qN,gR,ux⟩:=du s1 hs;rw[e1]at qN;cases qN;obtain⟨b,zs,rfl,hb,rb⟩:=v1.sq s1;refine⟨a,b,rK,zs,rfl,rfl,gR,hb,by rw[ux.length,rb.length];exact q1.1,λH2 sx h2=>?_⟩;obtain⟨s2,g2⟩:=nC s1 hs e1 sx h2 (ux.append rb);exact⟨_,k _,hr _,s2,(k _).mono (λt q2=>q2.go (g1.f.trans g2) sr s2) q1.2⟩
def zZ(l:O PV):W (O PV×PV):=match l.getLast? with
 | some v=>.ret (l.dropLast,v)
 | none=>.fail
def OO{l:O PV}(h:l.getLast?=ap v):l=l.dropLast++[v]:=by
 rw[List.getLast?_eq_some_iff]at h;obtain⟨ys,rfl⟩:=h;simp
theorem ay.snoc:∀{ws:O V}{l:O PV}{v:PV},ay K [] H ws (l++[v])->∃ZN u,ws=ZN++[u]/\ay K [] H ZN l/\VR K [] H u v
 | _,[],_,.cons r .nil=>⟨[],_,rfl,.nil,r⟩
 | _,x::l,v,.cons r t=>by
  obtain⟨ZN,u,rfl,h1,h2⟩:=ay.snoc t;exact⟨_::ZN,u,rfl,.cons r h1,h2⟩
def SF.Io(i j:Nat){k:O PV×PV->W T}(hs:fs[i]?=ap (ap (.ol q0 l)))(ú:j≠i)(hK:X.K=K)(hN:X.N[i]?=ap y)(hv:zx X.env.scope y)(Ń:X.N.Nodup)(hj:X.N[j]?=ap z)(hx:Loc X.env.scope z)(hr:∀t:O PV×PV,SF X K x ((fs.set i (ap (.ol q0 t.1))).set j (ap (.val t.2))) rest (k t) out)
  (hd:jh y:=by decide) (jc:HI y:=by decide) (eK:pr (.Name y p) "pop" X.env (lf (.Name y p) X.env)=lf (.Name y p) X.env:=by rfl) (eJ:Sl Â bP:=by rfl)
  (oo:lc (.Call (.Attribute (.Name y p) "pop" Â) [] [] bP) (ap (.Name z p')) pos.line X.env=pure false:=by rfl) (hf:Oc X z:=by first | exact .inl rfl | exact .inr rfl | assumption) :
  SF X K x fs (.Assign [.Name z p'] (.Call (.Attribute (.Name y p) "pop" Â) [] [] bP) pos::rest) (.bind (zZ l) k) out:=
 SF.step (sf Ń hj hx (Tt K hK B6 Fi Fh T6 (d9 hN hv hd jc) eK eJ) oo hf) λD σ H ⟨sr,q⟩=>by
  obtain⟨a,ws,e1,h1,r1⟩:=du sr hs;have q:(zZ l).run λt=>(k t).run λt=>bQ K x σ fs H D (out t):=q;unfold zZ at q;cases hl:l.getLast? with
  | none=>rw[hl]at q;exact q.elim
  | some v=>
   rw[hl]at q;have el:=OO hl;rw[el]at r1;obtain⟨ZN,u,rfl,r0,ru⟩:=ay.snoc r1;refine⟨_,e1,.inl ⟨rfl,_,c6.of h1⟩,a,ZN,u,rfl,rfl,h1,λH2 sx h2=>?_⟩;obtain⟨s2,g2⟩:=nC sr hs e1 sx h2 r0;have ru2:VR K [] H2 u v:=g2.vr sr ru;have s3:=s2.fy ru2 j;exact⟨_,k _,hr (l.dropLast,v),s3,(k _).mono (λt q2=>q2.go (g2.trans (cM.fy s2 _ _ j)) sr s3) q⟩
def ku(l:O PV)(i v:PV):W (O PV):=match i with
 | .int k=>match vF l.length k with
  | some j=>.ret (l.set j v)
  | none=>.fail
 | _=>.fail
def SF.Ij(i:Nat){ei:kw}{k:O PV->W T}(hs:fs[i]?=ap (ap (.ol q0 l)))(hN:X.N[i]?=ap y)(hv:zx X.env.scope y)(he:EF X K fs e we)(hi:EF X K fs ei wi)(hr:∀l',SF X K x (fs.set i (ap (.ol q0 l'))) rest (k l') out)
  (ha:∀v,EQ (.Subscript (.Name y p) ei wz) X.env v=(do
   let ov <- BT [v] (lf (.Name y p) X.env)
   let iv <- BT [v,ov] (lf ei X.env)
   standAt wz
   BT [v,ov,iv] (setItem ov iv v)
   release [v,ov,iv] []):=by intro _;rfl)
  (hd:jh y:=by decide) (jc:HI y:=by decide) (hss:Db [.Subscript (.Name y p) ei wz] e pos.line X.env=pure false:=by rfl) (hw:Ev [.Subscript (.Name y p) ei wz] e X.env=pure bm:=by rfl)
  (h1:(wE [.Subscript (.Name y p) ei wz] X.env).map (·.2)=[EQ (.Subscript (.Name y p) ei wz) X.env]:=by rfl) :
  SF X K x fs (.Assign [.Subscript (.Name y p) ei wz] e pos::rest) (.bind we λv=>.bind wi λn=>.bind (ku l n v) k) out:=
 SF.step (Pk he.p (XJ (d9 hN hv hd jc) hi.p Mq ha) hss hw h1) λD σ H ⟨sr,q⟩=>by
  refine⟨sr,we.mono (λv q1 u H1 g1 s1 v1=>?_) q⟩;obtain⟨a,ws,e1,h1,r1⟩:=du s1 hs;refine⟨_,e1,s1,wi.mono (λn q2 u2 H2 g2 s2 v2=>?_) q1⟩;obtain⟨a',rK,qN,gR,ux⟩:=du s2 hs;rw[e1]at qN;cases qN;cases v2 with
  | int kk=>
   have q2:(match vF l.length kk with | some j=>bd (l.set j v) | none=>W.fail).run _:=q2;cases hj:vF l.length kk with
   | none=>rw[hj]at q2;exact q2.elim
   | some j=>
    rw[hj]at q2;refine⟨a,rK,kk,j,rfl,rfl,gR,by rw[ux.length];exact hj,λH3 sx h3=>?_⟩;obtain⟨s3,g3⟩:=nC s2 hs e1 sx h3 (ux.set (g2.vr s1 v1) j);exact⟨_,k _,hr _,s3,(k _).mono (λt q3=>q3.go ((g1.trans g2).f.trans g3) sr s3) q2⟩
  | _=>exact q2.elim
end
end
end FL
variable{x:B7}
namespace FL
section
variable{K:Ab}
def hE:O AK->O PV->bb
 | [],_=>[]
 | .v::ks,x::l=>ap (.val x)::hE ks l
 | .v::_,[]=>[]
 | .p φ::ks,l=>ap (.kF φ)::hE ks l
 | .f a::ks,l=>ap (.adr a)::hE ks l
def uX(ks:O AK)(l:O PV)(n:Nat):bb:=hE ks l++An (n-ks.length) bm
def HH(ks:O AK):Prop:=∀i j:Nat,(∃φ,ks[i]?=ap (.p φ))->(∃φ,ks[j]?=ap (.p φ))->i=j
theorem jl:∀{n:Nat}{m:HS R n}{l:O PV}{Q:R->Prop},(oX n m l).run Q->l.length=n
 | 0,_,[],_,_=>rfl
 | 0,_,_::_,_,h=>h.elim
 | n+1,_,[],_,h=>h.elim
 | n+1,m,x::l,Q,h=>by rw[Ar,jl (n:=n) (m:=m x) h]
section
theorem iQ.len(h:iQ K H vs ks l):vs.length=ks.length:=by induction h <;> simp_all
def iQ.slot(h:iQ K H vs ks l):(hE ks l).length=vs.length/\∀(i:Nat) (s:SL),(hE ks l)[i]?=ap (ap s)->∃u,vs[i]?=ap u/\v9 K H u s/\(s.own=true->∃φ,s=.kF φ/\ks[i]?=ap (.p φ)):=by
 induction h with
 | nil=>exact⟨rfl,λi s e=>by simp[hE]at e⟩
 | @v u x vs ks l r t ih=>
  refine⟨by simp[hE,ih.1],λi s e=>?_⟩;cases i with
  | zero=>simp[hE]at e;subst e;exact⟨u,rfl,.inl ⟨x,rfl,r⟩,λz=>by cases z⟩
  | succ i=>simp[hE]at e;obtain⟨w,h1,h2,h3⟩:=ih.2 i s e;exact⟨w,by simpa using h1,h2,by simpa using h3⟩
 | @p a φ ws vs ks l e0 r t ih=>
  refine⟨by simp[hE,ih.1],λi s e=>?_⟩;cases i with
  | zero=>simp[hE]at e;subst e;exact⟨_,rfl,.inr ⟨a,rfl,ws,e0,r⟩,λ_=>⟨φ,rfl,rfl⟩⟩
  | succ i=>simp[hE]at e;obtain⟨w,h1,h2,h3⟩:=ih.2 i s e;exact⟨w,by simpa using h1,h2,by simpa using h3⟩
 | @f a vs ks l t ih=>
  refine⟨by simp[hE,ih.1],λi s e=>?_⟩;cases i with
  | zero=>simp[hE]at e;subst e;exact⟨_,rfl,.inr ⟨a,rfl,rfl⟩,λz=>by cases z⟩
  | succ i=>simp[hE]at e;obtain⟨w,h1,h2,h3⟩:=ih.2 i s e;exact⟨w,by simpa using h1,h2,by simpa using h3⟩
def iQ.XH(h:iQ K H vs ks l)(e:ks[i]?=ap (.p φ)):(hE ks l)[i]?=ap (ap (.kF φ)):=by
 induction h generalizing i with
 | nil=>simp at e
 | v r t ih=>cases i with | zero=>simp at e | succ i=>simp[hE];exact ih (by simpa using e)
 | p e0 r t ih=>cases i with | zero=>simp at e;subst e;rfl | succ i=>simp[hE];exact ih (by simpa using e)
 | f t ih=>cases i with | zero=>simp at e | succ i=>simp[hE];exact ih (by simpa using e)
theorem oQ{s:SL}(h:(uX ks l n)[i]?=ap (ap s)):(hE ks l)[i]?=ap (ap s):=by
 unfold uX at h;by_cases c:i < (hE ks l).length
 ·rw[AR c]at h;exact h
 ·rw[A1 ∅,Bs]at h
  split at h <;> cases h
def lJ{N:O Str}(h:vs[i]?=ap u):(L2.start N vs)[i]?=ap (ap u):=by
 unfold L2.start;rw[AR (by rw[Af];exact(Ak.mp h).1),Al,h];rfl
def ve{N:O Str}(h:(L2.start N vs)[i]?=ap (ap u)):vs[i]?=ap u:=by
 unfold L2.start at h;by_cases c:i < vs.length
 ·rw[AR (by simpa using c),Al]at h;cases z:vs[i]? with
  | none=>rw[z]at h;cases h
  | some q=>rw[z]at h;cases h;rfl
 ·rw[A1 (by simpa using c),Bs]at h
  split at h <;> cases h
def iQ.beg(h:iQ K H vs ks l)(one:HH ks)(N:O Str):aU K H (L2.start N vs) (uX ks l N.length):=by
 obtain⟨hl,hs⟩:=h.slot;refine⟨?_,λi s e=>?_,λi j s t x y a e1 e2 o1 o2 q1 q2 z1 z2=>?_⟩
 ·unfold L2.start uX;rw[Ai,Ai,Af,hl,Bq,Bq,h.len]
 ·obtain⟨u,h1,h2,_⟩:=hs i s (oQ e);exact⟨u,lJ h1,h2⟩
 ·obtain⟨_,_,_,h3⟩:=hs i s (oQ e1);obtain⟨_,_,_,h4⟩:=hs j t (oQ e2);obtain⟨φ,_,k1⟩:=h3 o1;obtain⟨ψ,_,k2⟩:=h4 o2;exact one i j ⟨φ,k1⟩ ⟨ψ,k2⟩
def iQ.go(h:iQ K H vs ks l){N:O Str}(g:cM (L2.start N vs) (uX ks l N.length) H σ' bC H')(s':aU K H' σ' bC):GoC vs ks H H':=by
 obtain⟨hl,hs⟩:=h.slot;refine⟨λa o e n=>(g.keep a o e λz=>?_).1,g.there,λa φ p=>?_⟩
 ·obtain⟨i,s,x,e1,e2,e3,e4⟩:=z;obtain⟨u,h1,h2,h3⟩:=hs i s (oQ e1);obtain⟨φ,rfl,k⟩:=h3 e2;rcases e4 with rfl | e4
  ·exact n φ ⟨i,k,ve e3⟩
  ·cases e4
 ·obtain⟨i,e1,e2⟩:=p;have e3:=h.XH e1;have hi:=(Ak.mp e3).1;have e4:(uX ks l N.length)[i]?=ap (ap (.kF φ)):=by unfold uX;rw[AR hi];exact e3
  rcases g.pk a φ ⟨i,e4,lJ e2⟩ with⟨j,k1,k2⟩ | ⟨_,k⟩
  ·exact s'.ownAt k1 rfl k2
  ·exact k
end
section
variable{st:ss}{f:ce}{N:O Str}
def fnV{m:HS PV n}(Fn:Sk K x qual st f fd)(S:cY N ps (aF st))(YR:ks.length=ps.length)(one:HH ks)
  (Í:∀l:O PV,l.length=n->∀(fv:bn) (A:u8) (outer:O Env) (s:cr) (H:Hp) (E:XK),fh k (A.deeper (xz qual (aF st) s.heap.objs.size f fv))->SF (uU ui P w K mg base N qual (aF st) f fv A outer s H E).VW K false (uX ks l N.length) (cX st) (oX n m l) .rt) :
  g8 P w K mg base ui (k+1) f fd ps (Ml K ks (oX n m)):=by
 refine Fn.ok S (λvs H Q E h=>?_) (λfv A outer s H vs Q E hr h=>?_)
 ·obtain⟨l,h,_⟩:=h;rw[h.len];exact YR
 obtain⟨l,h,q⟩:=h;refine⟨_,(Í l (jl q) fv A outer s H E hr).p,h.beg one N,(oX n m l).mono (λv q1 u σ' bC H' g s' r=>q1 u H' (h.go g s') r) q⟩
def fnL{m:HS (O PV) n}(Fn:Sk K x qual st f fd)(S:cY N ps (aF st))(YR:ks.length=ps.length)(one:HH ks)
  (Í:∀l:O PV,l.length=n->∀(fv:bn) (A:u8) (outer:O Env) (s:cr) (H:Hp) (E:XK),fh k (A.deeper (xz qual (aF st) s.heap.objs.size f fv))->SF (uU ui P w K mg base N qual (aF st) f fv A outer s H E).VW K false (uX ks l N.length) (cX st) (oX n m l) .rl) :
  g8 P w K mg base ui (k+1) f fd ps (zP K ks (oX n m)):=by
 refine Fn.ok S (λvs H Q E h=>?_) (λfv A outer s H vs Q E hr h=>?_)
 ·obtain⟨l,h,_⟩:=h;rw[h.len];exact YR
 obtain⟨l,h,q⟩:=h;have sr:=h.beg one N;refine⟨_,(Í l (jl q) fv A outer s H E hr).p,sr,(oX n m l).mono (λz q1 a ws σ' bC H' g s' fr e r=>q1 a ws H' (h.go g s') ?_ e r) q⟩;rcases fr with fr | ⟨i,t,x,e1,e2,np,e3,e4⟩
 ·exact fr
 ·obtain⟨_,_,_,h3⟩:=h.slot.2 i t (oQ e1);obtain⟨φ,e,_⟩:=h3 e2;exact absurd e (np φ)
end
def w9:HH []:=λi j ⟨_,h⟩=>by simp at h
def La(h:HH ks):HH (.v::ks):=λi j ⟨φ,a⟩ ⟨ψ,b⟩=>by
 cases i with
 | zero=>simp at a
 | succ i=>
  cases j with
  | zero=>simp at b
  | succ j=>rw[h i j ⟨φ,by simpa using a⟩ ⟨ψ,by simpa using b⟩]
def abC:HH (.p φ::An n .v):=λi j ⟨χ,a⟩ ⟨ψ,b⟩=>by
 have z:∀{i:Nat}{χ:O V->Prop},(AK.p φ::An n .v)[i]?=ap (.p χ)->i=0:=λ{i χ} a=>by
  cases i with
  | zero=>rfl
  | succ i=>
   have a:(An n AK.v)[i]?=ap (.p χ):=by simpa using a
   rw[Bs]at a
   split at a <;> simp at a
 rw[z a,z b]
end
end FL
namespace L2
def abk(K:Ab):R2:=λx y H Q=>∃a b xs zs,x=.ref a/\y=.ref b/\c6 K H a xs/\c6 K H b zs/\xs.length+zs.length<=sizeLine/\kI H (.lst (xs++zs)) Q
theorem TK(K:Ab)(hK:X.K=K):iR X (sn .Add) (abk K):=by
 subst hK;intro Z s σ H x y v u Q I rx ry h;obtain⟨l,b,xs,zs,rfl,rfl,hH,hB,hz,q⟩:=h;cases rx;cases ry;obtain⟨ao,r,⟨⟨cls,dd,data,sl⟩,n,ho,hc,hd,ou⟩,_⟩:=I.list hH;obtain⟨bS,r2,⟨⟨Zt,Vb,data2,R9⟩,n2,Ng,QK,Ô,Wl⟩,_⟩:=I.list hB;simp only at hc hd ou QK Ô Wl;subst hc hd ou QK Ô Wl;have e:ao.toArray++bS.toArray=(ao++bS).toArray:=by simp
 have hl:=r.length;have Sd:=r2.length;refine concat_meets ⟨_,ho,rfl⟩ ⟨_,Ng,rfl⟩ noFill_list_add seq_list_add PySem.F.slot_list_add PySem.F.entry_list_add (PySem.F.args_list_add_2 _ _) (list_addW l b ao.toArray bS.toArray n n2 bm bm sl R9 (by simp;omega)) ⟨ho,Ng,?_⟩;rw[e];exact⟨.ref _,_,I.Yj (t':=s.toks) (r.append r2) (by rw[Ai];omega),rfl,q.at _ I.fresh⟩
end L2
variable{hi:FL.W (Option Int)}{neg:Bool}
namespace FL
section
variable{K:Ab}
section
variable{a c:kw}{w:W PV}
def kx(l m:O PV):W (O PV):=.eQ (l.length+m.length<=sizeLine) (.ret (l++m))
def fQL(K:Ab)(fs:bb)(w:W (O PV)):TE:=λσ H Q=>aU K H σ fs/\w.run λl=>∀u H',cO σ fs H H'->aU K H' σ fs->Vu K σ fs H' u l->(∀ġ,cO σ fs H' ġ->aU K ġ σ fs->∃a vs,u=.ref a/\c6 K ġ a vs/\ay K [] ġ vs l)->Q u H'
structure HQ(X:Cx)(K:Ab)(fs:bb)(e:kw)(w:W (List PV)):Prop where p:PE X e (fQL K fs w)
def bN(h:LF X K fs e wl):HQ X K fs e wl:=⟨PE.imp h.p λσ H Q ⟨sr,q⟩=>⟨sr,wl.mono (λl q1 a vs H1 g1 s1 n e v=>q1 _ H1 g1 s1 (.inr ⟨a,rfl,.inl ⟨sr.noOwn n,vs,e,v⟩⟩) λH2 g2 s2=>⟨a,vs,rfl,c6.of (g2.vC e (sr.noOwn n)),g2.Oq s1 v⟩) q⟩⟩
def Pd(i:Nat)(hs:fs[i]?=ap (ap (.ol q0 l)):=by rfl)(hN:X.N[i]?=ap x:=by rfl)(hv:zx X.env.scope x:=by first | exact C1 rfl | exact Cq (C1 rfl) | exact Cq (Cq rfl))(hd:jh x:=by decide)(jc:HI x:=by decide):HQ X K fs (.Name x pos) (.ret l):=
 ⟨PE.imp (d9 hN hv hd jc) λσ H Q ⟨sr,q⟩=>by
  obtain⟨a,ws,e1,h1,r1⟩:=du sr hs;refine⟨_,e1,q _ H .refl sr (.inr ⟨a,rfl,.inr ⟨i,q0,hs,e1⟩⟩) λH2 g2 s2=>?_⟩;obtain⟨a',rK,qN,gR,ux⟩:=du s2 hs;rw[e1]at qN;cases qN;exact⟨a,rK,rfl,c6.of gR,ux⟩⟩
def nT:PV->W (O PV)
 | .cl l=>.ret l
 | _=>.fail
def fK(h:EF X K fs e w):HQ X K fs e (.bind w nT):=⟨PE.imp h.p λσ H Q ⟨sr,q⟩=>⟨sr,w.mono (λx q1 u1 H1 g1 s1 v1=>by
 cases v1 with
 | cl e r=>exact q1 _ H1 g1 s1 (.inl ⟨_,_,rfl,.inl e,r⟩) λH2 g2 s2=>⟨_,_,rfl,((g2.d7 s1).f _ _ e).sq,g2.Oq s1 r⟩
 | _=>exact q1.elim) q⟩⟩
def i8(hK:X.K=K)(ha:HQ X K fs a wl)(hb:HQ X K fs b wm):LF X K fs (.BinOp a .Add b pos) (.bind wl λl=>.bind wm λm=>kx l m):=⟨PE.imp (K3 (TK K hK) ha.p hb.p) λσ H Q ⟨sr,q⟩=>⟨sr,wl.mono (λl q1 u1 H1 g1 s1 _ v1=>⟨s1,wm.mono (λm q2 u2 H2 g2 s2 _ v2=>by
 obtain⟨a,vs,rfl,h1,r1⟩:=v1 H2 g2 s2;obtain⟨b,ws,rfl,h2,r2⟩:=v2 H2 .refl s2;refine⟨a,b,vs,ws,rfl,rfl,h1,h2,by rw[r1.length,r2.length];exact q2.1,λp H3 s3 h3 n3=>?_⟩;have gg:=g1.trans g2;exact q2.2 p _ H3 (gg.trans (cO.same s3)) (s2.same s3) (gg.there p n3) h3 (ay.tk s3.d6 (r1.append r2))) q1⟩) q⟩⟩
def Lh{Q:VK}(g1:cO σ fs H H1)(s1:aU K H1 σ fs)(r:ay K [] H1 vs l)(q:∀a vs H',cO σ fs H H'->aU K H' σ fs->H a=bm->H' a=ap (.lst vs)->ay K [] H' vs l->Q (.ref a) H'):kI H1 (.lst vs) Q:=λp H2 s2 h2 n2=>q p vs H2 (g1.trans (cO.same s2)) (s1.same s2) (g1.there p n2) h2 (ay.tk s2.d6 r)
def P4(K:Ab):CL K (O8 K) .ret:=λ{fs σ H Q u l} s v q=>by
 obtain⟨a,vs,rfl,h,rs⟩:=v.sq s;exact⟨a,vs,rfl,h,Lh .refl s rs q⟩
def IQ(hK:X.K=K)(hg:Gl X "list")(hm:X.mg "list"=bm)(ha:QF X K fs e wl)(he:gZ X e []:=by rfl)(c9:lF X pos []:=by rfl):LF X K fs (.Call (.Name "list" p) [e] [] pos) wl:=Qe (m:=.ret) (J0 K hK) (P4 K) hg hm boot_list ha ⋯ ⋯ he c9
def cW(hK:X.K=K)(hg:Gl X "tuple")(hm:X.mg "tuple"=bm)(ha:QF X K fs e wl)(he:gZ X e []:=by rfl)(c9:lF X pos []:=by rfl):EF X K fs (.Call (.Name "tuple" p) [e] [] pos) (.bind wl kq):=Nx (NJ K hK) (SA K) hg hm xL ha ⋯ ⋯ he c9
def tP(hK:X.K=K)(hg:Gl X "len")(hm:X.mg "len"=bm)(ha:QF X K fs e wl)(he:gZ X e []:=by rfl)(c9:lF X pos []:=by rfl):EF X K fs (.Call (.Name "len" p) [e] [] pos) (.bind wl Gu):=RA (vQ K hK) (Ug K) hg hm boot_len ha ⋯ ⋯ he c9
def RY(ha:EF X K fs e w)(he:ga [e] X.env=(false,lf e X.env)::ga [] X.env):AF X K fs [e] (An 1 .v) (R:=R) (λk=>.bind w λx=>k [x]):=af ha ag he
def cm(hK:X.K=K)(hg:Gl X "len")(hm:X.mg "len"=bm)(ha:EF X K fs e w)(he:gZ X e []:=by rfl)(c9:lF X pos []:=by rfl):EF X K fs (.Call (.Name "len" p) [e] [] pos) (.bind w λx=>mX cn [x]):=rB (n:=1) (vQ K hK) (Vi K) hg hm boot_len (RY ha he) ⋯ ⋯ he c9
def Wx(hg:Gl X "abs")(hm:X.mg "abs"=bm)(ha:EF X K fs e w)(he:gZ X e []:=by rfl)(c9:lF X pos []:=by rfl):EF X K fs (.Call (.Name "abs" p) [e] [] pos) (.bind w λx=>mX Hq [x]):=rB (n:=1) RK Vk hg hm boot_abs (RY ha he) ⋯ ⋯ he c9
def U3(hg:Gl X "int")(hm:X.mg "int"=bm)(ha:EF X K fs e w)(he:gZ X e []:=by rfl)(c9:lF X pos []:=by rfl):EF X K fs (.Call (.Name "int" p) [e] [] pos) (.bind w λx=>mX J5 [x]):=Rz (n:=1) NP Vj hg hm boot_int (RY ha he) ⋯ ⋯ he c9
def acZ(hc:X.calm=true)(hg:Gl X "max")(hm:X.mg "max"=bm)(ha:EF X K fs a wa)(hb:EF X K fs b wb)(he:ga [a,b] X.env=(false,lf a X.env)::ga [b] X.env:=by rfl)(UO:gZ X b []:=by rfl)(c9:(ut pos (ga [b] X.env)).any (·.1)=false:=by rfl):EF X K fs (.Call (.Name "max" p) [a,b] [] pos) (.bind wa λx=>.bind wb λy=>mX NT [x,y]):=rB (n:=2) (NM hc) Vh hg hm boot_max (af ha (af hb ag UO) he) ⋯ ⋯ he c9
def acY(hc:X.calm=true)(hg:Gl X "min")(hm:X.mg "min"=bm)(ha:EF X K fs a wa)(hb:EF X K fs b wb)(he:ga [a,b] X.env=(false,lf a X.env)::ga [b] X.env:=by rfl)(UO:gZ X b []:=by rfl)(c9:(ut pos (ga [b] X.env)).any (·.1)=false:=by rfl):EF X K fs (.Call (.Name "min" p) [a,b] [] pos) (.bind wa λx=>.bind wb λy=>mX NS [x,y]):=rB (n:=2) (NL hc) Vg hg hm boot_min (af ha (af hb ag UO) he) ⋯ ⋯ he c9
def abP(hK:X.K=K)(hc:X.calm=true)(ľ:Gl X "list")(ę:X.mg "list"=bm)(Ľ:Gl X "reversed")(ZW:X.mg "reversed"=bm)(he:HQ X K fs e wl)
  (HM:ga [.Call (.Name "reversed" p3) [e] [] p4] X.env=(false,lf (.Call (.Name "reversed" p3) [e] [] p4) X.env)::ga [] X.env:=by rfl) (rm:gZ X e []:=by rfl) :
  LF X K fs (.Call (.Name "list" p1) [.Call (.Name "reversed" p3) [e] [] p4] [] p2) (.bind wl λl=>.ret l.reverse):=⟨PE.imp (Ir K hK hc ľ ę Ľ ZW he.p HM rm) λσ H Q ⟨sr,q⟩=>⟨sr,wl.mono (λl q1 u1 H1 g1 s1 _ v1=>by
 obtain⟨a,vs,rfl,h1,r1⟩:=v1 H1 .refl s1;exact⟨a,vs,rfl,h1,Lh g1 s1 r1.reverse q1⟩) q⟩⟩
def bsW:O PV->W (O Bool)
 | []=>.ret []
 | .bl b::r=>.bind (bsW r) λl=>.ret (b::l)
 | _=>.fail
theorem LY:∀{l:O PV}{Q:O Bool->Prop},(bsW l).run Q->∃bs:O Bool,l=bs.map PV.bl/\Q bs
 | [],Q,h=>⟨[],rfl,h⟩
 | .bl b::r,Q,h=>by
  obtain⟨bs,e,q⟩:=LY (l:=r) h;exact⟨b::bs,by rw[e];rfl,q⟩
 | .ax::r,Q,h=>h.elim
 | .int _::r,Q,h=>h.elim
 | .str _::r,Q,h=>h.elim
 | .tup _::r,Q,h=>h.elim
 | .ref _::r,Q,h=>h.elim
 | .ty _::r,Q,h=>h.elim
 | .cl _::r,Q,h=>h.elim
@[simp] theorem LZ:∀bs:O Bool,bsW (bs.map PV.bl)=.ret bs
 | []=>rfl
 | b::bs=>by
  show am (bsW (bs.map PV.bl)) _=_;rw[LZ bs];rfl
def yX(l:O PV):W PV:=.bind (bsW l) λbs=>.ret (.bl (bs.all id))
def RB(hK:X.K=K)(hc:X.calm=true)(hg:Gl X "all")(hm:X.mg "all"=bm)(ha:HQ X K fs e wl)(he:gZ X e []:=by rfl)(c9:lF X pos []:=by rfl):EF X K fs (.Call (.Name "all" p) [e] [] pos) (.bind wl yX):=⟨PE.imp (dD (NQ K hK hc) hg hm boot_all (aW ha.p bO he) ⋯ ⋯ he c9) λσ H Q ⟨sr,q⟩=>⟨sr,wl.mono (λl q1 u1 H1 g1 s1 _ v1=>by
 obtain⟨bs,e,q2⟩:=LY (l:=l) q1;obtain⟨a,vs,rfl,h1,r1⟩:=v1 H1 .refl s1;rw[e]at r1;have:=vV r1;subst this;exact⟨a,bs,rfl,h1,q2 _ H1 g1 s1 (.bl _)⟩) q⟩⟩
def cG(k:Kd)(x:PV):W PV:=match x with
 | .ref _=>.fail
 | .ty _=>.fail
 | x=>.ret (.bl (k.is x))
def O9(K:Ab):O V->Hp->VK->Prop:=λxs H Q=>∃x c t b,xs=[x,.ty c]/\(lB K H x t\/(t=.type "tuple"/\∃a vs,x=.ref a/\dj K H a vs)\/(t=.type "list"/\∃a vs,x=.ref a/\c6 K H a vs)\/(t=.type "dict"/\∃a,x=.ref a/\IsD H a))/\Bo K t (.type c)=ap b/\Q (.bl b) H
def vS(hK:X.K=K):bL X (.builtin "isinstance") (O9 K):=by
 subst hK;intro Z s σ H xs us Q I r h;obtain⟨x,c,t,b,rfl,ty | ty | ⟨rfl,a,vs,rfl,hL⟩ | ⟨rfl,a,rfl,hD⟩,e,q⟩:=h
 ·exact qz Z s σ H _ us Q I r ⟨x,c,t,b,rfl,ty,e,q⟩
 ·exact NN X.K rfl Z s σ H _ us Q I r ⟨x,c,t,b,rfl,.inr ty,e,q⟩
 ·obtain⟨u,w,rfl,r1,r2⟩:=vals2 r;cases r1;cases r2;obtain⟨ao,_,⟨o,n,h1,h2,_⟩,_⟩:=I.list hL;exact Ba Er I.vE ⟨o,h1,h2⟩ e (λz=>nomatch z) λtk=>⟨.bl b,H,I.tok _,rfl,q⟩
 ·obtain⟨u,w,rfl,r1,r2⟩:=vals2 r;cases r1;cases r2;have:∃o,s.heap.get? a=ap o/\o.cls=.type "dict":=by
   rcases hD with⟨kvs,e⟩ | ⟨kvs,e⟩
   ·obtain⟨_,_,vs,_,o,_,_,h1,h2,_⟩:=tT I.br e;exact⟨o,h1,h2.1⟩
   ·obtain⟨_,_,xs,_,o,_,_,h1,h2,_⟩:=tS I.br e;exact⟨o,h1,h2.1⟩
  obtain⟨o,h1,h2⟩:=this;exact Ba Es I.vE ⟨o,h1,h2⟩ e (λz=>nomatch z) λtk=>⟨.bl b,H,I.tok _,rfl,q⟩
def dr(hK:X.K=K)(k:Kd)(hg:Gl X "isinstance")(hm:X.mg "isinstance"=bm)(ha:EF X K fs a wa)(ļ:Gl X x)(Ĺ:X.mg x=bm)(hv:lw x=ap (.type k.name))(hn:x≠"__name__":=by decide)(hd:jh x:=by decide)
  (he:ga [a,.Name x p2] X.env=(false,lf a X.env)::ga [.Name x p2] X.env:=by rfl) (UO:ga [FV x p2] X.env=(false,lf (.Name x p2) X.env)::ga [] X.env:=by rfl)
  (c9:(ut pos (ga [FV x p2] X.env)).any (·.1)=false:=by rfl):EF X K fs (.Call (.Name "isinstance" p) [a,.Name x p2] [] pos) (.bind wa (cG k)):=
 ⟨PE.imp (dD (vS hK) hg hm boot_isinstance (aW ha.p (aW (K6 (v:=.ty k.name) ļ Ĺ hv rfl hn hd) bO UO) he) ⋯ ⋯ he c9) λσ H Q ⟨sr,q⟩=>⟨sr,wa.mono (λx q1 u1 H1 g1 s1 v1=>by
  have fin:∀{t:bn}{y:PV},lB K H1 u1 t->Bo K t (.type k.name)=ap (k.is y)->Q (.bl (k.is y)) H1->O9 K [u1,.ty k.name] H1 Q:=λty e q=>⟨_,_,_,_,rfl,.inl ty,e,q⟩;cases v1 with
  | ax=>exact fin (y:=.ax) .ax (by rw[(rh K).1 k];cases k <;> rfl) (q1 _ H1 g1 s1 (.bl _))
  | bl b=>exact fin (.bl b) (Ys K b k) (q1 _ H1 g1 s1 (.bl _))
  | int b=>exact fin (.int b) (Uq K b k) (q1 _ H1 g1 s1 (.bl _))
  | str b=>exact fin (.str b) (Up K b k) (q1 _ H1 g1 s1 (.bl _))
  | ty n=>exact q1.elim
  | ref n=>exact q1.elim
  | @dk a o kvs ks l e k1 r=>exact⟨_,_,_,_,rfl,.inr (.inr (.inr ⟨rfl,_,rfl,.inl ⟨_,.inr ⟨_,e⟩⟩⟩)),(show _=ap (k.is (.dv ks l)) by rw[(rh K).2.2 k];cases k <;> rfl),q1 _ H1 g1 s1 (.bl _)⟩
  | @dt a o kvs ks l e k1 r=>exact⟨_,_,_,_,rfl,.inr (.inr (.inr ⟨rfl,_,rfl,.inr ⟨_,.inr ⟨_,e⟩⟩⟩)),(show _=ap (k.is (.dv ks l)) by rw[(rh K).2.2 k];cases k <;> rfl),q1 _ H1 g1 s1 (.bl _)⟩
  | @cl p vs l e r=>exact⟨_,_,_,_,rfl,.inr (.inr (.inl ⟨rfl,_,_,rfl,e.sq⟩)),(show _=ap (k.is (.cl l)) by rw[(rh K).2.1 k];cases k <;> rfl),q1 _ H1 g1 s1 (.bl _)⟩
  | @tup p vs l e r=>exact⟨_,_,_,_,rfl,.inr (.inl ⟨rfl,_,_,rfl,dj.of e⟩),Uo K _ k,q1 _ H1 g1 s1 (.bl _)⟩) q⟩⟩
def S2(l:O PV):PV->W (O PV)
 | .int k=>.eQ (-(2 ^ 63)<=k/\k < 2 ^ 63/\l.length*k.toNat<=sizeLine) (.ret (An k.toNat l).flatten)
 | _=>.fail
def abQ(ha:LF X K fs a wl)(hb:EF X K fs b wb):LF X K fs (.BinOp a .Mult b pos) (.bind wl λl=>.bind wb λy=>S2 l y):=⟨PE.imp (K3 XX ha.p hb.p) λσ H Q ⟨sr,q⟩=>⟨sr,wl.mono (λl q1 a vs H1 g1 s1 n e v=>⟨s1,wb.mono (λy q2 u2 H2 g2 s2 v2=>by
 cases v2 with
 | int k=>
  have no:=sr.noOwn n;have e2:=(g2.vC e no);have r2:=g2.Oq s1 v;refine⟨a,k,vs,rfl,rfl,e2,q2.1.1,q2.1.2.1,by rw[r2.length];exact q2.1.2.2,λp hp=>?_⟩;have sm:=gF hp (.lst (An k.toNat vs).flatten);have gg:=g1.trans g2;exact q2.2 p _ _ (gg.trans (cO.same sm)) (s2.same sm) (gg.there p hp) aM (ay.tk sm.d6 (r2.rep k.toNat))
 | _=>exact q2.elim) q1⟩) q⟩⟩
def part:PV->W (Option Int)
 | .int i=>.ret (ap i)
 | _=>.fail
def mE:OF X K fs bm (.ret bm):=⟨PO.imp Te λσ H Q ⟨sr,q⟩=>q H .refl sr⟩
def pB(h:EF X K fs e w):OF X K fs (ap e) (.bind w part):=⟨PO.imp (Td h.p) λσ H Q ⟨sr,q⟩=>⟨sr,w.mono (λx q1 u1 H1 g1 s1 v1=>by
 cases v1 with
 | int i=>exact⟨_,rfl,q1 H1 g1 s1⟩
 | _=>exact q1.elim) q⟩⟩
def qr(h:HQ X K fs e wl):∀σ H Q,fE K fs (.bind wl λl=>.ret (.bl (if neg then !l.isEmpty else l.isEmpty))) σ H Q->W2 (λx y H Q=>∃p q xs,x=.ref p/\y=.ref q/\c6 K H p xs/\c6 K H q []/\Q (.bl (if neg then !xs.isEmpty else xs.isEmpty)) H) (fQL K fs wl) (fL K fs (.ret [])) σ H Q:=λσ H Q ⟨sr,q⟩=>
 ⟨sr,wl.mono (λl q1 u1 H1 g1 s1 _ v1=>⟨s1,λa2 vs2 H2 g2 s2 n2 e2 r2=>by
  cases r2;obtain⟨a,vs,rfl,h1,r1⟩:=v1 H2 g2 s2;refine⟨a,a2,vs,rfl,rfl,h1,c6.of e2,?_⟩;rw[Ro r1];exact q1 _ H2 (g1.trans g2) s2 (.bl _)⟩) q⟩
def V2:LF X K fs (.List [] pos) (.ret []):=V4 (n:=0) ag
theorem aif(hK:X.K=K)(hu:X.A.units+200 < pc)(h:HQ X K fs e wl)(hk:r9 .Eq (.List [] p2)=false:=by rfl):EF X K fs (.Compare e [.Eq] [.List [] p2] pos) (.bind wl λl=>.ret (.bl l.isEmpty)):=⟨PE.imp (K5 (Iv K hK ∅) h.p V2.p hk) (qr (neg:=false) h)⟩
theorem aaz(hK:X.K=K)(hu:X.A.units+200 < pc)(h:HQ X K fs e wl)(hk:r9 .NotEq (.List [] p2)=false:=by rfl):TF X K fs (.Compare e [.NotEq] [.List [] p2] pos) (.bind wl λl=>.ret (!l.isEmpty)):=⟨PT.imp (nB (Iu K hK ∅) h.p V2.p hk) λσ H Q q=>qr (neg:=true) h σ H _ (acS (w:=.bind wl λl=>.ret (.bl (!l.isEmpty))) σ H Q q)⟩
def mx:O PV->W (O Int)
 | []=>.ret []
 | .int i::r=>.bind (mx r) λl=>.ret (i::l)
 | _=>.fail
theorem gr:∀{l:O PV}{Q:O Int->Prop},(mx l).run Q->∃ns:O Int,l=ns.map PV.int/\Q ns
 | [],Q,h=>⟨[],rfl,h⟩
 | .int b::r,Q,h=>by
  obtain⟨bs,e,q⟩:=gr (l:=r) h;exact⟨b::bs,by rw[e];rfl,q⟩
 | .ax::r,Q,h=>h.elim
 | .bl _::r,Q,h=>h.elim
 | .str _::r,Q,h=>h.elim
 | .tup _::r,Q,h=>h.elim
 | .ref _::r,Q,h=>h.elim
 | .ty _::r,Q,h=>h.elim
 | .cl _::r,Q,h=>h.elim
@[simp] theorem gs:∀bs:O Int,mx (bs.map PV.int)=.ret bs
 | []=>rfl
 | b::bs=>by
  show am (mx (bs.map PV.int)) _=_;rw[gs bs];rfl
end
end
end FL
variable{k2:Nat}
namespace FL
section
variable{K:Ab}
abbrev b2(m:M2)(wa wb:W PV):W PV:=.bind wa λx=>.bind wb λy=>of2 m x y
abbrev t2(m:M2)(wa wb:W PV):W Bool:=.bind wa λx=>.bind wb λy=>.bind (of2 m x y) asB
abbrev c1(m:wj)(w:W PV):W PV:=.bind w λx=>mX m [x]
abbrev cQ(wl:W (O PV))(wb:W PV):W PV:=.bind wl λl=>.bind wb λy=>Wb l y
abbrev Me(a b:W Bool):W Bool:=.bind a λk=>if k=true then b else .ret false
abbrev WV(a b:W Bool):W Bool:=.bind a λk=>if k=true then .ret true else b
abbrev zH(a:W Bool):W Bool:=.bind a λk=>.ret (!k)
abbrev dc{α:Type}(t:W Bool)(a b:W α):W α:=.bind t λk=>if k=true then a else b
section
variable{a c:kw}{rest:O ss}{S T T2:Type}{hd:S->bb}{s0:S}{w:W PV}{wt:PV->W T2}{cE:S->T2->bb}{k:S->W T}{out:T->End}{x:Bool}
def SF.oy{f:PV->S->W S}(hp:vR (ev X.prog X.w) X.A X.env X.xe)(hc:X.calm=true)(hi:qQ X K fs tg iter wl)(hl:gA fs (hd s0))(hg:PG X tg (dY i))(hb:∀s p,SF X K false ((hd s).set i (ap (.val p))) body (f p s) λs'=>.nc (hd s'))(hr:∀s,SF X K x (hd s) rest (k s) out)(hs:um X iter:=by intro _;rfl) :
  SF X K x fs (.For tg iter body [] pos::rest) (.bind wl λl=>.bind (cA l s0 f) k) out:=SF.for (wt:=.ret) (wb:=λp s=>f p s) hp hc hi hl (λs=>Wn hg) (λ_ _=>rfl) hb hr hs
def SF.Y4{wb:T2->S->W S}(hp:vR (ev X.prog X.w) X.A X.env X.xe)(hc:X.calm=true)(hi:qQ X K fs tg iter wl)(hl:gA fs (hd s0))(hg:∀s,GF X K (hd s) tg is wt (cE s))(hb:∀s t,SF X K false (cE s t) body (wb t s) λs'=>.nc (hd s'))(hr:∀s,SF X K x (hd s) rest (k s) out)(hs:um X iter:=by intro _;rfl) :
  SF X K x fs (.For tg iter body [] pos::rest) (.bind wl λl=>.bind (cA l s0 λp s=>.bind (wt p) λt=>wb t s) k) out:=SF.for hp hc hi hl hg (λ_ _=>rfl) hb hr hs
def SF.QY{inj:R->T}{f:PV->S->W (Lp S R)}(hp:vR (ev X.prog X.w) X.A X.env X.xe)(hc:X.calm=true)(hi:qQ X K fs tg iter wl)(hl:gA fs (hd s0))(hg:PG X tg (dY i))(ho:∀t,(out (inj t)).Qy)(hb:∀s p,SF X K false ((hd s).set i (ap (.val p))) body (f p s) (lpE hd λr=>out (inj r)))(hr:∀s,SF X K x (hd s) rest (k s) out)(hs:um X iter:=by intro _;rfl) :
  SF X K x fs (.For tg iter body [] pos::rest) (.bind wl λl=>.bind (FL.ma l s0 f) (Nl k inj)) out:=SF.ma (wt:=.ret) (wb:=λp s=>f p s) hp hc hi hl (λs=>Wn hg) (λ_ _=>rfl) ho hb hr hs
def SF.OV{fs3:T2->bb}{k:T2->W T}(he:EF X K fs e we)(hg:GF X K fs tg is wt fs3)(hr:∀t,SF X K x (fs3 t) rest (k t) out)(hs:Db [tg] e pos.line X.env=pure false:=by rfl)(hw:Ev [tg] e X.env=pure bm:=by rfl)
  (h1:(wE [tg] X.env).map (·.2)=[EQ tg X.env]:=by rfl):SF X K x fs (.Assign [tg] e pos::rest) (.bind we λv=>.bind (wt v) k) out:=SF.step (Pk he.p hg.p hs hw h1) λD σ H ⟨sr,q⟩=>
 ⟨sr,we.mono (λv q1 u H1 g1 s1 v1=>⟨v,s1,v1,(wt v).mono (λt q2 us g2 s2=>⟨_,k t,hr t,s2,(k t).mono (λt' q3=>q3.go (g1.f.trans g2) sr s2) q2⟩) q1⟩) q⟩
def SF.par{XF:Pos}{kt:Nat}{k:PV->PV->W T}(hc:X.calm=true)(hN:X.N.Nodup)(hi:X.N[i]?=ap y)(hj:X.N[j]?=ap z)(ú:i≠j)(hx:X.env.scope.names.lookup y=ap .local)(hy:X.env.scope.names.lookup z=ap .local)
  (ha:EF X K fs a wa) (hb:EF X K fs b wb) (hr:∀u v,SF X K x ((fs.set i (ap (.val u))).set j (ap (.val v))) rest (k u v) out)
  (hw:Ev [.Tuple [.Name y px,.Name z py] kt pt] (.Tuple [a,b] k2 XF) X.env=pure (ap [y,z]):=by rfl) (hs:Db [.Tuple [.Name y px,.Name z py] kt pt] (.Tuple [a,b] k2 XF) pos.line X.env=pure false:=by rfl)
  (he:ga [a,b] X.env=(false,lf a X.env)::ga [b] X.env:=by rfl) (UO:gZ X b []:=by rfl) :
  SF X K x fs (.Assign [.Tuple [.Name y px,.Name z py] kt pt] (.Tuple [a,b] k2 XF) pos::rest) (.bind wa λu=>.bind wb λv=>k u v) out:=
 SF.step (XG hc hN hi hj ú hx hy (aW ha.p (aW hb.p bO UO) he) hw hs) λD σ H ⟨sr,q⟩=>⟨sr,wa.mono (λu q1 u1 H1 g1 s1 v1=>⟨s1,wb.mono (λv q2 u2 H2 g2 s2 v2=>by
  have s3:=s2.fy (g2.vr s1 v1) i;have s4:=s3.fy v2 j;exact⟨_,_,rfl,_,k u v,hr u v,s4,(k u v).mono (λt q3=>q3.go (((g1.trans g2).f.trans (cM.fy s2 _ _ i)).trans (cM.fy s3 _ _ j)) sr s4) q2⟩) q1⟩) q⟩
def Ox(v:PV):W PV:=.eQ (v.dat=true) (.ret v)
def va(l:O PV):W (O PV):=.eQ (tV l=true) (.ret l)
mutual
theorem VR.jH{ι:O ce}{H H':Hp}(t:∀p vs,H p=ap (.tup vs)->H' p=ap (.tup vs)):∀{v:V}{q:PV},VR K ι H v q->q.dat=true->VR K [] H' v q
 | _,_,.ax,_=>.ax
 | _,_,.bl b,_=>.bl b
 | _,_,.int i,_=>.int i
 | _,_,.str x,_=>.str x
 | _,_,.ty n,h=>by rw[PV.dat]at h;cases h
 | _,_,.tup e r,h=>.tup (t _ _ e) (ay.jH t r (by rw[PV.dat]at h;exact h))
 | _,_,.cl e r,h=>by rw[PV.dat]at h;cases h
 | _,_,.dk _ _ _,h=>by rw[PV.dat]at h;cases h
 | _,_,.dt _ _ _,h=>by rw[PV.dat]at h;cases h
 | _,_,.ref e,h=>by rw[PV.dat]at h;cases h
theorem ay.jH{ι:O ce}{H H':Hp}(t:∀p vs,H p=ap (.tup vs)->H' p=ap (.tup vs)):∀{v:O V}{q:O PV},ay K ι H v q->tV q=true->ay K [] H' v q
 | _,_,.nil,_=>.nil
 | _,_,.cons r s,h=>by
  rw[tV,Aw]at h;exact .cons (VR.jH t r h.1) (ay.jH t s h.2)
end
def bor(I:Inv X Z σ H s)(sr:aU K H σ fs)(hs:fs[i]?=ap (ap t))(hb:t.bw=true):∃a o ob,Inv X Z σ (upd H a (.cq ob o)) s/\aU K (upd H a (.cq ob o)) σ (fs.set i (ap (.val t.bv)))/\
  ∀σ' s' H1,Inv X Z σ' H1 s'->cO σ (fs.set i (ap (.val t.bv))) (upd H a (.cq ob o)) H1->aU K H1 σ (fs.set i (ap (.val t.bv)))->Inv X Z σ' (upd H1 a o) s'/\cO σ fs H (upd H1 a o)/\aU K (upd H1 a o) σ fs/\(∀p vs,H1 p=ap (.tup vs)->upd H1 a o p=ap (.tup vs))/\∀p vs,p≠a->H1 p=ap (.lst vs)->upd H1 a o p=ap (.lst vs):=by
 have ho:=SL.RL hb;obtain⟨u,e1,⟨v,e,_⟩ | ⟨a,e,oa⟩⟩:=sr.at' i _ hs
 ·subst e;cases hb
 subst e;obtain⟨ob,o,h1,n1,n2,I2,vr⟩:=acH I oa hb;have h0:∀o u,X.H₀ a≠ap (.cq o u):=λo u z=>by
  have:=I.base.tD a o u z;rw[h1]at this;exact n2 _ _ (Option.some.inj this)
 refine⟨a,o,ob,I2,sr.acG hs ho e1 h1 n1 n2 vr,λσ' s' H1 J g s1=>?_⟩;have pf:∀φ b,iz σ (fs.set i (ap (.val t.bv))) φ b->iz σ fs φ b:=λφ b ⟨j,z1,z3⟩=>by
  rcases cT z1 with⟨_,z⟩ | ⟨n,z1⟩
  ·cases z
  ·exact⟨j,z1,z3⟩
 have npa:∀φ,¬iz σ fs φ a:=λφ ⟨j,z1,z3⟩=>by
  have:=sr.nd j i _ _ a a a z1 hs rfl ho z3 e1 (.inl rfl) (.inl rfl);subst this;rw[hs]at z1;cases z1;cases hb
 have e2:=g.keep a _ aM λφ p=>npa φ (pf φ a p);have hk:=QG J.br e2;have ge:cO σ fs H (upd H1 a o):=by
  refine⟨λb o z n=>?_,λb z=>?_⟩
  ·by_cases c:b=a
   ·subst c;rw[h1]at z;cases z;exact aM
   ·rw[aq c];exact g.keep b o (by rw[aq c];exact z) λφ p=>n φ (pf φ b p)
  ·by_cases c:b=a
   ·subst c;rw[aM]at z;cases z
   ·rw[aq c]at z;have:=g.there b z;rw[aq c]at this;exact this
 refine⟨J.ae4 e2 h0 (hk a _ aM) hk,ge,⟨sr.len,λj t z=>?_,sr.nd⟩,λp vs z=>?_,λp vs n z=>by rw[aq n];exact z⟩
 ·obtain⟨u,k1,k2⟩:=sr.at' j t z;refine⟨u,k1,?_⟩;by_cases c:∃φ,t=.kF φ
  ·obtain⟨φ,rfl⟩:=c;have ji:j≠i:=λy=>by subst y;rw[hs]at z;cases z;cases hb
   rcases k2 with⟨v,y,_⟩ | ⟨b,rfl,_⟩
   ·cases y
   ·obtain⟨vs,y1,y2⟩:=s1.ownAt (t:=.kF φ) (i:=j) (by rw[aP ji];exact z) rfl k1;refine .inr ⟨b,rfl,vs,?_,y2⟩;rw[aq (λy=>by subst y;exact npa φ ⟨j,z,k1⟩)];exact y1
  ·refine k2.mono (ge.d7 sr) (λx b o eb ow hb zz=>ge.keep b o zz λφ ⟨j',p1,p3⟩=>?_);subst eb;have:=sr.nd j j' t _ x b b z p1 ow rfl k1 p3 hb (.inl rfl);subst this;rw[z]at p1;cases p1;exact c ⟨φ,rfl⟩
 ·rw[aq (λy=>by subst y;rw[e2]at z;cases z)];exact z
def ac3(i:Nat)(hs:fs[i]?=ap (ap t))(h:EF X K (fs.set i (ap (.val t.bv))) e w)(hb:t.bw=true:=by rfl):EF X K fs e (.bind w Ox):=⟨λZ s σ H Q I ⟨sr,q⟩=>by
 obtain⟨a,o,ob,I2,s2,Ê⟩:=bor I sr hs hb;refine bV (h.p Z s σ _ (λu H1=>∃v,cO σ (fs.set i (ap (.val t.bv))) (upd H a (.cq ob o)) H1/\aU K H1 σ (fs.set i (ap (.val t.bv)))/\VR K [] H1 u v/\v.dat=true/\∀u H',cO σ fs H H'->aU K H' σ fs->VR K [] H' u v->Q u H') I2 ⟨s2,w.mono (λv q1 u H1 g1 s1 v1=>⟨v,g1,s1,v1,q1.1,q1.2⟩) q⟩) λu s1 ⟨x,H1,I1,r1,v,g1,SV,v1,d,q1⟩=>?_;obtain⟨I3,g3,s3,t3,_⟩:=Ê σ s1 H1 I1 g1 SV;exact⟨x,_,I3,r1,q1 x _ g3 s3 (VR.jH t3 v1 d)⟩⟩
def abT(i:Nat)(hs:fs[i]?=ap (ap t))(h:LF X K (fs.set i (ap (.val t.bv))) e wl)(hb:t.bw=true:=by rfl):LF X K fs e (.bind wl va):=⟨λZ s σ H Q I ⟨sr,q⟩=>by
 obtain⟨a,o,ob,I2,s2,Ê⟩:=bor I sr hs hb;refine bV (h.p Z s σ _ (λu H1=>∃b vs l',u=.ref b/\cO σ (fs.set i (ap (.val t.bv))) (upd H a (.cq ob o)) H1/\aU K H1 σ (fs.set i (ap (.val t.bv)))/\upd H a (.cq ob o) b=bm/\H1 b=ap (.lst vs)/\ay K [] H1 vs l'/\tV l'=true/\∀a vs H',cO σ fs H H'->aU K H' σ fs->H a=bm->H' a=ap (.lst vs)->ay K [] H' vs l'->Q (.ref a) H') I2 ⟨s2,wl.mono (λl' q1 b vs H1 g1 s1 n e v1=>⟨b,vs,l',rfl,g1,s1,n,e,v1,q1.1,q1.2⟩) q⟩) λu s1 ⟨x,H1,I1,r1,b,vs,l',e,g1,SV,n,eb,v1,d,q1⟩=>?_;subst e;obtain⟨I3,g3,s3,t3,k3⟩:=Ê σ s1 H1 I1 g1 SV;have nb:b≠a:=λy=>by subst y;rw[aM]at n;cases n
 exact⟨_,_,I3,r1,q1 b vs _ g3 s3 (by rw[aq nb]at n;exact n) (k3 b vs nb eb) (ay.jH t3 v1 d)⟩⟩
end
end
end FL
variable{G:O Int->Prop}
namespace FL
section
variable{K:Ab}
def aaU(K:Ab)(m:O PV->O PV->W (PV×O PV)):Sp:=λvs H Q _=>∃a N3 ws lo l,vs=.ref a::N3/\H a=ap (.lst ws)/\ay K [] H ws lo/\ay K [] H N3 l/\(m lo l).run λt=>∀u rK H',oW a H H'->(∀b,H' b=bm->H b=bm)->H' a=ap (.lst rK)->ay K [] H' rK t.2->VR K [] H' u t.1->Q u H'
section
variable{st:ss}{f:ce}{N:O Str}
def RO(a:ce)(lo l:O PV)(n:Nat):bb:=ap (.ol (ap a) lo)::(l.map λv=>ap (SL.val v))++An (n-1-l.length) bm
def ay.slot(r:ay K [] H vs l){s:SL}(h:(l.map λv=>ap (SL.val v))[i]?=ap (ap s)):∃u v,vs[i]?=ap u/\s=.val v/\VR K [] H u v:=by
 rw[Al]at h;cases e:l[i]? with
 | none=>rw[e]at h;cases h
 | some v=>
  rw[e]at h;obtain⟨u,h1,h2⟩:=r.get e;cases h;exact⟨u,v,h1,rfl,h2⟩
theorem fnO{m:O PV->HS (PV×O PV) n}(Fn:Sk K x qual st f fd)(S:cY N ps (aF st))(hn:n+1=ps.length)
  (Í:∀(a:ce) (lo l:O PV),l.length=n->∀(fv:bn) (A:u8) (outer:O Env) (s:cr) (H:Hp) (E:XK),fh k (A.deeper (xz qual (aF st) s.heap.objs.size f fv))->SF (uU ui P w K mg base N qual (aF st) f fv A outer s H E).VW K false (RO a lo l N.length) (cX st) (oX n (m lo) l) λt=>.ro t.1 a t.2) :
  g8 P w K mg base ui (k+1) f fd ps (aaU K λlo l=>oX n (m lo) l):=by
 refine Fn.ok S (λvs H Q E h=>?_) (λfv A outer s H vs Q E hr h=>?_)
 ·obtain⟨a,N3,ws,lo,l,rfl,_,_,r,q⟩:=h;rw[Ar,r.length,jl q];exact hn
 obtain⟨a,N3,ws,lo,l,rfl,ha,wM,r,q⟩:=h;have hl:=jl q;have hr2:=r.length;have UQ:∀{i:Nat}{s:SL},(RO a lo l N.length)[i]?=ap (ap s)->(i=0/\s=.ol (ap a) lo)\/∃j u v,i=j+1/\N3[j]?=ap u/\s=.val v/\VR K [] H u v:=λ{i s} e=>by
  unfold RO at e;cases i with
  | zero=>simp at e;exact .inl ⟨rfl,e.symm⟩
  | succ j=>
   rw[Ce,List.getElem?_cons_succ]at e;by_cases c:j < l.length
   ·rw[AR (by simpa using c)]at e;obtain⟨u,v,h1,h2,h3⟩:=ay.slot r e;exact .inr ⟨j,u,v,rfl,h1,h2,h3⟩
   ·rw[A1 (by simpa using c),Bs]at e
    split at e <;> cases e
 have sr:aU K H (L2.start N (.ref a::N3)) (RO a lo l N.length):=by
  refine⟨?_,λi s e=>?_,λi j s t x y b e1 e2 o1 o2 q1 q2 _ _=>?_⟩
  ·unfold L2.start RO;rw[Ai,Af,Bq,Ai,Ar,Ar,Af,Bq];omega
  ·rcases UQ e with⟨rfl,rfl⟩ | ⟨j,u,v,rfl,h1,rfl,h3⟩
   ·exact⟨.ref a,lJ rfl,.inr ⟨a,rfl,λb z=>Option.some.inj z,ws,ha,wM⟩⟩
   ·exact⟨u,lJ (by simpa using h1),.inl ⟨v,rfl,h3⟩⟩
  ·rcases UQ e1 with⟨rfl,rfl⟩ | ⟨j1,u,v,rfl,h1,rfl,h3⟩
   ·rcases UQ e2 with⟨rfl,rfl⟩ | ⟨j1,u,v,rfl,h1,rfl,h3⟩
    ·rfl
    ·cases o2
   ·cases o1
 refine⟨_,(Í a lo l hl fv A outer s H E hr).p,sr,(oX n (m lo) l).mono (λt q1 u σ' bC H' g s' ho rv=>?_) q⟩;obtain⟨i,e⟩:=ho;obtain⟨u',e',r'⟩:=s'.at' i _ e;rcases r' with⟨v,z,_⟩ | ⟨b,rfl,hb,rK,h1,h2⟩
 ·cases z
 have hba:=hb a rfl;subst hba;refine q1 u rK H' (λc o nc e=>(g.keep c o e λz=>?_).1) g.there h1 h2 rv;obtain⟨j,t',x,z1,z2,z3,z4⟩:=z;rcases UQ z1 with⟨rfl,rfl⟩ | ⟨j1,u,v,rfl,_,rfl,_⟩
 ·have:=ve z3;simp at this;rcases z4 with rfl | z4
  ·exact nc this.symm
  ·cases z4
 ·cases z2
def fR(G:O Int->Prop):O V->Prop:=λws=>∃ns:O Int,ws=ns.map V.int/\G ns
def XI{m:O PV->O PV->W (PV×O PV)}{mp:O PV->W PV}(F:g8 P w K mg base ui k f fd ps (aaU K m))(hm:∀ns l Q,G ns->(mp l).run Q->(m (ns.map PV.int) l).run λt=>Q t.1/\∃Gd:O Int,t.2=Gd.map PV.int/\G Gd) :
  g8 P w K mg base ui k f fd ps (Ml K (.p (fR G)::An n .v) mp):=F.imp λvs H Q E h=>by
 obtain⟨l,ha,q⟩:=h;cases ha with
 | @p a φ ws vs ks l e r t=>
  obtain⟨ns,rfl,hG⟩:=r;have tv:∀{n:Nat}{vs:O V}{l:O PV},iQ K H vs (An n .v) l->ay K [] H vs l:=by
   intro n
   induction n with
   | zero=>intro vs l h;cases h;exact .nil
   | succ n ih=>intro vs l h;cases h with | v r t=>exact .cons r (ih t)
  refine⟨a,vs,ns.map V.int,ns.map PV.int,l,rfl,e,om _ _ ns,tv t,(m _ _).mono (λt q1 u rK H' sx hth e' r' rv=>?_) (hm ns l _ hG q)⟩;obtain⟨q1,Gd,et,hG'⟩:=q1;rw[et]at r';have:=jF r';subst this;refine q1 u H' ⟨λb o eb nb=>sx b o (λz=>?_) eb,hth,λb φ p=>?_⟩ rv
  ·subst z;exact nb _ ⟨0,rfl,rfl⟩
  ·obtain⟨i,e1,e2⟩:=p;cases i with
   | zero=>simp at e1 e2;subst e1;subst e2;exact⟨_,e',Gd,rfl,hG'⟩
   | succ i=>
    simp at e1;rw[Bs]at e1
    split at e1 <;> simp at e1
end
section
variable{W9:O ss}{T:Type}{w:W T}{out:T->End}{x:Bool}
def abn(G:O Int->Prop)(l:O PV)(w:W T):W T:=.eQ (∃ns:O Int,l=ns.map PV.int/\G ns) w
def SF.kF(i:Nat)(hs:fs[i]?=ap (ap (.ol bm l)))(hr:SF X K x (fs.set i (ap (.kF (fR G)))) W9 w out):SF X K x fs W9 (abn G l w) out:=⟨λZ s σ H D I ⟨sr,q⟩=>by
 obtain⟨⟨ns,el,hG⟩,q⟩:=q;obtain⟨a,ws,e1,h1,r1⟩:=du sr hs;subst el;have:=jF r1;subst this;obtain⟨s2,g2⟩:=eY (t':=.kF (fR G)) sr hs rfl (by simp) e1 (λ_ _ _ z=>z:oW a H H) λtk=>⟨_,h1,ns,rfl,hG⟩;exact hr.p Z s σ H D I ⟨s2,w.mono (λt q2=>q2.go g2 sr s2) q⟩⟩
end
end
section
variable{K:Ab}
abbrev J7(wa wb:W PV):W PV:=.bind wa λx=>Vp x wb
abbrev orB(wa wb:W PV):W PV:=.bind wa λx=>orW x wb
abbrev gU(wl:W (O PV)):W PV:=.bind wl λl=>.ret (.cl l)
abbrev P8(t:W Bool)(w:W PV):W (Option PV):=.bind t λk=>if k=true then .bind w λv=>.ret (ap v) else .ret bm
section
variable{c:kw}{W':W PV}{WL:W (O PV)}
def U7{m:O PV->W PV}(G:VC X.prog X.w X.K X.mg X.base x k ps (Ml K ks m))(hr:fh k' X.A)(hk:k<=k')(hg:Gl X x)(ha:AF X K fs (e::es) ks B)(hW:W'=B m)(oq:jh x:=by decide)
  (he:gZ X e es:=by rfl) (c9:lF X pos es:=by rfl):EF X K fs (.Call (.Name x p) (e::es) [] pos) W':=hW▸Zn G hr hk hg ha oq he c9
def Uk{m:O PV->W (O PV)}{B:(O PV->W (O PV))->W (O PV)}(G:VC X.prog X.w X.K X.mg X.base x k ps (zP K ks m))(hr:fh k' X.A)(hk:k<=k')(hg:Gl X x)(ha:AF X K fs (e::es) ks B)(hW:WL=B m)(oq:jh x:=by decide)
  (he:gZ X e es:=by rfl) (c9:lF X pos es:=by rfl):LF X K fs (.Call (.Name x p) (e::es) [] pos) WL:=hW▸Yp G hr hk hg ha oq he c9
def au{x1}(h:AF X K fs es (An n .v) B)(hW:W'=B λl=>.ret (.tup l))(hn:n<=1000:=by decide):EF X K fs (.Tuple es x1 pos) W':=hW▸acW h hn
def aJ{B:(O PV->W (O PV))->W (O PV)}(h:AF X K fs es (An n .v) B)(hW:WL=B λl=>.ret l)(hn:n<=1000:=by decide):LF X K fs (.List es pos) WL:=hW▸V4 h hn
variable{T2:Type}{wt:PV->W T2}{cE:T2->bb}{tf:T2->W Bool}{te:T2->W PV}
def eI{f:PV->W PV}(hc:X.calm=true)(S:bc X.env.scope X.N sc N' ix)(hi:qQ X K fs tg iter wl)(hg:∀cl C s2 H2 fp,PG (fw X sc N' cl C s2 H2 fp) tg (dY i))(he:∀cl C s2 H2 fp t,EF (fw X sc N' cl C s2 H2 fp) K ((bq ix fs).set i (ap (.val t))) Ã (f t))(h0:ix[i]?=ap bm)(hs:um X iter:=by intro _;rfl) :
  LF X K fs (.ListComp Ã [⟨tg,iter,[],0⟩] sc pos) (.bind wl λl=>a7 l f):=
 have h1:(bq ix fs)[i]?=ap bm:=by unfold bq;rw[Al,h0];rfl
 V3 hc S hi (λcl C s2 H2 fp=>Wn (hg cl C s2 H2 fp)) he (λ_=>rfl) (Qa h1) (λj hj=>by rw[AD]at hj;subst hj;exact h0) hs
def Qd{tf:PV->W Bool}{te:PV->W PV}(hc:X.calm=true)(S:bc X.env.scope X.N sc N' ix)(hi:qQ X K fs tg iter wl)(hg:∀cl C s2 H2 fp,PG (fw X sc N' cl C s2 H2 fp) tg (dY i))(hf:∀cl C s2 H2 fp t,TF (fw X sc N' cl C s2 H2 fp) K ((bq ix fs).set i (ap (.val t))) c (tf t))(he:∀cl C s2 H2 fp t,EF (fw X sc N' cl C s2 H2 fp) K ((bq ix fs).set i (ap (.val t))) Ã (te t))(h0:ix[i]?=ap bm)(hs:um X iter:=by intro _;rfl) :
  LF X K fs (.ListComp Ã [⟨tg,iter,[c],0⟩] sc pos) (.bind wl λl=>mq l λp=>P8 (tf p) (te p)):=
 have h1:(bq ix fs)[i]?=ap bm:=by unfold bq;rw[Al,h0];rfl
 Yn (wt:=.ret) (tf:=tf) (te:=te) hc S hi (λcl C s2 H2 fp=>Wn (hg cl C s2 H2 fp)) (λcl C s2 H2 fp t=>yn (hf cl C s2 H2 fp t)) he (λ_=>rfl) (Qa h1) (λj hj=>by rw[AD]at hj;subst hj;exact h0) hs
def Qc(hc:X.calm=true)(S:bc X.env.scope X.N sc N' ix)(hi:qQ X K fs tg iter wl)(hg:∀cl C s2 H2 fp,GF (fw X sc N' cl C s2 H2 fp) K (bq ix fs) tg is wt cE)(he:∀cl C s2 H2 fp t,EF (fw X sc N' cl C s2 H2 fp) K (cE t) Ã (te t))
  (hl:qP is (bq ix fs) cE/\∀t,gA (cE t) (bq ix fs)) (uJ:∀j∈is,ix[j]?=ap bm) (hs:um X iter:=by intro _;rfl) :
  LF X K fs (.ListComp Ã [⟨tg,iter,[],0⟩] sc pos) (.bind wl λl=>a7 l λp=>.bind (wt p) te):=V3 hc S hi hg he (λ_=>rfl) hl uJ hs
def abR(hc:X.calm=true)(S:bc X.env.scope X.N sc N' ix)(hi:qQ X K fs tg iter wl)(hg:∀cl C s2 H2 fp,GF (fw X sc N' cl C s2 H2 fp) K (bq ix fs) tg is wt cE)(hf:∀cl C s2 H2 fp t,TF (fw X sc N' cl C s2 H2 fp) K (cE t) c (tf t))(he:∀cl C s2 H2 fp t,EF (fw X sc N' cl C s2 H2 fp) K (cE t) Ã (te t))
  (hl:qP is (bq ix fs) cE/\∀t,gA (cE t) (bq ix fs)) (uJ:∀j∈is,ix[j]?=ap bm) (hs:um X iter:=by intro _;rfl) :
  LF X K fs (.ListComp Ã [⟨tg,iter,[c],0⟩] sc pos) (.bind wl λl=>mq l λp=>.bind (wt p) λt=>P8 (tf t) (te t)):=Yn hc S hi hg (λcl C s2 H2 fp t=>yn (hf cl C s2 H2 fp t)) he (λ_=>rfl) hl uJ hs
variable{rest:O ss}{T:Type}{out:T->End}{x0:Bool}{kk:O PV->W T}
def SF.Xh{tf:PV->W Bool}{te:PV->W PV}(hc:X.calm=true)(hN:X.N.Nodup)(xR:X.N[i]?=ap y)(hx:X.env.scope.names.lookup y=ap .local)(S:bc X.env.scope X.N sc N' ix)(hi:qQ X K fs tg iter wl)(hg:∀cl C s2 H2 fp,PG (fw X sc N' cl C s2 H2 fp) tg (dY j))(hf:∀cl C s2 H2 fp t,TF (fw X sc N' cl C s2 H2 fp) K ((bq ix fs).set j (ap (.val t))) c (tf t))(he:∀cl C s2 H2 fp t,EF (fw X sc N' cl C s2 H2 fp) K ((bq ix fs).set j (ap (.val t))) Ã (te t))(h0:ix[j]?=ap bm)(hr:∀l,SF X K x0 (fs.set i (ap (.ol bm l))) rest (kk l) out)
  (oo:lc (.ListComp Ã [⟨tg,iter,[c],0⟩] sc pos) (ap (.Name y px)) kr.line X.env=pure true:=by rfl) (hs:um X iter:=by intro _;rfl) :
  SF X K x0 fs (.Assign [.Name y px] (.ListComp Ã [⟨tg,iter,[c],0⟩] sc pos) kr::rest) (.bind (.bind wl λl=>mq l λp=>P8 (tf p) (te p)) kk) out:=
 have h1:(bq ix fs)[j]?=ap bm:=by unfold bq;rw[Al,h0];rfl
 SF.OT (wt:=.ret) (tf:=tf) (te:=te) hc hN xR hx S hi (λcl C s2 H2 fp=>Wn (hg cl C s2 H2 fp)) (λcl C s2 H2 fp t=>yn (hf cl C s2 H2 fp t)) he (λ_=>rfl) (Qa h1) (λm hj=>by rw[AD]at hj;subst hj;exact h0) hr oo hs
def Lm{wt:PV->W T2}{te:T2->W PV}:(λl=>a7 l λp=>.bind (wt p) te)=λl=>mq l λp=>.bind (wt p) λt=>.bind (.ret true) λk=>if k=true then .bind (te t) λv=>.ret (ap v) else .ret bm:=funext λl=>by
 rw[xf];rfl
def SF.KU(hc:X.calm=true)(hN:X.N.Nodup)(xR:X.N[i]?=ap y)(hx:X.env.scope.names.lookup y=ap .local)(S:bc X.env.scope X.N sc N' ix)(hi:qQ X K fs tg iter wl)(hg:∀cl C s2 H2 fp,GF (fw X sc N' cl C s2 H2 fp) K (bq ix fs) tg is wt cE)(he:∀cl C s2 H2 fp t,EF (fw X sc N' cl C s2 H2 fp) K (cE t) Ã (te t))
  (hl:qP is (bq ix fs) cE/\∀t,gA (cE t) (bq ix fs)) (uJ:∀j∈is,ix[j]?=ap bm) (hr:∀l,SF X K x0 (fs.set i (ap (.ol bm l))) rest (kk l) out)
  (oo:lc (.ListComp Ã [⟨tg,iter,[],0⟩] sc pos) (ap (.Name y px)) kr.line X.env=pure true:=by rfl) (hs:um X iter:=by intro _;rfl) :
  SF X K x0 fs (.Assign [.Name y px] (.ListComp Ã [⟨tg,iter,[],0⟩] sc pos) kr::rest) (.bind (.bind wl λl=>a7 l λp=>.bind (wt p) te) kk) out:=by
 rw[Lm];exact SF.OT (tf:=λ_=>.ret true) hc hN xR hx S hi hg (λ_ _ _ _ _ _=>Jx) he (λp=>rfl) hl uJ hr oo hs
def SF.nk{f:PV->W PV}(hc:X.calm=true)(hN:X.N.Nodup)(xR:X.N[i]?=ap y)(hx:X.env.scope.names.lookup y=ap .local)(S:bc X.env.scope X.N sc N' ix)(hi:qQ X K fs tg iter wl)(hg:∀cl C s2 H2 fp,PG (fw X sc N' cl C s2 H2 fp) tg (dY j))(he:∀cl C s2 H2 fp t,EF (fw X sc N' cl C s2 H2 fp) K ((bq ix fs).set j (ap (.val t))) Ã (f t))(h0:ix[j]?=ap bm)(hr:∀l,SF X K x0 (fs.set i (ap (.ol bm l))) rest (kk l) out)
  (oo:lc (.ListComp Ã [⟨tg,iter,[],0⟩] sc pos) (ap (.Name y px)) kr.line X.env=pure true:=by rfl) (hs:um X iter:=by intro _;rfl) :
  SF X K x0 fs (.Assign [.Name y px] (.ListComp Ã [⟨tg,iter,[],0⟩] sc pos) kr::rest) (.bind (.bind wl λl=>a7 l f) kk) out:=
 have h1:(bq ix fs)[j]?=ap bm:=by unfold bq;rw[Al,h0];rfl
 SF.KU (wt:=.ret) hc hN xR hx S hi (λcl C s2 H2 fp=>Wn (hg cl C s2 H2 fp)) he (Qa h1) (λm hj=>by rw[AD]at hj;subst hj;exact h0) hr oo hs
def SF.Xg(hc:X.calm=true)(hN:X.N.Nodup)(xR:X.N[i]?=ap y)(hx:X.env.scope.names.lookup y=ap .local)(S:bc X.env.scope X.N sc N' ix)(hi:qQ X K fs tg iter wl)(hg:∀cl C s2 H2 fp,GF (fw X sc N' cl C s2 H2 fp) K (bq ix fs) tg is wt cE)(hf:∀cl C s2 H2 fp t,TF (fw X sc N' cl C s2 H2 fp) K (cE t) c (tf t))(he:∀cl C s2 H2 fp t,EF (fw X sc N' cl C s2 H2 fp) K (cE t) Ã (te t))
  (hl:qP is (bq ix fs) cE/\∀t,gA (cE t) (bq ix fs)) (uJ:∀j∈is,ix[j]?=ap bm) (hr:∀l,SF X K x0 (fs.set i (ap (.ol bm l))) rest (kk l) out)
  (oo:lc (.ListComp Ã [⟨tg,iter,[c],0⟩] sc pos) (ap (.Name y px)) kr.line X.env=pure true:=by rfl) (hs:um X iter:=by intro _;rfl) :
  SF X K x0 fs (.Assign [.Name y px] (.ListComp Ã [⟨tg,iter,[c],0⟩] sc pos) kr::rest) (.bind (.bind wl λl=>mq l λp=>.bind (wt p) λt=>P8 (tf t) (te t)) kk) out:=SF.OT hc hN xR hx S hi hg (λcl C s2 H2 fp t=>yn (hf cl C s2 H2 fp t)) he (λ_=>rfl) hl uJ hr oo hs
end
def LG{f:ce}(h:∀vs H Q E,¬sp vs H Q E):g8 P w K mg base ui k f fd ps sp:=⟨λvs H Q E q=>(h _ _ _ _ q).elim,λA outer s H args us vs Q E _ _ _ _ q=>(h _ _ _ _ q).elim⟩
def Ig{m:HS PV n}(h:∀l Q,l.length=n->¬(oX n m l).run Q):∀vs H Q E,¬Ml K ks (oX n m) vs H Q E:=λvs H Q E ⟨l,_,q⟩=>h l _ (jl q) q
def SO{m:HS (O PV) n}(h:∀l Q,l.length=n->¬(oX n m l).run Q):∀vs H Q E,¬zP K ks (oX n m) vs H Q E:=λvs H Q E ⟨l,_,q⟩=>h l _ (jl q) q
theorem aV(hr:fh k A):A.units+200 < pc:=by have:=hr.un;omega
end
section
variable{K:Ab}
mutual
def PV.fq:PV->Bool
 | .tup l=>d5 l
 | .cl l=>d5 l
 | .ref _=>false
 | .ty _=>false
 | .dv _ _=>false
 | _=>true
def d5:O PV->Bool
 | []=>true
 | x::l=>PV.fq x&&d5 l
end
mutual
def PV.cy:PV->Nat
 | .tup l=>cK l+1
 | .cl l=>cK l+1
 | _=>0
def cK:O PV->Nat
 | []=>0
 | x::l=>max (PV.cy x) (cK l)
end
mutual
def km:PV->PV->Bool
 | .ax,.ax=>true
 | .bl a,.bl b=>a==b
 | .bl a,.int b=>(if a then 1 else 0)==b
 | .int a,.bl b=>a==(if b then 1 else 0)
 | .int a,.int b=>a==b
 | .str a,.str b=>a==b
 | .tup l,.tup m=>dW l m
 | .cl l,.cl m=>dW l m
 | _,_=>false
def dW:O PV->O PV->Bool
 | [],[]=>true
 | x::l,y::m=>km x y&&dW l m
 | _,_=>false
end
theorem tG:∀{l:O PV}{j:Nat}{x:PV},d5 l=true->l[j]?=ap x->PV.fq x=true
 | [],_,_,_,e=>by simp at e
 | y::l,0,x,h,e=>by
  simp at e;subst e;rw[d5,Aw]at h;exact h.1
 | y::l,j+1,x,h,e=>by
  rw[d5,Aw]at h;exact tG h.2 (by simpa using e)
theorem pW:∀{l:O PV}{j:Nat}{x:PV},l[j]?=ap x->PV.cy x<=cK l
 | [],_,_,e=>by simp at e
 | y::l,0,x,e=>by
  simp at e;subst e;rw[cK];omega
 | y::l,j+1,x,e=>by
  have:=pW (l:=l) (j:=j) (x:=x) (by simpa using e);rw[cK];omega
mutual
theorem G1:∀(x:PV),PV.fq x=true->km x x=true
 | .ax,_=>by rw[km]
 | .bl b,_=>by rw[km];simp
 | .int i,_=>by rw[km];simp
 | .str i,_=>by rw[km];simp
 | .tup l,h=>by rw[km];exact lR l (by rw[PV.fq]at h;exact h)
 | .cl l,h=>by rw[km];exact lR l (by rw[PV.fq]at h;exact h)
 | .ref _,h=>by rw[PV.fq]at h;cases h
 | .ty _,h=>by rw[PV.fq]at h;cases h
 | .dv _ _,h=>by rw[PV.fq]at h;cases h
theorem lR:∀(l:O PV),d5 l=true->dW l l=true
 | [],_=>by rw[dW]
 | x::l,h=>by
  rw[d5,Aw]at h;rw[dW,G1 x h.1,lR l h.2];rfl
end
def Ri(l m:O PV)(j:Nat):Bool:=match l[j]?,m[j]? with | some x,ap y=>km x y | _,_=>true
theorem oA:∀(l m:O PV),((AL (min l.length m.length)).all (Ri l m)&&l.length==m.length)=dW l m
 | [],[]=>by rw[dW];rfl
 | [],_::_=>by
  rw[dW]
  ·simp
  ·intros;simp_all
  ·intros;simp_all
 | _::_,[]=>by
  rw[dW]
  ·simp
  ·intros;simp_all
  ·intros;simp_all
 | x::l,y::m=>by
  rw[dW,<- oA l m];have e:min (x::l).length (y::m).length=min l.length m.length+1:=by simp only[Ar];omega
  rw[e,List.range_succ_eq_map,EE,Dr];have e2:((x::l).length==(y::m).length)=(l.length==m.length):=by simp
  rw[e2,Bool.and_assoc];rfl
def G0{m:O PV}(h:l.length≠m.length):dW l m=false:=by
 rw[<- oA];have:(l.length==m.length)=false:=by simpa using h
 rw[this,En]
section
mutual
theorem VR.QZ(I:Inv X Z σ H s):∀{v:V}{x y:PV},VR X.K [] H v x->VR X.K [] H v y->x=y
 | _,_,_,.ax,h=>by cases h;rfl
 | _,_,_,.bl b,h=>by cases h;rfl
 | _,_,_,.int b,h=>by cases h;rfl
 | _,_,_,.str b,h=>by cases h;rfl
 | _,_,_,.ty b,h=>by cases h;rfl
 | _,_,_,.ref e,h=>by simp at e
 | _,_,_,.tup e r,h=>by
  cases h with
  | tup e' r'=>
   have ee:=I.lI (dj.of e) (dj.of e');subst ee;rw[ay.QZ I r r']
  | ref e=>simp at e
  | cl e' r'=>
   obtain⟨ao,_,⟨o,n,h1,h2,_⟩,_⟩:=I.list e'.sq;obtain⟨its',_,⟨o',gR,rq,_⟩,_⟩:=I.tuple (dj.of e);rw[h1]at gR;cases gR;rw[h2]at rq;simp at rq
  | dk e' _ _=>rw[e]at e';cases e'
  | dt e' _ _=>rw[e]at e';cases e'
 | _,_,_,.dk e k r,h=>by
  cases h with
  | dk e' k' r'=>rw[e]at e';cases e';rw[k,k',ay.QZ I r r']
  | dt e' _ _=>rw[e]at e';cases e'
  | ref e=>simp at e
  | tup e' _=>rw[e]at e';cases e'
  | cl e' r'=>
   obtain⟨ao,_,⟨o,n,h1,h2,_⟩,_⟩:=I.list e'.sq;obtain⟨_,_,vs,_,o',_,_,gR,rq,_⟩:=tT I.br (.inr ⟨_,e⟩);rw[h1]at gR;cases gR;have h3:=rq.1;rw[h2]at h3;simp at h3
 | _,_,_,.dt e k r,h=>by
  cases h with
  | dt e' k' r'=>rw[e]at e';cases e';rw[k,k',ay.QZ I r r']
  | dk e' _ _=>rw[e]at e';cases e'
  | ref e=>simp at e
  | tup e' _=>rw[e]at e';cases e'
  | cl e' r'=>
   obtain⟨ao,_,⟨o,n,h1,h2,_⟩,_⟩:=I.list e'.sq;obtain⟨_,_,vs,_,o',_,_,gR,rq,_⟩:=tS I.br (.inr ⟨_,e⟩);rw[h1]at gR;cases gR;have h3:=rq.1;rw[h2]at h3;simp at h3
 | _,_,_,.cl e r,h=>by
  cases h with
  | dk e' _ _=>
   obtain⟨ao,_,⟨o,n,h1,h2,_⟩,_⟩:=I.list e.sq;obtain⟨_,_,vs,_,o',_,_,gR,rq,_⟩:=tT I.br (.inr ⟨_,e'⟩);rw[h1]at gR;cases gR;have h3:=rq.1;rw[h2]at h3;simp at h3
  | dt e' _ _=>
   obtain⟨ao,_,⟨o,n,h1,h2,_⟩,_⟩:=I.list e.sq;obtain⟨_,_,vs,_,o',_,_,gR,rq,_⟩:=tS I.br (.inr ⟨_,e'⟩);rw[h1]at gR;cases gR;have h3:=rq.1;rw[h2]at h3;simp at h3
  | cl e' r'=>
   obtain⟨ao,k,⟨o,n,h1,h2,h3,h4⟩,_⟩:=I.list e.sq;obtain⟨its',k',⟨o',n',gR,rq,QP,YX⟩,_⟩:=I.list e'.sq;rw[h1]at gR;cases gR;rw[h4]at YX;have:ao=its':=by injection YX with a b;simpa using a
   subst this;have ee:=Vals.inj k k';subst ee;rw[ay.QZ I r r']
  | ref e=>simp at e
  | tup e' r'=>
   obtain⟨ao,_,⟨o,n,h1,h2,_⟩,_⟩:=I.list e.sq;obtain⟨its',_,⟨o',gR,rq,_⟩,_⟩:=I.tuple (dj.of e');rw[h1]at gR;cases gR;rw[h2]at rq;simp at rq
theorem ay.QZ(I:Inv X Z σ H s):∀{v:O V}{x y:O PV},ay X.K [] H v x->ay X.K [] H v y->x=y
 | _,_,_,.nil,h=>by cases h;rfl
 | _,_,_,.cons r t,h=>by
  cases h with
  | cons r' t'=>rw[VR.QZ I r r',ay.QZ I t t']
end
structure Cmp(A:u8)(s:cr)(w w':bn)(b:Bool):Prop where
 rc:FN A s w w' b
 ne:FP A s w w' (!b)
 eq:CY A s w w' b
def acV(I:Inv X Z σ H s){ws:O V}{m:O PV}(r:Vals vs ao)(r':Vals ws its')(r1:ay X.K [] H vs l)(r2:ay X.K [] H ws m)
  (ih:∀(j:Nat) (x y:PV) (v v':V) (w w':bn),l[j]?=ap x->m[j]?=ap y->VR X.K [] H v x->VR X.K [] H v' y->RelV v w->RelV v' w'->CY A s w w' (km x y)) :
  ∀j (g1:j < ao.toArray.size) (g2:j < its'.toArray.size),CY A s ao.toArray[j] its'.toArray[j] (Ri l m j):=λj g1 g2=>by
 have h1:j < ao.length:=by simpa using g1
 have h2:j < its'.length:=by simpa using g2
 have hl:j < l.length:=by rw[<- r1.length,r.length];exact h1
 have hm:j < m.length:=by rw[<- r2.length,r'.length];exact h2
 obtain⟨v,v1,v2⟩:=r1.get (Ad hl);obtain⟨v',Su,ģ⟩:=r2.get (Ad hm);obtain⟨u,u1,u2⟩:=r.get v1;obtain⟨u',â,Ĥ⟩:=r'.get Su;rw[Ad h1]at u1;rw[Ad h2]at â;cases u1;cases â;unfold Ri;rw[Ad hl,Ad hm];have:=ih j _ _ v v' _ _ (Ad hl) (Ad hm) v2 ģ u2 Ĥ;simpa using this
inductive Sh(X:Cx)(H:Hp)(s:cr):PV->bn->Prop
 | ax:Sh X H s .ax .none
 | bl (b:Bool):Sh X H s (.bl b) (.bool b)
 | int (i:Int) (t:Tok):Sh X H s (.int i) (.int i t)
 | str (x:Str) (t:Tok):Sh X H s (.str x) (.str x t)
 | tup {p:ce}{vs:List V}{ao:List bn}{l:List PV} (e:VR X.K [] H (.ref p) (.tup l)) (k:Vals vs ao) (r:ay X.K [] H vs l) (h:s.heap.IsTuple p ao.toArray):Sh X H s (.tup l) (.ref p)
 | cl {p:ce}{vs:List V}{ao:List bn}{l:List PV} (e:VR X.K [] H (.ref p) (.cl l)) (k:Vals vs ao) (r:ay X.K [] H vs l) (h:s.heap.IsList p ao.toArray):Sh X H s (.cl l) (.ref p)
def Sh.of(I:Inv X Z σ H s){v:V}{x:PV}{w:bn}(h:VR X.K [] H v x)(r:RelV v w)(d:PV.fq x=true):Sh X H s x w:=by
 cases h with
 | ref e=>simp at e
 | ax=>cases r;exact .ax
 | bl a=>cases r;exact .bl a
 | int a=>obtain⟨t,rfl⟩:=r;exact .int a t
 | str a=>obtain⟨t,rfl⟩:=r;exact .str a t
 | tup e q=>
  cases r;obtain⟨ao,k,ht,_⟩:=I.tuple (dj.of e);exact .tup (.tup e q) k q ht
 | cl e q=>
  cases r;obtain⟨ao,k,pl,_⟩:=I.list e.sq;exact .cl (.cl e q) k q pl.isList
 | _=>rw[PV.fq]at d;cases d
set_option maxHeartbeats 8000000 in
theorem Ve(hK:X.K=K)(I:Inv X Z σ H s):∀(n:Nat) (x y:PV) (A:u8) (v v':V) (w w':bn),PV.cy x<=n->PV.fq x=true->PV.fq y=true->VR K [] H v x->VR K [] H v' y->RelV v w->RelV v' w'->A.units+n+1 < pc->Cmp A s w w' (km x y):=by
 subst hK;intro n
 induction n using Cn with
 | ind n ih=>
 intro x y A v v' w w' hd dx dy hv YM r1 r2 hu;have a:=Sh.of I hv r1 dx;have b:=Sh.of I YM r2 dy;clear hv YM r1 r2;have el:∀{l m:O PV}{vs ws:O V}{ao bS:O bn},d5 l=true->d5 m=true->cK l < n->Vals vs ao->Vals ws bS->ay X.K [] H vs l->ay X.K [] H ws m->ao.toArray.size=l.length/\bS.toArray.size=m.length/\∀j (g1:j < ao.toArray.size) (g2:j < bS.toArray.size),CY A.in1 s ao.toArray[j] bS.toArray[j] (Ri l m j):=λd1 d2 hd k1 k2 r r'=>⟨by rw[Ah,<- k1.length,r.length],by rw[Ah,<- k2.length,r'.length],acV I (A:=A.in1) k1 k2 r r' λj x y v v' w w' hx hy vx vy rx ry=>(ih _ hd x y A.in1 v v' w w' (pW hx) (tG d1 hx) (tG d2 hy) vx vy rx ry (by show A.units+1+_+1 < _;omega)).eq⟩;have fin:∀{pa pb:ce}{l m:O PV},(pa=pb->l=m)->d5 l=true->FN A s (.ref pa) (.ref pb) (dW l m)->CY A s (.ref pa) (.ref pb) (dW l m):=λ{pa pb l m} h d q=>by
  by_cases GK:pa=pb
  ·rw[h GK,lR _ (h GK▸d),GK];exact DQ _
  ·exact Dg GK q
 cases a <;> cases b
 case tup.tup pa vs ao l e k r ht pb ws bS m e2 k2 r2 zv=>
  rw[PV.cy]at hd;obtain⟨z1,z2,ie⟩:=el dx dy ∅ k k2 r r2;have q1:=Et ht zv (A:=A) ∅ ie;have q2:=FE ht zv (A:=A) ∅ ie;rw[z1,z2,oA]at q1 q2;exact⟨q1,q2,fin (λz=>by subst z;have:=VR.QZ I e e2;injection this) dx q1⟩
 case cl.cl pa vs ao l e k r ht pb ws bS m e2 k2 r2 zv=>
  rw[PV.cy]at hd;obtain⟨z1,z2,ie⟩:=el dx dy ∅ k k2 r r2;by_cases hz:l.length=m.length
  ·have q1:=EG ht zv (by rw[z1,z2];exact hz) (A:=A) ∅ ie;have q2:=D9 ht zv (by rw[z1,z2];exact hz) (A:=A) ∅ ie;have ef:(AL l.length).all (Ri l m)=dW l m:=by rw[<- oA,hz,Nat.min_self,beq_self_eq_true,Bool.and_true]
   rw[z1,ef]at q1 q2;exact⟨q1,q2,fin (λz=>by subst z;have:=VR.QZ I e e2;injection this) dx q1⟩
  ·have q1:=Ez (A:=A) ht zv (by rw[z1,z2];simpa using hz) ∅;have q2:=D8 (A:=A) ht zv (by rw[z1,z2];simpa using hz) ∅;have ef:=G0 hz;rw[<- ef]at q1;have q2:FP A s (.ref pa) (.ref pb) (!dW l m):=by rw[ef];exact q2
   exact⟨q1,q2,fin (λz=>by subst z;have:=VR.QZ I e e2;injection this) dx q1⟩
 all_goals
  clear ih el fin;rw[km] <;> try (intros;simp_all;done)
  refine⟨?_,?_,?_⟩ <;> (try simp only[CM,C3]) <;> first | with_reducible exact .none_none | with_reducible exact .none_bool _ | with_reducible exact .none_int _ _ | with_reducible exact .none_str _ _ | with_reducible exact .none_tuple ‹_› ∅ | with_reducible exact .none_list ‹_› ∅ | with_reducible exact .bool_none _ | with_reducible exact .bool_str _ _ _ | with_reducible exact .bool_tuple _ ‹_› ∅ | with_reducible exact .bool_list _ ‹_› ∅ | with_reducible exact .int_none _ _ | with_reducible exact .int_str _ _ _ _ | with_reducible exact .int_tuple _ _ ‹_› ∅ | with_reducible exact .int_list _ _ ‹_› ∅ | with_reducible exact .str_none _ _ | with_reducible exact .str_bool _ _ _ | with_reducible exact .str_int _ _ _ _ | with_reducible exact .str_tuple _ _ ‹_› ∅ | with_reducible exact .str_list _ _ ‹_› ∅ | with_reducible exact .tuple_none ‹_› ∅ | with_reducible exact .tuple_bool _ ‹_› ∅ | with_reducible exact .tuple_int _ _ ‹_› ∅ | with_reducible exact .tuple_str _ _ ‹_› ∅ | with_reducible exact .tuple_list ‹_› ‹_› ∅ | with_reducible exact .list_none ‹_› ∅ | with_reducible exact .list_bool _ ‹_› ∅ | with_reducible exact .list_int _ _ ‹_› ∅ | with_reducible exact .list_str _ _ ‹_› ∅ | with_reducible exact .list_tuple ‹_› ‹_› ∅ | exact .same _ | exact .bool_bool _ _ | exact .bool_int _ _ _ | exact .int_bool _ _ _ | exact .int_int _ _ _ _ | exact .str_str _ _ _ _
end
end
section
variable{K:Ab}
mutual
theorem VR.nM{ι:O ce}{H:Hp}:∀{v:V}{q:PV},VR K ι H v q->PV.fq q=true->VR K [] H v q
 | _,_,.ax,_=>.ax
 | _,_,.bl b,_=>.bl b
 | _,_,.int i,_=>.int i
 | _,_,.str x,_=>.str x
 | _,_,.ty n,h=>by rw[PV.fq]at h;cases h
 | _,_,.dk _ _ _,h=>by rw[PV.fq]at h;cases h
 | _,_,.dt _ _ _,h=>by rw[PV.fq]at h;cases h
 | _,_,.tup e r,h=>.tup e (ay.nM r (by rw[PV.fq]at h;exact h))
 | _,_,.cl e r,h=>.cl e (ay.nM r (by rw[PV.fq]at h;exact h))
 | _,_,.ref e,h=>by rw[PV.fq]at h;cases h
theorem ay.nM{ι:O ce}{H:Hp}:∀{v:O V}{q:O PV},ay K ι H v q->d5 q=true->ay K [] H v q
 | _,_,.nil,_=>.nil
 | _,_,.cons r s,h=>by
  rw[d5,Aw]at h;exact .cons (VR.nM r h.1) (ay.nM s h.2)
end
def JA(x y:PV):Prop:=PV.fq x=true/\PV.fq y=true/\PV.cy x<=150
def fB:M2:=⟨λx y h Q=>JA x y/\Q (.bl (km x y)) h,λf q=>⟨q.1,f _ _ q.2⟩⟩
def Ga:M2:=⟨λx y h Q=>JA x y/\Q (.bl (!km x y)) h,λf q=>⟨q.1,f _ _ q.2⟩⟩
def S6(K:Ab)(neg:Bool):R2:=λu v H Q=>∃x y,VR K [] H u x/\VR K [] H v y/\JA x y/\Q (.bl (if neg then !km x y else km x y)) H
section
theorem X2(hK:X.K=K)(hu:X.A.units+200 < pc):iR X (o0 .Eq) (S6 K false):=λZ s σ H u v w w' Q I r1 r2 ⟨x,y,h1,h2,⟨o1,o2,o3⟩,q⟩=>by
 exact E7 (Ve hK I 150 x y X.A u v w w' o3 o1 o2 h1 h2 r1 r2 ∅).rc ⟨.bl _,H,I,rfl,q⟩
theorem XZ(hK:X.K=K)(hu:X.A.units+200 < pc):iR X (o0 .NotEq) (S6 K true):=λZ s σ H u v w w' Q I r1 r2 ⟨x,y,h1,h2,⟨o1,o2,o3⟩,q⟩=>by
 exact Dl (Ve hK I 150 x y X.A u v w w' o3 o1 o2 h1 h2 r1 r2 ∅).ne ⟨.bl _,H,I,rfl,q⟩
def TZ:M2.Ok K (S6 K false) fB:=λ{ι H h u v x y Q} hr hu hv q=>⟨x,y,VR.nM hu q.1.1,VR.nM hv q.1.2.1,q.1,q.2 ι _ H (Go.refl _ _) hr (.bl _)⟩
def TV:M2.Ok K (S6 K true) Ga:=λ{ι H h u v x y Q} hr hu hv q=>⟨x,y,VR.nM hu q.1.1,VR.nM hv q.1.2.1,q.1,q.2 ι _ H (Go.refl _ _) hr (.bl _)⟩
def fC(hK:X.K=K)(hu:X.A.units+200 < pc):JC X K .Eq b fB:=⟨⟨_,X2 hK hu,TZ⟩,ju _⟩
def Qu(hK:X.K=K)(hu:X.A.units+200 < pc):JC X K .NotEq b Ga:=⟨⟨_,XZ hK hu,TV⟩,ju _⟩
end
end
end FL
variable{x:A6}{b b1:Bool}{ys:Array A6}{z i1 i2 a1 a2:BD}{k1:Nat}
namespace L2
def ug(b:Bool)(h:lm)(it a:ce)(k:Nat):Prop:=match b with
 | true=>h.IsListIter it a k
 | false=>h.IsTupleIter it a k
def iO(b:Bool)(h:lm)(a:ce)(xs:Array bn):Prop:=match b with
 | true=>h.IsList a xs
 | false=>h.IsTuple a xs
def ug.move(x:ug b h it a k)(g:∀o,h.get? it=ap o->h'.get? it=ap o):ug b h' it a k:=by
 cases b with
 | true=>obtain⟨o,e,p⟩:=(show h.IsListIter it a k from x);exact(show h'.IsListIter it a k from⟨o,g o e,p⟩)
 | false=>obtain⟨o,e,p⟩:=(show h.IsTupleIter it a k from x);exact(show h'.IsTupleIter it a k from⟨o,g o e,p⟩)
def iO.move(x:iO b h a xs)(g:∀o,h.get? a=ap o->h'.get? a=ap o):iO b h' a xs:=by
 cases b with
 | true=>obtain⟨o,e,p⟩:=(show h.IsList a xs from x);exact(show h'.IsList a xs from⟨o,g o e,p⟩)
 | false=>obtain⟨o,e,p⟩:=(show h.IsTuple a xs from x);exact(show h'.IsTuple a xs from⟨o,g o e,p⟩)
def ug.obj(x:ug b h it a k):∃o,h.get? it=ap o/\∀v,o.data≠.cell v:=by
 cases b with
 | true=>obtain⟨o,e,_,d⟩:=(show h.IsListIter it a k from x);exact⟨o,e,λv z=>by rw[d]at z;cases z⟩
 | false=>obtain⟨o,e,_,d⟩:=(show h.IsTupleIter it a k from x);exact⟨o,e,λv z=>by rw[d]at z;cases z⟩
def iO.lt(x:iO b h a xs):a < h.objs.size:=by
 cases b with
 | true=>obtain⟨o,e,p⟩:=(show h.IsList a xs from x);exact Au e
 | false=>obtain⟨o,e,p⟩:=(show h.IsTuple a xs from x);exact Au e
section
def kH{t:ce}(h:ug b s.heap it t i)(ht:iO b s.heap t items)(hx:items[i]?=ap x)
  (q:∀h':lm,ug b h' it t (i+1)->Cc it s.heap h'->Q x {s with heap:=h'}):db (ev prog w) A (Builtin.SmallTypes.nextOf (.ref it)) Q E s:=by
 cases b with
 | true=>exact wpAny_nextOf_list_item h ht hx λh' a b=>q h' a b
 | false=>exact hX h ht hx q
def sC{t:ce}(hA:A.handled=bm)(h:ug b s.heap it t i)(ht:iO b s.heap t items)(hx:items[i]?=bm)
  (q:∀(h':lm) (e:ce),FY it s.heap h'->(∃o,h'.get? e=ap o/\o.cls=.type "StopIteration")->E (.ref e) {s with heap:=h'}):db (ev prog w) A (Builtin.SmallTypes.nextOf (.ref it)) Q E s:=by
 cases b with
 | true=>exact wpAny_nextOf_list_end hA h ht hx λh' e a b=>q h' e a b
 | false=>exact iZ hA h ht hx q
def M6:Bool->String
 | true=>"list_iterator"
 | false=>"tuple_iterator"
def vg(h:iO b s.heap a xs)(q:Q (.ref s.heap.objs.size) {s with heap:=s.heap.push {cls:=.type (M6 b),data:=.fields #[.ref a,.int 0 0]}}):db (ev prog w) A (pyIter (.ref a)) Q E s:=by
 cases b with
 | true=>exact CS h q
 | false=>exact Ef h q
def KH(e:h.get? it=ap {cls:=.type (M6 b),data:=.fields #[.ref a,.int 0 0]}):ug b h it a 0:=by
 cases b with
 | true=>exact(show h.IsListIter it a 0 from⟨_,e,rfl,rfl⟩)
 | false=>exact(show h.IsTupleIter it a 0 from⟨_,e,rfl,rfl⟩)
end
structure jZ(b1 b2:Bool)(h:lm)(z TI TO i1 i2 a1 a2:ce)(f0:bn)(k1 k2:Nat):Prop where
 zip:IsZip h z TI TO f0
 ti:IsPair h TI (.ref i1) (.ref i2)
 to:∃a b,IsPair h TO a b
 it1:ug b1 h i1 a1 k1
 it2:ug b2 h i2 a2 k2
def rF{E:bn->cr->Prop}{b2:Bool}{TI TO:ce}{y:bn}(hA:ZipApart z TI TO i1 i2 a1 a2)
  (hz:jZ b1 b2 s.heap z TI TO i1 i2 a1 a2 .none k1 k2) (Wh:iO b1 s.heap a1 xs) (zv:iO b2 s.heap a2 ys) (hx:xs[k1]?=ap x) (hy:ys[k2]?=ap y)
  (q:∀h':lm,jZ b1 b2 h' z TI TO i1 i2 a1 a2 (t0 s.heap.objs.size) (k1+1) (k2+1)->IsPair h' s.heap.objs.size x y->(∀c o,c≠z->c≠TO->c≠i1->c≠i2->s.heap.get? c=ap o->h'.get? c=ap o)->Q (.ref s.heap.objs.size) {s with heap:=h'}) :
  db (ev prog w) A (vD.«zip.__next__» {pos:=[.ref z]}) (λfin s'=>∃v,fin=Fp (FZ v)/\Q v s') E s:=by
 obtain⟨hz,UG,⟨ta,tb,ı⟩,Ě,UN⟩:=hz;show db _ _ (field (.ref z) 2 >>= λr=>_) _ _ s;refine Aa (AY hz rfl rfl ?_);refine Aa (AY hz rfl rfl ?_);refine Aa (Bt UG rfl ?_);refine Aa ?_;refine Aa (AY hz rfl rfl ?_);refine Ae ?_;refine Aa (CZ ?_);refine Aa (AY hz rfl rfl ?_);show db _ _ (wf (.ref z) 0 .ellipsis >>= λr=>_) _ _ s;refine Aa (Bg hz (show 0 < 5 by decide) λh1 z1 b1=>?_);show db _ _ ((forIn [(Az i1,0),(Az i2,1)] _ _) >>= λr=>_) _ _ _;refine Aa ?_;rw[BS];have uK:=b1.2;refine Aa ?_;refine Aa (EB ?_);refine Aa (kH (Ě.move λo e=>(uK _ hA.i1z).trans e) (Wh.move λo e=>(uK _ hA.l1z).trans e) hx λh2 j2 b2=>Ae ?_);have QQ:∀b,b≠z->b≠i1->h2.get? b=s.heap.get? b:=λb n1 n2=>(b2.2 b n2).trans (uK b n1);have ã:=(QQ _ hA.TOz hA.TOi1).trans ı;refine Aa (Bt ã rfl ?_);refine Aa (DM ã λh3 t3 b3=>?_);have Ì:∀b,b≠z->b≠i1->b≠TO->h3.get? b=s.heap.get? b:=λb n1 n2 n3=>(b3.2 b n3).trans (QQ b n1 n2);refine Aa (Cz (Ae ?_));show db _ _ (forIn [(Az i2,1)] _ _) _ _ _;rw[BS];refine Aa ?_;refine Aa (EB ?_);refine Aa (kH (UN.move λo e=>(Ì _ hA.i2z hA.i12.symm hA.TOi2.symm).trans e) (zv.move λo e=>(Ì _ hA.l2z hA.l2i1 hA.l2TO).trans e) hy λh4 j4 b4=>Ae ?_);have to4:=(b4.2 _ hA.TOi2).trans t3;refine Aa (Bt to4 rfl ?_);refine Aa (DM to4 λh5 t5 b5=>?_);have to5:=t5;refine Aa (Cz (Ae ?_));refine Ae ?_;refine Aa (Bt to5 rfl ?_);have Ħ:=b5.1.trans (b4.1.trans (b3.1.trans (b2.1.trans b1.1)));refine Aa (C0 ?_ (by show 2<=sizeLine;decide));have acE:∀b,b≠z->b≠i1->b≠TO->b≠i2->h5.get? b=s.heap.get? b:=λb n1 n2 n3 n4=>(b5.2 b n3).trans ((b4.2 b n4).trans (Ì b n1 n2 n3));have z5:h5.get? z=ap {cls:=.type "zip",data:=.fields #[.ellipsis,.bool false,.bool false,.ref TI,.ref TO]}:=(b5.2 _ hA.TOz.symm).trans ((b4.2 _ hA.i2z.symm).trans ((b3.2 _ hA.TOz.symm).trans ((b2.2 _ hA.i1z.symm).trans z1)));have kp:∀b o,h5.get? b=ap o->(h5.push {cls:=.type "tuple",data:=.seq #[x,y]}).get? b=ap o:=λb o e=>Ag _ e;have afG:(h5.push {cls:=.type "tuple",data:=.seq #[x,y]}).get? h5.objs.size=ap {cls:=.type "tuple",data:=.seq #[x,y]}:=Aq _ rfl;refine Aa ?_;show db _ _ (wf (.ref z) 0 (t0 h5.objs.size) >>= λ_=>wf (.ref z) 1 (.bool false)) _ _ _;refine Aa (Bg (kp _ _ z5) (show 0 < 5 by decide) λh7 z7 b7=>?_);refine Bg z7 (show 1 < 5 by decide) λh8 z8 b8=>?_;have Nm:∀b,b≠z->h8.get? b=(h5.push {cls:=.type "tuple",data:=.seq #[x,y]}).get? b:=λb n=>(b8.2 b n).trans (b7.2 b n);have nz:s.heap.objs.size≠z:=λe=>by have:=Au hz;rw[<- e]at this;exact AX _ this
 refine Ae ⟨.ref h5.objs.size,rfl,?_⟩;rw[Ħ];refine q h8 ⟨?_,?_,?_,?_,?_⟩ ?_ ?_
 ·rw[<- Ħ];exact z8
 ·rw[IsPair,Nm _ hA.TIz];exact kp _ _ ((acE _ hA.TIz hA.TIi1 hA.TITO hA.TIi2).trans UG)
 ·exact⟨x,y,by rw[IsPair,Nm _ hA.TOz];exact kp _ _ to5⟩
 ·refine j2.move λo e=>?_;rw[Nm _ hA.i1z];exact kp _ _ ((b5.2 _ hA.TOi1.symm).trans ((b4.2 _ hA.i12).trans ((b3.2 _ hA.TOi1.symm).trans e)))
 ·refine j4.move λo e=>?_;rw[Nm _ hA.i2z];exact kp _ _ ((b5.2 _ hA.TOi2.symm).trans e)
 ·rw[IsPair,Nm _ nz,<- Ħ];exact afG
 ·intro c o n1 n2 n3 n4 e;rw[Nm _ n1];exact kp _ _ ((acE _ n1 n3 n2 n4).trans e)
def uo{b2:Bool}{TI TO:ce}{Q:PySem.Fin->cr->Prop}(hh:A.handled=bm)(hA:ZipApart z TI TO i1 i2 a1 a2)
  (hz:jZ b1 b2 s.heap z TI TO i1 i2 a1 a2 .none k1 k2) (Wh:iO b1 s.heap a1 xs) (zv:iO b2 s.heap a2 ys) (hx:xs[k1]?=bm\/ys[k2]?=bm)
  (q:∀(h':lm) (e:ce),(∀c o,c≠z->c≠TO->c≠i1->c≠i2->s.heap.get? c=ap o->h'.get? c=ap o)->(∃o,h'.get? e=ap o/\o.cls=.type "StopIteration")->E (.ref e) {s with heap:=h'}) :
  db (ev prog w) A (vD.«zip.__next__» {pos:=[.ref z]}) Q E s:=by
 obtain⟨hz,UG,⟨ta,tb,ı⟩,Ě,UN⟩:=hz;show db _ _ (field (.ref z) 2 >>= λr=>_) _ _ s;refine Aa (AY hz rfl rfl ?_);refine Aa (AY hz rfl rfl ?_);refine Aa (Bt UG rfl ?_);refine Aa ?_;refine Aa (AY hz rfl rfl ?_);refine Ae ?_;refine Aa (CZ ?_);refine Aa (AY hz rfl rfl ?_);show db _ _ (wf (.ref z) 0 .ellipsis >>= λr=>_) _ _ s;refine Aa (Bg hz (show 0 < 5 by decide) λh1 z1 b1'=>?_);show db _ _ ((forIn [(Az i1,0),(Az i2,1)] _ _) >>= λr=>_) _ _ _;refine Aa ?_;rw[BS];have uK:=b1'.2;refine Aa ?_;refine Aa (EB ?_);have fin:∀{h2:lm}{e:ce}{R:bn->cr->Prop},h2.get? z=ap {cls:=.type "zip",data:=.fields #[.ellipsis,.bool false,.bool false,.ref TI,.ref TO]}->(∃o,h2.get? e=ap o/\o.cls=.type "StopIteration")->(∀c o,c≠z->c≠TO->c≠i1->c≠i2->s.heap.get? c=ap o->h2.get? c=ap o)->db (ev prog w) A (wf (.ref z) 0 .none) (λ_ s'=>E (.ref e) s') R {s with heap:=h2}:=λ{h2 e R} z2 ex k=>by
  refine Bg z2 (show 0 < 5 by decide) λh3 z3 b3=>?_;refine q h3 e (λc o n1 n2 n3 n4 ec=>?_) ?_
  ·rw[b3.2 _ n1];exact k c o n1 n2 n3 n4 ec
  ·obtain⟨o,eo,hc⟩:=ex;by_cases he:e=z
   ·subst he;rw[z2]at eo;cases eo;exact absurd (show CC "zip"=CC "StopIteration" from hc) ⋯
   ·exact⟨o,(b3.2 _ he).trans eo,hc⟩
 cases hx1:xs[k1]? with
 | none=>
  refine Aa (sC hh (Ě.move λo e=>(uK _ hA.i1z).trans e) (Wh.move λo e=>(uK _ hA.l1z).trans e) hx1 λh2 e k ex=>?_);exact fin (k _ _ hA.i1z.symm z1) ex λc o n1 n2 n3 n4 ec=>k _ _ n3 ((uK _ n1).trans ec)
 | some x=>
  have hy:ys[k2]?=bm:=by
   rcases hx with h | h
   ·rw[hx1]at h;cases h
   ·exact h
  refine Aa (kH (Ě.move λo e=>(uK _ hA.i1z).trans e) (Wh.move λo e=>(uK _ hA.l1z).trans e) hx1 λh2 j2 Ġ=>Ae ?_);have QQ:∀b,b≠z->b≠i1->h2.get? b=s.heap.get? b:=λb n1 n2=>(Ġ.2 b n2).trans (uK b n1);have ã:=(QQ _ hA.TOz hA.TOi1).trans ı;refine Aa (Bt ã rfl ?_);refine Aa (DM ã λh3 t3 b3=>?_);have Ì:∀b,b≠z->b≠i1->b≠TO->h3.get? b=s.heap.get? b:=λb n1 n2 n3=>(b3.2 b n3).trans (QQ b n1 n2);refine Aa (Cz (Ae ?_));refine Aa ?_;refine Aa (EB ?_);show db _ _ (Builtin.SmallTypes.nextOf (.ref i2) >>= λv=>pure (ap v)) _ _ _;refine Aa (sC hh (UN.move λo e=>(Ì _ hA.i2z hA.i12.symm hA.TOi2.symm).trans e) (zv.move λo e=>(Ì _ hA.l2z hA.l2i1 hA.l2TO).trans e) hy λh4 e k ex=>?_);exact fin (k _ _ hA.i2z.symm ((b3.2 _ hA.TOz.symm).trans ((Ġ.2 _ hA.i1z.symm).trans z1))) ex λc o n1 n2 n3 n4 ec=>k _ _ n4 ((Ì _ n1 n3 n2).trans ec)
def ph{b2:Bool}{TI TO:ce}{y:bn}{Q:Option bn->cr->Prop}(hA:ZipApart z TI TO i1 i2 a1 a2)
  (hz:jZ b1 b2 s.heap z TI TO i1 i2 a1 a2 .none k1 k2) (Wh:iO b1 s.heap a1 xs) (zv:iO b2 s.heap a2 ys) (hx:xs[k1]?=ap x) (hy:ys[k2]?=ap y)
  (q:∀h':lm,jZ b1 b2 h' z TI TO i1 i2 a1 a2 (t0 s.heap.objs.size) (k1+1) (k2+1)->IsPair h' s.heap.objs.size x y->(∀c o,c≠z->c≠TO->c≠i1->c≠i2->s.heap.get? c=ap o->h'.get? c=ap o)->Q (ap (.ref s.heap.objs.size)) {s with heap:=h'}) :
  db (ev prog w) A (pyNext (.ref z)) Q E s:=by
 have ty:s.TypeIs (.ref z) "zip":=⟨_,hz.zip,rfl⟩;refine Aa (De (AV ty DR (Bc DR ty F.entry_zip_next ?_ (F.args_zip_next_1 _))));exact rF hA hz Wh zv hx hy λh' a b c=>Ae (q h' a b c)
def qA{b2:Bool}{TI TO:ce}{Q:Option bn->cr->Prop}(hh:A.handled=bm)(hA:ZipApart z TI TO i1 i2 a1 a2)
  (hz:jZ b1 b2 s.heap z TI TO i1 i2 a1 a2 .none k1 k2) (Wh:iO b1 s.heap a1 xs) (zv:iO b2 s.heap a2 ys) (hx:xs[k1]?=bm\/ys[k2]?=bm)
  (q:∀h':lm,(∀c o,c≠z->c≠TO->c≠i1->c≠i2->s.heap.get? c=ap o->h'.get? c=ap o)->Q bm {s with heap:=h'}) :
  db (ev prog w) A (pyNext (.ref z)) Q E s:=by
 have ty:s.TypeIs (.ref z) "zip":=⟨_,hz.zip,rfl⟩;refine Aa (De (AV ty DR (Bc DR ty F.entry_zip_next ?_ (F.args_zip_next_1 _))));refine uo (A:=A.in1) hh hA hz Wh zv hx λh' e k ex=>?_;obtain⟨o,eo,hc⟩:=ex;refine Aa (DA (T:="StopIteration") ⟨o,eo,hc⟩ isSubtype_stop ?_);exact Ae (q h' k)
def sD(b1 b2:Bool)(a1 a2:ce)(xs ys:Array bn):Meets (vD.«zip.__new__» {pos:=[.type "zip",.ref a1,.ref a2]}) (λ_ R s=>iO b1 s.heap a1 xs/\iO b2 s.heap a2 ys/\
  ∀h':lm,jZ b1 b2 h' (s.heap.objs.size+4) (s.heap.objs.size+2) (s.heap.objs.size+3) s.heap.objs.size (s.heap.objs.size+1) a1 a2 .none 0 0->(∀b o,s.heap.get? b=ap o->h'.get? b=ap o)->R (.ok (.ret (.ref (s.heap.objs.size+4)))) {s with heap:=h'}):=
 .of_wp λprog w A R s h=>by
  obtain⟨h1,h2,q⟩:=h;refine Aa ?_;refine Aa (Cy (a:=true) rfl ?_);refine Aa (Cy sub_zip ?_);refine Ae ?_;refine Aa ?_;refine Aa ?_;rw[BS];refine Aa ?_;refine Aa (Bh (vg h1 (Ae ?_)));have k1:∀b o,s.heap.get? b=ap o->(s.heap.push {cls:=.type (M6 b1),data:=.fields #[.ref a1,.int 0 0]}).get? b=ap o:=λb o e=>Ag _ e;have g1:(s.heap.push {cls:=.type (M6 b1),data:=.fields #[.ref a1,.int 0 0]}).get? s.heap.objs.size=ap {cls:=.type (M6 b1),data:=.fields #[.ref a1,.int 0 0]}:=Aq _ rfl;have z1:(s.heap.push {cls:=.type (M6 b1),data:=.fields #[.ref a1,.int 0 0]}).objs.size=s.heap.objs.size+1:=Cs ..;generalize s.heap.push {cls:=.type (M6 b1),data:=.fields #[.ref a1,.int 0 0]}=xP at k1 g1 z1 ⊢;show db _ _ (forIn [Az a2] _ _) _ _ _;rw[BS];refine Aa ?_;refine Aa (Bh (vg (xs:=ys) (h2.move λo e=>k1 _ _ e) (Ae ?_)));show db _ _ (forIn [] _ _) _ _ _;rw[List.forIn_nil];refine Ae (Ae ?_);have k2:∀b o,xP.get? b=ap o->(xP.push {cls:=.type (M6 b2),data:=.fields #[.ref a2,.int 0 0]}).get? b=ap o:=λb o e=>Ag _ e;have g2:(xP.push {cls:=.type (M6 b2),data:=.fields #[.ref a2,.int 0 0]}).get? xP.objs.size=ap {cls:=.type (M6 b2),data:=.fields #[.ref a2,.int 0 0]}:=Aq _ rfl;have z2:(xP.push {cls:=.type (M6 b2),data:=.fields #[.ref a2,.int 0 0]}).objs.size=xP.objs.size+1:=Cs ..;show db _ _ (newTuple [.ref s.heap.objs.size,.ref xP.objs.size] >>= λr=>_) _ _ {s with heap:=xP.push {cls:=.type (M6 b2),data:=.fields #[.ref a2,.int 0 0]}};generalize xP.push {cls:=.type (M6 b2),data:=.fields #[.ref a2,.int 0 0]}=xO at k2 g2 z2 ⊢;refine Aa (C0 ?_ (by show 2<=sizeLine;decide));have k3:∀b o,xO.get? b=ap o->(xO.push {cls:=.type "tuple",data:=.seq [Az s.heap.objs.size,Az xP.objs.size].toArray}).get? b=ap o:=λb o e=>Ag _ e;have g3:(xO.push {cls:=.type "tuple",data:=.seq [Az s.heap.objs.size,Az xP.objs.size].toArray}).get? xO.objs.size=ap {cls:=.type "tuple",data:=.seq #[.ref s.heap.objs.size,.ref xP.objs.size]}:=Aq _ rfl;have z3:(xO.push {cls:=.type "tuple",data:=.seq [Az s.heap.objs.size,Az xP.objs.size].toArray}).objs.size=xO.objs.size+1:=Cs ..;show db _ _ (newTuple [.none,.none] >>= λr=>_) _ _ {s with heap:=xO.push {cls:=.type "tuple",data:=.seq [Az s.heap.objs.size,Az xP.objs.size].toArray}};generalize xO.push {cls:=.type "tuple",data:=.seq [Az s.heap.objs.size,Az xP.objs.size].toArray}=Nf at k3 g3 z3 ⊢;refine Aa (C0 ?_ (by show 2<=sizeLine;decide));have k4:∀b o,Nf.get? b=ap o->(Nf.push {cls:=.type "tuple",data:=.seq [AU,AU].toArray}).get? b=ap o:=λb o e=>Ag _ e;have g4:(Nf.push {cls:=.type "tuple",data:=.seq [AU,AU].toArray}).get? Nf.objs.size=ap {cls:=.type "tuple",data:=.seq #[.none,.none]}:=Aq _ rfl;have z4:(Nf.push {cls:=.type "tuple",data:=.seq [AU,AU].toArray}).objs.size=Nf.objs.size+1:=Cs ..;show db _ _ (newObj (.type "zip") (.fields #[.none,.bool false,.bool false,.ref xO.objs.size,.ref Nf.objs.size]) >>= λr=>_) _ _ {s with heap:=Nf.push {cls:=.type "tuple",data:=.seq [AU,AU].toArray}};generalize Nf.push {cls:=.type "tuple",data:=.seq [AU,AU].toArray}=ZV at k4 g4 z4 ⊢;refine Aa (AQ ?_ (by simp[sizeOk];decide));have k5:∀b o,ZV.get? b=ap o->(ZV.push {cls:=.type "zip",data:=.fields #[.none,.bool false,.bool false,.ref xO.objs.size,.ref Nf.objs.size]}).get? b=ap o:=λb o e=>Ag _ e;have g5:(ZV.push {cls:=.type "zip",data:=.fields #[.none,.bool false,.bool false,.ref xO.objs.size,.ref Nf.objs.size]}).get? ZV.objs.size=ap {cls:=.type "zip",data:=.fields #[.none,.bool false,.bool false,.ref xO.objs.size,.ref Nf.objs.size]}:=Aq _ rfl;have e1:=z1;have e2:xO.objs.size=s.heap.objs.size+2:=by rw[z2,e1]
  have e3:Nf.objs.size=s.heap.objs.size+3:=by rw[z3,e2]
  have e4:ZV.objs.size=s.heap.objs.size+4:=by rw[z4,e3]
  refine Ae ⟨.ref ZV.objs.size,rfl,?_⟩;rw[e2,e3]at g5 k5 ⊢;rw[e4]at g5 ⊢;rw[e3]at g4;rw[e1,e2]at g3;rw[e1]at g2;refine q _ ⟨g5,k5 _ _ (k4 _ _ g3),⟨_,_,k5 _ _ g4⟩,KH (k5 _ _ (k4 _ _ (k3 _ _ (k2 _ _ g1)))),KH (k5 _ _ (k4 _ _ (k3 _ _ g2)))⟩ λb o e=>k5 _ _ (k4 _ _ (k3 _ _ (k2 _ _ (k1 _ _ e))))
def NI{b2:Bool}(h1:iO b1 s.heap a1 xs)(h2:iO b2 s.heap a2 ys)
  (q:∀h':lm,jZ b1 b2 h' (s.heap.objs.size+4) (s.heap.objs.size+2) (s.heap.objs.size+3) s.heap.objs.size (s.heap.objs.size+1) a1 a2 .none 0 0->(∀b o,s.heap.get? b=ap o->h'.get? b=ap o)->Q (.ref (s.heap.objs.size+4)) {s with heap:=h'}) :
  db (ev prog w) A (call (.type "zip") [.ref a1,.ref a2]) Q E s:=
 callType_new F.called_zip ⋯ (F.typeCall_zip_2 _ _) (F.newCall_zip_2 _ _) (λo=>F.args_object_init_3 o _ _) F.entry_zip_new (sD b1 b2 a1 a2 xs ys) ⟨h1,h2,λh' z k=>⟨⟨_,z.zip,rfl⟩,q h' z k⟩⟩
def Ob(b:Bool)(K:Ab)(H:Hp)(a:ce)(xs:O V):Prop:=match b with
 | true=>c6 K H a xs
 | false=>dj K H a xs
def Inv.ZO{xs:O V}(I:Inv X Z σ H s)(h:Ob b X.K H a xs):∃ao:O bn,Vals xs ao/\iO b s.heap a ao.toArray/\xs.length<=sizeLine:=by
 cases b with
 | true=>obtain⟨ao,r,p,z⟩:=I.list (show c6 X.K H a xs from h);exact⟨ao,r,p.isList,z⟩
 | false=>obtain⟨ao,r,p,z⟩:=I.tuple (show dj X.K H a xs from h);exact⟨ao,r,p,z⟩
def Inv.KG{xs ys:O V}(I:Inv X Z σ H s)(h:Ob b X.K H a xs)(h':Ob b X.K H a ys):xs=ys:=by
 cases b with
 | true=>
  obtain⟨ao,k,⟨o,n,h1,h2,h3,h4⟩,_⟩:=I.list (show c6 X.K H a xs from h);obtain⟨its',k',⟨o',n',gR,rq,QP,YX⟩,_⟩:=I.list (show c6 X.K H a ys from h');rw[h1]at gR;cases gR;rw[h4]at YX;have:ao=its':=by injection YX with a b;simpa using a
  subst this;exact Vals.inj k k'
 | false=>exact I.lI h h'
def adm(b1 b2:Bool)(K:Ab)(a1 a2:ce):It where
 go:=λi H=>∃xs ys x y,Ob b1 K H a1 xs/\Ob b2 K H a2 ys/\xs[i]?=ap x/\ys[i]?=ap y
 VE:=λi H v H'=>∃p x y,v=.ref p/\H p=bm/\H'=upd H p (.tup [x,y])/\(∀xs,Ob b1 K H a1 xs->xs[i]?=ap x)/\∀ys,Ob b2 K H a2 ys->ys[i]?=ap y
 stop:=λi H=>∃xs ys,Ob b1 K H a1 xs/\Ob b2 K H a2 ys/\(xs.length<=i\/ys.length<=i)
theorem Ma{K:Ab}{b2:Bool}{kk:Nat}{TI TO:ce}(hA:ZipApart z TI TO i1 i2 a1 a2):Turn P w K (.Tuple Î kk pos) (adm b1 b2 K a1 a2) [z,TI,TO,i1,i2] z (λi h=>jZ b1 b2 h z TI TO i1 i2 a1 a2 .none i i) where
 mem:=by simp
 obj:=λi h st b hb=>by
  simp only[Ax,A2,or_false]at hb;rcases hb with rfl | rfl | rfl | rfl | rfl
  ·exact⟨_,st.zip,λv z=>by cases z⟩
  ·exact⟨_,st.ti,λv z=>by cases z⟩
  ·obtain⟨_,_,e⟩:=st.to;exact⟨_,e,λv z=>by cases z⟩
  ·exact st.it1.obj
  ·exact st.it2.obj
 keep:=λi h h' st k=>⟨k z (by simp) _ st.zip,k TI (by simp) _ st.ti,let ⟨a,b,e⟩:=st.to;⟨a,b,k TO (by simp) _ e⟩,st.it1.move λo e=>k i1 (by simp) _ e,st.it2.move λo e=>k i2 (by simp) _ e⟩
 item:=by
  intro X hP hw hK hc i Z s σ H E I hf st hg;subst hP hw hK;obtain⟨xs,ys,x,y,hx,hy,gx,gy⟩:=hg;obtain⟨ao,rx,tx,_⟩:=I.ZO hx;obtain⟨bS,ry,ty,_⟩:=I.ZO hy;obtain⟨u,gu,ru⟩:=m6 rx gx;obtain⟨v,gv,rv⟩:=m6 ry gy;refine ph hA st tx ty (by simpa using gu) (by simpa using gv) λh' zt np k=>?_;refine⟨_,rfl,?_⟩;refine Aa (wpAny_load zt.zip ?_);show db _ _ (if ((["enumerate","zip","dict_itemiterator","dict_reverseitemiterator","odict_iterator","itertools.zip_longest","itertools.pairwise"].contains "zip"&&(ap (t0 s.heap.objs.size)==ap (t0 s.heap.objs.size)))=true) then (do rule "for.unpacks-the-owned-tuple";wf (.ref z) 0 .none) else pure ()) _ _ _;rw[if_pos (by rw[beq_self_eq_true];decide)];refine Aa (CZ ?_);refine Bg zt.zip (show 0 < 5 by decide) λh2 z2 b2=>?_;have lt:∀b∈[z,TI,TO,i1,i2],b < s.heap.objs.size:=λb hb=>by
   simp only[Ax,A2,or_false]at hb;rcases hb with rfl | rfl | rfl | rfl | rfl
   ·exact Au st.zip
   ·exact Au st.ti
   ·obtain⟨_,_,e⟩:=st.to;exact Au e
   ·obtain⟨o,e,_⟩:=st.it1.obj;exact Au e
   ·obtain⟨o,e,_⟩:=st.it2.obj;exact Au e
  have nz:s.heap.objs.size≠z:=λe=>AX _ (by have:=lt z (by simp);rw[<- e]at this;exact this);have ô:∀b o,b∉[z,TI,TO,i1,i2]->s.heap.get? b=ap o->h2.get? b=ap o:=λb o hb e=>by
   have Nd:b≠z:=λq=>hb (by simp[q]);rw[b2.2 b Nd];exact k b o Nd (λq=>hb (by simp[q])) (λq=>hb (by simp[q])) (λq=>hb (by simp[q])) e
  have ð:h2.get? s.heap.objs.size=ap {cls:=.type "tuple",data:=.seq #[u,v]}:=(b2.2 _ nz).trans np;have ü:=I.br.fresh (Am s.heap.objs.size);refine⟨.ref s.heap.objs.size,upd H s.heap.objs.size (.tup [x,y]),I.rS (t':=s.toks) hf ô (Am _) ⟨by show 2<=sizeLine;decide,[u,v],.cons ru (.cons rv .nil),⟨_,ð,rfl,_,rfl⟩⟩,rfl,⟨_,x,y,rfl,ü,rfl,λxs' h'=>?_,λys' h'=>?_⟩,⟨z2,(b2.2 _ hA.TIz).trans zt.ti,let ⟨p,q,e⟩:=zt.to;⟨p,q,(b2.2 _ hA.TOz).trans e⟩,zt.it1.move λo e=>(b2.2 _ hA.i1z).trans e,zt.it2.move λo e=>(b2.2 _ hA.i2z).trans e⟩,λb hb=>?_⟩
  ·rw[I.KG h' hx];exact gx
  ·rw[I.KG h' hy];exact gy
  ·rw[aq (AB (lt b hb))];exact(hf b hb).1
 done:=by
  intro X hP hw hK hc i Z s σ H E I hf st hg;subst hP hw hK;obtain⟨xs,ys,hx,hy,hl⟩:=hg;obtain⟨ao,rx,tx,_⟩:=I.ZO hx;obtain⟨bS,ry,ty,_⟩:=I.ZO hy;have el:=rx.length;have el2:=ry.length;refine qA (I.ok.hd hc) hA st tx ty ?_ λh' k=>⟨rfl,I.wy (t':=s.toks) hf λb o hb e=>k b o (λz=>hb (by simp[z])) (λz=>hb (by simp[z])) (λz=>hb (by simp[z])) (λz=>hb (by simp[z])) e⟩;rcases hl with hl | hl
  ·exact .inl (by simp;omega)
  ·exact .inr (by simp;omega)
 self:=λA i s Q E st h=>wpAny_pyIter_zip st.zip h
def ab3(K:Ab)(t1 t2:TE):TI:=λσ H R=>t1 σ H λx H1=>t2 σ H1 λy H2=>∃b1 b2 a b,x=.ref a/\y=.ref b/\(∃xs,Ob b1 K H2 a xs)/\(∃ys,Ob b2 K H2 b ys)/\R (adm b1 b2 K a b) H2
def Tf(K:Ab)(hK:X.K=K){e1 e2:kw}{t2:TE}{kk:Nat}(hg:Gl X "zip")(hm:X.mg "zip"=bm)(h1:PE X e1 t1)(h2:PE X e2 t2)
  (HM:ga [e1,e2] X.env=(false,lf e1 X.env)::ga [e2] X.env:=by rfl) (rm:gZ X e2 []:=by rfl) (c9:(ut p2 (ga [e2] X.env)).any (·.1)=false:=by rfl) :
  PI X (.Tuple Î kk tp) (.Call (.Name "zip" p1) [e1,e2] [] p2) (ab3 K t1 t2):=by
 subst hK;intro Z s σ H R I h;refine BE (iD I hg hm boot_zip ?_ ⋯ ⋯);refine Bi ?_ HM c9;rw[HM,rm];refine Cj (bV (h1 Z s σ H _ I h) λu1 s1 ⟨x,H1,I1,r1,q1⟩=>?_);refine Cj (bV (h2 Z s1 σ H1 _ I1 q1) λu2 s2 ⟨y,H2,I2,r2,b1,b2,a,b,ex,ey,⟨xs,hx⟩,⟨ys,hy⟩,q⟩=>CP ?_);subst ex;subst ey;cases r1;cases r2;obtain⟨ao,rx,tx,_⟩:=I2.ZO hx;obtain⟨bS,ry,ty,_⟩:=I2.ZO hy;have l1:=tx.lt;have l2:=ty.lt;refine NI tx ty λh' zt k=>?_;refine wpAny_pyIter_zip zt.zip ?_;have dd:∀i j:Nat,i≠j->s2.heap.objs.size+i≠s2.heap.objs.size+j:=λi j n e=>n (Nat.add_left_cancel e);have na:∀i:Nat,a≠s2.heap.objs.size+i:=λi=>AB (AJ l1 (BF _ _));have nb:∀i:Nat,b≠s2.heap.objs.size+i:=λi=>AB (AJ l2 (BF _ _));have hA:ZipApart (s2.heap.objs.size+4) (s2.heap.objs.size+2) (s2.heap.objs.size+3) s2.heap.objs.size (s2.heap.objs.size+1) a b:=
  ⟨dd 2 4 ⋯,dd 3 4 ⋯,dd 0 4 ⋯,dd 1 4 ⋯,dd 2 3 ⋯,dd 2 0 ⋯,dd 2 1 ⋯,dd 3 0 ⋯,dd 3 1 ⋯,dd 0 1 ⋯,na 4,na 3,na 0,na 1,nb 4,nb 3,nb 0,nb 1⟩
 refine⟨_,_,_,_,H2,rfl,I2.kept (t':=s2.toks) k,Ma hA,zt,λc hc=>?_,q⟩;have Ù:s2.heap.objs.size<=c:=by
  simp only[Ax,A2,or_false]at hc;rcases hc with rfl | rfl | rfl | rfl | rfl
  ·exact BF _ _
  ·exact BF _ _
  ·exact BF _ _
  ·exact Am _
  ·exact BF _ _
 exact I2.yh Ù (I2.br.fresh Ù)
def aa7(K:Ab):V->Option Int->Option Int->Hp->VK->Prop:=λx lo hi H Q=>∃a xs,x=.ref a/\dj K H a xs/\
 ((HT.dC xs.length 0 lo=0/\HT.dC xs.length xs.length hi=xs.length)->Q x H)/\(¬(HT.dC xs.length 0 lo=0/\HT.dC xs.length xs.length hi=xs.length)->kI H (.tup (yU xs lo hi)) Q)
def SU(K:Ab)(hK:X.K=K):SlR X (aa7 K):=by
 subst hK;intro Z s σ H x v vl vu lo hi sl Q I rx hs pl pu h;obtain⟨a,xs,rfl,hT,qw,qn⟩:=h;by_cases c:HT.dC xs.length 0 lo=0/\HT.dC xs.length xs.length hi=xs.length
 ·have q:=qw c;cases rx;obtain⟨ao,r,ht,hz⟩:=I.tuple hT;have Á:ao.toArray.size=xs.length:=by rw[Ah];exact r.length.symm
  refine⟨"tuple",_,AN.lookup,ht.typeIs,?_⟩;obtain⟨os,N8,Z0,UP⟩:=id hs;have ā:s.TypeIs (.ref sl) "slice":=⟨os,N8,Z0⟩;unfold Ch
  try with_reducible refine Bh ?_
  first | refine Aa (Ae ?_) | skip
  refine Aa (Ew ht.typeIs ⋯ ?_);refine Aa (AV (name:=BJ "__getitem__") ht.typeIs AN
   (Bc AN ht.typeIs entry_tuple_getitem ?_ (args_tuple_getitem _ _)))
  show db _ _ (Builtin.Tuple.tupleItemsOf (.ref a) >>= _) _ _ s;refine Aa (tupleItemsOf_ ht ?_);refine Aa (CD ā ?_);refine Aa (HT.iV hs pl pu ?_);show db _ _ (if (((HT.dC ao.toArray.size 0 lo:Nat):Int)==0&&(1:Int)==1&&(HT.dC ao.toArray.size ao.toArray.size hi-HT.dC ao.toArray.size 0 lo)==ao.toArray.size)=true then _ else _) _ _ s;rw[if_pos (by rw[Á,c.1,c.2];simp)];refine Aa ?_
  first
   | refine Aa (CD ht.typeIs (Ae ?_))
   | refine CD ht.typeIs (Ae ?_)
  first
   | rw[if_pos ⋯]
   | rw[if_pos rfl]
  refine Aa (CZ (Ae ⟨_,rfl,?_⟩));exact Ae ⟨.ref a,H,I,rfl,q⟩
 ·exact Xd Z s σ H _ v vl vu lo hi sl Q I rx hs pl pu ⟨a,xs,rfl,hT,c,λp hp=>(qn c).at p hp⟩
def abj(K:Ab):R2:=λx y H Q=>∃a b xs ys,x=.ref a/\y=.ref b/\dj K H a xs/\dj K H b ys/\xs.length+ys.length<=sizeLine/\
 (xs=[]->Q (.ref b) H)/\(xs≠[]->ys=[]->Q (.ref a) H)/\(xs≠[]->ys≠[]->kI H (.tup (xs++ys)) Q)
def TJ(K:Ab)(hK:X.K=K):iR X (sn .Add) (abj K):=by
 subst hK;intro Z s σ H x y v u Q I rx ry h;obtain⟨a,b,xs,ys,rfl,rfl,ha,hb,hz,q0,q1,q2⟩:=h;by_cases c:xs=[]
 ·cases rx;cases ry;obtain⟨ao,r1,p1,_⟩:=I.tuple ha;obtain⟨bS,r2,p2,_⟩:=I.tuple hb;obtain⟨⟨cls,dd,data,sl⟩,ho,hc,n,hd⟩:=id p1;obtain⟨⟨Zt,Vb,data2,R9⟩,Ng,QK,n2,Ô⟩:=id p2;simp only at hc hd QK Ô;subst hc hd QK Ô;exact concat_meets ⟨_,ho,rfl⟩ ⟨_,Ng,rfl⟩ noFill_tuple_add seq_tuple_add Dk Dj (C9 _ _)
   (tuple_addW0 a b ao.toArray bS.toArray n n2 dd Vb sl R9 (by rw[r1.jv.mpr c];rfl)) ⟨ho,Ng,.ref b,H,I,rfl,q0 c⟩
 ·exact K9 Z s σ H _ _ v u Q I rx ry ⟨a,b,xs,ys,rfl,rfl,ha,hb,c,hz,q1 c,λn p hp=>(q2 c n).at p hp⟩
end L2
variable{b:BX}
namespace FL
section
variable{K:Ab}
section
variable{a c:kw}{w:W PV}
def addW:PV->PV->W PV
 | .int i,.int j=>.ret (.int (i+j))
 | .str a,.str b=>.eQ (a.length+b.length<=sizeLine) (.ret (.str (a++b)))
 | .tup a,.tup b=>.eQ (a.length+b.length<=sizeLine) (.ret (.tup (a++b)))
 | _,_=>.fail
def bH(hK:X.K=K)(ha:EF X K fs a wa)(hb:EF X K fs b wb):EF X K fs (.BinOp a .Add b pos) (.bind wa λx=>.bind wb λy=>addW x y):=
 ⟨PE.imp (K3 ((TL K hK).or (TJ K hK)) ha.p hb.p) λσ H Q ⟨sr,q⟩=>⟨sr,wa.mono (λx q1 u1 H1 g1 s1 v1=>⟨s1,wb.mono (λy q2 u2 H2 g2 s2 v2=>by
  have Su:=g2.vr s1 v1;cases Su with
  | int i=>
   cases v2 with
   | int j=>exact .inl ⟨_,rfl,q2 _ H2 (g1.trans g2) s2 (.int _)⟩
   | _=>exact q2.elim
  | str i=>
   cases v2 with
   | str j=>exact .inl ⟨_,rfl,q2.1,q2.2 _ H2 (g1.trans g2) s2 (.str _)⟩
   | _=>exact q2.elim
  | @tup p vs l e r=>
   cases v2 with
   | @tup p' N3 l' e' r'=>
    refine .inr ⟨p,p',vs,N3,rfl,rfl,dj.of e,dj.of e',by rw[r.length,r'.length];exact q2.1,λz=>?_,λ_ z=>?_,λ_ _ q H3 s3 h3 n3=>?_⟩
    ·have z':=(PL.ay.jv r).mp z;subst z';exact q2.2 _ H2 (g1.trans g2) s2 (.tup e' r')
    ·have z':=(PL.ay.jv r').mp z;subst z';have q2:=q2.2;rw[CJ]at q2;exact q2 _ H2 (g1.trans g2) s2 (.tup e r)
    ·exact q2.2 _ H3 ((g1.trans g2).trans (cO.same s3)) (s2.same s3) (.tup h3 (ay.tk s3.d6 (r.append r')))
   | _=>exact q2.elim
  | _=>exact q2.elim) q1⟩) q⟩⟩
theorem mZ:∀(l m:O PV),(eR l m).length=min l.length m.length
 | [],m=>by rw[eR];simp;intros;simp_all
 | x::l,[]=>by rw[eR];simp;intros;simp_all
 | x::l,y::m=>by rw[eR,Ar,mZ l m];simp only[Ar];omega
def zA(l m:O PV):W (O PV):=.eQ (l.length<=sizeLine) (.ret (eR l m))
def VI(h:ZH K H u l):∃(b:Bool) (a:ce) (vs:O V),u=.ref a/\ay K [] H vs l/\∀H',bh K H H'->Ob b K H' a vs:=by
 obtain⟨a,vs,e,h | h,r⟩:=h
 ·exact⟨true,a,vs,e,r,λH' t=>(t.f _ _ h).sq⟩
 ·exact⟨false,a,vs,e,r,λH' t=>dj.of (t.t _ _ h)⟩
theorem Jg(hK:X.K=K){kk:Nat}(hg:Gl X "zip")(hm:X.mg "zip"=bm)(ha:IF X K fs a wl)(hb:IF X K fs b wm)
  (HM:ga [a,b] X.env=(false,lf a X.env)::ga [b] X.env:=by rfl) (rm:gZ X b []:=by rfl) (c9:(ut p2 (ga [b] X.env)).any (·.1)=false:=by rfl) :
  qQ X K fs (.Tuple Î kk tp) (.Call (.Name "zip" p1) [a,b] [] p2) (.bind wl λl=>.bind wm λm=>zA l m):=
 ⟨PI.imp (Tf K hK hg hm ha.p hb.p HM rm c9) λσ H R ⟨sr,q⟩=>⟨sr,wl.mono (λl q1 u1 H1 g1 s1 v1=>⟨s1,wm.mono (λm q2 u2 H2 g2 s2 v2=>by
  obtain⟨b1,a1,vs,rfl,r1,x1⟩:=VI (v1.tk (g2.d7 s1));obtain⟨b2,a2,ws,rfl,r2,x2⟩:=VI v2;have tr:bh K H2 H2:=bh.refl H2;refine⟨b1,b2,a1,a2,rfl,rfl,⟨vs,x1 H2 tr⟩,⟨ws,x2 H2 tr⟩,q2.2 _ H2 (g1.trans g2) s2 ⟨by rw[mZ];have:=q2.1;omega,λH' t=>⟨λi pp hp=>?_,vs,ws,x1 H' t,x2 H' t,?_⟩⟩⟩
  ·obtain⟨x,y,hx,hy,rfl⟩:=rG hp;obtain⟨v,h3,h4⟩:=(ay.tk t r1).get hx;obtain⟨v',QP,YX⟩:=(ay.tk t r2).get hy;refine⟨⟨vs,ws,v,v',x1 H' t,x2 H' t,h3,QP⟩,λz H3 yl=>?_⟩;obtain⟨p,x',y',rfl,hn,rfl,e1,e2⟩:=yl;have e1:=e1 vs (x1 H' t);have e2:=e2 ws (x2 H' t);rw[h3]at e1;rw[QP]at e2;cases e1;cases e2;have sm:=gF hn (.tup [v,v']);exact⟨sm,.tup aM (.cons (VR.tk sm.d6 h4) (.cons (VR.tk sm.d6 YX) .nil))⟩
  ·rw[mZ,r1.length,r2.length];omega) q1⟩) q⟩⟩
variable{el eh:Option kw}{lo:W (Option Int)}
def Ii(x:PV)(i j:Option Int):W PV:=match x with
 | .tup l=>.ret (.tup (ly l i j))
 | _=>.fail
def NF{i j:Option Int}(h:HT.dC l.length 0 i=0/\HT.dC l.length l.length j=l.length):ly l i j=l:=by
 unfold ly;rw[h.1,h.2];simp
def G7(hK:X.K=K)(he:EF X K fs e w)(hl:OF X K fs el lo)(hh:OF X K fs eh hi):EF X K fs (.Subscript e (.Slice el eh bm p2) pos) (.bind w λx=>.bind lo λi=>.bind hi λj=>Ii x i j):=⟨PE.imp (Pu (SU K hK) he.p hl.p hh.p) λσ H Q ⟨sr,q⟩=>⟨sr,w.mono (λx q1 u1 H1 g1 s1 v1=>⟨s1,lo.mono (λi q2 H2 g2 s2=>⟨s2,hi.mono (λj q3 H3 g3 s3=>by
 have Su:=g3.vr s2 (g2.vr s1 v1);have gg:=(g1.trans g2).trans g3;cases Su with
 | @tup p vs l e r=>
  have Á:=r.length;refine⟨p,vs,rfl,dj.of e,λc=>?_,λc q H4 s4 h4 n4=>?_⟩
  ·rw[Á]at c;have q3:(bd (PV.tup (ly l i j))).run _:=q3;rw[NF c]at q3;exact q3 _ H3 gg s3 (.tup e r)
  ·exact q3 _ H4 (gg.trans (cO.same s4)) (s3.same s4) (.tup h4 (ay.tk s4.d6 (r.cut i j)))
 | _=>exact q3.elim) q2⟩) q1⟩) q⟩⟩
end
end
end FL
variable{vs:O A6}
namespace L2
def ajk:O Int->Int
 | []=>0
 | x::l=>l.foldl max x
def pD:O Int->Int
 | []=>0
 | x::l=>l.foldl min x
theorem ym(l:O Int)(x:Int):l.foldl min x<=x/\(∀y∈l,l.foldl min x<=y)/\(l.foldl min x=x\/l.foldl min x∈l):=by
 induction l generalizing x with
 | nil=>exact⟨CB _,by simp,.inl rfl⟩
 | cons y l ih=>
  obtain⟨h1,h2,h3⟩:=ih (min x y);refine⟨by rw[Df];omega,λz hz=>?_,?_⟩
  ·rw[Df];rcases Ax.mp hz with rfl | hz
   ·omega
   ·exact h2 z hz
  ·rw[Df];rcases h3 with h3 | h3
   ·rw[h3];by_cases c:y<=x
    ·right;rw[Int.min_eq_right c];exact .head _
    ·left;omega
   ·exact .inr (.tail _ h3)
def xc{l:O Int}{x:Int}(h:x∈l):pD l<=x:=by
 cases l with
 | nil=>cases h
 | cons y l=>
  rcases Ax.mp h with rfl | h
  ·exact(ym l _).1
  ·exact(ym l y).2.1 x h
def nP{l:O Int}(h:l≠[]):pD l∈l:=by
 cases l with
 | nil=>exact absurd rfl h
 | cons y l=>
  rcases (ym l y).2.2 with e | e
  ·show l.foldl min y∈_;rw[e];exact .head _
  ·exact .tail _ e
def Pa(K:Ab)(C:O Int->Prop)(g:O Int->Int):O V->Hp->VK->Prop:=λxs H Q=>∃(p:ce) (ns:O Int),xs=[.ref p]/\c6 K H p (ns.map V.int)/\C ns/\Q (.int (g ns)) H
section
theorem Ll{xs:Array (Int×Tok)}(HN:ns=xs.toList.map (·.1))(UM:ns≠[]):numAt xs (argBest (λi j=>decide (numAt xs i < numAt xs j)) (xs.size-1))=pD ns:=by
 have hsz:0 < xs.size:=by
  have h3:0 < ns.length:=Cr.mpr UM;rw[HN,Af,BP]at h3;exact h3
 obtain⟨h1,h2⟩:=argBest_lt (numAt xs) (xs.size-1);apply Fe
 ·have hm:=nP UM;rw[HN]at hm;obtain⟨j,hj,ej⟩:=mem_getD hm;rw[Af,BP]at hj;rw[<- HN]at ej;rw[<- ej,HN,<- numAt_eq];exact h2 j ∅
 ·refine xc ?_;rw[HN,numAt_eq];exact getD_mem (by rw[Af,BP];omega)
def MK{l:ce}(hh:A.handled=bm)(hl:s.heap.IsList l vs.toArray)(hi:tt vs ns)(UM:ns≠[])
  (h:∀(h':lm) (t:Tok) tk,(∀b o,s.heap.get? b=ap o->h'.get? b=ap o)->Q (.int (pD ns) t) {s with heap:=h',toks:=tk}):db (ev prog w) A (call (.builtin "min") [.ref l]) Q E s:=by
 obtain⟨xs,e⟩:=hi.allInts.items;have HN:ns=xs.toList.map (·.1):=by rw[<- hi.numsOf,<- nums_intItems,<- e]
 have hsz:0 < xs.size:=by
  have h3:0 < ns.length:=Cr.mpr UM;rw[HN,Af,BP]at h3;exact h3
 rw[e]at hl;refine min_intList hh hl hsz λv h' tk hv hk=>?_;obtain⟨t,rfl⟩:=intItems_at hv;rw[Ll HN UM];exact h h' t tk hk
def Mg{l:ce}(hh:A.handled=bm)(hl:s.heap.IsList l vs.toArray)(hi:tt vs ns)
  (h:∀(h':lm) (t:Tok) tk,(∀b o,s.heap.get? b=ap o->h'.get? b=ap o)->Q (.int ns.sum t) {s with heap:=h',toks:=tk}):db (ev prog w) A (call (.builtin "sum") [.ref l]) Q E s:=by
 obtain⟨xs,e⟩:=hi.allInts.items;have HN:ns=xs.toList.map (·.1):=by rw[<- hi.numsOf,<- nums_intItems,<- e]
 rw[e]at hl;refine sum_intListG hh hl λh' tk t' hk=>?_;have:=h h' t' tk hk;rw[preSum_eq,Dp (by simp),<- HN];exact this
end
def vU{b:String}{C:O Int->Prop}{g:O Int->Int}(K:Ab)(hK:X.K=K)(hc:X.calm=true)
  (Ü:∀{s:cr}{l:ce}{vs:O bn}{ns:O Int}{Q:bn->cr->Prop},X.A.handled=bm->s.heap.IsList l vs.toArray->tt vs ns->C ns->(∀(h':lm) (t:Tok) tk,(∀b o,s.heap.get? b=ap o->h'.get? b=ap o)->Q (.int (g ns) t) {s with heap:=h',toks:=tk})->db (ev X.prog X.w) X.A (call (.builtin b) [.ref l]) Q X.xe s):bL X (.builtin b) (Pa K C g):=by
 subst hK;intro Z s σ H xs us Q I r h;obtain⟨p,ns,rfl,hq,hC,q⟩:=h;obtain⟨u,rfl,rx⟩:=vals1 r;cases rx;obtain⟨ao,r',pl,hz⟩:=I.list hq;exact Ü (I.ok.hd hc) pl.isList (intsAre_of r') hC λh' t tk hk=>⟨.int _,H,I.kept (t':=tk) hk,⟨t,rfl⟩,q⟩
end L2
variable{x:PL.PV}
namespace FL
section
variable{K:Ab}
section
open Classical in
noncomputable def Nr(K:Ab)(H:Hp)(x:PV)(w:bn):Bool:=decide (∃p v,RelV v w/\VR K [] H v p/\km p x=true)
open Classical in
def Rj(hK:X.K=K)(I:Inv X Z σ H s){x p:PV}{v:V}{w:bn}(r:RelV v w)(h:VR K [] H v p):Nr K H x w=km p x:=by
 subst hK;cases e:km p x with
 | true=>exact decide_eq_true ⟨p,v,r,h,e⟩
 | false=>
  refine decide_eq_false ?_;rintro⟨p',v',r',h',e'⟩;have:=O3 r r';subst this;rw[VR.QZ I h h',e']at e;cases e
theorem yx(hK:X.K=K)(I:Inv X Z σ H s):∀{vs:O V}{ao:O bn}{l:O PV},Vals vs ao->ay K [] H vs l->ao.map (Nr K H x)=l.map λy=>km y x
 | _,_,_,.nil,.nil=>rfl
 | _,_,_,.cons r t,.cons q z=>by rw[Ap,Ap,Rj hK I r q,yx hK I t z]
def UE(x:PV)(l:O PV):Prop:=PV.fq x=true/\d5 l=true/\cK l<=150
theorem tK(hK:X.K=K)(I:Inv X Z σ H s){v:V}{w:bn}(hx:VR K [] H v x)(rx:RelV v w)(dx:PV.fq x=true)(hu:A.units+150+1 < pc) :
  ∀{vs:O V}{ao:O bn}{l:O PV},Vals vs ao->ay K [] H vs l->d5 l=true->cK l<=150->∀u∈ao,CY A s u w (Nr K H x u)
 | _,_,_,.nil,.nil,_,_,u,hu=>by cases hu
 | _,_,_,.cons r t,.cons q z,d,dd,u,hm=>by
  rw[d5,Aw]at d;rw[cK]at dd;rcases Ax.mp hm with rfl | hm
  ·rw[Rj hK I r q];exact(Ve hK I 150 _ x A _ v _ w ∅ d.1 dx q hx r rx hu).eq
  ·exact tK hK I hx rx dx hu t z d.2 ∅ u hm
end
def sZ(x:PV)(l:O PV):Bool:=l.any λy=>km y x
def Xz(K:Ab)(neg:Bool):R2:=λx y H Q=>∃p vs l xp,y=.ref p/\(c6 K H p vs\/dj K H p vs)/\ay K [] H vs l/\VR K [] H x xp/\UE xp l/\Q (.bl (if neg then !sZ xp l else sZ xp l)) H
section
theorem any_map'(f:α->Bool):∀l:List α,l.any f=(l.map f).any id
 | []=>rfl
 | x::l=>by rw[BA,Ap,BA,any_map' f l];rfl
theorem PJ(K:Ab)(hK:X.K=K)(hu:X.A.units+200 < pc):iR X (o0 .In) (Xz K false):=by
 intro Z s σ H x y v u Q I rx ry h;obtain⟨p,vs,l,xp,rfl,hq,hl,hx,ok,q⟩:=h;cases ry;have ø:X.A.in1.units+150+1 < pc:=by show X.A.units+1+150+1 < _;omega
 have fin:∀{ao:O bn},Vals vs ao->ao.toArray.any (Nr K H xp)=sZ xp l:=λ{ao} r=>by
  rw[show ao.toArray.any (Nr K H xp)=ao.any (Nr K H xp) by simp,any_map',yx hK I r hl,<- any_map'];rfl
 rcases hq with hq | hq
 ·obtain⟨ao,r,pl,hz⟩:=I.list (show c6 X.K H p vs by rw[hK];exact hq);refine SeqAt.in_listAt (Nr K H xp) pl.isList (λw hw=>tK hK I hx rx ok.1 ø r hl ok.2.1 ok.2.2 w (by simpa using hw)) ⟨.bl _,H,I,rfl,?_⟩;rw[fin r];exact q
 ·obtain⟨ao,r,pl,hz⟩:=I.tuple (show dj X.K H p vs by rw[hK];exact hq);refine SeqAt.in_tupleAt (Nr K H xp) pl (λw hw=>tK hK I hx rx ok.1 ø r hl ok.2.1 ok.2.2 w (by simpa using hw)) ⟨.bl _,H,I,rfl,?_⟩;rw[fin r];exact q
theorem TB(K:Ab)(hK:X.K=K)(hu:X.A.units+200 < pc):iR X (o0 .NotIn) (Xz K true):=by
 intro Z s σ H x y v u Q I rx ry h;obtain⟨p,vs,l,xp,rfl,hq,hl,hx,ok,q⟩:=h;cases ry;have ø:X.A.in1.units+150+1 < pc:=by show X.A.units+1+150+1 < _;omega
 have fin:∀{ao:O bn},Vals vs ao->ao.toArray.any (Nr K H xp)=sZ xp l:=λ{ao} r=>by
  rw[show ao.toArray.any (Nr K H xp)=ao.any (Nr K H xp) by simp,any_map',yx hK I r hl,<- any_map'];rfl
 rcases hq with hq | hq
 ·obtain⟨ao,r,pl,hz⟩:=I.list (show c6 X.K H p vs by rw[hK];exact hq);refine SeqAt.notIn_listAt (Nr K H xp) pl.isList (λw hw=>tK hK I hx rx ok.1 ø r hl ok.2.1 ok.2.2 w (by simpa using hw)) ⟨.bl _,H,I,rfl,?_⟩;rw[fin r];exact q
 ·obtain⟨ao,r,pl,hz⟩:=I.tuple (show dj X.K H p vs by rw[hK];exact hq);refine SeqAt.notIn_tupleAt (Nr K H xp) pl (λw hw=>tK hK I hx rx ok.1 ø r hl ok.2.1 ok.2.2 w (by simpa using hw)) ⟨.bl _,H,I,rfl,?_⟩;rw[fin r];exact q
end
end
end FL
namespace L2
theorem Fl(xs:O bn):∀k≤xs.length,((AL k).filterMap λ(m:Nat)=>xs.toArray[(((xs.length:Int)-1)+(m:Int)*(-1)).toNat]?)=(xs.drop (xs.length-k)).reverse
 | 0,_=>by simp
 | k+1,h=>by
  have ih:=Fl xs k ∅;rw[List.range_succ,List.filterMap_append,ih];have e:(((xs.length:Int)-1)+(k:Int)*(-1)).toNat=xs.length-(k+1):=by omega
  have h1:xs.length-(k+1) < xs.length:=by omega
  simp only[A9,List.filterMap_nil,e];have e2:xs.toArray[xs.length-(k+1)]?=ap xs[xs.length-(k+1)]:=by simp[h1]
  rw[e2];have e3:xs.drop (xs.length-(k+1))=xs[xs.length-(k+1)]::xs.drop (xs.length-k):=by
   rw[Bm h1];congr 2;omega
  rw[e3,CT]
section
variable{st:kw}{tl th ts:TO}{lo hi:Option kw}
def aaE(K:Ab)(te:TE)(tl th ts:TO):TE:=λσ H Q=>te σ H λx H1=>tl σ H1 λl H2=>th σ H2 λu H3=>ts σ H3 λs H4=>∃a xs,x=.ref a/\dj K H4 a xs/\l=bm/\u=bm/\s=ap (-1)/\kI H4 (.tup xs.reverse) Q
theorem Tp(K:Ab)(hK:X.K=K)(he:PE X e te)(hl:PO X lo tl)(hu:PO X hi th)(hs:PO X (ap st) ts):PE X (.Subscript e (.Slice lo hi (ap st) p2) pos) (aaE K te tl th ts):=by
 subst hK;intro Z s σ H Q I h;refine Subscript_ (bV (he Z s σ H _ I h) λv s1 ⟨x,H1,I1,r1,q1⟩=>?_);refine wpAny_Slice (bV (hl Z s1 σ H1 _ I1 q1) λvl s2 ⟨l,H2,I2,pl,q2⟩=>bV (hu Z s2 σ H2 _ I2 q2) λvu s3 ⟨u,H3,I3,pu,q3⟩=>bV (hs Z s3 σ H3 _ I3 q3) λvs s4 ⟨c,H4,I4,ps,a,xs,ea,hx,el,eu,ec,q⟩=>?_);subst ea;subst el;subst eu;subst ec;cases r1;cases pl;cases pu;cases ps with
 | int i t=>
 have I5:Inv X Z σ H4 {s4 with heap:=s4.heap.push {cls:=.type "slice",data:=.fields #[.none,.none,.int (-1) t]}}:=I4.kept (t':=s4.toks) λb ob q=>Ag _ q;obtain⟨ao,r,ht,hz⟩:=I5.tuple hx;have Á:=r.length;refine tail_any (ops:=[.ref a,.ref s4.heap.objs.size]) ht.typeIs AN.lookup ?_ (by with_unfolding_all rfl);have hs:Fo {s4 with heap:=s4.heap.push {cls:=.type "slice",data:=.fields #[.none,.none,.int (-1) t]}}.heap s4.heap.objs.size .none .none (.int (-1) t):=Fo.new ..;generalize {s4 with heap:=s4.heap.push {cls:=.type "slice",data:=.fields #[.none,.none,.int (-1) t]}}=s5 at I5 ht hs;obtain⟨os,N8,Z0,UP⟩:=id hs;have ā:s5.TypeIs (.ref s4.heap.objs.size) "slice":=⟨os,N8,Z0⟩;unfold Ch
 try with_reducible refine Bh ?_
 first | refine Aa (Ae ?_) | skip
 refine Aa (Ew ht.typeIs ⋯ ?_);refine Aa (AV (name:=BJ "__getitem__") ht.typeIs AN
  (Bc AN ht.typeIs entry_tuple_getitem ?_ (args_tuple_getitem _ _)))
 show db _ _ (Builtin.Tuple.tupleItemsOf (.ref a) >>= _) _ _ s5;refine Aa (tupleItemsOf_ ht ?_);refine Aa (CD ā ?_);rw[if_pos ⋯];have app:∀{Q:Int×Int×Nat->cr->Prop}{E:bn->cr->Prop}{A:u8} (n:Nat),Q ((n:Int)-1,-1,n) s5->db (ev X.prog X.w) A (Builtin.Slice.sliceApplied (.ref s4.heap.objs.size) (pure (n:Int))) Q E s5:=λ{Q E A} n hq=>by
  unfold Builtin.Slice.sliceApplied Builtin.Slice.sliceFields;refine Aa (Aa (AY N8 UP (x:=.none) rfl (Aa (AY N8 UP (x:=.none) rfl (Aa (AY N8 UP (x:=.int (-1) t) rfl (Ae ?_)))))));refine Aa (HT.gE (.int (-1) t) ?_);show db _ _ (if (((-1:Int))==0)=true then _ else _) _ _ s5;rw[if_neg ⋯];refine Aa (HT.gE .none (Aa (HT.gE .none (Aa (Ae ?_)))));show db _ _ (match Builtin.Slice.sliceAdjust bm bm (-1) (n:Int) with | (lo,hi)=>pure (lo,(-1:Int),Builtin.Slice.slicePlaces lo hi (-1))) _ _ s5;have e1:Builtin.Slice.sliceAdjust bm bm (-1) (n:Int)=((n:Int)-1,-1):=by unfold Builtin.Slice.sliceAdjust;simp
  rw[e1];have e2:Builtin.Slice.slicePlaces ((n:Int)-1) (-1) (-1)=n:=by
   unfold Builtin.Slice.slicePlaces;rw[if_neg ⋯];by_cases h0:(n:Int)-1 > -1
   ·rw[if_pos h0];show(((n:Int)-1 - -1-1) / 1+1).toNat=n;rw[Int.ediv_one];omega
   ·rw[if_neg h0];show(0:Int).toNat=n;omega
  show db _ _ (pure ((n:Int)-1,(-1:Int),Builtin.Slice.slicePlaces ((n:Int)-1) (-1) (-1))) _ _ s5;rw[e2];exact Ae hq
 refine Aa (app ao.toArray.size ?_);show db _ _ (if (((ao.toArray.size:Int)-1)==0&&(-1:Int)==1&&ao.toArray.size==ao.toArray.size)=true then _ else _) _ _ s5;rw[if_neg (by simp)];have hp:=Fl ao ao.length (Am _);rw[CF,List.drop_zero]at hp;have ķ:((AL ao.toArray.size).filterMap λ(m:Nat)=>ao.toArray[(((ao.toArray.size:Int)-1)+(m:Int)*(-1)).toNat]?).toArray=ao.reverse.toArray:=by
  rw[Ah,hp]
 rw[ķ];have hsz:sizeOk (.seq ao.reverse.toArray):=by
  show ao.reverse.toArray.size<=sizeLine;rw[Ah,Cb];omega
 have fin:EP X Z σ Q (.ref s5.heap.objs.size) {s5 with heap:=s5.heap.push {cls:=.type "tuple",data:=.seq ao.reverse.toArray}}:=
  ⟨.ref s5.heap.objs.size,_,I5.laid (t':=s5.toks) (o:=.tup xs.reverse) (λb ob q=>Ag _ q) (Am _) ⟨by rw[Cb];exact hz,_,r.sd,FD _ _⟩,rfl,q.at _ (I5.br.fresh (Am _))⟩
 first
  | exact Aa (m:=Builtin.Tuple.tupleExact _) (AQ (Ae ⟨_,rfl,Ae fin⟩) hsz)
  | exact Aa (m:=Builtin.Tuple.tupleExact _) (AQ (Aa (Ae (Ae ⟨_,rfl,Ae fin⟩))) hsz)
  | exact Aa (Aa (m:=Builtin.Tuple.tupleExact _) (AQ (Ae (Ae ⟨_,rfl,Ae fin⟩)) hsz))
  | exact Aa (Aa (m:=Builtin.Tuple.tupleExact _) (AQ (Ae ⟨_,rfl,Ae fin⟩) hsz))
end
end L2
variable{Q:PL.PV->Prop}
namespace FL
section
variable{K:Ab}
section
variable{a c:kw}{w:W PV}
def qJ(neg:Bool)(x:PV)(l:O PV):W Bool:=.eQ (UE x l) (.ret (if neg then !sZ x l else sZ x l))
def Q4:∀σ H Q,fT K fs (.bind wa λx=>.bind wl λl=>qJ neg x l) σ H Q->W2 (Xz K neg) (fE K fs wa) (fQ K fs wl) σ H λx H'=>∃k,x=.bl k/\Q k H':=λσ H Q ⟨sr,q⟩=>
 ⟨sr,wa.mono (λx q1 u1 H1 g1 s1 v1=>⟨s1,wl.mono (λl q2 u2 H2 g2 s2 v2=>by
  obtain⟨ad,vs,rfl,h,rs⟩:=v2.sq s2;exact⟨ad,vs,l,x,rfl,h,rs,g2.vr s1 v1,q2.1,_,rfl,q2.2 H2 (g1.trans g2) s2⟩) q1⟩) q⟩
def aaB(hK:X.K=K)(hu:X.A.units+200 < pc)(ha:EF X K fs a wa)(hb:QF X K fs b wl)(hk:r9 .In b=false:=by rfl):TF X K fs (.Compare a [.In] [b] pos) (.bind wa λx=>.bind wl λl=>qJ false x l):=⟨PT.imp (nB (PJ K hK hu) ha.p hb.p hk) (Q4 (neg:=false))⟩
def wF(hK:X.K=K)(hu:X.A.units+200 < pc)(ha:EF X K fs a wa)(hb:QF X K fs b wl)(hk:r9 .NotIn b=false:=by rfl):TF X K fs (.Compare a [.NotIn] [b] pos) (.bind wa λx=>.bind wl λl=>qJ true x l):=⟨PT.imp (nB (TB K hK hu) ha.p hb.p hk) (Q4 (neg:=true))⟩
abbrev QB(neg:Bool)(wa:W PV)(wl:W (O PV)):W Bool:=.bind wa λx=>.bind wl λl=>qJ neg x l
def Gk(l:O PV):W PV:=.bind (mx l) λns=>.eQ (ns≠[]) (.ret (.int (pD ns)))
def Kz(l:O PV):W PV:=.bind (mx l) λns=>.ret (.int ns.sum)
def vI{C:O Int->Prop}{g:O Int->Int}{f:O PV->W PV}(hf:∀{l:O PV}{Q:PV->Prop},(f l).run Q->∃ns:O Int,l=ns.map PV.int/\C ns/\Q (.int (g ns))):∀σ H Q,fE K fs (.bind wl f) σ H Q->tCB (Pa K C g) (VG (fQL K fs wl) aaH) σ H Q:=λσ H Q ⟨sr,q⟩=>⟨sr,wl.mono (λl q1 u1 H1 g1 s1 _ v1=>by
 obtain⟨ns,el,hC,q2⟩:=hf q1;obtain⟨a,vs,rfl,h1,r1⟩:=v1 H1 .refl s1;rw[el]at r1;have:=jF r1;subst this;exact⟨a,ns,rfl,h1,hC,q2 _ H1 g1 s1 (.int _)⟩) q⟩
def MM(h:(Gk l).run Q):∃ns:O Int,l=ns.map PV.int/\ns≠[]/\Q (.int (pD ns)):=let ⟨ns,e,q⟩:=gr h;⟨ns,e,q.1,q.2⟩
def Mh(h:(Kz l).run Q):∃ns:O Int,l=ns.map PV.int/\True/\Q (.int ns.sum):=let ⟨ns,e,q⟩:=gr h;⟨ns,e,trivial,q⟩
def Zj(hK:X.K=K)(hc:X.calm=true)(hg:Gl X "min")(hm:X.mg "min"=bm)(ha:HQ X K fs e wl)(he:gZ X e []:=by rfl)(c9:lF X pos []:=by rfl):EF X K fs (.Call (.Name "min" p) [e] [] pos) (.bind wl Gk):=⟨PE.imp (dD (vU (C:=λns=>ns≠[]) (g:=pD) K hK hc λa b c d q=>MK a b c d q) hg hm boot_min (aW ha.p bO he) ⋯ ⋯ he c9) (vI MM)⟩
def Zg(hK:X.K=K)(hc:X.calm=true)(hg:Gl X "sum")(hm:X.mg "sum"=bm)(ha:HQ X K fs e wl)(he:gZ X e []:=by rfl)(c9:lF X pos []:=by rfl):EF X K fs (.Call (.Name "sum" p) [e] [] pos) (.bind wl Kz):=⟨PE.imp (dD (vU (C:=λ_=>True) (g:=λns=>ns.sum) K hK hc λa b c _ q=>Mg a b c q) hg hm (show lw "sum"=ap (.builtin "sum") by rfl) (aW ha.p bO he) ⋯ ⋯ he c9) (vI Mh)⟩
def sortI(ns:O Int):O Int:=ns.mergeSort (λa b=>decide (a<=b))
theorem OK(h1:ms.Perm ns)(h2:ms.Pairwise (·<=·)):ms=sortI ns:=by
 have h3:(sortI ns).Perm ns:=C8 ns _;have h4:(sortI ns).Pairwise (λa b=>decide (a<=b)=true):=EL (λa b c=>by simp;omega) (λa b=>by simp;omega) ns;exact List.Perm.eq_of_pairwise (le:=λa b=>a<=b) (λa b _ _ h h'=>Fe h h') h2 (h4.imp (by simp)) (h1.trans h3.symm)
def wJ(l:O PV):W (O PV):=.bind (mx l) λns=>.eQ (ns.length < 64) (.ret ((sortI ns).map PV.int))
def Uj(hK:X.K=K)(hg:Gl X "sorted")(hm:X.mg "sorted"=bm)(ha:HQ X K fs e wl)(he:gZ X e []:=by rfl)(c9:lF X pos []:=by rfl):LF X K fs (.Call (.Name "sorted" p) [e] [] pos) (.bind wl wJ):=⟨PE.imp (dD (JZ K hK) hg hm boot_sorted (aW ha.p bO he) ⋯ ⋯ he c9) λσ H Q ⟨sr,q⟩=>⟨sr,wl.mono (λl q1 u1 H1 g1 s1 _ v1=>by
 obtain⟨ns,el,hC,q2⟩:=gr (l:=l) q1;obtain⟨a,vs,rfl,h1,r1⟩:=v1 H1 .refl s1;rw[el]at r1;have:=jF r1;subst this;refine⟨a,ns,rfl,h1,hC,λms a2 a3=>?_⟩;rw[OK a2 a3];exact Lh g1 s1 (om _ _ _) q2) q⟩⟩
variable{el eh:Option kw}{st:kw}{lo ws:W (Option Int)}
def OP(x:PV)(i j k:Option Int):W PV:=match x with
 | .tup l=>.eQ (i=bm/\j=bm/\k=ap (-1)) (.ret (.tup l.reverse))
 | _=>.fail
def Zi(hK:X.K=K)(he:EF X K fs e w)(hl:OF X K fs el lo)(hh:OF X K fs eh hi)(hs:OF X K fs (ap st) ws):EF X K fs (.Subscript e (.Slice el eh (ap st) p2) pos) (.bind w λx=>.bind lo λi=>.bind hi λj=>.bind ws λk=>OP x i j k):=⟨PE.imp (Tp K hK he.p hl.p hh.p hs.p) λσ H Q ⟨sr,q⟩=>⟨sr,w.mono (λx q1 u1 H1 g1 s1 v1=>⟨s1,lo.mono (λi q2 H2 g2 s2=>⟨s2,hi.mono (λj q3 H3 g3 s3=>⟨s3,ws.mono (λk q4 H4 g4 s4=>by
 have Su:=g4.vr s3 (g3.vr s2 (g2.vr s1 v1));have gg:=((g1.trans g2).trans g3).trans g4;cases Su with
 | @tup p vs l e r=>
  have q4:(W.eQ (i=bm/\j=bm/\k=ap (-1)) (bd (PV.tup l.reverse))).run _:=q4;exact⟨p,vs,rfl,dj.of e,q4.1.1,q4.1.2.1,q4.1.2.2,λq H5 s5 h5 n5=>q4.2 _ H5 (gg.trans (cO.same s5)) (s4.same s5) (.tup h5 (ay.tk s5.d6 r.reverse))⟩
 | _=>exact q4.elim) q3⟩) q2⟩) q1⟩) q⟩⟩
end
end
section
variable{K:Ab}
section
variable{rest:O ss}{T:Type}{out:T->End}{x:Bool}
def ajO(l:O PV):PV->W PV
 | .int k=>.eQ (0<=k/\k < 1000) (.Ld l[k.toNat]?)
 | _=>.fail
def Xp(l:O PV)(v:PV):W (O PV):=match v with
 | .int k=>.bind (mx l) λns=>.eQ (k∈ns) (.ret ((ns.erase k).map PV.int))
 | _=>.fail
theorem SF.remove(i:Nat){k:O PV->W T}(hs:fs[i]?=ap (ap (.ol q0 l)))(hK:X.K=K)(hN:X.N[i]?=ap y)(hv:zx X.env.scope y)(he:EF X K fs e we)(hr:∀l',SF X K x (fs.set i (ap (.ol q0 l'))) rest (k l') out)
  (hd:jh y:=by decide) (jc:HI y:=by decide) (eK:pr (.Name y p) "remove" X.env (lf (.Name y p) X.env)=lf (.Name y p) X.env:=by rfl)
  (pS:ZL X bP [e]:=by rfl)
  (eJ:Sl Â bP:=by rfl) (rk:gZ X e []:=by rfl) (fe:lF X bP []:=by rfl)
  (oo:lc (.Call (.Attribute (.Name y p) "remove" Â) [e] [] bP) bm pos.line X.env=pure false:=by rfl) :
  SF X K x fs (.Expr (.Call (.Attribute (.Name y p) "remove" Â) [e] [] bP) pos::rest) (.bind we λv=>.bind (Xp l v) k) out:=
 SF.step (qW (si K hK B6 PySem.F.slot_list_remove PySem.F.type_list_remove IC (d9 hN hv hd jc) (aW he.p bO rk) eK pS eJ rk fe) oo) λD σ H ⟨sr,q⟩=>by
  obtain⟨a,ws,e1,h1,r1⟩:=du sr hs;refine⟨_,e1,.inl ⟨rfl,_,c6.of h1⟩,sr,we.mono (λv q1 u H1 g1 s1 v1=>?_) q⟩;obtain⟨a',rK,qN,gR,ux⟩:=du s1 hs;rw[e1]at qN;cases qN;cases v1 with
  | int kk=>
   obtain⟨ns,el,hk,q2⟩:=gr (l:=l) q1;subst el;have:=jF ux;subst this;refine⟨a,ns,kk,rfl,rfl,gR,hk,λH2 sx h2=>?_⟩;obtain⟨s2,g2⟩:=nC s1 hs e1 sx h2 (om _ _ (ns.erase kk));exact⟨_,k _,hr _,s2,(k _).mono (λt q3=>q3.go (g1.f.trans g2) sr s2) q2⟩
  | _=>exact q1.elim
end
end
end FL
variable{vs:O (L2.Key×L2.V)}{kvs:O (L2.Key×PL.PV)}
namespace FL
section
variable{K:Ab}
abbrev w2(f:PV->PV->W PV)(wa wb:W PV):W PV:=.bind wa λx=>.bind wb λy=>f x y
def agA(kvs:O (Key×PV))(k:Key):Bool:=kvs.any λkv=>decide (kv.1=k)
def qK(kvs:O (Key×PV))(k:Key):Option PV:=(kvs.find? λkv=>decide (kv.1=k)).map (·.2)
def iP(K:Ab)(H:Hp)(vs:O (Key×V))(kvs:O (Key×PV)):Prop:=vs.map (·.1)=kvs.map (·.1)/\ay K [] H (vs.map (·.2)) (kvs.map (·.2))
section
def iP.cons_inv{p:Key×V}{q:Key×PV}(h:iP K H (p::vs) (q::kvs)):p.1=q.1/\VR K [] H p.2 q.2/\iP K H vs kvs:=by
 obtain⟨h1,h2⟩:=h;injection h1 with a b;cases h2 with
 | cons r t=>exact⟨a,r,b,t⟩
theorem iP.ind{C:O (Key×V)->O (Key×PV)->Prop}(h0:C [] [])(h1:∀p q vs kvs,p.1=q.1->VR K [] H p.2 q.2->iP K H vs kvs->C vs kvs->C (p::vs) (q::kvs)):∀{vs kvs},iP K H vs kvs->C vs kvs
 | [],[],_=>h0
 | [],_::_,h=>by simp[iP]at h
 | _::_,[],h=>by simp[iP]at h
 | p::vs,q::kvs,h=>let ⟨a,b,c⟩:=h.cons_inv;h1 p q vs kvs a b c (iP.ind h0 h1 c)
def iP.has(h:iP K H vs kvs)(k:Key):(iA vs k).isSome=agA kvs k:=by
 rw[<- rN];refine iP.ind (C:=λvs kvs=>(vs.any λkv=>decide (kv.1=k))=kvs.any λkv=>decide (kv.1=k)) rfl (λp q vs kvs e _ _ ih=>?_) h;rw[BA,BA,ih,e]
def iP.get(h:iP K H vs kvs)(k:Key)(g:qK kvs k=ap v):∃u,iA vs k=ap u/\VR K [] H u v:=by
 refine iP.ind (C:=λvs kvs=>qK kvs k=ap v->∃u,iA vs k=ap u/\VR K [] H u v) (λg=>by simp[qK]at g) (λp q vs kvs e r _ ih g=>?_) h g;by_cases c:p.1=k
 ·rw[kB c];have c':=e▸c;have:qK (q::kvs) k=ap q.2:=by simp[qK,Bj,c']
  rw[this]at g;cases g;exact⟨_,rfl,r⟩
 ·rw[kC c];have c':=e▸c;have:qK (q::kvs) k=qK kvs k:=by simp[qK,Bj,c']
  exact ih (this▸g)
end
end
section
variable{K:Ab}
def fAs(K:Ab)(fs:bb)(i:Nat)(w:W (O PV)):TS:=λD σ H=>aU K H σ fs/\w.run λl=>∀a vs H',cO σ fs H H'->aU K H' σ fs->H a=bm->H' a=ap (.lst vs)->ay K [] H' vs l->D.nx (σ.set i (ap (.ref a))) H'
structure AS(X:Cx)(K:Ab)(fs:bb)(st:ss)(i:Nat)(w:W (List PV)):Prop where p:PS X st (fAs K fs i w)
section
variable{st:ss}{rest:O ss}{T:Type}{out:T->End}{x:Bool}{k:O PV->W T}
def SF.as(h:AS X K fs st i wl)(hr:∀l,SF X K x (fs.set i (ap (.ol bm l))) rest (k l) out):SF X K x fs (st::rest) (.bind wl k) out:=SF.step h.p λD σ H ⟨sr,q⟩=>⟨sr,wl.mono (λl q1 a ws H1 g1 s1 n e v1=>by
 have no:=sr.noOwn n;have s2:=s1.wQ (t:=.ol bm l) ⟨by simp,ws,e,v1⟩ no i;exact⟨_,k l,hr l,s2,(k l).mono (λt q2=>q2.go (cM.wQ s1 g1.f no n i) sr s2) q1⟩) q⟩
def Zz(b:Nat)(hs:fs[b]?=ap (ap t))(h:AS X K (fs.set b (ap (.val t.bv))) st i wl)(hb:t.bw=true:=by rfl):AS X K fs st i (.bind wl va):=⟨λZ s σ H D I ⟨sr,q⟩=>by
 obtain⟨a,o,ob,I2,s2,Ê⟩:=bor I sr hs hb;refine bV (h.p Z s σ _ {nx:=λσ' H1=>∃b vs l',σ'=σ.set i (ap (.ref b))/\cO σ (fs.set _ (ap (.val t.bv))) (upd H a (.cq ob o)) H1/\aU K H1 σ (fs.set _ (ap (.val t.bv)))/\upd H a (.cq ob o) b=bm/\H1 b=ap (.lst vs)/\ay K [] H1 vs l'/\tV l'=true/\∀a vs H',cO σ fs H H'->aU K H' σ fs->H a=bm->H' a=ap (.lst vs)->ay K [] H' vs l'->D.nx (σ.set i (ap (.ref a))) H',rt:=D.rt,bk:=D.bk,ct:=D.ct} I2 ⟨s2,wl.mono (λl' q1 b vs H1 g1 s1 n e v1=>⟨b,vs,l',rfl,g1,s1,n,e,v1,q1.1,q1.2⟩) q⟩) λf s1 q1=>?_;cases f with
 | next=>
  obtain⟨σ',H1,I1,b,vs,l',rfl,g1,SV,n,eb,v1,d,q1⟩:=q1;obtain⟨I3,g3,s3,t3,k3⟩:=Ê _ s1 H1 I1 g1 SV;have nb:b≠a:=λy=>by subst y;rw[aM]at n;cases n
  exact⟨_,_,I3,q1 b vs _ g3 s3 (by rw[aq nb]at n;exact n) (k3 b vs nb eb) (ay.jH t3 v1 d)⟩
 | ret v=>exact q1
 | brk=>exact q1
 | cont=>exact q1⟩
end
section
variable{T2:Type}{wt:PV->W T2}{cE:T2->bb}{tf:T2->W Bool}{te:T2->W PV}
def adi(hc:X.calm=true)(hN:X.N.Nodup)(xR:X.N[i]?=ap y)(hx:X.env.scope.names.lookup y=ap .local)(S:bc X.env.scope X.N sc N' ix)(hi:qQ X K fs tg iter wl)(hg:∀cl C s2 H2 fp,GF (fw X sc N' cl C s2 H2 fp) K (bq ix fs) tg is wt cE)(û:∀cl C s2 H2 fp t,FF (fw X sc N' cl C s2 H2 fp) K (cE t) É (tf t))(he:∀cl C s2 H2 fp t,EF (fw X sc N' cl C s2 H2 fp) K (cE t) Ã (te t))
  (hf:∀p,f p=.bind (wt p) λt=>.bind (tf t) λk=>if k=true then .bind (te t) λv=>.ret (ap v) else .ret bm) (hl:qP is (bq ix fs) cE/\∀t,gA (cE t) (bq ix fs)) (uJ:∀j∈is,ix[j]?=ap bm)
  (oo:lc (.ListComp Ã [⟨tg,iter,É,0⟩] sc pos) (ap (.Name y px)) kr.line X.env=pure true:=by rfl) (hs:um X iter:=by intro _;rfl) :
  AS X K fs (.Assign [.Name y px] (.ListComp Ã [⟨tg,iter,É,0⟩] sc pos) kr) i (.bind wl λl=>mq l f):=
 ⟨PS.imp (zV hc hN xR hx S hi.p (λcl C s2 H2 fp=>(hg cl C s2 H2 fp).p) (λcl C s2 H2 fp Z s σ H Q I ⟨t,q⟩=>(û cl C s2 H2 fp t).p Z s σ H Q I q) (λcl C s2 H2 fp Z s σ H Q I ⟨t,q⟩=>(he cl C s2 H2 fp t).p Z s σ H Q I q) oo hs) λD σ H ⟨sr,q⟩=>
  Q5 (K:=K) S rfl hf hl.1 hl.2 uJ σ H _ ⟨sr,q⟩⟩
def Vn(hc:X.calm=true)(hN:X.N.Nodup)(xR:X.N[i]?=ap y)(hx:X.env.scope.names.lookup y=ap .local)(S:bc X.env.scope X.N sc N' ix)(hi:qQ X K fs tg iter wl)(hg:∀cl C s2 H2 fp,GF (fw X sc N' cl C s2 H2 fp) K (bq ix fs) tg is wt cE)(he:∀cl C s2 H2 fp t,EF (fw X sc N' cl C s2 H2 fp) K (cE t) Ã (te t))
  (hl:qP is (bq ix fs) cE/\∀t,gA (cE t) (bq ix fs)) (uJ:∀j∈is,ix[j]?=ap bm)
  (oo:lc (.ListComp Ã [⟨tg,iter,[],0⟩] sc pos) (ap (.Name y px)) kr.line X.env=pure true:=by rfl) (hs:um X iter:=by intro _;rfl) :
  AS X K fs (.Assign [.Name y px] (.ListComp Ã [⟨tg,iter,[],0⟩] sc pos) kr) i (.bind wl λl=>a7 l λp=>.bind (wt p) te):=by
 rw[Lm];exact adi (tf:=λ_=>.ret true) hc hN xR hx S hi hg (λ_ _ _ _ _ _=>Jx) he (λp=>rfl) hl uJ oo hs
def Vo{f:PV->W PV}(hc:X.calm=true)(hN:X.N.Nodup)(xR:X.N[i]?=ap y)(hx:X.env.scope.names.lookup y=ap .local)(S:bc X.env.scope X.N sc N' ix)(hi:qQ X K fs tg iter wl)(hg:∀cl C s2 H2 fp,PG (fw X sc N' cl C s2 H2 fp) tg (dY j))(he:∀cl C s2 H2 fp t,EF (fw X sc N' cl C s2 H2 fp) K ((bq ix fs).set j (ap (.val t))) Ã (f t))(h0:ix[j]?=ap bm)
  (oo:lc (.ListComp Ã [⟨tg,iter,[],0⟩] sc pos) (ap (.Name y px)) kr.line X.env=pure true:=by rfl) (hs:um X iter:=by intro _;rfl) :
  AS X K fs (.Assign [.Name y px] (.ListComp Ã [⟨tg,iter,[],0⟩] sc pos) kr) i (.bind wl λl=>a7 l f):=
 have h1:(bq ix fs)[j]?=ap bm:=by unfold bq;rw[Al,h0];rfl
 Vn (wt:=.ret) hc hN xR hx S hi (λcl C s2 H2 fp=>Wn (hg cl C s2 H2 fp)) he (Qa h1) (λm hj=>by rw[AD]at hj;subst hj;exact h0) oo hs
end
end
end FL
variable{kvs:O (O L2.Key×PL.PV)}
namespace FL
section
variable{K:Ab}
def bT(K:Ab)(H:Hp)(vs:O (O Key×V))(kvs:O (O Key×PV)):Prop:=vs.map (·.1)=kvs.map (·.1)/\ay K [] H (vs.map (·.2)) (kvs.map (·.2))
def VB(K:Ab)(H:Hp)(ob:HO)(v:PV):Prop:=(∃vs kvs,ob=.dK vs/\v=Sf kvs/\iP K H vs kvs)\/∃vs kvs,ob=.dT vs/\v=yP kvs/\bT K H vs kvs
def fDv(K:Ab)(fs:bb)(w:W PV):TE:=λσ H Q=>aU K H σ fs/\w.run λv=>∀a ob H',cO σ fs H H'->aU K H' σ fs->H a=bm->H' a=ap ob->VB K H' ob v->Q (.ref a) H'
structure DVF(X:Cx)(K:Ab)(fs:bb)(e:kw)(w:W PV):Prop where p:PE X e (fDv K fs w)
section
variable{σ:L2.St}{fs:bb}{H:Hp}{a:ce}{ob:HO}{v:PV}
def aU.aaV(s:aU K H σ fs)(n:¬dJ σ fs a)(e:H a=ap ob)(n1:∀vs,ob≠.tup vs)(n2:∀o u,ob≠.cq o u)(o':HO):aU K (upd H a o') σ fs:=⟨s.len,λi t q=>by
 obtain⟨u,h1,h2⟩:=s.at' i t q;exact⟨u,h1,h2.mono (gB o' e n1 n2) (λx b o eb ow hb z=>by subst eb;rw[aq (λy:b=a=>n ⟨i,t,x,q,ow,h1,y▸hb⟩)];exact z)⟩,s.nd⟩
def VB.cq{X:Cx}{Z:O (ce×Obj)}{s:cr}{σ':L2.St}(I:Inv X Z σ' H s)(e:H a=ap ob)(d:VB K H ob v):∃u,Inv X Z σ' (upd H a u) s/\VR K [] (upd H a u) (.ref a) v/\(∀vs,ob≠.tup vs)/\∀o u,ob≠.cq o u:=by
 rcases d with⟨vs,kvs,rfl,rfl,d1,d2⟩ | ⟨vs,kvs,rfl,rfl,d1,d2⟩
 ·obtain⟨o,I2⟩:=I.LB e;exact⟨_,I2,.dk aM (V6 d1) (ay.tk (gB _ e (by simp) (by simp)) d2),by simp,by simp⟩
 ·obtain⟨o,I2⟩:=I.freeze e;exact⟨_,I2,.dt aM (V5 d1) (ay.tk (gB _ e (by simp) (by simp)) d2),by simp,by simp⟩
end
section
variable{a c:kw}{w:W PV}
def Zm(h:DVF X K fs e w):EF X K fs e w:=⟨λZ s σ H Q I ⟨sr,q⟩=>by
 refine bV (h.p Z s σ H (λu H1=>∃a ob v,u=.ref a/\cO σ fs H H1/\aU K H1 σ fs/\H a=bm/\H1 a=ap ob/\VB K H1 ob v/\∀u H',cO σ fs H H'->aU K H' σ fs->VR K [] H' u v->Q u H') I ⟨sr,w.mono (λv q1 a ob H1 g1 s1 n e d=>⟨a,ob,v,rfl,g1,s1,n,e,d,q1⟩) q⟩) λu s1 ⟨v,H1,I1,r1,a,ob,v',e,g1,SV,n,ea,d,q1⟩=>?_;subst e;obtain⟨o',I2,vr,n1,n2⟩:=d.cq I1 ea;exact⟨.ref a,_,I2,r1,q1 _ _ (g1.side n _) (SV.aaV (λz=>sr.noOwn n z) ea n1 n2 _) vr⟩⟩
def Wy:DVF X K fs (.Dict [] [] pos) (.ret (Sf [])):=⟨PE.imp Py λσ H Q ⟨sr,q⟩ p hp=>by
 have sm:=gF hp (.dK []);exact q p _ _ (cO.same sm) (sr.same sm) hp aM (.inl ⟨[],[],rfl,rfl,rfl,.nil⟩)⟩
def K7(kv:O Key×PV):PV:=.tup [.tup (kv.1.map kP),kv.2]
theorem Qs(H:Hp):∀k:O Key,ay K [] H (k.map kV) (k.map kP)
 | []=>.nil
 | .inl i::k=>.cons (.int i) (Qs H k)
 | .inr i::k=>.cons (.str i) (Qs H k)
theorem GJ:∀{k:O Key}{vs:O V},ay K [] H vs (k.map kP)->vs=k.map kV
 | [],_,h=>by cases h;rfl
 | .inl i::k,_,h=>by
  cases h with
  | cons x t=>cases x;rw[GJ t];rfl
 | .inr i::k,_,h=>by
  cases h with
  | cons x t=>cases x;rw[GJ t];rfl
theorem F3:∀{kvs:O (O Key×PV)}{vs:O V},ay K [] H vs (kvs.map K7)->∃zs:O Pz,vs=zs.map (λz=>V.ref z.pa)/\(∀z∈zs,z.At H)/\zs.map (·.k)=kvs.map (·.1)/\ay K [] H (zs.map (·.v)) (kvs.map (·.2))
 | [],_,h=>by cases h;exact⟨[],rfl,by simp,rfl,.nil⟩
 | kv::kvs,_,h=>by
  cases h with
  | cons x t=>
  obtain⟨zs,z1,z2,z3,z4⟩:=F3 t;cases x with
  | @tup p ws _ e r=>
  cases r with
  | cons x1 t1=>
  cases t1 with
  | cons x2 t2=>
  cases t2;cases x1 with
  | @tup b us _ e1 r1=>
  have:=GJ r1;subst this;refine⟨⟨p,kv.1,b,_⟩::zs,by rw[Ap,z1],λz hz=>?_,by rw[Ap,Ap,z3],.cons x2 z4⟩;rcases Ax.mp hz with rfl | hz
  ·exact⟨e,e1⟩
  ·exact z2 z hz
def JT(l:O PV):W PV:=⟨λQ=>∃kvs:O (O Key×PV),l=kvs.map K7/\(kvs.map (·.1)).Nodup/\kvs.length<=1000/\Q (yP kvs),λf q=>q.imp λkvs h=>⟨h.1,h.2.1,h.2.2.1,f _ h.2.2.2⟩⟩
theorem Vc(hK:X.K=K)(hc:X.calm=true)(hu:X.A.units+200 < pc)(hg:Gl X "dict")(hm:X.mg "dict"=bm)(ha:HQ X K fs e wl)(he:gZ X e []:=by rfl)(c9:lF X pos []:=by rfl) :
  DVF X K fs (.Call (.Name "dict" p) [e] [] pos) (.bind wl JT):=⟨PE.imp (iX (J3 K hK hc ∅) hg hm boot_dict (aW ha.p bO he) ⋯ ⋯ he c9) λσ H Q ⟨sr,q⟩=>⟨sr,wl.mono (λl q1 u H1 g1 s1 v0 v1=>by
  obtain⟨kvs,rfl,nd,hl,q1⟩:=q1;obtain⟨a,vs,rfl,e3,e4⟩:=v1 H1 .refl s1;obtain⟨zs,rfl,z2,z3,z4⟩:=F3 e4;have hzl:zs.length=kvs.length:=by have:=congrArg BR z3;simpa using this
  refine⟨a,zs,rfl,e3,z2,by rw[z3];exact nd,by omega,λp H2 s2 h2 n2=>?_⟩;exact q1 _ _ H2 (g1.trans (cO.same s2)) (s1.same s2) (g1.there _ n2) h2 (.inr ⟨_,_,rfl,rfl,by rw[Ay,<- z3];rfl,by rw[Ay];exact ay.tk s2.d6 z4⟩)) q⟩⟩
def Ny(nd:(kvs.map (·.1)).Nodup)(hl:kvs.length<=1000)(q:Q (yP kvs)):(JT (kvs.map K7)).run Q:=⟨kvs,rfl,nd,hl,q⟩
def cR(kvs:O (O Key×PV))(k:O Key):Option PV:=(kvs.find? λkv=>decide (kv.1=k)).map (·.2)
theorem bT.get{k:O Key}:∀{vs:O (O Key×V)}{kvs:O (O Key×PV)},bT K H vs kvs->(cR kvs k=bm->iA vs k=bm)/\∀{v},cR kvs k=ap v->∃u,iA vs k=ap u/\VR K [] H u v
 | [],[],_=>⟨λ_=>rfl,λg=>by simp[cR]at g⟩
 | [],_::_,h=>by simp[bT]at h
 | _::_,[],h=>by simp[bT]at h
 | p::vs,q::kvs,h=>by
  obtain⟨h1,h2⟩:=h;rw[Ap,Ap]at h1 h2;injection h1 with e b;cases h2 with
  | cons r t=>
  have ih:=bT.get (k:=k) (vs:=vs) (kvs:=kvs) ⟨b,t⟩;by_cases c:p.1=k
  ·rw[kB c];have c':=e▸c;have:cR (q::kvs) k=ap q.2:=by simp[cR,Bj,c']
   rw[this];refine⟨λz=>(by cases z),λ{v} z=>?_⟩;cases z;exact⟨_,rfl,r⟩
  ·rw[kC c];have c':=e▸c;have:cR (q::kvs) k=cR kvs k:=by simp[cR,Bj,c']
   rw[this];exact ih
def iP.get'{k:Key}:∀{vs:O (Key×V)}{kvs:O (Key×PV)},iP K H vs kvs->(qK kvs k=bm->iA vs k=bm)/\∀{v},qK kvs k=ap v->∃u,iA vs k=ap u/\VR K [] H u v:=λ{vs kvs} h=>⟨λz=>by
 have:=h.has k;cases e:iA vs k with
 | none=>rfl
 | some u=>
  rw[e]at this;have h2:=this.symm;unfold qK at z;rw[ET,List.find?_eq_none]at z;obtain⟨x,hx,hx2⟩:=List.any_eq_true.mp h2;exact absurd hx2 (z x hx),λz=>h.get k z⟩
def V9(k:Key)(l:O PV):kP k≠.tup l:=by cases k <;> exact PV.noConfusion
def Yy{a b:Key}(h:kP a=kP b):a=b:=by
 cases a <;> cases b <;> simp[kP]at h <;> rw[h]
theorem xH:∀{a b:O Key},a.map kP=b.map kP->a=b
 | [],[],_=>rfl
 | [],_::_,h=>by simp at h
 | _::_,[],h=>by simp at h
 | x::a,y::b,h=>by
  rw[Ap,Ap]at h;injection h with h1 h2;rw[Yy h1,xH h2]
inductive HK:PV->PV->Option PV->Prop
 | k (kvs:List (Key×PV)) (k:Key):kvs≠[]->HK (Sf kvs) (kP k) (qK kvs k)
 | t (kvs:List (List Key×PV)) (k:List Key):kvs≠[]->HK (yP kvs) (.tup (k.map kP)) (cR kvs k)
def WO{kvs:O (Key×PV)}(h0:kvs≠[])(h:VR K [] H u (Sf kvs)):∃a o vs,u=.ref a/\H a=ap (.cq o (.dK vs))/\iP K H vs kvs:=by
 have à:∀{vs:O (Key×V)}{kvs:O (Key×PV)},(kvs.map λkv=>kP kv.1)=(vs.map λkv=>kP kv.1)->vs.map (·.1)=kvs.map (·.1):=λ{vs kvs} e=>by
  have e:(kvs.map (·.1)).map kP=(vs.map (·.1)).map kP:=by rw[Ay,Ay];exact e
  exact(xH e).symm
 cases h with
 | @dk a o vs _ _ e k r=>exact⟨a,o,vs,rfl,e,à k,r⟩
 | @dt a o vs _ _ e k r=>
  cases kvs with
  | nil=>exact absurd rfl h0
  | cons x l=>cases vs with
   | nil=>simp at k
   | cons y m=>simp at k;exact absurd k.1 (V9 _ _)
def Ot(h0:kvs≠[])(h:VR K [] H u (yP kvs)):∃a o vs,u=.ref a/\H a=ap (.cq o (.dT vs))/\bT K H vs kvs:=by
 have à:∀{vs:O (O Key×V)}{kvs:O (O Key×PV)},(kvs.map λkv=>PV.tup (kv.1.map kP))=(vs.map λkv=>PV.tup (kv.1.map kP))->vs.map (·.1)=kvs.map (·.1):=λ{vs kvs} e=>by
  induction kvs generalizing vs with
  | nil=>cases vs with
   | nil=>rfl
   | cons y m=>simp at e
  | cons x l ih=>cases vs with
   | nil=>simp at e
   | cons y m=>
    injection e with e1 e2;injection e1 with e1;rw[Ap,Ap,xH e1,ih e2]
 cases h with
 | @dt a o vs _ _ e k r=>exact⟨a,o,vs,rfl,e,à k,r⟩
 | @dk a o vs _ _ e k r=>
  cases kvs with
  | nil=>exact absurd rfl h0
  | cons x l=>cases vs with
   | nil=>simp at k
   | cons y m=>simp at k;exact absurd k.1.symm (V9 _ _)
def HK.ok{z:V}{d y:PV}{r:Option PV}(h:HK d y r)(hu:VR K [] H u d)(hz:VR K [] H z y):∃a o,u=.ref a/\IsD H a/\Km H a z o/\(r=bm->o=bm)/\∀v,r=ap v->∃w,o=ap w/\VR K [] H w v:=by
 cases h with
 | k kvs k h0=>
  obtain⟨a,o,vs,rfl,e,d⟩:=WO h0 hu;have ez:z=kV k:=by
   cases k with
   | inl i=>cases hz;rfl
   | inr i=>cases hz;rfl
  subst ez;exact⟨a,iA vs k,rfl,.inl ⟨vs,.inr ⟨o,e⟩⟩,.inl ⟨vs,k,.inr ⟨o,e⟩,rfl,rfl⟩,(iP.get' d).1,λv=>(iP.get' d).2⟩
 | t kvs k h0=>
  obtain⟨a,o,vs,rfl,e,d⟩:=Ot h0 hu;cases hz with
  | @tup b us _ e1 r1=>
  have:=GJ r1;subst this;exact⟨a,iA vs k,rfl,.inr ⟨vs,.inr ⟨o,e⟩⟩,.inr ⟨vs,k,b,.inr ⟨o,e⟩,rfl,e1,rfl⟩,(bT.get d).1,λv=>(bT.get d).2⟩
def dgW(d y:PV):W PV:=⟨λQ=>∃v,HK d y (ap v)/\Q v,λf ⟨v,a,q⟩=>⟨v,a,f _ q⟩⟩
def Si(a b:W PV):W PV:=.bind a λx=>.bind b λy=>dgW x y
theorem tQ(hu:X.A.units+200 < pc)(ha:EF X K fs a wa)(hb:EF X K fs b wb)(hs:Vx b):EF X K fs (.Subscript a b pos) (Si wa wb):=⟨PE.imp (K4 ∅ ha.p hb.p hs) λσ H Q ⟨sr,q⟩=>⟨sr,wa.mono (λx q1 u1 H1 g1 s1 v1=>⟨s1,wb.mono (λy q2 u2 H2 g2 s2 v2=>by
 obtain⟨v,g,q2⟩:=q2;obtain⟨a,o,rfl,_,g2',_,h⟩:=g.ok (g2.vr s1 v1) v2;obtain⟨w,rfl,vw⟩:=h v rfl;exact⟨a,w,rfl,g2',q2 _ H2 (g1.trans g2) s2 vw⟩) q1⟩) q⟩⟩
def rC{k:O Key}(h:cR kvs k=ap v)(q:Q v):(dgW (yP kvs) (.tup (k.map kP))).run Q:=⟨v,by rw[<- h];exact .t kvs k (λz=>by subst z;simp[cR]at h),q⟩
def Qg(d:PV):W (O PV):=⟨λQ=>∃kvs:O (O Key×PV),d=yP kvs/\kvs≠[]/\kvs.length<=1000/\Q (kvs.map λkv=>.tup (kv.1.map kP)),λf q=>q.imp λkvs h=>⟨h.1,h.2.1,h.2.2.1,f _ h.2.2.2⟩⟩
theorem Uz(h:EF X K fs e w):qQ X K fs tg e (.bind w Qg):=⟨PI.imp (Pq h.p) λσ H R ⟨sr,q⟩=>⟨sr,w.mono (λx q1 u1 H1 g1 s1 v1=>by
 obtain⟨kvs,rfl,h0,hl,q1⟩:=q1;obtain⟨a,o,vs,rfl,e,d1,d2⟩:=Ot h0 v1;have len:vs.length=kvs.length:=by have:=congrArg BR d1;simpa using this
 refine⟨a,o,vs,rfl,e,q1 _ H1 g1 s1 ⟨bE (by simpa using hl),λH' t=>?_⟩⟩;have e':=t.z _ _ _ e;refine⟨λi p hp=>?_,vs,e',by simp[len]⟩;rw[Al]at hp;cases z:kvs[i]? with
 | none=>rw[z]at hp;cases hp
 | some kv=>
  rw[z]at hp;have hp:=Option.some.inj hp;subst hp;have hi:=(Ak.mp z).1;refine⟨⟨vs,e',by omega⟩,λy H2 yy=>?_⟩;obtain⟨rfl,yy⟩:=yy;obtain⟨b,k,v,rfl,k2,k3⟩:=yy vs e';have ek:k=kv.1:=by
   have h1:(vs.map (·.1))[i]?=ap k:=by rw[Al,k2];rfl
   rw[d1,Al,z]at h1;exact(Option.some.inj h1).symm
  subst ek;exact⟨lE.refl _,.tup k3 (Qs _ _)⟩) q⟩⟩
def MY{Q:O PV->Prop}(h0:kvs≠[])(hl:kvs.length<=1000)(q:Q (kvs.map λkv=>.tup (kv.1.map kP))):(Qg (yP kvs)).run Q:=⟨kvs,rfl,h0,hl,q⟩
end
end
section
variable{K:Ab}
mutual
def PV.pd:PV->PyData
 | .ax=>.none
 | .bl b=>.bool b
 | .int i=>.int i
 | .str x=>.str x
 | .tup l=>.tuple (Tu l)
 | .cl l=>.list (Tu l)
 | _=>.none
def Tu:O PV->O PyData
 | []=>[]
 | x::l=>PV.pd x::Tu l
end
section
mutual
theorem VR.reads(I:Inv X Z σ H s):∀{v:V}{x:PV},VR X.K [] H v x->PV.fq x=true->∀{u},RelV v u->∃as,Reads s.heap u (PV.pd x) as
 | _,_,.ax,_,u,r=>by cases r;rw[PV.pd];exact⟨_,.none⟩
 | _,_,.bl b,_,u,r=>by cases r;rw[PV.pd];exact⟨_,.bool b⟩
 | _,_,.int i,_,u,r=>by obtain⟨t,r⟩:=(show ∃t,u=Di i t from r);cases r;rw[PV.pd];exact⟨_,.int i t⟩
 | _,_,.str i,_,u,r=>by obtain⟨t,r⟩:=(show ∃t,u=Bb i t from r);cases r;rw[PV.pd];exact⟨_,.str i t⟩
 | _,_,.ty n,h,_,_=>by rw[PV.fq]at h;cases h
 | _,_,.dk _ _ _,h,_,_=>by rw[PV.fq]at h;cases h
 | _,_,.dt _ _ _,h,_,_=>by rw[PV.fq]at h;cases h
 | _,_,.ref e,h,_,_=>by simp at e
 | _,_,.tup e r,h,u,q=>by
  cases q;obtain⟨ao,rv,⟨o,h1,h2,n,h3⟩,_⟩:=I.tuple (dj.of (K:=X.K) e);obtain⟨as,ra⟩:=ay.reads I r (by rw[PV.fq]at h;exact h) rv;rw[PV.pd];exact⟨as,.tuple h1 h2 h3 (by simpa using ra)⟩
 | _,_,.cl e r,h,u,q=>by
  cases q;obtain⟨ao,rv,⟨o,n,h1,h2,_,h3⟩,_⟩:=I.list e.sq;obtain⟨as,ra⟩:=ay.reads I r (by rw[PV.fq]at h;exact h) rv;rw[PV.pd];exact⟨_,.list h1 h2 h3 (by simpa using ra)⟩
theorem ay.reads(I:Inv X Z σ H s):∀{v:O V}{x:O PV},ay X.K [] H v x->d5 x=true->∀{u},Vals v u->∃as,ReadsAll s.heap u (Tu x) as
 | _,_,.nil,_,u,r=>by cases r;rw[Tu];exact⟨_,.nil⟩
 | _,_,.cons a t,h,u,r=>by
  rw[d5,Aw]at h;cases r with
  | cons r1 r2=>
  obtain⟨as,ra⟩:=VR.reads I a h.1 r1;obtain⟨bs,rb⟩:=ay.reads I t h.2 r2;rw[Tu];exact⟨_,.cons ra rb⟩
end
mutual
theorem vi:∀x:PV,(PV.pd x).hasDict=false
 | .ax=>by simp[PV.pd,B1]
 | .bl _=>by simp[PV.pd,B1]
 | .int _=>by simp[PV.pd,B1]
 | .str _=>by simp[PV.pd,B1]
 | .tup l=>by rw[PV.pd,B1];exact mD l
 | .cl l=>by rw[PV.pd,B1];exact mD l
 | .ref _=>by simp[PV.pd,B1]
 | .ty _=>by simp[PV.pd,B1]
 | .dv _ _=>by simp[PV.pd,B1]
theorem mD:∀x:O PV,Eu (Tu x)=false
 | []=>by simp[Tu,Eu]
 | x::l=>by rw[Tu,Eu,vi x,mD l];rfl
end
end
def Mp(x:PV):Prop:=PV.fq x=true/\(PV.pd x).showable=true/\(PV.pd x).depth<=100/\(PV.pd x).shown.length<=sizeLine
def Xa(x:PV):W PV:=match x with
 | .int i=>.eQ (Mp x) (.ret (.str (PV.pd x).shown))
 | .tup l=>.eQ (Mp x) (.ret (.str (PV.pd x).shown))
 | .cl l=>.eQ (Mp x) (.ret (.str (PV.pd x).shown))
 | _=>.fail
section
variable{a:kw}
def Wc(b:Bool):PV->Prop
 | .int _=>b=true
 | .tup _=>True
 | .cl _=>True
 | _=>False
def aa8(K:Ab)(b:Bool):O V->Hp->VK->Prop:=λxs H Q=>∃v x,xs=[v]/\VR K [] H v x/\Mp x/\Wc b x/\Q (.str (PV.pd x).shown) H
theorem NK(hK:X.K=K)(hg:X.A.guards=ap [])(hu:X.A.units+200 < pc):bL X (.type "str") (aa8 K true):=by
 subst hK;intro Z s σ H xs us Q I r ⟨v,x,e,hv,⟨o1,o2,o3,o4⟩,hx,q⟩;subst e;obtain⟨u,rfl,ru⟩:=vals1 r;have rf:∀a,u=.ref a->db (ev X.prog X.w) X.A (call (.type "str") [u]) (EP X Z σ Q) X.xe s:=λa e=>by
  subst e;obtain⟨as,rd⟩:=VR.reads I hv o1 ru;exact str_of_reads rd o2 (PyData.noDict_hsm (vi x)) hg ∅ (λ_ _ e=>e) (λh' u tk hk=>⟨.str _,H,I.kept (t':=tk) hk,⟨_,rfl⟩,q⟩) o4
 cases hv with
 | int i=>
  obtain⟨t,ru⟩:=(show ∃t,u=Di i t from ru);subst ru;simp only[PV.pd,PyData.showable,decide_eq_true_iff,PyData.shown]at o2 q;exact P.str_of_int o2 ⟨.str _,H,I.tok _,⟨_,rfl⟩,q⟩
 | tup _ _=>exact rf _ ru
 | cl _ _=>exact rf _ ru
 | _=>exact hx.elim
def Zh(hK:X.K=K)(hr:fh k X.A)(hg:Gl X "str")(hm:X.mg "str"=bm)(ha:EF X K fs a wa)(he:gZ X a []:=by rfl)(c9:lF X pos []:=by rfl):EF X K fs (.Call (.Name "str" p) [a] [] pos) (.bind wa Xa):=
 ⟨PE.imp (iX (NK hK hr.gd (aV hr)) hg hm wn (aW ha.p bO he) ⋯ ⋯ he c9) λσ H Q ⟨sr,q⟩=>⟨sr,wa.mono (λx q1 u H1 g1 s1 v1=>by
  have h:Mp x/\Wc true x/\∀u H',cO σ fs H H'->aU K H' σ fs->VR K [] H' u (.str (PV.pd x).shown)->Q u H':=by
   cases x with
   | int i=>exact⟨q1.1,(by first | rfl | trivial),q1.2⟩
   | tup l=>exact⟨q1.1,(by first | rfl | trivial),q1.2⟩
   | cl l=>exact⟨q1.1,(by first | rfl | trivial),q1.2⟩
   | _=>exact q1.elim
  exact⟨u,x,rfl,v1,h.1,h.2.1,h.2.2 _ H1 g1 s1 (.str _)⟩) q⟩⟩
end
end
end FL
variable{κ:PyProof.Rows.SortKind}{vs:O A6}{p:Array Nat}
namespace L2
def eO(N:Nat)(P:α->Prop):D1 α->Prop
 | .ret a=>P a
 | .ask i j k=>i < N/\j < N/\∀b,eO N P (k b)
theorem eO.mono{N:Nat}{P P':α->Prop}(h:∀a,P a->P' a):∀{t:D1 α},eO N P t->eO N P' t
 | .ret a,q=>h a q
 | .ask i j k,q=>⟨q.1,q.2.1,λb=>eO.mono h (q.2.2 b)⟩
theorem eO.bind{N:Nat}{P:α->Prop}{P':β->Prop}{f:α->D1 β}(hf:∀a,P a->eO N P' (f a)):∀{t:D1 α},eO N P t->eO N P' (t.bind f)
 | .ret a,q=>hf a q
 | .ask i j k,q=>⟨q.1,q.2.1,λb=>eO.bind hf (q.2.2 b)⟩
theorem eO.wp{N:Nat}{P:α->Prop}{cmp:Nat->Nat->(Bool->cr->Prop)->cr->Prop}{Q:α->cr->Prop}(hc:∀i j C,i < N->j < N->(∀b,C b s)->cmp i j C s)(hq:∀a,P a->Q a s):∀{t:D1 α},eO N P t->t.kasWp cmp Q s
 | .ret a,q=>hq a q
 | .ask i j k,q=>hc i j _ q.1 q.2.1 λb=>eO.wp hc hq (q.2.2 b)
def cL(N:Nat)(p:Array Nat):Prop:=p.toList.Perm (AL N)
def cL.lt{N:Nat}(h:cL N p)(h0:0 < N)(k:Nat):p.getD k 0 < N:=by
 by_cases c:k < p.size
 ·have:p.getD k 0=p[k]:=by simp[Array.getD,c]
  rw[this];exact A5.mp (h.mem_iff.mp (by simp))
 ·have:p.getD k 0=0:=by simp[Array.getD,c]
  rw[this];exact h0
def cL.rev{N:Nat}(h:cL N p)(i j:Nat):cL N (E4 p i j):=(Eo.mp (mirror_perm p i j _)).trans h
def cL.bub{N:Nat}(h:cL N p)(i j:Nat):cL N (bubble p i j):=(Eo.mp (bubble_perm p i j)).trans h
section
variable{N:Nat}(h0:0 < N)
include h0
theorem Qq(h:cL N p):∀f n,eO N (λ_=>True) (PySem.W.kas_asc p f n)
 | 0,n=>trivial
 | f+1,n=>⟨h.lt h0 _,h.lt h0 _,λb=>by
  cases b with
  | true=>exact trivial
  | false=>exact Qq h f (n+1)⟩
theorem xu:∀f (p:Array Nat) n q,cL N p->eO N (λr=>cL N r.1) (PySem.W.kas_desc f p n q)
 | 0,p,n,q,h=>h
 | f+1,p,n,q,h=>⟨h.lt h0 _,h.lt h0 _,λb=>by
  cases b with
  | true=>
   show eO N _ (if q > 0 then _ else _)
   split
   ·exact xu f _ _ _ (h.rev _ _)
   ·exact xu f _ _ _ h
  | false=>exact⟨h.lt h0 _,h.lt h0 _,λb=>by
    cases b with
    | true=>exact h
    | false=>exact xu f _ _ _ h⟩⟩
def Qj{m:Nat}(h:cL N p):eO N (λr=>cL N r.2) (PySem.W.kas_tail3 n m p):=by
 exact eO.bind (N:=N) (P:=λ_=>True) (P':=λr:Nat×Array Nat=>cL N r.2) (f:=λk=>.ret (k,E4 p 0 n)) (λk _=>(show cL N (E4 p 0 n) from h.rev _ _)) (Qq h0 (h.rev _ _) _ _)
def Qm{m:Nat}(h:cL N p):eO N (λr=>cL N r.2) (PySem.W.kas_descPart n m p):=eO.bind (λr hr=>by
 split
 ·exact Qj h0 (hr.rev _ _)
 ·exact Qj h0 hr) (xu h0 _ _ _ _ h)
def Uu{m:Nat}(h:cL N p):eO N (λr=>cL N r.2) (PySem.W.kas_count m p):=eO.bind (λn _=>by
 split
 ·exact h
 ·split
  ·exact⟨h.lt h0 _,h.lt h0 _,λb=>by
    cases b with
    | true=>exact h
    | false=>exact Qm h0 (h.rev _ _)⟩
  ·exact Qm h0 h) (Qq h0 h _ _)
theorem xr(h:cL N p)(k:Nat):∀f l r,eO N (λ_=>True) (PySem.W.kas_place p k f l r)
 | 0,l,r=>trivial
 | f+1,l,r=>by
  show eO N _ (if l≥r then _ else _)
  split
  ·exact trivial
  ·exact⟨h.lt h0 _,h.lt h0 _,λb=>by
    cases b with
    | true=>exact xr h k f _ _
    | false=>exact xr h k f _ _⟩
theorem V8:∀f (p:Array Nat) k,cL N p->eO N (cL N) (PySem.W.kas_bin f p k)
 | 0,p,k,h=>h
 | f+1,p,k,h=>eO.bind (λl _=>V8 f _ _ (h.bub _ _)) (xr h0 h k _ _ _)
def Yx:eO N (cL N) (FU N):=eO.bind (λr hr=>by
 split
 ·exact V8 h0 _ _ _ hr
 ·exact hr) (Uu h0 (List.Perm.refl _))
end
section
theorem IK{P:PySem.Fin->cr->Prop}(ho:s.heap.get? a=ap (sB "list" vs.toArray n))(Ă:vs.length < 64)
  (Ļ:2<=vs.length->∀h',(∀b o,b≠a->s.heap.get? b=ap o->h'.get? b=ap o)->db (ev prog w) A (keyKind' vs.toArray) (λk s'=>k=κ/\s'={s with heap:=h'}) (λ_ _=>False) {s with heap:=h'})
  (ir:∀h',(∀b o,b≠a->s.heap.get? b=ap o->h'.get? b=ap o)->∀i j,i < vs.length->j < vs.length->∀C:Bool->cr->Prop,(∀b,C b {s with heap:=h'})->db (ev prog w) A (keyLt' κ (vs.getD i AU) (vs.getD j AU)) C (λ_ _=>False) {s with heap:=h'})
  (h:∀out:O bn,out.Perm vs->P (.done (.ret .none)) {s with heap:=sortedHeap s.heap a vs out.toArray}) :
  db (ev prog w) A (vD.«list.sort» ⟨[.ref a],[]⟩) P E s:=by
 rw[list_sort_plain];have ha:=Au ho;refine Aa (listItems_at ho rfl ?_);refine Aa (listUpdate_at ho rfl ?_);obtain⟨e1,ho1⟩:∃e1,(s.heap.update a (Bn λ_=>#[])).get? a=ap (sB "list" #[] e1):=⟨_,get?_update_seq ho (λ_=>#[])⟩;refine Aa (seqEpoch_at ho1 rfl ?_);refine Aa (C0 ?_);refine Aa (wpAny_newList ?_);refine Bh ?_;have Ę:(((s.heap.update a (Bn λ_=>#[])).push (sB "tuple" vs.toArray 0)).push (sB "list" #[] 0)).get? a=ap (sB "list" #[] e1):=by
  rw[Heap.get?_push_ne _ _ _ (by rw[size_push',EH];exact AB (Nat.lt_succ_of_lt ha)),Heap.get?_push_ne _ _ _ (by rw[EH];exact AB ha)];exact ho1
 have kp:∀b o,b≠a->s.heap.get? b=ap o->(((s.heap.update a (Bn λ_=>#[])).push (sB "tuple" vs.toArray 0)).push (sB "list" #[] 0)).get? b=ap o:=λb o n e=>Ag _ (Ag _ (by rw[FG _ _ _ _ n];exact e));dsimp only;have hsz:vs.toArray.size=vs.length:=by simp
 by_cases h2:vs.toArray.size < 2
 ·rw[if_pos h2,if_pos h2];refine Aa (Ae ?_);refine Aa (Ae ?_);dsimp only;refine Aa (seqEpoch_at Ę rfl ?_);refine Aa (listUpdate_at Ę rfl ?_ (hsz2:=by rw[Array.size_map];show(pairsOf vs).size<=_;rw[pairsOf_size,sizeLine_eq];omega));simp only[bne_self_eq_false,Ao,if_false];refine Ae ?_;have e:(arrOf (SortSt.mk' general' (vs.toArray.zip vs.toArray) #[] 7 bm)).map (·.2)=vs.toArray:=by
   apply Array.toList_inj.mp;simp[List.map_snd_zip]
  show P _ {s with heap:=_};rw[e];exact h vs (List.Perm.refl _)
 ·rw[if_neg h2,if_neg h2];have rq:2<=vs.length:=by omega
  refine Aa (BL (Ļ rq _ kp) (λk s0 hk=>?_) λ_ _ x=>x.elim);obtain⟨rfl,rfl⟩:=hk;have hw:(FU vs.length).kasWp (PySem.W.kas_ask prog w A k vs) (λp s'=>cL vs.length p/\s'={s with heap:=((s.heap.update a (Bn λ_=>#[])).push (sB "tuple" vs.toArray 0)).push (sB "list" #[] 0)}) {s with heap:=((s.heap.update a (Bn λ_=>#[])).push (sB "tuple" vs.toArray 0)).push (sB "list" #[] 0)}:=
   eO.wp (λi j C hi hj hC=>ir _ kp i j hi hj C hC) (λp hp=>⟨hp,rfl⟩) (Yx (show 0 < vs.length by omega))
  refine Aa (BL (PySem.W.kat_run (Q:=λqU s'=>∃p:Array Nat,cL vs.length p/\arrOf qU=p.map (PySem.W.kas_item (vs.toArray.zip vs.toArray))/\failedOf qU=bm/\s'={s with heap:=((s.heap.update a (Bn λ_=>#[])).push (sB "tuple" vs.toArray 0)).push (sB "list" #[] 0)})
   rfl rq Ă (λp' qU s' a1 a2 a3 a4=>⟨p',a4.1,a2,a3,a4.2⟩) hw) ?_ λ_ _ e=>e)
  rintro⟨⟨⟩,qU⟩ s' ⟨p,hp,har,hf,rfl⟩;have age:=PySem.W.kat_snds rfl har;have Wi:(p.toList.map λi=>vs.getD i AU).Perm vs:=by
   have e:(AL vs.length).map (λi=>vs.getD i AU)=vs:=by
    apply Ca;intro i;by_cases c:i < vs.length
    ·rw[Al,BO c,Ad c];show ap (vs.getD i AU)=_;rw[Aj,Ad c];rfl
    ·rw[AW (by simp;omega),AW ∅]
   have:=hp.map (λi=>vs.getD i AU);rw[e]at this;exact this
  rw[age];refine Aa (seqEpoch_at Ę rfl ?_);refine Aa (listUpdate_at Ę rfl ?_ (hsz2:=by rw[Ah,Wi.length_eq,sizeLine_eq];omega));rw[hf];simp only[bne_self_eq_false,Ao,if_false];exact Ae (h _ Wi)
def SQ{l:ce}{Q:bn->cr->Prop}(hl:s.heap.IsList l vs.toArray)(Ă:vs.length < 64)
  (Ļ:2<=vs.length->∀h',(∀b o,s.heap.get? b=ap o->h'.get? b=ap o)->db (ev prog w) A.in1.in1 (keyKind' vs.toArray) (λk s'=>k=κ/\s'={s with heap:=h'}) (λ_ _=>False) {s with heap:=h'})
  (ir:∀h',(∀b o,s.heap.get? b=ap o->h'.get? b=ap o)->∀i j,i < vs.length->j < vs.length->∀C:Bool->cr->Prop,(∀b,C b {s with heap:=h'})->db (ev prog w) A.in1.in1 (keyLt' κ (vs.getD i AU) (vs.getD j AU)) C (λ_ _=>False) {s with heap:=h'})
  (h:∀out:O bn,out.Perm vs->Q (.ref (s.heap.objs.size+1)) {s with heap:=sortedAll s.heap vs out.toArray}) :
  db (ev prog w) A (call (.builtin "sorted") [.ref l]) Q E s:=by
 refine Calls.call_function_entry kind_sorted plain_sorted entry_sorted (args_sorted1 _) ?_;refine Aa (m:=checkCount "sorted" 1 1 _) (Ae ?_);refine Aa (collect_list hl ?_);refine Aa (wpAny_newList ?_);have hsz:((s.heap.push (sB "list" #[] 0)).update s.heap.objs.size (Bn (·++vs.toArray))).objs.size=s.heap.objs.size+1:=by
  rw[EH,size_push']
 have ė:(((s.heap.push (sB "list" #[] 0)).update s.heap.objs.size (Bn (·++vs.toArray))).push (sB "list" vs.toArray 0)).get? (s.heap.objs.size+1)=ap (sB "list" vs.toArray 0):=by
  rw[<- hsz];exact Aq _ rfl
 have kp:∀b o,s.heap.get? b=ap o->b≠s.heap.objs.size+1/\(((s.heap.push (sB "list" #[] 0)).update s.heap.objs.size (Bn (·++vs.toArray))).push (sB "list" vs.toArray 0)).get? b=ap o:=λb o e=>by
  have lt:=Au e;refine⟨AB (Nat.lt_succ_of_lt lt),Ag _ ?_⟩;rw[FG _ _ _ _ (AB lt)];exact Ag _ e
 show db _ _ _ _ _ {s with heap:=((s.heap.push (sB "list" #[] 0)).update s.heap.objs.size (Bn (·++vs.toArray))).push (sB "list" vs.toArray 0)};rw[hsz];refine Aa (Bh (Bc slot_list_sort ⟨_,ė,rfl⟩ entry_list_sort (IK (κ:=κ) ė Ă (λh2 h' k=>?_) (λh' k=>?_) λout hp=>⟨_,rfl,?_⟩) (args_list_sort _)))
 ·exact Ļ h2 h' λb o e=>k b o (kp b o e).1 (kp b o e).2
 ·exact ir h' λb o e=>k b o (kp b o e).1 (kp b o e).2
 ·exact Ae ⟨_,rfl,h out hp⟩
end
end L2
variable{t t1:PySem.Tok}{p:Cd}
namespace FL
section
variable{K:Ab}
def pP:PV->Bool
 | .tup [.str _,.tup [.int _,.int _]]=>true
 | _=>false
def Jj(h:pP x=true):∃s i j,x=.tup [.str s,.tup [.int i,.int j]]:=by
 unfold pP at h
 split at h
 ·exact⟨_,_,_,rfl⟩
 ·cases h
section
def Va(I:Inv X Z σ H s){v:V}{u:bn}(hv:VR X.K [] H v x)(ru:RelV v u)(hx:pP x=true):∃(a b:ce) (st:Str) (i j:Int) (t t1 t2:Tok) (oa ob:Obj) (na nb:Nat),u=.ref a/\s.heap.get? a=ap oa/\oa.cls=.type "tuple"/\oa.data=.seq #[.str st t,.ref b] na/\s.heap.get? b=ap ob/\ob.cls=.type "tuple"/\ob.data=.seq #[.int i t1,.int j t2] nb:=by
 obtain⟨st,i,j,rfl⟩:=Jj hx;cases hv with
 | @tup p vs _ e r=>
 cases ru;cases r with
 | cons r1 r2=>
 cases r1;cases r2 with
 | cons r2 r3=>
 cases r3;cases r2 with
 | @tup b ws _ e2 r4=>
 cases r4 with
 | cons r4 r5=>
 cases r4;cases r5 with
 | cons r5 r6=>
 cases r6;cases r5;obtain⟨ao,rv,⟨o,h1,h2,n,h3⟩,_⟩:=I.tuple (dj.of (K:=X.K) e);obtain⟨bS,rv2,⟨o2,k1,k2,n2,k3⟩,_⟩:=I.tuple (dj.of (K:=X.K) e2);cases rv with
 | cons q1 q2=>
 cases q2 with
 | cons q2 q3=>
 cases q3;cases rv2 with
 | cons m1 m2=>
 cases m2 with
 | cons m2 m3=>
 cases m3;obtain⟨t,rfl⟩:=q1;cases q2;obtain⟨t1,rfl⟩:=m1;obtain⟨t2,rfl⟩:=m2;exact⟨p,b,st,i,j,t,t1,t2,o,o2,n,n2,rfl,h1,h2,h3,k1,k2,k3⟩
end
theorem U8{b a' b':ce}{st qU:Str}{i j i' j':Int}{t2 t' ç å:Tok}{oa ZP ï:Obj}{na nb na' Ī:Nat}(hu:A.units+1 < pc)
  (h1:s.heap.get? a=ap oa) (h3:oa.data=.seq #[.str st t,.ref b] na) (k1:s.heap.get? b=ap ob) (k2:ob.cls=.type "tuple") (k3:ob.data=.seq #[.int i t1,.int j t2] nb)
  (gR:s.heap.get? a'=ap ZP) (QP:ZP.data=.seq #[.str qU t',.ref b'] na') (Į:s.heap.get? b'=ap ï) (ĭ:ï.cls=.type "tuple") (Ĭ:ï.data=.seq #[.int i' ç,.int j' å] Ī)
  {C:Bool->cr->Prop} (hC:∀b,C b s):db (ev prog w) A (keyLt' (tuples' true) (.ref a) (.ref a')) C (λ_ _=>False) s:=by
 refine PySem.W.kat_lt h1 h3 gR QP (FT (CY.str_str st t qU t' prog w _ _ (PySem.W.kat_go (λ_=>PySem.W.kat_yes ?_) λ_=>PySem.W.kat_no ?_)))
 ·refine FT ?_;have hT:s.heap.IsTuple b #[.int i t1,.int j t2]:=⟨ob,k1,k2,nb,k3⟩;have hT':s.heap.IsTuple b' #[.int i' ç,.int j' å]:=⟨ï,Į,ĭ,Ī,Ĭ⟩;have go:∀e,PySem.W.KatGo prog w A true (decide ((#[Bb st t,.ref b]:Array bn).size < (#[Bb qU t',.ref b']:Array bn).size)) C (.ref b) (.ref b') [] 1 e s:=λe=>PySem.W.kat_go (λ_=>PySem.W.kat_yes (PySem.W.kat_nil (hC _))) λ_=>PySem.W.kat_no (PySem.W.kat_one _ _ (HT.II hT hT' (.cons i t1 (.cons j t2 .nil)) (.cons i' ç (.cons j' å .nil)) ∅ (hC _)));by_cases c:b=b'
  ·subst c;exact DQ (.ref b) prog w _ _ (go _)
  ·refine Dg c (Et (e:=λk=>if k=0 then i==i' else j==j') hT hT' ∅ λk g1 g2=>?_) prog w _ _ (go _);have:k=0\/k=1:=by simp at g1;omega
   rcases this with rfl | rfl
   ·exact Ea i t1 i' ç
   ·exact Ea j t2 j' å
 ·exact oneLt_str (hC _)
section
def Xq(K:Ab):O V->Hp->VK->Prop:=λxs H Q=>∃(p:ce) (vs:O V) (l:O PV),xs=[.ref p]/\c6 K H p vs/\ay K [] H vs l/\l.length < 64/\l.all pP=true/\∀m:O PV,m.Perm l->∀ws,ay K [] H ws m->kI H (.lst ws) Q
def Pr{vs:O V}{out:O bn}(r:Vals vs us)(v:ay K [] H vs l)(p:out.Perm us):∃ws m,Vals ws out/\ay K [] H ws m/\m.Perm l:=by
 induction p generalizing vs l with
 | nil=>cases r;cases v;exact⟨[],[],.nil,.nil,.refl _⟩
 | cons x p ih=>
  cases r with
  | cons r1 r2=>
  cases v with
  | cons v1 v2=>
  obtain⟨ws,m,a,b,c⟩:=ih r2 v2;exact⟨_::ws,_::m,.cons r1 a,.cons v1 b,.cons _ c⟩
 | swap x y l'=>
  cases r with
  | cons r1 r2=>
  cases r2 with
  | cons r2 r3=>
  cases v with
  | cons v1 v2=>
  cases v2 with
  | cons v2 v3=>exact⟨_::_::_,_::_::_,.cons r2 (.cons r1 r3),.cons v2 (.cons v1 v3),.swap _ _ _⟩
 | trans p1 p2 Wf YF=>
  obtain⟨ws,m,a,b,c⟩:=YF r v;obtain⟨rK,m',a',b',c'⟩:=Wf a b;exact⟨rK,m',a',b',c'.trans c⟩
theorem JY(hK:X.K=K)(hu:X.A.units+200 < pc):bL X (.builtin "sorted") (Xq K):=by
 subst hK;intro Z s σ H xs us Q I r h;obtain⟨p,vs,l,rfl,hq,hv,Ă,hd,q⟩:=h;obtain⟨u,rfl,rx⟩:=vals1 r;cases rx;obtain⟨ao,r',pl,hz⟩:=I.list hq;have hl:=r'.length;have Sd:=hv.length;have el:∀i,i < ao.length->∃(a b:ce) (st:Str) (i1 j1:Int) (t t1 t2:Tok) (oa ob:Obj) (na nb:Nat),ao.getD i AU=.ref a/\s.heap.get? a=ap oa/\oa.cls=.type "tuple"/\oa.data=.seq #[.str st t,.ref b] na/\s.heap.get? b=ap ob/\ob.cls=.type "tuple"/\ob.data=.seq #[.int i1 t1,.int j1 t2] nb:=λi hi=>by
  have e1:vs[i]?=ap vs[i]:=Ad ∅;obtain⟨x,ex,vx⟩:=hv.acC e1;have hx:=Cf.mp hd x (Be ex);have ru:RelV vs[i] (ao.getD i AU):=by
   obtain⟨u,hu1,hu2⟩:=Vals.get r' e1;rw[Aj,hu1];exact hu2
  exact Va I vx ru hx
 refine SQ (κ:=tuples' true) pl.isList ∅ (λh2 h' kp=>?_) (λh' kp i j hi hj C hC=>?_) λout hp=>?_
 ·have á:∀l:O bn,(∀v∈l,∃(a:ce) (x:bn) (st:Str) (t:Tok) (oa:Obj) (na:Nat),v=.ref a/\h'.get? a=ap oa/\oa.cls=.type "tuple"/\oa.data=.seq #[.str st t,x] na)->∃fs,PySem.W.KatTups h' l fs/\fs.length=l.length/\∀v∈fs,∃st t,v=Bb st t:=by
   intro l
   induction l with
   | nil=>intro _;exact⟨[],trivial,rfl,by simp⟩
   | cons v l ih=>
    intro hl;obtain⟨fs,f1,f2,f3⟩:=ih λy hy=>hl y (.tail _ hy);obtain⟨a,x,st,t,oa,na,rfl,g1,g2,g3⟩:=hl v (.head _);refine⟨.str st t::fs,PySem.W.KatTups.cons g1 g2 g3 rfl f1,by simp[f2],λy hy=>?_⟩;rcases Ax.mp hy with rfl | hy
    ·exact⟨st,t,rfl⟩
    ·exact f3 y hy
  obtain⟨fs,f1,f2,f3⟩:=á ao λv hv=>by
   obtain⟨i,hi,rfl⟩:=DZ hv;obtain⟨a,b,st,i1,j1,t,t1,t2,oa,ob,na,nb,e,h1,h2,h3,_⟩:=el i hi;rw[Aj,Ad hi]at e;exact⟨a,.ref b,st,t,oa,na,e,kp _ _ h1,h2,h3⟩
  refine PySem.W.kat_kind (T:=.type "str") f1 ∅ (λv hv=>?_) ⋯ ⟨rfl,rfl⟩;obtain⟨st,t,rfl⟩:=f3 v hv;exact PySem.W.Looks.now
 ·obtain⟨a,b,st,i1,j1,t,t1,t2,oa,ob,na,nb,e,h1,h2,h3,k1,k2,k3⟩:=el i hi;obtain⟨a',b',qU,i1',j1',t',ç,å,ZP,ï,na',Ī,e',gR,rq,QP,Į,ĭ,Ĭ⟩:=el j hj;rw[e,e'];exact U8 (s:={s with heap:=h'}) (by show X.A.units+1+1+1 < _;omega) (kp _ _ h1) h3 (kp _ _ k1) k2 k3 (kp _ _ gR) QP (kp _ _ Į) ĭ Ĭ hC
 ·obtain⟨ws,m,a1,a2,a3⟩:=Pr r' hv hp;obtain⟨e,he⟩:=sortedAll_at s.heap ao out.toArray;refine⟨.ref (s.heap.objs.size+1),_,I.laid (t':=s.toks) (λ_ _=>sortedAll_old) (DN _) (show a6 X.prog X.w _ _ _ (.lst ws) from⟨?_,out,e,a1,he⟩),rfl,(q m a3 ws a2).at _ (I.br.fresh (DN _))⟩;rw[a2.length,a3.length_eq];rw[<- Sd];exact hz
def OJ(l:O PV):W (O PV):=.eQ (l.length < 64/\l.all pP=true) (.any λm=>m.Perm l)
def Ui(hK:X.K=K)(hu:X.A.units+200 < pc)(hg:Gl X "sorted")(hm:X.mg "sorted"=bm)(ha:HQ X K fs e wl)(he:gZ X e []:=by rfl)(c9:lF X pos []:=by rfl):LF X K fs (.Call (.Name "sorted" p) [e] [] pos) (.bind wl OJ):=
 ⟨PE.imp (dD (JY hK hu) hg hm boot_sorted (aW ha.p bO he) ⋯ ⋯ he c9) λσ H Q ⟨sr,q⟩=>⟨sr,wl.mono (λl q1 u1 H1 g1 s1 _ v1=>by
  obtain⟨⟨c1,c2⟩,q2⟩:=q1;obtain⟨a,vs,rfl,h1,r1⟩:=v1 H1 .refl s1;exact⟨a,vs,l,rfl,h1,r1,c1,c2,λm hm ws hw=>Lh g1 s1 hw (q2 m hm)⟩) q⟩⟩
end
end
end FL
variable{x z:B7}{ts:O B7}{t3:PySem.Tok}
namespace FL
section
variable{K:Ab}
structure RZ(K:Ab)(a:ce)(ts:List Str):Prop where
 ex:∃(o:Obj) (ao:Array bn) (n:Nat),K.lookup a=ap o/\o.cls=.type "tuple"/\o.data=.seq ao n/\ao.size<=sizeLine/\Vals (ts.map V.str) ao.toList
 tn:∃o:Obj,K.lookup a=ap o/\o.cls=.type "tuple"/\o.dict=bm
def tup3K{t2:Tok}(h:K.lookup a=ap ⟨.type "tuple",bm,.seq #[.str x t1,.str y t2,.str z t3] n,Sa⟩):RZ K a [x,y,z]:=⟨⟨_,_,_,h,rfl,rfl,bE (by show 3<=_;decide),.cons ⟨_,rfl⟩ (.cons ⟨_,rfl⟩ (.cons ⟨_,rfl⟩ .nil))⟩,_,h,rfl,rfl⟩
section
theorem KA(H:Hp):∀ts:O Str,ay K [] H (ts.map V.str) (ts.map PV.str)
 | []=>.nil
 | t::ts=>.cons (.str t) (KA H ts)
end
section
variable{a:kw}
def aaA(hK:X.K=K)(hu:X.A.units+200 < pc){ad:ce}(ha:EF X K fs a wa)(hm:X.mg x=ap (.ref ad))(T:RZ K ad ts)(hg:Gl X x:=by rfl)(hd:jh x:=by decide)(hk:r9 .In (.Name x p)=false:=by rfl) :
  TF X K fs (.Compare a [.In] [.Name x p] pos) (.bind wa λv=>qJ false v (ts.map PV.str)):=⟨PT.imp (nB (PJ K hK hu) ha.p (qX hg hm (v:=.ref ad) rfl hd) hk) λσ H Q ⟨sr,q⟩=>⟨sr,wa.mono (λv q1 u1 H1 g1 s1 v1=>⟨ad,_,_,v,rfl,.inr (.inr T.ex),KA H1 ts,v1,q1.1,_,rfl,q1.2 H1 g1 s1⟩) q⟩⟩
end
end
section
variable{K:Ab}
section
variable{rest:O ss}{S T T2:Type}{hd:ce->S->bb}{s0:S}{wt:PV->W T2}{cE:ce->S->T2->bb}{k:S->W T}{out:T->End}{x:Bool}
def Tv(sr:aU K H σ fs)(hs:fs[i]?=ap (ap (.ol (ap a) l))):∃ws,H a=ap (.lst ws)/\ay K [] H ws l:=by
 obtain⟨u,_,⟨v,e,_⟩ | ⟨b,_,z,ws,q1,q2⟩⟩:=sr.at' i _ hs
 ·cases e
 ·cases z a rfl;exact⟨ws,q1,q2⟩
theorem SF.agP(i:Nat){f:PV->S->W S}{wb:T2->S->W S}(hs:fs[i]?=ap (ap (.ol q0 l)))(hK:X.K=K)(hN:X.N[i]?=ap y)(hv:zx X.env.scope y)(hp:vR (ev X.prog X.w) X.A X.env X.xe)(hc:X.calm=true)
  (hl:∀a,gA (fs.set i (ap (.ol (ap a) l))) (hd a s0)) (Ā:∀a s,(hd a s)[i]?=ap (ap (.ol (ap a) l))) (hg:∀a s,GF X K (hd a s) tg is wt (cE a s)) (hf:∀p s,f p s=.bind (wt p) λt=>wb t s)
  (hb:∀a s t,SF X K false (cE a s t) body (wb t s) λs'=>.nc (hd a s')) (hr:∀a s,SF X K x ((hd a s).set i (ap (.ol bm l))) rest (k s) out) (ÿ:jh y:=by decide) (jc:HI y:=by decide) (ĳ:∀x,foldedSetIterable (.Name y p) X.env x=pure x:=by intro _;rfl) :
  SF X K x fs (.For tg (.Name y p) body [] pos::rest) (.bind (cA l s0 f) k) out:=by
 refine SF.step (Im (g:=λv σ H Q=>∃a s,fG K (hd a s) is wt (cE a s) v σ H Q) (tb:=λD σ H=>∃a s t,fS K false (cE a s t) (wb t s) (λs'=>.nc (hd a s')) D σ H) hp hc (Po (K:=K) (hK:=hK) (d9 hN hv ÿ jc)) (λZ s σ H v u Q I r ⟨a,s1,q⟩=>(hg a s1).p Z s σ H v u Q I r q) (λZ s σ H D I ⟨a,s1,t1,q⟩=>(hb a s1 t1).p Z s σ H D I q) ĳ) λD σ H ⟨sr,q1⟩=>?_;obtain⟨a,ws,e1,h1,r1⟩:=du sr hs;obtain⟨s1,g1⟩:=eY (t':=.ol (ap a) l) sr hs rfl (by simp) e1 (λ_ _ _ h=>h) λ_=>⟨λb z=>Option.some.inj z,ws,h1,r1⟩;refine⟨_,e1,a,rfl,⟨ws,.inl (.inl h1)⟩,?_⟩;refine⟨λi' m σ' H'=>∃s,aU K H' σ' (hd a s)/\cM σ fs H σ' (hd a s) H'/\m=l.length-i'/\i'<=l.length/\(cA (l.drop i') s f).run λs'=>(k s').run λt=>bQ K x σ fs H D (out t),⟨l.length,s0,s1.le (hl a),g1.trans (cM.le s1 (hl a)),by simp,A8 _,by simpa using q1⟩,?_⟩;rintro i' m σ2 H2 ⟨s,s2,g2,rfl,hi,q2⟩;obtain⟨us,h2,r2⟩:=Tv s2 (Ā a s);have sq:c6 K H2 a us:=.inl (.inl h2);by_cases ir:i' < l.length
 ·obtain⟨v,h3,h4⟩:=r2.get (Ad ir);rw[Bm ir]at q2;refine .inr ⟨⟨us,v,sq,h3⟩,λσ3 H3=>∃s',aU K H3 σ3 (hd a s')/\cM σ fs H σ3 (hd a s') H3/\(cA (l.drop (i'+1)) s' f).run λs'=>(k s').run λt=>bQ K x σ fs H D (out t),λσ3 H3 ⟨s',a1,a2,a4⟩=>⟨l.length-(i'+1),by omega,s',a1,a2,rfl,ir,a4⟩,λv2 H3 y=>?_⟩;obtain⟨rfl,y⟩:=y;have:=y us sq;rw[h3]at this;cases this;have q2:(f l[i'] s).run λs'=>(cA (l.drop (i'+1)) s' f).run λs'=>(k s').run λt=>bQ K x σ fs H D (out t):=q2;rw[hf]at q2;refine⟨a,s,_,s2,h4,(wt l[i']).mono (λt q4 us g4 s4=>?_) q2⟩;refine⟨a,s,t,s4,(wb t s).mono (λs' q5 σ5 H5 g5 s5=>?_) q4⟩;exact⟨λ_=>⟨s',s5,(g2.trans g4).trans g5,q5⟩,s',s5,(g2.trans g4).trans g5,q5⟩
 ·have e:i'=l.length:=by omega
  subst e;rw[DE]at q2;obtain⟨a',us',e2,rq,r2'⟩:=du s2 (Ā a s);obtain⟨s3,g3⟩:=eY (t':=.ol bm l) s2 (Ā a s) rfl (by simp) e2 (λ_ _ _ h=>h) λ_=>⟨by simp,us',rq,r2'⟩;exact .inl ⟨⟨us,sq,by rw[r2.length];exact Am _⟩,_,k s,hr a s,s3,(k s).mono (λt q3=>q3.go (g2.trans g3) sr s3) q2⟩
def SF.acK(i:Nat){f:PV->S->W S}(hs:fs[i]?=ap (ap (.ol q0 l)))(hK:X.K=K)(hN:X.N[i]?=ap y)(hv:zx X.env.scope y)(hp:vR (ev X.prog X.w) X.A X.env X.xe)(hc:X.calm=true)
  (hl:∀a,gA (fs.set i (ap (.ol (ap a) l))) (hd a s0)) (Ā:∀a s,(hd a s)[i]?=ap (ap (.ol (ap a) l))) (hg:PG X tg (dY j))
  (hb:∀a s p,SF X K false ((hd a s).set j (ap (.val p))) body (f p s) λs'=>.nc (hd a s')) (hr:∀a s,SF X K x ((hd a s).set i (ap (.ol bm l))) rest (k s) out) (ÿ:jh y:=by decide) (jc:HI y:=by decide) (ĳ:∀x,foldedSetIterable (.Name y p) X.env x=pure x:=by intro _;rfl) :
  SF X K x fs (.For tg (.Name y p) body [] pos::rest) (.bind (cA l s0 f) k) out:=SF.agP (wt:=.ret) (wb:=λp s=>f p s) i hs hK hN hv hp hc hl Ā (λa s=>Wn hg) (λ_ _=>rfl) hb hr ÿ jc ĳ
end
end
end FL
variable{kp cp:Cd}{kc:Nat}
namespace L2
section
variable{R:Result->cr->Prop}{I S:ce}{wr:O ce}{P:Nat->bn->Prop}{St:Nat->lm->Prop}
abbrev dfN:O (Str×bn):=[(BJ "default",.none)]
abbrev adg(l:O bn)(c:Nat):Obj:={cls:=.type "list",dict:=bm,data:=.seq l.toArray c,slots:=#[]}
def UU{n:Nat}(h:n<=2):n<=sizeLine:=Bv h ⋯
theorem MP(W:Walks prog w A.in1 I fp wr n P St)(bt:Nat->Nat->Bool)(agw:CmpOf prog w A.in1 .Lt P bt)(hSf:S∉fp) :
  ∀(k j:Nat) (s:cr) (l:O bn) (c:Nat),n-j=k->j<=n->St j s.heap->(j=0/\l=[]\/∃i v,j=i+1/\l=[v,v]/\P (argBest bt i) v)->s.heap.get? S=ap (adg l c)->
  (∀v h' tk,(n=0/\v=.none\/0 < n/\P (argBest bt (n-1)) v)->(∀b o,b∉wr->b≠S->s.heap.get? b=ap o->h'.get? b=ap o)->R (.ok (.ret v)) {s with heap:=h',toks:=tk})->
  Da (ev prog w) A (.builtin "min.loop" ⟨[.ref I,.none,.ref S],dfN⟩) R s:=by
 have hSw:S∉wr:=λh=>hSf (W.sub _ h);have hn:(toString "min"++toString ".loop":String)="min.loop":=by decide
 intro k
 induction k with
 | zero=>
  intro j s l c hk hj rk hl hS hR;have e:j=n:=by omega
  subst e;refine FS F.entry_min_loop ?_;rw[Fs Ct _];refine Aa (Bt hS rfl (Aa (Ed (W.done s _ _ rk λh' tk YT=>?_))));have YW:=YT S _ hSw hS;rcases hl with⟨e0,rfl⟩ | ⟨i,v,rfl,rfl,hv⟩
  ·exact Aa (CZ (Ae (hR _ h' tk (.inl ⟨e0,rfl⟩) λb o hb _ z=>YT b o hb z)))
  ·refine Aa (CH YW rfl (Aa (Cz (Ae ?_))) (UU (Am _)) (A8 _));exact hR v _ tk (.inr ⟨Nat.succ_pos _,hv⟩) λb o hb QM z=>(BK _ _ (Bx QM)).trans (YT b o hb z)
 | succ k ih=>
  intro j s l c hk hj rk hl hS hR;have ir:j < n:=by omega
  refine FS F.entry_min_loop ?_;rw[Fs Ct _];refine Aa (Bt hS rfl (Aa (Ed (W.item j s _ _ ir rk λv h' tk hP ace YT=>?_))));have YW:=YT S _ hSw hS;have V7:∀(f:Obj->Obj) b o,b∉wr->b≠S->s.heap.get? b=ap o->(h'.update S f).get? b=ap o:=λf b o hb QM z=>(BK _ _ (Bx QM)).trans (YT b o hb z);have frU:∀(f:Obj->Obj),St (j+1) (h'.update S f):=λf=>W.frame _ _ _ ace λb hbf o e=>(BK _ _ (λh:S=b=>hSf (by rw[h];exact hbf))).trans e;refine Aa (Ae ?_);rcases hl with⟨rfl,rfl⟩ | ⟨i,vb,rfl,rfl,hb⟩
  ·refine Aa (CH YW rfl ?_ (A8 _) (Nat.le_succ_of_le (UU (Am _))));rw[hn];refine Ae ⟨vv Ct _,ih 1 _ [v,v] _ ∅ ir (frU _) (.inr ⟨0,v,rfl,rfl,hP⟩) (BV _ YW rfl) λv' h2 ä QO YS=>?_⟩;exact hR v' h2 ä QO λb o hb QM z=>YS b o hb QM (V7 _ b o hb QM z)
  ·refine Aa (Ed (Bh (Aa (agw (i+1) (argBest bt i) v vb _ _ _ hP hb ?_))));refine Aa (Bh (B8 (Aa (Cz (Ae ?_)))));cases hbt:bt (i+1) (argBest bt i) with
   | true=>
    refine Aa (CH YW rfl (Aa (Cz ?_)) (UU (Am _)) (Nat.le_succ_of_le (UU (Am _))));rw[hn];refine Ae ⟨vv Ct _,ih (i+2) _ [v,v] _ ∅ ir (frU _) (.inr ⟨i+1,v,rfl,rfl,by simp only[argBest,hbt,if_true];exact hP⟩) (BV _ YW rfl) λv' h2 ä QO YS=>?_⟩;exact hR v' h2 ä QO λb o hb QM z=>YS b o hb QM (V7 _ b o hb QM z)
   | false=>
    refine Aa (Cz ?_);rw[hn];refine Ae ⟨vv Ct _,ih (i+2) _ [vb,vb] c ∅ ir ace (.inr ⟨i+1,vb,rfl,rfl,by simp only[argBest,hbt];exact hb⟩) YW λv' h2 ä QO YS=>?_⟩;exact hR v' h2 ä QO λb o hb QM z=>YS b o hb QM (YT b o hb z)
def NU(a:bn):argsOk "min" ⟨[a],dfN⟩:=by unfold argsOk;kernel_rfl
def T9(ns:O Int)(t:Tok):bn:=if ns=[] then .none else .int (pD ns) t
theorem IG{l:ce}{Q:bn->cr->Prop}(hh:A.handled=bm)(hl:s.heap.IsList l vs.toArray)(hi:tt vs ns)
  (h:∀(h':lm) (t:Tok) tk,(∀b o,s.heap.get? b=ap o->h'.get? b=ap o)->Q (T9 ns t) {s with heap:=h',toks:=tk}):db (ev prog w) A (call (.builtin "min") [.ref l] dfN) Q E s:=by
 obtain⟨xs,e⟩:=hi.allInts.items;have HN:ns=xs.toList.map (·.1):=by rw[<- hi.numsOf,<- nums_intItems,<- e]
 rw[e]at hl;have hn:(toString "min"++toString ".loop":String)="min.loop":=by decide
 refine kmb_tree F.kind_min F.plain_min F.entry_min (NU _) ?_;refine Aa (Cy (show Builtin.Builtins.bindParams "min" ["key","default"] 0 ⟨[],dfN⟩=pure [bm,ap .none] from rfl) ?_);refine Aa (Ae ?_);refine Aa (iter_intList hl λs₂ e2 st hfp hlI=>?_);subst e2;refine Aa (AQ ?_);rw[hn];have W:=Walks.list (A:=A.in1) (prog:=prog) (w:=w) hh s.heap.objs.size l hlI (intItems xs);have hsz:(intItems xs).size=ns.length:=by rw[HN];simp[intItems]
 refine Ae ⟨vv Ct _,MP W _ (CmpOf.ints_lt (numAt xs) (λ_ _=>intItems_at)) (λhm=>AX _ (hfp _ hm)) _ 0 _ [] 0 rfl (A8 _) (W.frame _ _ _ st λb _ o e=>Ag _ e) (.inl ⟨rfl,rfl⟩) (Aq _ rfl) λv h' tk hP hk=>?_⟩;have kp:∀b o,s.heap.get? b=ap o->h'.get? b=ap o:=λb o z=>by
  have h1:=Au z;refine hk b o (λy=>AB h1 (AD.mp y)) (λy=>?_) (Ag _ (Ag _ z));rw[y,Cs]at h1;exact absurd h1 (Nat.not_lt_of_le (DN _))
 rcases hP with⟨h0,rfl⟩ | ⟨h0,hP⟩
 ·have e0:ns=[]:=B5 ∅;have:=h h' 0 tk kp;rw[T9,if_pos e0]at this;exact this
 ·obtain⟨t,rfl⟩:=intItems_at hP;have e0:ns≠[]:=λz=>by rw[hsz,z]at h0;exact AX _ h0
  have h2:=h h' t tk kp;rw[T9,if_neg e0,<- Ll HN e0]at h2;have ez:(intItems xs).size=xs.size:=by simp[intItems]
  rw[ez];exact h2
end
def abd(K:Ab):O V->Hp->VK->Prop:=λxs H Q=>∃(p:ce) (ns:O Int),xs=[.ref p]/\c6 K H p (ns.map V.int)/\Q (if ns=[] then .ax else .int (pD ns)) H
def Tq{t:TA}(K:Ab)(hK:X.K=K)(hc:X.calm=true)(hg:Gl X "min")(hm:X.mg "min"=bm)(ha:PA X [e] t)(he:ut pos (ga [e] X.env)=(false,lf e X.env)::ut pos (ga [] X.env))(hp:(ut pos (ga [e] X.env)).any (·.1)=false) :
  PE X (.Call (.Name "min" p) [e] [⟨ap (BJ "default"),.Constant .none kc cp,kp⟩] pos) (λσ H Q=>t σ H λvs H'=>abd K vs H' Q):=by
 subst hK;intro Z s σ H Q I h;refine BE (iD I hg hm boot_min ?_ ⋯ ⋯);refine callWith_kw (bV (ha pos Z s σ H _ I h) λus s1 ⟨vs,H1,I1,r1,q1⟩=>?_) he hp;refine kws_cons (bV (Pw Z s1 σ H1 (λv H2=>v=.ax/\H2=H1) I1 ⟨rfl,rfl⟩) λv s2 ⟨x,H2,I2,r2,e1,e2⟩=>kws_nil ?_);subst e1 e2;cases r2;obtain⟨a,ns,rfl,hq,q⟩:=q1;obtain⟨u,rfl,rx⟩:=vals1 r1;cases rx;obtain⟨ao,r',pl,hz⟩:=I2.list hq;refine IG (I2.ok.hd hc) pl.isList (intsAre_of r') λh' t tk hk=>?_;unfold T9;by_cases c:ns=[]
 ·rw[if_pos c]at q ⊢;exact⟨.ax,_,I2.kept (t':=tk) hk,rfl,q⟩
 ·rw[if_neg c]at q ⊢;exact⟨.int _,_,I2.kept (t':=tk) hk,⟨t,rfl⟩,q⟩
end L2
namespace FL
def Lk(l:O PV):W PV:=.bind (mx l) λns=>.ret (if ns=[] then .ax else .int (pD ns))
def Zk{K:Ab}(hK:X.K=K)(hc:X.calm=true)(hg:Gl X "min")(hm:X.mg "min"=bm)(ha:HQ X K fs e wl)(hs:gZ X e []:=by rfl)(he:ut pos (ga [e] X.env)=(false,lf e X.env)::ut pos (ga [] X.env):=by rfl)(hp:(ut pos (ga [e] X.env)).any (·.1)=false:=by rfl) :
  EF X K fs (.Call (.Name "min" p) [e] [⟨ap (BJ "default"),.Constant .none kc cp,kp⟩] pos) (.bind wl Lk):=⟨PE.imp (Tq K hK hc hg hm (aW ha.p bO hs) he hp) λσ H Q ⟨sr,q⟩=>⟨sr,wl.mono (λl q1 u1 H1 g1 s1 _ v1=>by
 obtain⟨ns,el,q2⟩:=gr (l:=l) q1;obtain⟨a,vs,rfl,h1,r1⟩:=v1 H1 .refl s1;rw[el]at r1;have:=jF r1;subst this;refine⟨a,ns,rfl,h1,?_⟩;by_cases c:ns=[]
 ·simp only[if_pos c]at q2 ⊢;exact q2 _ H1 g1 s1 .ax
 ·simp only[if_neg c]at q2 ⊢;exact q2 _ H1 g1 s1 (.int _)) q⟩⟩
end FL
namespace L2
def ZT(x y z q:Str):Nat:=if x=q then 0 else if y=q then 1 else 2
def pE{q:Str}{t2:Tok}:Meets (vD.«tuple.index» ⟨[.ref a,.str q t],[]⟩) (λ_ R s=>(∃o,s.heap.get? a=ap o/\o.data=.seq #[.str x t1,.str y t2,.str z t3] n)/\q∈[x,y,z]/\∀u,R (.ok (.ret (.int (ZT x y z q:Nat) u))) {s with toks:=s.toks+1}):=by
 refine .of_wp λprog w A R s ⟨⟨o,ho,hd⟩,hq,h⟩=>?_;refine Aa (Ae ?_);refine Aa (Aa (Bt ho hd (Ae ?_)));refine Aa (Ae ?_);refine Aa (Ae ?_);refine Aa ?_;rw[Std.Legacy.Range.forIn_eq_forIn_range'];rw[show List.range' [:min #[Bb x t1,Bb y t2,Bb z t3].size #[Bb x t1,Bb y t2,Bb z t3].size].start [:min #[Bb x t1,Bb y t2,Bb z t3].size #[Bb x t1,Bb y t2,Bb z t3].size].size [:min #[Bb x t1,Bb y t2,Bb z t3].size #[Bb x t1,Bb y t2,Bb z t3].size].step=[0,1,2] from by simp only[Std.Legacy.Range.size,Ah,Ar,Bp];decide];simp only[BS,List.forIn_nil];refine Aa (Aa (DB ?_));have Ó:∀k:Nat,ZT x y z q=k->∃v,Fp (.ret (.int (k:Int) s.toks))=Fp (.ret v)/\R (.ok (.ret v)) {s with toks:=s.toks+1}:=λk e=>⟨_,rfl,by have:=h s.toks;rw[e]at this;exact this⟩;by_cases c1:x=q
 ·subst c1;rw[decide_eq_true rfl,if_pos rfl];exact Aa (Aa (Aa (wpAny_fresh (Ae (Ae (Ae (Ae (Ae (Ó 0 (if_pos rfl))))))))))
 ·rw[decide_eq_false c1,if_neg ⋯];refine Ae (Aa (Aa (DB ?_)));by_cases c2:y=q
  ·subst c2;rw[decide_eq_true rfl,if_pos rfl];exact Aa (Aa (Aa (wpAny_fresh (Ae (Ae (Ae (Ae (Ae (Ó 1 (by rw[ZT,if_neg c1,if_pos rfl]))))))))))
  ·rw[decide_eq_false c2,if_neg ⋯];refine Ae (Aa (Aa (DB ?_)));have c3:z=q:=by simp at hq;rcases hq with e | e | e <;> first | exact absurd e.symm c1 | exact absurd e.symm c2 | exact e.symm
   subst c3;rw[decide_eq_true rfl,if_pos rfl];exact Aa (Aa (Aa (wpAny_fresh (Ae (Ae (Ae (Ae (Ae (Ó 2 (by rw[ZT,if_neg c1,if_neg c2]))))))))))
def abh(K:Ab):V->O V->Hp->VK->Prop:=λv vs H Q=>∃a x y z q,v=.ref a/\vs=[.str q]/\dj K H a [.str x,.str y,.str z]/\q∈[x,y,z]/\Q (.int (ZT x y z q:Nat)) H
def T7(K:Ab)(hK:X.K=K):L6 X "tuple.index" (abh K):=by
 subst hK;intro Z s σ H v vs u us Q I rx rv h;obtain⟨a,x,y,z,q,rfl,rfl,hq,hm,qq⟩:=h;cases rx;obtain⟨u,rfl,ru⟩:=rv.one;obtain⟨t,rfl⟩:=ru;obtain⟨ao,r,pl,hz⟩:=I.tuple hq;obtain⟨o,ho,hc,n,hd⟩:=pl;cases r with
 | cons q1 r=>cases r with
  | cons q2 r=>cases r with
   | cons q3 r=>
    cases r;obtain⟨t1,rfl⟩:=q1;obtain⟨t2,rfl⟩:=q2;obtain⟨t3,rfl⟩:=q3;exact sK F.slot_tuple_index ⟨_,ho,hc⟩ F.entry_tuple_index (F.args_tuple_index_2 _ _) pE ⟨⟨_,ho,hd⟩,hm,λu=>⟨.int _,H,I.tok _,⟨u,rfl⟩,qq⟩⟩
end L2
namespace FL
def QD(ts:O Str):PV->W PV
 | .str q=>match ts with
  | [x,y,z]=>.eQ (q∈[x,y,z]) (.ret (.int (ZT x y z q:Nat)))
  | _=>.fail
 | _=>.fail
def Zl{K:Ab}{w:W PV}{n:Str}{ad:ce}(hK:X.K=K)(he:EF X K fs e w)(hm:X.mg n=ap (.ref ad))(T:RZ K ad ts)(hg:Gl X n:=by rfl)(hd:jh n:=by decide)
  (eK:pr (.Name n p) "index" X.env (lf (.Name n p) X.env)=lf (.Name n p) X.env:=by rfl)
  (pS:ZL X bP [e]:=by rfl)
  (eJ:Sl Â bP:=by rfl) (rk:gZ X e []:=by rfl) (fe:lF X bP []:=by rfl) :
  EF X K fs (.Call (.Attribute (.Name n p) "index" Â) [e] [] bP) (.bind w (QD ts)):=
 ⟨PE.imp (si K hK PySem.F.plainAttrs_tuple PySem.F.slot_tuple_index PySem.F.type_tuple_index (T7 K hK) (qX hg hm (v:=.ref ad) rfl hd) (aW he.p bO rk) eK pS eJ rk fe) λσ H Q ⟨sr,q⟩=>
  ⟨.inr (.inl ⟨rfl,T.tn⟩),sr,w.mono (λx q2 u2 H2 g2 s2 v2=>by
   cases v2 <;> first | exact q2.elim | skip
   match ts,T,q2 with
   | [x,y,z],T,q2=>exact⟨ad,x,y,z,_,rfl,rfl,.inr T.ex,q2.1,q2.2 _ H2 g2 s2 (.int _)⟩
   | [],_,q2=>exact q2.elim
   | [_],_,q2=>exact q2.elim
   | [_,_],_,q2=>exact q2.elim
   | _::_::_::_::_,_,q2=>exact q2.elim) q⟩⟩
section
variable{K:Ab}
def wW(l:O PV):PV->W (O PV×PV)
 | .int k=>.bind (.Ld (vF l.length k)) λj=>.bind (.Ld l[j]?) λv=>.eQ (l.length<=sizeLine) (.ret (l.eraseIdx j,v))
 | _=>.fail
theorem ay.erase:∀{ws:O V}{l:O PV} (j:Nat),ay K [] H ws l->ay K [] H (ws.eraseIdx j) (l.eraseIdx j)
 | _,_,_,.nil=>by simp only[List.eraseIdx_nil];exact .nil
 | _,_,0,.cons _ t=>t
 | _,_,j+1,.cons r t=>by rw[Cw,Cw];exact .cons r (ay.erase j t)
section
variable{rest:O ss}{T:Type}{out:T->End}{x:Bool}
theorem SF.afx(i j:Nat){k:O PV×PV->W T}(hs:fs[i]?=ap (ap (.ol q0 l)))(ú:j≠i)(hK:X.K=K)(hN:X.N[i]?=ap y)(hv:zx X.env.scope y)(Ń:X.N.Nodup)(hj:X.N[j]?=ap z)(hx:Loc X.env.scope z)(he:EF X K fs e we)(hr:∀t:O PV×PV,SF X K x ((fs.set i (ap (.ol q0 t.1))).set j (ap (.val t.2))) rest (k t) out)
  (hd:jh y:=by decide) (jc:HI y:=by decide) (eK:pr (.Name y p) "pop" X.env (lf (.Name y p) X.env)=lf (.Name y p) X.env:=by rfl)
  (pS:ZL X bP [e]:=by rfl)
  (eJ:Sl Â bP:=by rfl) (rk:gZ X e []:=by rfl) (fe:lF X bP []:=by rfl)
  (oo:lc (.Call (.Attribute (.Name y p) "pop" Â) [e] [] bP) (ap (.Name z p')) pos.line X.env=pure false:=by rfl) (hf:Oc X z:=by first | exact .inl rfl | exact .inr rfl | assumption) :
  SF X K x fs (.Assign [.Name z p'] (.Call (.Attribute (.Name y p) "pop" Â) [e] [] bP) pos::rest) (.bind we λn=>.bind (wW l n) k) out:=
 SF.step (sf Ń hj hx (si K hK B6 Fi Fh PY (d9 hN hv hd jc) (aW he.p bO rk) eK pS eJ rk fe) oo hf) λD σ H ⟨sr,q⟩=>by
  obtain⟨a,ws,e1,h1,r1⟩:=du sr hs;refine⟨_,e1,.inl ⟨rfl,_,c6.of h1⟩,sr,we.mono (λn q1 u H1 g1 s1 v1=>?_) q⟩;obtain⟨a',rK,qN,gR,ux⟩:=du s1 hs;rw[e1]at qN;cases qN;cases v1 with
  | int kk=>
   have q1:(am (.Ld (vF l.length kk)) λj=>.bind (.Ld l[j]?) λv=>.eQ (l.length<=sizeLine) (.ret (l.eraseIdx j,v))).run λt=>(k t).run λt=>bQ K x σ fs H D (out t):=q1;cases hx:vF l.length kk with
   | none=>rw[hx]at q1;exact q1.elim
   | some m=>
   cases hv:l[m]? with
   | none=>rw[hx]at q1;simp only[wS,ii,hv]at q1;exact q1.elim
   | some v=>
   rw[hx]at q1;simp only[wS,ii,hv]at q1;obtain⟨hz,q1⟩:=q1;obtain⟨uu,hu,ru⟩:=ux.get hv;obtain⟨h3,h4,h5,h6⟩:=xI hx;have h9:(sizeLine:Int) < 2 ^ 63:=by decide
   refine⟨a,rK,kk,m,uu,rfl,rfl,gR,by omega,by omega,by rw[ux.length];exact h3,hu,?_⟩;have sx:oW a H1 (upd H1 a (.lst (rK.eraseIdx m))):=λz o n hz=>by rw[aq n];exact hz
   obtain⟨s2,g2⟩:=eY (t':=.ol q0 (l.eraseIdx m)) s1 hs rfl (by simp) e1 sx λtk=>⟨λb hb=>by
    subst hb;obtain⟨u,e2,⟨v,e,_⟩ | ⟨b',e,z,_⟩⟩:=s1.at' i _ hs
    ·cases e
    ·rw[e2]at e1;cases e1;cases e;exact z b rfl,_,aM,ay.tk tk (ay.erase m ux)⟩
   have s3:=s2.fy (g2.vr s1 ru) j;exact⟨_,k _,hr (l.eraseIdx m,v),s3,(k _).mono (λt q2=>q2.go ((g1.f.trans g2).trans (cM.fy s2 _ _ j)) sr s3) q1⟩
  | _=>exact q1.elim
end
end
section
variable{K:Ab}
def zT(kvs:O (O Key×PV))(k:O Key)(v:PV):O (O Key×PV):=
 if (kvs.any λkv=>decide (kv.1=k)) then kvs.map λkv=>if kv.1=k then (kv.1,v) else kv else kvs++[(k,v)]
section
theorem bT.ind{C:O (O Key×V)->O (O Key×PV)->Prop}(h0:C [] [])(h1:∀(p:O Key×V) (q:O Key×PV) vs kvs,p.1=q.1->VR K [] H p.2 q.2->bT K H vs kvs->C vs kvs->C (p::vs) (q::kvs)):∀{vs kvs},bT K H vs kvs->C vs kvs
 | [],[],_=>h0
 | [],_::_,h=>by simp[bT]at h
 | _::_,[],h=>by simp[bT]at h
 | p::vs,q::kvs,⟨a,b⟩=>by
  rw[Ap,Ap]at a b;injection a with a1 a2;cases b with
  | cons r t=>exact h1 p q vs kvs a1 r ⟨a2,t⟩ (bT.ind h0 h1 ⟨a2,t⟩)
def bT.mk'{p:O Key×V}{q:O Key×PV}{vs kvs}(e:p.1=q.1)(r:VR K [] H p.2 q.2)(h:bT K H vs kvs):bT K H (p::vs) (q::kvs):=⟨by rw[Ap,Ap,e,h.1],.cons r h.2⟩
def bT.put{vs:O (O Key×V)}(h:bT K H vs kvs)(k:O Key)(r:VR K [] H u v):bT K H (putK vs k u) (zT kvs k v):=by
 have hh:(vs.any λkv=>decide (kv.1=k))=kvs.any λkv=>decide (kv.1=k):=bT.ind (C:=λvs kvs=>(vs.any λkv=>decide (kv.1=k))=kvs.any λkv=>decide (kv.1=k)) rfl (λp q vs kvs e _ _ ih=>by rw[BA,BA,ih,e]) h;unfold putK zT;rw[hh]
 split
 ·refine bT.ind (C:=λvs kvs=>bT K H (vs.map λkv=>if kv.1=k then (kv.1,u) else kv) (kvs.map λkv=>if kv.1=k then (kv.1,v) else kv)) ⟨rfl,.nil⟩ (λp q vs kvs e rr _ ih=>?_) h;rw[Ap,Ap];by_cases c:p.1=k
  ·rw[if_pos c,if_pos (e▸c)];exact bT.mk' e r ih
  ·rw[if_neg c,if_neg (e▸c)];exact bT.mk' e rr ih
 ·exact bT.ind (C:=λvs kvs=>bT K H (vs++[(k,u)]) (kvs++[(k,v)])) ⟨rfl,.cons r .nil⟩ (λp q vs kvs e rr _ ih=>bT.mk' e rr ih) h
end
section
variable{a ei:kw}{rest:O ss}{T:Type}{out:T->End}{x:Bool}
def qY(sr:aU K H σ fs)(hs:fs[i]?=ap (ap (.ot kvs))):∃a vs,σ[i]?=ap (ap (.ref a))/\H a=ap (.dT vs)/\bT K H vs kvs:=by
 obtain⟨u,e1,⟨v,e,_⟩ | ⟨a,e,vs,q⟩⟩:=sr.at' i _ hs
 ·cases e
 ·subst e;exact⟨a,vs,e1,q⟩
def SF.aaW{k:W T}(hN:X.N.Nodup)(hi:X.N[i]?=ap y)(hx:Loc X.env.scope y)(hr:SF X K x (fs.set i (ap (.ot []))) rest k out)(hs:lc (.Dict [] [] p2) (ap (.Name y p')) pos.line X.env=pure false:=by rfl)
  (hf:Oc X y:=by first | exact .inl rfl | exact .inr rfl | assumption):SF X K x fs (.Assign [.Name y p'] (.Dict [] [] p2) pos::rest) k out:=SF.step (sf hN hi hx Px hs hf) λD σ H ⟨sr,q⟩=>λa n1=>by
 have s1:=gF n1 (.dT []);have no:=sr.noOwn n1;have s2:=(sr.same s1).wQ (t:=.ot []) ⟨[],aM,rfl,.nil⟩ no i;exact⟨_,k,hr,s2,k.mono (λt q2=>q2.go (cM.wQ (sr.same s1) (cM.same s1 sr) no n1 i) sr s2) q⟩
def abY:PV->Option Key
 | .int i=>ap (.inl i)
 | .str s=>ap (.inr s)
 | _=>bm
def sS:O PV->Option (O Key)
 | []=>ap []
 | p::l=>(abY p).bind λk=>(sS l).bind λks=>ap (k::ks)
def Lr:PV->W (O Key)
 | .tup l=>.Ld (sS l)
 | _=>.fail
theorem vA:∀{l:O PV}{ks:O Key},sS l=ap ks->l=ks.map kP
 | [],ks,h=>by cases h;rfl
 | p::l,ks,h=>by
  unfold sS at h;cases e:abY p with
  | none=>rw[e]at h;cases h
  | some k=>
  cases e2:sS l with
  | none=>rw[e,e2]at h;cases h
  | some ks'=>
  rw[e,e2]at h;cases h;rw[vA e2];cases p <;> first | cases e | skip
  all_goals rfl
def Qh{Q:O Key->Prop}(r:VR K [] H u v)(q:(Lr v).run Q):∃b k,u=.ref b/\H b=ap (.tup (k.map kV))/\Q k:=by
 cases r with
 | @tup b vs l e rs=>
  have q:(W.Ld (sS l)).run Q:=q;cases h:sS l with
  | none=>rw[h]at q;exact q.elim
  | some k=>
   rw[h]at q;rw[vA h]at rs;rw[GJ rs]at e;exact⟨b,k,rfl,e,q⟩
 | _=>exact q.elim
theorem ag1(i:Nat)(hs:fs[i]?=ap (ap (.ot kvs)))(hu:X.A.units+200 < pc)(ha:EF X K fs a wa)(hN:X.N[i]?=ap y:=by rfl)(hv:zx X.env.scope y:=by first | exact C1 rfl | exact Cq (C1 rfl) | exact Cq (Cq rfl))(hd:jh y:=by decide)(jc:HI y:=by decide)(hsl:Vx a) :
  EF X K fs (.Subscript (.Name y p) a pos) (.bind wa λx=>.bind (Lr x) λk=>.Ld (cR kvs k)):=⟨PE.imp (K4 ∅ (d9 hN hv hd jc) ha.p hsl) λσ H Q ⟨sr,q⟩=>by
 obtain⟨a,vs,e1,h1,r1⟩:=qY sr hs;refine⟨_,e1,sr,wa.mono (λv q1 u H1 g1 s1 v1=>?_) q⟩;obtain⟨b,k,rfl,eb,q2⟩:=Qh v1 q1;have q2:(W.Ld (cR kvs k)).run _:=q2;obtain⟨a',N3,qN,gR,ux⟩:=qY s1 hs;rw[e1]at qN;cases qN;cases hg:cR kvs k with
 | none=>rw[hg]at q2;exact q2.elim
 | some z=>
  rw[hg]at q2;obtain⟨u,k1,k2⟩:=ux.get.2 hg;exact⟨a,u,rfl,by rw[<- k1];exact Km.t gR eb,q2 u H1 g1 s1 k2⟩⟩
def Pe(kvs:O (O Key×PV))(n v:PV):W (O (O Key×PV)):=.bind (Lr n) λkk=>.eQ (kvs.length < sizeLine) (.ret (zT kvs kk v))
theorem SF.zT(i:Nat){k:O (O Key×PV)->W T}(hs:fs[i]?=ap (ap (.ot kvs)))(hu:X.A.units+200 < pc)(hN:X.N[i]?=ap y)(hv:zx X.env.scope y)(he:EF X K fs e we)(hi:EF X K fs ei wi)(hr:∀l',SF X K x (fs.set i (ap (.ot l'))) rest (k l') out)
  (hd:jh y:=by decide) (jc:HI y:=by decide) (oo:lc e (ap (.Subscript (.Name y p) ei wz)) pos.line X.env=pure false:=by rfl) :
  SF X K x fs (.Assign [.Subscript (.Name y p) ei wz] e pos::rest) (.bind we λv=>.bind wi λn=>.bind (Pe kvs n v) k) out:=
 SF.step (Tb ∅ (d9 hN hv hd jc) hi.p he.p oo) λD σ H ⟨sr,q⟩=>by
  refine⟨sr,we.mono (λv q1 u H1 g1 s1 v1=>?_) q⟩;obtain⟨a,vs,e1,h1,r1⟩:=qY s1 hs;refine⟨_,e1,s1,wi.mono (λn q2 u2 H2 g2 s2 v2=>?_) q1⟩;obtain⟨b,kk,rfl,eb,hz,q3⟩:=Qh v2 q2;obtain⟨a',N3,qN,gR,ux⟩:=qY s2 hs;rw[e1]at qN;cases qN;have len:N3.length=kvs.length:=by have:=congrArg BR ux.1;simpa using this
  refine⟨a,_,rfl,R5.t gR eb (by rw[len];exact hz),?_⟩;have sx:oW a H2 (upd H2 a (.dT (putK N3 kk u))):=λz o n hz=>by rw[aq n];exact hz
  have rp:=ux.put kk (g2.vr s1 v1);obtain⟨s3,g3⟩:=eY (t':=.ot (FL.zT kvs kk v)) s2 hs rfl (by simp) e1 sx λtk=>⟨_,aM,rp.1,ay.tk tk rp.2⟩;exact⟨_,k _,hr _,s3,(k _).mono (λt q4=>q4.go ((g1.trans g2).f.trans g3) sr s3) q3⟩
end
end
def isL:PV->Bool
 | .cl _=>true
 | _=>false
def YC(x:PV):W PV:=match x with
 | .ref _=>.fail
 | .ty _=>.fail
 | x=>.ret (.bl (isL x))
def ac2{K:Ab}{a:kw}(hK:X.K=K)(hg:Gl X "isinstance")(hm:X.mg "isinstance"=bm)(ha:EF X K fs a wa)(ļ:Gl X "list")(Ĺ:X.mg "list"=bm)
  (he:ga [a,.Name "list" p2] X.env=(false,lf a X.env)::ga [.Name "list" p2] X.env:=by rfl) (UO:ga [FV "list" p2] X.env=(false,lf (.Name "list" p2) X.env)::ga [] X.env:=by rfl)
  (c9:(ut pos (ga [FV "list" p2] X.env)).any (·.1)=false:=by rfl):EF X K fs (.Call (.Name "isinstance" p) [a,.Name "list" p2] [] pos) (.bind wa YC):=
 ⟨PE.imp (dD (vS hK) hg hm boot_isinstance (aW ha.p (aW (K6 (v:=.ty "list") ļ Ĺ boot_list rfl ⋯ ⋯) bO UO) he) ⋯ ⋯ he c9) λσ H Q ⟨sr,q⟩=>⟨sr,wa.mono (λx q1 u1 H1 g1 s1 v1=>by
  have fin:∀{t:bn}{b:Bool},lB K H1 u1 t->Bo K t (.type "list")=ap b->Q (.bl b) H1->O9 K [u1,.ty "list"] H1 Q:=λty e q=>⟨_,_,_,_,rfl,.inl ty,e,q⟩;cases v1 with
  | ax=>exact fin (b:=false) .ax (by kernel_rfl) (q1 _ H1 g1 s1 (.bl _))
  | bl b=>exact fin (b:=false) (.bl b) (by kernel_rfl) (q1 _ H1 g1 s1 (.bl _))
  | int b=>exact fin (b:=false) (.int b) (by kernel_rfl) (q1 _ H1 g1 s1 (.bl _))
  | str b=>exact fin (b:=false) (.str b) (by kernel_rfl) (q1 _ H1 g1 s1 (.bl _))
  | ty n=>exact q1.elim
  | ref n=>exact q1.elim
  | @dk a o kvs ks l e k1 r=>exact⟨_,_,_,false,rfl,.inr (.inr (.inr ⟨rfl,_,rfl,.inl ⟨_,.inr ⟨_,e⟩⟩⟩)),(by kernel_rfl),q1 _ H1 g1 s1 (.bl _)⟩
  | @dt a o kvs ks l e k1 r=>exact⟨_,_,_,false,rfl,.inr (.inr (.inr ⟨rfl,_,rfl,.inr ⟨_,.inr ⟨_,e⟩⟩⟩)),(by kernel_rfl),q1 _ H1 g1 s1 (.bl _)⟩
  | @cl p vs l e r=>exact⟨_,_,_,true,rfl,.inr (.inr (.inl ⟨rfl,_,_,rfl,e.sq⟩)),(by kernel_rfl),q1 _ H1 g1 s1 (.bl _)⟩
  | @tup p vs l e r=>exact⟨_,_,_,false,rfl,.inr (.inl ⟨rfl,_,_,rfl,dj.of e⟩),(by kernel_rfl),q1 _ H1 g1 s1 (.bl _)⟩) q⟩⟩
section
variable{K:Ab}
mutual
def PV.dU:PV->Bool
 | .tup l=>kl l
 | .cl l=>kl l
 | .ref _=>false
 | .ty _=>false
 | .dv ks vs=>ks.isEmpty&&vs.isEmpty
 | _=>true
def kl:O PV->Bool
 | []=>true
 | x::l=>PV.dU x&&kl l
end
theorem vL:∀{l:O PV}{j:Nat}{x:PV},kl l=true->l[j]?=ap x->PV.dU x=true
 | [],_,_,_,e=>by simp at e
 | y::l,0,x,h,e=>by
  simp at e;subst e;rw[kl,Aw]at h;exact h.1
 | y::l,j+1,x,h,e=>by
  rw[kl,Aw]at h;exact vL h.2 (by simpa using e)
def Kn:∀{v:O V},ay K ι H v []->ay K [] H v []
 | _,.nil=>.nil
mutual
theorem VR.mG{ι:O ce}{H:Hp}:∀{v:V}{q:PV},VR K ι H v q->PV.dU q=true->VR K [] H v q
 | _,_,.ax,_=>.ax
 | _,_,.bl b,_=>.bl b
 | _,_,.int i,_=>.int i
 | _,_,.str x,_=>.str x
 | _,_,.ty n,h=>by rw[PV.dU]at h;cases h
 | _,_,.dk e k r,h=>by
  rw[PV.dU,Aw,Cv,Cv]at h;refine .dk e k ?_;rw[h.2]at r ⊢;exact Kn r
 | _,_,.dt e k r,h=>by
  rw[PV.dU,Aw,Cv,Cv]at h;refine .dt e k ?_;rw[h.2]at r ⊢;exact Kn r
 | _,_,.tup e r,h=>.tup e (ay.mG r (by rw[PV.dU]at h;exact h))
 | _,_,.cl e r,h=>.cl e (ay.mG r (by rw[PV.dU]at h;exact h))
 | _,_,.ref e,h=>by rw[PV.dU]at h;cases h
theorem ay.mG{ι:O ce}{H:Hp}:∀{v:O V}{q:O PV},ay K ι H v q->kl q=true->ay K [] H v q
 | _,_,.nil,_=>.nil
 | _,_,.cons r s,h=>by
  rw[kl,Aw]at h;exact .cons (VR.mG r h.1) (ay.mG s h.2)
end
section
def Kl(s:cr)(a:ce):Prop:=(a==re)=false/\∃o ep,s.heap.get? a=ap o/\o.ExactDict/\o.data=.dict #[] ep
def Kl.of[DecidableEq T]{knd:KeyKind P w T}{vs:O (T×bn)}(h0:(a==re)=false)(h:s.heap.DictOf knd a vs)(hv:vs=[]):Kl s a:=by
 subst hv;obtain⟨o,es,ep,h1,h2,h3,_,h4,_⟩:=h;have:es=#[]:=by
  have:=h4.length;apply Array.eq_empty_of_size_eq_zero;simpa using this
 subst this;exact⟨h0,o,ep,h1,h2,h3⟩
def Kl.d(h:Kl s a)(prog:sw)(w:tz):s.heap.DictOf (bG prog w) a ([]:O (Key×bn)):=by
 obtain⟨_,o,ep,h1,h2,h3⟩:=h;exact⟨o,#[],ep,h1,h2,h3,λe h=>by simp at h,.nil,.nil⟩
def U2{b:ce}(ha:Kl s a)(hb:Kl s b)(hu:A.units < pc):Cmp A s (.ref a) (.ref b) true:=by
 have q1:FN A s (.ref a) (.ref b) true:=λprog w E Q h=>PySem.W.keq_eq (r:=true) ha.1 hb.1 (ha.d prog w) (hb.d prog w) hu (λ_=>.nil) h;have q2:FP A s (.ref a) (.ref b) (!true):=λprog w E Q h=>PySem.W.keq_ne (r:=true) ha.1 hb.1 (ha.d prog w) (hb.d prog w) hu (λ_=>.nil) h;refine⟨q1,q2,?_⟩;by_cases GK:a=b
 ·rw[GK];exact DQ _
 ·exact Dg GK q1
def Rp(I:Inv X Z σ H s){v:V}{w:bn}(h:VR X.K [] H v (.dv [] []))(r:RelV v w):∃a,w=.ref a/\Kl s a:=by
 cases h with
 | @dk a o kvs ks l e k q=>
  cases r;obtain⟨_,h0,vs,kv,h1⟩:=tT I.br (.inr ⟨_,e⟩);refine⟨_,rfl,.of h0 h1 ?_⟩;cases kvs with
  | nil=>cases kv;rfl
  | cons a l=>cases q
 | @dt a o kvs ks l e k q=>
  cases r;obtain⟨_,h0,vs,kv,o,es,ep,h1,h2,h3,h4,_⟩:=tS I.br (.inr ⟨_,e⟩);cases kvs with
  | nil=>
   cases kv;have:es=#[]:=by simpa using h4
   subst this;exact⟨_,rfl,h0,o,ep,h1,h2,h3⟩
  | cons a l=>cases q
theorem ag3(hK:X.K=K)(I:Inv X Z σ H s):∀(n:Nat) (x:PV) (A:u8) (v v':V) (w w':bn),PV.cy x<=n->PV.dU x=true->VR K [] H v x->VR K [] H v' x->RelV v w->RelV v' w'->A.units+n+1 < pc->Cmp A s w w' true:=by
 subst hK;intro n
 induction n using Cn with
 | ind n ih=>
 intro x A v v' w w' hd dx hv YM r1 r2 hu;have Û:PV.fq x=true->Cmp A s w w' true:=λf=>by
  have:=Ve rfl I n x x A v v' w w' hd f f hv YM r1 r2 hu
  rwa [G1 x f]at this
 have el:∀{l:O PV}{vs ws:O V}{ao bS:O bn},kl l=true->cK l < n->Vals vs ao->Vals ws bS->ay X.K [] H vs l->ay X.K [] H ws l->ao.toArray.size=l.length/\bS.toArray.size=l.length/\∀j (g1:j < ao.toArray.size) (g2:j < bS.toArray.size),CY A.in1 s ao.toArray[j] bS.toArray[j] ((λ_=>true) j):=λ{l vs ws ao bS} d1 hd k1 k2 r r'=>by
  refine⟨by rw[Ah,<- k1.length,r.length],by rw[Ah,<- k2.length,r'.length],λj g1 g2=>?_⟩;have h1:j < ao.length:=by simpa using g1
  have h2:j < bS.length:=by simpa using g2
  have hl:j < l.length:=by rw[<- r.length,k1.length];exact h1
  obtain⟨v,v1,v2⟩:=r.get (Ad hl);obtain⟨v',Su,ģ⟩:=r'.get (Ad hl);obtain⟨u,u1,u2⟩:=k1.get v1;obtain⟨u',â,Ĥ⟩:=k2.get Su;rw[Ad h1]at u1;rw[Ad h2]at â;cases u1;cases â;have hg:l[j]?=ap l[j]:=Ad hl;simpa using (ih _ hd l[j] A.in1 v v' _ _ (pW hg) (vL d1 hg) v2 ģ u2 Ĥ (by have:A.in1.units=A.units+1:=rfl;omega)).eq
 have all:∀m:Nat,(AL m).all (λ_=>true)=true:=λm=>by simp
 have fin:∀{pa pb:ce},FN A s (.ref pa) (.ref pb) true->CY A s (.ref pa) (.ref pb) true:=λ{pa pb} q=>by
  by_cases GK:pa=pb
  ·rw[GK];exact DQ _
  ·exact Dg GK q
 match x with
 | .ax=>exact Û rfl
 | .bl _=>exact Û rfl
 | .int _=>exact Û rfl
 | .str _=>exact Û rfl
 | .ref _=>cases dx
 | .ty _=>cases dx
 | .dv ks vs=>
  rw[PV.dU,Aw,Cv,Cv]at dx;obtain⟨rfl,rfl⟩:=dx;obtain⟨a,rfl,ha⟩:=Rp I hv r1;obtain⟨b,rfl,hb⟩:=Rp I YM r2;exact U2 ha hb ∅
 | .tup l=>
  rw[PV.cy]at hd;rw[PV.dU]at dx;cases hv with
  | tup e q=>
  cases YM with
  | tup e' q'=>
  cases r1;cases r2;obtain⟨ao,k,ht,_⟩:=I.tuple (dj.of e);obtain⟨bS,k2,zv,_⟩:=I.tuple (dj.of e');obtain⟨z1,z2,ie⟩:=el dx ∅ k k2 q q';have q1:=Et ht zv (A:=A) ∅ ie;have q2:=FE ht zv (A:=A) ∅ ie;rw[z1,z2,all,beq_self_eq_true]at q1 q2;exact⟨q1,q2,fin q1⟩
 | .cl l=>
  rw[PV.cy]at hd;rw[PV.dU]at dx;cases hv with
  | cl e q=>
  cases YM with
  | cl e' q'=>
  cases r1;cases r2;obtain⟨ao,k,pl,_⟩:=I.list e.sq;obtain⟨bS,k2,VT,_⟩:=I.list e'.sq;obtain⟨z1,z2,ie⟩:=el dx ∅ k k2 q q';have q1:=EG pl.isList VT.isList (by rw[z1,z2]) (A:=A) ∅ ie;have q2:=D9 pl.isList VT.isList (by rw[z1,z2]) (A:=A) ∅ ie;rw[z1,all]at q1 q2;exact⟨q1,q2,fin q1⟩
end
def T4(x y:PV):Prop:=x=y/\PV.dU x=true/\PV.cy x<=150
def X8:M2:=⟨λx y h Q=>T4 x y/\Q (.bl false) h,λf q=>⟨q.1,f _ _ q.2⟩⟩
def afv(K:Ab):R2:=λu v H Q=>∃x y,VR K [] H u x/\VR K [] H v y/\T4 x y/\Q (.bl false) H
theorem Yz(hK:X.K=K)(hu:X.A.units+200 < pc):JC X K .NotEq b X8:=
 ⟨⟨afv K,λZ s σ H u v w w' Q I r1 r2 ⟨x,y,h1,h2,⟨o1,o2,o3⟩,q⟩=>by
  subst o1;exact Dl (ag3 hK I 150 x X.A u v w w' o3 o2 h1 h2 r1 r2 ∅).ne ⟨.bl _,H,I,rfl,q⟩,
  λ{ι H h u v x y Q} hr hu hv q=>⟨x,y,VR.mG hu q.1.2.1,VR.mG hv (q.1.1▸q.1.2.1),q.1,q.2 ι _ H (Go.refl _ _) hr (.bl _)⟩⟩,ju _⟩
@[simp] theorem Za{x y:PV}:of2 X8 x y=.eQ (T4 x y) (.ret (.bl false)):=v4 λQ=>⟨λq=>⟨q.1,q.2.2⟩,λq=>⟨q.1,rfl,q.2⟩⟩
end
def eW(ns:O Int):Prop:=∃g s c:Int,ns=[g,s,c]/\0<=g/\0<=s/\s < 2305843009213693951/\0<=c
def drawn(m:Int):W PV:=.any λv=>∃d:Int,v=.int d/\0<=d/\d < m
def bF:PV->W PV
 | .int m=>.eQ (0 < m/\m<=2000) (drawn m)
 | _=>.fail
end FL
variable{i j:Int}
namespace FL
def sj:of2 (aI g) (.int i) (.int j)=.ret (g i j):=v4 λQ=>⟨C6,λq=>⟨rfl,q⟩⟩
def qZ{C:Int->Int->Prop}:of2 (ZE C g) (.int i) (.int j)=.eQ (C i j) (.ret (g i j)):=v4 λQ=>⟨λq=>⟨q.1,q.2.2⟩,λq=>⟨q.1,rfl,q.2⟩⟩
section
variable(i j:Int)(a:Bool)(x y:PV)(l m:O PV)(s t:Str)
@[simp] theorem tH:of2 xa (.int i) (.int j)=.ret (.int (i-j)):=sj
@[simp] theorem Rb:of2 pC (.int i) (.int j)=.eQ (ww i j) (.ret (.int (i*j))):=qZ
@[simp] theorem agY:of2 oDiv (.int i) (.int j)=.eQ (N2 i j) (.ret (.int (i / j))):=qZ
@[simp] theorem Rc:of2 oMod (.int i) (.int j)=.eQ (0 < j) (.ret (.int (i % j))):=qZ
@[simp] theorem Jy:of2 MF (.int i) (.int j)=.eQ (NZ i j) (.ret (.int (i ^ j.toNat))):=qZ
@[simp] theorem LJ:of2 oLt (.int i) (.int j)=.ret (.bl (decide (i < j))):=sj
@[simp] theorem acT:of2 oLe (.int i) (.int j)=.ret (.bl (decide (i<=j))):=sj
@[simp] theorem aid:of2 oGt (.int i) (.int j)=.ret (.bl (decide (j < i))):=sj
@[simp] theorem acU:of2 oGe (.int i) (.int j)=.ret (.bl (decide (j<=i))):=sj
def tI:of2 fB x y=.eQ (JA x y) (.ret (.bl (km x y))):=v4 λQ=>⟨λq=>⟨q.1,q.2.2⟩,λq=>⟨q.1,rfl,q.2⟩⟩
def Wu:of2 Ga x y=.eQ (JA x y) (.ret (.bl (!km x y))):=v4 λQ=>⟨λq=>⟨q.1,q.2.2⟩,λq=>⟨q.1,rfl,q.2⟩⟩
@[simp] theorem kX:of2 nH x .ax=.ret (.bl x.dq):=v4 λQ=>⟨C6,λq=>⟨rfl,q⟩⟩
@[simp] theorem ael:of2 vj x .ax=.ret (.bl (!x.dq)):=v4 λQ=>⟨C6,λq=>⟨rfl,q⟩⟩
def Ze{c:Nat}(h:d4 s.cps.toList i=ap c):of2 PQ (.str s) (.int i)=.eQ (s.length<=sizeLine) (.ret (.str ⟨#[c]⟩)):=v4 λQ=>by
 show(s.length<=sizeLine/\match d4 s.cps.toList i with | some c=>_/\_ | none=>False)↔_;rw[h];exact⟨λq=>⟨q.1,q.2.2⟩,λq=>⟨q.1,rfl,q.2⟩⟩
@[simp] theorem dN:addW (.int i) (.int j)=.ret (.int (i+j)):=(rfl)
@[simp] theorem UZ:addW (.str s) (.str t)=.eQ (s.length+t.length<=sizeLine) (.ret (.str (s++t))):=(rfl)
@[simp] theorem yu:addW (.tup l) (.tup m)=.eQ (l.length+m.length<=sizeLine) (.ret (.tup (l++m))):=(rfl)
@[simp] theorem yp:IA (.int i)=.ret (.int (-i)):=(rfl)
@[simp] theorem bB:asB (.bl a)=.ret a:=(rfl)
@[simp] theorem Z9(w:W PV):RI (.bl true) w=w:=(rfl)
@[simp] theorem aaa(w:W PV):RI (.bl false) w=.ret (.bl false):=(rfl)
@[simp] theorem oC(w:W PV):Vp (.bl true) w=w:=(rfl)
@[simp] theorem aeA(w:W PV):Vp (.bl false) w=.ret (.bl false):=(rfl)
@[simp] theorem agU(w:W PV):orW (.bl true) w=.ret (.bl true):=(rfl)
@[simp] theorem agV(w:W PV):orW (.bl false) w=w:=(rfl)
@[simp] theorem agW:X9 (.bl a)=.ret (.bl (!a)):=(rfl)
@[simp] theorem bo:eU (.bl a)=.ret a:=(rfl)
@[simp] theorem aej:eU (.int i)=.ret (i != 0):=(rfl)
@[simp] theorem aei:eU .ax=.ret false:=(rfl)
@[simp] theorem aeh:eU (.tup l)=.ret (!l.isEmpty):=(rfl)
@[simp] theorem aek:eU (.cl l)=.ret (!l.isEmpty):=(rfl)
@[simp] theorem aD:aA (.tup l)=.ret l:=(rfl)
@[simp] theorem bp:aA (.cl l)=.ret l:=(rfl)
@[simp] theorem eL:nT (.cl l)=.ret l:=(rfl)
@[simp] theorem cF:Wb l (.int i)=.Ld (d4 l i):=(rfl)
@[simp] theorem yq:Gu l=.ret (.int l.length):=(rfl)
@[simp] theorem Q8:kq l=.ret (.tup l):=(rfl)
@[simp] theorem yo:part (.int i)=.ret (ap i):=(rfl)
@[simp] theorem kW:uj (.tup [x,y])=.ret (x,y):=(rfl)
@[simp] theorem Q7(z u:PV):un4 (.tup [x,y,z,u])=.ret (x,y,z,u):=(rfl)
@[simp] theorem aew(k:Kd):cG k (.int i)=.ret (.bl (k.is (.int i))):=(rfl)
@[simp] theorem yt(k:Kd):cG k (.str s)=.ret (.bl (k.is (.str s))):=(rfl)
@[simp] theorem eM(k:Kd):cG k (.tup l)=.ret (.bl (k.is (.tup l))):=(rfl)
@[simp] theorem aex(k:Kd):cG k (.cl l)=.ret (.bl (k.is (.cl l))):=(rfl)
@[simp] theorem aey(k:Kd):cG k (.bl a)=.ret (.bl (k.is (.bl a))):=(rfl)
@[simp] theorem aev(k:Kd):cG k .ax=.ret (.bl (k.is .ax)):=(rfl)
@[simp] theorem df:mX cn [.tup l]=.ret (.int l.length):=v4 λQ=>⟨C6,λq=>⟨rfl,q⟩⟩
@[simp] theorem dh:mX cn [.cl l]=.ret (.int l.length):=v4 λQ=>⟨C6,λq=>⟨rfl,q⟩⟩
@[simp] theorem aem:mX cn [.str s]=.eQ (s.length<=sizeLine) (.ret (.int s.length)):=v4 λQ=>⟨λq=>⟨q.1,q.2.2⟩,λq=>⟨q.1,rfl,q.2⟩⟩
@[simp] theorem Zf:mX Hq [.int i]=.ret (.int (if i < 0 then -i else i)):=v4 λQ=>⟨C6,λq=>⟨rfl,q⟩⟩
@[simp] theorem aez:mX J5 [.int i]=.ret (.int i):=v4 λQ=>⟨C6,λq=>⟨rfl,q⟩⟩
@[simp] theorem UY:mX J5 [.bl a]=.ret (.int (if a then 1 else 0)):=v4 λQ=>⟨C6,λq=>⟨rfl,q⟩⟩
@[simp] theorem Zd:mX NT [.int i,.int j]=.ret (.int (if j > i then j else i)):=v4 λQ=>⟨C6,λq=>⟨rfl,q⟩⟩
@[simp] theorem Zc:mX NS [.int i,.int j]=.ret (.int (if j < i then j else i)):=v4 λQ=>⟨C6,λq=>⟨rfl,q⟩⟩
@[simp] theorem Q9(p q:Option Int):Ii (.tup l) p q=.ret (.tup (ly l p q)):=(rfl)
@[simp] theorem UW:OP (.tup l) bm bm (ap (-1))=.ret (.tup l.reverse):=mo ⟨rfl,rfl,rfl⟩
@[simp] theorem cV:fx (.int j)=.eQ (okN 0 j) (.ret (jb 0 j.toNat)):=(rfl)
@[simp] theorem UX(k:Int):O2 (.int i) (.int j) (.int k)=.eQ (k = -1/\okN j i) (.ret (qv i (i-j).toNat)):=(rfl)
@[simp] theorem Y9:zZ (l++[x])=.ret (l,x):=by unfold zZ;simp
@[simp] theorem Y8:S2 l (.int i)=.eQ (-(2 ^ 63)<=i/\i < 2 ^ 63/\l.length*i.toNat<=sizeLine) (.ret (An i.toNat l).flatten):=(rfl)
@[simp] theorem aer:Kd.is .int (.int i)=true:=(rfl)
@[simp] theorem aes:Kd.is .int (.bl a)=true:=(rfl)
@[simp] theorem aeu:Kd.is .bool (.bl a)=true:=(rfl)
@[simp] theorem aet:Kd.is .bool (.int i)=false:=(rfl)
@[simp] theorem yr:Kd.is .str (.str s)=true:=(rfl)
@[simp] theorem lS:Kd.is .str (.tup l)=false:=(rfl)
@[simp] theorem aeq:Kd.is .str (.int i)=false:=(rfl)
@[simp] theorem oB:Kd.is .tup (.tup l)=true:=(rfl)
@[simp] theorem aen:Kd.is .tup (.str s)=false:=(rfl)
@[simp] theorem aeo:Kd.is .tup (.int i)=false:=(rfl)
@[simp] theorem aep:Kd.is .tup (.bl a)=false:=(rfl)
@[simp] theorem cI(h0:0 < i)(h1:i<=2000):bF (.int i)=drawn i:=mo ⟨h0,h1⟩
def bg{m:Int}(h:∀d:Int,0<=d->d < m->Q (.int d)):(drawn m).run Q:=λv ⟨d,e,h0,h1⟩=>e▸h d h0 h1
end
namespace W
variable{α β:Type}
def le(a b:W α):Prop:=∀Q,b.run Q->a.run Q
def le.refl(a:W α):a.le a:=λ_ h=>h
def le.of_eq{a b:W α}(h:a=b):a.le b:=h▸le.refl a
def le.ret{a:W α}{v:α}{f:α->W β}{b:W β}(h:a.le (.ret v))(hf:(f v).le b):(a.bind f).le b:=λQ q=>h _ (hf Q q)
def le.use{a:W α}{v:α}{Q:α->Prop}(h:a.le (.ret v))(q:Q v):a.run Q:=h _ q
end W
section
variable{S R:Type}
@[simp] theorem acJ(s:S)(f:PV->S->W S):cA [] s f=.ret s:=(rfl)
@[simp] theorem Z3(x:PV)(r:O PV)(s:S)(f:PV->S->W S):cA (x::r) s f=.bind (f x s) λs'=>cA r s' f:=(rfl)
theorem tF{f:PV->S->W S}{Q:S->Prop}(I:O PV->S->Prop):∀{l:O PV}{s:S},I l s->(∀x r s,I (x::r) s->(f x s).run (I r))->(∀s,I [] s->Q s)->(cA l s f).run Q
 | [],s,h0,_,he=>he s h0
 | x::r,s,h0,hs,he=>(f x s).mono (λs' h=>tF I h hs he) (hs x r s h0)
theorem GZ{f:PV->S->W (Lp S R)}{Q:Lp S R->Prop}(I:O PV->S->Prop):∀{l:O PV}{s:S},I l s->(∀x r s,I (x::r) s->(f x s).run λo=>match o with | .go s'=>I r s' | .out t=>Q (.out t))->(∀s,I [] s->Q (.go s))->(FL.ma l s f).run Q
 | [],s,h0,_,he=>he s h0
 | x::r,s,h0,hs,he=>(f x s).mono (λo h=>match o,h with
  | .go s',h=>GZ I h hs he
  | .out t,h=>h) (hs x r s h0)
theorem gm{f:PV->S->W S}{Q:S->Prop}(I:Nat->S->Prop){s:S}(h0:I 0 s)(hs:∀(i:Nat) (x:PV) s,l[i]?=ap x->I i s->(f x s).run (I (i+1)))(he:∀s,I l.length s->Q s):(cA l s f).run Q:=by
 refine tF (λr s=>∃i,i<=l.length/\r=l.drop i/\I i s) ⟨0,A8 _,rfl,h0⟩ (λx r s ⟨i,hi,e,h⟩=>?_) (λs ⟨i,hi,e,h⟩=>?_)
 ·have ir:i < l.length:=by
   rcases Dn i l.length with h | h
   ·exact h
   ·rw[E1 h]at e;cases e
  rw[Bm ir]at e;injection e with e1 e2;subst e1;exact(f _ s).mono (λs' h'=>⟨i+1,ir,e2,h'⟩) (hs i _ s (Ad ir) h)
 ·have:i=l.length:=by
   have:=congrArg BR e;rw[Cu]at this;simp at this;omega
  subst this;exact he s h
theorem yk{f:PV->S->W (Lp S R)}{Q:Lp S R->Prop}(I:Nat->S->Prop){s:S}(h0:I 0 s)(hs:∀(i:Nat) (x:PV) s,l[i]?=ap x->I i s->(f x s).run λo=>match o with | .go s'=>I (i+1) s' | .out t=>Q (.out t))(he:∀s,I l.length s->Q (.go s)):(FL.ma l s f).run Q:=by
 refine GZ (λr s=>∃i,i<=l.length/\r=l.drop i/\I i s) ⟨0,A8 _,rfl,h0⟩ (λx r s ⟨i,hi,e,h⟩=>?_) (λs ⟨i,hi,e,h⟩=>?_)
 ·have ir:i < l.length:=by
   rcases Dn i l.length with h | h
   ·exact h
   ·rw[E1 h]at e;cases e
  rw[Bm ir]at e;injection e with e1 e2;subst e1;exact(f _ s).mono (λo h'=>match o,h' with
   | .go s',h'=>⟨i+1,ir,e2,h'⟩
   | .out t,h'=>h') (hs i _ s (Ad ir) h)
 ·have:i=l.length:=by
   have:=congrArg BR e;simp at this;omega
  subst this;exact he s h
def fH{f:PV->S->W S}{Q:S->Prop}(I:Nat->S->Prop){s:S}(h0:I 0 s)(hs:∀(i:Nat) s,i < n->I i s->(f (.int (i:Int)) s).run (I (i+1)))(he:∀s,I n s->Q s):(cA (jb 0 n) s f).run Q:=
 gm I h0 (λi x s hx h=>by obtain⟨hi,rfl⟩:=pR hx;rw[E2];exact hs i s hi h) (λs h=>he s (by rw[i9]at h;exact h))
def QX{f:PV->S->W (Lp S R)}{Q:Lp S R->Prop}(I:Nat->S->Prop){s:S}(h0:I 0 s)(hs:∀(i:Nat) s,i < n->I i s->(f (.int (i:Int)) s).run λo=>match o with | .go s'=>I (i+1) s' | .out t=>Q (.out t))(he:∀s,I n s->Q (.go s)):(FL.ma (jb 0 n) s f).run Q:=
 yk I h0 (λi x s hx h=>by obtain⟨hi,rfl⟩:=pR hx;rw[E2];exact hs i s hi h) (λs h=>he s (by rw[i9]at h;exact h))
theorem HX{c:S->W Bool}{b:S->W S}{Q:S->Prop}(I:Nat->S->Prop){s:S}(h0:I n s)(hs:∀n s,I n s->(c s).run λk=>if k=true then (b s).run (λs'=>∃m,m < n/\I m s') else Q s):(HY c b s).run Q:=by
 refine⟨n+1,?_⟩;have:∀k n s,n < k->I n s->(mC c b k s).run Q:=by
  intro k
  induction k with
  | zero=>intro n s h;omega
  | succ k ih=>
   intro n s hn h;refine(c s).mono (λz q=>?_) (hs n s h);cases z with
   | true=>exact(b s).mono (λs' ⟨m,hm,h'⟩=>ih m s' ∅ h') (show(b s).run _ from q)
   | false=>exact q
 exact this (n+1) n s ∅ h0
theorem jy{f:PV->W PV}{g:PV->PV}:∀{l:O PV},(∀x∈l,f x=.ret (g x))->a7 l f=.ret (l.map g)
 | [],_=>rfl
 | x::r,h=>by
  show am (f x) (λy=>am (a7 r f) λl=>bd (y::l))=_;rw[h x (.head _),jy λy hy=>h y (.tail _ hy)];rfl
theorem xn{g:PV->Option PV}:∀{l:O PV},(∀x∈l,f x=.ret (g x))->mq l f=.ret (l.filterMap g)
 | [],_=>rfl
 | x::r,h=>by
  show am (f x) (λo=>am (mq r f) λl=>bd (o.toList++l))=_;rw[h x (.head _),xn λy hy=>h y (.tail _ hy),A9];cases g x <;> rfl
@[simp] theorem oS(bs:O Bool):yX (bs.map PV.bl)=.ret (.bl (bs.all id)):=by unfold yX;rw[LZ];rfl
def all_map(f:PV->Bool)(l:O PV):yX (l.map λx=>.bl (f x))=.ret (.bl (l.all f)):=by
 have:(l.map λx=>PV.bl (f x))=(l.map f).map PV.bl:=by rw[Ay];rfl
 rw[this,oS,Dr];rfl
end
section
variable(i j:Int)(a b:Bool)(x y:PV)(l m:O PV)(s t:Str)
@[simp] theorem Wr:km (.int i) (.int j)=(i==j):=by rw[km]
@[simp] theorem Wq:km (.str s) (.str t)=(s==t):=by rw[km]
@[simp] theorem Wt:km (.bl a) (.bl b)=(a==b):=by rw[km]
@[simp] theorem Q3:km (.tup l) (.tup m)=dW l m:=by rw[km]
@[simp] theorem aia:km (.cl l) (.cl m)=dW l m:=by rw[km]
@[simp] theorem agS:dW [] []=true:=by rw[dW]
@[simp] theorem Q2:dW (x::l) (y::m)=(km x y&&dW l m):=by rw[dW]
@[simp] theorem aed:PV.fq (.int i)=true:=by rw[PV.fq] <;> simp
@[simp] theorem agR:PV.fq (.bl a)=true:=by rw[PV.fq] <;> simp
@[simp] theorem aeb:PV.fq (.str s)=true:=by rw[PV.fq] <;> simp
@[simp] theorem aec:PV.fq .ax=true:=by rw[PV.fq] <;> simp
@[simp] theorem aea:PV.fq (.tup l)=d5 l:=by rw[PV.fq]
@[simp] theorem agQ:PV.fq (.cl l)=d5 l:=by rw[PV.fq]
@[simp] theorem acL:d5 []=true:=by rw[d5]
@[simp] theorem Z4:d5 (x::l)=(PV.fq x&&d5 l):=by rw[d5]
@[simp] theorem acR:PV.cy (.int i)=0:=by rw[PV.cy] <;> simp
@[simp] theorem aeg:PV.cy (.bl a)=0:=by rw[PV.cy] <;> simp
@[simp] theorem acP:PV.cy (.str s)=0:=by rw[PV.cy] <;> simp
@[simp] theorem acQ:PV.cy .ax=0:=by rw[PV.cy] <;> simp
@[simp] theorem acO:PV.cy (.tup l)=cK l+1:=by rw[PV.cy]
@[simp] theorem aef:PV.cy (.cl l)=cK l+1:=by rw[PV.cy]
@[simp] theorem Z6:cK []=0:=by rw[cK]
@[simp] theorem Y6:cK (x::l)=max (PV.cy x) (cK l):=by rw[cK]
def G3:JA (.int i) (.int j):=⟨by simp,by simp,by simp⟩
@[simp] theorem fP:of2 fB (.int i) (.int j)=.ret (.bl (i==j)):=by rw[tI,mo (G3 i j),Wr]
@[simp] theorem Ra:of2 Ga (.int i) (.int j)=.ret (.bl (!(i==j))):=by rw[Wu,mo (G3 i j),Wr]
@[simp] theorem agX:of2 fB (.bl a) (.bl b)=.ret (.bl (a==b)):=by rw[tI,mo ⟨by simp,by simp,by simp⟩,Wt]
@[simp] theorem Zb:of2 Ga (.bl a) (.bl b)=.ret (.bl (!(a==b))):=by rw[Wu,mo ⟨by simp,by simp,by simp⟩,Wt]
end
theorem gW:∀{l:O PV},d5 l=true↔∀x∈l,PV.fq x=true
 | []=>by simp
 | x::l=>by rw[d5,Aw,gW (l:=l)];simp
theorem gX:∀{l:O PV},(∀x∈l,PV.cy x<=n)->cK l<=n
 | [],_=>by simp
 | x::l,h=>by
  have h1:=h x (.head _);have h2:=gX (l:=l) λy hy=>h y (.tail _ hy);rw[cK];omega
structure EV where
 P:sw
 w:tz
 K:Ab
 mg:Str->Option bn
 base:lm
structure DF where
 x:Str
 s:ss
 ps:List Str
 k:Nat
 sp:Ab->Sp
abbrev DF.C(d:DF)(v:EV):=VC v.P v.w v.K v.mg v.base d.x d.k d.ps (d.sp v.K)
structure DI(v:EV)(d:DF) where
 f:ce
 fd:Fa
 fn:Sk v.K d.x d.x d.s f fd
 bi:Binds v.K fd d.ps []
 at':v.mg d.x=ap (.ref f)
abbrev DI.O{v:EV}{d:DF}(D:DI v d):Prop:=g8 v.P v.w v.K v.mg v.base ui d.k D.f D.fd d.ps (d.sp v.K)
def DI.c{v:EV}{d:DF}(D:DI v d)(h:D.O):d.C v:=⟨D.f,D.fd,h,D.bi,D.fn.kp,D.at'⟩
def DI.cN{v:EV}{d:DF}(D:DI v d)(h:g8 v.P v.w v.K v.mg v.base ui k D.f D.fd d.ps sp):VC v.P v.w v.K v.mg v.base d.x k d.ps sp:=⟨D.f,D.fd,h,D.bi,D.fn.kp,D.at'⟩
structure DX(K:Ab)(x:Str)(st:ss):Prop where
 ex:∃f fd,AG K f8 x=ap (ap (.ref f))/\Sk K x x st f fd
abbrev dnm(s:ss):Str:=match s with
 | .FunctionDef x _ _ _ _ _ _ _ _ _=>x
 | _=>""
def dx{K:Ab}{st:ss}{f:ce}{kV:bn}(a:AG K f8 x=ap (ap (.ref f)))(l:K.lookup f=ap ⟨oc,od,.func (BZ x x (ft st) (cX st) (aF st) .none kV Ç pm an fv ct),Sa⟩)
  (c:D7 K fv x=true) (k:D6 K (.ref f)=true):DX K x st:=⟨f,_,a,Y2 l c k⟩
def Y3{N P:O Str}(h1:sc.kind=.function:=by rfl)(h2:sc.isCoroutine=false:=by rfl)(h3:sc.isGenerator=false:=by rfl)(h4:N.Nodup:=by decide +kernel)(h5:N.take P.length=P:=by rfl)(h6:∀x∈P,sc.names.lookup x=ap .local\/sc.names.lookup x=ap .cell:=by decide +kernel)(h7:∀y∈sc.names,y.2≠.free:=by decide +kernel):cY N P sc:=⟨h1,h2,h3,h4,h5,h6,h7⟩
def lcs{N:O Str}(h1:sc.kind=.function:=by rfl)(h2:∀y∈sc.names,y.2≠.cell:=by decide +kernel)(h3:∀y∈sc.names,y.2=.local->sc.names.lookup y.1=ap .local:=by decide +kernel)(h4:∀y∈sc.names,y.2=.free->(Xs.names.lookup y.1=ap .cell\/Xs.names.lookup y.1=ap .free):=by decide +kernel)(h5:N'.Nodup:=by decide +kernel)(h6:ix.length=N'.length:=by rfl)
  (h7:((ix.zip N').all λp=>match p.1 with | none=>true | some j=>decide (N[j]?=ap p.2)&&decide (sc.names.lookup p.2=ap .free))=true:=by decide +kernel):bc Xs N sc N' ix:=⟨h1,h2,h3,h4,h5,h6,h7⟩
abbrev nX(l:O (Str×wv)):nw:={kind:=.function,names:=(BJ ".0",.local)::l,isGenerator:=false,isCoroutine:=false,more:=[]}
abbrev lo:wv:=.local
abbrev gi:wv:=.globalImplicit
abbrev fr:wv:=.free
def Iz:O AK->Nat
 | []=>0
 | .p _::ks=>Iz ks+1
 | _::ks=>Iz ks
theorem nJ:∀{ks:O AK}{i:Nat},ks[i]?=ap (.p φ)->Iz ks≠0
 | [],i,h=>by simp at h
 | .p _::_,_,_=>Nat.succ_ne_zero _
 | .v::ks,0,h=>by simp at h
 | .f _::ks,0,h=>by simp at h
 | .v::ks,i+1,h=>nJ (ks:=ks) (i:=i) (by simpa using h)
 | .f _::ks,i+1,h=>nJ (ks:=ks) (i:=i) (by simpa using h)
theorem w6:∀{ks:O AK},Nat.ble (Iz ks) 1=true->HH ks
 | [],_=>λi j ⟨_,h⟩=>by simp at h
 | .v::ks,h=>λi j ⟨φ,a⟩ ⟨ψ,b⟩=>by
  cases i with | zero=>simp at a | succ i=>cases j with | zero=>simp at b | succ j=>rw[w6 (ks:=ks) h i j ⟨φ,by simpa using a⟩ ⟨ψ,by simpa using b⟩]
 | .f _::ks,h=>λi j ⟨φ,a⟩ ⟨ψ,b⟩=>by
  cases i with | zero=>simp at a | succ i=>cases j with | zero=>simp at b | succ j=>rw[w6 (ks:=ks) h i j ⟨φ,by simpa using a⟩ ⟨ψ,by simpa using b⟩]
 | .p _::ks,h=>λi j ⟨φ,a⟩ ⟨ψ,b⟩=>by
  have z:Iz ks+1<=1:=Dv h;cases i with | succ i=>exact absurd ∅ (nJ (ks:=ks) (i:=i) (by simpa using a)) | zero=>cases j with | succ j=>exact absurd ∅ (nJ (ks:=ks) (i:=j) (by simpa using b)) | zero=>rfl
abbrev N6(st:ss):O Str:=((aF st).names.filter λy=>y.2==.local||y.2==.cell).map (·.1)
abbrev z0(st:ss):O Str:=(ft st).args.map (·.arg)
abbrev nml(sc:nw):O Str:=((sc.names.tail.filter λy=>y.2==.local)++sc.names.filter λy=>y.2==.free).map (·.1)
abbrev ixl(N:O Str)(sc:nw):O (Option Nat):=((sc.names.tail.filter λy=>y.2==.local).map λ_=>bm)++(sc.names.filter λy=>y.2==.free).map λy=>ap (N.idxOf y.1)
abbrev LS(st:ss)(sc:nw):Prop:=bc (aF st) (N6 st) sc (nml sc) (ixl (N6 st) sc)
def msk:Nat->bb->bb
 | _,[]=>[]
 | n,s::l=>(match n % 2 with | 0=>s | _=>bm)::msk (n / 2) l
theorem gA.m:∀(n:Nat) {fs:bb},gA fs (msk n fs)
 | _,[]=>.refl _
 | n,s::l=>by
  unfold msk
  split
  ·exact .keep (gA.m _)
  ·exact .drop (gA.m _)
def R7:(n:Nat)->(O PV->W R->Prop)->HS R n->Prop
 | 0,B,m=>B [] m
 | n+1,B,m=>∀x:PV,R7 n (λl w=>B (x::l) w) (m x)
theorem R7.all:∀{n:Nat}{B:O PV->W R->Prop}{m:HS R n},R7 n B m->∀l,l.length=n->B l (oX n m l)
 | 0,_,_,h,[],_=>h
 | n+1,_,_,h,x::l,e=>R7.all (n:=n) (h x) l (Nat.succ.inj e)
section
variable{v:EV}{st:ss}
abbrev BB{T:Type}(v:EV)(x:Str)(st:ss)(k:Nat)(ks:O AK)(f:ce)(n:Nat)(m:HS T n)(o:T->End):Prop:=∀{fv:bn}{A:u8}{outer:O Env}{s:cr}{H:Hp}{E:XK},fh k (A.deeper (xz x (aF st) s.heap.objs.size f fv))->(N6 st).Nodup->R7 n (λl w=>SF (uU ui v.P v.w v.K v.mg v.base (N6 st) x (aF st) f fv A outer s H E).VW v.K false (uX ks l (N6 st).length) (cX st) w o) m
def kA{m:HS PV n}(D:DI v ⟨x,st,z0 st,k+1,λK=>Ml K ks (oX n m)⟩)(Í:BB v x st k ks D.f n m .rt)(YR:ks.length=(z0 st).length:=by rfl)(one:Nat.ble (Iz ks) 1=true:=by rfl)(S:cY (N6 st) (z0 st) (aF st):=by exact Y3):D.O:=fnV D.fn S YR (w6 one) λl e fv A outer s H E hr=>(Í hr S.nd).all l e
def MJ{m:HS (O PV) n}(D:DI v ⟨x,st,z0 st,k+1,λK=>zP K ks (oX n m)⟩)(Í:BB v x st k ks D.f n m .rl)(YR:ks.length=(z0 st).length:=by rfl)(one:Nat.ble (Iz ks) 1=true:=by rfl)(S:cY (N6 st) (z0 st) (aF st):=by exact Y3):D.O:=fnL D.fn S YR (w6 one) λl e fv A outer s H E hr=>(Í hr S.nd).all l e
end
section
variable{K:Ab}{W':W PV}{WL:W (O PV)}
theorem eC{m:O PV->W PV}(G:VC X.prog X.w X.K X.mg X.base x k ps (Ml K ks m))(hr:fh k' X.A)(ha:AF X K fs (e::es) ks B)(hk:k<=k':=by first | exact Dv rfl | exact Am _ | omega)(hg:Gl X x:=by rfl)(hW:W'=B m:=by rfl)(oq:jh x:=by decide)
  (he:gZ X e es:=by rfl) (c9:lF X pos es:=by rfl):EF X K fs (.Call (.Name x p) (e::es) [] pos) W':=U7 G hr hk hg ha hW oq he c9
theorem lC{m:O PV->W (O PV)}{B:(O PV->W (O PV))->W (O PV)}(G:VC X.prog X.w X.K X.mg X.base x k ps (zP K ks m))(hr:fh k' X.A)(ha:AF X K fs (e::es) ks B)(hk:k<=k':=by first | exact Dv rfl | exact Am _ | omega)(hg:Gl X x:=by rfl)(hW:WL=B m:=by rfl)(oq:jh x:=by decide)
  (he:gZ X e es:=by rfl) (c9:lF X pos es:=by rfl):LF X K fs (.Call (.Name x p) (e::es) [] pos) WL:=Uk G hr hk hg ha hW oq he c9
def cZ(i:Nat)(hN:X.N.Nodup)(hi:X.N[i]?=ap x:=by rfl)(hx:Loc X.env.scope x:=by first | exact .inl rfl | exact .inr rfl)(hf:Oc X x:=by first | exact .inl rfl | exact .inr rfl | assumption):PG X (.Name x pos) (dY i):=Th hN hi hx hf
variable{T:Type}{out:T->End}{b:Bool}{rest:O ss}
def sv(i:Nat){k:PV->W T}(hN:X.N.Nodup)(he:EF X K fs e we)(hr:∀v,SF X K b (fs.set i (ap (.val v))) rest (k v) out)(hi:X.N[i]?=ap y:=by rfl)(hx:Loc X.env.scope y:=by first | exact .inl rfl | exact .inr rfl)(hs:lc e (ap (.Name y p')) pos.line X.env=pure false:=by rfl)
  (hf:Oc X y:=by first | exact .inl rfl | exact .inr rfl | assumption):SF X K b fs (.Assign [.Name y p'] e pos::rest) (.bind we k) out:=SF.set hN hi hx he hr hs hf
def sl(i:Nat){k:O PV->W T}(hN:X.N.Nodup)(he:LF X K fs e wl)(hr:∀l,SF X K b (fs.set i (ap (.ol bm l))) rest (k l) out)(hi:X.N[i]?=ap y:=by rfl)(hx:Loc X.env.scope y:=by first | exact .inl rfl | exact .inr rfl)(hs:lc e (ap (.Name y p')) pos.line X.env=pure false:=by rfl)
  (hf:Oc X y:=by first | exact .inl rfl | exact .inr rfl | assumption):SF X K b fs (.Assign [.Name y p'] e pos::rest) (.bind wl k) out:=SF.afo hN hi hx he hr hs hf
end
end FL
variable{m:PL.PV->FL.W PL.PV}{d:FL.DF}
namespace FL
def ads:(n:Nat)->(O bn->Prop)->Prop
 | 0,P=>P []
 | n+1,P=>∀x,ads n λl=>P (x::l)
theorem usN:∀{n:Nat}{P:O bn->Prop},ads n P->∀us:O bn,us.length=n->P us
 | 0,_,h,[],_=>h
 | n+1,_,h,x::l,e=>usN (n:=n) (h x) l (Nat.succ.inj e)
def DX.mk2{v:EV}(D:DX v.K d.x d.s)(X:v.K.In h)(G:h.Ns f8 v.mg)
  (hb:∀(kV Ç pm:bn) (an:Option ce) (fv ct:bn) (us:O bn),us.length=d.ps.length->bindArgs (BZ d.x d.x (ft d.s) (cX d.s) (aF d.s) .none kV Ç pm an fv ct) ⟨us,[]⟩=pure (d.ps.zip us):=by exact λ_ _ _ _ _ _=>usN (by (repeat intro _);rfl)):Nonempty (DI v d):=by
 obtain⟨f,fd,a,F⟩:=D.ex;exact⟨⟨f,fd,F,F.binds hb,BI X G a⟩⟩
def DX.go{v:EV}(D:DX v.K d.x d.s)(X:v.K.In h)(G:h.Ns f8 v.mg){P:Prop}(k:∀D:DI v d,D.O)(r:d.C v->P)
  (hb:∀(kV Ç pm:bn) (an:Option ce) (fv ct:bn) (us:O bn),us.length=d.ps.length->bindArgs (BZ d.x d.x (ft d.s) (cX d.s) (aF d.s) .none kV Ç pm an fv ct) ⟨us,[]⟩=pure (d.ps.zip us):=by exact λ_ _ _ _ _ _=>usN (by (repeat intro _);rfl)):P:=by
 obtain⟨D⟩:=D.mk2 X G hb;exact r (D.c (k D))
def KJ(K:Ab):Sp:=λvs H Q _=>∃(a:ce) (ns:O Int),vs=[.ref a]/\Vw H/\c6 K H a (ns.map V.int)/\ns.length<=63/\∀H',Q (.bl true) H'
def Uh{K:Ab}(ok:∀ns:O Int,ns.length<=63->(m (.cl (ns.map PV.int))).run (·=.bl true)):∀vs H Q E,KJ K vs H Q E->Ml K [.v] (oX 1 m) vs H Q E:=λvs H Q E ⟨a,ns,e,hO,hS,hl,q⟩=>by
 subst e;have fz:WE K H a (ns.map V.int):=by
  rcases hS with (h | ⟨o,h⟩) | h
  ·rcases hO a with z | ⟨o,xs,z⟩
   ·rw[h]at z;cases z
   ·rw[h]at z;cases z
  ·exact .inl ⟨o,h⟩
  ·exact .inr h
 refine⟨[.cl (ns.map PV.int)],.v (.cl fz (om _ _ ns)) .nil,(m (.cl (ns.map PV.int))).mono (λv e u H' _ r=>?_) (ok ns hl)⟩;subst e;cases r;exact q H'
structure adt(K:Ab)(mg:Str->Option bn)(d:DF):Prop where
 f:∀v:EV,v.K=K->v.mg=mg->∀D:DI v d,D.O
def mkAll{l:E6}{K:Ab}{fa:ce}{st:ss}(ok:∀ns:O Int,ns.length<=63->(m (.cl (ns.map PV.int))).run (·=.bl true))(X:K.In h)(G:h.Ns f8 mg)(hfa:mg "law"=ap (.ref fa))(ac0:DX K "law" st)
  (hb:∀(kV Ç pm:bn) (an:Option ce) (fv ct:bn) (us:O bn),us.length=1->bindArgs (BZ "law" "law" (ft st) (cX st) (aF st) .none kV Ç pm an fv ct) ⟨us,[]⟩=pure (([("_law_script":Str)]:O Str).zip us))
  (F:adt K mg ⟨"law",st,["_law_script"],k,λK=>Ml K [.v] (oX 1 m)⟩) :
  ∃fd:Fa,(∀(s:cr) (v:bn),BindsTo s fd ⟨[v],[]⟩ [("_law_script",v)])/\∀base:lm,K.In base->base.Ns f8 mg->g8 l.prog w K mg base ui k fa fd ["_law_script"] (KJ K):=by
 obtain⟨f,fd,a,F'⟩:=ac0.ex;have e:=hfa.symm.trans (BI X G a);cases e;have fb:=F'.binds (ps:=["_law_script"]) hb;obtain⟨oc,od,kV,Ç,pm,an,fv,ct,Sa,rfl,_⟩:=id F'.ex;exact⟨BZ "law" "law" (ft st) (cX st) (aF st) .none kV Ç pm an fv ct,λs v=>.of_eq (hb kV Ç pm an fv ct [v] rfl),λbase _ _=>(F.f ⟨l.prog,w,K,mg,base⟩ rfl rfl ⟨_,_,F',fb,hfa⟩).imp (Uh ok)⟩
section
variable{K:Ab}{R:Type}{B:(O PV->W R)->W R}
def av(i:Nat)(hr:AF X K fs es ks B)(hs:fs[i]?=ap (ap (.val v)):=by rfl)(hN:X.N[i]?=ap x:=by rfl)(hv:zx X.env.scope x:=by first | exact C1 rfl | exact Cq (C1 rfl) | exact Cq (Cq rfl))(hd:jh x:=by decide)(jc:HI x:=by decide)
  (h:ga (.Name x pos::es) X.env=(false,lf (.Name x pos) X.env)::ga es X.env:=by rfl):AF X K fs (.Name x pos::es) (.v::ks) (λk=>.bind (.ret v) λx=>B λl=>k (x::l)):=af (ae i hs hN hv hd jc) hr h
end
end FL
namespace My
def mH(cS:PV):W (O PV):=
 []\λmW=>
 am (cS\λx3=>bd [x3]) λoY=>
 am (HY (λs4=>(s4.2\λl5=>bd (!l5.isEmpty))) (λs4=>(
 am (zZ s4.2) λt7=>
 t7.2\λx9=>am (gY s4.1 x9) λmV=>
 dc (zH (am (am (bd t7.2) (cG .str)) eU)) (
 am (am (bd t7.2) aA) λl11=>am (Y7 t7.1 l11) λrM=>
 bd (mV,rM)) (
 bd (mV,t7.1)))) (mW,oY)) λs4=>
 (s4.1\λYr=>bd Yr.reverse)
def ic(cS:PV):W PV:=
 []\λjm=>
 []\λxh=>
 am (cS\λx3=>mH x3) λl30=>am (cA l30 (jm,xh) λwX s4=>(
 am (am (am (bd wX) (cG .str)) eU) λb=>am (if b=true then (
 wX\λHV=>am (gY s4.1 HV) λKt=>
 bd (Kt,s4.2)) else (
 am (zZ s4.2) λt20=>
 am (zZ t20.1) λt22=>
 am (t22.2\λOg=>t20.2\λOe=>bd (.tup [Og,Oe])) λWN=>am (gY s4.1 WN) λKs=>
 bd (Ks,t22.1))) λXi=>
 am (b2 xa (am (bd Xi.1) Gu) (bd (.int 1))) λSq=>am (gY Xi.2 Sq) λGq=>
 bd (Xi.1,Gq))) λs4=>
 (am (bd s4.1) kq)
def c7(ck:PV):W PV:=
 (dc (am (am (bd ck) (cG .str)) eU) (bd (.tup [])) (bd ck))
def gL(cS:PV):W PV:=
 am (cS\λx2=>ic x2) λjm=>
 am (am (am (bd jm) aA) λl4=>a7 l4 λp5=>(bd .ax)) λyZ=>
 am (am (am (bd jm) aA) λl6=>.eQ (l6.length<=sizeLine) (.ret (dH 0 l6))) λYq=>am (cA Yq yZ λp8 s7=>am (uj p8) λt9=>(
 am (am (t9.2\λko=>c7 ko) aA) λUl=>am (cA Ul s7 λLy Xj=>(
 t9.1\λwx=>Ly\λrH=>am (ku Xj rH wx) λHt=>
 bd Ht)) λXj=>
 bd Xj)) λs7=>
 (am (bd s7) kq)
def e6(fm:PV)(kQ:PV):W PV:=
 (dc (am (am (cQ (am (bd fm) aA) (bd kQ)) (cG .str)) eU) (cQ (am (bd fm) aA) (bd kQ)) (bd kQ))
def jB(dw:PV):W (O PV):=
 am (dw\λx2=>gL x2) λdP=>
 am (am (am (bd dP) aA) λl4=>a7 l4 λp5=>(bd (.tup []))) λlO=>
 am (am (b2 xa (c1 cn (bd dP)) (bd (.int 1))) λx6=>am (am (bd (.int 1)) IA) λx7=>am (am (bd (.int 1)) IA) λx8=>O2 x6 x7 x8) λUl=>am (cA Ul lO λkO s9=>(
 am (dc (t2 nH (cQ (am (bd dP) aA) (bd kO)) (bd .ax)) (bd (.tup [])) (cQ (bd s9) (cQ (am (bd dP) aA) (bd kO)))) λHu=>
 am (w2 addW (kO\λrJ=>bd (.tup [rJ])) (bd Hu)) λwx=>kO\λrH=>am (ku s9 rH wx) λGs=>
 bd Gs)) λs9=>
 bd s9
def f7(xj:PV)(kQ:PV):W PV:=
 (am (am (am (c1 cn (bd xj)) fx) λl2=>mq l2 λp3=>P8 (Me (QB true (bd p3) (am (cQ (am (bd xj) aA) (bd kQ)) aA)) (QB true (bd kQ) (am (cQ (am (bd xj) aA) (bd p3)) aA))) (bd p3)) kq)
def nR(dw:PV):W PV:=
 am (dw\λx2=>ic x2) λbD=>
 am (dw\λx4=>jB x4) λlO=>
 (am (am (am (c1 cn (bd bD)) fx) λl6=>a7 l6 λp7=>(am (bD\λx8=>p7\λx9=>e6 x8 x9) λko=>(.int 0)\λm5=>am (am (cQ (am (bd bD) aA) (bd p7)) λm4=>c7 m4) λrJ=>am ((.cl lO)\λwx=>p7\λrH=>f7 wx rH) λwu=>bd (.tup [ko,m5,rJ,wu]))) kq)
def e7(ar:PV):W PV:=
 (J7 (am (bd ar) (cG .int)) (am (am (bd ar) (cG .bool)) X9))
def gJ(ar:PV)(j7:PV):W PV:=
 (J7 (am (bd ar) (cG .tup)) (b2 fB (c1 cn (bd ar)) (bd j7)))
def fj(fm:PV)(dz:PV):W (O PV):=
 (am (am (am (bd fm) aA) λl1=>am (am (bd dz) aA) λl2=>zA l1 l2) λl3=>mq l3 λp4=>am (uj p4) λt5=>P8 (zH (am (am (bd t5.1) (cG .str)) eU)) (bd t5.2))
def cB(vf:PV):W PV:=
 (cQ (am (bd vf) aA) (am (c1 cn (bd vf)) λx1=>bF x1))
def jz(dw:PV)(dz:PV)(jX:PV):W (O PV):=
 am (dw\λx2=>gL x2) λdP=>
 []\λwZ=>
 am (am (am (bd jX) aA) λl4=>.eQ (l4.length<=sizeLine) (.ret (dH 0 l4))) λYq=>am (cA Yq wZ λp6 s5=>am (uj p6) λt7=>(
 am (am (am (bd dz) aA) λl8=>.eQ (l8.length<=sizeLine) (.ret (dH 0 l8))) λUl=>am (cA Ul s5 λĩ s9=>am (uj ĩ) λæ=>(
 dc (Me (t2 oLe (bd æ.2) (bd t7.2)) (WV (t2 nH (cQ (am (bd dP) aA) (bd æ.1)) (bd .ax)) (t2 oLt (bd t7.2) (cQ (am (bd dz) aA) (cQ (am (bd dP) aA) (bd æ.1)))))) (
 am (æ.1\λrJ=>t7.1\λwx=>bd (.tup [rJ,wx])) λrH=>am (gY s9 rH) λF4=>
 bd F4) (
 bd s9))) λs9=>
 bd s9)) λs5=>
 bd s5
def lM(fm:PV)(dz:PV)(jX:PV)(nI:PV)(PF:PV):W PV:=
 am (cQ (am (bd PF) aA) (bd (.int 0))) λlQ=>
 am (cQ (am (bd PF) aA) (bd (.int 1))) λn8=>
 am (b2 oLt (cQ (am (bd dz) aA) (bd lQ)) (cQ (am (bd jX) aA) (bd n8))) λvK=>
 am (dc (am (bd vK) eU) (lQ\λx5=>bd (.tup [x5])) (am (cQ (am (bd fm) aA) (bd lQ)) λx6=>c7 x6)) λbelow_4=>
 am (am (am (am (bd below_4) aA) λl8=>a7 l8 λp9=>(Si (bd nI) (p9\λko=>am (b2 xa (bd n8) (bd (.int 1))) λm5=>bd (.tup [ko,m5])))) kq) λKq=>
 am (am (am (am (bd nI) Qg) λl13=>mq l13 λî=>P8 (Me (t2 fB (cQ (am (bd î) aA) (bd (.int 1))) (bd n8)) (t2 Ga (cQ (am (bd î) aA) (bd (.int 0))) (bd lQ))) (Si (bd nI) (bd î))) kq) λv5=>
 (am (fm\λrH=>lQ\λwu=>e6 rH wu) λL8=>n8\λHV=>Kq\λOj=>v5\λOi=>bd (.tup [L8,HV,Oj,Oi]))
def nS(dw:PV)(dz:PV):W PV:=
 am (dw\λx2=>ic x2) λbD=>
 am (am ((.int 0)\λx4=>bd [x4]) λl7=>am (am (bD\λx5=>dz\λx6=>fj x5 x6) wJ) λl8=>kx l7 l8) λue=>
 am (dw\λko=>dz\λm5=>(.cl ue)\λm4=>jz ko m5 m4) λwY=>
 am (am (am (am (am (bd (.cl wY)) aA) λl14=>.eQ (l14.length<=sizeLine) (.ret (dH 0 l14))) λl15=>a7 l15 λp16=>am (uj p16) λĥ=>(ĥ.2\λHV=>ĥ.1\λOj=>bd (.tup [HV,Oj]))) JT) λsk=>
 (am (am (am (bd (.cl wY)) aA) λl20=>a7 l20 λí=>(bD\λOh=>dz\λL7=>(.cl ue)\λOg=>sk\λOe=>í\λWN=>lM Oh L7 Og Oe WN)) kq)
def dQ(jn:PV)(bu:PV):W PV:=
 (cQ (am (cQ (am (bd jn) aA) (bd bu)) aA) (bd (.int 2)))
def ig(jn:PV)(bu:PV):W PV:=
 (cQ (am (cQ (am (bd jn) aA) (bd bu)) aA) (bd (.int 3)))
def lN(jn:PV)(bu:PV)(VF:PV):W PV:=
 (J7 (b2 fB (jn\λx1=>bu\λx2=>dQ x1 x2) (bd (.tup []))) (b2 fB (cQ (am (cQ (am (bd jn) aA) (bd bu)) aA) (bd (.int 0))) (bd VF)))
def ib(aB:PV)(bu:PV):W (O PV):=
 am (aB\λx2=>bu\λx3=>dQ x2 x3) λfV=>
 (dc (t2 fB (c1 cn (bd fV)) (bd (.int 2))) (fV\λx4=>am (am (cQ (am (bd fV) aA) (bd (.int 1))) λx5=>am (cQ (am (bd fV) aA) (bd (.int 0))) λx6=>bd (.tup [x5,x6])) λx7=>bd [x4,x7]) (bd []))
def jA(aB:PV)(bu:PV):W (O PV):=
 am (aB\λx2=>bu\λx3=>ig x2 x3) λud=>
 (am (am (am (bd ud) aA) λl4=>a7 l4 λp5=>(bu\λx6=>p5\λx7=>bd (.tup [x6,x7]))) λYr=>am (am (am (bd ud) aA) λl8=>a7 l8 λp9=>(p9\λko=>bu\λm5=>bd (.tup [ko,m5]))) λl13=>kx Yr l13)
def gK(aB:PV)(ck:PV)(bu:PV):W (O PV):=
 dc (am (am (bd ck) (cG .str)) eU) (
 (dc (am (aB\λx1=>bu\λx2=>ck\λx3=>lN x1 x2 x3) eU) (am ((.str "found")\λx4=>(.tup [])\λx5=>bd (.tup [x4,x5])) λx6=>bd [x6]) (bd []))) (
 am (am (aB\λx8=>bu\λx9=>ib x8 x9) λl10=>a7 l10 λČ=>((.str "split")\λm4=>Č\λrJ=>bd (.tup [m4,rJ]))) λKI=>
 am (am (aB\λrH=>bu\λwu=>jA rH wu) λUl=>a7 Ul λp18=>((.str "over")\λOj=>p18\λOi=>bd (.tup [Oj,Oi]))) λK8=>
 (am (am (am (am ((.str "doubled")\λSr=>am (bu\λOh=>bu\λL7=>bd (.tup [Oh,L7])) λOg=>bd (.tup [Sr,Og])) λOe=>bd [Oe]) λl26=>am (am (bd (.cl KI)) nT) λl27=>kx l26 l27) λl28=>am (am (bd (.cl K8)) nT) λl29=>kx l28 l29) OJ))
def kJ(qa:PV):W PV:=
 (dc (QB false (bd .ax) (am (bd qa) aA)) (bd .ax) (am (am (bd qa) nT) Kz))
def jC(qa:PV):W PV:=
 (am (am (am (bd qa) aA) λl1=>mq l1 λp2=>P8 (t2 vj (bd p2) (bd .ax)) (bd p2)) Lk)
def eZ(aZ:PV)(tU:PV):W PV:=
 (dc (tU\λx1=>qJ false x1 ([("split":Str),("doubled":Str),("over":Str)].map PV.str)) (cQ (am (bd aZ) aA) (am (bd tU) (QD ["split","doubled","over"]))) (bd (.int 0)))
def dX(aZ:PV)(nv:PV)(ck:PV)(tU:PV):W PV:=
 am (am (am (am (ck\λx2=>c7 x2) aA) λl3=>am (am (cQ (am (bd tU) aA) (bd (.int 1))) aA) λl4=>zA l3 l4) λl5=>a7 l5 λp6=>am (uj p6) λt7=>(cQ (am (cQ (am (bd nv) aA) (bd t7.1)) aA) (bd t7.2))) λF8=>
 (am (gU (am (am (aZ\λx8=>am (cQ (am (bd tU) aA) (bd (.int 0))) λx9=>eZ x8 x9) λko=>bd [ko]) λl11=>am (am (bd (.cl F8)) nT) λYr=>kx l11 Yr)) λrJ=>kJ rJ)
def f6(aB:PV)(aZ:PV)(nv:PV)(ck:PV)(bu:PV):W (O PV):=
 (am (aB\λx1=>ck\λx2=>bu\λx3=>gK x1 x2 x3) λl4=>a7 l4 λp5=>(aZ\λx6=>nv\λx7=>ck\λx8=>p5\λx9=>dX x6 x7 x8 x9))
def hZ(aB:PV)(aZ:PV)(bu:PV):W PV:=
 (dc (t2 fB (c1 cn (aB\λx1=>bu\λx2=>dQ x1 x2)) (bd (.int 2))) (cQ (am (bd aZ) aA) (bd (.int 3))) (bd (.int 0)))
def fZ(aB:PV)(aZ:PV)(aa3:PV)(bu:PV):W (O PV):=
 am (aB\λx2=>aZ\λx3=>bu\λx4=>hZ x2 x3 x4) λVV=>
 (am (am (aB\λx5=>bu\λx6=>dQ x5 x6) aA) λl7=>a7 l7 λp8=>(am (gU (VV\λx9=>am (cQ (am (bd aa3) aA) (bd p8)) λko=>bd [x9,ko])) λm5=>kJ m5))
def nQ(aB:PV)(aZ:PV)(nv:PV)(ck:PV):W PV:=
 []\λO1=>
 am (am (c1 cn (bd aB)) fx) λl21=>am (cA l21 O1 λIc s3=>(
 am (am (am (aB\λx6=>aZ\λx7=>nv\λx8=>ck\λx9=>Ic\λko=>f6 x6 x7 x8 x9 ko) λl15=>am (aB\λm5=>aZ\λm4=>(.cl s3)\λrJ=>Ic\λwx=>fZ m5 m4 rJ wx) λl16=>kx l15 l16) va) λLW=>
 am ((.cl LW)\λHV=>jC HV) λOj=>am (gY s3 Oj) λO0=>
 bd O0)) λs3=>
 (am (bd s3) kq)
def q8(aB:PV)(iC:PV)(aZ:PV):W PV:=
 []\λIk=>
 am (am (iC\λx2=>ic x2) aA) λYr=>am (cA Yr Ik λgH s3=>(
 am (am (aB\λx6=>aZ\λx7=>(.cl s3)\λx8=>gH\λx9=>nQ x6 x7 x8 x9) Ox) λko=>am (gY s3 ko) λOZ=>
 bd OZ)) λs3=>
 (am (bd s3) kq)
def ip(fi:PV)(k_:PV):W (O PV):=
 am (dc (t2 oLt (bd k_) (c1 cn (bd fi))) (cQ (am (bd fi) aA) (bd k_)) (bd (.int 0))) λlz=>
 am (b2 pC (c1 Hq (bd lz)) (c1 J5 (b2 oGe (c1 Hq (bd lz)) (b2 MF (bd (.int 10)) (bd (.int 18)))))) λgj=>
 (gj\λx3=>am (b2 oMod (b2 pC (w2 addW (w2 addW (b2 oMod (bd lz) (bd (.int 2147483629))) (b2 pC (b2 pC (bd (.int 7919)) (bd k_)) (bd k_))) (bd (.int 11))) (bd (.int 48271))) (bd (.int 2147483647))) λx4=>(.int 0)\λx5=>bd [x3,x4,x5])
def dF(gQ:O PV)(j7:PV):W (PV×O PV):=
 am (w2 addW (cQ (bd gQ) (bd (.int 2))) (bd (.int 1))) λx2=>(.int 2)\λx3=>am (ku gQ x3 x2) λb9=>
 dc (Me (t2 oGt (cQ (bd b9) (bd (.int 0))) (bd (.int 0))) (t2 oLe (cQ (bd b9) (bd (.int 2))) (bd (.int 60)))) (
 am (b2 oMod (cQ (bd b9) (bd (.int 0))) (bd j7)) λLR=>
 am (b2 oDiv (cQ (bd b9) (bd (.int 0))) (bd j7)) λx6=>(.int 0)\λx7=>am (ku b9 x7 x6) λkR=>
 LR\λx8=>bd (x8,kR)) (
 am (b2 oMod (w2 addW (w2 addW (b2 pC (cQ (bd b9) (bd (.int 1))) (bd (.int 48271))) (bd (.int 12345))) (cQ (bd b9) (bd (.int 2)))) (bd (.int 2147483647))) λko=>(.int 1)\λm5=>am (ku b9 m5 ko) λfF=>
 am (b2 oMod (b2 oDiv (b2 oMod (b2 pC (cQ (bd fF) (bd (.int 1))) (w2 addW (b2 oMod (cQ (bd fF) (bd (.int 1))) (bd (.int 40009))) (bd (.int 3)))) (bd (.int 2147483629))) (bd (.int 7))) (bd j7)) λm4=>bd (m4,fF))
def eg(j7:PV):W (O PV):=
 (.str "abcdefghijklmnopqrstuvwxyz")\λvo=>
 am (am ((.int 26)\λx2=>bF x2) λx3=>am (am (gU ((.int 1)\λx4=>(.int 3)\λx5=>(.int 5)\λx6=>(.int 7)\λx7=>(.int 9)\λx8=>(.int 11)\λx9=>bd [x4,x5,x6,x7,x8,x9])) λko=>cB ko) λm5=>bd (.tup [x3,m5])) λm4=>am (uj m4) λt13=>
 am (am (gU ((.str "")\λrH=>(.str "")\λwu=>(.str "a")\λL8=>(.str "zq")\λHV=>(.str "mnopqrs")\λOj=>bd [rH,wu,L8,HV,Oj])) λOi=>cB Oi) λKv=>
 (am (am (bd j7) fx) λl22=>a7 l22 λp23=>(w2 addW (b2 PQ (bd vo) (b2 oMod (w2 addW (bd t13.1) (b2 pC (bd t13.2) (bd p23))) (bd (.int 26)))) (bd Kv)))
def dG(vf:PV):W PV:=
 am (am (bd vf) aA) λgD=>
 am (am (b2 xa (am (bd gD) Gu) (bd (.int 1))) fx) λl23=>am (cA l23 gD λWT s3=>(
 am (am (am (bd s3) Gu) λx6=>bF x6) λx7=>am (wW s3 x7) λt8=>
 am (am (am (bd t8.1) Gu) λko=>bF ko) λZy=>
 am (t8.2\λm4=>am (cQ (bd t8.1) (bd Zy)) λrJ=>bd (.tup [m4,rJ])) λw4=>
 am (dc (t2 fB ((.int 2)\λrH=>bF rH) (bd (.int 0))) (bd w4) (w4\λwu=>bm\λi17=>bm\λj18=>am (am (am (bd (.int 1)) IA) part) λk19=>OP wu i17 j18 k19)) λOi=>Zy\λSr=>am (ku t8.1 Sr Oi) λKR=>
 bd KR)) λs3=>
 (cQ (bd s3) (bd (.int 0)))
def eE(Gh:PV):W PV:=
 am (am (w2 addW (bd (.int 1)) (Gh\λx2=>bF x2)) λx3=>eg x3) λjk=>
 (am ((.cl jk)\λx4=>dG x4) λx5=>(.cl jk)\λx6=>bd (.tup [x5,x6]))
def eA(qc:PV)(Gh:PV):W PV:=
 am (am (am (w2 addW (bd (.int 1)) (Gh\λx2=>bF x2)) fx) λl4=>a7 l4 λp5=>(qc\λx6=>cB x6)) λgD=>
 ((.cl gD)\λx7=>dG x7)
def aX:Nat->PV->W (O PV)
 | 0,_=>W.fail
 | n+1,cS=>
 dc (am (am (bd cS) (cG .str)) eU) (
 (cS\λx1=>bd [x1])) (
 am (gU (am (cQ (am (bd cS) aA) (bd (.int 0))) λx2=>aX n x2)) λqg=>am (gU (am (cQ (am (bd cS) aA) (bd (.int 1))) λx3=>aX n x3)) λnF=>
 []\λpe=>
 am (am (bd nF) aA) λl26=>am (cA l26 pe λsA s7=>(
 am (zH (am (am (bd sA) (cG .str)) eU)) λb=>am (if b=true then (
 am (am (w2 addW (cQ (am (bd sA) aA) (bd (.int 0))) (c1 cn (bd qg))) λwx=>am (w2 addW (cQ (am (bd sA) aA) (bd (.int 1))) (c1 cn (bd qg))) λrH=>bd (.tup [wx,rH])) λLf=>
 bd Lf) else (
 bd sA)) λĊ=>
 Ċ\λL8=>am (gY s7 L8) λrT=>
 bd rT)) λs7=>
 (am (am (am (bd qg) nT) λl18=>s7\λYq=>kx l18 Yq) λl23=>am (am (am (b2 xa (c1 cn (bd qg)) (bd (.int 1))) λOi=>am (b2 xa (w2 addW (c1 cn (bd qg)) (c1 cn (bd nF))) (bd (.int 1))) λSr=>bd (.tup [Oi,Sr])) λOh=>bd [Oh]) λl24=>kx l23 l24))
def eG(cf:PV):W PV:=
 am (cf\λx2=>aX 12 x2) λbD=>
 am (am ((.int 0)\λx4=>bd [x4]) λl5=>am (c1 cn (bd (.cl bD))) λx6=>S2 l5 x6) λyj=>
 (.int 0)\λJW=>
 am (am (am (am (bd (.cl bD)) aA) λl9=>.eQ (l9.length<=sizeLine) (.ret (dH 0 l9))) λl10=>mq l10 λČ=>am (uj Č) λć=>P8 (zH (am (am (bd ć.2) (cG .str)) eU)) (bd ć.1)) λlG=>
 am (am (am (bd lG) Gu) fx) λl32=>am (cA l32 (yj,JW,lG) λKr zR=>(
 []\λyg=>
 am (cA zR.2.2 yg λL1 VN=>(
 dc (Me (QB true (cQ (am (cQ (am (bd (.cl bD)) aA) (bd L1)) aA) (bd (.int 0))) (bd zR.2.2)) (QB true (cQ (am (cQ (am (bd (.cl bD)) aA) (bd L1)) aA) (bd (.int 1))) (bd zR.2.2))) (
 L1\λSr=>am (gY VN Sr) λLC=>
 bd LC) (
 bd VN))) λVN=>
 am ((.cl VN)\λL7=>cB L7) λRS=>
 am (w2 addW (w2 addW (bd zR.2.1) (bd (.int 1))) ((.int 12)\λOe=>bF Oe)) λyR=>
 yR\λWM=>RS\λSq=>am (ku zR.1 Sq WM) λGY=>
 RS\λSo=>am (Xp zR.2.2 So) λrL=>
 bd (GY,yR,rL))) λzR=>
 (am (bd zR.1) kq)
def gc(cf:PV):W PV:=
 dc (t2 fB ((.int 2)\λx1=>bF x1) (bd (.int 0))) (
 (cf\λx2=>nR x2)) (
 (cf\λx3=>am (cf\λx4=>eG x4) λx5=>nS x3 x5))
def dM:W PV:=
 []\λjG=>
 am (am (bd (.int 4)) fx) λl25=>am (cA l25 jG λk_4 s3=>(
 am ((.int 0)\λx6=>(.int 1)\λx7=>(.int 2)\λx8=>(.int 3)\λx9=>(.int 10)\λko=>am ((.int 10)\λm5=>bF m5) λm4=>am ((.int 1001)\λrJ=>bF rJ) λwx=>bd [x6,x7,x8,x9,ko,m4,wx]) λOM=>
 am (am (am (bd (.cl OM)) nT) λYq=>am ((.int 1000)\λwu=>am (w2 addW (b2 MF (bd (.int 10)) (bd (.int 28))) ((.int 1000)\λL8=>bF L8)) λHV=>bd [wu,HV]) λl20=>kx Yq l20) λKQ=>
 am ((.cl KQ)\λOh=>cB Oh) λL7=>am (gY s3 L7) λkU=>
 bd kU)) λs3=>
 (am (bd s3) kq)
def eF(aN:PV)(fU:PV)(ck:PV)(Ø:PV):W (O PV):=
 am (cQ (am (bd aN) aA) (bd Ø)) λx1=>am (un4 x1) λt3=>
 dc (am (am (cQ (am (bd fU) aA) (bd ck)) (cG .str)) eU) (
 (dc (Me (t2 fB (bd t3.2.2.1) (bd (.tup []))) (t2 fB (bd t3.1) (cQ (am (bd fU) aA) (bd ck)))) (am (.ax\λx4=>am (gU (bd [])) λx5=>bd (.tup [x4,x5])) λx6=>bd [x6]) (bd []))) (
 am (cQ (am (bd fU) aA) (bd ck)) λx7=>am (uj x7) λt8=>
 am (am ((.int 1)\λko=>am (gU (am (t8.1\λm5=>Ø\λm4=>bd (.tup [m5,m4])) λrJ=>am (t8.2\λwx=>Ø\λrH=>bd (.tup [wx,rH])) λwu=>bd [rJ,wu])) λL8=>bd (.tup [ko,L8])) λHV=>bd [HV]) λyi=>
 am (am (bd t3.2.2.2) aA) λl83=>am (cA l83 yi λOv VM=>(
 am ((.int 2)\λOh=>am (gU (am (t8.1\λL7=>Ø\λOg=>bd (.tup [L7,Og])) λOe=>am (t8.2\λWN=>Ov\λWM=>bd (.tup [WN,WM])) λSq=>bd [Oe,Sq])) λx29=>bd (.tup [Oh,x29])) λSo=>am (gY VM So) λkU=>
 am ((.int 2)\λx32=>am (gU (am (t8.1\λx33=>Ov\λx34=>bd (.tup [x33,x34])) λx35=>am (t8.2\λx36=>Ø\λx37=>bd (.tup [x36,x37])) λx38=>bd [x35,x38])) λx39=>bd (.tup [x32,x39])) λx40=>am (gY kU x40) λGX=>
 bd GX)) λVM=>
 am (t2 fB (c1 cn (bd t3.2.2.1)) (bd (.int 2))) λb=>am (if b=true then (
 am ((.int 0)\λx63=>am (gU (am (t8.1\λx64=>am (cQ (am (bd t3.2.2.1) aA) (bd (.int 0))) λx65=>bd (.tup [x64,x65])) λx66=>am (t8.2\λx67=>am (cQ (am (bd t3.2.2.1) aA) (bd (.int 1))) λx68=>bd (.tup [x67,x68])) λx69=>bd [x66,x69])) λx70=>bd (.tup [x63,x70])) λx71=>am (gY VM x71) λGW=>
 am ((.int 0)\λx73=>am (gU (am (t8.1\λx74=>am (cQ (am (bd t3.2.2.1) aA) (bd (.int 1))) λx75=>bd (.tup [x74,x75])) λx76=>am (t8.2\λx77=>am (cQ (am (bd t3.2.2.1) aA) (bd (.int 0))) λx78=>bd (.tup [x77,x78])) λx79=>bd [x76,x79])) λx80=>bd (.tup [x73,x80])) λx81=>am (gY GW x81) λGV=>
 bd GV) else (
 bd VM)) λĈ=>
 bd Ĉ)
def gb(aN:PV)(ck:PV)(Ø:PV):W (O PV):=
 am (cQ (am (cQ (am (bd aN) aA) (bd Ø)) aA) (bd (.int 2))) λfV=>
 am (dc (t2 fB (c1 cn (bd fV)) (bd (.int 2))) (bd (.int 3)) (bd .ax)) λK1=>
 (am (am (bd fV) aA) λl3=>a7 l3 λp4=>(K1\λx5=>am (gU (am (ck\λx6=>p4\λx7=>bd (.tup [x6,x7])) λx8=>bd [x8])) λx9=>bd (.tup [x5,x9])))
def f9(bW:PV)(cC:PV)(nG:PV):W PV:=
 am (dc (t2 nH (cQ (am (bd nG) aA) (bd (.int 0))) (bd .ax)) (bd (.int 0)) (cQ (am (bd bW) aA) (cQ (am (bd nG) aA) (bd (.int 0))))) λm8=>
 am (am (cQ (am (bd nG) aA) (bd (.int 1))) aA) λl7=>am (ma l7 m8 λlU s2=>(
 dc (t2 nH (Si (bd cC) (bd lU)) (bd .ax)) (
 .ax\λx4=>bd (Lp.out x4)) (
 am (w2 addW (bd s2) (Si (bd cC) (bd lU))) λqS=>
 bd (.go qS)))) (Nl (λs2=>
 (bd s2)) id)
def gh(aN:PV)(fU:PV)(bW:PV):W PV:=
 am (am (c1 cn (bd fU)) fx) λl37=>am (cA l37 [] λgH s3=>(
 am (am (c1 cn (bd aN)) fx) λl35=>am (cA l35 s3 λVl s6=>(
 am (aN\λx9=>fU\λko=>gH\λm5=>Vl\λm4=>eF x9 ko m5 m4) λOL=>
 am (am (am (bd (.cl OL)) nT) λUl=>am (aN\λwx=>gH\λrH=>Vl\λwu=>gb wx rH wu) λl18=>kx Ul l18) λKS=>
 am (am (am (am (bd (.cl KS)) aA) λl20=>a7 l20 λí=>(bW\λOh=>(yP s6)\λL7=>í\λOg=>f9 Oh L7 Og)) va) λHk=>
 am (am (am (bd (.cl Hk)) aA) λl26=>mq l26 λċ=>P8 (t2 vj (bd ċ) (bd .ax)) (bd ċ)) λt4=>
 am (dc (am (am (bd (.cl t4)) nT) λl29=>bd (!l29.isEmpty)) (am (am (bd (.cl t4)) nT) Gk) (bd .ax)) λx32=>am (gH\λSo=>Vl\λx31=>bd (.tup [So,x31])) λx33=>am (Pe s6 x33 x32) λmr=>
 bd mr)) λs6=>
 bd s6)) λs3=>
 (bd (yP s3))
def ik(aN:PV)(fU:PV)(cC:PV):W PV:=
 []\λjG=>
 am (am (c1 cn (bd fU)) fx) λl13=>am (cA l13 jG λgH s3=>(
 am (am (am (am (c1 cn (bd aN)) fx) λl7=>a7 l7 λp8=>(Si (bd cC) (gH\λx9=>p8\λko=>bd (.tup [x9,ko])))) kq) λm5=>am (gY s3 m5) λLD=>
 bd LD)) λs3=>
 (am (bd s3) kq)
def iq(qm:PV)(qf:PV):W PV:=
 am (qm\λx1=>eE x1) λx2=>am (uj x2) λt3=>
 am (t3.1\λx5=>gc x5) λnj=>
 am (t3.2\λx7=>qf\λx8=>eA x7 x8) λjr=>
 (nj\λx9=>jr\λko=>am (gU (jr\λm5=>aX 12 m5)) λm4=>am (dM) λrJ=>bd (.tup [x9,ko,m4,rJ]))
def bX(aB:PV)(ar:PV):W PV:=
 (J7 (ar\λx4=>am (c1 cn (bd aB)) λx5=>gJ x4 x5) (am (am (am (bd ar) aA) λl1=>a7 l1 λp2=>(orB (b2 nH (bd p2) (bd .ax)) (p2\λx3=>e7 x3))) yX))
def gq(aB:PV)(iC:PV)(ar:PV):W PV:=
 (J7 (ar\λx5=>am (c1 cn (iC\λx6=>ic x6)) λx7=>gJ x5 x7) (am (am (am (bd ar) aA) λl1=>a7 l1 λp2=>(aB\λx3=>p2\λx4=>bX x3 x4)) yX))
def cj(aB:PV)(iC:PV)(aZ:PV)(ar:PV):W PV:=
 (J7 (aB\λx4=>iC\λx5=>ar\λx6=>gq x4 x5 x6) (b2 fB (bd ar) (aB\λx1=>iC\λx2=>aZ\λx3=>q8 x1 x2 x3)))
def eB(ar:PV):W PV:=
 am (.ax\λx2=>(.bl true)\λx3=>(.bl false)\λx4=>(.str "")\λx5=>(.str "0")\λx6=>am (gU (bd [])) λx7=>(Sf [])\λx8=>(.tup [])\λx9=>am (ar\λko=>bd (.tup [ko])) λm5=>am (gU (ar\λm4=>bd [m4])) λrJ=>(.int 0)\λwx=>(.int 1)\λrH=>am (am (bd (.int 1)) IA) λwu=>am (b2 MF (bd (.int 10)) (bd (.int 30))) λL8=>bd [x2,x3,x4,x5,x6,x7,x8,x9,m5,rJ,wx,rH,wu,L8]) λgD=>
 am (am (am (bd ar) (cG .int)) eU) λb=>am (if b=true then (
 am (am (am (bd (.cl gD)) nT) λl31=>am (am (w2 addW (bd ar) (bd (.int 1))) λWM=>am (b2 xa (bd ar) (bd (.int 1))) λSq=>am (b2 fB (bd ar) (bd (.int 1))) λx29=>am (am (bd ar) Xa) λSo=>bd [WM,Sq,x29,So]) λl32=>kx l31 l32) λKP=>
 bd (.cl KP)) else (
 bd (.cl gD))) λê=>
 am (am (am (bd ar) (cG .tup)) eU) λb=>am (if b=true then (
 am (am (am (bd ê) nT) λl65=>am (am (gU (am (bd ar) aA)) λx56=>am (ar\λx59=>am (am (bd (.int 1)) part) λi57=>bm\λj58=>Ii x59 i57 j58) λx60=>am (ar\λx63=>bm\λi61=>am (am (am (bd (.int 1)) IA) part) λj62=>Ii x63 i61 j62) λx64=>bd [x56,x60,x64]) λl66=>kx l65 l66) λKO=>
 am (am (am (bd (.cl KO)) nT) λl74=>am (am (w2 addW (bd ar) (ar\λx70=>bm\λi68=>am (am (bd (.int 1)) part) λj69=>Ii x70 i68 j69)) λx71=>am (w2 addW (bd ar) ((.int 0)\λx72=>bd (.tup [x72]))) λx73=>bd [x71,x73]) λl75=>kx l74 l75) λKN=>
 bd (.cl KN)) else (
 bd ê)) λé=>
 (cQ (am (bd é) aA) (am (c1 cn (bd é)) λx76=>bF x76))
def a8:Nat->PV->W PV
 | 0,_=>W.fail
 | n+1,ar=>
 dc (WV (zH (am (am (bd ar) (cG .tup)) eU)) (WV (t2 fB (bd ar) (bd (.tup []))) (t2 fB ((.int 7)\λx1=>bF x1) (bd (.int 0))))) (
 (ar\λx2=>eB x2)) (
 am (am (c1 cn (bd ar)) λx4=>bF x4) λVm=>
 (w2 addW (w2 addW (ar\λx7=>bm\λi5=>am (am (bd Vm) part) λj6=>Ii x7 i5 j6) (am (am (cQ (am (bd ar) aA) (bd Vm)) λx8=>a8 n x8) λx9=>bd (.tup [x9]))) (ar\λm4=>am (am (w2 addW (bd Vm) (bd (.int 1))) part) λi10=>bm\λj11=>Ii m4 i10 j11)))
def aG:Nat->PV->PV->W PV
 | 0,_,_=>W.fail
 | n+1,gV,uT=>
 dc (am (am (bd uT) (cG .tup)) eU) (
 dc (WV (zH (am (am (bd gV) (cG .tup)) eU)) (t2 Ga (c1 cn (bd gV)) (c1 cn (bd uT)))) (
 (bd (.bl false))) (
 (am (am (am (am (bd gV) aA) λl1=>am (am (bd uT) aA) λl2=>zA l1 l2) λl3=>a7 l3 λp4=>am (uj p4) λt5=>(t5.1\λx6=>t5.2\λx7=>aG n x6 x7)) yX))) (
 dc (WV (t2 nH (bd uT) (bd .ax)) (WV (am (am (bd gV) (cG .bool)) eU) (zH (am (am (bd gV) (cG .int)) eU)))) (
 (J7 (b2 nH (bd uT) (bd .ax)) (b2 nH (bd gV) (bd .ax)))) (
 (b2 fB (bd gV) (bd uT))))
def aL:Nat->PV->W PV
 | 0,_=>W.fail
 | n+1,ar=>
 dc (am (am (bd ar) YC) eU) (
 (gU (am (am (bd ar) aA) λl1=>a7 l1 λp2=>(p2\λx3=>aL n x3)))) (
 dc (am (am (bd ar) (cG .tup)) eU) (
 (am (am (am (bd ar) aA) λl4=>a7 l4 λp5=>(p5\λx6=>aL n x6)) kq)) (
 (bd ar)))
def sF(fi:PV):W PV:=
 am (am ((.int 1)\λx3=>am ((.int 4)\λx1=>am (c1 cn (bd fi)) λx2=>mX NS [x1,x2]) λx4=>mX NT [x3,x4]) fx) λl62=>am (ma l62 () λĐ s6=>(
 am (fi\λx9=>Đ\λko=>ip x9 ko) λql=>abn eW ql (
 am ((.int 5)\λm5=>(.int 4)\λm4=>iq m5 m4) λrJ=>am (un4 rJ) λzK=>
 am (zK.1\λwu=>zK.2.2.1\λL8=>am (zK.1\λHV=>zK.2.2.1\λOj=>zK.2.2.2\λOi=>gh HV Oj Oi) λSr=>ik wu L8 Sr) λkZ=>
 am (.ax\λL7=>(.bl true)\λOg=>(.int 0)\λOe=>(.str "")\λWN=>am (gU (bd [])) λWM=>(Sf [])\λSq=>(.tup [])\λx29=>am ((.tup [])\λSo=>bd (.tup [So])) λx31=>am (.ax\λx32=>bd (.tup [x32])) λx33=>am (gU (am (bd kZ) aA)) λx34=>am (kZ\λx35=>bd (.tup [x35])) λx36=>kZ\λx37=>bd [L7,Og,Oe,WN,WM,Sq,x29,x31,x33,x34,x36,x37]) λo6=>
 am (am (bd (.int 14)) fx) λl60=>am (cA l60 o6 λSz VL=>(
 am (kZ\λx42=>a8 5 x42) λx43=>am (gY VL x43) λu9=>
 bd u9)) λVL=>
 am (am (bd (.cl VL)) aA) λl58=>am (ma l58 () λm9 ĉ=>(
 am (m9\λx47=>aL 6 x47) λpT=>
 am (zK.1\λx49=>zK.2.1\λx50=>zK.2.2.2\λx51=>pT\λx52=>cj x49 x50 x51 x52) λtE=>
 dc (WV (zH (am (am (bd tE) (cG .bool)) eU)) (t2 Ga (bd tE) (m9\λx53=>kZ\λx54=>aG 5 x53 x54))) (
 (.bl false)\λx55=>bd (Lp.out x55)) (
 dc (t2 X8 (bd pT) (bd m9)) (
 (.bl false)\λx56=>bd (Lp.out x56)) (
 bd (.go ()))))) (Nl (λĉ=>
 bd (.go ())) Lp.out)))) (Nl (λs6=>
 (bd (.bl true))) id)
end My
variable{x:PL.PV}{Q:O PL.PV->Prop}{t:My.Tr}
namespace My
def Tr.pv:Tr->PV
 | .leaf x=>.str x
 | .node l r=>.tup [l.pv,r.pv]
def Ent.pv:Ent->PV
 | .word x=>.str x
 | .pair a b=>.tup [.int (a:Int),.int (b:Int)]
def SR{l:List α}(h:l≠[]):∃a x,l=a++[x]:=⟨l.dropLast,l.getLast h,(List.dropLast_concat_getLast h).symm⟩
def OQ{a b:O Tr}(h:iW a++b=t.post):eV a+b.length=t.size:=by
 have h1:=congrArg BR h;rw[Ai,t.kG]at h1;have h2:∀l:O Tr,(iW l).length=eV l:=by
  intro l
  induction l with
  | nil=>rfl
  | cons x l ih=>
   have e1:iW (x::l)=x.post++iW l:=rfl;have e2:eV (x::l)=x.size+eV l:=rfl;rw[e1,e2,Ai,ih,x.kG]
 rw[h2]at h1;exact h1
theorem c8(h:l.length < 1000):gY l x=.ret (l++[x]):=mo (by have:=bE (n:=1000) (Am _);omega)
theorem PC(t:Tr)(hz:t.size<=900):(mH t.pv).le (.ret (t.post.map Tr.pv)):=λQ q=>by
 refine HX (λn s=>∃ts bs:O Tr,n=eV ts/\s=(bs.map Tr.pv,ts.map Tr.pv)/\iW ts++bs.reverse=t.post) ⟨[t],[],rfl,rfl,by rw[pq];simp⟩ ?_;rintro n s ⟨ts,bs,rfl,rfl,hp⟩;have hs:=OQ hp;rw[Cb]at hs;by_cases he:ts=[]
 ·subst he;have ķ:bs.reverse=t.post:=hp;simp;rw[<- List.map_reverse,ķ];exact q
 ·obtain⟨us,u,rfl⟩:=SR he;have Sd:=vq us;rw[fX,o9]at hs;simp;rw[c8 (by rw[Af];omega)];cases u with
  | leaf x=>
   simp[Tr.pv];refine⟨_,?_,us,rfl,bs++[.leaf x],⟨by simp[Tr.pv],rfl⟩,?_⟩
   ·rw[fX,o9];show eV us < eV us+1;omega
   ·rw[jt,pq]at hp;rw[FH,<- hp];simp[Tr.post]
  | node c d=>
   have e1:Y7 (us.map Tr.pv) [c.pv,d.pv]=.ret (us.map Tr.pv++[c.pv,d.pv]):=mo (bE (by
    have:(Tr.node c d).size=c.size+d.size+1:=rfl;simp;omega))
   simp[Tr.pv,e1];refine⟨_,?_,us++[c,d],rfl,bs++[.node c d],⟨by simp[Tr.pv],by simp⟩,?_⟩
   ·have e2:eV [Tr.node c d]=c.size+d.size+1:=by rw[o9];rfl
    have e3:eV [c,d]=c.size+d.size:=by simp[eV]
    rw[fX,fX,e2,e3];omega
   ·rw[jt,pq]at hp;rw[FH,<- hp,jt,Mw];simp[Tr.post]
def aQ(l:O Nat):O PV:=l.map λ(n:Nat)=>.int (n:Int)
@[simp] theorem dE(l:O Nat):(aQ l).length=l.length:=Af _
@[simp] theorem abK(a b:O Nat):aQ (a++b)=aQ a++aQ b:=AO
@[simp] theorem lL(a:Nat)(l:O Nat):aQ (a::l)=.int (a:Int)::aQ l:=rfl
@[simp] theorem nN:aQ []=[]:=rfl
def lP(n:Nat):jb 0 n=aQ (AL n):=by
 refine BN λi _=>?_;rw[E2]
theorem P7{p:Nat->Bool}:∀{l:O Nat},(∀k∈l,f (.int ((k:Nat):Int))=.ret (if p k=true then ap (.int ((k:Nat):Int)) else bm))->mq (aQ l) f=.ret (aQ (l.filter p))
 | [],_=>rfl
 | k::l,h=>by
  show am (f _) (λo=>am (mq (aQ l) f) λm=>bd (o.toList++m))=_;rw[h k (.head _),P7 λy hy=>h y (.tail _ hy),DC];cases p k <;> rfl
theorem jx{f:PV->W PV}{g:Nat->PV}:∀{l:O Nat},(∀k∈l,f (.int ((k:Nat):Int))=.ret (g k))->a7 (aQ l) f=.ret (l.map g)
 | [],_=>rfl
 | k::l,h=>by
  show am (f _) (λy=>am (a7 (aQ l) f) λm=>bd (y::m))=_;rw[h k (.head _),jx λy hy=>h y (.tail _ hy)];rfl
def abO(g:PV->Option PV)(h:∀x∈l,f x=.ret (g x))(q:Q (l.filterMap g)):(mq l f).run Q:=by rw[xn h];exact q
def P1{f:PV->W PV}(g:PV->PV)(h:∀x∈l,f x=.ret (g x))(q:Q (l.map g)):(a7 l f).run Q:=by rw[jy h];exact q
def P6{l:O Nat}(p:Nat->Bool)(h:∀k∈l,f (.int ((k:Nat):Int))=.ret (if p k=true then ap (.int ((k:Nat):Int)) else bm))(q:Q (aQ (l.filter p))):(mq (aQ l) f).run Q:=by rw[P7 h];exact q
def MR{l:O Nat}{f:PV->W PV}(g:Nat->PV)(h:∀k∈l,f (.int ((k:Nat):Int))=.ret (g k))(q:Q (l.map g)):(a7 (aQ l) f).run Q:=by rw[jx h];exact q
theorem iY(t:Tr)(hz:t.size<=900):(ic t.pv).le (.ret (.tup ((t.nd 0).map Ent.pv))):=λQ q=>by
 unfold ic;simp only[ii,ci];refine W.le.use (PC t hz) ?_;refine tF (λr s=>∃(k:O Tr) (À:O Ent) (ls:O Nat),r=k.map Tr.pv/\s=(À.map Ent.pv,aQ ls.reverse)/\run k À ls=ap (t.nd 0,[t.size-1])/\À.length+k.length<=900/\ls.length<=À.length) ⟨t.post,[],[],rfl,rfl,Mt t,by simp[t.kG];omega,Am _⟩ ?_ ?_
 ·rintro x r s ⟨k,À,ls,e,rfl,h,hl,ù⟩;cases k with
  | nil=>cases e
  | cons p k=>
   injection e with e1 e2;subst e1;subst e2;rw[Ar]at hl;cases p with
   | leaf x=>
    have a1:∀y,gY (aQ ls.reverse) y=.ret (aQ ls.reverse++[y]):=λy=>c8 (by simp;omega);simp[Tr.pv,c8 (l:=À.map Ent.pv) (by simp;omega),a1];refine⟨k,rfl,À++[Ent.word x],À.length::ls,⟨by simp[Ent.pv],by simp⟩,h,by simp;omega,by simp;omega⟩
   | node c d=>
    match ls,h,ù with
    | b::a::ls,h,ù=>
     rw[Ar,Ar]at ù;have a0:aQ (b::a::ls).reverse=(aQ ls.reverse++[.int (a:Int)])++[.int (b:Int)]:=by simp
     have a1:∀y,gY (aQ ls.reverse) y=.ret (aQ ls.reverse++[y]):=λy=>c8 (by simp;omega);rw[a0];simp only[Tr.pv,ii,eM,lS,bo,Ao,if_false,Y9];simp[c8 (l:=À.map Ent.pv) (by simp;omega),a1];refine⟨k,rfl,À++[Ent.pair a b],À.length::ls,⟨by simp[Ent.pv],by simp⟩,h,by simp;omega,by simp;omega⟩
 ·rintro s ⟨k,À,ls,e,rfl,h,hl,ù⟩;cases k with
  | nil=>
   cases h;simpa using q
  | cons p k=>cases e
end My
variable{a b:Int}
namespace My
theorem mulL(h:-1000000000<=a/\a<=1000000000):ww a b:=VZ ∅ ∅
theorem mulR(h:-1000000000<=b/\b<=1000000000):ww a b:=mul_r ∅ ∅
theorem ZD(i:Int):0<=(if i < 0 then -i else i):=by split <;> omega
theorem bf(h:-1000<=i/\i<=1000/\-1000<=j/\j<=1000)(h2:j-i<=1000):okN i j:=⟨by omega,by omega,by omega,by omega,bE ∅⟩
structure wo(t:Tr):Prop where
 ws:t.Ws
 nd:t.az.Nodup
 few:t.az.length<=8
 sg:∃b,b<=1/\(t.az.map λx=>x.cps[b]?).Nodup
end My
variable{a b i j:Nat}{ds:O Int}{d:Int}{left:O Nat}
namespace My
def uI:Ent->Bool
 | .word _=>false
 | .pair _ _=>true
structure Dt(t:Tr)(ds:List Int)(left:List Nat)(d:Int):Prop where
 len:ds.length=t.size
 zero:∀j,j < t.size->(uI (en t 0 j)=false\/j∈left)->ds.getD j 0=0
 up:∀j,j < t.size->j∉left->∀a b,en t 0 j=.pair a b->a∉left/\b∉left/\ds.getD a 0 < ds.getD j 0/\ds.getD b 0 < ds.getD j 0/\1<=ds.getD j 0/\ds.getD j 0<=d
 inj:∀i j,i < t.size->j < t.size->i∉left->j∉left->uI (en t 0 i)=true->uI (en t 0 j)=true->ds.getD i 0=ds.getD j 0->i=j
 pos:0<=d
 ZS:∀j∈left,j < t.size/\uI (en t 0 j)=true
 ris:left.Pairwise (· < ·)
def iE{l:O Int}{v:Int}(h:i < l.length):(l.set i v).getD i 0=v:=by rw[Aj,CG h];rfl
def bI{l:O Int}{v:Int}(h:i≠j):(l.set i v).getD j 0=l.getD j 0:=by rw[Aj,B3 h,<- Aj]
def uy{l:O Nat}(h:l.Pairwise (· < ·)){x y:Nat}:y∈l.erase x↔y∈l/\y≠x:=by
 have nd:l.Nodup:=h.imp (λz=>AB z);rw[nd.mem_erase_iff];exact⟨λz=>⟨z.2,z.1⟩,λz=>⟨z.2,z.1⟩⟩
theorem ff(t:Tr)(h:j < t.size)(e:en t 0 j=.pair a b):a < j/\b < j:=by
 rcases RP t 0 j h with⟨x,e1,_⟩ | ⟨a',b',e1,e2,e3,_⟩
 ·rw[e1]at e;cases e
 ·rw[e1]at e;injection e with h1 h2;omega
theorem Dt.next{x:Int}(D:Dt t ds left d)(hj:j∈left)(e:en t 0 j=.pair a b)(ha:a∉left)(hb:b∉left)(hx:0<=x):Dt t (ds.set j (d+1+x)) (left.erase j) (d+1+x):=by
 obtain⟨hjs,hjp⟩:=D.ZS j hj;obtain⟨haj,hbj⟩:=ff t hjs e;have ZY:j < ds.length:=by rw[D.len];exact hjs
 have hm:∀y,y∈left.erase j↔y∈left/\y≠j:=λy=>uy D.ris;have Ñ:∀y,y < t.size->y∉left->ds.getD y 0<=d:=λy hy Ē=>by
  cases ey:en t 0 y with
  | word w=>rw[D.zero y hy (.inl (by rw[ey];rfl))];exact D.pos
  | pair p q=>exact(D.up y hy Ē p q ey).2.2.2.2.2
 refine⟨by rw[BQ];exact D.len,λy hy hc=>?_,λy hy Ē p q ey=>?_,λu v hu hv hul hvl pu pv QE=>?_,by have:=D.pos;omega,λy hy=>D.ZS y ((hm y).mp hy).1,List.Pairwise.sublist List.erase_sublist D.ris⟩
 ·have õ:j≠y:=λz=>by
   subst z;rcases hc with hc | hc
   ·rw[hjp]at hc;cases hc
   ·exact((hm j).mp hc).2 rfl
  rw[bI õ];exact D.zero y hy (hc.imp id λz=>((hm y).mp z).1)
 ·by_cases õ:j=y
  ·subst õ;rw[e]at ey;injection ey with h1 h2;subst h1 h2;have la:=Ñ a ∅ ha;have lb:=Ñ b ∅ hb;rw[iE ZY,bI ∅,bI ∅];have:=D.pos;exact⟨λz=>ha ((hm a).mp z).1,λz=>hb ((hm b).mp z).1,by omega,by omega,by omega,by omega⟩
  ·have af0:y∉left:=λz=>Ē ((hm y).mpr ⟨z,Bx õ⟩);obtain⟨p1,p2,p3,p4,p5,p6⟩:=D.up y hy af0 p q ey;have np:j≠p:=λz=>p1 (z▸hj);have nq:j≠q:=λz=>p2 (z▸hj);rw[bI õ,bI np,bI nq];exact⟨λz=>p1 ((hm p).mp z).1,λz=>p2 ((hm q).mp z).1,p3,p4,p5,by omega⟩
 ·by_cases c1:j=u
  ·by_cases c2:j=v
   ·exact c1.symm.trans c2
   ·exfalso;subst c1;have YK:v∉left:=λz=>hvl ((hm v).mpr ⟨z,Bx c2⟩);rw[iE ZY,bI c2]at QE;have:=Ñ v hv YK;omega
  ·have acb:u∉left:=λz=>hul ((hm u).mpr ⟨z,Bx c1⟩);by_cases c2:j=v
   ·exfalso;subst c2;rw[iE ZY,bI c1]at QE;have:=Ñ u hu acb;omega
   ·have YK:v∉left:=λz=>hvl ((hm v).mpr ⟨z,Bx c2⟩);rw[bI c1,bI c2]at QE;exact D.inj u v hu hv acb YK pu pv QE
def splits(t:Tr):O Nat:=(AL t.size).filter λj=>uI (en t 0 j)
def Dt.first(t:Tr):Dt t (An t.size 0) (splits t) 0:=by
 have z:∀j,(An t.size (0:Int)).getD j 0=0:=λj=>by
  rw[Aj,Bs]
  split <;> rfl
 have mem:∀j,j∈splits t↔j < t.size/\uI (en t 0 j)=true:=λj=>by unfold splits;rw[Bd,A5]
 refine⟨Bq,λj _ _=>z j,λj hj hn a b e=>absurd ((mem j).mpr ⟨hj,by rw[e];rfl⟩) hn,λi j hi hj hni _ pi _ _=>absurd ((mem i).mpr ⟨hi,pi⟩) hni,CB _,λj hj=>(mem j).mp hj,?_⟩;exact List.Pairwise.filter _ Dq
theorem LL(t:Tr):dH 0 ((t.nd 0).map Ent.pv)=(AL t.size).map λj=>PV.tup [.int ((j:Nat):Int),(en t 0 j).pv]:=by
 have hl:(dH 0 ((t.nd 0).map Ent.pv)).length=t.size:=by rw[cz,Af,t.ba]
 apply Ca;intro i;by_cases hi:i < t.size
 ·have h1:(dH 0 ((t.nd 0).map Ent.pv))[i]?=ap ((dH 0 ((t.nd 0).map Ent.pv))[i]'∅):=Ad _;obtain⟨y,hy,e⟩:=gz h1;rw[Al,gI t 0 i hi]at hy;have YJ:=Option.some.inj hy;rw[h1,e,<- YJ,Al,BO hi,AH];rfl
 ·rw[AW ∅,AW (by rw[Af,CU];omega)]
def Ue:PV->Option PV
 | .tup [_,.str _]=>bm
 | .tup [k,_]=>ap k
 | _=>bm
def Yl(t:Tr):(dH 0 ((t.nd 0).map Ent.pv)).filterMap Ue=aQ (splits t):=by
 rw[LL];unfold splits;generalize AL t.size=l
 induction l with
 | nil=>rfl
 | cons j l ih=>
  rw[Ap,A9,DC];cases e:en t 0 j with
  | word w=>exact ih
  | pair a b=>
   rw[ih];rfl
def vk(l:O Nat):aQ l=(l.map λn=>((n:Nat):Int)).map PV.int:=by unfold aQ;rw[Ay];rfl
theorem tJ(y:Nat):∀l:O Nat,(l.map λn=>((n:Nat):Int)).erase (y:Int)=(l.erase y).map λn=>((n:Nat):Int)
 | []=>rfl
 | a::l=>by
  rw[Ap,List.erase_cons,List.erase_cons,tJ y l];by_cases c:a=y
  ·subst c;simp
  ·have c1:(((a:Nat):Int)==(y:Int))=false:=by simp;omega
   have c2:(a==y)=false:=by simpa using c
   rw[c1,c2];simp
theorem KY:∀(l:O Nat) (k n:Nat),l.Pairwise (· < ·)->(∀x∈l,k<=x/\x < n)->l.length<=n-k
 | [],_,_,_,_=>A8 _
 | a::l,k,n,h,hb=>by
  have h1:=(Ei.mp h);have h2:=hb a Bu;have ih:=KY l (a+1) n h1.2 λx hx=>⟨h1.1 x hx,(hb x (AZ _ hx)).2⟩;rw[Ar];omega
def Xe(s:Nat):Ent->Ent
 | .word x=>.word x
 | .pair p q=>.pair (p+s) (q+s)
theorem IB:∀(t:Tr) (o s:Nat),t.nd (o+s)=(t.nd o).map (Xe s)
 | .leaf _,_,_=>rfl
 | .node a b,o,s=>by
  have ha:=a.size_pos;rw[Tr.nd,Tr.nd,IB a o s,show o+s+a.size=o+a.size+s by omega,IB b (o+a.size) s,AO,AO];congr 2;congr 1 <;> omega
def eN{m:O PV}(h:l.length+m.length<=1000):kx l m=.ret (l++m):=mo (bE h)
theorem pick_run(h0:l≠[])(h1:l.length<=1000){Q:PV->Prop}(q:∀x∈l,Q x):(cB (.cl l)).run Q:=by
 unfold cB;have hp:0 < l.length:=Cr.mpr h0;simp only[ii,ci,bp,dh,cI (l.length:Int) ∅ ∅,im];refine bg λd d0 d1=>?_;obtain⟨v,hv,hv2⟩:=RT (xs:=l) d0 d1;simp only[cF,hv,wS,im];exact q v (Be hv2)
theorem QA(k:Nat)(l:O Nat)(b:Bool):qJ b (.int (k:Int)) (aQ l)=.ret (if b then !decide (k∈l) else decide (k∈l)):=by
 have h1:UE (.int (k:Int)) (aQ l):=⟨by simp,gW.mpr λx hx=>by
  obtain⟨n,_,rfl⟩:=Av.mp hx;simp,gX λx hx=>by
  obtain⟨n,_,rfl⟩:=Av.mp hx;simp⟩
 have h2:sZ (.int (k:Int)) (aQ l)=decide (k∈l):=by
  unfold sZ aQ;rw[List.any_map]
  induction l with
  | nil=>simp
  | cons a l ih=>
   have ih:=ih ⟨by simp,gW.mpr λx hx=>by
    obtain⟨n,_,rfl⟩:=Av.mp hx;simp,gX λx hx=>by
    obtain⟨n,_,rfl⟩:=Av.mp hx;simp⟩
   rw[BA,ih];by_cases c:a=k
   ·subst c;simp
   ·have c1:(((a:Nat):Int)==(k:Int))=false:=by simp;omega
    have c2:¬k=a:=λz=>c z.symm;simp[c1,c2]
 unfold qJ;rw[mo h1,h2]
def bj(ds:O Int):O PV:=ds.map PV.int
@[simp] theorem fD(ds:O Int):(bj ds).length=ds.length:=Af _
def Qz(ds:O Int)(y:Nat)(v:Int):(bj ds).set y (.int v)=bj (ds.set y v):=by unfold bj;rw[EX]
def N4(t:Tr)(left:O Nat)(j:Nat):Bool:=match en t 0 j with
 | .pair a b=>!decide (a∈left)&&!decide (b∈left)
 | _=>false
theorem Lu(h:k < n):vF n (k:Int)=ap k:=by
 unfold vF;rw[if_pos ∅,if_pos ∅];simp
def nr(h:k < l.length):ku l (.int (k:Int)) v=.ret (l.set k v):=by
 unfold ku;simp[Lu h]
def Yf(t:Tr)(h:j < t.size):d4 ((t.nd 0).map Ent.pv) (j:Int)=ap (en t 0 j).pv:=di (by rw[Al,gI t 0 j h];rfl)
theorem Dt.aa6(D:Dt t ds left d)(he:left≠[]):aQ (left.filter (N4 t left))≠[]:=by
 obtain⟨l0,l1,rfl⟩:∃l0 l1,left=l0::l1:=by cases left with | nil=>exact absurd rfl he | cons a l=>exact⟨a,l,rfl⟩
 have hr2:N4 t (l0::l1) l0=true:=by
  obtain⟨h1,h2⟩:=D.ZS l0 (.head _);unfold N4;cases e:en t 0 l0 with
  | word w=>rw[e]at h2;cases h2
  | pair a b=>
   obtain⟨g1,g2⟩:=ff t h1 e;have Ñ:∀y∈l0::l1,l0<=y:=λy hy=>by
    rcases Ax.mp hy with rfl | hy
    ·exact Am _
    ·exact D4 ((Ei.mp D.ris).1 y hy)
   have na:a∉l0::l1:=λz=>by have:=Ñ a z;omega
   have nb:b∉l0::l1:=λz=>by have:=Ñ b z;omega
   show(!decide _&&!decide _)=true;rw[decide_eq_false na,decide_eq_false nb];rfl
 intro z;have:=congrArg BR z;rw[dE]at this;have m:=Bd.mpr ⟨show l0∈l0::l1 from .head _,hr2⟩;rw[List.length_eq_zero_iff.mp this]at m;cases m
theorem wo.size(g:wo t):t.size<=15:=by have:=t.size_eq;have:=g.few;omega
theorem wo.depth(g:wo t):t.depth < 8:=by have:=t.oE;have:=g.few;omega
def wN(l:O PV)(n:Int):gJ (.tup l) (.int n)=.ret (.bl ((l.length:Int)==n)):=by
 unfold gJ;simp only[ii,eM,oB,oC,df,fP]
def okJ(t:Tr)(ds:O Int)(j:Nat):Bool:=match en t 0 j with
 | .word _=>ds.getD j 0==0
 | .pair a b=>decide (ds.getD a 0 < ds.getD j 0)&&decide (ds.getD b 0 < ds.getD j 0)&&decide (1<=ds.getD j 0)&&decide (ds.getD j 0<=99)
def Mm(t:Tr)(ds:O Int):O Int:=(splits t).map (ds.getD · 0)
def UB(t:Tr)(ds:O Int):Bool:=decide (ds.length=t.size)&&(decide (Mm t ds).Nodup&&(AL t.size).all (okJ t ds))
def int_at(h:j < ds.length):d4 (bj ds) (j:Int)=ap (.int (ds.getD j 0)):=di (by
 unfold bj;rw[Al,Ad h,Aj,Ad h];rfl)
theorem WH(t:Tr)(ds:O Int)(h:ds.length=t.size):eR ((t.nd 0).map Ent.pv) (bj ds)=(AL t.size).map λj=>PV.tup [(en t 0 j).pv,.int (ds.getD j 0)]:=by
 refine Ca λj=>?_;by_cases hj:j < t.size
 ·have hl:j < (eR ((t.nd 0).map Ent.pv) (bj ds)).length:=by rw[mZ];simp[t.ba,h];exact hj
  obtain⟨x,y,hx,hy,e⟩:=rG (Ad hl);rw[Al,gI t 0 j hj]at hx;have vJ:=Option.some.inj hx;have ZY:j < ds.length:=by omega
  unfold bj at hy;rw[Al,Ad ZY]at hy;have YJ:=Option.some.inj hy;rw[Ad hl,e,<- vJ,<- YJ,Al,BO hj];show _=ap (PV.tup [_,.int (ds.getD j 0)]);rw[Aj,Ad ZY];rfl
 ·rw[AW (by rw[mZ];simp[t.ba,h];omega),AW (by simp;omega)]
theorem split_le(t:Tr)(ds:O Int)(h:ds.length=t.size)(hz:t.size<=900):fj (.tup ((t.nd 0).map Ent.pv)) (.tup (bj ds))=.ret (bj (Mm t ds)):=by
 unfold fj;have c:((t.nd 0).map Ent.pv).length<=sizeLine:=bE (by rw[Af,t.ba];omega);simp only[ii,aD,zA,mo c,WH t ds h];rw[xn (g:=λx=>match x with | .tup [.str _,_]=>bm | .tup [_,y]=>ap y | _=>bm) λx hx=>?_]
 ·congr 1;unfold Mm splits bj;generalize AL t.size=l
  induction l with
  | nil=>rfl
  | cons j l ih=>
   rw[Ap,A9,DC,ih];cases e:en t 0 j with
   | word w=>rfl
   | pair a b=>rfl
 ·obtain⟨j,hj,rfl⟩:=Av.mp hx;cases en t 0 j with
  | word w=>simp[Ent.pv]
  | pair a b=>simp[Ent.pv]
end My
variable{e:My.Ent}{es:O My.Ent}{bs:O Int}
namespace My
section
variable{α β:Type}
theorem P0{c:α->PV}{f:PV->W PV}{g:α->PV}:∀{l:List α},(∀x∈l,(f (c x)).le (.ret (g x)))->(a7 (l.map c) f).le (.ret (l.map g))
 | [],_=>W.le.refl _
 | x::r,h=>W.le.ret (h x (.head _)) (W.le.ret (P0 λy hy=>h y (.tail _ hy)) (W.le.refl _))
theorem V0{c:α->PV}{g:α->Option PV}:∀{l:List α},(∀x∈l,(f (c x)).le (.ret (g x)))->(mq (l.map c) f).le (.ret (l.filterMap g))
 | [],_=>W.le.refl _
 | x::r,h=>W.le.ret (h x (.head _)) (W.le.ret (V0 λy hy=>h y (.tail _ hy)) (W.le.of_eq (by rw[A9];cases g x <;> rfl)))
def fY{c:α->PV}{f:PV->W PV}(g:α->PV){l:List α}(h:∀x∈l,(f (c x)).le (.ret (g x)))(q:Q (l.map g)):(a7 (l.map c) f).run Q:=P0 h Q q
def Ym{c:α->PV}(g:α->Option PV){l:List α}(h:∀x∈l,(f (c x)).le (.ret (g x)))(q:Q (l.filterMap g)):(mq (l.map c) f).run Q:=V0 h Q q
theorem Wo{p:α->Bool}{g:α->β}:∀l:List α,l.filterMap (λx=>if p x=true then ap (g x) else bm)=(l.filter p).map g
 | []=>rfl
 | x::l=>by
  rw[A9,DC,Wo l];cases p x <;> rfl
end
def Rl(c:α->PV)(l:List α)(k:Nat):dH k (l.map c)=(l.zipIdx k).map λp=>PV.tup [.int ((p.2:Nat):Int),c p.1]:=by
 induction l generalizing k with
 | nil=>rfl
 | cons a l ih=>rw[Ap,dH,ih,List.zipIdx_cons,Ap]
def vp:V->PV
 | .int i=>.int i
 | .str x=>.str x
 | .bl b=>.bl b
 | _=>.ax
def ahL(t:Tr):O PV:=(ah (t.nd 0) 0 (An t.size V.ax)).map vp
@[simp] theorem L4(t:Tr):(ahL t).length=t.size:=by unfold ahL;rw[Af,J8,Bq]
def L5(t:Tr)(h:j < t.size):(ahL t)[j]?=ap (vp (kz t 0 j .ax)):=by unfold ahL;rw[Al,ZA t h];rfl
def cP(t:Tr):((t.nd 0).map Ent.pv).length=t.size:=by rw[Af,t.ba]
theorem Hs(t:Tr)(hz:t.size<=900):(gL t.pv).le (.ret (.tup (ahL t))):=λQ q=>by
 unfold gL;have c:((t.nd 0).map Ent.pv).length<=sizeLine:=bE (by rw[cP];omega);simp only[ii,ci];refine W.le.use (iY t hz) ?_;simp only[aD,im];refine P1 (λ_=>.ax) (λx hx=>rfl) ?_;simp only[mo c,im];have e0:((t.nd 0).map Ent.pv).map (λ_=>PV.ax)=(ah ((t.nd 0).take 0) 0 (An t.size V.ax)).map vp:=by
  rw[List.take_zero,ah,List.map_replicate,List.map_const',cP];rfl
 rw[e0];refine gm (λi s=>s=(ah ((t.nd 0).take i) 0 (An t.size V.ax)).map vp) rfl (λi x s hx hs=>?_) (λs hs=>?_)
 ·subst hs;have hi:i < t.size:=by have:=(Ak.mp hx).1;rw[cz,cP]at this;exact this
  obtain⟨y,hy,rfl⟩:=gz hx;have e:=gI t 0 i hi;rw[Al,e]at hy;have hy:=Option.some.inj hy;subst hy;have et:(t.nd 0).take (i+1)=(t.nd 0).take i++[en t 0 i]:=by rw[C2,e];rfl
  have ea:ah ((t.nd 0).take (i+1)) 0 (An t.size V.ax)=RX (ah ((t.nd 0).take i) 0 (An t.size V.ax)) (0+i) (en t 0 i):=by
   rw[et,y6,BG,t.ba];congr 1;omega
  have hal:(ah ((t.nd 0).take i) 0 (An t.size V.ax)).length=t.size:=by rw[J8,Bq]
  rw[ea];generalize hA:ah ((t.nd 0).take i) 0 (An t.size V.ax)=A at hal ⊢;unfold c7;cases en':en t 0 i with
  | word w=>simp[Ent.pv,cA,RX]
  | pair a b=>
   obtain⟨ha,hb⟩:=ff t hi en';have s1:ku (A.map vp) (.int (a:Int)) (.int ((0+i:Nat):Int))=.ret ((A.map vp).set a (.int ((0+i:Nat):Int))):=nr (by rw[Af];omega);have s2:ku ((A.map vp).set a (.int ((0+i:Nat):Int))) (.int (b:Int)) (.int ((0+i:Nat):Int))=.ret (((A.map vp).set a (.int ((0+i:Nat):Int))).set b (.int ((0+i:Nat):Int))):=nr (by rw[BQ,Af];omega);simp only[Ent.pv,kW,im,eM,lS,bo,ci,Ao,if_false,aD,cA,ii,s1,s2];show _=F1 vp ((A.set a _).set b _);rw[EX,EX];rfl
 ·subst hs;simp only[cz,Af];rw[C4];exact q
def Lg(e:Ent)(j:Nat):PV:=match e with | .word x=>.str x | .pair _ _=>.int (j:Int)
def HL(t:Tr)(ds:O Int)(b:Int)(j:Nat):Bool:=decide (ds.getD j 0<=b)&&(match kz t 0 j .ax with | .int a=>decide (b < ds.getD a.toNat 0) | _=>true)
def zO(t:Tr)(ds:O Int)(b:Int)(n j:Nat):O (Nat×Nat):=((AL j).filter (HL t ds b)).map λk=>(k,n)
def aK(t:Tr)(ds bs:O Int):Nat->O (Nat×Nat)
 | 0=>[]
 | i+1=>aK t ds bs i++zO t ds (bs.getD i 0) i t.size
def N5(l:O (Nat×Nat)):O PV:=l.map λp=>.tup [.int (p.1:Int),.int (p.2:Int)]
def wH(t:Tr)(ds:O Int)(b:Int)(n j:Nat):(zO t ds b n j).length<=j:=by
 unfold zO;rw[Af];refine Bv (Bz _ _) ?_;rw[CU];exact Am _
theorem jq(t:Tr)(ds bs:O Int):∀i,(aK t ds bs i).length<=i*t.size
 | 0=>A8 _
 | i+1=>by
  rw[aK,Ai];have h1:=jq t ds bs i;have h2:=wH t ds (bs.getD i 0) i t.size;rw[EU];omega
def OE(t:Tr)(ds:O Int)(b:Int)(n j:Nat):zO t ds b n (j+1)=zO t ds b n j++(if HL t ds b j then [(j,n)] else []):=by
 unfold zO;rw[List.range_succ,El,AO];congr 1;by_cases c:HL t ds b j <;> simp[c]
def sT(p:Nat×Nat):O Key:=[.inl (p.1:Int),.inl (p.2:Int)]
theorem Gx{p q:Nat×Nat}(h:sT p=sT q):p=q:=by
 obtain⟨a,b⟩:=p;obtain⟨c,d⟩:=q;simp[sT]at h;obtain⟨h1,h2⟩:=h;exact Prod.ext (by show a=c;omega) (by show b=d;omega)
def mF:Nat->O (Nat×Nat)->O (O Key×PV)
 | _,[]=>[]
 | k,p::l=>(sT p,.int (k:Int))::mF (k+1) l
theorem lK:∀(k:Nat) (l:O (Nat×Nat)),(mF k l).map (·.1)=l.map sT
 | _,[]=>rfl
 | k,p::l=>by rw[mF,Ap,Ap,lK (k+1) l]
def Gb(k:Nat)(l:O (Nat×Nat)):(mF k l).length=l.length:=by have:=congrArg BR (lK k l);simpa using this
theorem so:∀(k:Nat) (l:O (Nat×Nat)) (p:Nat×Nat),p∈l->cR (mF k l) (sT p)=ap (.int ((k+l.idxOf p:Nat):Int))
 | k,q::l,p,h=>by
  rw[List.idxOf_cons];by_cases c:q=p
  ·subst c;simp[mF,cR]
  ·have hp:p∈l:=(Ax.mp h).elim (λz=>absurd z.symm c) id;have ih:=so (k+1) l p hp;have c2:sT q≠sT p:=λz=>c (Gx z);have c3:(q==p)=false:=by simpa using c
   have e:cR (mF k (q::l)) (sT p)=cR (mF (k+1) l) (sT p):=by simp[mF,cR,c2]
   rw[e,ih,c3];congr 2;show((k+1+l.idxOf p:Nat):Int)=((k+(l.idxOf p+1):Nat):Int);omega
def HP(e:Ent)(j:Nat)(d b:Int):O Nat:=if d < b then [j] else match e with | .word _=>[] | .pair x y=>[x,y]
def Zv(l:O (Nat×Nat))(j n:Nat):O Nat:=(l.filter λp=>decide (p.2=n)&&!decide (p.1=j)).map λp=>l.idxOf p
def LO(e:Ent)(l:O (Nat×Nat))(j n:Nat)(d b:Int):PV:=.tup [Lg e j,.int (n:Int),.tup (aQ ((HP e j d b).map λx=>l.idxOf (x,n-1))),.tup (aQ (Zv l j n))]
def Lj{f:α->β}(hf:∀x y,f x=f y->x=y){l:List α}(h:l.Nodup):(l.map f).Nodup:=List.Pairwise.map f (λa b n z=>n (hf a b z)) h
def Mj(t:Tr)(ds:O Int)(b:Int)(n j:Nat):(zO t ds b n j).Nodup:=by
 exact Lj (λx y h=>(Prod.mk.inj h).1) (List.Pairwise.filter _ List.nodup_range)
theorem gC:∀{i:Nat}{p:Nat×Nat},p∈aK t ds bs i->p.2 < i/\p.1 < t.size
 | 0,_,h=>by simp[aK]at h
 | i+1,p,h=>by
  rw[aK]at h;rcases AE.mp h with h | h
  ·have:=gC h;omega
  ·obtain⟨k,hk,rfl⟩:=Av.mp h;have:=A5.mp (Bd.mp hk).1;exact⟨EJ _,this⟩
theorem jo(t:Tr)(ds bs:O Int):∀i,(aK t ds bs i).Nodup
 | 0=>Ej
 | i+1=>by
  rw[aK];refine List.nodup_append.mpr ⟨jo t ds bs i,Mj _ _ _ _ _,λa ha b hb z=>?_⟩;subst z;have h1:=(gC ha).1;obtain⟨k,_,rfl⟩:=Av.mp hb;exact AX _ h1
def kM(h:l[k]?=ap v):Wb l (.int (k:Int))=.ret v:=by
 rw[cF,di h];rfl
def G4(ds:O Int)(h:(dH 0 (bj ds))[i]?=ap x):i < ds.length/\x=.tup [.int (i:Int),.int (ds.getD i 0)]:=by
 have hi:i < ds.length:=by have:=(Ak.mp h).1;rw[cz,fD]at this;exact this
 obtain⟨y,hy,rfl⟩:=gz h;unfold bj at hy;rw[Al,Ad hi]at hy;have hy:=Option.some.inj hy;subst hy;refine⟨hi,?_⟩;rw[AH,Aj,Ad hi];rfl
theorem zN(t:Tr)(ds bs:O Int)(hd:ds.length=t.size)(hz:t.size<=100)(hb:bs.length*t.size<=900)(hb2:bs.length<=900):(jz t.pv (.tup (bj ds)) (.cl (bj bs))).le (.ret (N5 (aK t ds bs bs.length))):=λQ q=>by
 unfold jz;have c1:(bj bs).length<=sizeLine:=bE (by rw[fD];omega);have c2:(bj ds).length<=sizeLine:=bE (by rw[fD];omega);simp only[ii,ci];refine W.le.use (Hs t ∅) ?_;simp only[bp,im,mo c1];refine gm (λi s=>s=N5 (aK t ds bs i)) rfl (λi x s hx hs=>?_) (λs hs=>?_)
 ·subst hs;obtain⟨hi,rfl⟩:=G4 bs hx;simp only[kW,im,ci,aD,mo c2];have hl:=jq t ds bs i;have hm:i*t.size+t.size<=900:=by
   have:(i+1)*t.size<=bs.length*t.size:=Fu _ hi;rw[EU]at this;omega
  refine gm (λj s=>s=N5 (aK t ds bs i++zO t ds (bs.getD i 0) i j)) (by simp[zO]) (λj x s hx hs=>?_) (λs hs=>?_)
  ·subst hs;obtain⟨hj,rfl⟩:=G4 ds hx;have Sd:=wH t ds (bs.getD i 0) i j;simp only[kW,im,ci];rw[OE];have ZX:j < t.size:=by omega
   have Ģ:HL t ds (bs.getD i 0) j=true->(gY (N5 (aK t ds bs i++zO t ds (bs.getD i 0) i j)) (PV.tup [.int (j:Int),.int (i:Int)])).run λs=>s=N5 (aK t ds bs i++(zO t ds (bs.getD i 0) i j++if HL t ds (bs.getD i 0) j=true then [(j,i)] else [])):=λc=>by
    rw[c8 (by unfold N5;rw[Af,Ai];omega),if_pos c];unfold N5;rw[<- AA,AO (l₂:=[(j,i)])];rfl
   have no:HL t ds (bs.getD i 0) j=false->N5 (aK t ds bs i++zO t ds (bs.getD i 0) i j)=N5 (aK t ds bs i++(zO t ds (bs.getD i 0) i j++if HL t ds (bs.getD i 0) j=true then [(j,i)] else [])):=λc=>by rw[c];simp
   generalize eb:bs.getD i 0=b at Ģ no ⊢;generalize ed:ds.getD j 0=d at *;simp only[ii,ci,acT,im,bB,aD,kM (L5 t ZX)];by_cases c:d<=b
   ·simp only[c,decide_true,if_true,ci,im];rcases rO t 0 j .ax [] ZX with⟨_,e,_⟩ | ⟨a,_,ha,e,_⟩
    ·have sb:HL t ds b j=true:=by unfold HL;rw[e,ed];simp[c]
     rw[e];simp only[vp,kX,im,bB,PV.dq,if_true];exact Ģ sb
    ·rw[AH]at e;have sb:HL t ds b j=decide (b < ds.getD a 0):=by unfold HL;rw[e,ed];simp[c]
     rw[e];have i2:d4 (bj ds) (a:Int)=ap (.int (ds.getD a 0)):=int_at ∅;simp only[vp,kX,im,bB,PV.dq,Ao,if_false,cF,i2,wS,LJ,ii];by_cases c2:b < ds.getD a 0
     ·rw[decide_eq_true c2]at sb ⊢;exact Ģ sb
     ·rw[decide_eq_false c2]at sb ⊢;exact no sb
   ·have sb:HL t ds b j=false:=by unfold HL;rw[ed];simp[c]
    simp only[c,decide_false,Ao,if_false,im];exact no sb
  ·subst hs;rw[cz,fD,hd];rfl
 ·subst hs;rw[cz,fD];exact q
def T3{l:O (Nat×Nat)}(h:l≠[])(k:Nat):mF k l≠[]:=by cases l with | nil=>exact absurd rfl h | cons a l=>simp[mF]
def Iy(k:Nat)(l:O (Nat×Nat)):((mF k l).map λkv=>PV.tup (kv.1.map kP))=l.map λp=>PV.tup [.int (p.1:Int),.int (p.2:Int)]:=by
 have:=congrArg (F1 λx:O Key=>PV.tup (x.map kP)) (lK k l);rw[Ay,Ay]at this;exact this
theorem SK{l:O (Nat×Nat)}(h1:es[j]?=ap e)(h2:j < ds.length)(h3:n < bs.length)(hl:l.length<=1000)(h0:l≠[])
  (hb:∀x∈HP e j (ds.getD j 0) (bs.getD n 0),1<=n/\(x,n-1)∈l) :
  (lM (.tup (es.map Ent.pv)) (.tup (bj ds)) (.cl (bj bs)) (yP (mF 0 l)) (.tup [.int (j:Int),.int (n:Int)])).le (.ret (LO e l j n (ds.getD j 0) (bs.getD n 0))):=λQ q=>by
 unfold lM;have i0:d4 [PV.int (j:Int),PV.int (n:Int)] 0=ap (.int j):=rfl;have i1:d4 [PV.int (j:Int),PV.int (n:Int)] 1=ap (.int n):=rfl;have i2:d4 (bj ds) (j:Int)=ap (.int (ds.getD j 0)):=int_at h2;have i3:d4 (bj bs) (n:Int)=ap (.int (bs.getD n 0)):=int_at h3;have i4:d4 (es.map Ent.pv) (j:Int)=ap e.pv:=di (by rw[Al,h1];rfl);simp only[ii,ci,aD,bp,cF,i0,i1,i2,i3,i4,wS,im,LJ,bo];generalize hdj:ds.getD j 0=d at *;generalize hbn:bs.getD n 0=b at *;have below:∀{R:PV->Prop},R (.tup (aQ (HP e j d b)))->(if decide (d < b)=true then bd (PV.tup [PV.int (j:Int)]) else c7 e.pv).run R:=λ{R} r=>by
  unfold HP at r;unfold c7;by_cases c:d < b
  ·rw[if_pos c]at r;simpa[c]using r
  ·cases e with
   | word w=>simpa[c,Ent.pv]using r
   | pair a b=>simpa[c,Ent.pv]using r
 refine below ?_;refine fY (λx=>.int ((l.idxOf (x,n-1):Nat):Int)) (λk hk=>?_) ?_
 ·obtain⟨g1,g2⟩:=hb k hk;intro R r;have en1:(n:Int)-1=((n-1:Nat):Int):=by omega
  simp only[Si,ii,ci,tH,im,en1];rw[show PV.tup [.int (k:Int),.int ((n-1:Nat):Int)]=.tup ((sT (k,n-1)).map kP) from rfl];refine rC (so 0 l (k,n-1) g2) ?_;rw[AH];exact r
 simp only[ci,Q8,im];refine MY (T3 h0 0) (by rw[Gb];exact hl) ?_;rw[Iy];refine Ym (λp=>if (decide (p.2=n)&&!decide (p.1=j))=true then ap (.int ((l.idxOf p:Nat):Int)) else bm) (λp hp=>?_) ?_
 ·intro R r;obtain⟨u,v⟩:=p;have j0:d4 [PV.int (u:Int),PV.int (v:Int)] 0=ap (.int u):=rfl;have j1:d4 [PV.int (u:Int),PV.int (v:Int)] 1=ap (.int v):=rfl;simp only[Si,ii,ci,aD,cF,j0,j1,wS,im,fP,Ra,bB];have get:∀{R:PV->Prop},R (.int ((l.idxOf (u,v):Nat):Int))->(dgW (yP (mF 0 l)) (PV.tup [.int (u:Int),.int (v:Int)])).run R:=λ{R} r=>by
   refine rC (so 0 l (u,v) hp) ?_;rw[AH];exact r
  by_cases c1:v=n
  ·subst c1;by_cases c2:u=j
   ·subst c2;simp only[beq_self_eq_true,CM,if_true,im,Ao,if_false];simpa using r
   ·have c3:((u:Int)==(j:Int))=false:=by simp;omega
    simp only[beq_self_eq_true,c3,C3,if_true,im,ci];refine get ?_;simpa[c2]using r
  ·have c3:((v:Int)==(n:Int))=false:=by simp;omega
   simp only[c3,Ao,if_false,im];simpa[c1]using r
 rw[Wo];have nm:∀{R:PV->Prop},R (Lg e j)->(e6 (.tup (es.map Ent.pv)) (.int (j:Int))).run R:=λ{R} r=>by
  unfold e6;simp only[ii,ci,aD,cF,i4,wS,im];cases e with
  | word w=>simpa[Ent.pv,Lg]using r
  | pair a b=>simpa[Ent.pv,Lg]using r
 refine nm ?_;have e1:(l.filter λp=>decide (p.2=n)&&!decide (p.1=j)).map (λp=>PV.int ((l.idxOf p:Nat):Int))=aQ (Zv l j n):=by
  unfold aQ Zv;rw[Ay];rfl
 have e2:(HP e j d b).map (λx=>PV.int ((l.idxOf (x,n-1):Nat):Int))=aQ ((HP e j d b).map λx=>l.idxOf (x,n-1)):=by
  unfold aQ;rw[Ay];rfl
 rw[e1,e2];exact q
def dgL(t:Tr)(ds bs:O Int):O PV:=(aK t ds bs bs.length).map λp=>LO (en t 0 p.1) (aK t ds bs bs.length) p.1 p.2 (ds.getD p.1 0) (bs.getD p.2 0)
def okD(t:Tr)(ds bs:O Int):Prop:=∀p∈aK t ds bs bs.length,∀x∈HP (en t 0 p.1) p.1 (ds.getD p.1 0) (bs.getD p.2 0),1<=p.2/\(x,p.2-1)∈aK t ds bs bs.length
theorem su:∀(k:Nat) (l:O (Nat×Nat)),(l.zipIdx k).map (λp=>PV.tup [PV.tup [.int (p.1.1:Int),.int (p.1.2:Int)],.int ((p.2:Nat):Int)])=(mF k l).map K7
 | _,[]=>rfl
 | k,p::l=>by rw[List.zipIdx_cons,Ap,su (k+1) l];rfl
def aR(t:Tr)(ds:O Int):O Int:=0::sortI (Mm t ds)
def KL(t:Tr)(ds:O Int):(Mm t ds).length<=t.size:=by
 unfold Mm splits;rw[Af];have:=Bz (λj=>uI (en t 0 j)) (AL t.size);rw[CU]at this;exact this
def vn{x:Int}{l:O Int}:x∈sortI l↔x∈l:=(C8 l _).mem_iff
def o8(l:O Int):(sortI l).length=l.length:=(C8 l _).length_eq
theorem RG(t:Tr)(ds:O Int)(hd:ds.length=t.size)(hz:t.size<=25)(h0:aK t ds (aR t ds) (aR t ds).length≠[])(ok:okD t ds (aR t ds)):(nS t.pv (.tup (bj ds))).le (.ret (.tup (dgL t ds (aR t ds)))):=λQ q=>by
 unfold nS;simp only[ii,ci];refine W.le.use (iY t ∅) ?_;have hs:=KL t ds;have hl:(aR t ds).length<=t.size+1:=by unfold aR;rw[Ar,o8];omega
 have e2:wJ (bj (Mm t ds))=.ret (bj (sortI (Mm t ds))):=by
  unfold wJ bj;rw[gs];show W.eQ _ _=_;rw[mo ∅]
 have e3:kx [PV.int 0] (bj (sortI (Mm t ds)))=.ret (bj (aR t ds)):=by
  rw[eN (by rw[fD,o8];simp;omega)];rfl
 simp only[split_le t ds hd ∅,im,e2,e3];have hb:(aR t ds).length*t.size<=900:=by
  have:(aR t ds).length*t.size<=26*25:=Nat.mul_le_mul ∅ hz;omega
 refine W.le.use (zN t ds (aR t ds) hd ∅ hb ∅) ?_;generalize hL:aK t ds (aR t ds) (aR t ds).length=L at *;have hLl:L.length<=900:=by rw[<- hL];exact Bv (jq _ _ _ _) hb
 have hLm:∀p∈L,p.2 < (aR t ds).length/\p.1 < t.size:=λp hp=>gC (hL▸hp);have c:(N5 L).length<=sizeLine:=bE (by unfold N5;rw[Af];omega);simp only[bp,im,mo c,ii];unfold N5;rw[Rl];refine fY (λp:(Nat×Nat)×Nat=>PV.tup [PV.tup [.int (p.1.1:Int),.int (p.1.2:Int)],.int ((p.2:Nat):Int)]) (λp _ R r=>by simpa using r) ?_;rw[su];refine Ny ?_ (by rw[Gb];omega) ?_
 ·rw[lK];exact Lj (λ_ _ h=>Gx h) (hL▸jo t ds _ _)
 refine fY (λp:Nat×Nat=>LO (en t 0 p.1) L p.1 p.2 (ds.getD p.1 0) ((aR t ds).getD p.2 0)) (λp hp=>?_) ?_
 ·obtain⟨g1,g2⟩:=hLm p hp;refine SK (gI t 0 p.1 g2) ∅ g1 ∅ h0 λx hx=>?_;have:=ok p (by rw[hL];exact hp) x hx;rw[hL]at this;exact this
 ·have:dgL t ds (aR t ds)=L.map λp:Nat×Nat=>LO (en t 0 p.1) L p.1 p.2 (ds.getD p.1 0) ((aR t ds).getD p.2 0):=by unfold dgL;rw[hL]
  rw[<- this];exact q
theorem iM:∀(t:Tr) (o x:Nat) (p:V),x < t.size->(x=t.size-1/\kz t o x p=p)\/∃a u v,x < a/\a < t.size/\kz t o x p=.int ((o+a:Nat):Int)/\en t o a=.pair u v/\(u=o+x\/v=o+x)
 | .leaf _,o,x,p,h=>.inl ⟨by have:x < 1:=h;show x=0;omega,rfl⟩
 | .node l r,o,x,p,h=>by
  have es:(Tr.node l r).size=l.size+r.size+1:=rfl;have top:en (.node l r) o (l.size+r.size)=.pair (o+l.size-1) (o+l.size+r.size-1):=by rw[en,if_neg ∅,if_neg ∅]
  by_cases c1:x < l.size
  ·rw[show kz (.node l r) o x p=kz l o x (.int (o+l.size+r.size:Nat)) by rw[kz,if_pos c1]];rcases iM l o x (.int (o+l.size+r.size:Nat)) c1 with⟨h1,h2⟩ | ⟨a,u,v,h1,h2,h3,h4,h5⟩
   ·exact .inr ⟨l.size+r.size,_,_,by omega,by omega,by rw[h2,Bl],top,.inl ∅⟩
   ·exact .inr ⟨a,u,v,h1,by omega,h3,by rw[en,if_pos h2];exact h4,h5⟩
  ·by_cases c2:x < l.size+r.size
   ·rw[show kz (.node l r) o x p=kz r (o+l.size) (x-l.size) (.int (o+l.size+r.size:Nat)) by rw[kz,if_neg c1,if_pos c2]];rcases iM r (o+l.size) (x-l.size) (.int (o+l.size+r.size:Nat)) ∅ with⟨h1,h2⟩ | ⟨a,u,v,h1,h2,h3,h4,h5⟩
    ·exact .inr ⟨l.size+r.size,_,_,by omega,by omega,by rw[h2,Bl],top,.inr ∅⟩
    ·refine .inr ⟨l.size+a,u,v,by omega,by omega,by rw[h3,Bl],?_,by omega⟩;rw[en,if_neg ∅,if_pos ∅,EK];exact h4
   ·exact .inl ⟨by omega,by rw[kz,if_neg c1,if_neg c2]⟩
theorem JE:∀(t:Tr) (o j:Nat) (p:V) (a b:Nat),j < t.size->en t o j=.pair a b->o<=a/\o<=b/\a < o+j/\b < o+j/\a < b/\kz t o (a-o) p=.int ((o+j:Nat):Int)/\kz t o (b-o) p=.int ((o+j:Nat):Int)
 | .leaf _,o,j,p,a,b,h,e=>by rw[en]at e;cases e
 | .node l r,o,j,p,a,b,h,e=>by
  have es:(Tr.node l r).size=l.size+r.size+1:=rfl;have lp:=l.size_pos;have rp:=r.size_pos;by_cases c1:j < l.size
  ·rw[en,if_pos c1]at e;obtain⟨h1,h2,h3,h4,h5,h6,h7⟩:=JE l o j (.int (o+l.size+r.size:Nat)) a b c1 e;refine⟨h1,h2,h3,h4,h5,?_,?_⟩
   ·rw[kz,if_pos ∅];exact h6
   ·rw[kz,if_pos ∅];exact h7
  ·by_cases c2:j < l.size+r.size
   ·rw[en,if_neg c1,if_pos c2]at e;obtain⟨h1,h2,h3,h4,h5,h6,h7⟩:=JE r (o+l.size) (j-l.size) (.int (o+l.size+r.size:Nat)) a b ∅ e;refine⟨by omega,by omega,by omega,by omega,h5,?_,?_⟩
    ·rw[kz,if_neg ∅,if_pos ∅,Nat.sub_sub,h6,show o+l.size+(j-l.size)=o+j by omega]
    ·rw[kz,if_neg ∅,if_pos ∅,Nat.sub_sub,h7,show o+l.size+(j-l.size)=o+j by omega]
   ·rw[en,if_neg c1,if_neg c2]at e;injection e with e1 e2;subst e1;subst e2;have hj:j=l.size+r.size:=by omega
    subst hj;have ì:∀(t:Tr) (o:Nat) (p:V),kz t o (t.size-1) p=p:=λt o p=>by
     have tp:=t.size_pos;rcases iM t o (t.size-1) p ∅ with⟨_,h⟩ | ⟨a,_,_,h1,h2,_⟩
     ·exact h
     ·omega
    refine⟨by omega,by omega,by omega,by omega,by omega,?_,?_⟩
    ·rw[kz,if_pos ∅,show o+l.size-1-o=l.size-1 by omega,ì,Bl]
    ·rw[kz,if_neg ∅,if_pos ∅,show o+l.size+r.size-1-o-l.size=r.size-1 by omega,ì,Bl]
structure DD(t:Tr)(ds:List Int):Prop where
 len:ds.length=t.size
 leaf:∀j w,j < t.size->en t 0 j=.word w->ds.getD j 0=0
 pair:∀j a b,j < t.size->en t 0 j=.pair a b->ds.getD a 0 < ds.getD j 0/\ds.getD b 0 < ds.getD j 0/\1<=ds.getD j 0
 nd:(Mm t ds).Nodup
def DD.of(h:UB t ds=true):DD t ds:=by
 unfold UB at h;rw[Aw,Aw,decide_eq_true_iff,decide_eq_true_iff]at h;obtain⟨h1,h2,h3⟩:=h;have h4:∀j,j < t.size->okJ t ds j=true:=λj hj=>Cf.mp h3 j (A5.mpr hj);refine⟨h1,λj w hj e=>?_,λj a b hj e=>?_,h2⟩
 ·have:=h4 j hj;unfold okJ at this;rw[e]at this;exact eq_of_beq this
 ·have:=h4 j hj;unfold okJ at this;rw[e]at this;rw[Aw,Aw,Aw,decide_eq_true_iff,decide_eq_true_iff,decide_eq_true_iff,decide_eq_true_iff]at this;exact⟨this.1.1.1,this.1.1.2,this.1.2⟩
def DD.mem(D:DD t ds)(hj:j < t.size):ds.getD j 0∈aR t ds:=by
 cases e:en t 0 j with
 | word w=>rw[D.leaf j w hj e];exact .head _
 | pair a b=>
  refine AZ _ (vn.mpr ?_);exact Av.mpr ⟨j,Bd.mpr ⟨A5.mpr hj,by rw[e];rfl⟩,rfl⟩
theorem OH(l:O Int):(sortI l).Pairwise (·<=·):=(EL (le:=λa b=>decide (a<=b)) (λa b c=>by simp;omega) (λa b=>by simp;omega) l).imp (by simp)
theorem DD.inc(D:DD t ds):(aR t ds).Pairwise (· < ·):=by
 unfold aR;refine Ei.mpr ⟨λx hx=>?_,?_⟩
 ·have hx:=vn.mp hx;unfold Mm splits at hx;obtain⟨j,hj,rfl⟩:=Av.mp hx;obtain⟨h1,h2⟩:=Bd.mp hj;cases e:en t 0 j with
  | word w=>rw[e]at h2;cases h2
  | pair a b=>have:=(D.pair j a b (A5.mp h1) e).2.2;omega
 ·have nd:(sortI (Mm t ds)).Nodup:=(C8 _ _).nodup_iff.mpr D.nd;exact(List.Pairwise.and (OH _) nd).imp λ⟨h1,h2⟩=>Int.lt_iff_le_and_ne.mpr ⟨h1,h2⟩
theorem sW{l:O Int}(h:l.Pairwise (· < ·))(hn:n < l.length){x:Int}(hx:x∈l)(lt:x < l.getD n 0):1<=n/\x<=l.getD (n-1) 0:=by
 obtain⟨i,hi,rfl⟩:=DZ hx;have gd:∀{k} (hk:k < l.length),l.getD k 0=l[k]:=λ{k} hk=>by rw[Aj,Ad hk];rfl
 rw[gd hn]at lt;have c:i < n:=by
  rcases Dn i n with c | c
  ·exact c
  ·rcases Eh c with c | c
   ·subst c;omega
   ·have:=BU.mp h _ _ hn hi c;omega
 refine⟨by omega,?_⟩;rw[gd ∅];rcases Eh (show i<=n-1 by omega) with c2 | c2
 ·subst c2;exact CB _
 ·have:=BU.mp h _ _ hi ∅ c2;omega
theorem xM{l:O Int}(h:l.Pairwise (· < ·))(hn:n < l.length)(hi:i < n):l.getD i 0 < l.getD n 0:=by
 have gd:∀{k} (hk:k < l.length),l.getD k 0=l[k]:=λ{k} hk=>by rw[Aj,Ad hk];rfl
 rw[gd hn,gd ∅];exact BU.mp h _ _ ∅ hn hi
theorem cg{t:Tr}{ds bs:O Int}:∀{m:Nat}{j n:Nat},(j,n)∈aK t ds bs m↔n < m/\j < t.size/\HL t ds (bs.getD n 0) j=true
 | 0,j,n=>by simp[aK]
 | m+1,j,n=>by
  rw[aK,AE,cg];unfold zO;rw[Av]
  constructor
  ·rintro (⟨h1,h2,h3⟩ | ⟨k,hk,e⟩)
   ·exact⟨by omega,h2,h3⟩
   ·obtain⟨h1,h2⟩:=Bd.mp hk;injection e with e1 e2;subst e1;subst e2;exact⟨by omega,A5.mp h1,h2⟩
  ·rintro⟨h1,h2,h3⟩;by_cases c:n=m
   ·subst c;exact .inr ⟨j,Bd.mpr ⟨A5.mpr h2,h3⟩,rfl⟩
   ·exact .inl ⟨by omega,h2,h3⟩
theorem fW{b:Int}(hj:j < t.size):HL t ds b j=true↔ds.getD j 0<=b/\∀a,kz t 0 j .ax=.int ((a:Nat):Int)->b < ds.getD a 0:=by
 unfold HL;rw[Aw,decide_eq_true_iff];rcases iM t 0 j .ax hj with⟨_,e⟩ | ⟨a,u,v,_,ha,e,_,_⟩
 ·rw[e];exact⟨λh=>⟨h.1,λa z=>by cases z⟩,λh=>⟨h.1,rfl⟩⟩
 ·rw[AH]at e;rw[e];refine⟨λh=>⟨h.1,λa' z=>?_⟩,λh=>⟨h.1,?_⟩⟩
  ·injection z with z;have:a=a':=by omega
   subst this;simpa using h.2
  ·simpa using h.2 a rfl
theorem DD.ok(D:DD t ds):okD t ds (aR t ds):=by
 rintro⟨j,n⟩ hp x hx;obtain⟨hn,hj,hs⟩:=cg.mp hp;obtain⟨HM,rm⟩:=(fW hj).mp hs;have inc:=D.inc;show 1<=n/\(x,n-1)∈_;unfold HP at hx;by_cases c:ds.getD j 0 < (aR t ds).getD n 0
 ·rw[if_pos c]at hx;have:x=j:=by simpa using hx
  subst this;obtain⟨g1,g2⟩:=sW inc hn (D.mem hj) c;have lt:=xM inc hn (show n-1 < n by omega);exact⟨g1,cg.mpr ⟨by omega,hj,(fW hj).mpr ⟨g2,λa e=>by have:=rm a e;omega⟩⟩⟩
 ·rw[if_neg c]at hx;cases e:en t 0 j with
  | word w=>rw[e]at hx;cases hx
  | pair a b=>
   rw[e]at hx;obtain⟨p1,p2,p3⟩:=D.pair j a b hj e;obtain⟨_,_,a1,a2,_,a3,a4⟩:=JE t 0 j .ax a b hj e;rw[AH,FQ]at *;have hx:x=a\/x=b:=by simpa using hx
   have key:x < t.size/\ds.getD x 0 < ds.getD j 0/\kz t 0 x .ax=.int ((j:Nat):Int):=by
    rcases hx with rfl | rfl
    ·exact⟨by omega,p1,a3⟩
    ·exact⟨by omega,p2,a4⟩
   obtain⟨k1,k2,k3⟩:=key;obtain⟨g1,g2⟩:=sW inc hn (D.mem k1) ∅;have lt:=xM inc hn (show n-1 < n by omega);refine⟨g1,cg.mpr ⟨by omega,k1,(fW k1).mpr ⟨g2,λa' e'=>?_⟩⟩⟩;rw[k3]at e';injection e' with e';have:j=a':=by omega
   subst this;omega
theorem LN:∀(t:Tr) (o:Nat),∃w,en t o 0=.word w
 | .leaf w,o=>⟨w,rfl⟩
 | .node l r,o=>by rw[en,if_pos (show 0 < l.size from l.size_pos)];exact LN l o
theorem DD.ne(D:DD t ds):aK t ds (aR t ds) (aR t ds).length≠[]:=by
 intro z;have:(0,0)∈aK t ds (aR t ds) (aR t ds).length:=by
  obtain⟨w,e⟩:=LN t 0;refine cg.mpr ⟨by simp[aR],t.size_pos,(fW t.size_pos).mpr ⟨?_,λa ea=>?_⟩⟩
  ·rw[D.leaf 0 w t.size_pos e];exact CB _
  ·rcases iM t 0 0 .ax t.size_pos with⟨_,e⟩ | ⟨a',u,v,_,ha,e,ep,_⟩
   ·rw[e]at ea;cases ea
   ·rw[e,AH]at ea;injection ea with ea;have:a'=a:=by omega
    subst this;have:=(D.pair a' u v ha ep).2.2;show(0:Int) < _;omega
 rw[z]at this;cases this
def RF(D:DD t ds)(hz:t.size<=25):(nS t.pv (.tup (bj ds))).le (.ret (.tup (dgL t ds (aR t ds)))):=RG t ds D.len hz D.ne D.ok
def WR(t:Tr):O PV:=(AL t.size).map λj=>.tup (aQ (up t 0 j []))
@[simp] theorem Sx(t:Tr):(WR t).length=t.size:=by unfold WR;simp
def Kp(t:Tr)(h:j < t.size):(WR t)[j]?=ap (.tup (aQ (up t 0 j []))):=by unfold WR;simp[h]
theorem WQ(t:Tr):∀(k j:Nat),j+k+1=t.size->(up t 0 j []).length<=k+1:=λk=>by
 induction k using Cn with
 | ind k ih=>
  intro j hj;rcases rO t 0 j .ax [] ∅ with⟨q1,q2,q3⟩ | ⟨a,q1,q2,q3,q4⟩
  ·rw[q3];show 1<=k+1;omega
  ·rw[q4,Ar];have:=ih (t.size-a-1) ∅ a ∅;omega
theorem aat(t:Tr)(h:j < t.size):(up t 0 j []).length<=t.size:=by
 have:=WQ t (t.size-j-1) j ∅;omega
def HZ(t:Tr)(i:Nat):O PV:=(AL t.size).map λj=>if j+i < t.size then .tup [] else .tup (aQ (up t 0 j []))
def qR(t:Tr)(i:Nat):(HZ t i).length=t.size:=by unfold HZ;simp
def Ko(t:Tr)(i:Nat)(h:j < t.size)(c:¬j+i < t.size):(HZ t i)[j]?=ap (.tup (aQ (up t 0 j []))):=by unfold HZ;simp[h,c]
theorem Sv(t:Tr)(i j:Nat)(h:j+i+1=t.size):(HZ t i).set j (.tup (aQ (up t 0 j [])))=HZ t (i+1):=by
 apply Ca;intro k;by_cases hk:k < t.size
 ·by_cases e:j=k
  ·subst e;rw[CG (by rw[qR];exact hk),Ko t (i+1) hk ∅]
  ·rw[B3 e];unfold HZ;simp only[Al,BO hk,CI];by_cases c:k+i < t.size
   ·rw[if_pos c,if_pos ∅]
   ·rw[if_neg c,if_neg ∅]
 ·rw[AW (by rw[BQ,qR];omega),AW (by rw[qR];omega)]
def aau(t:Tr):HZ t 0=An t.size (.tup []):=by
 apply Ca;intro k;unfold HZ;by_cases hk:k < t.size
 ·simp[hk]
 ·simp[hk]
theorem Sw(t:Tr):HZ t t.size=WR t:=by
 apply BN;intro j _;rw[if_neg ∅]
theorem P5(t:Tr)(hz:t.size<=900):(jB t.pv).le (.ret (WR t)):=λQ q=>by
 unfold jB;simp only[ii,ci];refine W.le.use (Hs t hz) ?_;simp only[aD,im];refine P1 (λ_=>.tup []) (λx hx=>rfl) ?_;have e0:(ahL t).map (λ_=>PV.tup [])=HZ t 0:=by rw[List.map_const',L4,aau]
 have en:(((t.size:Nat):Int)-1 - -1).toNat=t.size:=by omega
 rw[e0];simp only[df,L4,ii,tH,im,yp,UX,en];refine⟨⟨trivial,bf ∅ ∅⟩,?_⟩;show(cA _ _ _).run _;refine gm (λi s=>s=HZ t i) rfl (λi x s hx hs=>?_) (λs hs=>?_)
 ·subst hs;obtain⟨hi,rfl⟩:=vP hx;obtain⟨j,hj⟩:∃j:Nat,j=t.size-1-i:=⟨_,rfl⟩;have ej:(((t.size:Nat):Int)-1-(i:Int))=(j:Int):=by omega
  rw[ej];have ZX:j < t.size:=by omega
  have fin:∀l:O PV,l.length<=900->.int (j:Int)::l=aQ (up t 0 j [])->(am (addW (.tup [.int (j:Int)]) (.tup l)) λx=>ku (HZ t i) (.int (j:Int)) x).run λs=>s=HZ t (i+1):=λl hl he=>by
   rw[yu,mo (bE (by simp;omega))];show(ku _ _ (.tup (.int (j:Int)::l))).run _;rw[he,nr (by rw[qR];exact ZX),Sv t i j ∅];rfl
  simp only[ii,ci,kM (L5 t ZX),im];rcases rO t 0 j .ax [] ZX with⟨_,e,e2⟩ | ⟨a,ha1,ha,e,e2⟩
  ·rw[e];simp only[vp,kX,PV.dq,bB,im,if_true];have:=fin [] (by simp) (by rw[e2,AH];rfl);simpa using this
  ·rw[AH]at e;rw[e];have i2:Wb (HZ t i) (.int (a:Int))=.ret (.tup (aQ (up t 0 a []))):=kM (Ko t i ha ∅);simp only[vp,kX,PV.dq,bB,im,Ao,if_false,i2,ii];have ua:=aat t ha;have:=fin (aQ (up t 0 a [])) (by rw[dE];omega) (by rw[e2];simp);simpa using this
 ·subst hs;have el:(qv (((t.size:Nat):Int)-1) t.size).length=t.size:=by unfold qv;simp
  rw[el,Sw];exact q
def apt(t:Tr)(j:Nat):O Nat:=(AL t.size).filter λk=>!decide (k∈up t 0 j [])&&!decide (j∈up t 0 k [])
theorem RU(t:Tr)(hz:t.size<=900)(hj:j < t.size):(f7 (.cl (WR t)) (.int (j:Int))).le (.ret (.tup (aQ (apt t j)))):=λQ q=>by
 unfold f7;simp only[ii,ci,dh,Sx,cV,mo (bf (i:=0) (j:=(t.size:Int)) ∅ ∅),im,A3,lP];refine P6 (λk=>!decide (k∈up t 0 j [])&&!decide (j∈up t 0 k [])) (λk hk=>?_) q;have hk:=A5.mp hk;simp only[ii,bp,kM (Kp t hj),kM (Kp t hk),aD,QA,if_true];by_cases c1:k∈up t 0 j []
 ·simp[c1]
 ·by_cases c2:j∈up t 0 k []
  ·simp[c1,c2]
  ·simp[c1,c2]
def N7:Ent->O Nat
 | .word _=>[]
 | .pair a b=>[a,b]
def pU(e:Ent):c7 e.pv=.ret (.tup (aQ (N7 e))):=by
 unfold c7;cases e with
 | word w=>simp[Ent.pv,N7]
 | pair a b=>simp[Ent.pv,N7]
def T5(h:es[j]?=ap e):e6 (.tup (es.map Ent.pv)) (.int (j:Int))=.ret (Lg e j):=by
 have i1:Wb (es.map Ent.pv) (.int (j:Int))=.ret e.pv:=kM (by rw[Al,h];rfl);unfold e6;cases e with
 | word w=>simp only[ii,aD,i1];rfl
 | pair a b=>simp only[ii,aD,i1];rfl
def grS(t:Tr)(j:Nat):PV:=.tup [Lg (en t 0 j) j,.int 0,.tup (aQ (N7 (en t 0 j))),.tup (aQ (apt t j))]
def grL(t:Tr):O PV:=(AL t.size).map (grS t)
theorem Nk(t:Tr)(hz:t.size<=900):(nR t.pv).le (.ret (.tup (grL t))):=λQ q=>by
 unfold nR;simp only[ii,ci];refine W.le.use (iY t hz) ?_;refine W.le.use (P5 t hz) ?_;simp only[df,cP,im,cV,mo (bf (i:=0) (j:=(t.size:Int)) ∅ ∅),A3,lP];unfold aQ;refine fY (grS t) (λj hj R r=>?_) q;have hj:=A5.mp hj;have i1:Wb ((t.nd 0).map Ent.pv) (.int (j:Int))=.ret (en t 0 j).pv:=kM (by rw[Al,gI t 0 j hj];rfl);simp only[T5 (gI t 0 j hj),ii,aD,i1,pU,ci,im];exact W.le.use (RU t hz hj) r
end My
variable{ws:O B7}
namespace My
structure Sy where
 nm:PV
 lv:Nat
 un:List Nat
 be:List Nat
def Sy.pv(s:Sy):PV:=.tup [s.nm,.int (s.lv:Int),.tup (aQ s.un),.tup (aQ s.be)]
def g9(g:O Sy):PV:=.tup (g.map Sy.pv)
def sy(g:O Sy)(i:Nat):Sy:=g.getD i ⟨.ax,0,[],[]⟩
def W7{g:O Sy}(h:i < g.length):g[i]?=ap (sy g i):=by
 unfold sy;rw[Aj,Ad h];rfl
def QS{g:O Sy}(h:i < g.length):Wb (g.map Sy.pv) (.int (i:Int))=.ret (sy g i).pv:=kM (by rw[Al,W7 h];rfl)
def Jh(w:Str):PV->Bool
 | .str s=>s==w
 | _=>false
def hm(g:O Sy)(i:Nat)(w:Str):Bool:=(sy g i).un.isEmpty&&Jh w (sy g i).nm
inductive R4(g:List Sy):Nat->Nat->Prop
 | refl (i:Nat):R4 g i i
 | step {i u j:Nat}:u∈(sy g i).un->R4 g u j->R4 g i j
structure WG(g:List Sy)(ws:List Str):Prop where
 pos:0 < g.length
 len:g.length<=300
 dn:∀i,i < g.length->∀u∈(sy g i).un,u < i
 uj:∀i,i < g.length->(sy g i).un.length<=2
 be:∀i,i < g.length->∀u∈(sy g i).be,u < g.length
 Zx:∀i,i < g.length->(sy g i).be.length<=30
 nm:∀i,i < g.length->(∃s,(sy g i).nm=.str s)\/∃n,(sy g i).nm=.int n
 akf:∀w∈ws,∃i,i < g.length/\R4 g (g.length-1) i/\hm g i w=true
 rch:∀i,i < g.length->R4 g (g.length-1) i
def m7{g:O Sy}(h:i < g.length):dQ (g9 g) (.int (i:Int))=.ret (.tup (aQ (sy g i).un)):=by
 unfold dQ g9;simp only[ii,aD,QS h];rfl
def NR{g:O Sy}(h:i < g.length):ig (g9 g) (.int (i:Int))=.ret (.tup (aQ (sy g i).be)):=by
 unfold ig g9;simp only[ii,aD,QS h];rfl
theorem eq_nil(l:O Nat)(h:l.length<=1000):of2 fB (.tup (aQ l)) (.tup [])=.ret (.bl l.isEmpty):=by
 have fk:d5 (aQ l)=true:=gW.mpr λx hx=>by
  obtain⟨n,_,rfl⟩:=Av.mp hx;simp
 have fd:cK (aQ l)<=1:=gX λx hx=>by
  obtain⟨n,_,rfl⟩:=Av.mp hx;simp
 rw[tI,mo ⟨by simp[fk],by simp,by simp;omega⟩];cases l with
 | nil=>simp
 | cons a l=>simp[dW]
def Wv(h:(∃s,x=.str s)\/∃n,x=.int n)(w:Str):of2 fB x (.str w)=.ret (.bl (Jh w x)):=by
 rcases h with⟨s,rfl⟩ | ⟨n,rfl⟩
 ·rw[tI,mo ⟨by simp,by simp,by simp⟩,Wq];rfl
 ·rw[tI,mo ⟨by simp,by simp,by simp⟩];simp[km,Jh]
theorem UJ{g:O Sy}(G:WG g ws)(h:i < g.length)(w:Str):lN (g9 g) (.int (i:Int)) (.str w)=.ret (.bl (hm g i w)):=by
 unfold lN;have l2:=G.uj i h;have i0:d4 [(sy g i).nm,PV.int ((sy g i).lv:Int),.tup (aQ (sy g i).un),.tup (aQ (sy g i).be)] 0=ap (sy g i).nm:=rfl;simp only[ii,m7 h,eq_nil _ (show(sy g i).un.length<=1000 by omega)];unfold g9 hm;cases e:(sy g i).un.isEmpty with
 | false=>simp
 | true=>simp only[oC,aD,ii,QS h,Sy.pv,cF,i0,wS,Wv (G.nm i h) w,FJ]
abbrev Dd:=Str×Nat×Nat
def d2(d:Dd):PV:=.tup [.str d.1,.tup [.int (d.2.1:Int),.int (d.2.2:Int)]]
abbrev dbl(i:Nat):Dd:=("doubled",i,i)
abbrev XU(i o:Nat):O Dd:=[("over",i,o),("over",o,i)]
def wI:O Nat->O Dd
 | [a,b]=>[("split",a,b),("split",b,a)]
 | _=>[]
def dds(g:O Sy)(i:Nat):O Dd:=dbl i::(wI (sy g i).un++(sy g i).be.flatMap (XU i))
theorem oz(i:Nat):∀l:O Nat,(l.flatMap (XU i)).length=2*l.length
 | []=>rfl
 | a::l=>by rw[CV,Ai,oz i l];simp;omega
def SM(l:O Nat):(wI l).length<=2:=by unfold wI;split <;> simp
theorem Zp{g:O Sy}(G:WG g ws)(h:i < g.length){d:Dd}(hd:d∈dds g i):d.2.1 < g.length/\d.2.2 < g.length:=by
 rcases Ax.mp hd with rfl | hd
 ·exact⟨h,h⟩
 rcases AE.mp hd with hd | hd
 ·have hu:=G.dn i h;revert hu hd;generalize (sy g i).un=l;intro hd hu
  match l with
  | [a,b]=>
   have h1:=hu a (by simp);have h2:=hu b (by simp);simp[wI]at hd;rcases hd with rfl | rfl
   ·exact⟨by show a < _;omega,by show b < _;omega⟩
   ·exact⟨by show b < _;omega,by show a < _;omega⟩
  | []=>simp[wI]at hd
  | [_]=>simp[wI]at hd
  | _::_::_::_=>simp[wI]at hd
 ·obtain⟨o,ho,hd⟩:=List.mem_flatMap.mp hd;have:=G.be i h o ho;simp at hd;rcases hd with rfl | rfl
  ·exact⟨h,this⟩
  ·exact⟨this,h⟩
def fa(F:O (O Bool))(j i:Nat):Bool:=(F.getD j []).getD i false
def lD(g:O Sy)(F:O (O Bool))(e:Ent)(i:Nat):O Dd:=match e with
 | .word w=>if hm g i w=true then [("found",i,i)] else []
 | .pair a b=>(dds g i).filter λd=>fa F a d.2.1&&fa F b d.2.2
def HJ(n:Nat):Ent->Prop
 | .word _=>True
 | .pair a b=>a < n/\b < n
def jd{l m:List α}{d:α}(h:i < l.length):(l++m).getD i d=l.getD i d:=by
 rw[Aj,AR h,<- Aj]
def gw{l m:List α}{d:α}(h:l.length<=i):(l++m).getD i d=m.getD (i-l.length) d:=by
 rw[Aj,A1 h,<- Aj]
def Rg(es:O Ent)(j:Nat):Ent:=es.getD j (.word "")
def Rn(t:Tr)(h:j < t.size):HJ j (en t 0 j):=by
 cases e:en t 0 j with
 | word w=>trivial
 | pair a b=>exact ff t h e
def Zr(l:O PV)(h:a<=l.length):ly l (ap (a:Int)) bm=l.drop a:=by
 unfold ly;rw[HT.zQ,HT.qV,Nat.min_eq_left h,Dp (by simp)]
end My
variable{f:PL.PV->FL.W PL.PV}{g:O My.Sy}
namespace My
def dl(g:O Sy)(i:Nat):O Dd:=dbl i::(wI (sy g i).un++((sy g i).be.map (λo=>(("over",i,o):Dd))++(sy g i).be.map (λo=>(("over",o,i):Dd))))
theorem JS(G:WG g ws)(h:i < g.length):(dl g i).length<=63:=by
 unfold dl;simp only[Ar,Ai,Af];have:=SM (sy g i).un;have:=G.Zx i h;omega
theorem U9(d:Dd):pP (d2 d)=true:=rfl
def Nb(p:Nat×Nat):PV:=.tup [.int (p.1:Int),.int (p.2:Int)]
def OG(G:WG g ws)(h:i < g.length):ib (g9 g) (.int (i:Int))=.ret ((wI (sy g i).un).map λd=>Nb (d.2.1,d.2.2)):=by
 unfold ib;simp only[ii,m7 h];have hu:=G.uj i h;revert hu;generalize (sy g i).un=l;intro hu
 match l,hu with
 | [],_=>simp only[df,lL,nN,Ar,Bp,fP,ii,bB];rfl
 | [a],_=>simp only[df,lL,nN,Ar,Bp,fP,ii,bB];rfl
 | [a,b],_=>
  have i0:d4 [PV.int (a:Int),PV.int (b:Int)] 0=ap (.int (a:Int)):=rfl;have i1:d4 [PV.int (a:Int),PV.int (b:Int)] 1=ap (.int (b:Int)):=rfl;simp only[df,lL,nN,Ar,Bp,fP,ii,bB,aD,cF,i0,i1,wS];rfl
theorem Tx(G:WG g ws)(h:i < g.length):jA (g9 g) (.int (i:Int))=.ret ((sy g i).be.map (λo=>Nb (i,o))++(sy g i).be.map (λo=>Nb (o,i))):=by
 unfold jA;have l3:=G.Zx i h;simp only[ii,NR h,aD];rw[jx (g:=λo=>Nb (i,o)) λk hk=>rfl];rw[jx (g:=λo=>Nb (o,i)) λk hk=>rfl];simp only[ii];rw[eN (by simp;omega)]
theorem sE{c:α->PV}{k:α->PV}:∀{l:List α},(∀x∈l,f (c x)=.ret (k x))->a7 (l.map c) f=.ret (l.map k)
 | [],_=>rfl
 | x::r,h=>by
  show am (f (c x)) (λy=>am (a7 (r.map c) f) λm=>bd (y::m))=_;rw[h x (.head _),sE λy hy=>h y (.tail _ hy)];rfl
theorem Nz(G:WG g ws)(h:i < g.length)(q:∀m:O PV,m.Perm ((dl g i).map d2)->Q m):(gK (g9 g) (Ent.pair a b).pv (.int (i:Int))).run Q:=by
 have l63:=JS G h;unfold gK;simp only[Ent.pv,ii,ci,eM,lS,bo,im,Ao,if_false,OG G h,Tx G h];refine fY (λd:Dd=>.tup [.str "split",Nb (d.2.1,d.2.2)]) (λd _ R r=>r) ?_;have em:(sy g i).be.map (λo=>Nb (i,o))++(sy g i).be.map (λo=>Nb (o,i))=((sy g i).be.map (λo=>((i,o):Nat×Nat))++(sy g i).be.map (λo=>(o,i))).map Nb:=by
  rw[AO,Ay,Ay];rfl
 rw[em];refine fY (λp:Nat×Nat=>.tup [.str "over",Nb p]) (λp _ R r=>r) ?_;simp only[im,eL,ii];have es:(wI (sy g i).un).map (λd=>PV.tup [.str "split",Nb (d.2.1,d.2.2)])=(wI (sy g i).un).map d2:=by
  refine BN λd hd=>?_;have:d.1=("split":Str):=by
   revert hd;generalize (sy g i).un=l;intro hd;unfold wI at hd
   split at hd
   ·simp at hd;rcases hd with rfl | rfl <;> rfl
   ·cases hd
  unfold d2 Nb;rw[this]
 have eo:((sy g i).be.map (λo=>((i,o):Nat×Nat))++(sy g i).be.map (λo=>(o,i))).map (λp=>PV.tup [.str "over",Nb p])=((sy g i).be.map (λo=>(("over",i,o):Dd))++(sy g i).be.map (λo=>(("over",o,i):Dd))).map d2:=by
  simp only[AO,Ay];rfl
 rw[es,eo];have ll:(dl g i).length=1+(wI (sy g i).un).length+((sy g i).be.map (λo=>(("over",i,o):Dd))++(sy g i).be.map (λo=>(("over",o,i):Dd))).length:=by
  unfold dl;simp only[Ar,Ai];omega
 rw[eN (by simp only[Af,Ar,Bp];omega)];simp only[im];rw[eN (by simp only[Af,Ai,Ar,Bp]at *;omega)];have e:([PV.tup [.str "doubled",.tup [.int (i:Int),.int (i:Int)]]]++(wI (sy g i).un).map d2)++((sy g i).be.map (λo=>(("over",i,o):Dd))++(sy g i).be.map (λo=>(("over",o,i):Dd))).map d2=(dl g i).map d2:=by
  unfold dl;simp only[Ap,AO,AA];rfl
 simp only[im];rw[e];refine⟨⟨by rw[Af];omega,Cf.mpr λx hx=>?_⟩,λm hm=>q m hm⟩;obtain⟨d,_,rfl⟩:=Av.mp hx;exact U9 d
theorem Dt.isD(D:Dt t ds [] d)(h:d<=99):UB t ds=true:=by
 unfold UB;rw[Aw,Aw,decide_eq_true_iff,decide_eq_true_iff];refine⟨D.len,?_,Cf.mpr λj hj=>?_⟩
 ·unfold Mm;have hp:(splits t).Pairwise (· < ·):=by unfold splits;exact List.Pairwise.filter _ Dq
  rw[List.nodup_iff_pairwise_ne,Ey];refine List.Pairwise.imp_of_mem (λ{x y} hx hy lt e=>?_) hp;obtain⟨x1,x2⟩:=Bd.mp hx;obtain⟨y1,y2⟩:=Bd.mp hy;have:=D.inj x y (A5.mp x1) (A5.mp y1) (by simp) (by simp) x2 y2 e;omega
 ·have hj':=A5.mp hj;unfold okJ;cases e:en t 0 j with
  | word w=>
   rw[D.zero j hj' (.inl (by rw[e];rfl))];rfl
  | pair a b=>
   obtain⟨_,_,h1,h2,h3,h4⟩:=D.up j hj' (by simp) a b e;show(decide (ds.getD a 0 < ds.getD j 0)&&decide (ds.getD b 0 < ds.getD j 0)&&decide (1<=ds.getD j 0)&&decide (ds.getD j 0<=99))=true;rw[decide_eq_true h1,decide_eq_true h2,decide_eq_true h3,decide_eq_true ∅];rfl
theorem tZ:∀(t:Tr) (o:Nat),(t.nd o).countP uI+1=t.az.length
 | .leaf _,_=>rfl
 | .node l r,o=>by
  have h1:=tZ l o;have h2:=tZ r (o+l.size);rw[Tr.nd,List.countP_append,List.countP_append];show _+(List.countP uI [Ent.pair _ _])+1=(l.az++r.az).length;simp[uI];omega
theorem Ye(t:Tr):t.nd 0=(AL t.size).map (en t 0):=by
 refine Ca λj=>?_;by_cases h:j < t.size
 ·rw[gI t 0 j h,Al,BO h];rfl
 ·rw[AW (by rw[t.ba];omega),AW (by simp;omega)]
def Ie(t:Tr):(splits t).length+1=t.az.length:=by
 rw[<- tZ t 0,Ye t,List.countP_map];unfold splits;rw[<- List.countP_eq_length_filter];rfl
def R4.snoc{u:Nat}(r:R4 g i j)(hu:u∈(sy g j).un):R4 g i u:=by
 induction r with
 | refl i=>exact .step hu (.refl _)
 | step h _ ih=>exact .step h (ih hu)
def gS(t:Tr):O Sy:=(AL t.size).map λj=>⟨Lg (en t 0 j) j,0,N7 (en t 0 j),apt t j⟩
def qo(t:Tr)(h:j < t.size):sy (gS t) j=⟨Lg (en t 0 j) j,0,N7 (en t 0 j),apt t j⟩:=by
 unfold sy gS;rw[Aj,Al,BO h];rfl
@[simp] theorem iH(t:Tr):(gS t).length=t.size:=by unfold gS;simp
def acF(t:Tr):g9 (gS t)=.tup (grL t):=by
 unfold g9 gS grL;rw[Ay];congr 1
def VX(e:Ent)(j:Nat):(∃s,Lg e j=.str s)\/∃n,Lg e j=.int n:=by
 cases e with
 | word w=>exact .inl ⟨w,rfl⟩
 | pair a b=>exact .inr ⟨_,rfl⟩
def YL(e:Ent):(N7 e).length<=2:=by cases e <;> simp[N7]
theorem q9:∀(s:Tr) (t:Tr) (o:Nat) (w:Str),(∀k,k < s.size->en t 0 (o+k)=en s o k)->o+s.size<=t.size->w∈s.az->∃i,i < t.size/\R4 (gS t) (o+s.size-1) i/\en t 0 i=.word w
 | .leaf x,t,o,w,hs,hz,hw=>by
  have e0:en t 0 o=.word x:=hs 0 (by show 0 < 1;decide);have hz:o+1<=t.size:=hz;have:w=x:=by simpa[Tr.az]using hw
  subst this;exact⟨o,by omega,.refl _,e0⟩
 | .node l r,t,o,w,hs,hz,hw=>by
  have es:(Tr.node l r).size=l.size+r.size+1:=rfl;have er:en t 0 (o+(l.size+r.size))=.pair (o+l.size-1) (o+l.size+r.size-1):=by rw[hs _ ∅,en,if_neg ∅,if_neg ∅]
  have ei:o+(Tr.node l r).size-1=o+(l.size+r.size):=by omega
  have hl:∀k,k < l.size->en t 0 (o+k)=en l o k:=λk hk=>by rw[hs k ∅,en,if_pos hk]
  have hr:∀k,k < r.size->en t 0 (o+l.size+k)=en r (o+l.size) k:=λk hk=>by rw[Bl,hs _ ∅,en,if_neg ∅,if_pos ∅,EK]
  have un:(sy (gS t) (o+(l.size+r.size))).un=[o+l.size-1,o+l.size+r.size-1]:=by rw[qo t ∅,er];rfl
  rw[ei];rcases AE.mp (show w∈l.az++r.az from hw) with hw | hw
  ·obtain⟨i,h1,h2,h3⟩:=q9 l t o w hl ∅ hw;exact⟨i,h1,.step (by rw[un];simp) h2,h3⟩
  ·obtain⟨i,h1,h2,h3⟩:=q9 r t (o+l.size) w hr ∅ hw;exact⟨i,h1,.step (by rw[un];simp) h2,h3⟩
theorem L9(hz:t.size<=30):WG (gS t) t.az:=by
 have tp:=t.size_pos;have Ð:∀k i,i+k+1=t.size->R4 (gS t) (t.size-1) i:=λk=>by
  induction k using Cn with
  | ind k ih=>
   intro i hk;rcases iM t 0 i .ax ∅ with⟨e,_⟩ | ⟨a,u,v,ia,ha,_,ep,QE⟩
   ·rw[<- e];exact .refl _
   ·refine(ih (t.size-a-1) ∅ a ∅).snoc ?_;rw[qo t ha,ep];rw[AH]at QE;rcases QE with rfl | rfl <;> simp[N7]
 refine⟨by rw[iH];omega,by rw[iH];omega,λi hi u hu=>?_,λi hi=>?_,λi hi u hu=>?_,λi hi=>?_,λi hi=>?_,λw hw=>?_,λi hi=>by rw[iH]at hi ⊢;exact Ð (t.size-i-1) i ∅⟩
 ·rw[iH]at hi;rw[qo t hi]at hu;cases e:en t 0 i with
  | word w=>rw[e]at hu;cases hu
  | pair a b=>
   rw[e]at hu;have:=ff t hi e;have hu:u=a\/u=b:=by simpa[N7]using hu
   omega
 ·rw[iH]at hi;rw[qo t hi];exact YL _
 ·rw[iH]at hi ⊢;rw[qo t hi]at hu;exact A5.mp (Bd.mp hu).1
 ·rw[iH]at hi;rw[qo t hi];have:=Bz (λk=>!decide (k∈up t 0 i [])&&!decide (i∈up t 0 k [])) (AL t.size);rw[CU]at this;show(apt t i).length<=30;unfold apt;omega
 ·rw[iH]at hi;rw[qo t hi];exact VX _ _
 ·obtain⟨i,h1,h2,h3⟩:=q9 t t 0 w (λk hk=>by rw[AH]) ∅ hw;rw[AH]at h2;refine⟨i,by rw[iH];exact h1,by rw[iH];exact h2,?_⟩;unfold hm;rw[qo t h1,h3];simp[N7,Lg,Jh]
def dS(t:Tr)(ds bs:O Int):O Sy:=(aK t ds bs bs.length).map λp=>⟨Lg (en t 0 p.1) p.1,p.2,(HP (en t 0 p.1) p.1 (ds.getD p.1 0) (bs.getD p.2 0)).map λx=>(aK t ds bs bs.length).idxOf (x,p.2-1),Zv (aK t ds bs bs.length) p.1 p.2⟩
def ac7(t:Tr)(ds bs:O Int):g9 (dS t ds bs)=.tup (dgL t ds bs):=by
 unfold g9 dS dgL;rw[Ay];congr 1
@[simp] theorem Zq(t:Tr)(ds bs:O Int):(dS t ds bs).length=(aK t ds bs bs.length).length:=by unfold dS;rw[Af]
theorem qe(t:Tr)(ds bs:O Int):∀m,(aK t ds bs m).Pairwise λp q=>p.2<=q.2
 | 0=>.nil
 | m+1=>by
  rw[aK];have Mk:∀p∈zO t ds (bs.getD m 0) m t.size,p.2=m:=λp hp=>by
   obtain⟨k,_,rfl⟩:=Av.mp hp;rfl
  refine List.pairwise_append.mpr ⟨qe t ds bs m,?_,λa ha b hb=>?_⟩
  ·exact BU.mpr λi j hi hj _=>by rw[Mk _ (C5 hi),Mk _ (C5 hj)];exact Am _
  ·have h1:=(gC ha).1;rw[Mk b hb];omega
theorem vz(t:Tr)(ds bs:O Int)(n:Nat):∀m,((aK t ds bs m).filter λp=>decide (p.2=n)).length<=t.size
 | 0=>A8 _
 | m+1=>by
  rw[aK,El,Ai];have ih:=vz t ds bs n m;by_cases c:n=m
  ·subst c;have z:(aK t ds bs n).filter (λp=>decide (p.2=n))=[]:=by
    rw[EZ];intro p hp;have:=(gC hp).1;simp;omega
   rw[z];have h1:=Bz (λp:Nat×Nat=>decide (p.2=n)) (zO t ds (bs.getD n 0) n t.size);have h2:=wH t ds (bs.getD n 0) n t.size;simp only[Bp];omega
  ·have z:(zO t ds (bs.getD m 0) m t.size).filter (λp=>decide (p.2=n))=[]:=by
    rw[EZ];intro p hp;obtain⟨k,_,rfl⟩:=Av.mp hp;simp;omega
   rw[z];simpa using ih
section
theorem DD.above(D:DD t ds)(h:(j,n)∈aK t ds (aR t ds) (aR t ds).length)(hn:n+1 < (aR t ds).length):∃a,(a,n+1)∈aK t ds (aR t ds) (aR t ds).length/\j∈HP (en t 0 a) a (ds.getD a 0) ((aR t ds).getD (n+1) 0):=by
 obtain⟨hnl,hj,hs⟩:=cg.mp h;obtain⟨s1,s2⟩:=(fW hj).mp hs;have inc:=D.inc;have lt:=xM inc hn (show n < n+1 by omega);have Ý:(∀a,kz t 0 j .ax=.int ((a:Nat):Int)->(aR t ds).getD (n+1) 0 < ds.getD a 0)->∃a,(a,n+1)∈aK t ds (aR t ds) (aR t ds).length/\j∈HP (en t 0 a) a (ds.getD a 0) ((aR t ds).getD (n+1) 0):=λhx=>
  ⟨j,cg.mpr ⟨hn,hj,(fW hj).mpr ⟨by omega,hx⟩⟩,by unfold HP;rw[if_pos ∅];exact .head _⟩
 rcases iM t 0 j .ax hj with⟨_,e⟩ | ⟨a,u,v,ja,ha,e,ep,QE⟩
 ·exact Ý λa z=>by rw[e]at z;cases z
 ·rw[AH]at e QE;by_cases c:(aR t ds).getD (n+1) 0 < ds.getD a 0
  ·refine Ý λa' z=>?_;rw[e]at z;injection z with z;have:a=a':=by omega
   subst this;exact c
  ·have sa:=s2 a e;have eq:ds.getD a 0=(aR t ds).getD (n+1) 0:=by
    rcases Int.lt_or_eq_of_le (show ds.getD a 0<=(aR t ds).getD (n+1) 0 by omega) with c2 | c2
    ·have:=(sW inc hn (D.mem ha) c2).2;rw[Nat.add_sub_cancel]at this;omega
    ·exact c2
   refine⟨a,cg.mpr ⟨hn,ha,(fW ha).mpr ⟨by omega,λa2 e2=>?_⟩⟩,?_⟩
   ·rcases iM t 0 a .ax ha with⟨_,e3⟩ | ⟨a3,u3,v3,_,h3,e3,ep3,aca⟩
    ·rw[e3]at e2;cases e2
    ·rw[e3]at e2;injection e2 with e2;rw[AH]at e2 aca;have:a3=a2:=by omega
     subst this;have:=D.pair a3 u3 v3 h3 ep3;rcases aca with rfl | rfl <;> omega
   ·unfold HP;rw[if_neg ∅,ep];rcases QE with rfl | rfl <;> simp
theorem DD.last(D:DD t ds)(h:(j,n)∈aK t ds (aR t ds) (aR t ds).length)(hn:n+1=(aR t ds).length):j=t.size-1:=by
 obtain⟨hnl,hj,hs⟩:=cg.mp h;obtain⟨s1,s2⟩:=(fW hj).mp hs;rcases iM t 0 j .ax hj with⟨e,_⟩ | ⟨a,u,v,ja,ha,e,ep,QE⟩
 ·exact e
 ·exfalso;rw[AH]at e;have sa:=s2 a e;have inc:=D.inc;obtain⟨i,hi,ei⟩:=DZ (D.mem ha);have gd:(aR t ds).getD i 0=ds.getD a 0:=by rw[Aj,Ad hi];exact ei
  rcases Dn i n with c | c
  ·have:=xM inc hnl c;omega
  ·have:i=n:=by omega
   subst this;omega
def Jk[BEq α][LawfulBEq α]{l:List α}(nd:l.Nodup){x:α}(h:l[i]?=ap x):l.idxOf x=i:=by
 obtain⟨hi,e⟩:=Ak.mp h;rw[<- e];exact nd.idxOf_getElem i hi
def J6[BEq α][LawfulBEq α]{l:List α}{x:α}(h:x∈l):l[l.idxOf x]?=ap x:=by
 have:=BH h;rw[Ad this,List.getElem_idxOf this]
theorem Oo(D:DD t ds)(hz:t.size<=15)(hb:(aR t ds).length<=16):WG (dS t ds (aR t ds)) t.az:=by
 have nd:=jo t ds (aR t ds) (aR t ds).length;have ħ:=qe t ds (aR t ds) (aR t ds).length;have lay:=λn=>vz t ds (aR t ds) n (aR t ds).length;have ok:=D.ok;have ne:=D.ne;have ll:=jq t ds (aR t ds) (aR t ds).length;have above:=λj n=>D.above (j:=j) (n:=n);have last:=λj n=>D.last (j:=j) (n:=n);have į:=@cg t ds (aR t ds) (aR t ds).length;unfold okD at ok;have hS:∀i p,(aK t ds (aR t ds) (aR t ds).length)[i]?=ap p->sy (dS t ds (aR t ds)) i=⟨Lg (en t 0 p.1) p.1,p.2,(HP (en t 0 p.1) p.1 (ds.getD p.1 0) ((aR t ds).getD p.2 0)).map λx=>(aK t ds (aR t ds) (aR t ds).length).idxOf (x,p.2-1),Zv (aK t ds (aR t ds) (aR t ds).length) p.1 p.2⟩:=λi p hp=>by
  unfold sy dS;rw[Aj,Al,hp];rfl
 have hL:(dS t ds (aR t ds)).length=(aK t ds (aR t ds) (aR t ds).length).length:=Zq t ds _;have hmul:=Nat.mul_le_mul hb hz;generalize aK t ds (aR t ds) (aR t ds).length=L at *;have get:∀i,i < (dS t ds (aR t ds)).length->∃p,L[i]?=ap p/\p∈L:=λi hi=>by
  rw[hL]at hi;exact⟨L[i],Ad hi,C5 hi⟩
 have pos:=Cr.mpr ne;have Ñ:∀(i a:Nat) (p r:Nat×Nat),L[i]?=ap p->L[a]?=ap r->r.2 < p.2->a < i:=λi a p r h1 h2 lt=>by
  rcases Dn a i with c | c
  ·exact c
  ·exfalso;obtain⟨g1,e1⟩:=Ak.mp h1;obtain⟨g2,e2⟩:=Ak.mp h2;rcases Eh c with c | c
   ·subst c;rw[h1]at h2;cases h2;omega
   ·have:=BU.mp ħ i a g1 g2 c;rw[e1,e2]at this;omega
 have Ð:∀k i,i+k+1=L.length->R4 (dS t ds (aR t ds)) (L.length-1) i:=λk=>by
  induction k using Cn with
  | ind k ih=>
   intro i hk;obtain⟨⟨j,n⟩,hp,hm⟩:=get i (by rw[hL];omega);have nl:=(į.mp hm).1;by_cases c:n+1 < (aR t ds).length
   ·obtain⟨a,ha,hb⟩:=above j n hm c;have ia:=J6 ha;have lt:=Ñ _ i (a,n+1) (j,n) ia hp (by show n < n+1;omega);have il:=BH ha;have r:=ih (L.length-L.idxOf (a,n+1)-1) ∅ (L.idxOf (a,n+1)) ∅;refine r.snoc ?_;rw[hS _ _ ia];refine Av.mpr ⟨j,hb,?_⟩;exact Jk nd hp
   ·have hj:=last j n hm ∅;have:i=L.length-1:=by
     obtain⟨⟨j2,n2⟩,xO,ZW⟩:=get (L.length-1) (by rw[hL];omega);have n2l:=(į.mp ZW).1;rcases Dn n2 n with c2 | c2
     ·have:=Ñ i (L.length-1) _ _ hp xO c2;omega
     ·have en2:n2=n:=by omega
      have Nh:=last j2 n2 ZW ∅;subst en2;rw[Nh,<- hj]at xO;exact(Jk nd hp).symm.trans (Jk nd xO)
    rw[this];exact .refl _
 refine⟨by rw[hL];exact pos,by rw[hL];omega,λi hi u hu=>?_,λi hi=>?_,λi hi u hu=>?_,λi hi=>?_,λi hi=>?_,λw hw=>?_,λi hi=>by rw[hL]at hi ⊢;exact Ð (L.length-i-1) i ∅⟩
 ·obtain⟨p,hp,hm⟩:=get i hi;rw[hS i p hp]at hu;obtain⟨x,hx,rfl⟩:=Av.mp hu;obtain⟨n1,xm⟩:=ok p hm x hx;exact Ñ i _ p (x,p.2-1) hp (J6 xm) (by show p.2-1 < p.2;omega)
 ·obtain⟨p,hp,hm⟩:=get i hi;rw[hS i p hp];unfold HP
  split
  ·simp
  ·cases en t 0 p.1 <;> simp
 ·obtain⟨p,hp,hm⟩:=get i hi;rw[hS i p hp]at hu;unfold Zv at hu;obtain⟨x,hx,rfl⟩:=Av.mp hu;rw[hL];exact BH (Bd.mp hx).1
 ·obtain⟨p,hp,hm⟩:=get i hi;rw[hS i p hp];unfold Zv;rw[Af];have h1:=lay p.2;have h2:(L.filter λq=>decide (q.2=p.2)&&!decide (q.1=p.1)).length<=(L.filter λq=>decide (q.2=p.2)).length:=by
   have e:L.filter (λq=>decide (q.2=p.2)&&!decide (q.1=p.1))=(L.filter λq=>decide (q.2=p.2)).filter λq=>!decide (q.1=p.1):=by
    rw[List.filter_filter];refine congrArg (λf=>L.filter f) (funext λq=>Bool.and_comm _ _)
   rw[e];exact Bz _ _
  omega
 ·obtain⟨p,hp,hm⟩:=get i hi;rw[hS i p hp];exact VX _ _
 ·obtain⟨j,hj,_,ej⟩:=q9 t t 0 w (λk hk=>by rw[AH]) ∅ hw;have b0:(aR t ds).getD 0 0=0:=rfl;have mem:(j,0)∈L:=į.mpr ⟨by simp[aR],hj,(fW hj).mpr ⟨by rw[D.leaf j w hj ej,b0];exact CB _,λa ea=>by
   rcases iM t 0 j .ax hj with⟨_,e⟩ | ⟨a',u,v,_,ha,e,ep,_⟩
   ·rw[e]at ea;cases ea
   ·rw[e,AH]at ea;injection ea with ea;have:a'=a:=by omega
    subst this;have:=(D.pair a' u v ha ep).2.2;rw[b0];omega⟩⟩
  have il:=BH mem;refine⟨L.idxOf (j,0),by rw[hL];exact il,by rw[hL];exact Ð (L.length-L.idxOf (j,0)-1) _ ∅,?_⟩;unfold hm;rw[hS _ _ (J6 mem)];unfold HP;rw[b0,D.leaf j w hj ej,if_neg ∅,ej];simp[Lg,Jh]
end
theorem Gm{S:PV->Prop}:∀{l:O PV},(∀x∈l,∀R:PV->Prop,(∀v,S v->R v)->(f x).run R)->∀{Q:O PV->Prop},(∀m,m.length=l.length->(∀v∈m,S v)->Q m)->(a7 l f).run Q
 | [],_,Q,q=>q [] rfl (λ_ h=>nomatch h)
 | x::l,h,Q,q=>by
  show(am (f x) λy=>am (a7 l f) λm=>bd (y::m)).run Q;simp only[ci];refine h x (.head _) _ λv hv=>?_;refine Gm (λy hy=>h y (.tail _ hy)) λm hm hs=>?_;exact q (v::m) (by simp[hm]) λu hu=>by
   rcases Ax.mp hu with rfl | hu
   ·exact hv
   ·exact hs u hu
theorem KC:∀{m:O PV}{ls:O Str},(∀v∈m,∃w∈ls,v=PV.str w)->∃ws:O Str,m=ws.map PV.str/\∀w∈ws,w∈ls
 | [],_,_=>⟨[],rfl,λ_ h=>nomatch h⟩
 | v::m,ls,h=>by
  obtain⟨w,hw,rfl⟩:=h v (.head _);obtain⟨ws,rfl,h2⟩:=KC (m:=m) (ls:=ls) λu hu=>h u (.tail _ hu);exact⟨w::ws,rfl,λx hx=>by
   rcases Ax.mp hx with rfl | hx
   ·exact hw
   ·exact h2 x hx⟩
end My
variable{m:Nat}
namespace My
theorem Oy:∀ns l Q,eW ns->((oX 1 bF) l).run Q->((λlo l=>oX 1 (dF lo) l) (ns.map PV.int) l).run λt=>Q t.1/\∃Gd:O Int,t.2=Gd.map PV.int/\eW Gd:=by
 rintro ns l Q ⟨g,s,c,rfl,g0,s0,s1,c0⟩ q
 match l,q with
 | [],q=>exact q.elim
 | _::_::_,q=>exact q.elim
 | [x],q=>
  show(dF _ x).run _;have q:=q;cases x with
  | int m=>
   obtain⟨⟨m0,m1⟩,q⟩:=q;have q:∀d:Int,0<=d->d < m->Q (.int d):=λd h0 h1=>q _ ⟨d,rfl,h0,h1⟩;unfold dF;generalize hA:(2147483647:Int)=A;generalize hB:(2147483629:Int)=B;generalize hD:(40009:Int)=D;have A0:0 < A:=by omega
   have B0:0 < B:=by omega
   have D0:0 < D:=by omega
   have e1:ww s 48271:=mulR ∅;have nx:∀N,N=(s*48271+12345+(c+1)) % A->(ww N (N % D+3))/\((Q (PV.int (N*(N % D+3) % B / 7 % m))))/\∃Gd:O Int,[PV.int g,PV.int N,PV.int (c+1)]=Gd.map PV.int/\eW Gd:=λN hN=>by
    have N0:0<=N:=by rw[hN];exact CK _ ∅
    have N1:N < A:=by rw[hN];exact Ck _ A0
    exact⟨VZ ∅ ∅,q _ (CK _ ∅) (Ck _ m0),[g,N,c+1],rfl,_,_,_,rfl,g0,N0,by omega,by omega⟩
   obtain⟨k1,k2,k3⟩:=nx _ rfl;by_cases hg:0 < g
   ·by_cases hc:c+1<=60
    ·simp[d4,vF,hg,hc,m0,ku,N2];refine⟨by omega,q _ (CK _ ∅) (Ck _ m0),[g / m,s,c+1],rfl,_,_,_,rfl,Int.ediv_nonneg g0 ∅,s0,s1,by omega⟩
    ·simp[d4,vF,hg,hc,m0,ku,e1,A0,B0,D0,N2];exact⟨k1,k2,k3⟩
   ·simp[d4,vF,hg,m0,ku,e1,A0,B0,D0,N2];exact⟨k1,k2,k3⟩
  | _=>exact q.elim
theorem QN{k:Int}(k0:0<=k)(k1:k<=1000)(q:∀l,(∃ms:O Int,l=ms.map PV.int/\eW ms)->Q l):(ip (.cl (ns.map PV.int)) (.int k)).run Q:=by
 unfold ip;generalize hA:(2147483647:Int)=A;generalize hB:(2147483629:Int)=B;have A0:0 < A:=by omega
 have B0:0 < B:=by omega
 have fin:∀x:Int,((PV.int x)\λlz=>am (b2 pC (c1 Hq (bd lz)) (c1 J5 (b2 oGe (c1 Hq (bd lz)) (b2 MF (bd (.int 10)) (bd (.int 18)))))) λgj=>
  (gj\λx3=>am (b2 oMod (b2 pC (w2 addW (w2 addW (b2 oMod (bd lz) (bd (.int B))) (b2 pC (b2 pC (bd (.int 7919)) (bd (.int k))) (bd (.int k)))) (bd (.int 11))) (bd (.int 48271))) (bd (.int A))) λx4=>(.int 0)\λx5=>bd [x3,x4,x5])).run Q:=by
  intro x;have p2:NZ 10 18:=⟨by decide,by decide,by decide⟩;simp only[ii,Zf,Jy,mo p2,Rb,Rc,acU,UY,dN,W.RH,W.SW,im,mo (mulL (show -1000000000<=(7919:Int)/\(7919:Int)<=1000000000 by decide)),mo A0,mo B0];refine⟨?_,mulR ∅,mulR ∅,?_⟩
  ·split
   ·exact mulR ∅
   ·exact mulR ∅
  ·refine q _ ⟨[_,_,_],rfl,_,_,_,rfl,Em (ZD _) ?_,CK _ ∅,by have:=Ck ((x % B+7919*k*k+11)*48271) A0;omega,CB _⟩
   split <;> split <;> decide
 by_cases ir:k < (ns.length:Int)
 ·obtain⟨v,e,e2⟩:=RT (xs:=ns.map PV.int) k0 (by rw[Af];exact ir);rw[Al]at e2;obtain⟨c,rfl⟩:∃c,v=.int c:=by
   cases z:ns[k.toNat]? with
   | none=>rw[z]at e2;cases e2
   | some c=>rw[z]at e2;exact⟨c,(Option.some.inj e2).symm⟩
  simp only[ii,dh,LJ,Af,ir,decide_true,bB,if_true,bp,cF,e,wS];exact fin c
 ·simp only[ii,dh,LJ,Af,ir,decide_false,bB,Ao,if_false];exact fin 0
def abL(h:x∈[PV.str "",PV.str "",PV.str "a",PV.str "zq",PV.str "mnopqrs"]):∃y:Str,x=.str y/\Part y 7:=by
 simp at h;rcases h with rfl | rfl | rfl | rfl
 ·exact⟨"",rfl,by decide +kernel,by decide +kernel⟩
 ·exact⟨"a",rfl,by decide +kernel,by decide +kernel⟩
 ·exact⟨"zq",rfl,by decide +kernel,by decide +kernel⟩
 ·exact⟨"mnopqrs",rfl,by decide +kernel,by decide +kernel⟩
def abM(h:x∈[PV.int 1,PV.int 3,PV.int 5,PV.int 7,PV.int 9,PV.int 11]):∃st:Int,x=.int st/\(st=1\/st=3\/st=5\/st=7\/st=9\/st=11):=by
 simp at h;rcases h with rfl | rfl | rfl | rfl | rfl | rfl <;> exact⟨_,rfl,by decide⟩
theorem Om{c:Nat}(b:Part y 7)(h0:97<=c)(h1:c < 123):Wd ((⟨#[c]⟩:Str)++y):=by
 have hl:((⟨#[c]⟩:Str)++y).length=1+y.length:=by rw[Str.length_append];rfl
 have:=b.1;refine⟨by omega,by omega,λd hd=>?_⟩;have e:((⟨#[c]⟩:Str)++y).cps.toList=c::y.cps.toList:=by
  show((⟨#[c]⟩:Str).cps++y.cps).toList=_;simp
 rw[e]at hd;rcases Ax.mp hd with rfl | hd
 ·exact⟨h0,h1⟩
 ·exact b.2 d hd
theorem HW(m1:m<=26)(q:∀ws:O Str,ws.length=m->(∀x∈ws,Wd x)->ws.Nodup->(ws.map λx=>x.cps[0]?).Nodup->Q (ws.map PV.str)):(eg (.int m)).run Q:=by
 unfold eg;simp only[ii,ci,cI 26 ⋯ ⋯];refine bg λd a b=>?_;refine pick_run (by simp) (by simp) λx hx=>?_;obtain⟨st,rfl,rk⟩:=abM hx;simp only[im,kW];refine pick_run (by simp) (by simp) λy hy=>?_;obtain⟨tl,rfl,ht⟩:=abL hy;simp only[cV,mo (bf (i:=0) (j:=(m:Int)) ∅ ∅),im,A3];rw[lP]
 let w:Nat->Str:=λk=>⟨#[97+((d+st*(0+(k:Int))) % 26).toNat]⟩++tl
 refine MR (λk=>.str (w k)) (λk hk=>?_) ?_
 ·have e0:0<=(d+st*(0+(k:Int))) % 26:=CK _ ⋯;have e1:(d+st*(0+(k:Int))) % 26 < 26:=Ck _ ⋯;have e2:(d+st*(k:Int))=d+st*(0+(k:Int)):=by rw[E2]
  have c1:ww st (k:Int):=mulL ∅;have c2:("abcdefghijklmnopqrstuvwxyz":Str).length<=sizeLine:=by decide +kernel
  have c3:(⟨#[97+((d+st*(0+(k:Int))) % 26).toNat]⟩:Str).length+tl.length<=sizeLine:=bE (by have:=ht.1;show 1+tl.length<=1000;omega);simp only[ii,Rb,mo c1,dN,Rc,mo (show(0:Int) < 26 by decide),e2,Ze _ _ (MX e0 e1),mo c2,UZ,mo c3];rfl
 ·have e:(AL m).map (λk=>PV.str (w k))=((AL m).map w).map PV.str:=by rw[Ay];rfl
  have nd:(((AL m).map w).map λx=>x.cps[0]?).Nodup:=by
   have:=uD (d:=d) rk m1;rw[Ay];have e2:((λx:Str=>x.cps[0]?)∘w)=λk:Nat=>ap (97+((d+st*(0+(k:Int))) % 26).toNat):=by
    funext k;show((⟨#[97+((d+st*(0+(k:Int))) % 26).toNat]⟩:Str).cps++tl.cps)[0]?=_;rw[Array.getElem?_append_left (by simp)];rfl
   rw[e2];exact this
  rw[e];refine q _ (by simp) (λx hx=>?_) (xb (g:=λx:Str=>x.cps[0]?) nd) nd;obtain⟨k,_,rfl⟩:=Av.mp hx;have e0:0<=(d+st*(0+(k:Int))) % 26:=CK _ ⋯;have e1:(d+st*(0+(k:Int))) % 26 < 26:=Ck _ ⋯;exact Om ht ∅ ∅
def Pm(h:l[j]?=ap v)(hl:l.length<=1000):wW l (.int (j:Int))=.ret (l.eraseIdx j,v):=by
 have hj:=(Ak.mp h).1;unfold wW;simp only[Lu hj,wS,ii,h,mo (bE hl)]
def Q0{l:O Tr}{x p y:Tr}(h:l[j]?=ap y)(hp:p.az.Perm (x.az++y.az)):((l.set j p).flatMap Tr.az).Perm (x.az++l.flatMap Tr.az):=by
 induction l generalizing j with
 | nil=>simp at h
 | cons a l ih=>cases j with
  | zero=>
   simp at h;subst h;simp only[List.set_cons_zero,CV];rw[<- AA];exact hp.append_right _
  | succ j=>
   simp only[List.set_cons_succ,CV];have:=(ih (j:=j) (by simpa using h)).append_left a.az;refine this.trans ?_;rw[<- AA,<- AA];exact CO.append_right _
def Jw{l:O Tr}{x:Tr}(h:l[j]?=ap x):(x.az++(l.eraseIdx j).flatMap Tr.az).Perm (l.flatMap Tr.az):=by
 induction l generalizing j with
 | nil=>simp at h
 | cons a l ih=>cases j with
  | zero=>simp at h;subst h;simp
  | succ j=>
   simp only[Cw,CV];have:=(ih (j:=j) (by simpa using h)).append_left a.az;refine List.Perm.trans ?_ this;rw[<- AA,<- AA];exact CO.append_right _
def MU{l:O Tr}:(l.map Tr.pv).eraseIdx j=(l.eraseIdx j).map Tr.pv:=by
 induction l generalizing j with
 | nil=>simp
 | cons a l ih=>cases j with
  | zero=>simp
  | succ j=>simp[ih]
theorem sU(hw:ws≠[])(h8:ws.length<=100){Q:PV->Prop}(q:∀t:Tr,t.az.Perm ws->Q t.pv):(dG (.cl (ws.map PV.str))).run Q:=by
 have hp:0 < ws.length:=Cr.mpr hw;unfold dG;simp only[ii,ci,bp,im,yq,tH,Af,cV,mo (bf (i:=0) (j:=(ws.length:Int)-1) ∅ ∅)];refine fH (λi s=>∃ts:O Tr,s=ts.map Tr.pv/\ts.length+i=ws.length/\(ts.flatMap Tr.az).Perm ws) ⟨ws.map Tr.leaf,by simp[Tr.pv],by simp,?_⟩ ?_ ?_
 ·rw[List.flatMap_map];have:ws.flatMap (λx=>(Tr.leaf x).az)=ws:=by simp[Tr.az,List.flatMap_singleton']
  rw[this]
 ·rintro i s hi ⟨ts,rfl,hl,hp⟩;have h2:2<=ts.length:=by omega
  simp only[ii,ci,yq,Af,cI (ts.length:Int) ∅ ∅,im];refine bg λd d0 d1=>?_;obtain⟨j,rfl⟩:∃j:Nat,d=(j:Int):=⟨d.toNat,by omega⟩;obtain⟨x,hx⟩:∃x,ts[j]?=ap x:=⟨_,Ad ∅⟩;have Ŀ:(ts.eraseIdx j).length=ts.length-1:=by rw[Fy];simp;omega
  simp only[Pm (l:=ts.map Tr.pv) (v:=x.pv) (by rw[Al,hx];rfl) (by rw[Af];omega),im,MU,yq,Af,Ŀ,cI ((ts.length-1:Nat):Int) ∅ ∅];refine bg λe e0 e1=>?_;obtain⟨m,rfl⟩:∃m:Nat,e=(m:Int):=⟨e.toNat,by omega⟩;obtain⟨y,hy⟩:∃y,(ts.eraseIdx j)[m]?=ap y:=⟨_,Ad ∅⟩;have i0:d4 ((ts.eraseIdx j).map Tr.pv) (m:Int)=ap y.pv:=di (by rw[Al,hy];rfl);have hm:m < ((ts.eraseIdx j).map Tr.pv).length:=by rw[Af,Ŀ];omega
  simp only[ii,cF,i0,wS,im,cI 2 ⋯ ⋯];refine bg λf _ _=>?_;have fin:∀p:Tr,p.az.Perm (x.az++y.az)->(ku ((ts.eraseIdx j).map Tr.pv) (.int (m:Int)) p.pv).run λs=>∃ts:O Tr,s=ts.map Tr.pv/\ts.length+(i+1)=ws.length/\(ts.flatMap Tr.az).Perm ws:=λp Ķ=>by
   rw[nr hm];exact⟨(ts.eraseIdx j).set m p,by rw[EX],by rw[BQ,Ŀ];omega,(Q0 hy Ķ).trans ((Jw hx).trans hp)⟩
  simp only[fP,bB,im];cases c:f==0 with
  | true=>exact fin (.node x y) (List.Perm.refl _)
  | false=>
   simp only[Ao,if_false,ii,yp,yo,UW,ci,im];exact fin (.node y x) CO
 ·rintro s ⟨ts,rfl,hl,hp⟩
  match ts,hl,hp with
  | [],hl,_=>simp at hl;omega
  | [t],_,hp=>
   have:t.az.Perm ws:=by simpa using hp
   exact q t this
  | _::_::_,hl,_=>simp at hl;omega
end My
variable{Q:PL.PV->Prop}{n:Int}
namespace My
theorem Jn(n0:0 < n)(n1:n<=8)(q:∀(t:Tr) (ws:O Str),wo t->t.az.Perm ws->Q (.tup [t.pv,.cl (ws.map PV.str)])):(eE (.int n)).run Q:=by
 unfold eE;simp only[ii,ci,cI n n0 ∅];refine bg λk k0 k1=>?_;obtain⟨m,hm⟩:∃m:Nat,1+k=(m:Int):=⟨(1+k).toNat,by omega⟩;simp only[dN,im,hm];refine HW ∅ λws hl hw hd hb=>?_;refine sU (λz=>by rw[z]at hl;simp at hl;omega) ∅ λt ht=>?_;exact q t ws ⟨λx hx=>hw x (ht.mem_iff.mp hx),ht.nodup_iff.mpr hd,by rw[ht.length_eq,hl];omega,0,by decide,(ht.map _).nodup_iff.mpr hb⟩ ht
theorem Ih(hw:ws≠[])(h8:ws.length<=100)(n0:0 < n)(n1:n<=10)(q:∀s:Tr,(∀w∈s.az,w∈ws)->s.az.length<=n->Q s.pv):(eA (.cl (ws.map PV.str)) (.int n)).run Q:=by
 unfold eA;simp only[ii,ci,cI n n0 ∅];refine bg λk k0 k1=>?_;obtain⟨m,hm⟩:∃m:Nat,1+k=(m:Int):=⟨(1+k).toNat,by omega⟩;simp only[dN,im,hm,cV,mo (bf (i:=0) (j:=(m:Int)) ∅ ∅),A3];refine Gm (S:=λv=>∃w∈ws,v=PV.str w) (λx _ R r=>pick_run (by simpa using hw) (by rw[Af];omega) λv hv=>r v (let ⟨w,h1,h2⟩:=Av.mp hv;⟨w,h1,h2.symm⟩)) λms hl hs=>?_;obtain⟨us,rfl,hu⟩:=KC hs;rw[i9,Af]at hl;exact sU (λz=>by rw[z]at hl;simp at hl;omega) ∅ λs hp=>q s (λw h=>hu w (hp.mem_iff.mp h)) (by rw[hp.length_eq];omega)
theorem jD:∀(n:Nat) (t:Tr),t.depth < n->t.size<=400->(aX n t.pv).le (.ret ((t.nd 0).map Ent.pv))
 | 0,_,h,_=>by omega
 | n+1,.leaf w,_,_=>λQ q=>by
  unfold aX;simp[Tr.pv];exact q
 | n+1,.node a b,h,hz=>λQ q=>by
  have hs:(Tr.node a b).size=a.size+b.size+1:=rfl;have hpa:=a.size_pos;have hpb:=b.size_pos;have hd:a.depth < n/\b.depth < n:=by simp[Tr.depth]at h;omega
  unfold aX;have i0:d4 [a.pv,b.pv] 0=ap a.pv:=rfl;have i1:d4 [a.pv,b.pv] 1=ap b.pv:=rfl;simp only[Tr.pv,ii,ci,eM,lS,bo,Ao,if_false,aD,cF,i0,i1,wS];refine W.le.use (jD n a hd.1 ∅) ?_;simp only[im];refine W.le.use (jD n b hd.2 ∅) ?_;simp only[im,bp];refine gm (λi s=>s=(((b.nd 0).take i).map (Xe a.size)).map Ent.pv) (by simp) (λi x s hx hs=>?_) (λs hs=>?_)
  ·subst hs;rw[Al]at hx;cases e:(b.nd 0)[i]? with
   | none=>rw[e]at hx;cases hx
   | some en=>
    rw[e]at hx;have ex:=Option.some.inj hx;subst ex;have hi:i < b.size:=by have:=(Ak.mp e).1;rw[b.ba]at this;exact this
    have et:(b.nd 0).take (i+1)=(b.nd 0).take i++[en]:=by rw[C2,e];rfl
    have al:∀y,gY ((((b.nd 0).take i).map (Xe a.size)).map Ent.pv) y=.ret ((((b.nd 0).take i).map (Xe a.size)).map Ent.pv++[y]):=λy=>c8 (by simp;omega);cases en with
    | word w=>
     simp only[Ent.pv,ii,ci,yt,yr,bo,al,im,et,CM,Ao,if_false];simp[Xe,Ent.pv]
    | pair u v=>
     have j0:d4 [PV.int (u:Int),PV.int (v:Int)] 0=ap (.int u):=rfl;have j1:d4 [PV.int (u:Int),PV.int (v:Int)] 1=ap (.int v):=rfl;simp only[Ent.pv,ii,ci,eM,lS,bo,C3,if_true,aD,cF,j0,j1,wS,dN,dh,Af,a.ba,al,im,et];simp[Xe,Ent.pv]
  ·subst hs;rw[Dp (by rw[Af];exact Am _)];have es:(b.nd 0).map (Xe a.size)=b.nd a.size:=by rw[<- IB b 0 a.size,AH]
   rw[es];simp only[ii,ci,eL,tH,dh,dN,Af,a.ba,b.ba,im,eN (l:=(a.nd 0).map Ent.pv) (m:=(b.nd a.size).map Ent.pv) (by simp[a.ba,b.ba];omega)];rw[eN (by simp[a.ba,b.ba];omega)];have e:(Tr.node a b).nd 0=a.nd 0++b.nd a.size++[.pair (a.size-1) (a.size+b.size-1)]:=by rw[Tr.nd];simp
   rw[e]at q;have e1:((a.size:Int)-1)=((a.size-1:Nat):Int):=by omega
   have e2:((a.size:Int)+(b.size:Int)-1)=((a.size+b.size-1:Nat):Int):=by omega
   rw[e1,e2];simpa[Ent.pv]using q
def S3(h:j∈left):Xp (aQ left) (.int (j:Int))=.ret (aQ (left.erase j)):=by
 show am (mx (aQ left)) _=_;rw[vk,gs];show W.eQ _ _=_;rw[mo (Av.mpr ⟨j,h,rfl⟩),tJ,<- vk]
def Gf{l:O Nat}(h:(aQ l)[i]?=ap x):∃k,l[i]?=ap k/\x=.int (k:Int):=by
 unfold aQ at h;rw[Al]at h;cases e:l[i]? with
 | none=>rw[e]at h;cases h
 | some k=>rw[e]at h;exact⟨k,rfl,(Option.some.inj h).symm⟩
theorem JV(t:Tr)(hz:t.size<=400)(hd:t.depth < 12)(q:∀ds d,Dt t ds [] d->d<=13*((splits t).length:Int)->Q (.tup (bj ds))):(eG t.pv).run Q:=by
 unfold eG;have e1:S2 [PV.int 0] (.int ((t.nd 0).map Ent.pv).length)=.ret (bj (An t.size 0)):=by
  rw[Y8,mo ⟨by omega,by rw[Af,t.ba];omega,bE (by simp[t.ba];omega)⟩];congr 1;rw[Af,t.ba,A3]
  induction t.size with
  | zero=>rfl
  | succ n ih=>rw[Bw,B9,ih];rfl
 have e3:((t.nd 0).map Ent.pv).length<=sizeLine:=bE (by rw[Af,t.ba];omega);simp only[ii,ci];refine W.le.use (jD 12 t hd hz) ?_;simp only[ii,dh,e1,bp,mo e3,im];refine abO Ue (λx hx=>?_) ?_
 ·rw[LL]at hx;obtain⟨j,hj,rfl⟩:=Av.mp hx;cases en t 0 j with
  | word w=>simp[Ent.pv,Ue]
  | pair u v=>simp[Ent.pv,Ue]
 rw[Yl t];have hsl:(splits t).length<=t.size:=by
  have:=KY (splits t) 0 t.size (Dt.first t).ris λx hx=>⟨A8 _,((Dt.first t).ZS x hx).1⟩;omega
 simp only[im,yq,dE,cV,mo (bf (i:=0) (j:=((splits t).length:Int)) ∅ ∅),A3];refine fH (λi s=>∃(ds:O Int) (left:O Nat) (d:Int),s=(bj ds,PV.int d,aQ left)/\left.length+i=(splits t).length/\Dt t ds left d/\d+13*(left.length:Int)<=13*((splits t).length:Int)) ⟨_,_,0,rfl,rfl,Dt.first t,by omega⟩ ?_ ?_
 ·rintro i s hi ⟨ds,left,d,rfl,hl,D,hd⟩;have he:left≠[]:=λz=>by rw[z]at hl;simp at hl;omega
  have ù:left.length<=t.size:=by omega
  simp only[ii,ci,im];refine gm (λi s=>s=aQ ((left.take i).filter (N4 t left))) (by simp[aQ]) (λi x s hx hs=>?_) (λs hs=>?_)
  ·obtain⟨k,hk,rfl⟩:=Gf hx;subst hs;have hkm:=Be hk;have et:left.take (i+1)=left.take i++[k]:=by rw[C2,hk];rfl
   have UN:=(Ak.mp hk).1;have fl:((left.take i).filter (N4 t left)).length<=i:=by
    have:=Bz (N4 t left) (left.take i);have:=DY i left;omega
   have al:gY (aQ ((left.take i).filter (N4 t left))) (.int (k:Int))=.ret (aQ ((left.take i).filter (N4 t left))++[.int (k:Int)]):=c8 (by rw[dE];omega);obtain⟨h1,h2⟩:=D.ZS k hkm;cases e:en t 0 k with
   | word w=>rw[e]at h2;cases h2
   | pair a b=>
    have j0:d4 [PV.int (a:Int),PV.int (b:Int)] 0=ap (.int a):=rfl;have j1:d4 [PV.int (a:Int),PV.int (b:Int)] 1=ap (.int b):=rfl;have hr:N4 t left k=(!decide (a∈left)&&!decide (b∈left)):=by unfold N4;rw[e]
    rw[et,El];simp only[ii,bp,cF,Yf t h1,e,Ent.pv,wS,aD,j0,j1,QA,if_true];by_cases ca:a∈left
    ·simp[ca,hr,aQ]
    ·by_cases cb:b∈left
     ·simp[ca,cb,hr,aQ]
     ·simp[ca,cb,hr,al]
  ·subst hs;rw[dE,C4];have ne:=D.aa6 he;refine pick_run ne (by rw[dE];have:=Bz (N4 t left) left;omega) λx hx=>?_;obtain⟨j,hj,rfl⟩:=Av.mp hx;obtain⟨YU,Nh⟩:=Bd.mp hj;obtain⟨js,jp⟩:=D.ZS j YU;cases ej:en t 0 j with
   | word w=>rw[ej]at jp;cases jp
   | pair a b=>
   unfold N4 at Nh;rw[ej]at Nh;simp at Nh;simp only[dN,im,cI 12 ⋯ ⋯,ii];refine bg λy y0 y1=>?_;simp only[dN,im,nr (l:=bj ds) (k:=j) (by rw[fD,D.len];exact js),S3 YU,Qz,ii];refine⟨_,left.erase j,_,rfl,by rw[ED YU];have:=EY YU;omega,D.next YU ej Nh.1 Nh.2 y0,?_⟩;rw[ED YU];have:=EY YU;omega
 ·rintro s ⟨ds,left,d,rfl,hl,D,hd⟩;have:left=[]:=B5 ∅;subst this;simp;exact q ds d D (by simpa using hd)
theorem Mi(g:wo t)(q:∀s,WG s t.az->Q (g9 s)):(gc t.pv).run Q:=by
 have hz:=g.size;have hdp:=g.depth;unfold gc;simp only[ii,ci,cI 2 ⋯ ⋯];refine bg λd _ _=>?_;simp only[fP,bB,im];cases c:d==0 with
 | true=>
  simp only[if_true];refine Nk t ∅ Q ?_;rw[<- acF];exact q _ (L9 ∅)
 | false=>
  simp only[Ao,if_false,ci];refine JV t ∅ ∅ λds d D akv=>?_;have UH:(splits t).length<=7:=by have:=Ie t;have:=g.few;omega
  have DDt:=DD.of (D.isD ∅);have hb:(aR t ds).length<=16:=by unfold aR;rw[Ar,o8];have:=KL t ds;omega
  refine RF DDt ∅ Q ?_;rw[<- ac7];exact q _ (Oo DDt hz hb)
theorem zX(q:∀ps:O Int,ps.length=4->(∀p∈ps,0<=p/\p<=10 ^ 29)->Q (.tup (bj ps))):dM.run Q:=by
 unfold dM;have p2:NZ 10 28:=⟨by decide,by decide,by decide⟩;simp only[ii,ci,im,cV,mo (bf (i:=0) (j:=4) ∅ ∅)];refine fH (n:=4) (λi s=>∃ps:O Int,s=bj ps/\ps.length=i/\∀p∈ps,0<=p/\p<=10 ^ 29) ⟨[],rfl,rfl,by simp⟩ ?_ ?_
 ·rintro i s hi ⟨ps,rfl,hl,hp⟩;simp only[ii,ci,im,cI 10 ⋯ ⋯];refine bg λa a0 a1=>?_;simp only[cI 1001 ⋯ ⋯];refine bg λb b0 b1=>?_;simp only[eL,im,Jy,mo p2,cI 1000 ⋯ ⋯];refine bg λc c0 c1=>?_;simp only[dN,im];rw[eN (by simp)];refine pick_run (by simp) (by simp) λx hx=>?_;have ĩ:(0:Int)<=10 ^ FX 28/\(10:Int) ^ FX 28+100000<=10 ^ 29:=by decide +kernel
  obtain⟨v,rfl,hv⟩:∃v:Int,x=.int v/\0<=v/\v<=10 ^ 29:=by
   simp at hx;rcases hx with rfl | rfl | rfl | rfl | rfl | rfl | rfl | rfl | rfl
   all_goals first | exact⟨_,rfl,by omega⟩ | exact⟨_,rfl,by have:=ĩ;simp at this;omega⟩
  rw[c8 (by rw[fD];omega)];exact⟨ps++[v],by simp[bj],by simp[hl],λp h=>by rcases AE.mp h with h | h;exact hp p h;rw[AD.mp h];exact hv⟩
 ·rintro s ⟨ps,rfl,hl,hp⟩;exact q ps hl hp
theorem NH{m:Int}(n0:0 < n)(n1:n<=8)(m0:0 < m)(m1:m<=10)(q:∀(g:O Sy) (ws:O Str) (t:Tr) (ps:O Int),WG g ws->(∀w∈t.az,w∈ws)->t.az.length<=10->ps.length=4->(∀p∈ps,0<=p/\p<=10 ^ 29)->Q (.tup [g9 g,t.pv,.cl ((t.nd 0).map Ent.pv),.tup (bj ps)])):(iq (.int n) (.int m)).run Q:=by
 unfold iq;simp only[ii,ci];refine Jn n0 n1 λt ws G hp=>?_;simp only[kW,im];refine Mi G λg wg=>?_;have hl:=hp.length_eq;have:=G.few;have:=t.jE;refine Ih (λz=>by rw[z,Bp]at hl;omega) ∅ m0 m1 λs hs hn=>?_;have h1:=s.size_eq;have h2:=s.oE;refine W.le.use (jD 12 s ∅ ∅) ?_;refine zX λps p4 p0=>?_;exact q g t.az s ps wg (λw h=>hp.mem_iff.mpr (hs w h)) ∅ p4 p0
end My
variable{ps:O Int}{d:B7}
namespace My
abbrev OI:=Option Int
def oP:OI->PV
 | none=>.ax
 | some i=>.int i
def uk(l:O OI):O Int:=l.filterMap id
def iU(l:O OI):OI:=if bm∈l then bm else ap (uk l).sum
def lZ(l:O OI):OI:=if uk l=[] then bm else ap (pD (uk l))
theorem Lc:∀{l:O OI},bm∉l->l.map oP=(uk l).map PV.int
 | [],_=>rfl
 | none::l,h=>absurd (.head _) h
 | some a::l,h=>by
  have:=Lc (l:=l) λz=>h (.tail _ z);rw[Ap,this];rfl
def Y5(l:O OI):(l.map oP).filterMap (λx=>if x matches .ax then bm else ap x)=(uk l).map PV.int:=by
 induction l with
 | nil=>rfl
 | cons a l ih=>cases a with
  | none=>rw[Ap,A9];exact ih
  | some i=>rw[Ap,A9];exact congrArg _ ih
def YE(l:O OI):qJ false .ax (l.map oP)=.ret (decide (bm∈l)):=by
 have h0:∀x∈l.map oP,PV.fq x=true/\PV.cy x<=150:=λx hx=>by
  obtain⟨o,_,rfl⟩:=Av.mp hx;cases o <;> simp[oP]
 have h1:UE .ax (l.map oP):=⟨by simp,gW.mpr λx hx=>(h0 x hx).1,gX λx hx=>(h0 x hx).2⟩;have h2:sZ .ax (l.map oP)=decide (bm∈l):=by
  unfold sZ;rw[List.any_map];clear h0 h1
  induction l with
  | nil=>rfl
  | cons a l ih=>
   rw[BA,ih];cases a <;> simp[oP,km]
 unfold qJ;rw[mo h1,h2];simp
def o7(l:O OI):kJ (.cl (l.map oP))=.ret (oP (iU l)):=by
 unfold kJ iU;simp only[ii,bp,YE];by_cases h:bm∈l
 ·simp[h,oP]
 ·rw[if_neg h];simp only[h,decide_false,Ao,if_false,eL,ii,Lc h,Kz,gs];rfl
def Ua(l:O OI):Lk ((uk l).map PV.int)=.ret (oP (lZ l)):=by
 unfold Lk lZ;rw[gs,ii]
 split <;> rfl
def Hn(l:O OI):(mq (l.map oP) λp2=>P8 (am (of2 vj p2 .ax) asB) (bd p2))=.ret ((uk l).map PV.int):=by
 rw[<- Y5];refine xn λx hx=>?_;obtain⟨o,_,rfl⟩:=Av.mp hx;cases o <;> simp[oP,PV.dq]
def Hl(l:O OI):jC (.cl (l.map oP))=.ret (oP (lZ l)):=by
 unfold jC;simp only[ii,bp,Hn,Ua]
def MN{a b:O Int}(h:a.Perm b):pD a=pD b:=by
 by_cases c:a=[]
 ·subst c;rw[List.nil_perm.mp h]
 ·have c2:b≠[]:=λz=>c (by subst z;exact List.perm_nil.mp h);exact Fe (xc (h.mem_iff.mpr (nP c2))) (xc (h.mem_iff.mp (nP c)))
def vm{a b:O OI}(h:a.Perm b):lZ a=lZ b:=by
 have h2:(uk a).Perm (uk b):=h.filterMap _;unfold lZ;rw[MN h2];have:(uk a=[])=(uk b=[]):=propext ⟨λz=>List.nil_perm.mp (z▸h2),λz=>List.perm_nil.mp (z▸h2)⟩;simp only[this]
def JX(l:O OI):tV (l.map oP)=true:=Hj.mpr λx hx=>by
 obtain⟨o,_,rfl⟩:=Av.mp hx;cases o <;> (rw[oP,PV.dat] <;> simp)
def Sg(d:Str):Nat:=if d="split" then 0 else if d="doubled" then 1 else 2
def Tc(ps:O Int)(d:Str):Int:=ps.getD (Sg d) 0
theorem RD(d:Str):Sg d < 3:=by unfold Sg;split;omega;split <;> omega
theorem RQ(h:ps.length=4)(hk:k < 4):d4 (bj ps) (k:Int)=ap (.int (ps.getD k 0)):=di (by
 unfold bj;rw[Al,Ad ∅,Aj,Ad ∅];rfl)
def YD(d:Str):Prop:=d="split"\/d="doubled"\/d="over"
def Lv:qJ false (.str d) ([("split":Str),("doubled":Str),("over":Str)].map PV.str)=.ret (decide (d∈[("split":Str),("doubled":Str),("over":Str)])):=by
 unfold qJ;rw[mo ⟨by simp,by simp[d5],by simp[cK]⟩];congr 1;simp only[sZ,Ap,D5,BA,List.any_nil,Wq,Bool.or_false,Ao,if_false];have e:∀a:Str,(a==d)=decide (d=a):=λa=>by
  by_cases c:a=d
  ·subst c;simp
  ·have c2:¬d=a:=λz=>c z.symm;simp[c,c2]
 simp[e,Ax]
theorem Pl(h:ps.length=4)(hd:YD d):eZ (.tup (bj ps)) (.str d)=.ret (.int (Tc ps d)):=by
 unfold eZ;have hm:d∈[("split":Str),("doubled":Str),("over":Str)]:=by rcases hd with rfl | rfl | rfl <;> simp
 have hi:QD ["split","doubled","over"] (.str d)=.ret (.int ((Sg d:Nat):Int)):=by
  show W.eQ _ _=_;rw[mo hm];rcases hd with rfl | rfl | rfl <;> rfl
 have:=RD d;simp only[ii,Lv,hm,decide_true,if_true,aD,hi,cF,RQ h (k:=Sg d) ∅,wS];rfl
def zY:eZ (.tup (bj ps)) (.str "found")=.ret (.int 0):=by
 unfold eZ;have hm:("found":Str)∉[("split":Str),("doubled":Str),("over":Str)]:=by decide +kernel
 simp only[ii,Lv,hm,decide_false,Ao,if_false]
end My
variable{n:Nat}{T:O (O My.OI)}{d:My.Dd}
namespace My
def rg(T:O (O OI))(j i:Nat):OI:=(T.getD j []).getD i bm
def rP(T:O (O OI)):O PV:=T.map λr=>.tup (r.map oP)
def tY(ps:O Int)(R:Nat->Nat->OI)(a b:Nat)(d:Dd):OI:=iU [ap (Tc ps d.1),R a d.2.1,R b d.2.2]
def LU(g:O Sy)(ps:O Int)(R:Nat->Nat->OI)(e:Ent)(i:Nat):O OI:=match e with
 | .word w=>if hm g i w=true then [ap 0] else []
 | .pair a b=>(dl g i).map (tY ps R a b)
def pA(g:O Sy)(ps:O Int)(i:Nat):Int:=if (sy g i).un.length=2 then ps.getD 3 0 else 0
def OW(g:O Sy)(ps:O Int)(row:O OI)(i:Nat):O OI:=(sy g i).un.map λu=>iU [ap (pA g ps i),row.getD u bm]
def cv(g:O Sy)(ps:O Int)(R:Nat->Nat->OI)(e:Ent):Nat->O OI
 | 0=>[]
 | k+1=>cv g ps R e k++[lZ (LU g ps R e k++OW g ps (cv g ps R e k) k)]
def bM(g:O Sy)(ps:O Int)(es:O Ent):Nat->O (O OI)
 | 0=>[]
 | j+1=>bM g ps es j++[cv g ps (rg (bM g ps es j)) (Rg es j) g.length]
theorem gG(g:O Sy)(ps:O Int)(R:Nat->Nat->OI)(e:Ent):∀k,(cv g ps R e k).length=k
 | 0=>rfl
 | k+1=>by rw[cv,Ai,gG g ps R e k];rfl
theorem d8(g:O Sy)(ps:O Int)(es:O Ent):∀j,(bM g ps es j).length=j
 | 0=>rfl
 | j+1=>by rw[bM,Ai,d8 g ps es j];rfl
structure Wide(g:List Sy)(T:List (List OI))(n:Nat):Prop where
 len:T.length=n
 row:∀j,j < n->(T.getD j []).length=g.length
theorem iT(g:O Sy)(ps:O Int)(es:O Ent):∀j,Wide g (bM g ps es j) j
 | 0=>⟨rfl,λj h=>absurd h (Nat.not_lt_zero j)⟩
 | j+1=>⟨d8 g ps es _,λk hk=>by
  have W:=iT g ps es j;rw[bM];by_cases c:k < j
  ·rw[jd (by rw[W.len];exact c)];exact W.row k c
  ·have:k=j:=by omega
   subst this;rw[gw (by rw[W.len];exact Am _),W.len,CF];exact gG _ _ _ _ _⟩
def VQ(W':Wide g T n)(hj:j < n)(hi:i < g.length):(cQ (am (cQ (bd (rP T)) (bd (.int (j:Int)))) aA) (bd (.int (i:Int))))=.ret (oP (rg T j i)):=by
 have hl:=W'.row j hj;have h1:d4 (rP T) (j:Int)=ap (.tup ((T.getD j []).map oP)):=di (by
  unfold rP;rw[Al,Ad (by rw[W'.len];exact hj),Aj,Ad (by rw[W'.len];exact hj)];rfl)
 have h2:d4 ((T.getD j []).map oP) (i:Int)=ap (oP (rg T j i)):=di (by
  unfold rg;rw[Al,Ad (by rw[hl];exact hi),Aj (l:=T.getD j []),Ad (by rw[hl];exact hi)];rfl)
 simp only[ii,cF,h1,wS,aD,h2]
def ac5(h:d∈dl g i):YD d.1:=by
 unfold dl at h;rcases Ax.mp h with rfl | h
 ·exact .inr (.inl rfl)
 rcases AE.mp h with h | h
 ·unfold wI at h
  split at h
  ·simp at h;rcases h with rfl | rfl <;> exact .inl rfl
  ·cases h
 ·rcases AE.mp h with h | h <;> obtain⟨o,_,rfl⟩:=Av.mp h <;> exact .inr (.inr rfl)
def Pt{f:α->β}{a b:List β}(h:a.Perm b):∀{l:List α},b=l.map f->∃ds:List α,a=ds.map f/\ds.Perm l:=by
 induction h with
 | nil=>intro l e;exact⟨[],rfl,by rw[List.map_eq_nil_iff.mp e.symm]⟩
 | cons x _ ih=>
  intro l e;cases l with
  | nil=>cases e
  | cons y l=>
   injection e with e1 e2;obtain⟨ds,h1,h2⟩:=ih e2;exact⟨y::ds,by rw[Ap,e1,h1],h2.cons y⟩
 | swap x y r=>
  intro l e
  match l,e with
  | u::v::l,e=>
   injection e with e1 e2;injection e2 with e2 e3;exact⟨v::u::l,by rw[Ap,Ap,e1,e2,e3],.swap u v l⟩
 | trans _ _ Wf YF=>
  intro l e;obtain⟨ds,h1,h2⟩:=YF e;obtain⟨es,h3,h4⟩:=Wf h1;exact⟨es,h3,h4.trans h2⟩
theorem vM(f h:α->β):∀l:List α,(l.map f++l.map h).Perm (l.flatMap λo=>[f o,h o])
 | []=>.nil
 | a::l=>by
  rw[Ap,Ap,CV,Ce];exact((List.perm_middle).trans ((vM f h l).cons _)).cons _
def LP(g:O Sy)(i:Nat):(dl g i).Perm (dds g i):=((vM (λo=>(("over",i,o):Dd)) (λo=>(("over",o,i):Dd)) (sy g i).be).append_left _).cons _
def LQ(G:WG g ws)(h:i < g.length)(hd:d∈dl g i):d.2.1 < g.length/\d.2.2 < g.length:=Zp G h ((LP g i).mem_iff.mp hd)
theorem NG(p4:ps.length=4)(W':Wide g T n)(ha:a < n)(hb:b < n)(hd:YD d.1)(hx:d.2.1 < g.length)(hy:d.2.2 < g.length):dX (.tup (bj ps)) (.cl (rP T)) (Ent.pair a b).pv (d2 d)=.ret (oP (tY ps (rg T) a b d)):=by
 unfold dX;have i0:d4 [PV.str d.1,PV.tup [.int (d.2.1:Int),.int (d.2.2:Int)]] 0=ap (.str d.1):=rfl;have i1:d4 [PV.str d.1,PV.tup [.int (d.2.1:Int),.int (d.2.2:Int)]] 1=ap (.tup [.int (d.2.1:Int),.int (d.2.2:Int)]):=rfl;have ez:zA [PV.int (a:Int),.int (b:Int)] [.int (d.2.1:Int),.int (d.2.2:Int)]=.ret [.tup [.int (a:Int),.int (d.2.1:Int)],.tup [.int (b:Int),.int (d.2.2:Int)]]:=mo (by simp;exact bE ∅);have ec:kx [PV.int (Tc ps d.1)] [oP (rg T a d.2.1),oP (rg T b d.2.2)]=.ret ([ap (Tc ps d.1),rg T a d.2.1,rg T b d.2.2].map oP):=by rw[eN (by simp)];rfl
 have em:(a7 [PV.tup [.int (a:Int),.int (d.2.1:Int)],.tup [.int (b:Int),.int (d.2.2:Int)]] λp6=>am (uj p6) λt7=>(cQ (am (cQ (bd (rP T)) (bd t7.1)) aA) (bd t7.2)))=.ret [oP (rg T a d.2.1),oP (rg T b d.2.2)]:=by
  simp only[a7,kW,ii];have h1:=VQ W' ha hx;have h2:=VQ W' hb hy;simp only[ii]at h1 h2;simp only[h1,h2,ii]
 simp only[ii]at em;simp only[d2,ii,pU,N7,aQ,Ap,D5,aD,cF,i0,i1,wS,ez,em,Pl p4 hd,bp,eL,ec];exact o7 [ap (Tc ps d.1),rg T a d.2.1,rg T b d.2.2]
def JU(G:WG g ws)(p4:ps.length=4)(W':Wide g T n)(he:HJ n e)(hi:i < g.length){Q:O PV->Prop}(q:∀L:O OI,L.Perm (LU g ps (rg T) e i)->Q (L.map oP)):(f6 (g9 g) (.tup (bj ps)) (.cl (rP T)) e.pv (.int (i:Int))).run Q:=by
 unfold f6;simp only[ii,ci];cases e with
 | word w=>
  unfold gK;simp only[Ent.pv,ii,ci,yt,yr,bo,im,if_true,UJ G hi];unfold LU at q;cases h:hm g i w with
  | false=>
   simp only[h,Ao,if_false]at q ⊢;exact q [] (List.Perm.refl _)
  | true=>
   simp only[h,if_true]at q ⊢;have ef:dX (.tup (bj ps)) (.cl (rP T)) (.str w) (.tup [.str "found",.tup []])=.ret (.int 0):=by
    unfold dX;have i0:d4 [PV.str "found",PV.tup []] 0=ap (.str "found"):=rfl;have i1:d4 [PV.str "found",PV.tup []] 1=ap (.tup []):=rfl;have hv:c7 (.str w)=.ret (.tup []):=pU (.word w);have ez:zA [] []=.ret []:=mo (by simp);have ec:kx [PV.int 0] []=.ret ([ap (0:Int)].map oP):=by rw[eN (by simp)];rfl
    simp only[ii,hv,aD,cF,i0,i1,wS,ez,a7,zY,eL,ec,o7];rfl
   simp only[im,a7,ii,ef];exact q [ap 0] (List.Perm.refl _)
 | pair a b=>
  refine Nz G hi λm hm=>?_;obtain⟨ds,rfl,hp⟩:∃ds:O Dd,m=ds.map d2/\ds.Perm (dl g i):=Pt hm rfl;refine fY (λd=>oP (tY ps (rg T) a b d)) (λd hd=>?_) ?_
  ·have hdl:=hp.mem_iff.mp hd;obtain⟨h1,h2⟩:=LQ G hi hdl;rw[NG p4 W' he.1 he.2 (ac5 hdl) h1 h2];exact λQ q=>q
  ·have e:ds.map (λd=>oP (tY ps (rg T) a b d))=(ds.map (tY ps (rg T) a b)).map oP:=by rw[Ay];rfl
   rw[e];exact q _ (hp.map _)
theorem XT(p4:ps.length=4)(hi:i < g.length):hZ (g9 g) (.tup (bj ps)) (.int (i:Int))=.ret (.int (pA g ps i)):=by
 unfold hZ pA;simp only[ii,m7 hi,df,dE,fP,bB,aD,cF];by_cases c:(sy g i).un.length=2
 ·have h3:=RQ p4 (k:=3) ∅;have c2:(((sy g i).un.length:Int)==2)=true:=by simp[c]
  rw[if_pos c,c2];simp only[if_true];rw[show((3:Nat):Int)=3 from rfl]at h3;rw[h3];rfl
 ·have c2:(((sy g i).un.length:Int)==2)=false:=by simp;omega
  rw[if_neg c,c2];rfl
theorem OD(G:WG g ws)(p4:ps.length=4){row:O OI}(hi:i < g.length)(hr:row.length=i):fZ (g9 g) (.tup (bj ps)) (.cl (row.map oP)) (.int (i:Int))=.ret ((OW g ps row i).map oP):=by
 unfold fZ OW;simp only[ii,XT p4 hi,m7 hi,aD];rw[Ay];refine jx λu hu=>?_;have hu:=G.dn i hi u hu;have h1:d4 (row.map oP) (u:Int)=ap (oP (row.getD u bm)):=di (by rw[Al,Ad ∅,Aj,Ad ∅];rfl);have e:[PV.int (pA g ps i),oP (row.getD u bm)]=[ap (pA g ps i),row.getD u bm].map oP:=rfl;simp only[ii,bp,cF,h1,wS,e,o7];rfl
theorem Xl(G:WG g ws)(p4:ps.length=4)(W':Wide g T n)(he:HJ n e):(nQ (g9 g) (.tup (bj ps)) (.cl (rP T)) e.pv).le (.ret (.tup ((cv g ps (rg T) e g.length).map oP))):=λQ q=>by
 unfold nQ;have hg:=G.len;have el:mX cn [g9 g]=.ret (.int (g.length:Int)):=by simp[g9]
 simp only[ii,ci,im];simp only[el,im,cV,mo (bf (i:=0) (j:=(g.length:Int)) ∅ ∅),A3];refine fH (λi s=>s=(cv g ps (rg T) e i).map oP) rfl (λi s hi hs=>?_) (λs hs=>?_)
 ·subst hs;have Ĕ:=gG g ps (rg T) e i;refine JU G p4 W' he hi λL hL=>?_;rw[OD G p4 hi Ĕ];have h1:L.length<=63:=by
   rw[hL.length_eq];cases e with
   | word w=>show(if hm g i w=true then [ap 0] else []).length<=63;split <;> simp
   | pair a b=>show((dl g i).map _).length<=63;rw[Af];exact JS G hi
  have h2:(OW g ps (cv g ps (rg T) e i) i).length<=2:=by unfold OW;rw[Af];exact G.uj i hi
  simp only[ii,ci];rw[eN (by rw[Af,Af];omega),<- AO];have et:va ((L++OW g ps (cv g ps (rg T) e i) i).map oP)=.ret ((L++OW g ps (cv g ps (rg T) e i) i).map oP):=mo (JX _);simp only[im,et,Hl];rw[c8 (by rw[Af];omega)];show _=_;rw[cv,AO,vm (hL.append_right _)];rfl
 ·subst hs;exact q
theorem Oz(G:WG g ws)(p4:ps.length=4)(hz:t.size<=400):(q8 (g9 g) t.pv (.tup (bj ps))).le (.ret (.tup (rP (bM g ps (t.nd 0) t.size)))):=λQ q=>by
 unfold q8;simp only[ii,ci,im];refine W.le.use (iY t ∅) ?_;simp only[aD,im];refine gm (λi s=>s=rP (bM g ps (t.nd 0) i)) rfl (λi x s hx hs=>?_) (λs hs=>?_)
 ·subst hs;have hi:i < t.size:=by have:=(Ak.mp hx).1;rw[cP]at this;exact this
  rw[Al,gI t 0 i hi]at hx;have ex:=(Option.some.inj hx).symm;subst ex;simp only[ci];refine W.le.use (Xl G p4 (iT g ps (t.nd 0) i) (Rn t hi)) ?_;have ed:Rg (t.nd 0) i=en t 0 i:=by unfold Rg;rw[Aj,gI t 0 i hi];rfl
  have et:Ox (.tup ((cv g ps (rg (bM g ps (t.nd 0) i)) (en t 0 i) g.length).map oP))=.ret (.tup ((cv g ps (rg (bM g ps (t.nd 0) i)) (en t 0 i) g.length).map oP)):=mo (by rw[PV.dat];exact JX _);simp only[et,im];rw[c8 (by unfold rP;rw[Af,d8];omega)];show _=_;rw[bM,ed];unfold rP;rw[AO];rfl
 ·subst hs;rw[cP];exact q
end My
variable{R:Nat->Nat->My.OI}
namespace My
abbrev kk(j i:Nat):O Key:=[.inl (j:Int),.inl (i:Int)]
def IT(j:Nat):Nat->O OI->O (O Key×PV)
 | _,[]=>[]
 | i,v::r=>(kk j i,oP v)::IT j (i+1) r
def sR:Nat->O (O OI)->O (O Key×PV)
 | _,[]=>[]
 | j,r::T=>IT j 0 r++sR (j+1) T
theorem IU{j' i':Nat}(h:kk j i=kk j' i'):j=j'/\i=i':=by
 injection h with h1 h2;injection h2 with h2 _;injection h1 with h1;injection h2 with h2;omega
def tj(a b:O (O Key×PV))(k:O Key):cR (a++b) k=(cR a k).or (cR b k):=by
 unfold cR;rw[List.find?_append];cases a.find? λkv=>decide (kv.1=k) <;> rfl
theorem YY(j:Nat)(k:O Key):∀(r:O OI) (i:Nat),(∀n,n < r.length->k≠kk j (i+n))->cR (IT j i r) k=bm
 | [],_,_=>rfl
 | v::r,i,h=>by
  have h0:¬kk j i=k:=λz=>h 0 (by simp) z.symm;have:=YY j k r (i+1) λn hn=>by have:=h (n+1) (by simpa using hn);rw[show i+1+n=i+(n+1) by omega];exact this
  unfold cR at this ⊢;rw[IT,Bj];simp only[h0,decide_false];exact this
theorem Lz(j:Nat):∀(r:O OI) (i n:Nat),n < r.length->cR (IT j i r) (kk j (i+n))=ap (oP (r.getD n bm))
 | v::r,i,0,_=>by
  unfold cR;rw[IT,Bj];simp
 | v::r,i,n+1,h=>by
  have h0:¬kk j i=kk j (i+(n+1)):=λz=>by have:=(IU z).2;omega
  have:=Lz j r (i+1) n (by simpa using h);rw[show i+1+n=i+(n+1) by omega]at this;unfold cR at this ⊢;rw[IT,Bj];simp only[h0,decide_false];exact this
theorem acD(k:O Key):∀(T:O (O OI)) (j:Nat),(∀m n,m < T.length->n < (T.getD m []).length->k≠kk (j+m) n)->cR (sR j T) k=bm
 | [],_,_=>rfl
 | r::T,j,h=>by
  rw[sR,tj,YY j k r 0 λn hn=>by rw[AH];exact h 0 n (by simp) hn,acD k T (j+1) λm n hm hn=>by
   rw[show j+1+m=j+(m+1) by omega];exact h (m+1) n (by simpa using hm) (by simpa using hn)]
  rfl
theorem rz:∀(T:O (O OI)) (j m n:Nat),m < T.length->n < (T.getD m []).length->cR (sR j T) (kk (j+m) n)=ap (oP (rg T m n))
 | r::T,j,0,n,_,hn=>by
  have:=Lz j r 0 n hn;rw[AH]at this;rw[sR,tj];show(cR (IT j 0 r) (kk j n)).or _=_;rw[this];rfl
 | r::T,j,m+1,n,hm,hn=>by
  rw[sR,tj,YY j _ r 0 λn' _ z=>by have:=(IU z).1;omega];have:=rz T (j+1) m n (by simpa using hm) (by simpa using hn);rw[show j+1+m=j+(m+1) by omega]at this;rw[this];rfl
theorem Gw(j:Nat)(v:OI):∀(r:O OI) (i:Nat),IT j i (r++[v])=IT j i r++[(kk j (i+r.length),oP v)]
 | [],i=>rfl
 | u::r,i=>by
  rw[Ce,IT,Gw j v r (i+1),IT,Ce,Ar,show i+1+r.length=i+(r.length+1) by omega]
theorem n9(r:O OI):∀(T:O (O OI)) (j:Nat),sR j (T++[r])=sR j T++IT (j+T.length) 0 r
 | [],j=>by rw[Fd,sR,sR,sR,CJ];rfl
 | u::T,j=>by
  rw[Ce,sR,n9 r T (j+1),sR,AA,Ar,show j+1+T.length=j+(T.length+1) by omega]
def S9{k:O Key}(h:cR kvs k=bm):FL.zT kvs k v=kvs++[(k,v)]:=by
 unfold FL.zT;rw[if_neg];intro c;obtain⟨x,h1,h2⟩:=List.any_eq_true.mp c;unfold cR at h;rw[ET,List.find?_eq_none]at h;exact h x h1 h2
theorem Lq:∀(T:O (O OI)) (j:Nat),(sR j T).length=(T.map BR).sum
 | [],_=>rfl
 | r::T,j=>by
  have:∀(r:O OI) (i:Nat),(IT j i r).length=r.length:=λr=>by
   induction r with
   | nil=>intro i;rfl
   | cons v r ih=>intro i;rw[IT,Ar,ih,Ar]
  rw[sR,Ai,this,Lq T,Ap,DG]
def ldl(g:O Sy)(i:Nat):O Dd:=dbl i::((sy g i).be.flatMap (XU i)++wI (sy g i).un)
def Gv(g:O Sy)(i:Nat):(ldl g i).Perm (dl g i):=(CO.cons _).trans (LP g i).symm
def eP(e:Nat×Nat):PV:=.tup [.int (e.1:Int),.int (e.2:Int)]
def loP(a b:Nat)(d:Dd):PV:=.tup [.int ((Sg d.1:Nat):Int),.cl ([(a,d.2.1),(b,d.2.2)].map eP)]
def ldO(g:O Sy)(e:Ent)(i:Nat):O PV:=match e with
 | .word w=>if hm g i w=true then [.tup [.ax,.cl []]] else []
 | .pair a b=>(ldl g i).map (loP a b)
theorem IP(G:WG g ws)(he:es[j]?=ap e)(hi:i < g.length):(eF (g9 g) (.cl (es.map Ent.pv)) (.int (j:Int)) (.int (i:Int))).le (.ret (ldO g e i)):=λQ q=>by
 unfold eF;have h1:d4 (es.map Ent.pv) (j:Int)=ap e.pv:=di (by rw[Al,he];rfl);have hu:=G.uj i hi;have hb:=G.Zx i hi;have gi:=QS hi;simp only[g9,ii,aD,gi,Sy.pv,Q7,bp,cF,h1,wS,ci];cases e with
 | word w=>
  simp only[Ent.pv,ii,yt,yr,bo,im,if_true,eq_nil _ (show(sy g i).un.length<=1000 by omega),bB,Wv (G.nm i hi) w];have e:hm g i w=((sy g i).un.isEmpty&&Jh w (sy g i).nm):=rfl;have q:Q (if hm g i w=true then [.tup [.ax,.cl []]] else []):=q;cases h1:(sy g i).un.isEmpty with
  | false=>rw[e,h1]at q;simpa using q
  | true=>cases h2:Jh w (sy g i).nm with
   | false=>rw[e,h1,h2]at q;simpa using q
   | true=>rw[e,h1,h2]at q;simpa using q
 | pair a b=>
  have j0:d4 [PV.int (a:Int),PV.int (b:Int)] 0=ap (.int a):=rfl;simp only[Ent.pv,ii,eM,lS,bo,im,Ao,if_false,kW,ci];refine gm (λk s=>s=(dbl i::((sy g i).be.take k).flatMap (XU i)).map (loP a b)) rfl (λk x s hx hs=>?_) (λs hs=>?_)
  ·obtain⟨o,ho,rfl⟩:=Gf hx;subst hs;have hk:=(Ak.mp ho).1;have hl:((sy g i).be.take k).length<=k:=DY _ _;have et:(sy g i).be.take (k+1)=(sy g i).be.take k++[o]:=by rw[C2,ho];rfl
   simp only[ii,ci,im];rw[c8 (by rw[Af,Ar,oz];omega)];simp only[im,ii];rw[c8 (by rw[Ai,Af,Ar,oz];simp;omega)];show _=_;rw[et,List.flatMap_append,AA,<- Ce,AO];rfl
  ·subst hs;rw[dE,C4];simp only[ii,df,dE,fP,bB,im];have q:Q ((dbl i::((sy g i).be.flatMap (XU i)++wI (sy g i).un)).map (loP a b)):=q;rw[<- Ce,AO]at q;have hfl:((dbl i::(sy g i).be.flatMap (XU i)).map (loP a b)).length<=61:=by rw[Af,Ar,oz];omega
   generalize (dbl i::(sy g i).be.flatMap (XU i)).map (loP a b)=M at q hfl;revert hu q;generalize (sy g i).un=l;intro hu q
   match l,hu,q with
   | [],_,q=>simpa[wI]using q
   | [u],_,q=>simpa[wI]using q
   | [u,v],_,q=>
    have k0:d4 [PV.int (u:Int),PV.int (v:Int)] 0=ap (.int u):=rfl;have k1:d4 [PV.int (u:Int),PV.int (v:Int)] 1=ap (.int v):=rfl;have c:((([u,v]:O Nat).length:Int)==2)=true:=rfl;simp only[c,if_true,lL,nN,aD,ii,cF,k0,k1,wS,ci,im];rw[c8 ∅];simp only[im,ii];rw[c8 (by rw[Ai];simp;omega)];rw[AA];exact q
def stO(g:O Sy)(i j u:Nat):PV:=.tup [if (sy g i).un.length=2 then .int 3 else .ax,.cl ([(j,u)].map eP)]
theorem MV(hi:i < g.length)(j:Nat):gb (g9 g) (.int (j:Int)) (.int (i:Int))=.ret ((sy g i).un.map (stO g i j)):=by
 unfold gb;have gi:=QS hi;have i2:d4 [(sy g i).nm,PV.int (sy g i).lv,.tup (aQ (sy g i).un),.tup (aQ (sy g i).be)] 2=ap (.tup (aQ (sy g i).un)):=rfl;simp only[g9,ii,aD,gi,Sy.pv,cF,i2,wS,df,dE,fP,bB];by_cases c:(sy g i).un.length=2
 ·have c2:(((sy g i).un.length:Int)==2)=true:=by simp[c]
  rw[c2];simp only[if_true,ii];refine jx λu _=>?_;simp only[ii,stO,c,if_true];rfl
 ·have c2:(((sy g i).un.length:Int)==2)=false:=by simp;omega
  rw[c2];simp only[Ao,if_false,ii];refine jx λu _=>?_;simp only[ii,stO,c,if_false];rfl
theorem Lb:∀{l:O OI},bm∉l->(uk l).sum=(l.map λo=>o.getD 0).sum
 | [],_=>rfl
 | none::l,h=>absurd (.head _) h
 | some a::l,h=>by
  have:=Lb (l:=l) λz=>h (.tail _ z);show(a::uk l).sum=_;rw[DG,this,Ap,DG];rfl
def Ol(p4:ps.length=4){pl:PV}{R8:Int}{es:O (Nat×Nat)}(c9:(pl=.ax/\R8=0)\/∃p:Nat,p < 4/\pl=.int (p:Int)/\R8=ps.getD p 0)(hk:∀e∈es,cR kvs (kk e.1 e.2)=ap (oP (R e.1 e.2))) :
  (f9 (.tup (bj ps)) (yP kvs) (.tup [pl,.cl (es.map eP)])).le (.ret (oP (iU (ap R8::es.map λe=>R e.1 e.2)))):=λQ q=>by
 unfold f9;have i0:d4 [pl,.cl (es.map eP)] 0=ap pl:=rfl;have i1:d4 [pl,.cl (es.map eP)] 1=ap (.cl (es.map eP)):=rfl;have q:Q (oP (iU (ap R8::es.map λe=>R e.1 e.2))):=q;have main:((PV.int R8)\λm8=>(es.map eP)\λl7=>am (ma l7 m8 λlU s2=>(
 dc (t2 nH (Si (bd (yP kvs)) (bd lU)) (bd .ax)) (
 .ax\λx4=>bd (Lp.out x4)) (
 am (w2 addW (bd s2) (Si (bd (yP kvs)) (bd lU))) λqS=>
 bd (.go qS)))) (Nl (λs2=>
 (bd s2)) id)).run Q:=by
  simp only[ii,ci];refine yk (λk s=>s=.int (R8+((es.take k).map λe=>(R e.1 e.2).getD 0).sum)/\∀e∈es.take k,R e.1 e.2≠bm) ⟨by simp,by simp⟩ (λk x s hx hs=>?_) (λs hs=>?_)
  ·obtain⟨rfl,hs⟩:=hs;rw[Al]at hx;cases e:es[k]? with
   | none=>rw[e]at hx;cases hx
   | some en=>
    rw[e]at hx;have ex:=(Option.some.inj hx).symm;subst ex;have et:es.take (k+1)=es.take k++[en]:=by rw[C2,e];rfl
    have hm:=Be e;have dg:(dgW (yP kvs) (eP en)).le (.ret (oP (R en.1 en.2))):=λQ q=>rC (k:=kk en.1 en.2) (hk en hm) q;simp only[ii,ci];refine W.le.use dg ?_;cases hr:R en.1 en.2 with
    | none=>
     simp only[oP,kX,bB,im,ii,PV.dq,if_true];show(Nl _ _ (Lp.out PV.ax)).run Q;have hn:iU (ap R8::es.map λe=>R e.1 e.2)=bm:=if_pos (.tail _ (Av.mpr ⟨en,hm,hr⟩));rw[hn]at q;exact q
    | some v=>
     simp only[oP,kX,bB,im,ii,PV.dq,Ao,if_false,ci];refine W.le.use dg ?_;simp only[hr,oP,dN,im];refine⟨?_,λe he=>?_⟩
     ·rw[et,AO,List.sum_append];simp[hr,Int.add_assoc]
     ·rw[et]at he;rcases AE.mp he with he | he
      ·exact hs e he
      ·rw[AD.mp he,hr];simp
  ·obtain⟨rfl,hs⟩:=hs;rw[Af,C4]at hs ⊢;have hn:bm∉(ap R8::es.map λe=>R e.1 e.2):=λz=>by
    rcases Ax.mp z with z | z
    ·cases z
    ·obtain⟨e,h1,h2⟩:=Av.mp z;exact hs e h1 h2
   unfold iU at q;rw[if_neg hn,Lb hn,Ap,DG,Ay]at q;exact q
 simp only[ii,aD,cF,i0,i1,wS,bp];simp only[ii]at main;rcases c9 with⟨rfl,rfl⟩ | ⟨p,hp,rfl,rfl⟩
 ·simp only[kX,PV.dq,bB,ii,if_true];exact main
 ·simp only[kX,PV.dq,bB,ii,Ao,if_false,cF,RQ p4 hp,wS];exact main
end My
variable{r:O My.OI}
namespace My
structure Op where
 pl:PV
 R8:Int
 es:List (Nat×Nat)
def Op.pv(o:Op):PV:=.tup [o.pl,.cl (o.es.map eP)]
def Op.cost(R:Nat->Nat->OI)(o:Op):OI:=iU (ap o.R8::o.es.map λe=>R e.1 e.2)
def PK(g:O Sy)(ps:O Int)(e:Ent)(i:Nat):O Op:=match e with
 | .word w=>if hm g i w=true then [⟨.ax,0,[]⟩] else []
 | .pair a b=>(ldl g i).map λd=>⟨.int ((Sg d.1:Nat):Int),Tc ps d.1,[(a,d.2.1),(b,d.2.2)]⟩
def Sb(g:O Sy)(ps:O Int)(i j:Nat):O Op:=(sy g i).un.map λu=>⟨if (sy g i).un.length=2 then .int 3 else .ax,pA g ps i,[(j,u)]⟩
def X6(g:O Sy)(ps:O Int)(e:Ent)(i:Nat):(PK g ps e i).map Op.pv=ldO g e i:=by
 cases e with
 | word w=>unfold PK ldO;simp only;split <;> rfl
 | pair a b=>unfold PK ldO;simp only;rw[Ay];rfl
def X5(g:O Sy)(ps:O Int)(i j:Nat):(Sb g ps i j).map Op.pv=(sy g i).un.map (stO g i j):=by
 unfold Sb;rw[Ay];rfl
def F7(g:O Sy)(ps:O Int)(R:Nat->Nat->OI)(e:Ent)(i:Nat):((PK g ps e i).map (Op.cost R)).Perm (LU g ps R e i):=by
 cases e with
 | word w=>unfold PK LU;simp only;split <;> exact List.Perm.refl _
 | pair a b=>unfold PK LU;simp only;rw[Ay];exact(Gv g i).map _
def YG(l:O OI):(dc (bd (!((uk l).map PV.int).isEmpty)) (Gk ((uk l).map PV.int)) (bd .ax))=.ret (oP (lZ l)):=by
 unfold Gk lZ;simp only[gs,ii];by_cases c:uk l=[]
 ·rw[if_pos c,c];rfl
 ·rw[if_neg c,mo c];have:(!((uk l).map PV.int).isEmpty)=true:=by cases h:uk l with | nil=>exact absurd h c | cons a r=>rfl
  rw[this,if_pos rfl];rfl
def KZ(h:j < T.length):rg (T++[r]) j i=rg T j i:=by unfold rg;rw[jd h]
def S0:rg (T++[r]) T.length i=r.getD i bm:=by unfold rg;rw[gw (Am _),CF];rfl
theorem W8{l:O Nat}(h:∀x∈l,x<=m):l.sum<=l.length*m:=by
 induction l with
 | nil=>simp
 | cons a l ih=>
  rw[DG,Ar,EU];have:=h a (.head _);have:=ih λx hx=>h x (.tail _ hx);omega
theorem Qf(G:WG g ws)(p4:ps.length=4)(hz:t.size<=400):(gh (g9 g) (.cl ((t.nd 0).map Ent.pv)) (.tup (bj ps))).le (.ret (yP (sR 0 (bM g ps (t.nd 0) t.size)))):=λQ q=>by
 unfold gh;have hg:=G.len;have el:mX cn [g9 g]=.ret (.int (g.length:Int)):=by simp[g9]
 simp only[ii,ci,dh,cP,im,cV,mo (bf (i:=0) (j:=(t.size:Int)) ∅ ∅),A3];refine fH (λj s=>s=sR 0 (bM g ps (t.nd 0) j)) rfl (λj s hj hs=>?_) (λs hs=>by subst hs;exact q);subst hs;simp only[el,ii,ci,im,cV,mo (bf (i:=0) (j:=(g.length:Int)) ∅ ∅),A3];have ed:Rg (t.nd 0) j=en t 0 j:=by unfold Rg;rw[Aj,gI t 0 j hj];rfl
 have Wd:=iT g ps (t.nd 0) j;have ir:=Rn t hj;have ht:bM g ps (t.nd 0) (j+1)=bM g ps (t.nd 0) j++[cv g ps (rg (bM g ps (t.nd 0) j)) (en t 0 j) g.length]:=by rw[bM,ed]
 rw[ht];generalize bM g ps (t.nd 0) j=T at Wd ⊢;refine fH (λi s=>s=sR 0 (T++[cv g ps (rg T) (en t 0 j) i])) (by rw[n9];exact(CJ _).symm) (λi s hi hs=>?_) (λs hs=>hs);subst hs;have Ĕ:=gG g ps (rg T) (en t 0 j) i;have eT:T.length=j:=Wd.len;simp only[ci];refine W.le.use (IP G (gI t 0 j hj) hi) ?_;simp only[eL,ii,im,ci,MV hi];rw[<- X6 g ps,<- X5 g ps];have l1:(PK g ps (en t 0 j) i).length<=63:=by
  have:=(F7 g ps (rg T) (en t 0 j) i).length_eq;rw[Af]at this;rw[this];cases en t 0 j with
  | word w=>show(if hm g i w=true then [ap 0] else []).length<=63;split <;> simp
  | pair a b=>show((dl g i).map _).length<=63;rw[Af];exact JS G hi
 have l2:(Sb g ps i j).length<=2:=by unfold Sb;rw[Af];exact G.uj i hi
 rw[eN (by rw[Af,Af];omega),<- AO];simp only[im,bp,ii];have gt:∀a x,a < j->x < g.length->cR (sR 0 (T++[cv g ps (rg T) (en t 0 j) i])) (kk a x)=ap (oP (rg (T++[cv g ps (rg T) (en t 0 j) i]) a x)):=λa x ha hx=>by
  have:=rz (T++[cv g ps (rg T) (en t 0 j) i]) 0 a x (by simp;omega) (by rw[jd ∅,Wd.row a ha];exact hx);rw[AH]at this;exact this
 have gt2:∀u,u < i->cR (sR 0 (T++[cv g ps (rg T) (en t 0 j) i])) (kk j u)=ap (oP (rg (T++[cv g ps (rg T) (en t 0 j) i]) j u)):=λu hu=>by
  have:=rz (T++[cv g ps (rg T) (en t 0 j) i]) 0 j u (by simp;omega) (by rw[gw ∅,eT,CF];show u < (cv g ps (rg T) (en t 0 j) i).length;rw[Ĕ];exact hu);rw[AH]at this;exact this
 refine fY (λo=>oP (o.cost (rg (T++[cv g ps (rg T) (en t 0 j) i])))) (λo ho=>?_) ?_
 ·refine Ol p4 ?_ ?_
  ·rcases AE.mp ho with ho | ho
   ·revert ho;cases en t 0 j with
    | word w=>
     intro ho;have ho:o∈(if hm g i w=true then [(⟨.ax,0,[]⟩:Op)] else []):=ho
     split at ho
     ·rw[AD.mp ho];exact .inl ⟨rfl,rfl⟩
     ·cases ho
    | pair a b=>
     intro ho;obtain⟨d,hd,rfl⟩:=Av.mp ho;exact .inr ⟨Sg d.1,by have:=RD d.1;omega,rfl,rfl⟩
   ·obtain⟨u,hu,rfl⟩:=Av.mp ho;by_cases c:(sy g i).un.length=2
    ·exact .inr ⟨3,by omega,if_pos c,if_pos c⟩
    ·exact .inl ⟨if_neg c,if_neg c⟩
  ·intro e he;rcases AE.mp ho with ho | ho
   ·revert ho ir;cases h:en t 0 j with
    | word w=>
     intro _ ho;have ho:o∈(if hm g i w=true then [(⟨.ax,0,[]⟩:Op)] else []):=ho
     split at ho
     ·rw[AD.mp ho]at he;cases he
     ·cases ho
    | pair a b=>
     intro GK ho;obtain⟨d,hd,rfl⟩:=Av.mp ho;obtain⟨h1,h2⟩:=LQ G hi ((Gv g i).mem_iff.mp hd);rw[h]at gt;have he:e∈[(a,d.2.1),(b,d.2.2)]:=he;simp at he;rcases he with rfl | rfl
     ·exact gt _ _ GK.1 h1
     ·exact gt _ _ GK.2 h2
   ·obtain⟨u,hu,rfl⟩:=Av.mp ho;have he:e∈[(j,u)]:=he;rw[AD.mp he];exact gt2 u (G.dn i hi u hu)
 ·have em:(PK g ps (en t 0 j) i++Sb g ps i j).map (λo=>oP (o.cost (rg (T++[cv g ps (rg T) (en t 0 j) i]))))=((PK g ps (en t 0 j) i++Sb g ps i j).map (Op.cost (rg (T++[cv g ps (rg T) (en t 0 j) i])))).map oP:=by rw[Ay];rfl
  rw[em];have et:∀l:O OI,va (l.map oP)=.ret (l.map oP):=λl=>mo (JX _);simp only[et,im,Hn];have eD:LU g ps (rg (T++[cv g ps (rg T) (en t 0 j) i])) (en t 0 j) i=LU g ps (rg T) (en t 0 j) i:=by
   revert ir;cases en t 0 j with
   | word w=>intro _;rfl
   | pair a b=>
    intro GK;refine BN λd _=>?_;unfold tY;rw[KZ (by rw[eT];exact GK.1),KZ (by rw[eT];exact GK.2)]
  have eS:(Sb g ps i j).map (Op.cost (rg (T++[cv g ps (rg T) (en t 0 j) i])))=OW g ps (cv g ps (rg T) (en t 0 j) i) i:=by
   unfold Sb OW;rw[Ay];refine BN λu _=>?_;show iU [ap (pA g ps i),rg (T++[_]) j u]=_;rw[<- eT,S0]
  have ŉ:lZ ((PK g ps (en t 0 j) i++Sb g ps i j).map (Op.cost (rg (T++[cv g ps (rg T) (en t 0 j) i]))))=lZ (LU g ps (rg T) (en t 0 j) i++OW g ps (cv g ps (rg T) (en t 0 j) i) i):=by
   rw[AO,eS];refine vm (List.Perm.append_right _ ?_);rw[<- eD];exact F7 g ps _ _ i
  have em2:=YG ((PK g ps (en t 0 j) i++Sb g ps i j).map (Op.cost (rg (T++[cv g ps (rg T) (en t 0 j) i]))));simp only[ii]at em2;simp only[em2,im];rw[ŉ];have ek:Lr (.tup [.int (j:Int),.int (i:Int)])=.ret (kk j i):=rfl;have gn:cR (sR 0 (T++[cv g ps (rg T) (en t 0 j) i])) (kk j i)=bm:=acD _ _ _ λm n hm hn z=>by
   obtain⟨z1,z2⟩:=IU z;rw[AH]at z1;subst z1 z2;rw[gw ∅,eT,CF]at hn;have hn:i < (cv g ps (rg T) (en t 0 j) i).length:=hn;omega
  have hkl:(sR 0 (T++[cv g ps (rg T) (en t 0 j) i])).length < sizeLine:=by
   rw[Lq];have h1:∀x∈(T++[cv g ps (rg T) (en t 0 j) i]).map BR,x<=300:=λx hx=>by
    obtain⟨r,hr,rfl⟩:=Av.mp hx;rcases AE.mp hr with hr | hr
    ·obtain⟨m,hm⟩:=B4 hr;have ę:=(Ak.mp hm).1;have:=Wd.row m ∅;rw[Aj,hm]at this;have:r.length=g.length:=this;omega
    ·rw[AD.mp hr];omega
   have h2:=W8 h1;rw[Af,Ai,Dw,eT]at h2;have h3:(j+1)*300<=401*300:=Fu _ ∅;have h4:(401*300:Nat) < sizeLine:=by decide
   omega
  unfold Pe;simp only[ek,ii,mo hkl,S9 gn,im];rw[cv,n9,n9,Gw,Ĕ,AH,AH,eT,AA]
theorem SX(Wd:Wide g T n)(hg:g.length<=300)(hn:n<=400){À:PV}(ht:mX cn [À]=.ret (.int (n:Int))):(ik (g9 g) À (yP (sR 0 T))).le (.ret (.tup (rP T))):=λQ q=>by
 unfold ik;have el:mX cn [g9 g]=.ret (.int (g.length:Int)):=by simp[g9]
 simp only[ii,ci,ht,im,cV,mo (bf (i:=0) (j:=(n:Int)) ∅ ∅),A3];refine fH (λj s=>s=rP (T.take j)) (by simp[rP]) (λj s hj hs=>?_) (λs hs=>?_)
 ·subst hs;have Nh:j < T.length:=by rw[Wd.len];exact hj
  simp only[el,ii,ci,im,cV,mo (bf (i:=0) (j:=(g.length:Int)) ∅ ∅),A3];rw[lP];refine fY (λi=>oP (rg T j i)) (λi hi Q q=>?_) ?_
  ·have hi:=A5.mp hi;have:=rz T 0 j i Nh (by rw[Wd.row j hj];exact hi);rw[AH]at this;exact rC (k:=kk j i) this q
  ·have er:(AL g.length).map (λi=>oP (rg T j i))=(T.getD j []).map oP:=by
    apply Ca;intro i;have hl:=Wd.row j hj;by_cases hi:i < g.length
    ·rw[Al,BO hi,Al,Ad ∅];show ap (oP ((T.getD j []).getD i bm))=_;rw[Aj (l:=T.getD j []),Ad (show i < (T.getD j []).length by omega)];rfl
    ·rw[AW (by rw[Af,CU];omega),AW (by rw[Af,hl];omega)]
   have et:T.take (j+1)=T.take j++[T.getD j []]:=by rw[C2,Aj,Ad Nh];rfl
   have hl:(rP (T.take j)).length<=j:=by unfold rP;rw[Af];exact DY _ _
   simp only[er,Q8,im];rw[c8 ∅];show _=_;rw[et];unfold rP;rw[AO];rfl
 ·subst hs;rw[<- Wd.len,C4];exact q
theorem KW(r:O OI):PV.fq (.tup (r.map oP))=true/\PV.cy (.tup (r.map oP))<=1:=by
 have h0:∀x∈r.map oP,PV.fq x=true/\PV.cy x<=0:=λx hx=>by
  obtain⟨o,_,rfl⟩:=Av.mp hx;cases o <;> simp[oP]
 have h1:=gX (n:=0) λx hx=>(h0 x hx).2;simp only[PV.fq,PV.cy];exact⟨gW.mpr λx hx=>(h0 x hx).1,by omega⟩
theorem wO(T:O (O OI)):PV.fq (.tup (rP T))=true/\PV.cy (.tup (rP T))<=2:=by
 have h0:∀x∈rP T,PV.fq x=true/\PV.cy x<=1:=λx hx=>by
  obtain⟨r,_,rfl⟩:=Av.mp hx;exact KW r
 have h1:=gX λx hx=>(h0 x hx).2;simp only[PV.fq,PV.cy];exact⟨gW.mpr λx hx=>(h0 x hx).1,by omega⟩
theorem abb(T U:O (O OI)):JA (.tup (rP T)) (.tup (rP U)):=⟨(wO T).1,(wO U).1,by have:=(wO T).2;omega⟩
end My
variable{U:O (O My.OI)}
namespace My
theorem LH:∀(r s:O OI),dW (r.map oP) (s.map oP)=decide (r=s)
 | [],[]=>by simp
 | [],_::_=>by simp[dW]
 | _::_,[]=>by simp[dW]
 | a::r,b::s=>by
  rw[Ap,Ap,Q2,LH r s];have:km (oP a) (oP b)=decide (a=b):=by
   cases a <;> cases b <;> simp[oP,km]
   next x y=>by_cases c:x=y <;> simp[c]
  rw[this];by_cases c:a=b <;> by_cases d:r=s <;> simp[c,d]
theorem rA:∀(T U:O (O OI)),dW (rP T) (rP U)=decide (T=U)
 | [],[]=>by simp[rP]
 | [],_::_=>by simp[dW,rP]
 | _::_,[]=>by simp[dW,rP]
 | a::r,b::s=>by
  have ih:=rA r s;unfold rP at ih ⊢;rw[Ap,Ap,Q2,ih,Q3,LH];by_cases c:a=b <;> by_cases d:r=s <;> simp[c,d]
def abc(T U:O (O OI)):of2 fB (.tup (rP T)) (.tup (rP U))=.ret (.bl (decide (T=U))):=by rw[tI,mo (abb T U),Q3,rA]
def Wid(g:O Sy)(U:O (O OI)):Prop:=∀r∈U,r.length=g.length
def JB(h:r.length=g.length):bX (g9 g) (.tup (r.map oP))=.ret (.bl true):=by
 unfold bX;have el:mX cn [g9 g]=.ret (.int (g.length:Int)):=by simp[g9]
 have em:(a7 (r.map oP) λp2=>orB (of2 nH p2 .ax) (e7 p2))=.ret ((r.map λ_=>true).map PV.bl):=by
  rw[sE (k:=λ_=>PV.bl true) λo _=>?_,Ay];rfl;cases o with
  | none=>simp[oP,PV.dq]
  | some v=>
   unfold e7;have b1:cG .bool (.int v)=.ret (.bl false):=rfl;have Ġ:cG .int (.int v)=.ret (.bl true):=rfl;simp[oP,PV.dq,b1,Ġ]
 have ea:yX ((r.map λ_=>true).map PV.bl)=.ret (.bl true):=by
  rw[oS,Dr];have:r.all (id∘λ_=>true)=true:=by rw[Cf];intro x _;rfl
  rw[this]
 have c:(((r.map oP).length:Int)==(g.length:Int))=true:=by rw[Af,h];exact beq_self_eq_true _
 simp only[ii,el,wN,c,aD,em,ea];rfl
theorem M7(hz:t.size<=400)(h:Wid g U):(gq (g9 g) t.pv (.tup (rP U))).le (.ret (.bl (decide (U.length=t.size)))):=λQ q=>by
 unfold gq;simp only[ii,ci];refine W.le.use (iY t ∅) ?_;have ul:(rP U).length=U.length:=Af _;simp only[df,cP,im,wN,ul];by_cases c:U.length=t.size
 ·have c2:((U.length:Int)==(t.size:Int))=true:=by rw[c];exact beq_self_eq_true _
  have em:(a7 (rP U) λp2=>bX (g9 g) p2)=.ret ((U.map λ_=>true).map PV.bl):=by
   unfold rP;rw[sE (k:=λ_=>PV.bl true) λr hr=>JB (h r hr),Ay];rfl
  have ea:yX ((U.map λ_=>true).map PV.bl)=.ret (.bl true):=by
   rw[oS,Dr];have:U.all (id∘λ_=>true)=true:=by rw[Cf];intro x _;rfl
   rw[this]
  rw[c2];rw[decide_eq_true c]at q;simp only[oC,aD,ii,em,ea,im];exact q
 ·have c2:((U.length:Int)==(t.size:Int))=false:=by simp;omega
  rw[c2];rw[decide_eq_false c]at q;exact q
def OS(G:WG g ws)(p4:ps.length=4)(hz:t.size<=400)(h:Wid g U):(cj (g9 g) t.pv (.tup (bj ps)) (.tup (rP U))).le (.ret (.bl (decide (U=bM g ps (t.nd 0) t.size)))):=λQ q=>by
 unfold cj;simp only[ii,ci];refine W.le.use (M7 hz h) ?_;by_cases c:U.length=t.size
 ·rw[decide_eq_true c];simp only[oC,ci];refine W.le.use (Oz G p4 hz) ?_;simp only[abc,im];exact q
 ·rw[decide_eq_false c];have:U≠bM g ps (t.nd 0) t.size:=λz=>c (by rw[z,d8]);rw[decide_eq_false this]at q;exact q
theorem qV{d:Nat}(h:a<=n):HT.dC n d (ap (a:Int))=a:=by
 show(if (a:Int) < 0 then ((a:Int)+n).toNat else min (a:Int).toNat n)=a;rw[if_neg ∅];omega
def Vd(l:O PV)(h:a<=l.length):ly l bm (ap (a:Int))=l.take a:=by
 unfold ly;have e1:HT.dC l.length 0 bm=0:=rfl;have e2:HT.dC l.length l.length (ap (a:Int))=a:=qV h;rw[e1,e2];simp
def Md(t:Tr):mX cn [.cl ((t.nd 0).map Ent.pv)]=.ret (.int (t.size:Int)):=by rw[dh,cP]
def wD(g:O Sy)(ps:O Int)(t:Tr):Wid g (bM g ps (t.nd 0) t.size):=λr hr=>by
 have W':=iT g ps (t.nd 0) t.size;obtain⟨m,hm⟩:=B4 hr;have:=W'.row m (by have:=(Ak.mp hm).1;rw[W'.len]at this;exact this);rw[Aj,hm]at this;exact this
end My
variable{o:My.OI}{b v:Int}
namespace My
section
theorem ny(R:Nat->Nat->OI)(e:Ent):∀{k:Nat},i < k->(cv g ps R e k).getD i bm=lZ (LU g ps R e i++OW g ps (cv g ps R e i) i)
 | k+1,h=>by
  rw[cv];by_cases c:i < k
  ·rw[jd (by rw[gG];exact c)];exact ny R e c
  ·have:i=k:=by omega
   subst this;rw[gw (by rw[gG];exact Am _),gG,CF];rfl
theorem ng:∀{k:Nat},j < k->(bM g ps es k).getD j []=cv g ps (rg (bM g ps es j)) (Rg es j) g.length
 | k+1,h=>by
  rw[bM];by_cases c:j < k
  ·rw[jd (by rw[d8];exact c)];exact ng c
  ·have:j=k:=by omega
   subst this;rw[gw (by rw[d8];exact Am _),d8,CF];rfl
theorem Xm(h:j<=k){x:Nat}(ha:a < j):rg (bM g ps es j) a x=rg (bM g ps es k) a x:=by
 unfold rg;rw[ng ha,ng (show a < k by omega)]
def NA{R':Nat->Nat->OI}(he:HJ n e)(h:∀a x,a < n->R a x=R' a x):LU g ps R e i=LU g ps R' e i:=by
 cases e with
 | word w=>rfl
 | pair a b=>exact BN λd _=>by unfold tY;rw[h a _ he.1,h b _ he.2]
def stC(g:O Sy)(ps:O Int)(f:Nat->OI)(i:Nat):O OI:=(sy g i).un.map λu=>iU [ap (pA g ps i),f u]
theorem aa4(G:WG g ws)(hj:j < n)(hi:i < g.length)(he:HJ j (Rg es j)):rg (bM g ps es n) j i=lZ (LU g ps (rg (bM g ps es n)) (Rg es j) i++stC g ps (rg (bM g ps es n) j) i):=by
 have e0:∀x,rg (bM g ps es n) j x=(cv g ps (rg (bM g ps es j)) (Rg es j) g.length).getD x bm:=λx=>by unfold rg;rw[ng hj];rfl
 rw[e0,ny _ _ hi,NA he λa x ha=>Xm (k:=n) ∅ ha];congr 2;refine BN λu hu=>?_;have hu:=G.dn i hi u hu;rw[e0,ny _ _ hu,ny _ _ (show u < g.length by omega)]
end
theorem Qt{P:Nat->Nat->Prop}(h:∀j i,j < n->i < m->(∀a x,a < j->x < m->P a x)->(∀u,u < i->P j u)->P j i):∀j i,j < n->i < m->P j i:=by
 intro j
 induction j using Cn with
 | ind j ihj=>
  intro i
  induction i using Cn with
  | ind i ihi=>exact λhj hi=>h j i hj hi (λa x ha hx=>ihj a ha x ∅ hx) λu hu=>ihi u hu hj ∅
def Ub{l:O OI}:v∈uk l↔ap v∈l:=by
 unfold uk;rw[Ek];exact⟨λ⟨o,h1,h2⟩=>by rw[id]at h2;rw[<- h2];exact h1,λh=>⟨_,h,rfl⟩⟩
def PZ{l:O OI}{m:Int}(h:lZ l=ap m):ap m∈l:=by
 unfold lZ at h
 split at h
 ·cases h
 ·next c=>
  cases h;exact Ub.mp (nP c)
def sum2{a:Int}:iU [ap a,ap b]=ap (a+b):=by simp[iU,uk]
def afn{a c:Int}:iU [ap a,ap b,ap c]=ap (a+(b+c)):=by simp[iU,uk]
def SG{a:Int}(h:iU [ap a,o]=ap v):∃b,o=ap b/\v=a+b:=by
 cases o with
 | none=>simp[iU]at h
 | some b=>rw[sum2]at h;exact⟨b,rfl,(Option.some.inj h).symm⟩
def SE{a:Int}{p:OI}(h:iU [ap a,o,p]=ap v):∃b c,o=ap b/\p=ap c/\v=a+(b+c):=by
 cases o with
 | none=>simp[iU]at h
 | some b=>cases p with
  | none=>simp[iU]at h
  | some c=>rw[afn]at h;exact⟨b,c,rfl,rfl,(Option.some.inj h).symm⟩
section
def Rf(h:j < t.size):Rg (t.nd 0) j=en t 0 j:=by unfold Rg;rw[Aj,gI t 0 j h];rfl
def WZ(G:WG g ws)(ps:O Int)(hj:j < t.size)(hi:i < g.length):rg (bM g ps (t.nd 0) t.size) j i=lZ (LU g ps (rg (bM g ps (t.nd 0) t.size)) (en t 0 j) i++stC g ps (rg (bM g ps (t.nd 0) t.size) j) i):=by
 have:=aa4 (es:=t.nd 0) (ps:=ps) G hj hi (by rw[Rf hj];exact Rn t hj);rw[Rf hj]at this;exact this
def tab_of(G:WG g ws)(hj:j < t.size)(hi:i < g.length)(h:rg (bM g ps (t.nd 0) t.size) j i=ap v) :
  (∃w,en t 0 j=.word w/\hm g i w=true/\v=0)\/(∃a b d x y,en t 0 j=.pair a b/\d∈dl g i/\rg (bM g ps (t.nd 0) t.size) a d.2.1=ap x/\rg (bM g ps (t.nd 0) t.size) b d.2.2=ap y/\v=Tc ps d.1+(x+y))\/∃u x,u∈(sy g i).un/\rg (bM g ps (t.nd 0) t.size) j u=ap x/\v=pA g ps i+x:=by
 rw[WZ G ps hj hi]at h;rcases AE.mp (PZ h) with h | h
 ·cases e:en t 0 j with
  | word w=>
   rw[e]at h;have h:ap v∈(if hm g i w=true then [ap 0] else []):=h
   split at h
   ·next c=>exact .inl ⟨w,rfl,c,Option.some.inj (AD.mp h)⟩
   ·cases h
  | pair a b=>
   rw[e]at h;obtain⟨d,hd,h⟩:=Av.mp h;obtain⟨x,y,h1,h2,h3⟩:=SE h;exact .inr (.inl ⟨a,b,d,x,y,rfl,hd,h1,h2,h3⟩)
 ·obtain⟨u,hu,h⟩:=Av.mp h;obtain⟨x,h1,h2⟩:=SG h;exact .inr (.inr ⟨u,x,hu,h1,h2⟩)
theorem WY(G:WG g ws)(h:∀k,0<=ps.getD k 0):∀j i,j < t.size->i < g.length->∀v,rg (bM g ps (t.nd 0) t.size) j i=ap v->0<=v:=Qt λj i hj hi Wf YF v hv=>by
 have h3:0<=pA g ps i:=by unfold pA;split;exact h 3;exact CB _
 rcases tab_of G hj hi hv with⟨w,e,hh,rfl⟩ | ⟨a,b,d,x,y,e,hd,h1,h2,rfl⟩ | ⟨u,x,hu,h1,rfl⟩
 ·exact CB _
 ·obtain⟨k1,k2⟩:=ff t hj e;obtain⟨l1,l2⟩:=LQ G hi hd;have:=Wf a _ k1 l1 x h1;have:=Wf b _ k2 l2 y h2;have:=h (Sg d.1);unfold Tc;omega
 ·have:=YF u (G.dn i hi u hu) x h1;omega
end
end My
variable{y:PL.PV}{m:O PL.PV}
namespace My
def dA:Nat->PV->Prop
 | _,.ax=>True
 | _,.bl _=>True
 | _,.int _=>True
 | _,.str _=>True
 | n+1,.tup l=>l.length<=500/\∀x∈l,dA n x
 | n+1,.cl l=>l.length<=500/\∀x∈l,dA n x
 | _,.dv ks vs=>ks=[]/\vs=[]
 | _,_=>False
theorem wB(ih:∀x,dA n x->PV.dU x=true/\PV.cy x<=n):∀{l:O PV},(∀x∈l,dA n x)->kl l=true/\cK l<=n
 | [],_=>⟨by rw[kl],by rw[cK];omega⟩
 | x::l,h=>by
  have a:=ih x (h x (.head _));have b:=wB ih (l:=l) λy hy=>h y (.tail _ hy);exact⟨by rw[kl,a.1,b.1];rfl,by rw[cK];omega⟩
theorem iB:∀(n:Nat) (x:PV),dA n x->PV.dU x=true/\PV.cy x<=n
 | n,.ax,_=>⟨by simp[PV.dU],by simp[PV.cy]⟩
 | n,.bl _,_=>⟨by simp[PV.dU],by simp[PV.cy]⟩
 | n,.int _,_=>⟨by simp[PV.dU],by simp[PV.cy]⟩
 | n,.str _,_=>⟨by simp[PV.dU],by simp[PV.cy]⟩
 | n+1,.tup l,h=>by
  rw[dA]at h;have:=wB (iB n) h.2;exact⟨by rw[PV.dU];exact this.1,by rw[PV.cy];omega⟩
 | n+1,.cl l,h=>by
  rw[dA]at h;have:=wB (iB n) h.2;exact⟨by rw[PV.dU];exact this.1,by rw[PV.cy];omega⟩
 | n,.dv ks vs,h=>by
  have h:ks=[]/\vs=[]:=by cases n <;> exact h
  obtain⟨rfl,rfl⟩:=h;exact⟨by simp[PV.dU],by simp[PV.cy]⟩
 | 0,.tup _,h=>by simp[dA]at h
 | 0,.cl _,h=>by simp[dA]at h
 | n,.ref _,h=>by cases n <;> simp[dA]at h
 | n,.ty _,h=>by cases n <;> simp[dA]at h
def oj{n:Nat}(k:Kd)(h:PV.dU x=true):cG k x=.ret (.bl (k.is x)):=by cases x <;> first | rfl | simp[PV.dU]at h
def UA(h:PV.dU x=true):YC x=.ret (.bl (isL x)):=by cases x <;> first | rfl | simp[PV.dU]at h
theorem qb:∀(n:Nat) (x:PV),dA n x->∀m,n < m->aL m x=.ret x
 | n,x,h,0,hm=>by omega
 | n,x,h,m+1,hm=>by
  have hk:=(iB n x h).1;unfold aL;simp only[ii,UA hk,bo,oj (n:=n) .tup hk]
  match n,x,h with
  | _,.ax,_=>rfl
  | _,.bl _,_=>rfl
  | _,.int _,_=>rfl
  | _,.str _,_=>rfl
  | _,.dv _ _,_=>rfl
  | n+1,.tup l,h=>
   rw[dA]at h;have e:(a7 l λp5=>aL m p5)=.ret l:=by
    have:=jy (f:=λp5=>aL m p5) (g:=λy=>y) (l:=l) λy hy=>qb n y (h.2 y hy) m ∅;rw[List.map_id']at this;exact this
   show am (a7 l λp5=>aL m p5) kq=_;rw[e];rfl
  | n+1,.cl l,h=>
   rw[dA]at h;have e:(a7 l λp5=>aL m p5)=.ret l:=by
    have:=jy (f:=λp5=>aL m p5) (g:=λy=>y) (l:=l) λy hy=>qb n y (h.2 y hy) m ∅;rw[List.map_id']at this;exact this
   show gU (a7 l λp5=>aL m p5)=_;rw[e];rfl
def Rm:PV->Bool
 | .ax=>true
 | .int _=>true
 | _=>false
def Il(n:Nat):PV->Bool
 | .tup l=>l.length==n&&l.all Rm
 | _=>false
def U0(h:Rm x=true):∃o:OI,x=oP o:=by
 cases x <;> first | exact⟨bm,rfl⟩ | exact⟨ap _,rfl⟩ | cases h
theorem LM:∀{l:O PV},l.all Rm=true->∃r:O OI,l=r.map oP
 | [],_=>⟨[],rfl⟩
 | x::l,h=>by
  rw[EE,Aw]at h;obtain⟨o,rfl⟩:=U0 h.1;obtain⟨r,rfl⟩:=LM h.2;exact⟨o::r,rfl⟩
def SY(h:Il n x=true):∃r:O OI,x=.tup (r.map oP)/\r.length=n:=by
 cases x with
 | tup l=>
  rw[Il,Aw]at h;obtain⟨r,rfl⟩:=LM h.2;exact⟨r,rfl,by have:=eq_of_beq h.1;rwa [Af]at this⟩
 | _=>cases h
theorem zS:∀{l:O PV},l.all (Il n)=true->∃U:O (O OI),l=rP U/\∀r∈U,r.length=n
 | [],_=>⟨[],rfl,λ_ h=>nomatch h⟩
 | x::l,h=>by
  rw[EE,Aw]at h;obtain⟨r,rfl,hr⟩:=SY h.1;obtain⟨U,rfl,hU⟩:=zS h.2;exact⟨r::U,rfl,λs hs=>by rcases Ax.mp hs with rfl | hs;exact hr;exact hU s hs⟩
def j5(h:PV.dU x=true)(ht:Kd.is .tup x=false)(n:Int):gJ x (.int n)=.ret (.bl false):=by
 unfold gJ;simp only[ii,oj (n:=0) .tup h,ht];rfl
theorem JD(h:dA n x):bX (g9 g) x=.ret (.bl (Il g.length x)):=by
 have hk:=(iB n x h).1;unfold bX;have el:mX cn [g9 g]=.ret (.int (g.length:Int)):=by simp[g9]
 simp only[ii,el]
 match n,x,h,hk with
 | n+1,.tup l,h,hk=>
  rw[dA]at h;have em:(a7 l λp2=>orB (of2 nH p2 .ax) (e7 p2))=.ret ((l.map Rm).map PV.bl):=by
   rw[Ay];refine jy λy hy=>?_;have hy:=(iB n y (h.2 y hy)).1;unfold e7;simp only[ii,oj (n:=0) _ hy];cases y <;> first | (simp[PV.dq,Rm,Kd.is];done) | (simp[PV.dU]at hy;done)
  rw[wN];simp only[aD,ii,em,oS,Dr,Il];cases c:l.length==g.length with
  | true=>
   have:((l.length:Int)==(g.length:Int))=true:=by rw[eq_of_beq c];exact beq_self_eq_true _
   rw[this];rfl
  | false=>
   have:((l.length:Int)==(g.length:Int))=false:=by simp at c ⊢;omega
   rw[this];rfl
 | n,.ax,_,hk=>rw[j5 hk rfl];rfl
 | n,.bl _,_,hk=>rw[j5 hk rfl];rfl
 | n,.int _,_,hk=>rw[j5 hk rfl];rfl
 | n,.str _,_,hk=>rw[j5 hk rfl];rfl
 | n,.dv _ _,_,hk=>rw[j5 hk rfl];rfl
 | n,.cl _,_,hk=>rw[j5 hk rfl];rfl
def Xv(h:rP T=rP U):T=U:=by
 have:=rA T U;rw[h,rA U U]at this;exact of_decide_eq_true (this.symm.trans (decide_eq_true rfl))
theorem Mo(G:WG g ws)(p4:ps.length=4)(hz:t.size<=400)(h:dA n x) :
  ∃b:Bool,(b=true↔x=.tup (rP (bM g ps (t.nd 0) t.size)))/\(cj (g9 g) t.pv (.tup (bj ps)) x).le (.ret (.bl b)):=by
 have wT:=wD g ps t;by_cases c:∃U,x=.tup (rP U)/\Wid g U
 ·obtain⟨U,rfl,wU⟩:=c;refine⟨_,?_,OS G p4 hz wU⟩;rw[decide_eq_true_iff];exact⟨λe=>by rw[e],λe=>Xv (by injection e)⟩
 ·refine⟨false,⟨(λe=>nomatch e),λe=>absurd ⟨_,e,wT⟩ c⟩,λQ q=>?_⟩;unfold cj;simp only[ii,ci]
  suffices hh:(gq (g9 g) t.pv x).le (.ret (.bl false)) by
   refine W.le.use hh ?_;exact q
  intro Q q;have hk:=(iB n x h).1;unfold gq;simp only[ii,ci];refine W.le.use (iY t ∅) ?_;simp only[df,cP,im]
  match n,x,h,hk with
  | n+1,.tup l,h,hk=>
   rw[dA]at h;have em:(a7 l λp2=>bX (g9 g) p2)=.ret ((l.map (Il g.length)).map PV.bl):=by
    rw[Ay];exact jy λy hy=>JD (h.2 y hy)
   rw[wN];cases c2:((l.length:Int)==(t.size:Int)) with
   | false=>exact q
   | true=>
    simp only[oC,aD,ii,em,oS,Dr,im];cases c3:l.all (id∘Il g.length) with
    | false=>exact q
    | true=>
     obtain⟨U,rfl,hU⟩:=zS (n:=g.length) c3;exact absurd ⟨U,rfl,hU⟩ c
  | n,.ax,_,hk=>rw[j5 hk rfl];exact q
  | n,.bl _,_,hk=>rw[j5 hk rfl];exact q
  | n,.int _,_,hk=>rw[j5 hk rfl];exact q
  | n,.str _,_,hk=>rw[j5 hk rfl];exact q
  | n,.dv _ _,_,hk=>rw[j5 hk rfl];exact q
  | n,.cl _,_,hk=>rw[j5 hk rfl];exact q
noncomputable def zw(x y:PV):Bool:=@decide (x=y) (EM _)
def iu:zw x y=true↔x=y:=by unfold zw;exact @decide_eq_true_iff _ (EM _)
def yw(h:x≠y):zw x y=false:=by
 cases c:zw x y with
 | false=>rfl
 | true=>exact absurd (iu.mp c) h
def Rh(x y:PV)(l m:O PV):zw (.tup (x::l)) (.tup (y::m))=(zw x y&&zw (.tup l) (.tup m)):=by
 rw[Ff,Aw,iu,iu,iu]
 constructor
 ·intro h;injection h with h;injection h with a b;exact⟨a,by rw[b]⟩
 ·rintro⟨rfl,h⟩;injection h with h;rw[h]
noncomputable def eqZ(p:PV):Bool:=match p with
 | .tup [x,y]=>zw x y
 | _=>false
theorem LK:∀{l m:O PV},l.length=m.length->(eR l m).all eqZ=zw (.tup l) (.tup m)
 | [],[],_=>by
  have:eR [] []=[]:=by rw[eR];simp
  rw[this,List.all_nil,iu.mpr rfl]
 | x::l,y::m,h=>by
  rw[eR,EE,LK (by simpa using h),Rh];rfl
 | [],_::_,h=>by simp at h
 | _::_,[],h=>by simp at h
theorem zB:∀{l m:O PV}{p:PV},p∈eR l m->∃x y,p=.tup [x,y]/\x∈l/\y∈m
 | [],[],p,h=>by
  have:eR [] []=[]:=by rw[eR];simp
  rw[this]at h;cases h
 | x::l,y::m,p,h=>by
  rw[eR]at h;rcases Ax.mp h with rfl | h
  ·exact⟨x,y,rfl,.head _,.head _⟩
  ·obtain⟨a,b,e,ha,hb⟩:=zB h;exact⟨a,b,e,.tail _ ha,.tail _ hb⟩
 | [],_::_,p,h=>by
  have:∀m,eR [] m=[]:=λm=>by rw[eR];simp
  rw[this]at h;cases h
 | _::_,[],p,h=>by
  have:∀l,eR l []=[]:=λl=>by rw[eR];simp
  rw[this]at h;cases h
theorem VJ(lb:l.length<=500)(h:∀x∈l,∀y∈m,aG k x y=.ret (.bl (zw x y))):aG (k+1) (.tup l) (.tup m)=.ret (.bl (zw (.tup l) (.tup m))):=by
 unfold aG;simp only[ii,eM,oB,bo,if_true,CM,Ao,if_false,df,Ra,bB,aD];by_cases c:l.length=m.length
 ·have c1:((l.length:Int)==(m.length:Int))=true:=by rw[c];exact beq_self_eq_true _
  have ez:zA l m=.ret (eR l m):=mo (bE ∅);have em:(a7 (eR l m) λp4=>am (uj p4) λt5=>aG k t5.1 t5.2)=.ret ((eR l m).map λp=>.bl (eqZ p)):=jy λp hp=>by
   obtain⟨x,y,rfl,hx,hy⟩:=zB hp;rw[kW,ii];exact h x hx y hy
  simp only[c1,CM,Ao,if_false,ez,ii,em,all_map,LK c]
 ·have c1:((l.length:Int)==(m.length:Int))=false:=by simp;omega
  have:PV.tup l≠.tup m:=λe=>c (by injection e with e;rw[e]);simp only[c1,C3,if_true,yw this]
def cJ(hk:PV.dU x=true)(ht:Kd.is .tup x=false):aG (k+1) x (.tup m)=.ret (.bl (zw x (.tup m))):=by
 have:x≠.tup m:=λe=>by rw[e]at ht;cases ht
 unfold aG;simp only[ii,eM,oB,bo,if_true,oj (n:=0) .tup hk,ht,C3,yw this]
def aaX(hk:PV.dU x=true)(o:OI):aG (k+1) x (oP o)=.ret (.bl (zw x (oP o))):=by
 unfold aG;have e0:cG .tup (oP o)=.ret (.bl false):=by cases o <;> rfl
 simp only[ii,e0,bo,Ao,if_false,oj (n:=0) _ hk];cases o with
 | none=>
  have:zw x .ax=x.dq:=by
   cases x <;> first | exact iu.mpr rfl | exact yw (λe=>nomatch e)
  simp[oP,PV.dq,this]
 | some v=>
  cases x with
  | int u=>
   have:zw (.int u) (.int v)=(u==v):=by
    rw[Ff,iu,beq_iff_eq];exact⟨λe=>by injection e,λe=>by rw[e]⟩
   simp[oP,PV.dq,Kd.is,this]
  | _=>
   rw[oP,yw (by intro e;cases e)];simp[PV.dq,Kd.is]
def OX(h:dA n x)(r:O OI):aG (k+2) x (.tup (r.map oP))=.ret (.bl (zw x (.tup (r.map oP)))):=by
 have hk:=(iB n x h).1
 match n,x,h,hk with
 | n+1,.tup l,h,hk=>
  rw[dA]at h;refine VJ h.1 λy hy z hz=>?_;obtain⟨o,_,rfl⟩:=Av.mp hz;exact aaX (iB n y (h.2 y hy)).1 o
 | n,.ax,_,hk=>exact cJ hk rfl
 | n,.bl _,_,hk=>exact cJ hk rfl
 | n,.int _,_,hk=>exact cJ hk rfl
 | n,.str _,_,hk=>exact cJ hk rfl
 | n,.dv _ _,_,hk=>exact cJ hk rfl
 | n,.cl _,_,hk=>exact cJ hk rfl
def OY(h:dA n x)(T:O (O OI)):aG (k+3) x (.tup (rP T))=.ret (.bl (zw x (.tup (rP T)))):=by
 have hk:=(iB n x h).1
 match n,x,h,hk with
 | n+1,.tup l,h,hk=>
  rw[dA]at h;refine VJ h.1 λy hy z hz=>?_;obtain⟨r,_,rfl⟩:=Av.mp hz;exact OX (h.2 y hy) r
 | n,.ax,_,hk=>exact cJ hk rfl
 | n,.bl _,_,hk=>exact cJ hk rfl
 | n,.int _,_,hk=>exact cJ hk rfl
 | n,.str _,_,hk=>exact cJ hk rfl
 | n,.dv _ _,_,hk=>exact cJ hk rfl
 | n,.cl _,_,hk=>exact cJ hk rfl
theorem WX(G:WG g ws){M:Int}(m0:0<=M)(h:∀k,ps.getD k 0<=M):∀j i,j < t.size->i < g.length->∀v,rg (bM g ps (t.nd 0) t.size) j i=ap v->v<=M*(((2 ^ (j+1)-2:Nat):Int)*((g.length:Int)+1)+1+(i:Int)):=Qt λj i hj hi Wf YF v hv=>by
 have h3:pA g ps i<=M:=by unfold pA;split;exact h 3;exact m0
 have Ñ:∀a x w,a < j->x < g.length->rg (bM g ps (t.nd 0) t.size) a x=ap w->w<=M*(((2 ^ j-1:Nat):Int)*((g.length:Int)+1)):=λa x w ha hx hw=>by
  refine Int.le_trans (Wf a x ha hx w hw) (CA ?_ m0);have p1:2 ^ (a+1)<=2 ^ j:=Ft ⋯ ∅;have p2:0 < 2 ^ (a+1):=Fb _;have p3:2 ^ (a+1)=2*2 ^ a:=by rw[Nat.pow_succ];omega
  have p4:0 < 2 ^ a:=Fb _;have e:((2 ^ (a+1)-2:Nat):Int)*((g.length:Int)+1)+((g.length:Int)+1)<=((2 ^ j-1:Nat):Int)*((g.length:Int)+1):=by
   have:=Int.mul_le_mul_of_nonneg_right (a:=((2 ^ (a+1)-2:Nat):Int)+1) (b:=((2 ^ j-1:Nat):Int)) (c:=(g.length:Int)+1) ∅ ∅;rw[Int.add_mul,Int.one_mul]at this;exact this
  omega
 rcases tab_of G hj hi hv with⟨w,e,hh,rfl⟩ | ⟨a,b,d,x,y,e,hd,h1,h2,rfl⟩ | ⟨u,x,hu,h1,rfl⟩
 ·refine Em m0 ?_;have:0<=((2 ^ (j+1)-2:Nat):Int)*((g.length:Int)+1):=Em ∅ ∅;omega
 ·obtain⟨k1,k2⟩:=ff t hj e;obtain⟨l1,l2⟩:=LQ G hi hd;have a1:=Ñ a _ x k1 l1 h1;have a2:=Ñ b _ y k2 l2 h2;have a3:=h (Sg d.1);have p4:0 < 2 ^ j:=Fb _;have p3:2 ^ (j+1)=2*2 ^ j:=by rw[Nat.pow_succ];omega
  have e:M*(((2 ^ (j+1)-2:Nat):Int)*((g.length:Int)+1)+1+(i:Int))=M+2*(M*(((2 ^ j-1:Nat):Int)*((g.length:Int)+1)))+M*(i:Int):=by
   have:((2 ^ (j+1)-2:Nat):Int)=2*((2 ^ j-1:Nat):Int):=by omega
   rw[this];simp only[Int.mul_add,Int.mul_one,Int.mul_assoc,Int.mul_left_comm,Int.add_comm,Int.add_left_comm]
  have:0<=M*(i:Int):=Em m0 ∅;have:Tc ps d.1<=M:=a3;rw[e];omega
 ·have b1:=G.dn i hi u hu;have:=YF u b1 x h1;have e:M*(((2 ^ (j+1)-2:Nat):Int)*((g.length:Int)+1)+1+(i:Int))=M*(((2 ^ (j+1)-2:Nat):Int)*((g.length:Int)+1)+1+(u:Int))+M*((i:Int)-(u:Int)):=by
   rw[<- Int.mul_add];congr 1;omega
  have:M*1<=M*((i:Int)-(u:Int)):=CA ∅ m0;omega
theorem Mf(G:WG g ws)(p4:ps.length=4)(hp:∀p∈ps,0<=p/\p<=10 ^ 29)(hz:t.size<=19)(hr:r∈bM g ps (t.nd 0) t.size)(hv:ap v∈r):0<=v/\v < 10 ^ 39:=by
 have gl:=G.len;have wd:=wD g ps t r hr;obtain⟨j,hj⟩:=B4 hr;obtain⟨i,hi⟩:=B4 hv;have Nh:j < t.size:=by have:=(Ak.mp hj).1;rwa [d8]at this
 have UN:i < g.length:=by have:=(Ak.mp hi).1;omega
 have e:rg (bM g ps (t.nd 0) t.size) j i=ap v:=by
  unfold rg;have a:(bM g ps (t.nd 0) t.size).getD j []=r:=by rw[Aj,hj];rfl
  rw[a,Aj,hi];rfl
 have hk:∀k,0<=ps.getD k 0/\ps.getD k 0<=10 ^ 29:=λk=>by
  rw[Aj];cases c:ps[k]? with
  | none=>exact⟨CB _,by decide +kernel⟩
  | some p=>exact hp p (Be c)
 refine⟨WY G (λk=>(hk k).1) j i Nh UN v e,?_⟩;have:=WX G (t:=t) (M:=10 ^ 29) (by decide +kernel) (λk=>(hk k).2) j i Nh UN v e;have pw:2 ^ (j+1)<=2 ^ 19:=Ft ⋯ ∅;have b1:((2 ^ (j+1)-2:Nat):Int)*((g.length:Int)+1)+1+(i:Int)<=524288*301+301:=by
  have:((2 ^ (j+1)-2:Nat):Int)*((g.length:Int)+1)<=524288*301:=Int.mul_le_mul ∅ ∅ ∅ ⋯;omega
 have b2:=CA b1 (show(0:Int)<=10 ^ 29 by decide +kernel);have b3:(10:Int) ^ 29*(524288*301+301) < 10 ^ 39:=by decide +kernel
 omega
def dA.up:∀{n:Nat}{x:PV},dA n x->dA (n+1) x
 | _,.ax,_=>by simp[dA]
 | _,.bl _,_=>by simp[dA]
 | _,.int _,_=>by simp[dA]
 | _,.str _,_=>by simp[dA]
 | n+1,.tup l,h=>by rw[dA]at h ⊢;exact⟨h.1,λx hx=>(h.2 x hx).up⟩
 | n+1,.cl l,h=>by rw[dA]at h ⊢;exact⟨h.1,λx hx=>(h.2 x hx).up⟩
 | 0,.tup _,h=>by simp[dA]at h
 | 0,.cl _,h=>by simp[dA]at h
 | n,.dv ks vs,h=>by cases n <;> exact h
 | n,.ref _,h=>by cases n <;> simp[dA]at h
 | n,.ty _,h=>by cases n <;> simp[dA]at h
def Ow(n:Nat)(o:OI):dA n (oP o):=by cases n <;> cases o <;> simp[oP,dA]
theorem Xf(h0:0<=v)(h1:v < 10 ^ 39):Mp (.int v):=by
 have h2:v.natAbs < 10 ^ 39:=by omega
 refine⟨by simp,?_,?_,?_⟩
 ·simp only[PV.pd,PyData.showable,decide_eq_true_iff];by_cases c:v.natAbs=0
  ·rw[c];decide
  ·rw[Nat.log2_lt c];exact EW h2 (by decide +kernel)
 ·simp[PV.pd,PyData.depth]
 ·rw[PV.pd];simp only[PyData.shown];exact int_text_fits10 (EW h2 (Nat.pow_lt_pow_right ⋯ ⋯))
theorem Iq{L:O PV}(h0:0 < L.length)(hl:L.length<=60)(q:∀y∈L,Q y):(cQ (bd L) (bF (.int (L.length:Int)))).run Q:=by
 simp only[cI (L.length:Int) ∅ ∅];refine bg λd d0 d1=>?_;obtain⟨k,rfl⟩:∃k:Nat,d=(k:Int):=⟨d.toNat,by omega⟩;have hk:k < L.length:=by omega
 simp only[cF,di (Ad hk),wS,im];exact q _ (C5 hk)
theorem F9(h:dA n x)(hx:(∃o:OI,x=oP o/\∀v,o=ap v->0<=v/\v < 10 ^ 39)\/∃l,x=.tup l/\l.length<=400)(q:∀y,dA (n+1) y->Q y):(eB x).run Q:=by
 have cp:NZ 10 30:=⟨by decide,by decide,by decide⟩;have b1:∀y∈[PV.ax,.bl true,.bl false,.str "",.str "0",.cl [],Sf [],.tup [],.tup [x],.cl [x],.int 0,.int 1,.int (-1),.int (10 ^ FX 30)],dA (n+1) y:=λy hy=>by
  simp only[Ax,A2,or_false]at hy;rcases hy with rfl | rfl | rfl | rfl | rfl | rfl | rfl | rfl | rfl | rfl | rfl | rfl | rfl | rfl
  all_goals first | (simp[dA];done) | (rw[dA];exact⟨by simp,λy hy=>by rw[AD.mp hy];exact h⟩) | exact⟨rfl,rfl⟩
 generalize hL:[PV.ax,.bl true,.bl false,.str "",.str "0",.cl [],Sf [],.tup [],.tup [x],.cl [x],.int 0,.int 1,.int (-1),.int (10 ^ FX 30)]=L at b1;have ll:L.length=14:=by rw[<- hL];rfl
 have fz:∀l:O PV,gU (bd l)=.ret (.cl l):=λ_=>rfl;unfold eB;simp only[ii,fz,yp,Jy,mo cp,eL];rw[hL];rcases hx with⟨o,rfl,hv⟩ | ⟨l,rfl,l4⟩
 ·cases o with
  | none=>
   have e1:∀k,cG k .ax=.ret (.bl false):=λk=>by cases k <;> rfl
   simp only[oP,e1,ii,bo,Ao,if_false,bp,dh];exact Iq ∅ ∅ λy hy=>q y (b1 y hy)
  | some v=>
   have hv:=hv v rfl;have e1:cG .int (.int v)=.ret (.bl true):=rfl;have e2:cG .tup (.int v)=.ret (.bl false):=rfl;have e3:Xa (.int v)=.ret (.str (PV.pd (.int v)).shown):=mo (Xf hv.1 hv.2);simp only[oP,e1,e2,ii,bo,Ao,if_false,if_true,dN,tH,fP,e3,eL];rw[eN (by simp;omega)];simp only[ii,bo,Ao,if_false,bp,dh];refine Iq (by simp) (by simp;omega) λy hy=>q y ?_;rcases AE.mp hy with hy | hy
   ·exact b1 y hy
   ·simp only[Ax,A2,or_false]at hy;rcases hy with rfl | rfl | rfl | rfl <;> simp[dA]
 ·have e1:cG .int (.tup l)=.ret (.bl false):=rfl;have ht:∀m:O PV,(∀y∈m,y∈l\/y=.int 0)->m.length<=500->dA (n+1) (.tup m):=λm hm ml=>by
   match n,h with
   | n+1,h=>
    rw[dA]at h ⊢;refine⟨ml,λy hy=>?_⟩;rcases hm y hy with hy | rfl
    ·exact(h.2 y hy).up
    ·simp[dA]
  have hc:dA (n+1) (.cl l):=by
   match n,h with
   | n+1,h=>
    rw[dA]at h;show l.length<=500/\∀x∈l,dA (n+1) x;exact⟨h.1,λy hy=>(h.2 y hy).up⟩
  have sub:∀i j,∀y∈ly l i j,y∈l:=λi j y hy=>by
   unfold ly at hy;exact Fw (Fv hy)
  have cl':∀i j,(ly l i j).length<=l.length:=λi j=>by
   unfold ly;rw[BG,Cu];omega
  simp only[e1,eM,oB,ii,bo,Ao,if_false,if_true,eL,aD,fz,yo,Q9,yp];rw[eN (by simp;omega)];simp only[ii,eL,yu];have c1:(ly l bm (ap 1)).length<=1:=by
   unfold ly;rw[BG,HT.zQ,show(1:Int)=((1:Nat):Int) from rfl,HT.qV];omega
  rw[mo (bE ∅),ii,mo (bE (by simp;omega)),ii,ii,eN (by simp;omega)];simp only[ii,bp,dh];refine Iq (by simp) (by simp;omega) λy hy=>q y ?_;rcases AE.mp hy with hy | hy
  ·rcases AE.mp hy with hy | hy
   ·exact b1 y hy
   ·simp only[Ax,A2,or_false]at hy;rcases hy with rfl | rfl | rfl
    ·exact hc
    ·exact ht _ (λy hy=>.inl (sub _ _ y hy)) (by have:=cl' (ap 1) bm;omega)
    ·exact ht _ (λy hy=>.inl (sub _ _ y hy)) (by have:=cl' bm (ap (-1));omega)
  ·simp only[Ax,A2,or_false]at hy;rcases hy with rfl | rfl
   ·refine ht _ (λy hy=>.inl ?_) (by simp;omega);rcases AE.mp hy with hy | hy
    ·exact hy
    ·exact sub _ _ y hy
   ·refine ht _ (λy hy=>?_) (by simp;omega);rcases AE.mp hy with hy | hy
    ·exact .inl hy
    ·exact .inr (AD.mp hy)
def adh(hv:∀v,o=ap v->0<=v/\v < 10 ^ 39)(q:∀y,dA 1 y->Q y):(a8 (k+1) (oP o)).run Q:=by
 unfold a8;have e0:cG .tup (oP o)=.ret (.bl false):=by cases o <;> rfl
 simp only[ii,e0,bo,C3,if_true];exact F9 (Ow 0 o) (.inl ⟨o,rfl,hv⟩) q
theorem WD(h:dA (n+1) (.tup l))(hl:l.length<=400)(hf:PV.fq (.tup l)=true)(hd:PV.cy (.tup l)<=150)(ih:∀x∈l,∀R:PV->Prop,(∀y,dA (n+1) y->R y)->(a8 k x).run R)(q:∀y,dA (n+2) y->Q y):(a8 (k+1) (.tup l)).run Q:=by
 unfold a8;have e1:of2 fB (.tup l) (.tup [])=.ret (.bl l.isEmpty):=by
  rw[tI,mo ⟨hf,by simp[PV.fq,d5],hd⟩,Q3];cases l with
  | nil=>rw[dW];rfl
  | cons a l=>rw[G0 (by simp)];rfl
 have od:(eB (.tup l)).run Q:=F9 h (.inr ⟨l,rfl,hl⟩) λy hy=>q y hy;simp only[ii,eM,oB,bo,CM,Ao,if_false,e1,bB,ci];cases c:l.isEmpty with
 | true=>
  simp only[if_true,im];exact od
 | false=>
  have lp:0 < l.length:=by cases l with | nil=>cases c | cons=>simp
  simp only[Ao,if_false,ci,cI 7 ⋯ ⋯];refine bg λa a0 a1=>?_;simp only[fP,bB,im];cases c2:a==0 with
  | true=>simp only[if_true];exact od
  | false=>
   simp only[Ao,if_false,ci,df,im,cI (l.length:Int) ∅ ∅];refine bg λd d0 d1=>?_;obtain⟨m,rfl⟩:∃m:Nat,d=(m:Int):=⟨d.toNat,by omega⟩;have hm:m < l.length:=by omega
   have e3:((m:Int)+1)=((m+1:Nat):Int):=by omega
   simp only[yo,ii,Q9,Vd l (show m<=l.length by omega),aD,cF,di (Ad hm),wS,im,ci,dN,e3,Zr l (show m+1<=l.length by omega)];refine ih _ (C5 hm) _ λy hy=>?_;rw[dA]at h;simp only[im,yu,ci];refine⟨bE (by rw[BG];simp;omega),⟨bE (by rw[Ai,BG,Cu];simp;omega),q _ ?_⟩⟩;show _<=500/\∀x∈_,dA (n+1) x;refine⟨by rw[Ai,Ai,BG,Cu];simp;omega,λz hz=>?_⟩;rcases AE.mp hz with hz | hz
   ·rcases AE.mp hz with hz | hz
    ·exact(h.2 z (Fv hz)).up
    ·rw[AD.mp hz];exact hy
   ·exact(h.2 z (Fw hz)).up
theorem Ku(h:r.length<=400):dA (n+1) (.tup (r.map oP)):=by
 rw[dA];refine⟨by rw[Af];omega,λx hx=>?_⟩;obtain⟨o,_,rfl⟩:=Av.mp hx;exact Ow n o
theorem zI(h:T.length<=400)(hr:∀r∈T,r.length<=400):dA (n+2) (.tup (rP T)):=by
 rw[dA];refine⟨by unfold rP;rw[Af];omega,λx hx=>?_⟩;obtain⟨r,h2,rfl⟩:=Av.mp hx;exact Ku (hr r h2)
theorem RN(h:T.length<=400)(hr:∀r∈T,r.length<=400)(hv:∀r∈T,∀v,ap v∈r->0<=v/\v < 10 ^ 39)(q:∀y,dA 3 y->Q y):(a8 5 (.tup (rP T))).run Q:=by
 have f:=wO T;refine WD (n:=1) (zI (n:=0) h hr) (by unfold rP;rw[Af];exact h) f.1 (by have:=f.2;omega) (λx hx R hR=>?_) q;obtain⟨r,h2,rfl⟩:=Av.mp hx;have f:=KW r;refine WD (n:=0) (Ku (hr r h2)) (by rw[Af];exact hr r h2) f.1 (by have:=f.2;omega) (λy hy S hS=>?_) hR;obtain⟨o,h3,rfl⟩:=Av.mp hy;exact adh (λv e=>hv r h2 v (e▸h3)) hS
theorem law33_ok:∀ns:O Int,ns.length<=63->(sF (.cl (ns.map PV.int))).run (·=.bl true):=by
 intro ns hn;unfold sF;obtain⟨m,hm,m0,m1⟩:∃m:Nat,(am ((PV.int 1)\λx3=>am ((PV.int 4)\λx1=>am (c1 cn (bd (PV.cl (ns.map PV.int)))) λx2=>mX NS [x1,x2]) λx4=>mX NT [x3,x4]) fx)=.ret (jb 0 m)/\1<=m/\m<=4:=by
  simp only[ii,dh,Af,Zc,Zd];generalize hx:(if (if (ns.length:Int) < 4 then (ns.length:Int) else 4) > 1 then (if (ns.length:Int) < 4 then (ns.length:Int) else 4) else 1)=x;have h1:1<=x/\x<=4:=by rw[<- hx];split <;> split <;> omega
  refine⟨x.toNat,?_,by omega,by omega⟩;rw[cV,mo (bf ∅ ∅)]
 rw[hm];simp only[ii,ci];refine QX (λ_ s=>s=()) rfl (λk s hk hs=>?_) (λs hs=>rfl);refine QN ∅ ∅ λl hl=>?_;refine⟨hl,?_⟩;simp only[ii,ci,im];refine NH ⋯ ⋯ ⋯ ⋯ λg ws t ps G _ tl p4 pb=>?_;have hz:t.size<=19:=by have:=t.size_eq;omega
 have tp:=t.size_pos;have g3:=G.len;simp only[Q7,im];refine W.le.use (Qf G p4 ∅) ?_;refine W.le.use (SX (iT g ps (t.nd 0) t.size) G.len ∅ (Md t)) ?_;have wT:=wD g ps t;have lT:=d8 g ps (t.nd 0) t.size;have vT:∀r∈bM g ps (t.nd 0) t.size,∀v,ap v∈r->0<=v/\v < 10 ^ 39:=λr hr v hv=>Mf G p4 pb hz hr hv;have sh:∀x,dA 4 x->∃b:Bool,(b=true↔x=.tup (rP (bM g ps (t.nd 0) t.size)))/\(cj (g9 g) t.pv (.tup (bj ps)) x).le (.ret (.bl b)):=λx hx=>Mo G p4 ∅ hx;generalize hT:bM g ps (t.nd 0) t.size=T at wT lT vT sh;have wr:∀r∈T,r.length<=400:=λr hr=>by have:=wT r hr;omega
 have thT:dA 2 (.tup (rP T)):=zI (n:=0) ∅ wr;have rl:(rP T).length=T.length:=Af _;have fz:∀l:O PV,gU (bd l)=.ret (.cl l):=λ_=>rfl;simp only[aD,fz,ii,im,cV,mo (bf (i:=0) (j:=14) ∅ ∅)];have b0:∀y∈[PV.ax,.bl true,.int 0,.str "",.cl [],Sf [],.tup [],.tup [.tup []],.tup [.ax],.cl (rP T),.tup [.tup (rP T)],.tup (rP T)],dA 4 y:=λy hy=>by
  simp only[Ax,A2,or_false]at hy;rcases hy with rfl | rfl | rfl | rfl | rfl | rfl | rfl | rfl | rfl | rfl | rfl | rfl
  all_goals first | (simp[dA];done) | exact⟨rfl,rfl⟩ | exact thT.up.up | skip
  show _<=500/\∀x∈[PV.tup (rP T)],dA 3 x;exact⟨by simp,λx hx=>by rw[AD.mp hx];exact thT.up⟩
 refine fH (n:=14) (λi s=>(∀y∈s,dA 4 y)/\s.length=12+i) ⟨b0,rfl⟩ ?_ ?_
 ·rintro i s hi ⟨hs,sl⟩;simp only[ci];refine RN ∅ wr vT λy hy=>?_;rw[c8 ∅];refine⟨λz hz=>?_,by rw[Ai,sl];simp;omega⟩;rcases AE.mp hz with hz | hz
  ·exact hs z hz
  ·rw[AD.mp hz];exact hy.up
 ·rintro s ⟨hs,sl⟩;simp only[bp,im,ci];refine yk (λ_ s=>s=()) rfl (λk x s hx _=>?_) (λs _=>trivial);have hx:=hs x (Be hx);simp only[ci,qb 4 x hx 6 ⋯,im];obtain⟨b,hb,Ù⟩:=sh x hx;refine W.le.use Ù ?_;have b1:∀b,cG .bool (.bl b)=.ret (.bl true):=λb=>rfl;have eb:b=zw x (.tup (rP T)):=by rw[Ff,iu];exact hb
  have ok:=iB 4 x hx;simp only[b1,bo,ii,CM,Ao,if_false,OY (k:=2) hx T,Zb,bB,im,eb,beq_self_eq_true,Za,mo (show T4 x x from⟨rfl,ok.1,by have:=ok.2;omega⟩)]
end My
variable{Kw zJ OB Ky Kx OA vc OC:PySem.Tok}{rD:BD}
namespace My
section
def top(i:Nat):ss:=PySem.Challenge.pw_treewithin_k33_tables_of_anything.main.body.getD i (.Pass ⟨0,0,0,0⟩)
abbrev dV(i k:Nat)(ks:O AK)(n:Nat)(m:HS PV n):DF:=⟨dnm (top i),top i,z0 (top i),k,λK=>Ml K ks (oX n m)⟩
abbrev dL(i k:Nat)(ks:O AK)(n:Nat)(m:HS (O PV) n):DF:=⟨dnm (top i),top i,z0 (top i),k,λK=>zP K ks (oX n m)⟩
abbrev dv(i k n:Nat)(m:HS PV n):DF:=dV i k (An n .v) n m
abbrev sN:nw:=nX [("node",lo)]
def mn:LS (top 7) sN:=lcs
abbrev sI:nw:=nX [("house",lo)]
def mh:LS (top 16) sI:=lcs
abbrev pI:nw:=nX [("far",lo),("house",fr),("lines",fr)]
def kd:LS (top 17) pI:=lcs
abbrev xg:nw:=nX [("house",lo),("name_of",gi),("halves",gi),("apart_from",gi),("houses",fr),("lines",fr)]
def qi:LS (top 18) xg:=lcs
abbrev sH:nw:=nX [("far",lo),("stay",fr)]
abbrev sG:nw:=nX [("far",lo),("stay",fr)]
def mf:LS (top 26) sH:=lcs
def me:LS (top 26) sG:=lcs
abbrev sL:nw:=nX [("ins",lo),("SPLIT",gi)]
abbrev sJ:nw:=nX [("ins",lo),("OVER",gi)]
def mj:LS (top 27) sL:=lcs
def mi:LS (top 27) sJ:=lcs
abbrev sM:nw:=nX [("cost",lo)]
def mm:LS (top 31) sM:=lcs
abbrev qD:nw:=nX [("half",lo),("stay",lo),("rows",fr)]
def gN:LS (top 33) qD:=lcs
abbrev pH:nw:=nX [("deed",lo),("deed_cost",gi),("node",fr),("prices",fr),("rows",fr)]
def ka:LS (top 34) pH:=lcs
abbrev pF:nw:=nX [("below",lo),("summed",gi),("own",fr),("row",fr)]
def j8:LS (top 36) pF:=lcs
abbrev pG:nw:=nX [("entry",lo),("is_whole",gi)]
def j9:LS (top 40) pG:=lcs
abbrev uB:nw:=nX [("row",lo),("is_entries",gi),("ground",fr)]
def n6:LS (top 41) uB:=lcs
abbrev nU:nw:=nX [("house",lo),("date",lo),("isinstance",gi),("str",gi)]
def fc:LS (top 44) nU:=lcs
abbrev uA:nw:=nX [("each",lo),("layer",fr),("numbers",fr)]
abbrev uz:nw:=nX [("far",lo),("house",fr),("layer",fr),("numbers",fr)]
def nZ:LS (top 46) uA:=lcs
def nY:LS (top 46) uz:=lcs
abbrev Gp:nw:=nX [("number",lo),("pair",lo)]
abbrev Gn:nw:=nX [("pair",lo),("stay_of",gi),("begins",fr),("dates",fr),("houses",fr),("numbers",fr)]
def mI:LS (top 47) Gp:=lcs
def sP:LS (top 47) Gn:=lcs
def nt:cY (N6 (top 50)) (z0 (top 50)) (aF (top 50)):=Y3
abbrev pJ:nw:=nX [("_law_k",lo),("_law_first",fr),("_law_letters",fr),("_law_tail",fr),("_law_turn",fr)]
def ke:LS (top 52) pJ:=lcs
abbrev pL:nw:=nX [("_law_k",lo),("_law_pick",gi),("_law_hand_here",fr),("_law_words_here",fr)]
def kg:LS (top 55) pL:=lcs
def dB:cY (N6 (top 56)) (z0 (top 56)) (aF (top 56)):=Y3
abbrev pO:nw:=nX [("_law_at",lo),("_law_house",lo),("isinstance",gi),("str",gi)]
def fN:LS (top 57) pO:=lcs
abbrev pK:nw:=nX [("_law_below",lo),("_law_node",fr),("_law_place",fr)]
def kf:LS (top 61) pK:=lcs
abbrev pN:nw:=nX [("_law_option",lo),("_law_worth",gi),("_law_known_here",fr),("_law_prices_here",fr)]
abbrev pM:nw:=nX [("_law_cost",lo)]
def ki:LS (top 63) pN:=lcs
def kh:LS (top 63) pM:=lcs
abbrev qF:nw:=nX [("_law_at",lo),("_law_known_here",fr),("_law_node",fr)]
def kK:LS (top 64) qF:=lcs
def nu:cY (N6 (top 67)) (z0 (top 67)) (aF (top 67)):=Y3
def wL:cY (N6 (top 68)) (z0 (top 68)) (aF (top 68)):=Y3
abbrev qE:nw:=nX [("_law_one",lo),("_law_other",lo),("_law_same",gi)]
def gP:LS (top 68) qE:=lcs
def rY:cY (N6 (top 69)) (z0 (top 69)) (aF (top 69)):=Y3
abbrev nW:nw:=nX [("_law_one",lo),("_law_copied",gi)]
abbrev nV:nw:=nX [("_law_one",lo),("_law_copied",gi)]
def i7:LS (top 69) nW:=lcs
def i6:LS (top 69) nV:=lcs
structure NB(v:EV):Prop where
 isinstance:v.mg "isinstance"=bm
 bool:v.mg "bool"=bm
 int:v.mg "int"=bm
 len:v.mg "len"=bm
 tuple:v.mg "tuple"=bm
 str:v.mg "str"=bm
 list:v.mg "list"=bm
 reversed:v.mg "reversed"=bm
 enumerate:v.mg "enumerate"=bm
 range:v.mg "range"=bm
 sorted:v.mg "sorted"=bm
 sum:v.mg "sum"=bm
 min:v.mg "min"=bm
 zip:v.mg "zip"=bm
 all:v.mg "all"=bm
 dict:v.mg "dict"=bm
 abs:v.mg "abs"=bm
 max:v.mg "max"=bm
variable{v:EV}
abbrev mQ:DF:=dv 1 1 1 e7
def Jb(D:DI v mQ)(q:NB v):D.O:=
 kA D λhr nd ar=>
 (SF.bR (tR (dr rfl .int rfl q.isinstance (ae 0) rfl q.int boot_int) (qt (acX (dr rfl .bool rfl q.isinstance (ae 0) rfl q.bool boot_bool)))) λ_=>rfl)
abbrev oH:DF:=dv 2 1 2 gJ
def Qn(D:DI v oH)(q:NB v):D.O:=
 kA D λhr nd ar j7=>
 (SF.bR (tR (dr rfl .tup rfl q.isinstance (ae 0) rfl q.tuple xL) (qt (kY (fC rfl (aV hr)) (cm rfl rfl q.len (ae 0)) (ae 1)))) λ_=>rfl)
abbrev mN:DF:=dL 4 1 [.v] 1 mH
def IZ(D:DI v mN)(q:NB v):D.O:=
 MJ D λhr nd cS=>
 (sl 1 nd (aJ (n:=0) ag rfl) λmW=>
 (sl 2 nd (aJ (n:=1) (av 0 ag) rfl) λoY=>
 (SF.aas (hd:=(λ(s4:O PV×O PV)=>([ap (.val cS),ap (.ol bm s4.1),ap (.ol bm s4.2),bm]:bb))) (s0:=(mW,oY)) AM (.refl _) (λs4=>(aay rfl (cx 2) (λ_=>rfl))) (λs4=>
 (SF.Io 2 3 rfl ⋯ rfl rfl (.inl rfl) nd rfl (C1 rfl) λt7=>
 (SF.append 1 rfl rfl rfl (.inl rfl) (ae 3) λmV=>
 (SF.ifT (qd (dm rfl (dr rfl .str rfl q.isinstance (ae 3) rfl q.str wn) (λ_=>rfl)))
 (SF.extend 2 rfl rfl rfl (.inl rfl) (aE (ae 3)) λrM=>
 (SF.fM rfl (.m 8)))
 (SF.fM rfl (.m 8)))))) λs4=>
 (SF.hJ (abP rfl rfl rfl q.list rfl q.reversed (Pd 1)) λ_=>rfl))))
abbrev jJ:DF:=dv 5 2 1 ic
def Us(D:DI v jJ)(q:NB v)(Jq:mN.C v):D.O:=
 kA D λhr nd cS=>
 (sl 1 nd (aJ (n:=0) ag rfl) λjm=>
 (sl 2 nd (aJ (n:=0) ag rfl) λxh=>
 (SF.oy (hd:=(λ(s4:O PV×O PV)=>([ap (.val cS),ap (.ol bm s4.1),ap (.ol bm s4.2),bm,bm,bm]:bb))) (s0:=(jm,xh)) AM rfl (bA rfl (Lw (lC Jq hr (av 0 ag)))) (.refl _) (cZ 3 nd) (λs4 wX=>
 (SF.ifS (out1:=λ(Xi:O PV×O PV)=>.nx ([ap (.val cS),ap (.ol bm Xi.1),ap (.ol bm Xi.2),ap (.val wX),bm,bm]:bb)) (dm rfl (dr rfl .str rfl q.isinstance (ae 3) rfl q.str wn) (λ_=>rfl))
 (SF.append 1 rfl rfl rfl (.inl rfl) (ae 3) λKt=>
 (SF.nil rfl (.refl _)))
 (SF.Io 2 4 rfl ⋯ rfl rfl (.inl rfl) nd rfl (C1 rfl) λt20=>
 (SF.Io 2 5 rfl ⋯ rfl rfl (.inl rfl) nd rfl (C1 rfl) λt22=>
 (SF.append 1 rfl rfl rfl (.inl rfl) (au (n:=2) (av 5 (av 4 ag)) rfl) λKs=>
 (SF.nil rfl (.m 48)))))
 λXi=>(SF.append 2 rfl rfl rfl (.inl rfl) (tM (tP rfl rfl q.len (cx 1)) aj) λGq=>
 (SF.fM rfl (.m 8))))) λs4=>
 (SF.bR (cW rfl rfl q.tuple (cx 1)) λ_=>rfl))))
abbrev je:DF:=dv 6 1 1 c7
def Qo(D:DI v je)(q:NB v):D.O:=
 kA D λhr nd ck=>
 (SF.bR (qM (dm rfl (dr rfl .str rfl q.isinstance (ae 0) rfl q.str wn) (λ_=>rfl)) (au (n:=0) ag rfl) (ae 0)) λ_=>rfl)
abbrev jN:DF:=dv 7 3 1 gL
def Je(D:DI v jN)(q:NB v)(gk:jJ.C v)(gT:je.C v):D.O:=
 kA D λhr nd cS=>
 (sv 1 nd (eC gk hr (av 0 ag)) λjm=>
 (SF.nk (i:=3) rfl nd rfl rfl mn (bA rfl (bx (ae 1))) (λ_ _ _ _ _=>(cZ 0 mn.nd)) (λ_ _ _ _ _ p5=>dZ) rfl λyZ=>
 (SF.Y4 (hd:=(λ(s7:O PV)=>([ap (.val cS),ap (.val jm),bm,ap (.ol bm s7),bm,bm]:bb))) (s0:=yZ) AM rfl (og rfl rfl q.enumerate (bx (ae 1))) (.refl _) (λ_=>(QU rfl (eX rfl (aH (cZ 4 nd) (aH (cZ 2 nd) da))))) (λs7 t9=>
 (SF.oy (hd:=(λ(Xj:O PV)=>([ap (.val cS),ap (.val jm),ap (.val t9.2),ap (.ol bm Xj),ap (.val t9.1),bm]:bb))) (s0:=s7) AM rfl (bA rfl (bx (eC gT hr (av 2 ag)))) (.refl _) (cZ 5 nd) (λXj Ly=>
 (SF.Ij 3 rfl rfl (.inl rfl) (ae 4) (ae 5) λHt=>
 (SF.fM rfl (.m 32)))) λXj=>
 (SF.fM rfl (.m 20)))) λs7=>
 (SF.bR (cW rfl rfl q.tuple (cx 3)) λ_=>rfl))))
abbrev fg:DF:=dv 12 1 2 dQ
def IV(D:DI v fg)(oI:v.mg "UNDER"=ap (.int 2 Kw)):D.O:=
 kA D λhr nd jn bu=>
 (SF.bR (aY rfl (aE (aY rfl (aE (ae 0)) (ae 1))) (yC oI rfl)) λ_=>rfl)
abbrev lg:DF:=dv 13 1 2 ig
def GB(D:DI v lg)(lA:v.mg "BESIDE"=ap (.int 3 zJ)):D.O:=
 kA D λhr nd jn bu=>
 (SF.bR (aY rfl (aE (aY rfl (aE (ae 0)) (ae 1))) (yC lA rfl)) λ_=>rfl)
abbrev pZ:DF:=dv 14 2 3 lN
def M5(D:DI v pZ)(ub:v.mg "NAME"=ap (.int 0 OB))(dR:fg.C v):D.O:=
 kA D λhr nd jn bu VF=>
 (SF.bR (tR (kY (fC rfl (aV hr)) (eC dR hr (av 0 (av 1 ag))) (au (n:=0) ag rfl)) (qt (kY (fC rfl (aV hr)) (aY rfl (aE (aY rfl (aE (ae 0)) (ae 1))) (yC ub rfl)) (ae 2)))) λ_=>rfl)
abbrev lV:DF:=dv 15 1 2 e6
def M3(D:DI v lV)(q:NB v):D.O:=
 kA D λhr nd fm kQ=>
 (SF.bR (qM (dm rfl (dr rfl .str rfl q.isinstance (aY rfl (aE (ae 0)) (ae 1)) rfl q.str wn) (λ_=>rfl)) (aY rfl (aE (ae 0)) (ae 1)) (ae 1)) λ_=>rfl)
abbrev mP:DF:=dL 16 4 [.v] 1 jB
def Ja(D:DI v mP)(q:NB v)(mK:jN.C v):D.O:=
 MJ D λhr nd dw=>
 (sv 1 nd (eC mK hr (av 0 ag)) λdP=>
 (SF.nk (i:=3) rfl nd rfl rfl mh (bA rfl (bx (ae 1))) (λ_ _ _ _ _=>(cZ 0 mh.nd)) (λ_ _ _ _ _ p5=>(au (n:=0) ag rfl)) rfl λlO=>
 (SF.oy (hd:=(λ(s9:O PV)=>([ap (.val dw),ap (.val dP),bm,ap (.ol bm s9),bm]:bb))) (s0:=lO) AM rfl (Uy rfl q.range (tM (cm rfl rfl q.len (ae 1)) aj) (G8 aj) (G8 aj)) (.refl _) (cZ 2 nd) (λs9 kO=>
 (sv 4 nd (qM (cu kL (aY rfl (aE (ae 1)) (ae 2)) dZ) (au (n:=0) ag rfl) (aY rfl (cx 3) (aY rfl (aE (ae 1)) (ae 2)))) λHu=>
 (SF.Ij 3 rfl rfl (.inl rfl) (bH rfl (au (n:=1) (av 2 ag) rfl) (ae 4)) (ae 2) λGs=>
 (SF.fM rfl (.m 20))))) λs9=>
 (SF.Xn 3 rfl rfl))))
abbrev jM:DF:=dv 17 1 2 f7
def xw(D:DI v jM)(q:NB v):D.O:=
 kA D λhr nd xj kQ=>
 (SF.bR (cW rfl rfl q.tuple (se (Qd rfl kd (cU rfl q.range (cm rfl rfl q.len (ae 0))) (λ_ _ _ _ _=>(cZ 0 kd.nd)) (λ_ _ _ _ _ p3=>(zm.t (o5 (wF rfl (aV hr) (ae 0) (aE (aY rfl (aE (ae 2)) (ae 1)))) (lH (wF rfl (aV hr) (ae 1) (aE (aY rfl (aE (ae 2)) (ae 0)))))))) (λ_ _ _ _ _ p3=>(ae 0)) rfl))) λ_=>rfl)
abbrev tX:DF:=dv 18 5 1 nR
def Qp(D:DI v tX)(q:NB v)(gk:jJ.C v)(Js:mP.C v)(pV:lV.C v)(gT:je.C v)(xW:jM.C v):D.O:=
 kA D λhr nd dw=>
 (sv 1 nd (eC gk hr (av 0 ag)) λbD=>
 (sl 2 nd (lC Js hr (av 0 ag)) λlO=>
 SF.cq 2 rfl (SF.bR (cW rfl rfl q.tuple (se (eI rfl qi (cU rfl q.range (cm rfl rfl q.len (ae 1))) (λ_ _ _ _ _=>(cZ 0 qi.nd)) (λ_ _ _ _ _ p7=>(au (n:=4) (af (eC pV hr (av 1 (av 0 ag))) (af aj (af (eC gT hr (af (aY rfl (aE (ae 1)) (ae 0)) ag)) (af (eC xW hr (av 2 (av 0 ag))) ag)))) rfl)) rfl))) λ_=>rfl)))
abbrev k7:DF:=dL 25 2 [.v,.v] 2 ib
def Gz(D:DI v k7)(q:NB v)(dR:fg.C v):D.O:=
 MJ D λhr nd aB bu=>
 (sv 2 nd (eC dR hr (av 0 (av 1 ag))) λfV=>
 (SF.hJ (Yo (cu (fC rfl (aV hr)) (cm rfl rfl q.len (ae 2)) aj) (aJ (n:=2) (av 2 (af (au (n:=2) (af (aY rfl (aE (ae 2)) aj) (af (aY rfl (aE (ae 2)) aj) ag)) rfl) ag)) rfl) (aJ (n:=0) ag rfl)) λ_=>rfl))
abbrev mO:DF:=dL 26 2 [.v,.v] 2 jA
def I0(D:DI v mO)(GQ:lg.C v):D.O:=
 MJ D λhr nd aB bu=>
 (sv 2 nd (eC GQ hr (av 0 (av 1 ag))) λud=>
 (SF.hJ (i8 rfl (bN (eI rfl mf (bA rfl (bx (ae 2))) (λ_ _ _ _ _=>(cZ 0 mf.nd)) (λ_ _ _ _ _ p5=>(au (n:=2) (av 1 (av 0 ag)) rfl)) rfl)) (bN (eI rfl me (bA rfl (bx (ae 2))) (λ_ _ _ _ _=>(cZ 0 me.nd)) (λ_ _ _ _ _ p9=>(au (n:=2) (av 0 (av 1 ag)) rfl)) rfl))) λ_=>rfl))
abbrev mR:DF:=dL 27 3 [.v,.v,.v] 3 gK
def Jc(D:DI v mR)(q:NB v)(oK:v.mg "FOUND"=ap (.str "found" Ky))(oJ:v.mg "SPLIT"=ap (.str "split" Kx))(t6:v.mg "OVER"=ap (.str "over" OA))(jg:v.mg "DOUBLED"=ap (.str "doubled" vc))(Nq:pZ.C v)(GO:k7.C v)(Jr:mO.C v):D.O:=
 MJ D λhr nd aB ck bu=>
 (SF.Nc (dm rfl (dr rfl .str rfl q.isinstance (ae 1) rfl q.str wn) (λ_=>rfl))
 (SF.hJ (Yo (dm rfl (eC Nq hr (av 0 (av 2 (av 1 ag)))) (λ_=>rfl)) (aJ (n:=1) (af (au (n:=2) (af (yB oK rfl) (af (au (n:=0) ag rfl) ag)) rfl) ag) rfl) (aJ (n:=0) ag rfl)) λ_=>rfl)
 (SF.nk (i:=3) rfl nd rfl rfl mj (bA rfl (Lw (lC GO hr (av 0 (av 2 ag))))) (λ_ _ _ _ _=>(cZ 0 mj.nd)) (λ_ _ _ _ _ Č=>(au (n:=2) (af (yB oJ rfl) (av 0 ag)) rfl)) rfl λKI=>
 SF.cq 3 rfl (SF.nk (i:=4) rfl nd rfl rfl mi (bA rfl (Lw (lC Jr hr (av 0 (av 2 ag))))) (λ_ _ _ _ _=>(cZ 0 mi.nd)) (λ_ _ _ _ _ p18=>(au (n:=2) (af (yB t6 rfl) (av 0 ag)) rfl)) rfl λK8=>
 SF.cq 4 rfl (SF.hJ (Ui rfl (aV hr) rfl q.sorted (bN (i8 rfl (bN (i8 rfl (bN (aJ (n:=1) (af (au (n:=2) (af (yB jg rfl) (af (au (n:=2) (av 2 (av 2 ag)) rfl) ag)) rfl) ag) rfl)) (fK (ae 3)))) (fK (ae 4))))) λ_=>rfl))))
abbrev oG:DF:=dv 30 1 1 kJ
def Qk(D:DI v oG)(q:NB v):D.O:=
 kA D λhr nd qa=>
 (SF.bR (qM (aaB rfl (aV hr) dZ (aE (ae 0))) dZ (Zg rfl rfl rfl q.sum (fK (ae 0)))) λ_=>rfl)
abbrev mS:DF:=dv 31 1 1 jC
def Jd(D:DI v mS)(q:NB v):D.O:=
 kA D λhr nd qa=>
 (SF.bR (Zk rfl rfl rfl q.min (bN (Qd rfl mm (bA rfl (bx (ae 0))) (λ_ _ _ _ _=>(cZ 0 mm.nd)) (λ_ _ _ _ _ p2=>(cu Ls (ae 0) dZ)) (λ_ _ _ _ _ p2=>(ae 0)) rfl))) λ_=>rfl)
abbrev mM:DF:=dv 32 1 2 eZ
def IX(D:DI v mM)(lW:v.mg "DEEDS"=ap (.ref rD))(rj:RZ v.K rD ["split","doubled","over"]):D.O:=
 kA D λhr nd aZ tU=>
 (SF.bR (qM (aaA rfl (aV hr) (ae 1) lW rj) (aY rfl (aE (ae 0)) (Zl rfl (ae 1) lW rj)) aj) λ_=>rfl)
abbrev k8:DF:=dv 33 2 4 dX
def GA(D:DI v k8)(q:NB v)(gT:je.C v)(tm:oG.C v)(Jp:mM.C v):D.O:=
 kA D λhr nd aZ nv ck tU=>
 (SF.KU (i:=4) rfl nd rfl rfl gN (Jg rfl rfl q.zip (bx (eC gT hr (av 2 ag))) (bx (aY rfl (aE (ae 3)) aj))) (λ_ _ _ _ _=>(QU rfl (eX rfl (aH (cZ 0 gN.nd) (aH (cZ 1 gN.nd) da))))) (λ_ _ _ _ _ t7=>(aY rfl (aE (aY rfl (aE (ae 2)) (ae 0))) (ae 1))) (P9 rfl rfl ⋯) ⋯ λF8=>
 SF.cq 4 rfl (SF.bR (eC tm hr (af (dI (i8 rfl (bN (aJ (n:=1) (af (eC Jp hr (av 0 (af (aY rfl (aE (ae 3)) aj) ag))) ag) rfl)) (fK (ae 4)))) ag)) λ_=>rfl))
abbrev jL:DF:=dL 34 4 [.v,.v,.v,.v,.v] 5 f6
def xv(D:DI v jL)(Ju:mR.C v)(GP:k8.C v):D.O:=
 MJ D λhr nd aB aZ nv ck bu=>
 (SF.hJ (eI rfl ka (bA rfl (Lw (lC Ju hr (av 0 (av 3 (av 4 ag)))))) (λ_ _ _ _ _=>(cZ 0 ka.nd)) (λ_ _ _ _ _ p5=>(eC GP hr (av 2 (av 3 (av 1 (av 0 ag)))))) rfl) λ_=>rfl)
abbrev k6:DF:=dv 35 2 3 hZ
def Gy(D:DI v k6)(q:NB v)(uc:v.mg "LOST"=ap (.int 3 OC))(dR:fg.C v):D.O:=
 kA D λhr nd aB aZ bu=>
 (SF.bR (qM (cu (fC rfl (aV hr)) (cm rfl rfl q.len (eC dR hr (av 0 (av 2 ag)))) aj) (aY rfl (aE (ae 1)) (yC uc rfl)) aj) λ_=>rfl)
abbrev jI:DF:=dL 36 3 [.v,.v,.v,.v] 4 fZ
def xq(D:DI v jI)(GN:k6.C v)(dR:fg.C v)(tm:oG.C v):D.O:=
 MJ D λhr nd aB aZ aa3 bu=>
 (sv 4 nd (eC GN hr (av 0 (av 1 (av 3 ag)))) λVV=>
 (SF.hJ (eI rfl j8 (bA rfl (bx (eC dR hr (av 0 (av 3 ag))))) (λ_ _ _ _ _=>(cZ 0 j8.nd)) (λ_ _ _ _ _ p8=>(eC tm hr (af (dI (aJ (n:=2) (av 1 (af (aY rfl (aE (ae 2)) (ae 0)) ag)) rfl)) ag))) rfl) λ_=>rfl))
abbrev tW:DF:=dv 37 5 4 nQ
def Ql(D:DI v tW)(q:NB v)(xV:jL.C v)(xT:jI.C v)(Jv:mS.C v):D.O:=
 kA D λhr nd aB aZ nv ck=>
 (sl 4 nd (aJ (n:=0) ag rfl) λO1=>
 (SF.oy (hd:=(λ(s3:O PV)=>([ap (.val aB),ap (.val aZ),ap (.val nv),ap (.val ck),ap (.ol bm s3),bm,bm]:bb))) (s0:=O1) AM rfl (cU rfl q.range (cm rfl rfl q.len (ae 0))) (.refl _) (cZ 5 nd) (λs3 Ic=>
 (sl 6 nd (abT 4 rfl (i8 rfl (bN (lC xV hr (av 0 (av 1 (av 2 (av 3 (av 5 ag))))))) (bN (lC xT hr (av 0 (av 1 (av 4 (av 5 ag)))))))) λLW=>
 SF.cq 6 rfl (SF.append 4 rfl rfl rfl (.inl rfl) (eC Jv hr (av 6 ag)) λO0=>
 (SF.fM rfl (.m 96))))) λs3=>
 (SF.bR (cW rfl rfl q.tuple (cx 4)) λ_=>rfl)))
abbrev yS:DF:=dv 38 6 3 q8
def Ur(D:DI v yS)(q:NB v)(gk:jJ.C v)(QR:tW.C v):D.O:=
 kA D λhr nd aB iC aZ=>
 (sl 3 nd (aJ (n:=0) ag rfl) λIk=>
 (SF.oy (hd:=(λ(s3:O PV)=>([ap (.val aB),ap (.val iC),ap (.val aZ),ap (.ol bm s3),bm]:bb))) (s0:=Ik) AM rfl (bA rfl (bx (eC gk hr (av 1 ag)))) (.refl _) (cZ 4 nd) (λs3 gH=>
 (SF.append 3 rfl rfl rfl (.inl rfl) (ac3 3 rfl (eC QR hr (av 0 (av 2 (av 3 (av 4 ag)))))) λOZ=>
 (SF.fM rfl (.m 16)))) λs3=>
 (SF.bR (cW rfl rfl q.tuple (cx 3)) λ_=>rfl)))
abbrev jK:DF:=dv 40 2 2 bX
def xt(D:DI v jK)(q:NB v)(Jt:mQ.C v)(tq:oH.C v):D.O:=
 kA D λhr nd aB ar=>
 (SF.bR (tR (eC tq hr (av 1 (af (cm rfl rfl q.len (ae 0)) ag))) (qt (RB rfl rfl rfl q.all (bN (eI rfl j9 (bA rfl (bx (ae 1))) (λ_ _ _ _ _=>(cZ 0 j9.nd)) (λ_ _ _ _ _ p2=>(ag0 (kY kL (ae 0) dZ) (qt (eC Jt hr (av 0 ag))))) rfl))))) λ_=>rfl)
abbrev pY:DF:=dv 41 3 3 gq
def M4(D:DI v pY)(q:NB v)(xU:jK.C v)(tq:oH.C v)(gk:jJ.C v):D.O:=
 kA D λhr nd aB iC ar=>
 (SF.bR (tR (eC tq hr (av 2 (af (cm rfl rfl q.len (eC gk hr (av 1 ag))) ag))) (qt (RB rfl rfl rfl q.all (bN (eI rfl n6 (bA rfl (bx (ae 2))) (λ_ _ _ _ _=>(cZ 0 n6.nd)) (λ_ _ _ _ _ p2=>(eC xU hr (av 1 (av 0 ag)))) rfl))))) λ_=>rfl)
abbrev iJ:DF:=dv 42 7 4 cj
def uF(D:DI v iJ)(UR:yS.C v)(Np:pY.C v):D.O:=
 kA D λhr nd aB iC aZ ar=>
 (SF.bR (tR (eC Np hr (av 0 (av 1 (av 3 ag)))) (qt (kY (fC rfl (aV hr)) (ae 3) (eC UR hr (av 0 (av 1 (av 2 ag))))))) λ_=>rfl)
abbrev iI:DF:=dL 44 1 [.v,.v] 2 fj
def uE(D:DI v iI)(q:NB v):D.O:=
 MJ D λhr nd fm dz=>
 (SF.hJ (abR rfl fc (Jg rfl rfl q.zip (bx (ae 0)) (bx (ae 1))) (λ_ _ _ _ _=>(QU rfl (eX rfl (aH (cZ 0 fc.nd) (aH (cZ 1 fc.nd) da))))) (λ_ _ _ _ _ t5=>(qd (dm rfl (dr rfl .str rfl q.isinstance (ae 0) rfl q.str wn) (λ_=>rfl)))) (λ_ _ _ _ _ t5=>(ae 1)) (P9 rfl rfl ⋯) ⋯) λ_=>rfl)
abbrev mL:DF:=dL 45 4 [.v,.v,.v] 3 jz
def IW(D:DI v mL)(q:NB v)(mK:jN.C v):D.O:=
 MJ D λhr nd dw dz jX=>
 (sv 3 nd (eC mK hr (av 0 ag)) λdP=>
 (sl 4 nd (aJ (n:=0) ag rfl) λwZ=>
 (SF.Y4 (hd:=(λ(s5:O PV)=>([ap (.val dw),ap (.val dz),ap (.val jX),ap (.val dP),ap (.ol bm s5),bm,bm,bm,bm]:bb))) (s0:=wZ) AM rfl (og rfl rfl q.enumerate (bx (ae 2))) (.refl _) (λ_=>(QU rfl (eX rfl (aH (cZ 5 nd) (aH (cZ 6 nd) da))))) (λs5 t7=>
 (SF.Y4 (hd:=(λ(s9:O PV)=>([ap (.val dw),ap (.val dz),ap (.val jX),ap (.val dP),ap (.ol bm s9),ap (.val t7.1),ap (.val t7.2),bm,bm]:bb))) (s0:=s5) AM rfl (og rfl rfl q.enumerate (bx (ae 1))) (.refl _) (λ_=>(QU rfl (eX rfl (aH (cZ 7 nd) (aH (cZ 8 nd) da))))) (λs9 æ=>
 (SF.ifT (zm.t (o5 (cu Wa (ae 8) (ae 6)) (lH (zm.t (rR (cu kL (aY rfl (aE (ae 3)) (ae 7)) dZ) (rQ (cu Qv (ae 6) (aY rfl (aE (ae 1)) (aY rfl (aE (ae 3)) (ae 7))))))))))
 (SF.append 4 rfl rfl rfl (.inl rfl) (au (n:=2) (av 7 (av 5 ag)) rfl) λF4=>
 (SF.fM rfl (.m 384)))
 (SF.fM rfl (.m 384)))) λs9=>
 (SF.fM rfl (.m 96)))) λs5=>
 (SF.Xn 4 rfl rfl))))
abbrev pX:DF:=dv 46 2 5 lM
def M1(D:DI v pX)(q:NB v)(gT:je.C v)(pV:lV.C v):D.O:=
 kA D λhr nd fm dz jX nI PF=>
 (sv 5 nd (aY rfl (aE (ae 4)) aj) λlQ=>
 (sv 6 nd (aY rfl (aE (ae 4)) aj) λn8=>
 (sv 7 nd (kY Qv (aY rfl (aE (ae 1)) (ae 5)) (aY rfl (aE (ae 2)) (ae 6))) λvK=>
 (sv 8 nd (qM (dm rfl (ae 7) (λ_=>rfl)) (au (n:=1) (av 5 ag) rfl) (eC gT hr (af (aY rfl (aE (ae 0)) (ae 5)) ag))) λbelow_4=>
 (sv 9 nd (cW rfl rfl q.tuple (se (eI rfl nZ (bA rfl (bx (ae 8))) (λ_ _ _ _ _=>(cZ 0 nZ.nd)) (λ_ _ _ _ _ p9=>(tQ (aV hr) (ae 2) (au (n:=2) (av 0 (af (tM (ae 1) aj) ag)) rfl) (λ_ _=>rfl))) rfl))) λKq=>
 (sv 10 nd (cW rfl rfl q.tuple (se (Qd rfl nY (Uz (ae 3)) (λ_ _ _ _ _=>(cZ 0 nY.nd)) (λ_ _ _ _ _ î=>(zm.t (o5 (cu (fC rfl (aV hr)) (aY rfl (aE (ae 0)) aj) (ae 2)) (lH (cu (Qu rfl (aV hr)) (aY rfl (aE (ae 0)) aj) (ae 1)))))) (λ_ _ _ _ _ î=>(tQ (aV hr) (ae 3) (ae 0) (λ_ _=>rfl))) rfl))) λv5=>
 (SF.bR (au (n:=4) (af (eC pV hr (av 0 (av 5 ag))) (av 6 (av 9 (av 10 ag)))) rfl) λ_=>rfl)))))))
abbrev yT:DF:=dv 47 5 2 nS
def Ut(D:DI v yT)(q:NB v)(gk:jJ.C v)(uL:iI.C v)(Jo:mL.C v)(Nn:pX.C v):D.O:=
 kA D λhr nd dw dz=>
 (sv 2 nd (eC gk hr (av 0 ag)) λbD=>
 (sl 3 nd (i8 rfl (bN (aJ (n:=1) (af aj ag) rfl)) (bN (Uj rfl rfl q.sorted (bN (lC uL hr (av 2 (av 1 ag))))))) λue=>
 SF.cq 3 rfl (sl 4 nd (lC Jo hr (av 0 (av 1 (av 3 ag)))) λwY=>
 SF.cq 4 rfl (sv 5 nd (Zm (Vc rfl rfl (aV hr) rfl q.dict (bN (Qc rfl mI (og rfl rfl q.enumerate (bx (ae 4))) (λ_ _ _ _ _=>(QU rfl (eX rfl (aH (cZ 0 mI.nd) (aH (cZ 1 mI.nd) da))))) (λ_ _ _ _ _ ĥ=>(au (n:=2) (av 1 (av 0 ag)) rfl)) (P9 rfl rfl ⋯) ⋯)))) λsk=>
 (SF.bR (cW rfl rfl q.tuple (se (eI rfl sP (bA rfl (bx (ae 4))) (λ_ _ _ _ _=>(cZ 0 sP.nd)) (λ_ _ _ _ _ í=>(eC Nn hr (av 3 (av 2 (av 1 (av 4 (av 0 ag))))))) rfl))) λ_=>rfl)))))
abbrev lq:DF:=dL 49 1 [.v,.v] 2 ip
def GH(D:DI v lq)(q:NB v):D.O:=
 MJ D λhr nd fi k_=>
 (sv 2 nd (qM (cu Qv (ae 1) (cm rfl rfl q.len (ae 0))) (aY rfl (aE (ae 0)) (ae 1)) aj) λlz=>
 (sv 3 nd (tN (Wx rfl q.abs (ae 2)) (U3 rfl q.int (kY ab1 (Wx rfl q.abs (ae 2)) (Rt aj aj)))) λgj=>
 (SF.hJ (aJ (n:=3) (av 3 (af (qu (tN (bH rfl (bH rfl (qu (ae 2) aj) (tN (tN aj (ae 1)) (ae 1))) aj) aj) aj) (af aj ag))) rfl) λ_=>rfl)))
abbrev a9:DF:=dV 50 1 [.p (fR eW),.v] 1 bF
def GC(D:DI v a9):D.O:=
 XI (n:=1) (fnO (n:=1) (m:=dF) D.fn nt rfl λad gQ l hl=>match l,hl with | [j7],_=>λ_ _ _ _ _ _ hr=>show SF _ _ _ [ap (.ol (ap ad) gQ),ap (.val j7),bm] _ (dF gQ j7) _ from
 (SF.Ij 0 rfl rfl (.inl rfl) (bH rfl (aY rfl (cx 0) aj) aj) aj λb9=>
 (SF.Nc (zm.t (o5 (cu ab0 (aY rfl (cx 0) aj) aj) (lH (cu Wa (aY rfl (cx 0) aj) aj))))
 (sv 2 nt.nd (qu (aY rfl (cx 0) aj) (ae 1)) λLR=>
 (SF.Ij 0 rfl rfl (.inl rfl) (Ww (aY rfl (cx 0) aj) (ae 1)) aj λkR=>
 (SF.aa5 0 (k:=λx8=>(x8,kR)) rfl (ae 2) λ_=>rfl)))
 (SF.Ij 0 rfl rfl (.inl rfl) (qu (bH rfl (bH rfl (tN (aY rfl (cx 0) aj) aj) aj) (aY rfl (cx 0) aj)) aj) aj λfF=>
 (SF.aa5 0 (k:=λm4=>(m4,fF)) rfl (qu (Ww (qu (tN (aY rfl (cx 0) aj) (bH rfl (qu (aY rfl (cx 0) aj) aj) aj)) aj) aj) (ae 1)) λ_=>rfl))))) Oy
abbrev d3:DF:=dV 51 2 [.p (fR eW),.v] 1 cB
def GG(D:DI v d3)(q:NB v)(aw:a9.C v):D.O:=
 kA D λhr nd vf=>
 (SF.bR (aY rfl (aE (ae 1)) (eC aw hr (bJ 0 (af (cm rfl rfl q.len (ae 1)) ag)))) λ_=>rfl)
abbrev jP:DF:=dL 52 3 [.p (fR eW),.v] 1 eg
def xy(D:DI v jP)(q:NB v)(aw:a9.C v)(cD:d3.C v):D.O:=
 MJ D λhr nd j7=>
 (sv 2 nd oD λvo=>
 (SF.OV (au (n:=2) (af (eC aw hr (bJ 0 (af aj ag))) (af (eC cD hr (bJ 0 (af (dI (aJ (n:=6) (af aj (af aj (af aj (af aj (af aj (af aj ag)))))) rfl)) ag))) ag)) rfl) (QU rfl (eX rfl (aH (cZ 3 nd) (aH (cZ 4 nd) da)))) λt13=>
 (sv 5 nd (eC cD hr (bJ 0 (af (dI (aJ (n:=5) (af oD (af oD (af oD (af oD (af oD ag))))) rfl)) ag))) λKv=>
 (SF.hJ (eI rfl ke (cU rfl q.range (ae 1)) (λ_ _ _ _ _=>(cZ 0 ke.nd)) (λ_ _ _ _ _ p23=>(bH rfl (ac1 (ae 2) (qu (bH rfl (ae 1) (tN (ae 4) (ae 0))) aj) (λ_ _=>rfl)) (ae 3))) rfl) λ_=>rfl))))
abbrev fu:DF:=dV 53 2 [.p (fR eW),.v] 1 dG
def uH(D:DI v fu)(q:NB v)(aw:a9.C v):D.O:=
 kA D λhr nd vf=>
 (sl 1 nd (IQ rfl rfl q.list (aE (ae 1))) λgD=>
 (SF.oy (hd:=(λ(s3:O PV)=>([ap (.kF (fR eW)),ap (.ol bm s3),bm,bm,bm,bm]:bb))) (s0:=gD) AM rfl (cU rfl q.range (tM (tP rfl rfl q.len (cx 1)) aj)) (.refl _) (cZ 2 nd) (λs3 WT=>
 (SF.afx 1 3 rfl ⋯ rfl rfl (.inl rfl) nd rfl (C1 rfl) (eC aw hr (bJ 0 (af (tP rfl rfl q.len (cx 1)) ag))) λt8=>
 (sv 4 nd (eC aw hr (bJ 0 (af (tP rfl rfl q.len (cx 1)) ag))) λZy=>
 (sv 5 nd (au (n:=2) (av 3 (af (aY rfl (cx 1) (ae 4)) ag)) rfl) λw4=>
 (SF.Ij 1 rfl rfl (.inl rfl) (qM (cu (fC rfl (aV hr)) (eC aw hr (bJ 0 (af aj ag))) aj) (ae 5) (Zi rfl (ae 5) mE mE (pB (G8 aj)))) (ae 4) λKR=>
 (SF.fM rfl (.m 60))))))) λs3=>
 (SF.bR (aY rfl (cx 1) aj) λ_=>rfl)))
abbrev jU:DF:=dV 54 4 [.p (fR eW),.v] 1 eE
def xE(D:DI v jU)(xY:jP.C v)(aw:a9.C v)(iG:fu.C v):D.O:=
 kA D λhr nd Gh=>
 (sl 2 nd (lC xY hr (bJ 0 (af (bH rfl aj (eC aw hr (bJ 0 (av 1 ag)))) ag))) λjk=>
 SF.cq 2 rfl (SF.bR (au (n:=2) (af (eC iG hr (bJ 0 (av 2 ag))) (av 2 ag)) rfl) λ_=>rfl))
abbrev jS:DF:=dV 55 3 [.p (fR eW),.v,.v] 2 eA
def xC(D:DI v jS)(q:NB v)(aw:a9.C v)(cD:d3.C v)(iG:fu.C v):D.O:=
 kA D λhr nd qc Gh=>
 (SF.nk (i:=3) rfl nd rfl rfl kg (cU rfl q.range (bH rfl aj (eC aw hr (bJ 0 (av 2 ag))))) (λ_ _ _ _ _=>(cZ 0 kg.nd)) (λ_ _ _ _ _ p5=>(eC cD hr (bJ 1 (av 2 ag)))) rfl λgD=>
 SF.cq 3 rfl (SF.bR (eC iG hr (bJ 0 (av 3 ag))) λ_=>rfl))
abbrev gp:DF:=dL 56 12 [.v] 1 (aX 12)
theorem oe(D:DI v gp)(q:NB v):∀n,g8 v.P v.w v.K v.mg v.base ui (n+0) D.f D.fd (z0 (top 56)) (zP v.K [.v] (oX 1 (aX n)))
 | 0=>LG (SO λl Q hl=>match l,hl with | [cS],_=>λh=>h.elim)
 | n+1=>have de:=D.cN (oe D q n)
  fnL (k:=n+0) (n:=1) (m:=aX (n+1)) D.fn dB rfl (La w9) λl hl=>match l,hl with | [cS],_=>λ_ _ _ _ _ _ hr=>show SF _ _ _ [ap (.val cS),bm,bm,bm,bm] _ (aX (n+1) cS) _ from
 (SF.Nc (dm rfl (dr rfl .str rfl q.isinstance (ae 0) rfl q.str wn) (λ_=>rfl))
 (SF.hJ (aJ (n:=1) (av 0 ag) rfl) λ_=>rfl)
 (SF.par (i:=1) (j:=2) rfl dB.nd rfl rfl ⋯ rfl rfl (dI (lC de hr (af (aY rfl (aE (ae 0)) aj) ag))) (dI (lC de hr (af (aY rfl (aE (ae 0)) aj) ag))) λqg nF=>
 (sl 3 dB.nd (aJ (n:=0) ag rfl) λpe=>
 (SF.oy (hd:=(λ(s7:O PV)=>([ap (.val cS),ap (.val qg),ap (.val nF),ap (.ol bm s7),bm]:bb))) (s0:=pe) AM rfl (bA rfl (bx (ae 2))) (.refl _) (cZ 4 dB.nd) (λs7 sA=>
 (SF.ifS (out1:=λ(Ċ:PV)=>.nx ([ap (.val cS),ap (.val qg),ap (.val nF),ap (.ol bm s7),ap (.val Ċ)]:bb)) (qd (dm rfl (dr rfl .str rfl q.isinstance (ae 4) rfl q.str wn) (λ_=>rfl)))
 (sv 4 dB.nd (au (n:=2) (af (bH rfl (aY rfl (aE (ae 4)) aj) (cm rfl rfl q.len (ae 1))) (af (bH rfl (aY rfl (aE (ae 4)) aj) (cm rfl rfl q.len (ae 1))) ag)) rfl) λLf=>
 (SF.nil rfl (.refl _)))
 (SF.nil rfl (.refl _))
 λĊ=>(SF.append 3 rfl rfl rfl (.inl rfl) (ae 4) λrT=>
 (SF.fM rfl (.m 16))))) λs7=>
 (SF.hJ (i8 rfl (bN (i8 rfl (fK (ae 1)) (Pd 3))) (bN (aJ (n:=1) (af (au (n:=2) (af (tM (cm rfl rfl q.len (ae 1)) aj) (af (tM (bH rfl (cm rfl rfl q.len (ae 1)) (cm rfl rfl q.len (ae 2))) aj) ag)) rfl) ag) rfl))) λ_=>rfl)))))
abbrev jW:DF:=dV 57 13 [.p (fR eW),.v] 1 eG
def xG(D:DI v jW)(q:NB v)(de:gp.C v)(cD:d3.C v)(aw:a9.C v):D.O:=
 kA D λhr nd cf=>
 (sl 2 nd (lC de hr (av 1 ag)) λbD=>
 SF.cq 2 rfl (sl 3 nd (abQ (aJ (n:=1) (af aj ag) rfl) (cm rfl rfl q.len (ae 2))) λyj=>
 (sv 4 nd aj λJW=>
 (SF.Xg (i:=6) rfl nd rfl rfl fN (og rfl rfl q.enumerate (bx (ae 2))) (λ_ _ _ _ _=>(QU rfl (eX rfl (aH (cZ 0 fN.nd) (aH (cZ 1 fN.nd) da))))) (λ_ _ _ _ _ ć=>(qd (dm rfl (dr rfl .str rfl q.isinstance (ae 1) rfl q.str wn) (λ_=>rfl)))) (λ_ _ _ _ _ ć=>(ae 0)) (P9 rfl rfl ⋯) ⋯ λlG=>
 (SF.oy (hd:=(λ(zR:O PV×PV×O PV)=>([ap (.kF (fR eW)),ap (.val cf),ap (.val (.cl bD)),ap (.ol bm zR.1),ap (.val zR.2.1),bm,ap (.ol bm zR.2.2),bm,bm]:bb))) (s0:=(yj,JW,lG)) AM rfl (cU rfl q.range (tP rfl rfl q.len (cx 6))) (.refl _) (cZ 7 nd) (λzR Kr=>
 (sl 8 nd (aJ (n:=0) ag rfl) λyg=>
 (SF.acK 6 (hd:=(λZC (VN:O PV)=>([ap (.kF (fR eW)),ap (.val cf),ap (.val (.cl bD)),ap (.ol bm zR.1),ap (.val zR.2.1),bm,ap (.ol (ap ZC) zR.2.2),ap (.val Kr),ap (.ol bm VN)]:bb))) (s0:=yg) rfl rfl rfl (.inl rfl) AM rfl (λ_=>(.refl _)) (λ_ _=>rfl) (cZ 5 nd) (λZC VN L1=>
 (SF.ifT (zm.t (o5 (wF rfl (aV hr) (aY rfl (aE (aY rfl (aE (ae 2)) (ae 5))) aj) (cx 6)) (lH (wF rfl (aV hr) (aY rfl (aE (aY rfl (aE (ae 2)) (ae 5))) aj) (cx 6)))))
 (SF.append 8 rfl rfl rfl (.inl rfl) (ae 5) λLC=>
 (SF.fM rfl (.m 32)))
 (SF.fM rfl (.m 32)))) λZC VN=>
 (SF.cq 8 rfl (sv 5 nd (eC cD hr (bJ 0 (av 8 ag))) λRS=>
 (sv 4 nd (bH rfl (bH rfl (ae 4) aj) (eC aw hr (bJ 0 (af aj ag)))) λyR=>
 (SF.Ij 3 rfl rfl (.inl rfl) (ae 4) (ae 5) λGY=>
 (SF.remove 6 rfl rfl rfl (.inl rfl) (ae 5) λrL=>
 (SF.fM rfl (.m 416)))))))))) λzR=>
 (SF.bR (cW rfl rfl q.tuple (cx 3)) λ_=>rfl))))))
abbrev jR:DF:=dV 58 14 [.p (fR eW),.v] 1 gc
def xB(D:DI v jR)(aw:a9.C v)(QT:tX.C v)(US:yT.C v)(yf:jW.C v):D.O:=
 kA D λhr nd cf=>
 (SF.Nc (cu (fC rfl (aV hr)) (eC aw hr (bJ 0 (af aj ag))) aj)
 (SF.bR (eC QT hr (av 1 ag)) λ_=>rfl)
 (SF.bR (eC US hr (av 1 (af (eC yf hr (bJ 0 (av 1 ag))) ag))) λ_=>rfl))
abbrev iK:DF:=dV 59 3 [.p (fR eW)] 0 dM
def uG(D:DI v iK)(q:NB v)(aw:a9.C v)(cD:d3.C v):D.O:=
 kA D λhr nd=>
 (sl 1 nd (aJ (n:=0) ag rfl) λjG=>
 (SF.oy (hd:=(λ(s3:O PV)=>([ap (.kF (fR eW)),ap (.ol bm s3),bm,bm]:bb))) (s0:=jG) AM rfl (cU rfl q.range aj) (.refl _) (cZ 2 nd) (λs3 k_4=>
 (sl 3 nd (aJ (n:=7) (af aj (af aj (af aj (af aj (af aj (af (eC aw hr (bJ 0 (af aj ag))) (af (eC aw hr (bJ 0 (af aj ag))) ag))))))) rfl) λOM=>
 SF.cq 3 rfl (sl 3 nd (i8 rfl (fK (ae 3)) (bN (aJ (n:=2) (af aj (af (bH rfl (Rt aj aj) (eC aw hr (bJ 0 (af aj ag)))) ag)) rfl))) λKQ=>
 SF.cq 3 rfl (SF.append 1 rfl rfl rfl (.inl rfl) (eC cD hr (bJ 0 (av 3 ag))) λkU=>
 (SF.fM rfl (.m 12)))))) λs3=>
 (SF.bR (cW rfl rfl q.tuple (cx 1)) λ_=>rfl)))
abbrev jV:DF:=dL 60 1 [.v,.v,.v,.v] 4 eF
def xF(D:DI v jV)(q:NB v):D.O:=
 MJ D λhr nd aN fU ck Ø=>
 (SF.OV (aY rfl (aE (ae 0)) (ae 3)) (g_4 rfl (eX rfl (aH (cZ 4 nd) (aH (cZ 5 nd) (aH (cZ 6 nd) (aH (cZ 7 nd) da)))))) λt3=>
 (SF.Nc (dm rfl (dr rfl .str rfl q.isinstance (aY rfl (aE (ae 1)) (ae 2)) rfl q.str wn) (λ_=>rfl))
 (SF.hJ (Yo (zm.t (o5 (cu (fC rfl (aV hr)) (ae 6) (au (n:=0) ag rfl)) (lH (cu (fC rfl (aV hr)) (ae 4) (aY rfl (aE (ae 1)) (ae 2)))))) (aJ (n:=1) (af (au (n:=2) (af dZ (af (dI (aJ (n:=0) ag rfl)) ag)) rfl) ag) rfl) (aJ (n:=0) ag rfl)) λ_=>rfl)
 (SF.OV (aY rfl (aE (ae 1)) (ae 2)) (QU rfl (eX rfl (aH (cZ 8 nd) (aH (cZ 9 nd) da)))) λt8=>
 (sl 10 nd (aJ (n:=1) (af (au (n:=2) (af aj (af (dI (aJ (n:=2) (af (au (n:=2) (av 8 (av 3 ag)) rfl) (af (au (n:=2) (av 9 (av 3 ag)) rfl) ag)) rfl)) ag)) rfl) ag) rfl) λyi=>
 (SF.oy (hd:=(λ(VM:O PV)=>([ap (.val aN),ap (.val fU),ap (.val ck),ap (.val Ø),ap (.val t3.1),ap (.val t3.2.1),ap (.val t3.2.2.1),ap (.val t3.2.2.2),ap (.val t8.1),ap (.val t8.2),ap (.ol bm VM),bm]:bb))) (s0:=yi) AM rfl (bA rfl (bx (ae 7))) (.refl _) (cZ 11 nd) (λVM Ov=>
 (SF.append 10 rfl rfl rfl (.inl rfl) (au (n:=2) (af aj (af (dI (aJ (n:=2) (af (au (n:=2) (av 8 (av 3 ag)) rfl) (af (au (n:=2) (av 9 (av 11 ag)) rfl) ag)) rfl)) ag)) rfl) λkU=>
 (SF.append 10 rfl rfl rfl (.inl rfl) (au (n:=2) (af aj (af (dI (aJ (n:=2) (af (au (n:=2) (av 8 (av 11 ag)) rfl) (af (au (n:=2) (av 9 (av 3 ag)) rfl) ag)) rfl)) ag)) rfl) λGX=>
 (SF.fM rfl (.m 2048))))) λVM=>
 (SF.ifS (out1:=λ(Ĉ:O PV)=>.nx ([ap (.val aN),ap (.val fU),ap (.val ck),ap (.val Ø),ap (.val t3.1),ap (.val t3.2.1),ap (.val t3.2.2.1),ap (.val t3.2.2.2),ap (.val t8.1),ap (.val t8.2),ap (.ol bm Ĉ),bm]:bb)) (cu (fC rfl (aV hr)) (cm rfl rfl q.len (ae 6)) aj)
 (SF.append 10 rfl rfl rfl (.inl rfl) (au (n:=2) (af aj (af (dI (aJ (n:=2) (af (au (n:=2) (av 8 (af (aY rfl (aE (ae 6)) aj) ag)) rfl) (af (au (n:=2) (av 9 (af (aY rfl (aE (ae 6)) aj) ag)) rfl) ag)) rfl)) ag)) rfl) λGW=>
 (SF.append 10 rfl rfl rfl (.inl rfl) (au (n:=2) (af aj (af (dI (aJ (n:=2) (af (au (n:=2) (av 8 (af (aY rfl (aE (ae 6)) aj) ag)) rfl) (af (au (n:=2) (av 9 (af (aY rfl (aE (ae 6)) aj) ag)) rfl) ag)) rfl)) ag)) rfl) λGV=>
 (SF.nil rfl (.refl _))))
 (SF.nil rfl (.refl _))
 λĈ=>(SF.Xn 10 rfl rfl)))))))
abbrev jQ:DF:=dL 61 1 [.v,.v,.v] 3 gb
def xA(D:DI v jQ)(q:NB v):D.O:=
 MJ D λhr nd aN ck Ø=>
 (sv 3 nd (aY rfl (aE (aY rfl (aE (ae 0)) (ae 2))) aj) λfV=>
 (sv 4 nd (qM (cu (fC rfl (aV hr)) (cm rfl rfl q.len (ae 3)) aj) aj dZ) λK1=>
 (SF.hJ (eI rfl kf (bA rfl (bx (ae 3))) (λ_ _ _ _ _=>(cZ 0 kf.nd)) (λ_ _ _ _ _ p4=>(au (n:=2) (av 2 (af (dI (aJ (n:=1) (af (au (n:=2) (av 1 (av 0 ag)) rfl) ag) rfl)) ag)) rfl)) rfl) λ_=>rfl)))
abbrev jO:DF:=dv 62 1 3 f9
def xx(D:DI v jO):D.O:=
 kA D λhr nd bW cC nG=>
 (sv 3 nd (qM (cu kL (aY rfl (aE (ae 2)) aj) dZ) aj (aY rfl (aE (ae 0)) (aY rfl (aE (ae 2)) aj))) λm8=>
 (SF.QY (hd:=(λ(s2:PV)=>([ap (.val bW),ap (.val cC),ap (.val nG),ap (.val s2),bm]:bb))) (s0:=m8) (inj:=id) AM rfl (bA rfl (bx (aY rfl (aE (ae 2)) aj))) (.refl _) (cZ 4 nd) (λ_=>trivial) (λs2 lU=>
 (SF.Nc (cu kL (tQ (aV hr) (ae 1) (ae 4) (λ_ _=>rfl)) dZ)
 (SF.ret (k:=λx4=>(Lp.out x4)) dZ λ_=>rfl)
 (sv 3 nd (bH rfl (ae 3) (tQ (aV hr) (ae 1) (ae 4) (λ_ _=>rfl))) λqS=>
 (SF.fM rfl (.m 16))))) λs2=>
 (SF.bR (ae 3) λ_=>rfl)))
abbrev jT:DF:=dv 63 2 3 gh
def xD(D:DI v jT)(q:NB v)(ye:jV.C v)(xZ:jQ.C v)(xX:jO.C v):D.O:=
 kA D λhr nd aN fU bW=>
 (SF.aaW (i:=3) nd rfl (Cq rfl)
 (SF.oy (hd:=(λ(s3:O (O Key×PV))=>([ap (.val aN),ap (.val fU),ap (.val bW),ap (.ot s3),bm,bm,bm,bm]:bb))) (s0:=[]) AM rfl (cU rfl q.range (cm rfl rfl q.len (ae 1))) (.refl _) (cZ 4 nd) (λs3 gH=>
 (SF.oy (hd:=(λ(s6:O (O Key×PV))=>([ap (.val aN),ap (.val fU),ap (.val bW),ap (.ot s6),ap (.val gH),bm,bm,bm]:bb))) (s0:=s3) AM rfl (cU rfl q.range (cm rfl rfl q.len (ae 0))) (.refl _) (cZ 5 nd) (λs6 Vl=>
 (sl 6 nd (lC ye hr (av 0 (av 1 (av 4 (av 5 ag))))) λOL=>
 SF.cq 6 rfl (sl 6 nd (i8 rfl (fK (ae 6)) (bN (lC xZ hr (av 0 (av 4 (av 5 ag)))))) λKS=>
 SF.cq 6 rfl (SF.as (Zz 3 rfl (Vo (i:=7) rfl nd rfl rfl ki (bA rfl (bx (ae 6))) (λ_ _ _ _ _=>(cZ 0 ki.nd)) (λ_ _ _ _ _ í=>(eC xX hr (av 2 (av 1 (av 0 ag))))) rfl)) λHk=>
 SF.cq 7 rfl (SF.Xh (i:=7) rfl nd rfl rfl kh (bA rfl (bx (ae 7))) (λ_ _ _ _ _=>(cZ 0 kh.nd)) (λ_ _ _ _ _ ċ=>(cu Ls (ae 0) dZ)) (λ_ _ _ _ _ ċ=>(ae 0)) rfl λt4=>
 SF.cq 7 rfl (SF.zT 3 rfl (aV hr) rfl (.inr (.inl rfl)) (qM (aaz rfl (aV hr) (fK (ae 7))) (Zj rfl rfl rfl q.min (fK (ae 7))) dZ) (au (n:=2) (av 4 (av 5 ag)) rfl) λmr=>
 (SF.fM rfl (.m 224)))))))) λs6=>
 (SF.fM rfl (.m 16)))) λs3=>
 (SF.cq 3 rfl (SF.bR (ae 3) λ_=>rfl))))
abbrev lj:DF:=dv 64 1 3 ik
def GD(D:DI v lj)(q:NB v):D.O:=
 kA D λhr nd aN fU cC=>
 (sl 3 nd (aJ (n:=0) ag rfl) λjG=>
 (SF.oy (hd:=(λ(s3:O PV)=>([ap (.val aN),ap (.val fU),ap (.val cC),ap (.ol bm s3),bm]:bb))) (s0:=jG) AM rfl (cU rfl q.range (cm rfl rfl q.len (ae 1))) (.refl _) (cZ 4 nd) (λs3 gH=>
 (SF.append 3 rfl rfl rfl (.inl rfl) (cW rfl rfl q.tuple (se (eI rfl kK (cU rfl q.range (cm rfl rfl q.len (ae 0))) (λ_ _ _ _ _=>(cZ 0 kK.nd)) (λ_ _ _ _ _ p8=>(tQ (aV hr) (ae 1) (au (n:=2) (av 2 (av 0 ag)) rfl) (λ_ _=>rfl))) rfl))) λLD=>
 (SF.fM rfl (.m 16)))) λs3=>
 (SF.bR (cW rfl rfl q.tuple (cx 3)) λ_=>rfl)))
abbrev lu:DF:=dV 65 15 [.p (fR eW),.v,.v] 2 iq
def GI(D:DI v lu)(yd:jU.C v)(ya:jR.C v)(yb:jS.C v)(de:gp.C v)(uN:iK.C v):D.O:=
 kA D λhr nd qm qf=>
 (SF.OV (eC yd hr (bJ 0 (av 1 ag))) (QU rfl (eX rfl (aH (cZ 3 nd) (aH (cZ 4 nd) da)))) λt3=>
 (sv 5 nd (eC ya hr (bJ 0 (av 3 ag))) λnj=>
 (sv 6 nd (eC yb hr (bJ 0 (av 4 (av 2 ag)))) λjr=>
 (SF.bR (au (n:=4) (av 5 (av 6 (af (dI (lC de hr (av 6 ag))) (af (eC uN hr (bJ 0 ag)) ag)))) rfl) λ_=>rfl))))
abbrev mT:DF:=dV 66 2 [.p (fR eW),.v] 1 eB
def Jf(D:DI v mT)(q:NB v)(aw:a9.C v):D.O:=
 kA D λhr nd ar=>
 (sl 2 nd (aJ (n:=14) (af dZ (af JP (af JP (af oD (af oD (af (dI (aJ (n:=0) ag rfl)) (af (Zm Wy) (af (au (n:=0) ag rfl) (af (au (n:=1) (av 1 ag) rfl) (af (dI (aJ (n:=1) (av 1 ag) rfl)) (af aj (af aj (af (G8 aj) (af (Rt aj aj) ag)))))))))))))) rfl) λgD=>
 SF.cq 2 rfl (SF.ifS (out1:=λ(ê:PV)=>.nx ([ap (.kF (fR eW)),ap (.val ar),ap (.val ê)]:bb)) (dm rfl (dr rfl .int rfl q.isinstance (ae 1) rfl q.int boot_int) (λ_=>rfl))
 (sl 2 nd (i8 rfl (fK (ae 2)) (bN (aJ (n:=4) (af (bH rfl (ae 1) aj) (af (tM (ae 1) aj) (af (kY (fC rfl (aV hr)) (ae 1) aj) (af (Zh rfl hr rfl q.str (ae 1)) ag)))) rfl))) λKP=>
 SF.cq 2 rfl (SF.nil rfl (.refl _)))
 (SF.nil rfl (.refl _))
 λê=>(SF.ifS (out1:=λ(é:PV)=>.nx ([ap (.kF (fR eW)),ap (.val ar),ap (.val é)]:bb)) (dm rfl (dr rfl .tup rfl q.isinstance (ae 1) rfl q.tuple xL) (λ_=>rfl))
 (sl 2 nd (i8 rfl (fK (ae 2)) (bN (aJ (n:=3) (af (dI (IQ rfl rfl q.list (aE (ae 1)))) (af (G7 rfl (ae 1) (pB aj) mE) (af (G7 rfl (ae 1) mE (pB (G8 aj))) ag))) rfl))) λKO=>
 SF.cq 2 rfl (sl 2 nd (i8 rfl (fK (ae 2)) (bN (aJ (n:=2) (af (bH rfl (ae 1) (G7 rfl (ae 1) mE (pB aj))) (af (bH rfl (ae 1) (au (n:=1) (af aj ag) rfl)) ag)) rfl))) λKN=>
 SF.cq 2 rfl (SF.nil rfl (.refl _))))
 (SF.nil rfl (.refl _))
 λé=>(SF.bR (aY rfl (aE (ae 2)) (eC aw hr (bJ 0 (af (cm rfl rfl q.len (ae 2)) ag)))) λ_=>rfl))))
abbrev lx:DF:=dV 67 7 [.p (fR eW),.v] 1 (a8 5)
theorem qk(D:DI v lx)(q:NB v)(aw:a9.C v)(tu:mT.C v):∀n,g8 v.P v.w v.K v.mg v.base ui (n+2) D.f D.fd (z0 (top 67)) (Ml v.K [.p (fR eW),.v] (oX 1 (a8 n)))
 | 0=>LG (Ig λl Q hl=>match l,hl with | [ar],_=>λh=>h.elim)
 | n+1=>have kT:=D.cN (qk D q aw tu n)
  fnV (k:=n+2) (n:=1) (m:=a8 (n+1)) D.fn nu rfl (abC (n:=1)) λl hl=>match l,hl with | [ar],_=>λ_ _ _ _ _ _ hr=>show SF _ _ _ [ap (.kF (fR eW)),ap (.val ar),bm] _ (a8 (n+1) ar) _ from
 (SF.Nc (zm.t (rR (qd (dm rfl (dr rfl .tup rfl q.isinstance (ae 1) rfl q.tuple xL) (λ_=>rfl))) (rR (cu (fC rfl (aV hr)) (ae 1) (au (n:=0) ag rfl)) (rQ (cu (fC rfl (aV hr)) (eC aw hr (bJ 0 (af aj ag))) aj)))))
 (SF.bR (eC tu hr (bJ 0 (av 1 ag))) λ_=>rfl)
 (sv 2 nu.nd (eC aw hr (bJ 0 (af (cm rfl rfl q.len (ae 1)) ag))) λVm=>
 (SF.bR (bH rfl (bH rfl (G7 rfl (ae 1) mE (pB (ae 2))) (au (n:=1) (af (eC kT hr (bJ 0 (af (aY rfl (aE (ae 1)) (ae 2)) ag))) ag) rfl)) (G7 rfl (ae 1) (pB (bH rfl (ae 2) aj)) mE)) λ_=>rfl)))
abbrev lh:DF:=dv 68 5 2 (aG 5)
theorem qj(D:DI v lh)(q:NB v):∀n,g8 v.P v.w v.K v.mg v.base ui (n+0) D.f D.fd (z0 (top 68)) (Ml v.K [.v,.v] (oX 2 (aG n)))
 | 0=>LG (Ig λl Q hl=>match l,hl with | [gV,uT],_=>λh=>h.elim)
 | n+1=>have kS:=D.cN (qj D q n)
  fnV (k:=n+0) (n:=2) (m:=aG (n+1)) D.fn wL rfl (La (La w9)) λl hl=>match l,hl with | [gV,uT],_=>λ_ _ _ _ _ _ hr=>show SF _ _ _ [ap (.val gV),ap (.val uT)] _ (aG (n+1) gV uT) _ from
 (SF.Nc (dm rfl (dr rfl .tup rfl q.isinstance (ae 1) rfl q.tuple xL) (λ_=>rfl))
 (SF.Nc (zm.t (rR (qd (dm rfl (dr rfl .tup rfl q.isinstance (ae 0) rfl q.tuple xL) (λ_=>rfl))) (rQ (cu (Qu rfl (aV hr)) (cm rfl rfl q.len (ae 0)) (cm rfl rfl q.len (ae 1))))))
 (SF.bR JP λ_=>rfl)
 (SF.bR (RB rfl rfl rfl q.all (bN (Qc rfl gP (Jg rfl rfl q.zip (bx (ae 0)) (bx (ae 1))) (λ_ _ _ _ _=>(QU rfl (eX rfl (aH (cZ 0 gP.nd) (aH (cZ 1 gP.nd) da))))) (λ_ _ _ _ _ t5=>(eC kS hr (av 0 (av 1 ag)))) (P9 rfl rfl ⋯) ⋯))) λ_=>rfl))
 (SF.Nc (zm.t (rR (cu kL (ae 1) dZ) (rR (dm rfl (dr rfl .bool rfl q.isinstance (ae 0) rfl q.bool boot_bool) (λ_=>rfl)) (rQ (qd (dm rfl (dr rfl .int rfl q.isinstance (ae 0) rfl q.int boot_int) (λ_=>rfl)))))))
 (SF.bR (tR (kY kL (ae 1) dZ) (qt (kY kL (ae 0) dZ))) λ_=>rfl)
 (SF.bR (kY (fC rfl (aV hr)) (ae 0) (ae 1)) λ_=>rfl)))
abbrev iL:DF:=dv 69 6 1 (aL 6)
theorem mw(D:DI v iL)(q:NB v):∀n,g8 v.P v.w v.K v.mg v.base ui (n+0) D.f D.fd (z0 (top 69)) (Ml v.K [.v] (oX 1 (aL n)))
 | 0=>LG (Ig λl Q hl=>match l,hl with | [ar],_=>λh=>h.elim)
 | n+1=>have fo:=D.cN (mw D q n)
  fnV (k:=n+0) (n:=1) (m:=aL (n+1)) D.fn rY rfl (La w9) λl hl=>match l,hl with | [ar],_=>λ_ _ _ _ _ _ hr=>show SF _ _ _ [ap (.val ar)] _ (aL (n+1) ar) _ from
 (SF.Nc (dm rfl (ac2 rfl rfl q.isinstance (ae 0) rfl q.list) (λ_=>rfl))
 (SF.bR (dI (eI rfl i7 (bA rfl (bx (ae 0))) (λ_ _ _ _ _=>(cZ 0 i7.nd)) (λ_ _ _ _ _ p2=>(eC fo hr (av 0 ag))) rfl)) λ_=>rfl)
 (SF.Nc (dm rfl (dr rfl .tup rfl q.isinstance (ae 0) rfl q.tuple xL) (λ_=>rfl))
 (SF.bR (cW rfl rfl q.tuple (se (eI rfl i6 (bA rfl (bx (ae 0))) (λ_ _ _ _ _=>(cZ 0 i6.nd)) (λ_ _ _ _ _ p5=>(eC fo hr (av 0 ag))) rfl))) λ_=>rfl)
 (SF.bR (ae 0) λ_=>rfl)))
abbrev Wz:DF:=dv 70 16 1 sF
def abZ(D:DI v Wz)(q:NB v)(GS:lq.C v)(GU:lu.C v)(GR:lj.C v)(yc:jT.C v)(kT:lx.C v)(fo:iL.C v)(uM:iJ.C v)(kS:lh.C v):D.O:=
 kA D λhr nd fi=>
 (SF.QY (hd:=(λ(s6:Unit)=>([ap (.val fi),bm,bm,bm,bm,bm,bm,bm,bm,bm,bm,bm,bm]:bb))) (s0:=()) (inj:=id) AM rfl (cU rfl q.range (acZ rfl rfl q.max aj (acY rfl rfl q.min aj (cm rfl rfl q.len (ae 0))))) (.refl _) (cZ 1 nd) (λ_=>trivial) (λs6 Đ=>
 (sl 2 nd (lC GS hr (av 0 (av 1 ag))) λql=>SF.kF 2 rfl
 (SF.OV (eC GU hr (bJ 2 (af aj (af aj ag)))) (g_4 rfl (eX rfl (aH (cZ 3 nd) (aH (cZ 4 nd) (aH (cZ 5 nd) (aH (cZ 6 nd) da)))))) λzK=>
 (sv 7 nd (eC GR hr (av 3 (av 5 (af (eC yc hr (av 3 (av 5 (av 6 ag)))) ag)))) λkZ=>
 (sl 8 nd (aJ (n:=12) (af dZ (af JP (af aj (af oD (af (dI (aJ (n:=0) ag rfl)) (af (Zm Wy) (af (au (n:=0) ag rfl) (af (au (n:=1) (af (au (n:=0) ag rfl) ag) rfl) (af (au (n:=1) (af dZ ag) rfl) (af (dI (IQ rfl rfl q.list (aE (ae 7)))) (af (au (n:=1) (av 7 ag) rfl) (av 7 ag)))))))))))) rfl) λo6=>
 (SF.oy (hd:=(λ(VL:O PV)=>([ap (.val fi),ap (.val Đ),ap (.kF (fR eW)),ap (.val zK.1),ap (.val zK.2.1),ap (.val zK.2.2.1),ap (.val zK.2.2.2),ap (.val kZ),ap (.ol bm VL),bm,bm,bm,bm]:bb))) (s0:=o6) AM rfl (cU rfl q.range aj) (.refl _) (cZ 9 nd) (λVL Sz=>
 (SF.append 8 rfl rfl rfl (.inl rfl) (eC kT hr (bJ 2 (av 7 ag))) λu9=>
 (SF.fM rfl (.m 512)))) λVL=>
 (SF.cq 8 rfl (SF.QY (hd:=(λ(ĉ:Unit)=>([ap (.val fi),ap (.val Đ),ap (.kF (fR eW)),ap (.val zK.1),ap (.val zK.2.1),ap (.val zK.2.2.1),ap (.val zK.2.2.2),ap (.val kZ),ap (.val (.cl VL)),bm,bm,bm,bm]:bb))) (s0:=()) (inj:=Lp.out) AM rfl (bA rfl (bx (ae 8))) (.refl _) (cZ 10 nd) (λ_=>trivial) (λĉ m9=>
 (sv 11 nd (eC fo hr (av 10 ag)) λpT=>
 (sv 12 nd (eC uM hr (av 3 (av 4 (av 6 (av 11 ag))))) λtE=>
 (SF.Nc (zm.t (rR (qd (dm rfl (dr rfl .bool rfl q.isinstance (ae 12) rfl q.bool boot_bool) (λ_=>rfl))) (rQ (cu (Qu rfl (aV hr)) (ae 12) (eC kS hr (av 10 (av 7 ag)))))))
 (SF.ret (k:=λx55=>(Lp.out x55)) JP λ_=>rfl)
 (SF.ifT (cu (Yz rfl (aV hr)) (ae 11) (ae 10))
 (SF.ret (k:=λx56=>(Lp.out x56)) JP λ_=>rfl)
 (SF.fM rfl (.m 7168))))))) λĉ=>
 (SF.fM rfl (.m 510)))))))))) λs6=>
 (SF.bR JP λ_=>rfl))
end
def all_d{K:Ab}(X:K.In h)(G:h.Ns f8 mg)(JM:DX K "is_whole" (top 1))(Rv:DX K "is_row" (top 2))(JJ:DX K "parts_of" (top 4))(U5:DX K "nodes" (top 5))(Rx:DX K "halves" (top 6))(JQ:DX K "ahead_of" (top 7))(JG:DX K "under_at" (top 12))(Ha:DX K "beside_at" (top 13))(Nw:DX K "is_home" (top 14))(Nu:DX K "name_of" (top 15))(JL:DX K "lines_up" (top 16))(yE:DX K "apart_from" (top 17))(Ry:DX K "ground" (top 18))(G6:DX K "split_ins" (top 25))(JK:DX K "over_ins" (top 26))(JN:DX K "deeds_at" (top 27))(Rq:DX K "summed" (top 30))(JO:DX K "cheapest" (top 31))(JI:DX K "price_of" (top 32))(G9:DX K "deed_cost" (top 33))(yD:DX K "deed_costs" (top 34))(G5:DX K "step_cost" (top 35))(yz:DX K "step_costs" (top 36))(Rr:DX K "row_of" (top 37))(U4:DX K "table" (top 38))(yA:DX K "is_entries" (top 40))(Nv:DX K "is_rows" (top 41))(uP:DX K "shows_table" (top 42))(uO:DX K "split_dates" (top 44))(JH:DX K "standing" (top 45))(Nt:DX K "stay_of" (top 46))(U6:DX K "dated" (top 47))(Hf:DX K "_law_hand" (top 49))(Hb:DX K "_law_take" (top 50))(He:DX K "_law_pick" (top 51))(yG:DX K "_law_words" (top 52))(uR:DX K "_law_joined" (top 53))(yM:DX K "_law_great" (top 54))(yJ:DX K "_law_small" (top 55))(yK:DX K "_law_nodes" (top 56))(yO:DX K "_law_dates" (top 57))(yI:DX K "_law_stays" (top 58))(uQ:DX K "_law_prices" (top 59))(yN:DX K "_law_deeds" (top 60))(yH:DX K "_law_steps" (top 61))(yF:DX K "_law_worth" (top 62))(yL:DX K "_law_known" (top 63))(Hd:DX K "_law_rows" (top 64))(Hg:DX K "_law_case" (top 65))(JR:DX K "_law_odd" (top 66))(Hh:DX K "_law_bent" (top 67))(Hc:DX K "_law_same" (top 68))(uS:DX K "_law_copied" (top 69))(oI:AG K f8 "UNDER"=ap (ap (.int 2 Kw)))(lA:AG K f8 "BESIDE"=ap (ap (.int 3 zJ)))(ub:AG K f8 "NAME"=ap (ap (.int 0 OB)))(oK:AG K f8 "FOUND"=ap (ap (.str "found" Ky)))(oJ:AG K f8 "SPLIT"=ap (ap (.str "split" Kx)))(t6:AG K f8 "OVER"=ap (ap (.str "over" OA)))(jg:AG K f8 "DOUBLED"=ap (ap (.str "doubled" vc)))(lW:AG K f8 "DEEDS"=ap (ap (.ref rD)))(rj:RZ K rD ["split","doubled","over"])(uc:AG K f8 "LOST"=ap (ap (.int 3 OC)))(wq:AG K f8 "isinstance"=ap bm)(WK:AG K f8 "bool"=ap bm)(aal:AG K f8 "int"=ap bm)(aak:AG K f8 "len"=ap bm)(Sm:AG K f8 "tuple"=ap bm)(aah:AG K f8 "str"=ap bm)(WI:AG K f8 "list"=ap bm)(HU:AG K f8 "reversed"=ap bm)(zC:AG K f8 "enumerate"=ap bm)(Sn:AG K f8 "range"=ap bm)(Od:AG K f8 "sorted"=ap bm)(aag:AG K f8 "sum"=ap bm)(aai:AG K f8 "min"=ap bm)(aaf:AG K f8 "zip"=ap bm)(aam:AG K f8 "all"=ap bm)(WJ:AG K f8 "dict"=ap bm)(aan:AG K f8 "abs"=ap bm)(aaj:AG K f8 "max"=ap bm):adt K mg Wz:=by
 constructor
 rintro v rfl rfl D;have q:NB v:=⟨AI X G wq,AI X G WK,AI X G aal,AI X G aak,AI X G Sm,AI X G aah,AI X G WI,AI X G HU,AI X G zC,AI X G Sn,AI X G Od,AI X G aag,AI X G aai,AI X G aaf,AI X G aam,AI X G WJ,AI X G aan,AI X G aaj⟩;replace oI:=BI X G oI;replace lA:=BI X G lA;replace ub:=BI X G ub;replace oK:=BI X G oK;replace oJ:=BI X G oJ;replace t6:=BI X G t6;replace jg:=BI X G jg;replace lW:=BI X G lW;replace uc:=BI X G uc;refine JM.go (d:=mQ) X G (λD=>Jb D q) λKh=>?_;refine Rv.go (d:=oH) X G (λD=>Qn D q) λHz=>?_;refine JJ.go (d:=mN) X G (λD=>IZ D q) λKe=>?_;refine U5.go (d:=jJ) X G (λD=>Us D q Ke) λoT=>?_;refine Rx.go (d:=je) X G (λD=>Qo D q) λoU=>?_;refine JQ.go (d:=jN) X G (λD=>Je D q oT oU) λuf=>?_;refine JG.go (d:=fg) X G (λD=>IV D oI) λj3=>?_;refine Ha.go (d:=lg) X G (λD=>GB D lA) λHB=>?_;refine Nw.go (d:=pZ) X G (λD=>M5 D ub j3) λNX=>?_;refine Nu.go (d:=lV) X G (λD=>M3 D q) λv8=>?_;refine JL.go (d:=mP) X G (λD=>Ja D q uf) λKg=>?_;refine yE.go (d:=jM) X G (λD=>xw D q) λzb=>?_;refine Ry.go (d:=tX) X G (λD=>Qp D q oT Kg v8 oU zb) λR1=>?_;refine G6.go (d:=k7) X G (λD=>Gz D q j3) λHy=>?_;refine JK.go (d:=mO) X G (λD=>I0 D HB) λKf=>?_;refine JN.go (d:=mR) X G (λD=>Jc D q oK oJ t6 jg NX Hy Kf) λKi=>?_;refine Rq.go (d:=oG) X G (λD=>Qk D q) λHw=>?_;refine JO.go (d:=mS) X G (λD=>Jd D q) λKj=>?_;refine JI.go (d:=mM) X G (λD=>IX D lW rj) λKc=>?_;refine G9.go (d:=k8) X G (λD=>GA D q oU Hw Kc) λHA=>?_;refine yD.go (d:=jL) X G (λD=>xv D Ki HA) λza=>?_;refine G5.go (d:=k6) X G (λD=>Gy D q uc j3) λHx=>?_;refine yz.go (d:=jI) X G (λD=>xq D Hx j3 Hw) λy8=>?_;refine Rr.go (d:=tW) X G (λD=>Ql D q za y8 Kj) λR0=>?_;refine U4.go (d:=yS) X G (λD=>Ur D q oT R0) λVs=>?_;refine yA.go (d:=jK) X G (λD=>xt D q Kh Hz) λy9=>?_;refine Nv.go (d:=pY) X G (λD=>M4 D q y9 Hz oT) λNW=>?_;refine uP.go (d:=iJ) X G (λD=>uF D Vs NW) λuZ=>?_;refine uO.go (d:=iI) X G (λD=>uE D q) λuY=>?_;refine JH.go (d:=mL) X G (λD=>IW D q uf) λKb=>?_;refine Nt.go (d:=pX) X G (λD=>M1 D q oU v8) λNV=>?_;refine U6.go (d:=yT) X G (λD=>Ut D q oT uY Kb NV) λVt=>?_;refine Hf.go (d:=lq) X G (λD=>GH D q) λHE=>?_;refine Hb.go (d:=a9) X G (λD=>GC D) λbK=>?_;refine He.go (d:=d3) X G (λD=>GG D q bK) λiy=>?_;refine yG.go (d:=jP) X G (λD=>xy D q bK iy) λzd=>?_;refine uR.go (d:=fu) X G (λD=>uH D q bK) λmB=>?_;refine yM.go (d:=jU) X G (λD=>xE D zd bK mB) λzj=>?_;refine yJ.go (d:=jS) X G (λD=>xC D q bK iy mB) λzh=>?_;refine yK.go (d:=gp) X G (λD=>oe D q 12) λoV=>?_;refine yO.go (d:=jW) X G (λD=>xG D q oV iy bK) λzl=>?_;refine yI.go (d:=jR) X G (λD=>xB D bK R1 Vt zl) λzg=>?_;refine uQ.go (d:=iK) X G (λD=>uG D q bK iy) λu0=>?_;refine yN.go (d:=jV) X G (λD=>xF D q) λzk=>?_;refine yH.go (d:=jQ) X G (λD=>xA D q) λzf=>?_;refine yF.go (d:=jO) X G (λD=>xx D) λzc=>?_;refine yL.go (d:=jT) X G (λD=>xD D q zk zf zc) λzi=>?_;refine Hd.go (d:=lj) X G (λD=>GD D q) λHD=>?_;refine Hg.go (d:=lu) X G (λD=>GI D zj zg zh oV u0) λHF=>?_;refine JR.go (d:=mT) X G (λD=>Jf D q bK) λKk=>?_;refine Hh.go (d:=lx) X G (λD=>qk D q bK Kk 5) λHG=>?_;refine Hc.go (d:=lh) X G (λD=>qj D q 5) λHC=>?_;refine uS.go (d:=iL) X G (λD=>mw D q 6) λu4=>?_;exact abZ D q HE HF HD zi HG u4 uZ HC
def walk{l:E6}{q:sw}{d:DefRec}{K:Params->Ab}(hn:l.most=ap 63)(þ:d.params.defaults=[])
  (hY:∀(w:tz) (h:lm),YP w h->(K w.params).In h)
  (F:∀(w:tz) (mg:Str->Option bn) (fa:ce) (h:lm),(K w.params).In h->h.Ns f8 mg->mg d.name=ap (.ref fa)->
   ∃fd:Fa,(∀(s:cr) (u:bn),BindsTo s fd ⟨[u],[]⟩ [("_law_script",u)])/\∀base:lm,(K w.params).In base->base.Ns f8 mg->g8 l.prog w (K w.params) mg base ui 16 fa fd ["_law_script"] (KJ (K w.params))) :
  PySem.W.WalkO q Ò XP YP l.row.toRowW d [] (λf vs=>F0 f vs):=
 L2.Ss (n:=63) (k:=16) (x:="_law_script") (CX:=λ_=>ui) (sp:=λw=>KJ (K w.params)) hn ⋯ þ ⟨rfl,by decide,by decide,rfl⟩ hY F (λ_ _ a ns hl hO hS=>⟨a,ns,rfl,hO,hS,hl,λ_=>rfl⟩) λ_ _ _ _ _ z=>z
end My
end
open PySem PySem.W PyProof.Rows
inductive PySem.W.Fast:Prop|tw7796091223847157731|tw16996492019254829004|tw6440534514544300190|tw6275865746606412041|tw8241359424829588889|tw16038421618663508633|tw6222717965594278321|tw18393707169020414101|tw15502100420404771776|tw7919580478954086520|tw5258883697988524985|tw7603511016729276346|tw17493694387906621178|tw16540909855430487721|tw2541337941287566116|tw6746059107352612443|tw14099251895080196837|tw9882616645316420262|tw10103211332662919687|tw2262201641493419318|tw3151076627207403707|tw2974810736951190077|tw17176458214699499441|tw8605228326407510399|tw14189578951434389935|tw16647019063761409664|tw11895696834972855612|tw13852352086259339465|tw2366969528537880246|tw9431580723167315313|tw13053667869754348702|tw53460437864236526|tw10262240790899136615|tw13202194533794596183|tw15502821435434223324|tw18324583220759441854|tw186449592253562047|tw14652400430089680186|tw7085148632738337843|tw5356136901241079837|tw3506219255968877060|tw12154057313161548927|tw11426349092661536302|tw8450973399039465972|tw6299440909481369779|tw13259179046679891811|tw12998852853674109965|tw6838202705032197556|tw14097653011878219174|tw2958825519191801002|tw13364690960760549695|tw11235066111222641594|tw7488876047096910912|tw10197734250843712992|tw16773081739808941994|tw16509563823662600631|tw12331109035012426511|tw17043662159535932232|tw2660712105027440048|tw10993736602078956224|tw10619848322580278382|tw3249331263511960944|tw6804542747300016828|tw10277036619988413774|tw16558852743386742926|tw12956547351935332965|tw13787020721298141934|tw5178816251926518609|tw1895315726122651143|tw17862476267252231214|tw10952667223101812611|tw14059298290876834479|tw10895992847298173278|tw12945264346514951904|tw7361655037100705277|tw14192393178412669809|tw7289172549795848908|tw6369873041380201105|tw2491518847779581723|tw12318801461880090326|tw11877555916904290222|tw4406517065564918463|tw7674872964853070123|tw10344367917479749593|tw8566844951627799404|tw10381673045321294184|tw15916143221471004737|tw13438924315196151527|tw8219166047388453848|tw15020061140365199027|tw5517707046153519239|tw3711252963658390034|tw14235315612863600466|tw9134599411437291118|tw16080247433543766420|tw17739603884294845227|tw4479971184482789616|tw7773801091168756067|tw17006709675809472308|tw5615547672590897285
def PySem.W.Fast.tw15891638004433036470:=PySem.Challenge.pw_treewithin_k33_tables_of_anything
theorem PySem.W.Fast.te15891638004433036470:PySem.Challenge.pw_treewithin_k33_tables_of_anything=PySem.W.Fast.tw15891638004433036470:=rfl
set_option maxRecDepth 100000 in
set_option maxHeartbeats 0 in
theorem PySem.Challenge.cw_treewithin_k33_tables_of_anything_holds : PySem.Challenge.rw_treewithin_k33_tables_of_anything.Holds := by
 w_on;o_law;k_head;(case hw=>w_witness2)
 k_fill
 refine My.walk (l:=PySem.Challenge.rw_treewithin_k33_tables_of_anything) rfl rfl (fun w h Y=>PySem.W.kIn_of Y) ?F
 case F=>
  intro w mg fa h KX G hmg;refine' FL.mkAll (st:=My.top 70) (k:=16) My.law33_ok KX G hmg ?e (fun _ _ _ _ _ _=>FL.usN fun _=>rfl) (My.all_d KX G ..)
  all_goals try first | (refine' FL.dx ?a ?l ?c ?k;(case a=>k_is);(case l=>k_is);(case c=>k_is);(case k=>k_is)) | (refine' FL.tup3K ?a;(case a=>k_is)) | k_is
#print axioms PySem.Challenge.cw_treewithin_k33_tables_of_anything_holds
