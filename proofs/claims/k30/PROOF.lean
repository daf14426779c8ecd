import PyProof.Rows.All
import Wide.All
import OpenK.AllK
import Wide.FinOn
import Lean
import PyProof.EqAt
import PyProof.EqKinds
import PyProof.TupleCall
import PyProof.NeKinds
import PyProof.FactsAll.tuple_2
import PyProof.FactsAll.str_0
import PyProof.FactsAll.str_1
import PyProof.FactsAll.str_2
import PyProof.FactsAll.str_3
import PyProof.Rows.MinMaxN
import PyProof.Rows.SumAny
import PyProof.Rows.SetFrom
import PyProof.ReprRoads
import PyProof.Rows.StrKeys3
import PyProof.CallFns
import KE.KSortTup
import KE.KDictSum
import PyProof.Rows.CallKwBuiltin
import KE.KMinBuiltin
import KE.KDictList
import PySem.Challenge.RW_treewithin_k30_whole_prices_changed
local macro_rules | `(tactic| omega) => `(tactic| lia)
open PySem renaming wpAny_bind -> Aa, wpAny_pure -> Af, wpAny_newObj_type -> AJ, wpAny_callSpecial?_slot -> A4, wpAny_field -> A7, Value -> Bc, wpAny_call_entry -> Bd, wpAny_Call_Name_kw -> Bf, wpAny_holding -> Bl, Addr -> Bm, wpAny_setField_rec -> Br, Str -> Bz, mem_of_lookup -> BC, wpAny_seqItems -> BK, wpAny_mono -> BL, Expr -> Cd, wpAny_typeNameOfWhole_keyiter -> Cg, Pos -> Co, wpAny_passesOwn -> Cs, wpAny_typeOf -> Cw, wpAny_typeNameOf_keyiter -> CH, wpAny_of_eq -> CS, wpAny_letGo -> CT, wpAny_updateSeq -> CY, wpAny_rule -> C7, wpAny_newTuple -> C8, wpAny_attempt -> Dl, wpAny_pyIter_tuple -> Dr, wpAny_truthy_bool -> Dy, wpAny_pyIter_list -> Dz, wpAny_pyIter_enum -> DA, wpAny_isInstance -> DU, wpAny_eqBool_str -> DV, wpAny_updateSeq_pair -> D5, wpAny_execs_nil -> Ea, Shared -> Ei, wpAny_tryCatch -> Er, wpAny_setField -> Es, wpAny_letOwnedTupleGo_enum -> Et, wpAny_sequenceKey -> EI, wpAny_dictEntries -> EJ, wpAny_standAt -> EO, wpAny_onRaise -> ER, wpAny_comprehension_free -> ES, Heap -> Fc, wpAny_specialOf -> Fq, wpAny_dictEpoch -> Fs, Obj -> FY, wpAny_newList -> F4, wpAny_load -> F9, Within -> Gd, Tok -> Gi
open PySem.W renaming Frag -> Ab, nsIn -> AH, mg_none_of -> AX, kia_one -> Bo, kitOne -> BJ, mg_of -> BM, fnOf -> BO, emptyDict -> BS, findIn -> BW, keepIn -> B6, instObj -> Ck, codeIn -> C6, hasDictIn -> Dw, plainGet -> DP, envX -> Ef, KasT -> Eg, tabObj -> El, callWith_K -> Em, plainOver -> ED, methodObj -> EE, kitx_list -> EG, kitx_dict -> EH, cellsFrom_some -> E5, takerIn -> Fm, makesIn -> Fo, kas_rev -> Fp, lookIn -> FG, hideAll_size -> FH, hideAll_none -> FI, hideAll_get -> F0, of_hideAll -> F6, kitx_tuple -> F7, kat_cons -> Gf, kas_sort -> Gg, handedIn -> Gh
open List renaming getElem?_eq_getElem -> Ad, getD_eq_getElem?_getD -> Ae, length_map -> Ah, getElem?_map -> Ai, size_toArray -> Aj, length_append -> Al, getElem?_eq_some_iff -> Am, replicate -> An, length_cons -> Ap, map_cons -> Ar, mem_map -> Au, mem_cons -> Aw, getElem?_append_left -> Ax, getElem?_append_right -> Az, range -> AD, map_map -> AG, mem_of_getElem? -> AM, mem_cons_of_mem -> AN, mem_filter -> AO, mem_append -> AQ, mem_singleton -> AR, mem_range -> AU, map_append -> AW, append_assoc -> AZ, lookup_cons -> A1, mem_append_right -> A2, getElem?_eq_none -> A3, filterMap_cons -> Ba, length_replicate -> Bh, getElem?_replicate -> Bi, eq_nil_of_length_eq_zero -> Bj, getElem?_zip_eq_some -> Bn, getElem?_set_ne -> Bq, mem_cons_self -> Bt, mem_append_left -> Bu, drop_eq_getElem_cons -> Bv, getElem?_set_self -> Bw, nodup_cons -> Bx, not_mem_nil -> BA, replicate_succ -> BD, map_congr_left -> BE, length_filter_le -> BF, length_nil -> BN, getElem?_range -> BR, find?_cons -> BZ, append_nil -> B1, getElem?_of_mem -> B4, idxOf_lt_length_of_mem -> B5, length_reverse -> B8, length_set -> B9, length -> Ca, forIn_cons -> Cb, pairwise_iff_getElem -> Cc, flatten_cons -> Ci, map_nil -> Cz, length_range -> CA, ext_getElem? -> CB, any_cons -> CJ, mergeSort_perm -> CK, filter_cons -> CO, eraseIdx_cons_succ -> CP, take_of_length_le -> CV, mem_filterMap -> CW, nil_append -> C0, length_zip -> C1, reverse_cons -> C5, lookup -> C9, all_eq_true -> Df, length_pos_iff -> Di, sum_cons -> Dm, map -> Dn, foldl_cons -> Dp, pairwise_lt_range -> DC, nodup_append -> DE, flatMap_cons -> DG, replicate_append_replicate -> DJ, eraseIdxIfInBounds_toArray -> DK, perm_append_comm -> DL, countP_le_length -> DM, length_take -> DW, getElem_mem -> DY, drop_length -> DZ, getElem_toArray -> D6, of_mem_zip -> Eb, reverse_append -> Ed, getElem_of_mem -> Ee, take_succ -> Ew, pairwise_cons -> Ex, filter_append -> Ey, countP_append -> Ez, pairwise_map -> EL, length_erase_of_mem -> ET, pairwise_mergeSort -> EY, map_reverse -> EZ, length_drop -> E1, getElem?_cons_succ -> E2, countP_cons -> E3, cons_append -> E4, map_set -> Ff, length_pos_of_mem -> Fg, filter_eq_nil_iff -> Fh, drop_eq_nil_of_le -> Fi, range_succ -> Fu, map_const' -> Fv, length_singleton -> FA, getElem?_toArray -> FC, contains_iff_mem -> FE, nodup_nil -> FR, length_eraseIdx -> FT, map_eq_nil_iff -> F2
open PySem.Heap renaming get?_push_of_some -> Ag, get?_push_size -> Ao, lt_size -> Aq, get?_update_other -> BP, get?_update_self -> BV, size_push -> Ce, SameBut -> Cn, size_update -> EU, IsSliceOf -> FK, get?_update_ne -> F1, ExtBut -> Gk
open Nat renaming le_refl -> Ak, ne_of_lt -> AA, lt_of_lt_of_le -> AE, zero_add -> AL, lt_irrefl -> A5, le_of_ble_eq_true -> A8, zero_le -> A9, add_assoc -> Bs, le_trans -> BG, le_add_right -> B3, strongRecOn -> Ct, sub_self -> Cy, lt_or_ge -> CU, lt_succ_self -> De, le_succ -> Du, add_sub_cancel_left -> Dv, le_of_lt -> DB, sub_zero -> Ej, eq_or_lt_of_le -> Eu, lt_succ_of_lt -> EK, min_self -> Fd, le_of_eq -> Fe, not_lt_zero -> Ft, sub_sub -> FQ, succ_mul -> Ge
open Bool renaming false_eq_true -> Av, and_eq_true -> AI, false_ne_true -> Bg, not_true -> C3, not_false -> Dc, not_eq_true' -> DH, and_false -> EA, false_and -> FU, true_and -> F5
open PySem.Value renaming ref -> Ay, none -> AY, str -> Bp, type -> CG, int -> DQ, bool -> E6, float -> Gj
open PySem.PassesOwn renaming never -> AB
open PyProof.Rows renaming slot_tuple_getitem -> AV, callWith_type1 -> A6
open False renaming elim -> Bb
open PySem.Obj renaming mapSeq -> Be, data_mapFields -> Dq, isFreed_of_fields -> Fx
open PySem.NameKind renaming free -> Bk, cell -> F3
open Int renaming toNat_natCast -> BH, emod_lt_of_pos -> Cr, le_refl -> CC, emod_nonneg -> C2, zero_add -> Ek, le_antisymm -> Fw, mul_add -> Gm
open PySem.F renaming plainAttrs_list -> BI, slot_dict_keyiterator_next -> BX, slot_tuple_iterator_next -> Cp, plain_min_loop -> CM, slot_enumerate_next -> C4, args_tuple_add_2 -> Dj, slot_list_getattribute -> Dk, entry_tuple_add -> Ds, slot_tuple_add -> Dx, args_dict_keyiterator_next_1 -> DS, entry_dict_keyiterator_next -> D1, args_list_extend_2 -> D2, slot_zip_next -> D7, args_tuple_iterator_next_1 -> D8, entry_list_extend -> Ec, entry_tuple_iterator_next -> Eh, slot_list_extend -> Eo, type_list_append -> EM, slot_list_append -> EN, plain_list_iadd -> EW, args_enumerate_next_1 -> EX, entry_enumerate_next -> E7, type_list_pop -> Fy, slot_list_pop -> Fz
open PySem.AutoSeq1 renaming wpAny_loadPart' -> BQ, sub_tuple_tuple -> DT, sub_tuple_list -> D3, sub_list_tuple -> D4, sub_list_list -> D9, idx_int -> E9
open Ne renaming symm -> BU
open PySem.Calls renaming spliced_cons -> B2, spliced_nil -> Cv, Name_function_global -> Ep, call_function_entry -> EC, callWith_builtin -> E8
open PySem.Str renaming ofString -> B7
open PySem.Around renaming under_plainId -> Cf, under -> Fb, frames_deeper -> FP
open True renaming intro -> Cj
open Array renaming length_toList -> Cm, getElem?_eq_getElem -> Dh, getElem?_toList -> DN, perm_iff_toList_perm -> EB, getElem?_eq_none -> Fj, toArray_toList -> FV
open Or renaming inr -> Cq, inl -> CN
open ForInStep renaming yield -> Cu
open Option renaming map_some -> CZ
open And renaming right -> Dg
open PySem.SeqAt renaming EqAt -> DR
open PySem.SeqAt.EqAt renaming int_int -> En, of_refs -> F8, same -> Gn
open PySem.IsRange renaming new -> FJ
open PySem.Fin renaming done -> FN
open PySem.Data renaming seq -> FO
open Sum renaming inr -> FW, inl -> FX
open PyProof.Rows.IsTup renaming new -> FZ
open PySem.SeqAt.RcAt renaming tuples -> Ga
open PySem.Code renaming isFrame -> Gb
open PySem.TriplesOk renaming eq_2 -> Gp
open PySem.Flow renaming ret -> Gq
set_option compiler.extract_closed false
set_option Elab.async false
set_option linter.all false
set_option maxRecDepth 100000
set_option maxHeartbeats 8000000
open Option renaming some→am,none→ce
open PyProof.Rows renaming seqObj→wv,IntsAre→zn,envOfC→Fa,boot_str→KF,AllBare→Rs
open PySem renaming Value→db,Addr→f8,Shared→ii,wpAny→im,model→lc,mainGlobals→lw,starEach→nn,attributeBase→pc,eval→pr,Scope→re,Expr→r9,rawInt→sn,Heap→sw,swapsWith→sB,bootBuiltins→sK,tupleKind→t0,Stmt→ut,Program→u8,compareOp→v4,binaryOp→wn,Around→ww,codeAny_builtin→wE,IntMulOk→wP,plainId_quiet→wS,call_meets→wT,cLine→xz,behindInMarks→xL,Builtin→BT,sizeLine_eq→Da,PassesOwn→Db,backTo→Ev,World→EQ,setField→Fk,codeAny_mono→FB,NameKind→FM,FuncData→FS,assignEach→GM,codeAny→GT,sliceBounds→Ix,sysModules→IR,builtinsNs→KB,holding→KM,getItem→Op,swapsWithSole→Os,swappedStores→Pi,intBits_le_64→Ps,assign→Pv,codeAmong→PP,bindArgs→P3,typeLookup→Re,letOwnedTupleGo→Sc
set_option genSizeOf false
local macro_rules | `(command|def $i:declId $s:optDeclSig $v:declVal)=>`(command|noncomputable def $i:declId $s:optDeclSig $v:declVal)
local macro_rules | `(command|abbrev $i:declId $s:optDeclSig $v:declVal)=>`(command|noncomputable abbrev $i:declId $s:optDeclSig $v:declVal)
theorem rT(h:0=0:=by rfl):0=0:=h
local macro_rules | `(‹$p›)=>`(autoParam $p rT._auto_1)
local macro_rules | `(‹_›)=>`(by assumption)
theorem dT(h:0=0:=by decide):0=0:=h
local macro_rules | `(~~~$p)=>`(autoParam $p dT._auto_1)
local macro_rules | `(∅)=>`(by omega)
local macro_rules | `(⋯)=>`(by decide)
open PySem PySem.Spec PyProof.Rows
abbrev O.{u}(α:Type u):=List α
namespace L2
end L2
namespace My
end My
namespace PL
end PL
namespace FL
end FL
open L2 My PL FL
namespace L2
abbrev Key:=Sum Int Str
def yJ:Key->db->Bool
 | .inl k,v=>Value.isInt k v
 | .inr x,v=>Value.isStrOf x v
def ajC(w:EQ):Key->Int
 | .inl k=>hashInt k
 | .inr x=>hashStr w x
def cz:∀{k:Key}{v:db},yJ k v=true->(∃i t,k=FX i/\v=DQ i t)\/(∃x t,k=FW x/\v=Bp x t)
 | .inl i,v,h=>by
  obtain⟨t,e⟩:=Value.isInt_shape (k:=i) (v:=v) h;exact .inl ⟨i,t,rfl,e⟩
 | .inr x,v,h=>by
  obtain⟨t,e⟩:=Value.isStrOf_shape (x:=x) (v:=v) h;exact .inr ⟨x,t,rfl,e⟩
def QW(i:Int)(t:Tok):yJ (.inl i) (.int i t)=true:=by simp[yJ,Value.isInt]
def QU(x:Str)(t:Tok):yJ (.inr x) (.str x t)=true:=by simp[yJ,Value.isStrOf]
def acf(a b:Int):decide ((FX a:Key)=FX b)=(a==b):=by
 by_cases e:a=b
 ·subst e;simp
 ·have h:¬(FX a:Key)=FX b:=λq=>e (FX.inj q);rw[decide_eq_false h];exact(beq_eq_false_iff_ne.mpr e).symm
def acb(a b:Str):decide ((FW a:Key)=FW b)=decide (a=b):=by
 by_cases e:a=b
 ·subst e;simp
 ·have h:¬(FW a:Key)=FW b:=λq=>e (FW.inj q);rw[decide_eq_false h,decide_eq_false e]
def ace(a:Int)(b:Str):decide ((FX a:Key)=FW b)=false:=decide_eq_false (λq=>nomatch q)
def acd(a:Str)(b:Int):decide ((FW a:Key)=FX b)=false:=decide_eq_false (λq=>nomatch q)
def cW(prog:u8)(w:EQ):PySem.KeyKind prog w Key where
 is:=yJ
 hash:=ajC w
 inj:=λv a b ha hb=>by
  rcases cz ha with⟨i,t,rfl,rfl⟩ | ⟨x,t,rfl,rfl⟩
  ·rcases cz hb with⟨j,u,rfl,e⟩ | ⟨y,u,rfl,e⟩
   ·injection e with e1 _;rw[e1]
   ·exact nomatch e
  ·rcases cz hb with⟨j,u,rfl,e⟩ | ⟨y,u,rfl,e⟩
   ·exact nomatch e
   ·injection e with e1 _;rw[e1]
 byValue:=λk v h=>by
  rcases cz h with⟨i,t,rfl,rfl⟩ | ⟨x,t,rfl,rfl⟩ <;> rfl
 pyHash:=λhv h=>by
  rcases cz hv with⟨i,t,rfl,rfl⟩ | ⟨x,t,rfl,rfl⟩
  ·exact wpAny_pyHash_int h
  ·exact wpAny_pyHash_str h
 eqBool:=λhu hv h=>by
  rcases cz hu with⟨i,t,rfl,rfl⟩ | ⟨x,t,rfl,rfl⟩
  ·rcases cz hv with⟨j,u,rfl,rfl⟩ | ⟨y,u,rfl,rfl⟩
   ·rw[acf]at h;exact wpAny_eqBool_int h
   ·rw[ace]at h;exact DR.int_str i t y u _ _ _ _ h
  ·rcases cz hv with⟨j,u,rfl,rfl⟩ | ⟨y,u,rfl,rfl⟩
   ·rw[acd]at h;exact DR.str_int x t j u _ _ _ _ h
   ·rw[acb]at h;exact DV h
 «strs»:=λk x t v h=>by
  rcases cz h with⟨i,u,rfl,e⟩ | ⟨y,u,rfl,e⟩
  ·exact nomatch e
  ·injection e with e1 _;subst e1;cases v <;> rfl
def JO(prog:u8)(w:EQ)(i:Int)(t:Tok):(cW prog w).is (.inl i) (.int i t)=true:=QW i t
def JN(prog:u8)(w:EQ)(x:Str)(t:Tok):(cW prog w).is (.inr x) (.str x t)=true:=QU x t
end L2
variable{us:O Bc}{u:Bc}{κ α β:Type}{a b e:Bm}{P:PySem.Program}{w:PySem.World}{h h':Fc}
namespace L2
inductive V where
 | aJ | bl (b:Bool) | int (i:Int) | str (x:Str) | byt (b:Array UInt8) | flt (b:UInt64) | ref (a:f8) | ty (n:String)
 deriving DecidableEq
def RelV:V->db->Prop
 | .aJ,u=>u=AY
 | .bl b,u=>u=E6 b
 | .int i,u=>∃t,u=DQ i t
 | .str x,u=>∃t,u=Bp x t
 | .byt b,u=>∃t,u=Value.bytes b t
 | .flt b,u=>∃t,u=Gj b t
 | .ref a,u=>u=Ay a
 | .ty n,u=>u=CG n
abbrev Vals:O V->O db->Prop:=Paired RelV
def Vals.length{xs:O V}(r:Vals xs us):xs.length=us.length:=Paired.length r
theorem Vals.get:∀{xs:O V}{us:O db}{i:Nat}{x:V},Vals xs us->xs[i]?=am x->∃u,us[i]?=am u/\RelV x u
 | _,_,_,_,.nil,e=>by simp at e
 | _,_,0,_,.cons r _,e=>by simp at e;subst e;exact⟨_,rfl,r⟩
 | _,_,i+1,x,.cons _ t,e=>by
  obtain⟨u,h1,h2⟩:=Vals.get (i:=i) (x:=x) t (by simpa using e);exact⟨u,by simpa using h1,h2⟩
theorem Vals.set{x:V}(r:RelV x u):∀{xs:O V}{us:O db} (i:Nat),Vals xs us->Vals (xs.set i x) (us.set i u)
 | _,_,_,.nil=>.nil
 | _,_,0,.cons _ t=>.cons r t
 | _,_,i+1,.cons q t=>.cons q (Vals.set r i t)
theorem Vals.append:∀{xs ys:O V}{us ws:O db},Vals xs us->Vals ys ws->Vals (xs++ys) (us++ws)
 | _,_,_,_,.nil,s=>s
 | _,_,_,_,.cons r t,s=>.cons r (Vals.append t s)
theorem Vals.take:∀{xs:O V}{us:O db} (n:Nat),Vals xs us->Vals (xs.take n) (us.take n)
 | _,_,0,_=>.nil
 | _,_,_+1,.nil=>.nil
 | _,_,n+1,.cons r t=>.cons r (Vals.take n t)
theorem Vals.drop:∀{xs:O V}{us:O db} (n:Nat),Vals xs us->Vals (xs.drop n) (us.drop n)
 | _,_,0,r=>r
 | _,_,_+1,.nil=>.nil
 | _,_,n+1,.cons _ t=>Vals.drop n t
def sR:Option V->Option db->Prop
 | some v,am u=>RelV v u
 | none,ce=>True
 | _,_=>False
def KV:O (κ×V)->O (κ×db)->Prop:=Paired λ(p:κ×V) (q:κ×db)=>p.1=q.1/\RelV p.2 q.2
def kV:Key->V
 | .inl i=>.int i
 | .inr x=>.str x
inductive HO where
 | lst (xs:List V)
 | tup (xs:List V)
 | dK (kvs:List (Key×V)) | dT (kvs:List (List Key×V))
 | set (S:Int->Bool) (n:Nat)
 | ins (C dx:f8) (fs:List (Str×V))
 | own (x:f8)
 | xd (fs:List (Str×V))
 | met (f x:f8)
 | rng (lo hi:Int)
 | bN (o:Obj) (u:HO)
 | tZ (ps:Array db)
 | ext (φ:sw->Prop)
abbrev Hp:=f8->Option HO
def upd(H:Hp)(a:f8)(o:HO):Hp:=λb=>if b=a then am o else H b
def aD{H:Hp}{o:HO}:upd H a o a=am o:=by unfold upd;rw[if_pos rfl]
def aq{H:Hp}{o:HO}(h:b≠a):upd H a o b=H b:=by unfold upd;rw[if_neg h]
def Uc{H:Hp}{o u:HO}(h:H a=am o)(h':H b=am u)(d:o≠u):a≠b:=by
 intro e;subst e;rw[h]at h';exact d (Option.some.inj h')
def bC{H:Hp}{o:HO}(h:H a=am o)(h':H b=ce):a≠b:=by
 intro e;subst e;rw[h]at h';cases h'
section
variable(P:u8)(w:EQ)
def bh(H:Hp)(h:sw)(a:f8):HO->Prop
 | .lst xs=>xs.length<=sizeLine/\∃(au:O db) (n:Nat),Vals xs au/\h.get? a=am {cls:=.type "list",data:=.seq au.toArray n}
 | .tup xs=>xs.length<=sizeLine/\∃au:O db,Vals xs au/\IsTup h a au.toArray
 | .dK kvs=>kvs.length<=sizeLine/\(a==IR)=false/\∃vs,KV kvs vs/\h.DictOf (cW P w) a vs
 | .dT kvs=>kvs.length<=sizeLine/\(a==IR)=false/\∃xs:O (O Key×f8×db),
   Paired (λ(p:O Key×V) (q:O Key×f8×db)=>p.1=q.1/\H q.2.1=am (.tup (p.1.map kV))/\RelV p.2 q.2.2) kvs xs/\
   ∃o es ep,h.get? a=am o/\o.ExactDict/\o.data=.dict es ep/\es.toList=xs.map (entryOfKey (t0 (cW P w)))/\(xs.map (·.1)).Nodup
 | .set S n=>h.SetOf (intKind P w) a S n
 | .ins C dx fs=>H dx=am (.own a)/\fs.length<=1000/\dx≠a/\h.get? a=am (Ck C dx)/\
   ∃mA,h.Ns1 dx mA/\(∀f,sR (fs.lookup f) (mA f))/\Gd mA (fs.map (·.1))
 | .own _=>∃o,h.get? a=am o
 | .xd fs=>∃mA,h.Ns1 a mA/\∀f,sR (fs.lookup f) (mA f)
 | .rng lo hi=>∃t u v,h.get? a=am {cls:=.type "range",data:=.fields #[.int lo t,.int hi u,.int 1 v]}
 | .bN o u=>h.get? a=am o/\bh H h a u
 | .tZ ps=>h.get? a=am {cls:=.none,data:=.fields ps}
 | .met f x=>h.get? a=am (EE (.ref f) (.ref x))
 | .ext φ=>φ h/\(∃o,h.get? a=am o)/\∀h1 h2:sw,φ h1->(∀o,h1.get? a=am o->h2.get? a=am o)->φ h2
def mU(H:Hp)(h:sw):Prop:=∀a o,H a=am o->bh P w H h a o
end
section
variable{H H':Hp}{o:HO}
def bh.lt(x:bh P w H h a o):a < h.objs.size:=by
 cases o with
 | lst xs=>obtain⟨_,_,_,_,e⟩:=x;exact Aq e
 | tup xs=>obtain⟨_,_,_,p⟩:=x;exact p.lt
 | dK kvs=>obtain⟨_,_,_,_,o,_,_,e,_⟩:=x;exact Aq e
 | dT kvs=>obtain⟨_,_,_,_,o,_,_,e,_⟩:=x;exact Aq e
 | set S n=>obtain⟨o,_,_,_,e,_⟩:=x;exact Aq e
 | ins C dx fs=>obtain⟨_,_,_,e,_⟩:=x;exact Aq e
 | own y=>obtain⟨_,e⟩:=x;exact Aq e
 | xd fs=>obtain⟨_,⟨_,_,_,e,_⟩,_⟩:=x;exact Aq e
 | rng lo hi=>obtain⟨_,_,_,e⟩:=x;exact Aq e
 | bN ob u=>obtain⟨e,_⟩:=x;exact Aq e
 | tZ ps=>exact Aq (show h.get? a=am _ from x)
 | met f y=>exact Aq (show h.get? a=am _ from x)
 | ext φ=>obtain⟨_,⟨_,e⟩,_⟩:=x;exact Aq e
theorem Paired.abW{F G:α->β->Prop}:∀{l₁:List α}{l₂:List β},Paired F l₁ l₂->(∀a b,F a b->G a b)->Paired G l₁ l₂
 | _,_,.nil,_=>.nil
 | _,_,.cons r t,f=>.cons (f _ _ r) (Paired.abW t f)
def bh.xk(x:bh P w H h a o)(k:∀b u,(b=a\/H b=am (.own a))->h.get? b=am u->h'.get? b=am u)
  (ho:∀b,H b=am (.own a)->H' b=am (.own a)) (ht:∀b xs,H b=am (.tup xs)->H' b=am (.tup xs)):bh P w H' h' a o:=by
 induction o with
 | lst xs=>obtain⟨z,au,n,r,e⟩:=x;exact⟨z,au,n,r,k _ _ (.inl rfl) e⟩
 | tup xs=>obtain⟨z,au,r,ob,e,c⟩:=x;exact⟨z,au,r,ob,k _ _ (.inl rfl) e,c⟩
 | dK kvs=>obtain⟨z,y,vs,r,ob,es,ep,e,c⟩:=x;exact⟨z,y,vs,r,ob,es,ep,k _ _ (.inl rfl) e,c⟩
 | dT kvs=>
  obtain⟨z,y,xs,r,ob,es,ep,e,c⟩:=x;exact⟨z,y,xs,Paired.abW r λp q z=>⟨z.1,ht _ _ z.2.1,z.2.2⟩,ob,es,ep,k _ _ (.inl rfl) e,c⟩
 | set S n=>obtain⟨ob,es,ep,t,e,c⟩:=x;exact⟨ob,es,ep,t,k _ _ (.inl rfl) e,c⟩
 | ins C dx fs=>
  obtain⟨d,z,ne,e,mA,⟨od,es,ep,e2,c⟩,r⟩:=x;exact⟨ho _ d,z,ne,k _ _ (.inl rfl) e,mA,⟨od,es,ep,k _ _ (.inr d) e2,c⟩,r⟩
 | own y=>obtain⟨ob,e⟩:=x;exact⟨ob,k _ _ (.inl rfl) e⟩
 | xd fs=>obtain⟨mA,⟨od,es,ep,e,c⟩,r⟩:=x;exact⟨mA,⟨od,es,ep,k _ _ (.inl rfl) e,c⟩,r⟩
 | rng lo hi=>obtain⟨t,u,v,e⟩:=x;exact⟨t,u,v,k _ _ (.inl rfl) e⟩
 | bN ob u ih=>obtain⟨e,q⟩:=x;exact⟨k _ _ (.inl rfl) e,ih q⟩
 | tZ ps=>
  have e:h.get? a=am {cls:=.none,data:=.fields ps}:=x;show h'.get? a=am {cls:=.none,data:=.fields ps};exact k a _ (.inl rfl) e
 | met f y=>
  have e:h.get? a=am (EE (.ref f) (.ref y)):=x;show h'.get? a=am (EE (.ref f) (.ref y));exact k a _ (.inl rfl) e
 | ext φ=>obtain⟨p,⟨o,e⟩,st⟩:=x;exact⟨st _ _ p λo q=>k _ _ (.inl rfl) q,⟨o,k _ _ (.inl rfl) e⟩,st⟩
def mU.lt(x:mU P w H h)(e:H a=am o):a < h.objs.size:=(x a o e).lt
def mU.fresh(x:mU P w H h)(e:h.objs.size<=a):H a=ce:=by
 cases q:H a with
 | none=>rfl
 | some u=>exact absurd (AE (x.lt q) e) (A5 _)
def mU.kept(x:mU P w H h)(k:∀b u,h.get? b=am u->h'.get? b=am u):mU P w H h':=λa o e=>
 (x a o e).xk (λb u _ q=>k b u q) (λ_ q=>q) λ_ _ q=>q
def mU.laid(x:mU P w H h)(k:∀b u,h.get? b=am u->h'.get? b=am u)(hp:h.objs.size<=a)(new:bh P w (upd H a o) h' a o):mU P w (upd H a o) h':=λb u e=>by
 have hn:=x.fresh hp;by_cases hb:b=a
 ·subst hb;rw[aD]at e;cases e;exact new
 ·rw[aq hb]at e;exact(x b u e).xk (λc v _ q=>k c v q) (λc q=>by rw[aq (bC q hn)];exact q) λc xs q=>by rw[aq (bC q hn)];exact q
end
def Rd(H:Hp)(a:f8)(u:HO):Prop:=H a=am u\/∃o,H a=am (.bN o u)
def Rd.ok{H:Hp}{u:HO}(r:Rd H a u)(x:mU P w H h):bh P w H h a u:=by
 rcases r with r | ⟨o,r⟩
 ·exact x a u r
 ·obtain⟨_,q⟩:=x a _ r;exact q
def Mut:Option HO->Prop
 | some (.lst _)=>True
 | some (.dK _)=>True
 | some (.dT _)=>True
 | some (.set _ _)=>True
 | some (.ins _ _ _)=>True
 | some (.ext _)=>True
 | _=>False
section
variable{H:Hp}{x:f8}{o':HO}
def mU.write(ok:mU P w H h)(mu:Mut (H x))(he:e=x\/H e=am (.own x))(k:∀b u,b≠e->h.get? b=am u->h'.get? b=am u)(Č:∃u,h'.get? e=am u)
  (new:bh P w (upd H x o') h' x o'):mU P w (upd H x o') h':=λb u q=>by
 have X9:∀c y,H c=am (.own y)->c≠x:=λc y r z=>by subst z;rw[r]at mu;exact mu
 have ajn:∀c xs,H c=am (.tup xs)->c≠x:=λc xs r z=>by subst z;rw[r]at mu;exact mu
 by_cases hb:b=x
 ·subst hb;rw[aD]at q;cases q;exact new
 ·rw[aq hb]at q;by_cases hbe:b=e
  ·have q':H b=am (.own x):=by
    rcases he with z | z
    ·exact absurd (hbe.trans z) hb
    ·rw[hbe];exact z
   rw[q]at q';cases q';obtain⟨v,hv⟩:=Č;exact⟨v,by rw[hbe];exact hv⟩
  ·refine(ok b u q).xk (λc v hc r=>k c v ?_ r) (λc r=>by rw[aq (X9 c b r)];exact r) λc xs r=>by rw[aq (ajn c xs r)];exact r
   rcases hc with rfl | hc
   ·exact hbe
   ·rintro rfl;rcases he with z | z
    ·exact X9 c b hc z
    ·rw[hc]at z;cases z;exact hb rfl
end
structure Un(fs ex:List f8)(H H':Hp)(h h':sw):Prop where
 keep:∀b o,h.get? b=am o->H b=ce->b∉fs->b∉ex->h'.get? b=am o
 slot:∀b o,h.get? b=am o->H b=ce->b∈fs->b∉ex->∃sl,h'.get? b=am {o with slots:=sl}
 free:∀b o,h.get? b=am o->H b=ce->b∉ex->H' b=ce
 there:∀b o,h.get? b=am o->b∉ex->∃o',h'.get? b=am o'
 dM:∀b xs,H b=am (.tup xs)->H' b=am (.tup xs)
 vV:∀b o u,H b=am (.bN o u)->H' b=am (.bN o u)
 xj:∀b ps,H b=am (.tZ ps)->∃more,H' b=am (.tZ (ps++more))
section
variable{fs ex:O f8}{H H1:Hp}{h1:sw}{x:f8}{o:HO}
def Un.any(u:Un fs ex H H1 h h1){ob:Obj}(q:h.get? b=am ob)(n:H b=ce)(hx:b∉ex):∃sl,h1.get? b=am {ob with slots:=sl}:=by
 by_cases hb:b∈fs
 ·exact u.slot b ob q n hb hx
 ·exact⟨ob.slots,u.keep b ob q n hb hx⟩
def Un.kept(k:∀b u,h.get? b=am u->h'.get? b=am u):Un fs ex H H h h':=
 ⟨λb ob q _ _ _=>k b ob q,λb ob q _ _ _=>⟨ob.slots,k b ob q⟩,λ_ _ _ n _=>n,λb ob q _=>⟨ob,k b ob q⟩,λ_ _ q=>q,λ_ _ _ q=>q,λ_ ps q=>⟨#[],by rw[q];simp⟩⟩
def Un.refl:Un fs ex H H h h:=Un.kept λ_ _ q=>q
def Un.laid(k:∀b u,h.get? b=am u->h'.get? b=am u)(hp:h.objs.size<=a)(hn:H a=ce):Un fs ex H (upd H a o) h h' where
 keep:=λb u q _ _ _=>k b u q
 slot:=λb u q _ _ _=>⟨u.slots,k b u q⟩
 free:=λb u q n _=>by rw[aq (AA (AE (Aq q) hp))];exact n
 there:=λb u q _=>⟨u,k b u q⟩
 dM:=λb xs q=>by rw[aq (bC q hn)];exact q
 vV:=λb u xs q=>by rw[aq (bC q hn)];exact q
 xj:=λb ps q=>⟨#[],by rw[aq (bC q hn),q];simp⟩
def Un.write(mu:Mut (H x))(he:e=x\/H e=am (.own x))(k:∀b u,b≠e->h.get? b=am u->h'.get? b=am u)(Č:∃u,h'.get? e=am u):Un fs ex H (upd H x o) h h':=by
 have hx:∀b,H b=ce->b≠x:=λb n z=>by subst z;rw[n]at mu;exact mu
 have hb:∀b,H b=ce->b≠e:=λb n z=>by
  subst z;rcases he with r | r
  ·exact hx b n r
  ·rw[n]at r;cases r
 have hm:∀b u,H b=am u->¬Mut (am u)->b≠x:=λb u q nm z=>by subst z;rw[q]at mu;exact nm mu
 refine⟨λb u q n _ _=>k b u (hb b n) q,λb u q n _ _=>⟨u.slots,k b u (hb b n) q⟩,λb u q n _=>by rw[aq (hx b n)];exact n,λb u q _=>?_,
  λb xs q=>by rw[aq (hm b _ q λz=>z)];exact q,λb u xs q=>by rw[aq (hm b _ q λz=>z)];exact q,λb ps q=>⟨#[],by rw[aq (hm b _ q λz=>z),q];simp⟩⟩
 by_cases hbe:b=e
 ·subst hbe;exact Č
 ·exact⟨u,k b u hbe q⟩
end
def trk(h:sw)(H:Hp):O f8:=(AD h.objs.size).filter λa=>(H a).isSome
def Hh(h:sw)(H:Hp):sw:=PySem.W.hideAll h (trk h H)
def Ra(h:sw)(H:Hp):(Hh h H).objs.size=h.objs.size:=FH _ _
def U2{H:Hp}{o:Obj}(e:h.get? b=am o)(n:H b=ce):(Hh h H).get? b=am o:=
 F0 _ e λhm=>by
  have q:=(AO.mp hm).2;rw[n]at q;simp at q
def X3{H:Hp}{o:Obj}(e:(Hh h H).get? b=am o):h.get? b=am o/\H b=ce:=by
 have e':=F6 (trk h H) e;refine⟨e',?_⟩;cases q:H b with
 | none=>rfl
 | some x=>
  have hm:b∈trk h H:=AO.mpr ⟨AU.mpr (Aq e'),by simp[q]⟩;have z:(Hh h H).get? b=ce:=FI (trk h H) hm;rw[z]at e;cases e
def Zq(g h:sw)(L:f8):O (f8×Obj):=(AD h.objs.size).filterMap λa=>if a=L\/(g.get? a).isSome=true then ce else (h.get? a).map λo=>(a,o)
def rest(g h:sw)(L d:f8):O (f8×Obj):=(Zq g h L).filter λp=>decide (p.1≠d)
end L2
variable{H H':L2.Hp}{o:FY}{Z:O (Bm×FY)}{s s':Ei}{g':Array PySem.GenState}{ch:O Bm}{it:Bm}{i j:Nat}{M:PySem.Model}{A:PySem.Around}{E:Bc->Ei->Prop}{v:L2.V}{Q:Unit->Ei->Prop}
namespace L2
structure Mod(K:Ab)(mg:Str->Option db)(base:sw):Prop where
 kin:K.In base
 glob:base.Ns lw mg
 blt:∃mb,base.Ns KB mb/\∀x:Str,x≠"__name__"->mb x=sK x
 nolimit:base.NoLimit
 bm:∃bm ob,mg "__builtins__"=am (.ref bm)/\bm≠KB/\base.get? bm=am ob/\ob.cls=.type "module"/\ob.dict=am KB/\ob.data=.plain
structure Cx where
 prog:u8
 w:EQ
 K:Ab
 mg:Str->Option db
 base:sw
 A:ww
 N:List Str
 s₀:ii
 H₀:Hp
 env:Env
 outer:List Env
 stack:List Env
 ex:List f8
 fn:Str->Bool
 calm:Bool
 pn:List (f8×Obj)
 xe:db->ii->Prop
abbrev gK(x:Str):Prop:=(x==("__debug__":Str))=false
abbrev zk(x:Str):Prop:=(x==("__classdict__":Str))=false
abbrev fR(X:Cx)(e:r9)(es:O r9):Prop:=nn (e::es) X.env=(false,pr e X.env)::nn es X.env
abbrev kJ(X:Cx)(p:Pos)(es:O r9):Prop:=(Ev p (nn es X.env)).any (·.1)=false
abbrev IJ(X:Cx)(e:r9):Prop:=∀x,foldedSetIterable e X.env x=pure x
abbrev Zy(X:Cx)(p:Pos)(l:O r9):Prop:=((Ev p (nn l X.env)).all (λx=>!x.1)&&(backToKw p (keywordEach [] X.env)).all (λx=>x.1.isSome)&&decide (l.length+([]:O Keyword).length+(if ([]:O Keyword).isEmpty then 0 else 1) < 30))=true
abbrev R5(p q:Pos):Prop:=(p.endLine==q.line)=true
abbrev Wm(X:Cx)(y:Str):Prop:=X.fn y=true\/X.env.scope.names.lookup y=am .local
def M7(l:O Env):O f8:=l.filterMap (·.frame)
abbrev Cx.fs(X:Cx):O f8:=M7 X.outer
def ye(sc:re)(x:Str):Prop:=sc.names.lookup x=am .local\/sc.names.lookup x=am .cell\/sc.names.lookup x=am .free
def Loc(sc:re)(x:Str):Prop:=sc.names.lookup x=am .local\/sc.names.lookup x=am .cell
def Look(env:Env)(h:sw)(m:Str->Option db)(x:Str)(u:db):Prop:=
 (env.kindOf x=am .local/\m x=am u)\/((env.kindOf x=am .cell\/env.kindOf x=am .free)/\∃c,env.cells.lookup x=am c/\h.IsCell c (am u))
structure Cx.Ok(X:Cx):Prop where
 mod:Mod X.K X.mg X.base
 kind:X.env.scope.kind=.function
 glob:X.env.globals=lw
 blt:X.env.builtins=KB
 above:X.s₀.heap.objs.size<=X.env.locals
 inj:∀x y c,X.env.cells.lookup x=am c->X.env.cells.lookup y=am c->x=y
 has:∀x,(X.env.kindOf x=am .cell\/X.env.kindOf x=am .free)->∃c,X.env.cells.lookup x=am c
 cab:∀x c,X.fn x=true->X.env.cells.lookup x=am c->X.s₀.heap.objs.size<=c
 hd:X.calm=true->X.A.handled=ce
 frames:X.A.frames=am X.stack
 stk:X.stack=X.outer\/(X.stack=X.env::X.outer/\X.env.frame=am X.env.locals)
 exf:∀b∈X.ex,b≠X.env.locals/\∀x c,X.env.cells.lookup x=am c->c≠b
 bs:∀b o,X.base.get? b=am o->X.s₀.heap.get? b=am o/\X.H₀ b=ce
 WA:X.base.objs.size<=X.s₀.heap.objs.size
 T8:∀b o,X.base.get? b=am o->b∉X.ex
 Vo:∀b∈X.ex,b∉X.fs
 nX:X.s₀.heap.FunFrames X.base X.outer
 YU:∀b∈X.fs,X.H₀ b=ce
structure Inv(X:Cx)(Z:List (f8×Obj))(σ:List (Option V))(H:Hp)(s:ii):Prop where
 ok:X.Ok
 os:s.os=X.s₀.os
 bare:Rs s.gens
 base:Un X.fs X.ex X.H₀ H X.s₀.heap s.heap
 loc:∃m,s.heap.Ns X.env.locals m/\∀(i:Nat) (x:Str) (v:V),X.N[i]?=am x->σ[i]?=am (am v)->ye X.env.scope x->∃u,RelV v u/\Look X.env s.heap m x u
 cell:∀x c,X.env.cells.lookup x=am c->∃v,s.heap.IsCell c v
 free:H X.env.locals=ce
 kD:∀x c,X.env.cells.lookup x=am c->H c=ce
 pin:∀p∈X.pn++Z,s.heap.get? p.1=am p.2/\H p.1=ce/\p.1≠X.env.locals/\p.1∉X.fs/\∀v,p.2.data≠.cell v
 a8:mU X.prog X.w H s.heap
 len:σ.length=X.N.length
section
variable{X:Cx}{σ:O (Option V)}
def Cx.Ok.ajp(ok:X.Ok)(e:X.base.get? b=am o):b∉X.fs:=λhb=>by
 have:=(ok.nX.mem hb).1;rw[e]at this;cases this
def Inv.bs(I:Inv X Z σ H s):∀b o,X.base.get? b=am o->s.heap.get? b=am o/\H b=ce:=λb o e=>
 ⟨I.base.keep b o (I.ok.bs b o e).1 (I.ok.bs b o e).2 (I.ok.ajp e) (I.ok.T8 b o e),I.base.free b o (I.ok.bs b o e).1 (I.ok.bs b o e).2 (I.ok.T8 b o e)⟩
def Inv.bk(I:Inv X Z σ H s):∀b o,X.base.get? b=am o->s.heap.get? b=am o:=λb o e=>(I.bs b o e).1
def Inv.mod(I:Inv X Z σ H s):Mod X.K X.mg X.base:=I.ok.mod
def Inv.o8(I:Inv X Z σ H s):X.K.In s.heap:=I.ok.mod.kin.keeps I.bk
def Inv.lt(I:Inv X Z σ H s):X.env.locals < s.heap.objs.size:=let ⟨_,hn,_⟩:=I.loc;hn.lt
def Inv.sz(I:Inv X Z σ H s):X.s₀.heap.objs.size<=s.heap.objs.size:=BG I.ok.above (DB I.lt)
def Inv.ajo(I:Inv X Z σ H s)(h:s.heap.objs.size<=a):a∉X.fs:=λhb=>by
 obtain⟨_,o,ho,_⟩:=I.ok.nX.mem hb;exact absurd (AE (Aq ho) (BG I.sz h)) (A5 _)
def Inv.cne(I:Inv X Z σ H s):∀x c,X.env.cells.lookup x=am c->c≠X.env.locals:=λx c e z=>by
 obtain⟨v,o,ho,hd⟩:=I.cell x c e;obtain⟨m,⟨o',es,ep,ð,ø,_⟩,_⟩:=I.loc;rw[z,ð]at ho;cases ho;rw[ø]at hd;cases hd
def Inv.nX(I:Inv X Z σ H s):s.heap.FunFrames X.base X.outer:=by
 have all:∀(l:O Env),(∀b∈M7 l,b∈X.fs)->X.s₀.heap.FunFrames X.base l->s.heap.FunFrames X.base l:=by
  intro l
  induction l with
  | nil=>intro _ _;trivial
  | cons env r ih=>
   intro hs hl;obtain⟨hk,⟨L,o,hf,hn,ho,hd⟩,hr⟩:=hl;have hL:=hs L (by unfold M7;rw[Ba,hf];exact Bt);obtain⟨sl,e⟩:=I.base.slot L o ho (I.ok.YU L hL) hL λz=>I.ok.Vo L z hL;exact⟨hk,⟨L,_,hf,hn,e,hd⟩,ih (λb hb=>hs b (by unfold M7;rw[Ba,hf];exact AN _ hb)) hr⟩
 exact all X.outer (λ_ hb=>hb) I.ok.nX
def Inv.stack(I:Inv X Z σ H s):s.heap.FunFrames X.base X.stack:=by
 rcases I.ok.stk with e | ⟨e,hf⟩
 ·rw[e];exact I.nX
 ·rw[e];obtain⟨m,hn,_⟩:=I.loc;refine .cons (by rw[I.ok.kind];decide) hf hn ?_ I.nX;exact Heap.get?_none_of_le (BG I.ok.WA I.ok.above)
def Inv.zL(I:Inv X Z σ H s):∀b∈M7 X.stack,b∈X.env.locals::X.fs:=λb hb=>by
 rcases I.ok.stk with e | ⟨e,hf⟩
 ·rw[e]at hb;exact AN _ hb
 ·rw[e]at hb;unfold M7 at hb;rw[Ba,hf]at hb;exact hb
def Inv.Oc(I:Inv X Z σ H s):∀b∈M7 X.stack,H b=ce:=λb hb=>by
 rcases Aw.mp (I.zL b hb) with e | hb
 ·rw[e];exact I.free
 ·obtain⟨_,o,ho,_⟩:=I.ok.nX.mem hb;exact I.base.free b o ho (I.ok.YU b hb) λz=>I.ok.Vo b z hb
def Inv.step{t':Nat}{d':Drawn}(I:Inv X Z σ H s)
  (Wy:∀b∈ch,(b∈X.ex\/X.s₀.heap.objs.size<=b)/\b≠X.env.locals/\(∀x c,X.env.cells.lookup x=am c->c≠b)/\∀p∈X.pn++Z,p.1≠b)
  (keep:∀b o,b≠X.env.locals->b∉X.fs->b∉ch->s.heap.get? b=am o->H b=ce->h'.get? b=am o)
  (slot:∀b o,b≠X.env.locals->b∈X.fs->b∉ch->s.heap.get? b=am o->H b=ce->∃sl,h'.get? b=am {o with slots:=sl}) (free:∀b o,b∉ch->s.heap.get? b=am o->H b=ce->H' b=ce)
  (there:∀b o,b∉ch->s.heap.get? b=am o->∃o',h'.get? b=am o')
  (dM:∀b xs,H b=am (.tup xs)->H' b=am (.tup xs)) (vV:∀b o u,H b=am (.bN o u)->H' b=am (.bN o u)) (xj:∀b ps,H b=am (.tZ ps)->∃more,H' b=am (.tZ (ps++more)))
  (ns:∀m,s.heap.Ns X.env.locals m->h'.Ns X.env.locals m) (a8:mU X.prog X.w H' h') (hg:Rs g') :
  Inv X Z σ H' {s with heap:=h',gens:=g',drawn:=d',toks:=t'}:=by
 have neL:∀b o,X.s₀.heap.get? b=am o->b≠X.env.locals:=λb o e=>AA (AE (Aq e) I.ok.above);have Ķ:∀b o,X.s₀.heap.get? b=am o->b∉X.ex->b∉ch:=λb o e hx hb=>by
  rcases (Wy b hb).1 with z | z
  ·exact hx z
  ·exact absurd (AE (Aq e) z) (A5 _)
 have ä:∀x c,X.env.cells.lookup x=am c->∀v,s.heap.IsCell c v->h'.IsCell c v:=λx c e v ⟨o,ho,hd⟩=>by
  have ĝ:c∉ch:=λz=>(Wy c z).2.2.1 x c e rfl;by_cases hc:c∈X.fs
  ·obtain⟨sl,q⟩:=slot c o (I.cne x c e) hc ĝ ho (I.kD x c e);exact⟨_,q,hd⟩
  ·exact⟨o,keep c o (I.cne x c e) hc ĝ ho (I.kD x c e),hd⟩
 refine⟨I.ok,I.os,hg,⟨λb o e n hb hx=>?_,λb o e n hb hx=>?_,λb o e n hx=>?_,λb o e hx=>?_,λb xs e=>dM b xs (I.base.dM b xs e),λb o xs e=>vV b o xs (I.base.vV b o xs e),λb ps e=>?_⟩,?_,λx c e=>?_,?_,λx c e=>?_,λp hp=>?_,a8,I.len⟩
 ·exact keep b o (neL b o e) hb (Ķ b o e hx) (I.base.keep b o e n hb hx) (I.base.free b o e n hx)
 ·obtain⟨sl,e1⟩:=I.base.slot b o e n hb hx;obtain⟨sl',e2⟩:=slot b _ (neL b o e) hb (Ķ b o e hx) e1 (I.base.free b o e n hx);exact⟨sl',e2⟩
 ·obtain⟨o',e1⟩:=I.base.there b o e hx;exact free b o' (Ķ b o e hx) e1 (I.base.free b o e n hx)
 ·obtain⟨o',e1⟩:=I.base.there b o e hx;exact there b o' (Ķ b o e hx) e1
 ·obtain⟨m1,e1⟩:=I.base.xj b ps e;obtain⟨m2,e2⟩:=xj b _ e1;exact⟨m1++m2,by rw[e2,Array.append_assoc]⟩
 ·obtain⟨m,hn,hl⟩:=I.loc;refine⟨m,ns m hn,λi x v e1 e2 e3=>?_⟩;obtain⟨u,r,l⟩:=hl i x v e1 e2 e3;refine⟨u,r,?_⟩;rcases l with l | ⟨k,c,e,z⟩
  ·exact .inl l
  ·exact .inr ⟨k,c,e,ä x c e _ z⟩
 ·obtain⟨v,z⟩:=I.cell x c e;exact⟨v,ä x c e v z⟩
 ·obtain⟨m,⟨o,_,_,ho,_⟩,_⟩:=I.loc;exact free _ o (λz=>(Wy _ z).2.1 rfl) ho I.free
 ·obtain⟨v,o,ho,hd⟩:=I.cell x c e;exact free c o (λz=>(Wy c z).2.2.1 x c e rfl) ho (I.kD x c e)
 ·obtain⟨e,n,ne,nf,d⟩:=I.pin p hp;have ĝ:p.1∉ch:=λz=>(Wy p.1 z).2.2.2 p hp rfl;exact⟨keep p.1 p.2 ne nf ĝ e n,free p.1 p.2 ĝ e n,ne,nf,d⟩
def Inv.un{t':Nat}(I:Inv X Z σ H s)(u:Un X.fs [] H H' s.heap h')(a8:mU X.prog X.w H' h'):Inv X Z σ H' {s with heap:=h',toks:=t'}:=by
 obtain⟨m,⟨o,es,ep,ho,r⟩,_⟩:=id I.loc;obtain⟨sl,hL⟩:=u.any ho I.free (by simp);exact I.step (g':=s.gens) (d':=s.drawn) (ch:=[]) (λ_ z=>nomatch z) (λb o _ hb _ e n=>u.keep b o e n hb (by simp)) (λb o _ hb _ e n=>u.slot b o e n hb (by simp)) (λb o _ e n=>u.free b o e n (by simp)) (λb o _ e=>u.there b o e (by simp)) u.dM u.vV u.xj (λm' hm=>by
  obtain⟨o',ł,Ń,ð,r'⟩:=hm;rw[ho]at ð;cases ð;exact⟨_,ł,Ń,hL,r'⟩) a8 I.bare
def Inv.call{t':Nat}{d':Drawn}(I:Inv X Z σ H s)(u:Un (M7 X.stack) ch H H' s.heap h')(a8:mU X.prog X.w H' h')(hg:Rs g')
  (Wy:∀b∈ch,(b∈X.ex\/X.s₀.heap.objs.size<=b)/\b≠X.env.locals/\(∀x c,X.env.cells.lookup x=am c->c≠b)/\∀p∈X.pn++Z,p.1≠b) :
  Inv X Z σ H' {s with heap:=h',gens:=g',drawn:=d',toks:=t'}:=by
 obtain⟨m,⟨o,es,ep,ho,r⟩,_⟩:=id I.loc;obtain⟨sl,hL⟩:=u.any ho I.free λz=>(Wy _ z).2.1 rfl;exact I.step (ch:=ch) Wy (λb o hL hb hc e n=>u.keep b o e n (λz=>(Aw.mp (I.zL b z)).elim hL hb) hc) (λb o _ _ hc e n=>u.any e n hc) (λb o hc e n=>u.free b o e n hc) (λb o hc e=>u.there b o e hc) u.dM u.vV u.xj (λm' hm=>by
  obtain⟨o',ł,Ń,ð,r'⟩:=hm;rw[ho]at ð;cases ð;exact⟨_,ł,Ń,hL,r'⟩) a8 hg
def Inv.turned{t':Nat}(I:Inv X Z σ H s)(k:∀b o,b≠it->s.heap.get? b=am o->h'.get? b=am o)(hn:H it=ce)(hL:it≠X.env.locals)
  (h1:it∈X.ex\/X.s₀.heap.objs.size<=it) (h2:∀x c,X.env.cells.lookup x=am c->c≠it) (h3:∀p∈X.pn++Z,p.1≠it):Inv X Z σ H {s with heap:=h',toks:=t'}:=by
 have ZX:∀b u,H b=am u->b≠it:=λb u e z=>by rw[z,hn]at e;cases e
 refine I.step (g':=s.gens) (d':=s.drawn) (ch:=[it]) (λb hb=>?_) (λb o _ _ hc e _=>k b o (λz=>hc (by simp[z])) e) (λb o _ _ hc e _=>⟨o.slots,k b o (λz=>hc (by simp[z])) e⟩) (λ_ _ _ _ n=>n)
  (λb o hc e=>⟨o,k b o (λz=>hc (by simp[z])) e⟩) (λ_ _ e=>e) (λ_ _ _ e=>e) (λb ps e=>⟨#[],by rw[e];simp⟩) (λm hm=>?_) (λb u e=>?_) I.bare
 ·have e:b=it:=by simpa using hb
  subst e;exact⟨h1,hL,h2,h3⟩
 ·obtain⟨o,es,ep,ho,r⟩:=hm;exact⟨o,es,ep,k _ o (BU hL) ho,r⟩
 ·refine(I.a8 b u e).xk (λc v hc q=>k c v ?_ q) (λ_ q=>q) λ_ _ q=>q;rcases hc with z | z
  ·rw[z];exact ZX b u e
  ·exact ZX c _ z
def Inv.tok(I:Inv X Z σ H s)(t:Nat):Inv X Z σ H {s with toks:=t}:=I.un (h':=s.heap) (t':=t) Un.refl I.a8
def Inv.kept{t':Nat}(I:Inv X Z σ H s)(k:∀b u,s.heap.get? b=am u->h'.get? b=am u):Inv X Z σ H {s with heap:=h',toks:=t'}:=I.un (Un.kept k) (I.a8.kept k)
def Inv.laid{o:HO}{t':Nat}(I:Inv X Z σ H s)(k:∀b u,s.heap.get? b=am u->h'.get? b=am u)(hp:s.heap.objs.size<=a)(new:bh X.prog X.w (upd H a o) h' a o) :
  Inv X Z σ (upd H a o) {s with heap:=h',toks:=t'}:=I.un (Un.laid k hp (I.a8.fresh hp)) (I.a8.laid k hp new)
def Inv.write{x:f8}{o:HO}{t':Nat}(I:Inv X Z σ H s)(mu:Mut (H x))(he:e=x\/H e=am (.own x))(k:∀b u,b≠e->s.heap.get? b=am u->h'.get? b=am u)(Č:∃u,h'.get? e=am u)
  (new:bh X.prog X.w (upd H x o) h' x o):Inv X Z σ (upd H x o) {s with heap:=h',toks:=t'}:=I.un (Un.write mu he k Č) (I.a8.write mu he k Č new)
def Inv.Ox{Jv:O (f8×Obj)}(I:Inv X Z σ H s)(h:∀p∈Jv,s.heap.get? p.1=am p.2/\H p.1=ce/\p.1≠X.env.locals/\p.1∉X.fs/\∀v,p.2.data≠.cell v):Inv X Jv σ H s:=
 ⟨I.ok,I.os,I.bare,I.base,I.loc,I.cell,I.free,I.kD,λp hp=>(AQ.mp hp).elim (λz=>I.pin p (Bu _ z)) (h p),I.a8,I.len⟩
def JK{N:O Str}(hN:N.Nodup){x:Str}(a:N[i]?=am x)(b:N[j]?=am x):i=j:=by
 obtain⟨h1,e1⟩:=Am.mp a;obtain⟨h2,e2⟩:=Am.mp b;exact(List.getElem_inj hN).mp (e1.trans e2.symm)
def yq{x:Str}(I:Inv X Z σ H s)(hN:X.N.Nodup)(hi:X.N[i]?=am x)(hx:Loc X.env.scope x)(r:RelV v u)
  (h:∀s',Inv X Z (σ.set i (am v)) H s'->(∃a,Cn a s.heap s'.heap/\(a=X.env.locals\/X.env.cells.lookup x=am a))->Q () s') (hf:Wm X x:=by first | exact .inl rfl | exact .inr rfl | assumption):im M A (storeName X.env x u) Q E s:=by
 obtain⟨m,hn,hl⟩:=id I.loc;have akg:(X.env.scope.kind==.class||(X.env.scope.kind==.module&&X.env.locals != X.env.globals))=false:=by rw[I.ok.kind];rfl
 have aga:i < σ.length:=by rw[I.len];exact(Am.mp hi).1
 have cne:=I.cne;have Ò:∀{a:f8}{h':sw},(∃o,s.heap.get? a=am o/\H a=ce)->Cn a s.heap h'->mU X.prog X.w H h':=λ{a h'} ha hs b ob e=>by
  obtain⟨_,_,aak⟩:=ha;refine(I.a8 b ob e).xk (λc w' hc q=>(hs.2 c ?_).trans q) (λ_ q=>q) λ_ _ q=>q;rintro rfl;rcases hc with rfl | hc
  ·rw[aak]at e;cases e
  ·rw[aak]at hc;cases hc
 rcases hx with hk | hk
 ·refine wpAny_storeName_local hk hn (λh' hn' hs=>?_) akg;obtain⟨oL,_,_,á,_⟩:=id hn;refine h _ ⟨I.ok,I.os,I.bare,⟨λb o e n hb hx=>?_,λb o e n hb hx=>?_,I.base.free,λb o e hx=>?_,I.base.dM,I.base.vV,I.base.xj⟩,⟨_,hn',λj y v' e1 e2 e3=>?_⟩,λy c e=>?_,I.free,I.kD,λp hp=>?_,Ò ⟨oL,á,I.free⟩ hs,by simpa using I.len⟩ ⟨_,hs,.inl rfl⟩
  ·exact(hs.2 b (AA (AE (Aq e) I.ok.above))).trans (I.base.keep b o e n hb hx)
  ·obtain⟨sl,e1⟩:=I.base.slot b o e n hb hx;exact⟨sl,(hs.2 b (AA (AE (Aq e) I.ok.above))).trans e1⟩
  ·obtain⟨o',e1⟩:=I.base.there b o e hx;exact⟨o',(hs.2 b (AA (AE (Aq e) I.ok.above))).trans e1⟩
  ·by_cases hj:j=i
   ·subst hj;rw[hi]at e1;cases e1;rw[Bw aga]at e2;cases e2;exact⟨u,r,.inl ⟨hk,by simp⟩⟩
   ·rw[Bq (BU hj)]at e2;obtain⟨u',r',q⟩:=hl j y v' e1 e2 e3;refine⟨u',r',?_⟩;rcases q with⟨k,e⟩ | ⟨k,c,e,z⟩
    ·refine .inl ⟨k,?_⟩;have:y≠x:=λe=>hj (JK hN e1 (e▸hi));simp[this,e]
    ·exact .inr ⟨k,c,e,z.sameBut hs (cne y c e)⟩
  ·obtain⟨w',z⟩:=I.cell y c e;exact⟨w',z.sameBut hs (cne y c e)⟩
  ·obtain⟨e,n,ne,nf,d⟩:=I.pin p hp;exact⟨(hs.2 p.1 ne).trans e,n,ne,nf,d⟩
 ·have YO:X.fn x=true:=by
   rcases hf with z | z
   ·exact z
   ·rw[z]at hk;cases hk
  obtain⟨c,hc⟩:=I.ok.has x (.inl hk);obtain⟨w',z⟩:=I.cell x c hc;refine wpAny_storeName_cell I.ok.kind hk hc z (λh' IP hs=>?_);obtain⟨oc,hoc,aj1⟩:=id z;refine h {s with heap:=h'} ⟨I.ok,I.os,I.bare,⟨λb o e n hb hx=>?_,λb o e n hb hx=>?_,I.base.free,λb o e hx=>?_,I.base.dM,I.base.vV,I.base.xj⟩,⟨m,hn.sameBut hs (BU (cne x c hc)),λj y v' e1 e2 e3=>?_⟩,λy c' e=>?_,I.free,I.kD,λp hp=>?_,Ò ⟨oc,hoc,I.kD x c hc⟩ hs,by simpa using I.len⟩ ⟨c,hs,.inr hc⟩
  ·exact(hs.2 b (AA (AE (Aq e) (I.ok.cab x c YO hc)))).trans (I.base.keep b o e n hb hx)
  ·obtain⟨sl,e1⟩:=I.base.slot b o e n hb hx;exact⟨sl,(hs.2 b (AA (AE (Aq e) (I.ok.cab x c YO hc)))).trans e1⟩
  ·obtain⟨o',e1⟩:=I.base.there b o e hx;exact⟨o',(hs.2 b (AA (AE (Aq e) (I.ok.cab x c YO hc)))).trans e1⟩
  ·by_cases hj:j=i
   ·subst hj;rw[hi]at e1;cases e1;rw[Bw aga]at e2;cases e2;exact⟨u,r,.inr ⟨.inl hk,c,hc,IP⟩⟩
   ·rw[Bq (BU hj)]at e2;obtain⟨u',r',q⟩:=hl j y v' e1 e2 e3;refine⟨u',r',?_⟩;rcases q with q | ⟨k,c',e,z'⟩
    ·exact .inl q
    ·refine .inr ⟨k,c',e,z'.sameBut hs ?_⟩;rintro rfl;exact hj (JK hN e1 (I.ok.inj _ _ _ e hc▸hi))
  ·by_cases hcc:c'=c
   ·subst hcc;exact⟨_,IP⟩
   ·obtain⟨w2,z2⟩:=I.cell y c' e;exact⟨w2,z2.sameBut hs hcc⟩
  ·obtain⟨e,n,ne,nf,d⟩:=I.pin p hp;refine⟨(hs.2 p.1 ?_).trans e,n,ne,nf,d⟩;intro q;rw[q,hoc]at e;have q':oc=p.2:=Option.some.inj e;exact d w' (by rw[<- q'];exact aj1)
def pJ{x:Str}(I:Inv X Z σ H s)(hN:X.N.Nodup)(hi:X.N[i]?=am x)(hx:Loc X.env.scope x)(r:RelV v u)
  (h:∀s',Inv X Z (σ.set i (am v)) H s'->Q () s') (hf:Wm X x:=by first | exact .inl rfl | exact .inr rfl | assumption):im M A (storeName X.env x u) Q E s:=
 yq I hN hi hx r (λs' I' _=>h s' I') hf
def Inv.ag3(I:Inv X Z σ H s)(ho:s'.os=s.os)(u:Un (M7 X.stack) ch H H' s.heap s'.heap)(a8:mU X.prog X.w H' s'.heap)(hg:Rs s'.gens)
  (Wy:∀b∈ch,(b∈X.ex\/X.s₀.heap.objs.size<=b)/\b≠X.env.locals/\(∀x c,X.env.cells.lookup x=am c->c≠b)/\∀p∈X.pn++Z,p.1≠b):Inv X Z σ H' s':=by
 obtain⟨h',g',d',t',o'⟩:=s';have e:o'=s.os:=ho;subst e;exact I.call (g':=g') (t':=t') (d':=d') u a8 hg Wy
end
abbrev XK:=db->Option f8->Hp->Prop
abbrev St:=O (Option V)
abbrev VK:=V->Hp->Prop
abbrev TE:=St->Hp->VK->Prop
abbrev TT:=St->Hp->(Bool->Hp->Prop)->Prop
abbrev TA:=St->Hp->(O V->Hp->Prop)->Prop
structure Ends where
 nx:St->Hp->Prop
 rt:VK
 bk:St->Hp->Prop:=λ_ _=>False
 ct:St->Hp->Prop:=λ_ _=>False
abbrev TS:=Ends->St->Hp->Prop
def EP(X:Cx)(Z:O (f8×Obj))(σ:St)(Q:VK)(u:db)(s':ii):Prop:=∃v H',Inv X Z σ H' s'/\RelV v u/\Q v H'
def TP(X:Cx)(Z:O (f8×Obj))(σ:St)(Q:Bool->Hp->Prop)(b:Bool)(s':ii):Prop:=∃H',Inv X Z σ H' s'/\Q b H'
def AP(X:Cx)(Z:O (f8×Obj))(σ:St)(Q:O V->Hp->Prop)(us:O db)(s':ii):Prop:=∃vs H',Inv X Z σ H' s'/\Vals vs us/\Q vs H'
def SP(X:Cx)(Z:O (f8×Obj))(D:Ends)(f:Flow)(s':ii):Prop:=
 match f with
 | .next=>∃σ' H',Inv X Z σ' H' s'/\D.nx σ' H'
 | .brk=>∃σ' H',Inv X Z σ' H' s'/\D.bk σ' H'
 | .cont=>∃σ' H',Inv X Z σ' H' s'/\D.ct σ' H'
 | .ret u=>∃v σ' H',Inv X Z σ' H' s'/\RelV v u/\D.rt v H'
def PE(X:Cx)(e:r9)(t:TE):Prop:=
 ∀(Z:O (f8×Obj)) (s:ii) (σ:St) (H:Hp) (Q:VK),Inv X Z σ H s->t σ H Q->im (lc X.prog X.w) X.A (pr e X.env) (EP X Z σ Q) X.xe s
def PT(X:Cx)(e:r9)(t:TT):Prop:=
 ∀(Z:O (f8×Obj)) (s:ii) (σ:St) (H:Hp) (Q:Bool->Hp->Prop),Inv X Z σ H s->t σ H Q->im (lc X.prog X.w) X.A (isTrue e X.env (pr e X.env)) (TP X Z σ Q) X.xe s
def PW(X:Cx)(e:r9)(t:TT):Prop:=
 ∀(Ä:Sem db) (Z:O (f8×Obj)) (s:ii) (σ:St) (H:Hp) (Q:Bool->Hp->Prop),Inv X Z σ H s->t σ H Q->im (lc X.prog X.w) X.A (isTrue e X.env Ä) (TP X Z σ Q) X.xe s
def PW.pt{X:Cx}{e:r9}{t:TT}(h:PW X e t):PT X e t:=h _
def PA(X:Cx)(es:O r9)(t:TA):Prop:=
 ∀(pos:Pos) (Z:O (f8×Obj)) (s:ii) (σ:St) (H:Hp) (Q:O V->Hp->Prop),Inv X Z σ H s->t σ H Q->im (lc X.prog X.w) X.A (spliced (Ev pos (nn es X.env))) (AP X Z σ Q) X.xe s
def PS(X:Cx)(st:ut)(t:TS):Prop:=
 ∀(Z:O (f8×Obj)) (s:ii) (σ:St) (H:Hp) (D:Ends),Inv X Z σ H s->t D σ H->im (lc X.prog X.w) X.A (exec st X.env) (SP X Z D) X.xe s
def q9(X:Cx)(st:O ut)(t:TS):Prop:=
 ∀(Z:O (f8×Obj)) (s:ii) (σ:St) (H:Hp) (D:Ends),Inv X Z σ H s->t D σ H->im (lc X.prog X.w) X.A (execs st X.env) (SP X Z D) X.xe s
def bV{t:Sem α}{Q Q':α->ii->Prop}(h:im M A t Q E s)(hQ:∀a s,Q a s->Q' a s):im M A t Q' E s:=BL h hQ λ_ _ x=>x
end L2
variable{x:Bz}{a:Cd}{X:L2.Cx}{σ:L2.St}{Q:Bc->Ei->Prop}{ta tb:L2.TE}{R:L2.V->L2.V->L2.Hp->Prop}{pos:Co}
namespace L2
section
def bin{b:r9}(ha:PE X a ta)(hb:PE X b tb)(I:Inv X Z σ H s)(h:ta σ H λx H1=>tb σ H1 λy H2=>R x y H2){Q:α->ii->Prop}{f:db->db->Sem α}
  (hf:∀v u s2 x y H2,Inv X Z σ H2 s2->RelV x v->RelV y u->R x y H2->im (lc X.prog X.w) X.A (f v u) Q X.xe s2) :
  im (lc X.prog X.w) X.A (pr a X.env) (λv s₁=>im (lc X.prog X.w) X.A (pr b X.env) (λu s₂=>im (lc X.prog X.w) X.A (f v u) Q X.xe s₂) X.xe s₁) X.xe s:=by
 refine bV (ha Z s σ H _ I h) λv s1 ⟨x,H1,I1,r1,q1⟩=>?_;refine bV (hb Z s1 σ H1 _ I1 q1) λu s2 ⟨y,H2,I2,r2,q2⟩=>?_;exact hf v u s2 x y H2 I2 r1 r2 q2
def aiQ(i:Nat):TE:=λσ H Q=>∃v,σ[i]?=am (am v)/\Q v H
def tC(v:V):TE:=λ_ H Q=>Q v H
def dm(hN:X.N[i]?=am x)(hv:ye X.env.scope x)(hd: ~~~(gK x))(g9: ~~~(zk x)):PE X (.Name x pos) (aiQ i):=by
 intro Z s σ H Q I h;obtain⟨v,e,h⟩:=h;obtain⟨m,hn,hl⟩:=I.loc;obtain⟨u,r,l⟩:=hl i x v hN e hv;have fin:EP X Z σ Q u s:=⟨v,H,I,r,h⟩;rcases l with⟨hk,hm⟩ | ⟨hk,c,hc,Kf⟩
 ·exact wpAny_Name (wpAny_loadName_local I.ok.kind hk hn hm fin) hd
 ·rcases hk with hk | hk
  ·exact wpAny_Name (wpAny_loadName_cell I.ok.kind hk hc Kf fin) hd
  ·exact wpAny_Name (wpAny_loadName_free I.ok.kind hk hc Kf fin g9) hd
def abB{i j pos}:PE X (.Constant (.int i) j pos) (tC (.int i)):=λ_ _ _ H _ I h=>wpAny_Constant_int ⟨.int i,H,I.tok _,⟨_,rfl⟩,h⟩
def afb{b j pos}:PE X (.Constant (.bool b) j pos) (tC (.bl b)):=λ_ _ _ H _ I h=>Constant_bool ⟨.bl b,H,I,rfl,h⟩
def TH{j pos}:PE X (.Constant .none j pos) (tC .aJ):=λ_ _ _ H _ I h=>Constant_none ⟨.aJ,H,I,rfl,h⟩
def abz{x j pos}:PE X (.Constant (.str x) j pos) (tC (.str x)):=λ_ _ _ H _ I h=>Calls.Constant_str ⟨.str x,H,I.tok _,⟨_,rfl⟩,h⟩
def Gl(X:Cx)(x:Str):Prop:=X.env.kindOf x=am .globalImplicit
def uG(I:Inv X Z σ H s)(hg:Gl X x)(hm:X.mg x=am u)(h:Q u s)
  (hd: ~~~(gK x)):im (lc X.prog X.w) X.A (pr (.Name x pos) X.env) Q E s:=
 Ep I.ok.kind hg (Calls.loadGlobal_global (by rw[I.ok.glob];exact I.mod.glob.keeps I.bk) hm h) hd
def gB(I:Inv X Z σ H s)(hg:Gl X x)(hm:X.mg x=ce)(hv:sK x=am u)(h:Q u s)
  (hn: ~~~(x≠"__name__")) (hd: ~~~(gK x)):im (lc X.prog X.w) X.A (pr (.Name x pos) X.env) Q E s:=by
 obtain⟨mb,h1,h2⟩:=I.mod.blt;exact Ep I.ok.kind hg (Calls.loadGlobal_builtin (by rw[I.ok.glob];exact I.mod.glob.keeps I.bk) hm (by rw[I.ok.blt];exact h1.keeps I.bk) ((h2 x hn).trans hv) h) hd
def pS(hg:Gl X x)(hm:X.mg x=am u)(r:RelV v u)(hd: ~~~(gK x)):PE X (.Name x pos) (tC v):=
 λ_ _ _ H _ I h=>uG I hg hm ⟨v,H,I,r,h⟩ hd
def XN(hg:Gl X x)(hm:X.mg x=ce)(hv:sK x=am u)(r:RelV v u)(hn: ~~~(x≠"__name__"))(hd: ~~~(gK x)):PE X (.Name x pos) (tC v):=
 λ_ _ _ H _ I h=>gB I hg hm hv ⟨v,H,I,r,h⟩ hn hd
variable{b:r9}
variable{tA Ĳ:TT}{rest:O r9}
def ai1(t u:TT):TT:=λσ H Q=>t σ H λc H1=>if c=true then u σ H1 Q else Q false H1
def tOr(t u:TT):TT:=λσ H Q=>t σ H λc H1=>if c=true then Q true H1 else u σ H1 Q
def aiV(t:TT):TT:=λσ H Q=>t σ H λc H1=>Q (!c) H1
def Xt(ha:PT X a tA):PW X (.BoolOp .And [a] pos) tA:=by
 intro wh Z s σ H Q I h;refine isTrue_and (bV (ha Z s σ H Q I h) λc s1 e=>?_);cases c with
 | true=>exact isTrue_and_nil e
 | false=>exact e
def abp(ha:PT X a tA):PW X (.BoolOp .Or [a] pos) tA:=by
 intro wh Z s σ H Q I h;refine isTrue_or (bV (ha Z s σ H Q I h) λc s1 e=>?_);cases c with
 | false=>exact isTrue_or_nil e
 | true=>exact e
def abq(ha:PT X a tA)(hb:PW X (.BoolOp .And (b::rest) pos) Ĳ):PW X (.BoolOp .And (a::b::rest) pos) (ai1 tA Ĳ):=by
 intro wh Z s σ H Q I h;refine isTrue_and (bV (ha Z s σ H _ I h) λc s1 ⟨H1,I1,q1⟩=>?_);cases c with
 | true=>exact hb wh Z s1 σ H1 Q I1 q1
 | false=>exact⟨H1,I1,q1⟩
def ae6(ha:PT X a tA)(hb:PW X (.BoolOp .Or (b::rest) pos) Ĳ):PW X (.BoolOp .Or (a::b::rest) pos) (tOr tA Ĳ):=by
 intro wh Z s σ H Q I h;refine isTrue_or (bV (ha Z s σ H _ I h) λc s1 ⟨H1,I1,q1⟩=>?_);cases c with
 | true=>exact⟨H1,I1,q1⟩
 | false=>exact hb wh Z s1 σ H1 Q I1 q1
def abr(ha:PT X a tA):PT X (.UnaryOp .Not a pos) (aiV tA):=by
 intro Z s σ H Q I h;exact isTrue_not (ha Z s σ H (λc H1=>Q (!c) H1) I h)
def aeE(ta tb:TE):TE:=λσ H Q=>ta σ H λx H1=>∃c,x=.bl c/\if c=true then tb σ H1 Q else Q (.bl false) H1
def abA{op}{t:TE}(h:PE X a t):PE X (.BoolOp op [a] pos) t:=λZ s σ H Q I hw=>BoolOp_one (h Z s σ H Q I hw)
def abD(ha:PE X a ta)(hb:PE X (.BoolOp .And (b::rest) pos) tb):PE X (.BoolOp .And (a::b::rest) pos) (aeE ta tb):=by
 intro Z s σ H Q I h;refine BoolOp_and (bV (ha Z s σ H _ I h) λv s1 ⟨x,H1,I1,r1,q1⟩=>?_);obtain⟨c,rfl,q1⟩:=q1;cases r1;refine Dy ?_;cases c with
 | true=>exact hb Z s1 σ H1 Q I1 q1
 | false=>exact⟨.bl false,H1,I1,rfl,q1⟩
def tIf(t:TT)(ta tb:TE):TE:=λσ H Q=>t σ H λc H1=>if c=true then ta σ H1 Q else tb σ H1 Q
def Jx{c:r9}(hc:PT X c tA)(ha:PE X a ta)(hb:PE X b tb):PE X (.IfExp c a b pos) (tIf tA ta tb):=by
 intro Z s σ H Q I h;refine wpAny_IfExp (bV (hc Z s σ H _ I h) λd s1 ⟨H1,I1,q1⟩=>?_);cases d with
 | true=>exact ha Z s1 σ H1 Q I1 q1
 | false=>exact hb Z s1 σ H1 Q I1 q1
end
end L2
variable{xs ys:O L2.V}{e tg:Cd}{y:L2.V}{D:L2.Ends}{te:L2.TE}{es:O Cd}{k n:Nat}{Ë px py pt:Co}{body:O PySem.Stmt}
namespace L2
def eI(K:Ab)(H:Hp)(a:f8)(xs:O V):Prop:=
 Rd H a (.lst xs)\/
  ∃(o:Obj) (au:Array db) (n:Nat),K.lookup a=am o/\o.cls=.type "list"/\o.dict=ce/\o.data=.seq au n/\au.size<=sizeLine/\Vals xs au.toList
def dJ(K:Ab)(H:Hp)(a:f8)(xs:O V):Prop:=
 Rd H a (.tup xs)\/
  ∃(o:Obj) (au:Array db) (n:Nat),K.lookup a=am o/\o.cls=.type "tuple"/\o.data=.seq au n/\au.size<=sizeLine/\Vals xs au.toList
def akO:db->Option V
 | .none=>am .aJ
 | .bool b=>am (.bl b)
 | .int i _=>am (.int i)
 | .str x _=>am (.str x)
 | .bytes b _=>am (.byt b)
 | .float b _=>am (.flt b)
 | .ref a=>am (.ref a)
 | .type n=>am (.ty n)
 | _=>ce
def RelV.abs{x:V}(r:RelV x u):akO u=am x:=by
 cases x with
 | aJ=>cases r;rfl
 | bl _=>cases r;rfl
 | int _=>obtain⟨t,rfl⟩:=r;rfl
 | str _=>obtain⟨t,rfl⟩:=r;rfl
 | byt _=>obtain⟨t,rfl⟩:=r;rfl
 | flt _=>obtain⟨t,rfl⟩:=r;rfl
 | ref _=>cases r;rfl
 | ty _=>cases r;rfl
def RelV.inj{x:V}(r:RelV x u)(q:RelV y u):x=y:=Option.some.inj (r.abs.symm.trans q.abs)
theorem Vals.inj:∀{xs ys:O V}{us:O db},Vals xs us->Vals ys us->xs=ys
 | _,_,_,.nil,.nil=>rfl
 | _,_,_,.cons r t,.cons r' t'=>by rw[r.inj r',Vals.inj t t']
section
variable{a:f8}
def eI.of{K:Ab}(h:H a=am (.lst xs)):eI K H a xs:=.inl (.inl h)
def dJ.of{K:Ab}(h:H a=am (.tup xs)):dJ K H a xs:=.inl (.inl h)
theorem Inv.list(I:Inv X Z σ H s)(h:eI X.K H a xs):∃au:O db,Vals xs au/\PlainL s.heap a au.toArray/\xs.length<=sizeLine:=by
 rcases h with h | ⟨o,au,n,hk,hc,hd,hs,hz,r⟩
 ·obtain⟨z,au,n,r,e⟩:=h.ok I.a8;exact⟨au,r,⟨_,n,e,rfl,rfl,rfl⟩,z⟩
 ·refine⟨au.toList,r,⟨o,n,I.o8 a o hk,hc,hd,by simpa using hs⟩,?_⟩;have e:=r.length;simp only[Cm]at e;omega
theorem Inv.tuple(I:Inv X Z σ H s)(h:dJ X.K H a xs):∃au:O db,Vals xs au/\IsTup s.heap a au.toArray/\xs.length<=sizeLine:=by
 rcases h with h | ⟨o,au,n,hk,hc,hs,hz,r⟩
 ·obtain⟨z,au,r,p⟩:=h.ok I.a8;exact⟨au,r,p,z⟩
 ·refine⟨au.toList,r,⟨o,I.o8 a o hk,hc,n,by simpa using hs⟩,?_⟩;have e:=r.length;simp only[Cm]at e;omega
def Inv.JU(I:Inv X Z σ H s)(h:eI X.K H a xs)(h':eI X.K H a ys):xs=ys:=by
 obtain⟨au,r,⟨o,n,e,_,_,d⟩,_⟩:=I.list h;obtain⟨its',r',⟨o',n',e',_,_,d'⟩,_⟩:=I.list h';rw[e]at e';cases e';rw[d]at d';injection d' with d1 _;have:au=its':=by simpa using congrArg Array.toList d1
 subst this;exact r.inj r'
def Inv.mY(I:Inv X Z σ H s)(h:dJ X.K H a xs)(h':dJ X.K H a ys):xs=ys:=by
 obtain⟨au,r,⟨o,e,_,n,d⟩,_⟩:=I.tuple h;obtain⟨its',r',⟨o',e',_,n',d'⟩,_⟩:=I.tuple h';rw[e]at e';cases e';rw[d]at d';injection d' with d1 _;have:au=its':=by simpa using congrArg Array.toList d1
 subst this;exact r.inj r'
end
abbrev Cx.xg(X:Cx)(E:db->ii->Prop):Cx:={X with xe:=E}
abbrev Cx.Qy(X:Cx):Cx:=X.xg λ_ _=>False
def Cx.Ok.xg(ok:X.Ok)(E:db->ii->Prop):(X.xg E).Ok:=
 ⟨ok.mod,ok.kind,ok.glob,ok.blt,ok.above,ok.inj,ok.has,ok.cab,ok.hd,ok.frames,ok.stk,ok.exf,ok.bs,ok.WA,ok.T8,ok.Vo,ok.nX,ok.YU⟩
def Cx.Ok.mi(ok:(X.xg E).Ok):X.Ok:=
 ⟨ok.mod,ok.kind,ok.glob,ok.blt,ok.above,ok.inj,ok.has,ok.cab,ok.hd,ok.frames,ok.stk,ok.exf,ok.bs,ok.WA,ok.T8,ok.Vo,ok.nX,ok.YU⟩
section
def Inv.xg(I:Inv X Z σ H s)(E:db->ii->Prop):Inv (X.xg E) Z σ H s:=⟨I.ok.xg E,I.os,I.bare,I.base,I.loc,I.cell,I.free,I.kD,I.pin,I.a8,I.len⟩
def Inv.mi(I:Inv (X.xg E) Z σ H s):Inv X Z σ H s:=⟨I.ok.mi,I.os,I.bare,I.base,I.loc,I.cell,I.free,I.kD,I.pin,I.a8,I.len⟩
def SP.mi{f:Flow}(h:SP (X.xg E) Z D f s'):SP X Z D f s':=by
 cases f with
 | next=>obtain⟨σ',H',I,q⟩:=h;exact⟨σ',H',I.mi,q⟩
 | brk=>obtain⟨σ',H',I,q⟩:=h;exact⟨σ',H',I.mi,q⟩
 | cont=>obtain⟨σ',H',I,q⟩:=h;exact⟨σ',H',I.mi,q⟩
 | ret u=>obtain⟨v,σ',H',I,r,q⟩:=h;exact⟨v,σ',H',I.mi,r,q⟩
def q9.Qy{st:O ut}{t:TS}(h:q9 X.Qy st t):q9 X st t:=λZ s σ H D I hw=>
 BL (h Z s σ H D (I.xg _) hw) (λ_ _ q=>q.mi) λ_ _ z=>Bb z
end
section
variable{st:ut}{rest:O ut}{t u:TS}
def aev:TS:=λD σ H=>D.nx σ H
def aiS(t u:TS):TS:=λD σ H=>t {D with nx:=u D} σ H
def zQ:q9 X [] aev:=λ_ _ σ H _ I h=>Ea ⟨σ,H,I,h⟩
def Js(h1:PS X st t)(h2:q9 X rest u):q9 X (st::rest) (aiS t u):=by
 intro Z s σ H D I h;refine wpAny_execs_cons (bV (h1 Z s σ H {D with nx:=u D} I h) λf s1 q=>?_);cases f with
 | next=>
  obtain⟨σ',H',I',q⟩:=q;exact h2 Z s1 σ' H' D I' q
 | ret v=>exact q
 | brk=>exact q
 | cont=>exact q
def Xu(h1:PS X st t):q9 X [st] t:=by
 intro Z s σ H D I h;refine wpAny_execs_cons (bV (h1 Z s σ H D I h) λf s1 q=>?_);cases f with
 | next=>exact Ea q
 | ret v=>exact q
 | brk=>exact q
 | cont=>exact q
def aeB:TS:=λD σ H=>D.ct σ H
def Jt:PS X (.Continue pos) aeB:=λ_ _ σ H _ I h=>wpAny_Continue ⟨σ,H,I,h⟩
def Inv.quiet(I:Inv X Z σ H s):interactive X.env=false:=by simp[interactive,I.ok.kind]
def aez(te:TE):TS:=λD σ H=>te σ H λ_ H1=>D.nx σ H1
def pR(he:PE X e te)(hs:‹sB e ce pos.line X.env=pure false›):PS X (.Expr e pos) (aez te):=by
 intro Z s σ H D I h;exact wpAny_Expr_any (bV (he Z s σ H _ I h) λv s1 ⟨x,H1,I1,r1,q1⟩=>⟨σ,H1,I1,q1⟩) I.quiet hs
def aiT(te:TE):TS:=λD σ H=>te σ H D.rt
def zS(he:PE X e te):PS X (.Return (am e) pos) (aiT te):=by
 intro Z s σ H D I h;exact wpAny_Return_some (bV (he Z s σ H _ I h) λv s1 ⟨x,H1,I1,r1,q1⟩=>⟨x,σ,H1,I1,r1,q1⟩)
def aiX(c:TT)(t u:TS):TS:=λD σ H=>c σ H λb H1=>if b=true then t D σ H1 else u D σ H1
def Tj{c:r9}{a b:O ut}{tc:TT}(hc:PT X c tc)(ha:q9 X a t)(hb:q9 X b u):PS X (.If c a b pos) (aiX tc t u):=by
 intro Z s σ H D I h;refine wpAny_If (bV (hc Z s σ H _ I h) λd s1 ⟨H1,I1,q1⟩=>?_);cases d with
 | true=>exact ha Z s1 σ H1 D I1 q1
 | false=>exact hb Z s1 σ H1 D I1 q1
def aa0:TS:=λ_ _ _=>False
end
abbrev TG:=V->St->Hp->(St->Hp->Prop)->Prop
abbrev TGs:=O V->St->Hp->(St->Hp->Prop)->Prop
def PG(X:Cx)(Ê:r9)(t:TG):Prop:=
 ∀(Z:O (f8×Obj)) (s:ii) (σ:St) (H:Hp) (v:V) (u:db) (Q:St->Hp->Prop),Inv X Z σ H s->RelV v u->t v σ H Q->
  im (lc X.prog X.w) X.A (Pv Ê X.env u) (λ_ s'=>∃σ' H',Inv X Z σ' H' s'/\Q σ' H') X.xe s
def PGs(X:Cx)(ts:O r9)(t:TGs):Prop:=
 ∀(Z:O (f8×Obj)) (s:ii) (σ:St) (H:Hp) (vs:O V) (us:O db) (Q:St->Hp->Prop),Inv X Z σ H s->Vals vs us->t vs σ H Q->
  im (lc X.prog X.w) X.A (assignInOrder ((GM ts X.env).map (·.2)) us) (λ_ s'=>∃σ' H',Inv X Z σ' H' s'/\Q σ' H') X.xe s
abbrev Wk:=V->V->V->Hp->(Hp->Prop)->Prop
def RO(X:Cx)(t:Wk):Prop:=
 ∀(Z:O (f8×Obj)) (s:ii) (σ:St) (H:Hp) (o i v:V) (ov iv u:db) (Q:Hp->Prop),Inv X Z σ H s->RelV o ov->RelV i iv->RelV v u->t o i v H Q->
  im (lc X.prog X.w) X.A (setItem ov iv u) (λ_ s'=>∃H',Inv X Z σ H' s'/\Q H') X.xe s
section
def e7(i:Nat):TG:=λv σ H Q=>Q (σ.set i (am v)) H
def Xz(hN:X.N.Nodup)(hi:X.N[i]?=am x)(hx:Loc X.env.scope x)(hf:Wm X x:=by first | exact .inl rfl | exact .inr rfl | assumption):PG X (.Name x pos) (e7 i):=by
 intro Z s σ H v u Q I r h;exact wpAny_assign_Name (pJ I hN hi hx r (λs' I'=>⟨_,H,I',h⟩) hf)
def acK:TGs:=λvs σ H Q=>vs=[]/\Q σ H
def vU(t:TG)(u:TGs):TGs:=λvs σ H Q=>∃v r,vs=v::r/\t v σ H λσ' H'=>u r σ' H' Q
def bI:PGs X [] acK:=by
 intro Z s σ H vs us Q I r h;obtain⟨e,h⟩:=h;subst e;cases r;exact assignInOrder_nil ⟨σ,H,I,h⟩
def aA{t:TG}{u:TGs}(h1:PG X e t)(h2:PGs X es u)
  (hs:‹(GM (e::es) X.env).map (·.2)=Pv e X.env::(GM es X.env).map (·.2)›):PGs X (e::es) (vU t u):=by
 intro Z s σ H vs us Q I r h;obtain⟨v,vr,e1,h⟩:=h;subst e1;cases r with
 | cons r rr=>
  rw[hs];refine assignInOrder_cons (bV (h1 Z s σ H _ _ _ I r h) λ_ s1 ⟨σ1,H1,I1,q1⟩=>?_);exact h2 Z s1 σ1 H1 _ _ Q I1 rr q1
def acJ(K:Ab)(n:Nat)(t:TGs):TG:=λv σ H Q=>∃a xs,v=.ref a/\dJ K H a xs/\xs.length=n/\t xs σ H Q
def cM{t:TGs}(hc:X.calm=true)(h:PGs X es t)
  (hn:‹(GM es X.env).length=n›) (nA:‹(GM es X.env).findIdx? (·.1)=ce›):PG X (.Tuple es k pos) (acJ X.K n t):=by
 intro Z s σ H v u Q I r hw;obtain⟨a,xs,e1,hq,hl,hw⟩:=hw;subst e1;cases r;obtain⟨au,rv,ht,hz⟩:=I.tuple hq;refine assign_Tuple_tuple (I.ok.hd hc) ht (by simp[hn,<- hl,rv.length]) nA λh' hx=>?_;have I1:Inv X Z σ H {s with heap:=h'}:=I.kept (t':=s.toks) λb o e=>hx b o (AA (Aq e)) e;exact h Z _ σ H xs _ Q I1 (by simpa using rv) hw
def akr(to ti:TE)(t:Wk):TG:=λv σ H Q=>to σ H λo H1=>ti σ H1 λi H2=>t o i v H2 λH3=>Q σ H3
def aby{o i:r9}{to ti:TE}{t:Wk}(ho:PE X o to)(hi:PE X i ti)(hs:RO X t)
  (ha:∀v,Pv (.Subscript o i pos) X.env v=(do
   let ov <- KM [v] (pr o X.env)
   let iv <- KM [v,ov] (pr i X.env)
   standAt pos
   KM [v,ov,iv] (setItem ov iv v)
   release [v,ov,iv] []):=by intro _;rfl):PG X (.Subscript o i pos) (akr to ti t):=by
 intro Z s σ H v u Q I r h;refine Aa (Bl (bV (ho Z s σ H _ I h) λov s1 ⟨x,H1,I1,r1,q1⟩=>?_));refine Aa (Bl (bV (hi Z s1 σ H1 _ I1 q1) λiv s2 ⟨y,H2,I2,r2,q2⟩=>?_));refine Aa (EO (Aa (Bl (bV (hs Z s2 σ H2 x y v ov iv u _ I2 r1 r2 r q2) λ_ s3 ⟨H3,I3,q3⟩=>?_))));exact wpAny_release ⟨σ,H3,I3,q3⟩
def aa1(te:TE)(g:TG):TS:=λD σ H=>te σ H λx H1=>g x σ H1 D.nx
def Tq{g:TG}(he:PE X e te)(hg:PG X tg g)(hs:‹Os [tg] e pos.line X.env=pure false›)(hw:‹Pi [tg] e X.env=pure ce›)
  (h1:‹(GM [tg] X.env).map (·.2)=[Pv tg X.env]›):PS X (.Assign [tg] e pos) (aa1 te g):=by
 intro Z s σ H D I h;refine wpAny_Assign_stores (bV (he Z s σ H _ I h) λv s1 ⟨x,H1,I1,r1,q1⟩=>?_) hs hw;rw[h1];exact bV (hg Z s1 σ H1 x v _ I1 r1 q1) λ_ s2 q=>q
def zR(hN:X.N.Nodup)(hi:X.N[i]?=am x)(hx:Loc X.env.scope x)(he:PE X e te)(hs:‹sB e (am (.Name x Ë)) pos.line X.env=pure false›)(hf:Wm X x:=by first | exact .inl rfl | exact .inr rfl | assumption) :
  PS X (.Assign [.Name x Ë] e pos) (aa1 te (e7 i)):=by
 intro Z s σ H D I h;refine wpAny_Assign_Name (bV (he Z s σ H _ I h) λv s1 ⟨y,H1,I1,r1,q1⟩=>?_) hs;exact pJ I1 hN hi hx r1 (λs2 I2=>⟨_,H1,I2,q1⟩) hf
def aiU(i j:Nat)(ta:TA):TS:=λD σ H=>ta σ H λvs H1=>∃v w,vs=[v,w]/\D.nx ((σ.set i (am v)).set j (am w)) H1
def abu{y:Str}{b:r9}{ta:TA}{kt k2 ì}(hc:X.calm=true)(hN:X.N.Nodup)(hi:X.N[i]?=am x)(hj:X.N[j]?=am y)(ħ:i≠j)
  (hx:X.env.scope.names.lookup x=am .local) (hy:X.env.scope.names.lookup y=am .local) (ha:PA X [a,b] ta)
  (hw:Pi [.Tuple [.Name x px,.Name y py] kt pt] (.Tuple [a,b] k2 ì) X.env=pure (am [x,y]))
  (hs:‹Os [.Tuple [.Name x px,.Name y py] kt pt] (.Tuple [a,b] k2 ì) pos.line X.env=pure false›) :
  PS X (.Assign [.Tuple [.Name x px,.Name y py] kt pt] (.Tuple [a,b] k2 ì) pos) (aiU i j ta):=by
 intro Z s σ H D I h;refine Aa (EO ?_);refine Aa (Af ?_);rw[if_neg ⋯];refine Aa (Tuple_ (bV (ha _ Z s σ H _ I h) λus s1 ⟨vs,H1,I1,r1,q1⟩=>?_));obtain⟨v,w,e1,q1⟩:=q1;subst e1;obtain⟨u1,u2,rfl,rv,zP⟩:∃u1 u2,us=[u1,u2]/\RelV v u1/\RelV w u2:=by
  cases r1 with
  | cons p q=>
   cases q with
   | cons p' q'=>
    cases q';exact⟨_,_,rfl,p,p'⟩
 refine AJ ?_ (by show 2<=sizeLine;decide);have I2:Inv X Z σ H1 {s1 with heap:=s1.heap.push {cls:=.type "tuple",data:=.seq [u1,u2].toArray}}:=I1.kept (t':=s1.toks) λb o e=>Ag _ e;rw[hw];refine Aa (Af ?_);refine Aa (C7 (Aa (unpackItems_tuple (items:=#[u1,u2]) (I.ok.hd hc) (FZ s1.heap _) λh' qB=>?_)));have I3:=I2.kept (h':=h') (t':=s1.toks) λb o e=>qB b o (AA (Aq e)) e;show im _ _ (assignInOrder [λv=>bindName X.env y v,λv=>bindName X.env x v] [u2,u1] >>= λ_=>pure Flow.next) _ _ _;refine Aa (assignInOrder_cons (wpAny_bindName (pJ I3 hN hj (.inl hy) zP (λs2 I4=>?_) (.inr hy))));refine assignInOrder_cons (wpAny_bindName (pJ I4 hN hi (.inl hx) rv (λs3 I5=>assignInOrder_nil (Af ?_)) (.inr hx)));rw[List.set_comm _ _ (BU ħ)]at I5;exact⟨_,H1,I5,q1⟩
end
section
def aaZ(c:TT)(tb:TS):TS:=λD σ H=>∃W:Nat->St->Hp->Prop,(∃m,W m σ H)/\∀m σ H,W m σ H->
 c σ H λb H1=>if b=true then ∃N:St->Hp->Prop,(∀σ' H',N σ' H'->∃m',m' < m/\W m' σ' H')/\tb {D with nx:=N,ct:=N,bk:=D.nx} σ H1 else D.nx σ H1
def Th{c:r9}{tc:TT}{tb:TS}(hp:Db (lc X.prog X.w) X.A X.env X.xe)(hc:PT X c tc)(hb:q9 X body tb):PS X (.While c body [] pos) (aaZ tc tb):=by
 intro Z s σ H D I h;obtain⟨W,⟨m0,w0⟩,turn⟩:=h;refine wpAny_While (codeAny_whileLoop (λn s'=>∃σ' H',Inv X Z σ' H' s'/\W n σ' H') ?_ m0 ⟨σ,H,I,w0⟩);rintro n s1 ⟨σ1,H1,I1,w1⟩;refine Cs hp (bV (hc Z s1 σ1 H1 _ I1 (turn n σ1 H1 w1)) λb s2 ⟨H2,I2,q2⟩=>?_);cases b with
 | true=>
  obtain⟨N,hN,q2⟩:=q2;refine Cs hp (bV (hb Z s2 σ1 H2 _ I2 q2) λf s3 q3=>?_);cases f with
  | next=>
   obtain⟨σ3,H3,I3,n3⟩:=q3;obtain⟨m',hm,w3⟩:=hN σ3 H3 n3;exact⟨m',hm,σ3,H3,I3,w3⟩
  | cont=>
   obtain⟨σ3,H3,I3,n3⟩:=q3;obtain⟨m',hm,w3⟩:=hN σ3 H3 n3;exact⟨m',hm,σ3,H3,I3,w3⟩
  | brk=>exact q3
  | ret v=>exact q3
 | false=>
  exact Ea ⟨σ1,H2,I2,q2⟩
end
structure It where
 go:Nat->Hp->Prop
 ZF:Nat->Hp->V->Hp->Prop
 stop:Nat->Hp->Prop
def yk(X:Cx)(Z:O (f8×Obj))(H:Hp)(b:f8):Prop:=
 H b=ce/\b≠X.env.locals/\b∉X.fs/\(b∈X.ex\/X.s₀.heap.objs.size<=b)/\(∀x c,X.env.cells.lookup x=am c->c≠b)/\∀p∈X.pn++Z,p.1≠b
def Inv.xT(I:Inv X Z σ H s)(hb:s.heap.objs.size<=b)(hn:H' b=ce):yk X Z H' b:=by
 refine⟨hn,Nat.ne_of_gt (AE I.lt hb),I.ajo hb,.inr (BG I.sz hb),λx c e z=>?_,λp hp z=>?_⟩
 ·obtain⟨v,q⟩:=I.cell x c e;exact absurd (AE q.lt (by rw[z];exact hb)) (A5 _)
 ·exact absurd (AE (Aq (I.pin p hp).1) (by rw[z];exact hb)) (A5 _)
structure Turn(P:u8)(w:EQ)(K:Ab)(tg:r9)(J:It)(fp:List f8)(it:f8)(tn:Nat->sw->Prop):Prop where
 mem:it∈fp
 obj:∀i h,tn i h->∀b∈fp,∃o,h.get? b=am o/\∀v,o.data≠.cell v
 keep:∀i h h',tn i h->(∀b∈fp,∀o,h.get? b=am o->h'.get? b=am o)->tn i h'
 item:∀(X:Cx),X.prog=P->X.w=w->X.K=K->X.calm=true->∀(i:Nat) (Z:List (f8×Obj)) (s:ii) (σ:St) (H:Hp) (E:db->ii->Prop),Inv X Z σ H s->(∀b∈fp,yk X Z H b)->tn i s.heap->J.go i H->
  im (lc P w) X.A (pyNext (.ref it)) (λr s1=>∃u,r=am u/\
   im (lc P w) X.A (Sc tg (.ref it) u) (λ_ s2=>∃x H',Inv X Z σ H' s2/\RelV x u/\J.ZF i H x H'/\tn (i+1) s2.heap/\∀b∈fp,H' b=ce) E s1) E s
 done:∀(X:Cx),X.prog=P->X.w=w->X.K=K->X.calm=true->∀(i:Nat) (Z:List (f8×Obj)) (s:ii) (σ:St) (H:Hp) (E:db->ii->Prop),Inv X Z σ H s->(∀b∈fp,yk X Z H b)->tn i s.heap->J.stop i H->
  im (lc P w) X.A (pyNext (.ref it)) (λr s1=>r=ce/\Inv X Z σ H s1) E s
 self:∀(A:ww) (i:Nat) (s:ii) (Q:db->ii->Prop) (E:db->ii->Prop),tn i s.heap->Q (.ref it) s->im (lc P w) A (pyIter (.ref it)) Q E s
abbrev TI:=St->Hp->(It->Hp->Prop)->Prop
def PIE(X:Cx)(Z:O (f8×Obj))(σ:St)(tg:r9)(R:It->Hp->Prop)(Ĺ:db)(s2:ii):Prop:=
 ∃(it:f8) (fp:O f8) (tn:Nat->sw->Prop) (J:It) (H':Hp),Ĺ=.ref it/\Inv X Z σ H' s2/\Turn X.prog X.w X.K tg J fp it tn/\tn 0 s2.heap/\(∀b∈fp,yk X Z H' b)/\R J H'
def PI(X:Cx)(tg iter:r9)(wi:TI):Prop:=
 ∀(Z:O (f8×Obj)) (s:ii) (σ:St) (H:Hp) (R:It->Hp->Prop),Inv X Z σ H s->wi σ H R->
  im (lc X.prog X.w) X.A (pr iter X.env) (λv s1=>im (lc X.prog X.w) X.A (pyIter v) (PIE X Z σ tg R) X.xe s1) X.xe s
def Ki{n:String}{vs:Array db}{Q:Unit->ii->Prop}(ho:s.heap.get? it=am o)(hc:o.cls=.type n)(hd:o.data=.fields vs)
  (hn:["enumerate","zip","dict_itemiterator","dict_reverseitemiterator","odict_iterator","itertools.zip_longest","itertools.pairwise"].contains n=false) (hQ:Q () s):im M A (Sc tg (.ref it) u) Q E s:=by
 unfold Sc;cases tg <;> first
  | exact Af hQ
  | (cases u <;> first
    | exact Af hQ
    | (
      refine Aa (F9 ho ?_);rw[hc,hd];show im M A (if (["enumerate","zip","dict_itemiterator","dict_reverseitemiterator","odict_iterator","itertools.zip_longest","itertools.pairwise"].contains n&&vs[0]?==am (sn _))=true then _ else _) Q E s;rw[if_neg (by intro h;rw[hn,FU]at h;cases h)];exact Af hQ))
def Itl(K:Ab)(a:f8):It:=
 ⟨λi H=>∃xs x,eI K H a xs/\xs[i]?=am x,λi H x H'=>H'=H/\∀xs,eI K H a xs->xs[i]?=am x,λi H=>∃xs,eI K H a xs/\xs.length<=i⟩
def Itt(K:Ab)(a:f8):It:=
 ⟨λi H=>∃xs x,dJ K H a xs/\xs[i]?=am x,λi H x H'=>H'=H/\∀xs,dJ K H a xs->xs[i]?=am x,λi H=>∃xs,dJ K H a xs/\xs.length<=i⟩
def Itr(lo:Int)(n:Nat):It:=⟨λi _=>i < n,λi H x H'=>H'=H/\x=.int (lo+i),λi _=>n<=i⟩
theorem ym{K:Ab}(a it:f8):Turn P w K tg (Itl K a) [it] it (λi h=>h.IsListIter it a i) where
 mem:=by simp
 obj:=λi h st b hb=>by
  have e:b=it:=by simpa using hb
  subst e;obtain⟨o,e,c,d⟩:=st;exact⟨o,e,λv z=>by rw[d]at z;cases z⟩
 keep:=λi h h' st k=>st.at λo e=>k it (by simp) o e
 item:=by
  intro X hP hw hK hc i Z s σ H E I hf st hg;subst hP hw hK;obtain⟨xs,x,hq,hx⟩:=hg;obtain⟨au,rv,p,hz⟩:=I.list hq;obtain⟨u,hu,ru⟩:=rv.get hx;obtain⟨f0,f1,f2,f3,f4,f5⟩:=hf it (by simp);refine wpAny_pyNext_list_item st p.isList (x:=u) (by simpa using hu) λh' uB sb=>?_;have I1:Inv X Z σ H {s with heap:=h'}:=I.turned (t':=s.toks) (λb o hb e=>(sb.2 b hb).trans e) f0 f1 f3 f4 f5;obtain⟨o,e,c,d⟩:=id uB;exact⟨u,rfl,Ki (s:={s with heap:=h'}) e c d ⋯ ⟨x,H,I1,ru,⟨rfl,λys hy=>by rw[I.JU hy hq];exact hx⟩,uB,λb hb=>(hf b hb).1⟩⟩
 done:=by
  intro X hP hw hK hc i Z s σ H E I hf st hg;subst hP hw hK;obtain⟨xs,hq,hx⟩:=hg;obtain⟨au,rv,p,hz⟩:=I.list hq;obtain⟨f0,f1,f2,f3,f4,f5⟩:=hf it (by simp);have hl:=rv.length;exact wpAny_pyNext_list_end (I.ok.hd hc) st p.isList (by simp;omega) λh' eb=>⟨rfl,I.turned (t':=s.toks) (λb o hb e=>eb b o hb e) f0 f1 f3 f4 f5⟩
 self:=λ_ _ _ _ _ st h=>wpAny_pyIter_listiter st h
theorem uW{K:Ab}(a it:f8):Turn P w K tg (Itt K a) [it] it (λi h=>h.IsTupleIter it a i) where
 mem:=by simp
 obj:=λi h st b hb=>by
  have e:b=it:=by simpa using hb
  subst e;obtain⟨o,e,c,d⟩:=st;exact⟨o,e,λv z=>by rw[d]at z;cases z⟩
 keep:=λi h h' st k=>st.at λo e=>k it (by simp) o e
 item:=by
  intro X hP hw hK hc i Z s σ H E I hf st hg;subst hP hw hK;obtain⟨xs,x,hq,hx⟩:=hg;obtain⟨au,rv,p,hz⟩:=I.tuple hq;obtain⟨u,hu,ru⟩:=rv.get hx;obtain⟨f0,f1,f2,f3,f4,f5⟩:=hf it (by simp);refine wpAny_pyNext_tuple_item st (show s.heap.IsTuple a au.toArray from p) (x:=u) (by simpa using hu) λh' uB sb=>?_;have I1:Inv X Z σ H {s with heap:=h'}:=I.turned (t':=s.toks) (λb o hb e=>(sb.2 b hb).trans e) f0 f1 f3 f4 f5;obtain⟨o,e,c,d⟩:=id uB;exact⟨u,rfl,Ki (s:={s with heap:=h'}) e c d ⋯ ⟨x,H,I1,ru,⟨rfl,λys hy=>by rw[I.mY hy hq];exact hx⟩,uB,λb hb=>(hf b hb).1⟩⟩
 done:=by
  intro X hP hw hK hc i Z s σ H E I hf st hg;subst hP hw hK;obtain⟨xs,hq,hx⟩:=hg;obtain⟨au,rv,p,hz⟩:=I.tuple hq;obtain⟨f0,f1,f2,f3,f4,f5⟩:=hf it (by simp);have hl:=rv.length;exact wpAny_pyNext_tuple_end (I.ok.hd hc) st (show s.heap.IsTuple a au.toArray from p) (by simp;omega) λh' eb=>⟨rfl,I.turned (t':=s.toks) (λb o hb e=>eb b o hb e) f0 f1 f3 f4 f5⟩
 self:=λ_ _ _ _ _ st h=>wpAny_pyIter_tupleiter st h
theorem LK{K:Ab}(it:f8)(lo:Int)(n:Nat):Turn P w K tg (Itr lo n) [it] it (λi h=>IsRangeIter h it (lo+(i:Nat)*1) ((n:Int)-(i:Nat)) 1) where
 mem:=by simp
 obj:=λi h st b hb=>by
  have e:b=it:=by simpa using hb
  subst e;exact⟨_,st,λv z=>by
   have z':=z;cases z'⟩
 keep:=λi h h' st k=>k it (by simp) _ st
 item:=by
  intro X hP hw hK hc i Z s σ H E I hf st hg;subst hP hw hK;obtain⟨f0,f1,f2,f3,f4,f5⟩:=hf it (by simp);have W:=Walks.range (prog:=X.prog) (w:=X.w) (I.ok.hd hc) it lo 1 n;refine W.item i s _ _ hg st λv h' tk hv uB kk=>?_;obtain⟨t,rfl⟩:=hv;have I1:Inv X Z σ H {s with heap:=h',toks:=tk}:=I.turned (λb o hb e=>kk b o (by simpa using hb) e) f0 f1 f3 f4 f5;refine⟨_,rfl,Ki (s:={s with heap:=h',toks:=tk}) (n:="range_iterator") uB rfl rfl ⋯ ⟨.int (lo+i),H,I1,⟨t,?_⟩,⟨rfl,rfl⟩,uB,λb hb=>(hf b hb).1⟩⟩;rw[Int.mul_one]
 done:=by
  intro X hP hw hK hc i Z s σ H E I hf st hg;obtain⟨f0,f1,f2,f3,f4,f5⟩:=hf it (by simp);exact wpAny_pyNext_range_end (I.ok.hd hc) st (by have:n<=i:=hg;omega) λh' eb=>⟨rfl,I.turned (t':=s.toks) (λb o hb e=>eb b o hb e) f0 f1 f3 f4 f5⟩
 self:=λ_ _ _ _ _ st h=>wpAny_pyIter_rangeiter st h
end L2
variable{tl:L2.TE}{p:Co}{fp:O Bm}{iter:Cd}
namespace L2
section
def aad(K:Ab)(tl:TE):TI:=λσ H R=>tl σ H λx H1=>∃a,x=.ref a/\(∃xs,eI K H1 a xs)/\R (Itl K a) H1
def Xy{l:r9}(hl:PE X l tl):PI X tg l (aad X.K tl):=by
 intro Z s σ H R I h;refine bV (hl Z s σ H _ I h) λv s1 ⟨x,H1,I1,r1,q1⟩=>?_;obtain⟨a,e,⟨xs,hq⟩,q⟩:=q1;subst e;cases r1;obtain⟨au,rv,p,hz⟩:=I1.list hq;refine Dz p.isList ?_;refine⟨s1.heap.objs.size,[s1.heap.objs.size],_,_,H1,rfl,I1.kept (t':=s1.toks) λb o e=>Ag _ e,ym a _,⟨_,Ao _ rfl,rfl,rfl⟩,λb hb=>?_,q⟩;have e:b=s1.heap.objs.size:=by simpa using hb
 subst e;exact I1.xT (Ak _) (I1.a8.fresh (Ak _))
theorem S6{R:It->Hp->Prop}{lo hi:Int}{t u v:Tok}{tk:Nat}(I:Inv X Z σ H s)(h1:-(2 ^ 62)<=lo)(h2:lo < 2 ^ 62)(h3:-(2 ^ 62)<=hi)(h4:hi < 2 ^ 62)
  (q:R (Itr lo (hi-lo).toNat) H):im (lc X.prog X.w) X.A (pyIter (.ref s.heap.objs.size)) (PIE X Z σ tg R) E {s with heap:=s.heap.push {cls:=.type "range",data:=.fields #[.int lo t,.int hi u,.int 1 v]},toks:=tk}:=by
 refine wpAny_pyIter_range (FJ ..) (small_one h1 h2 h3 h4) ?_;have I1:Inv X Z σ H {s with heap:=s.heap.push {cls:=.type "range",data:=.fields #[.int lo t,.int hi u,.int 1 v]},toks:=tk}:=I.kept λb o e=>Ag _ e;refine⟨(s.heap.push {cls:=.type "range",data:=.fields #[.int lo t,.int hi u,.int 1 v]}).objs.size,[(s.heap.push {cls:=.type "range",data:=.fields #[.int lo t,.int hi u,.int 1 v]}).objs.size],_,_,H,rfl,
  I1.kept (t':=tk) λb o e=>Ag _ e,LK _ lo (hi-lo).toNat,?_,λb hb=>?_,q⟩
 ·have e1:lo+((0:Nat):Int)*1=lo:=by simp
  have e2:(((hi-lo).toNat:Nat):Int)-((0:Nat):Int)=Builtin.Range.rangeSize lo hi 1:=by rw[rangeSize_one];split <;> omega
  show IsRangeIter _ _ (lo+((0:Nat):Int)*1) ((((hi-lo).toNat:Nat):Int)-((0:Nat):Int)) 1;rw[e1,e2];exact Ao _ rfl
 ·have e:b=(s.heap.push {cls:=.type "range",data:=.fields #[.int lo t,.int hi u,.int 1 v]}).objs.size:=by simpa using hb
  subst e;exact I1.xT (Ak _) (I1.a8.fresh (Ak _))
def afQ(ta:TA):TI:=λσ H R=>ta σ H λvs H1=>∃j:Int,vs=[.int j]/\-(2 ^ 62)<=j/\j < 2 ^ 62/\R (Itr 0 j.toNat) H1
theorem Qu{ta:TA}(hg:Gl X "range")(hm:X.mg "range"=ce)(ha:PA X [a] ta)(hs:‹nn [a] X.env=[(false,pr a X.env)]›):PI X tg (.Call (.Name "range" p) [a] [] pos) (afQ ta):=by
 intro Z s σ H R I h;refine Call_ (gB I hg hm boot_range (A6 (bV (ha pos Z s σ H _ I h) λus s1 ⟨vs,H1,I1,r1,q1⟩=>?_) hs rfl));obtain⟨j,e,q1,q2,q⟩:=q1;subst e;cases r1 with
 | cons r rr=>
  cases rr;obtain⟨t,rfl⟩:=r;exact call_range_1 (S6 I1 ∅ ∅ q1 q2 (by simpa using q))
def aiY(wi:TI)(g:TG)(tb:TS):TS:=λD σ H=>wi σ H λJ H1=>∃W:Nat->Nat->St->Hp->Prop,(∃m,W 0 m σ H1)/\∀i m σ H,W i m σ H->
 (J.stop i H/\D.nx σ H)\/(J.go i H/\∃N:St->Hp->Prop,(∀σ' H',N σ' H'->∃m',m' < m/\W (i+1) m' σ' H')/\∀x H',J.ZF i H x H'->g x σ H' λσ2 H2=>tb {D with nx:=N,ct:=N,bk:=D.nx} σ2 H2)
def rV(fp:O f8)(h:sw):O (f8×Obj):=fp.filterMap λb=>(h.get? b).map λo=>(b,o)
def kY(hb:b∈fp)(e:h.get? b=am o):(b,o)∈rV fp h:=CW.mpr ⟨b,hb,by rw[e];rfl⟩
def Qx{p:f8×Obj}(hp:p∈rV fp h):p.1∈fp/\h.get? p.1=am p.2:=by
 obtain⟨b,hb,e⟩:=CW.mp hp;cases q:h.get? b with
 | none=>rw[q]at e;cases e
 | some o=>
  rw[q]at e;have e':=Option.some.inj e;subst e';exact⟨hb,q⟩
def Inv.pinned(I:Inv X Z σ H s)(hf:∀b∈fp,yk X Z H b)(ho:∀b∈fp,∃o,s.heap.get? b=am o/\∀v,o.data≠.cell v):Inv X (Z++rV fp s.heap) σ H s:=
 I.Ox λp hp=>(AQ.mp hp).elim (λz=>I.pin p (A2 _ z)) λz=>by
  obtain⟨hb,e⟩:=Qx z;obtain⟨f0,f1,f2,_⟩:=hf p.1 hb;obtain⟨o,e',d⟩:=ho p.1 hb;rw[e]at e';cases e';exact⟨e,f0,f1,f2,d⟩
def Inv.mj{pl:O (f8×Obj)}(I:Inv X (Z++pl) σ H s):Inv X Z σ H s:=I.Ox λp hp=>I.pin p (A2 _ (Bu _ hp))
def L3{wi:TI}{g:TG}{tb:TS}(hp:Db (lc X.prog X.w) X.A X.env X.xe)(hc:X.calm=true)(hi:PI X tg iter wi)(hg:PG X tg g)(hb:q9 X body tb)
  (hs:IJ X iter:=by intro _;rfl):PS X (.For tg iter body [] pos) (aiY wi g tb):=by
 intro Z s σ H D I h;refine wpAny_For (bV (hi Z s σ H _ I h) λv s1 h1=>bV h1 λĹ s2 h2=>?_) hs;obtain⟨it,fp,tn,J,H2,e,I2,T,Qb,f2,W,⟨m0,w0⟩,turn⟩:=h2;subst e;have Ŷ:∀{H':Hp},(∀b∈fp,H' b=ce)->∀b∈fp,yk X Z H' b:=λhn b hb=>⟨hn b hb,(f2 b hb).2⟩;refine codeAny_forLoop_any (λn s'=>∃i σ' H',Inv X Z σ' H' s'/\tn i s'.heap/\(∀b∈fp,H' b=ce)/\W i n σ' H') ?_ m0 ⟨0,σ,H2,I2,Qb,λb hb=>(f2 b hb).1,w0⟩;rintro n s3 ⟨i,σ3,H3,I3,Ĕ,Į,w3⟩;rcases turn i n σ3 H3 w3 with⟨stop,qn⟩ | ⟨go,N,hN,step⟩
 ·refine Cs hp (bV (T.done X rfl rfl rfl hc i Z s3 σ3 H3 X.xe I3 (Ŷ Į) Ĕ stop) λr s4 ⟨hr,I4⟩=>?_);subst hr;exact Ea ⟨σ3,H3,I4,qn⟩
 ·refine Cs hp (bV (T.item X rfl rfl rfl hc i Z s3 σ3 H3 X.xe I3 (Ŷ Į) Ĕ go) λr s4 ⟨u,hr,h4⟩=>?_);subst hr;refine Cs hp (bV h4 λ_ s5 ⟨x,H5,I5,r5,y5,ç,ŭ⟩=>?_);have ŷ:=I5.pinned (Ŷ ŭ) (T.obj _ _ ç);refine Cs hp (bV (hg _ s5 σ3 H5 x u _ ŷ r5 (step x H5 y5)) λ_ s6 ⟨σ6,H6,I6,q6⟩=>?_);refine Cs hp (bV (hb _ s6 σ6 H6 _ I6 q6) λf s7 q7=>?_);have again:∀{σ7:St}{H7:Hp},Inv X (Z++rV fp s5.heap) σ7 H7 s7->N σ7 H7->∃m,m < n/\∃i σ' H',Inv X Z σ' H' s7/\tn i s7.heap/\(∀b∈fp,H' b=ce)/\W i m σ' H':=λ{σ7 H7} I7 n7=>by
   obtain⟨m',hm,w7⟩:=hN σ7 H7 n7;refine⟨m',hm,i+1,σ7,H7,I7.mj,T.keep _ _ _ ç λb hb o e=>(I7.pin (b,o) (A2 _ (A2 _ (kY hb e)))).1,λb hb=>?_,w7⟩;obtain⟨o,e,d⟩:=T.obj _ _ ç b hb;exact(I7.pin (b,o) (A2 _ (A2 _ (kY hb e)))).2.1
  cases f with
  | next=>obtain⟨σ7,H7,I7,n7⟩:=q7;exact again I7 n7
  | cont=>obtain⟨σ7,H7,I7,n7⟩:=q7;exact again I7 n7
  | brk=>obtain⟨σ7,H7,I7,q7⟩:=q7;exact⟨σ7,H7,I7.mj,q7⟩
  | ret v=>obtain⟨x7,σ7,H7,I7,r7,q7⟩:=q7;exact⟨x7,σ7,H7,I7.mj,r7,q7⟩
end
end L2
variable{i:Int}{g:Int->Int->Int}{au:O Bc}
namespace L2
abbrev R2:=V->V->Hp->VK->Prop
def lN(X:Cx)(f:db->db->Sem db)(r:R2):Prop:=
 ∀(Z:O (f8×Obj)) (s:ii) (σ:St) (H:Hp) (x y:V) (v u:db) (Q:VK),Inv X Z σ H s->RelV x v->RelV y u->r x y H Q->
  im (lc X.prog X.w) X.A (f v u) (EP X Z σ Q) X.xe s
def UnR(X:Cx)(f:db->Sem db)(r:V->Hp->VK->Prop):Prop:=
 ∀(Z:O (f8×Obj)) (s:ii) (σ:St) (H:Hp) (x:V) (v:db) (Q:VK),Inv X Z σ H s->RelV x v->r x H Q->
  im (lc X.prog X.w) X.A (f v) (EP X Z σ Q) X.xe s
def cm(X:Cx)(f:db)(r:O V->Hp->VK->Prop):Prop:=
 ∀(Z:O (f8×Obj)) (s:ii) (σ:St) (H:Hp) (xs:O V) (us:O db) (Q:VK),Inv X Z σ H s->Vals xs us->r xs H Q->
  im (lc X.prog X.w) X.A (call f us) (EP X Z σ Q) X.xe s
def akQ(X:Cx)(r:V->Hp->(Bool->Hp->Prop)->Prop):Prop:=
 ∀(Z:O (f8×Obj)) (s:ii) (σ:St) (H:Hp) (x:V) (v:db) (Q:Bool->Hp->Prop),Inv X Z σ H s->RelV x v->r x H Q->
  im (lc X.prog X.w) X.A (truthy v) (TP X Z σ Q) X.xe s
def tOp(r:R2)(ta tb:TE):TE:=λσ H Q=>ta σ H λx H1=>tb σ H1 λy H2=>r x y H2 Q
def tUn(r:V->Hp->VK->Prop)(ta:TE):TE:=λσ H Q=>ta σ H λx H1=>r x H1 Q
def rI(C:Int->Int->Prop)(g:Int->Int->V):R2:=λx y H Q=>∃i j,x=.int i/\y=.int j/\C i j/\Q (g i j) H
def Xo(g:Int->Int->V):R2:=λx y H Q=>∃i j,x=.int i/\y=.int j/\Q (g i j) H
def rU(g:Int->V):V->Hp->VK->Prop:=λx H Q=>∃i,x=.int i/\Q (g i) H
section
variable{b:r9}
def adg(ha:PE X a ta)(hb:PE X b tb)(I:Inv X Z σ H s)
  (h:ta σ H λx H1=>tb σ H1 λy H2=>R x y H2) {f:db->db->Sem db}
  (hf:∀v u s2 x y H2,Inv X Z σ H2 s2->RelV x v->RelV y u->R x y H2->im (lc X.prog X.w) X.A (f v u) Q X.xe s2) :
  im (lc X.prog X.w) X.A (pr a X.env) (λv s₁=>im (lc X.prog X.w) X.A (pr b X.env) (λu s₂=>im (lc X.prog X.w) X.A (f v u) Q X.xe s₂) X.xe s₁) X.xe s:=by
 refine bV (ha Z s σ H _ I h) λv s1 ⟨x,H1,I1,r1,q1⟩=>?_;refine bV (hb Z s1 σ H1 _ I1 q1) λu s2 ⟨y,H2,I2,r2,q2⟩=>?_;exact hf v u s2 x y H2 I2 r1 r2 q2
def Oy{op:Operator}{r:R2}(ho:lN X (wn op) r)(ha:PE X a ta)(hb:PE X b tb):PE X (.BinOp a op b pos) (tOp r ta tb):=by
 intro Z s σ H Q I h;exact wpAny_BinOp (adg ha hb I h λv u s2 x y H2 I2 rx ry q=>ho Z s2 σ H2 x y v u Q I2 rx ry q)
def ae8{op:UnaryOp}{r:V->Hp->VK->Prop}(ho:UnR X (unaryOp op) r)(ha:PE X a ta):PE X (.UnaryOp op a pos) (tUn r ta):=by
 intro Z s σ H Q I h;exact UnaryOp_ (bV (ha Z s σ H _ I h) λv s1 ⟨x,H1,I1,r1,q1⟩=>ho Z s1 σ H1 x v Q I1 r1 q1)
def opI{f:db->db->Sem db}{C:Int->Int->Prop}
  (rule:∀(i j:Int) (t u:Tok) (s:ii) (Q:db->ii->Prop) (E:db->ii->Prop),C i j->Q (.int (g i j) s.toks) {s with toks:=s.toks+1}->im (lc X.prog X.w) X.A (f (.int i t) (.int j u)) Q E s) :
  lN X f (rI C λi j=>.int (g i j)):=by
 intro Z s σ H x y v u Q I rx ry h;obtain⟨i,j,rfl,rfl,hc,q⟩:=h;obtain⟨t,rfl⟩:=rx;obtain⟨t',rfl⟩:=ry;exact rule i j t t' s _ _ hc ⟨.int (g i j),H,I.tok _,⟨_,rfl⟩,q⟩
def afk{f:db->db->Sem db}
  (rule:∀(i j:Int) (t u:Tok) (s:ii) (Q:db->ii->Prop) (E:db->ii->Prop),Q (.int (g i j) s.toks) {s with toks:=s.toks+1}->im (lc X.prog X.w) X.A (f (.int i t) (.int j u)) Q E s) :
  lN X f (Xo λi j=>.int (g i j)):=by
 intro Z s σ H x y v u Q I rx ry h;obtain⟨i,j,rfl,rfl,q⟩:=h;obtain⟨t,rfl⟩:=rx;obtain⟨t',rfl⟩:=ry;exact rule i j t t' s _ _ ⟨.int (g i j),H,I.tok _,⟨_,rfl⟩,q⟩
def X1{f:db->db->Sem db}{g:Int->Int->Bool}
  (rule:∀(i j:Int) (t u:Tok) (s:ii) (Q:db->ii->Prop) (E:db->ii->Prop),Q (.bool (g i j)) s->im (lc X.prog X.w) X.A (f (.int i t) (.int j u)) Q E s) :
  lN X f (Xo λi j=>.bl (g i j)):=by
 intro Z s σ H x y v u Q I rx ry h;obtain⟨i,j,rfl,rfl,q⟩:=h;obtain⟨t,rfl⟩:=rx;obtain⟨t',rfl⟩:=ry;exact rule i j t t' s _ _ ⟨.bl (g i j),H,I,rfl,q⟩
def RS(i j:Int):Prop:=0 < j/\j < 1073741824
def Wq(i j:Int):Prop:=0<=j/\j<=1000000/\i.natAbs < 2 ^ 64
def ZE(i j:Int):Prop:=(-(2 ^ 64) < i/\i < 2 ^ 64)\/(-(2 ^ 64) < j/\j < 2 ^ 64)
def ZE.ok{j:Int}(h:ZE i j):wP i j:=by
 rcases h with⟨h1,h2⟩ | ⟨h1,h2⟩
 ·exact .of_left (Ps h1 h2)
 ·exact .of_right (Ps h1 h2)
def abM:lN X (wn .Add) (Xo λi j=>.int (i+j)):=afk λ_ _ _ _ _ _ _ q=>add_int q
def abE:lN X (wn .Sub) (Xo λi j=>.int (i-j)):=afk λ_ _ _ _ _ _ _ q=>sub_int q
theorem XW:lN X (wn .FloorDiv) (rI RS λi j=>.int (i / j)):=opI λi j _ _ _ _ _ hc q=>by
 have h1:(0:Int) < j:=hc.1;have h2:j < 1073741824:=hc.2;exact floordiv_int ∅ (by rw[Int.fdiv_eq_ediv_of_nonneg i ∅];exact q) (.inl (PyProof.noPylong_small ∅))
theorem abI:lN X (wn .Mod) (rI (λ_ j=>0 < j) λi j=>.int (i % j)):=opI λi j _ _ _ _ _ hc q=>by
 have h1:(0:Int) < j:=hc;exact mod_int' ∅ (by rw[Int.fmod_eq_emod_of_nonneg i ∅];exact q)
def abG:lN X (wn .Pow) (rI Wq λi j=>.int (i ^ j.toNat)):=opI λ_ _ _ _ _ _ _ hc q=>pow_int_small hc.1 hc.2.1 hc.2.2 q
def unI{f:db->Sem db}{g:Int->Int}
  (rule:∀(i:Int) (t:Tok) (s:ii) (Q:db->ii->Prop) (E:db->ii->Prop),Q (.int (g i) s.toks) {s with toks:=s.toks+1}->im (lc X.prog X.w) X.A (f (.int i t)) Q E s) :
  UnR X f (rU λi=>.int (g i)):=by
 intro Z s σ H x v Q I rx h;obtain⟨i,rfl,q⟩:=h;obtain⟨t,rfl⟩:=rx;exact rule i t s _ _ ⟨.int (g i),H,I.tok _,⟨_,rfl⟩,q⟩
def aaU:UnR X (unaryOp .USub) (rU λi=>.int (-i)):=unI λ_ _ _ _ _ q=>neg_int q
end
section
variable{b c:r9}
def Vh{Q:VK}{k k':Bool}(I:Inv X Z σ H s)(q:Q (.bl k) H)(e:k=k'):EP X Z σ Q (.bool k') s:=by
 subst e;exact⟨.bl k,H,I,rfl,q⟩
def afg:lN X (v4 .Lt) (Xo λi j=>.bl (decide (i < j))):=X1 λ_ _ _ _ _ _ _ q=>lt_int q
def afh:lN X (v4 .LtE) (Xo λi j=>.bl (decide (i<=j))):=X1 λ_ _ _ _ _ _ _ q=>le_int q
def afi:lN X (v4 .Gt) (Xo λi j=>.bl (decide (j < i))):=X1 λ_ _ _ _ _ _ _ q=>gt_int q
def afj:lN X (v4 .GtE) (Xo λi j=>.bl (decide (j<=i))):=X1 λ_ _ _ _ _ _ _ q=>ge_int q
def abJ:lN X (v4 .Is) (λx y H Q=>y=.aJ/\Q (.bl (decide (x=.aJ))) H):=by
 intro Z s σ H x y v u Q I rx ry h;obtain⟨rfl,q⟩:=h;cases ry;refine is_none_gen (Vh I q ?_);cases x <;> first
  | (cases rx;rfl)
  | (obtain⟨t,rfl⟩:=rx;rfl)
def XS:lN X (v4 .IsNot) (λx y H Q=>y=.aJ/\Q (.bl (!decide (x=.aJ))) H):=by
 intro Z s σ H x y v u Q I rx ry h;obtain⟨rfl,q⟩:=h;cases ry;refine isnot_none_gen (Vh I q ?_);cases x <;> first
  | (cases rx;rfl)
  | (obtain⟨t,rfl⟩:=rx;rfl)
def lN.or{f:db->db->Sem db}{r r':R2}(h:lN X f r)(h':lN X f r'):lN X f (λx y H Q=>r x y H Q\/r' x y H Q):=by
 intro Z s σ H x y v u Q I rx ry q;rcases q with q | q
 ·exact h Z s σ H x y v u Q I rx ry q
 ·exact h' Z s σ H x y v u Q I rx ry q
def mq(b:r9){op:CmpOp}(h: ~~~(op≠.In))(h2: ~~~(op≠.NotIn)):xL op b=false:=by
 have e1:(op==CmpOp.In)=false:=by cases op <;> first | rfl | exact absurd rfl h
 have e2:(op==CmpOp.NotIn)=false:=by cases op <;> first | rfl | exact absurd rfl h2
 cases b <;> simp[xL,e1,e2]
def XJ{op:CmpOp}{r:R2}(ho:lN X (v4 op) r)(ha:PE X a ta)(hb:PE X b tb)(hm:xL op b=false):PE X (.Compare a [op] [b] pos) (tOp r ta tb):=by
 intro Z s σ H Q I h;exact wpAny_Compare1 (adg ha hb I h λv u s2 x y H2 I2 rx ry q=>ho Z s2 σ H2 x y v u Q I2 rx ry q) hm
def aer(t:TE):TT:=λσ H Q=>t σ H λx H'=>∃k,x=.bl k/\Q k H'
def uC{op:CmpOp}{r:R2}(ho:lN X (v4 op) r)(ha:PE X a ta)(hb:PE X b tb)(hm:xL op b=false):PT X (.Compare a [op] [b] pos) (aer (tOp r ta tb)):=by
 intro Z s σ H Q I h;refine wpAny_isTrue_Compare1 (bV (ha Z s σ H _ I h) λv s1 ⟨x,H1,I1,r1,q1⟩=>bV (hb Z s1 σ H1 _ I1 q1) λu s2 ⟨y,H2,I2,r2,q2⟩=>
  bV (ho Z s2 σ H2 x y v u _ I2 r1 r2 q2) λc s3 ⟨z,H3,I3,r3,k,e,q3⟩=>?_) hm
 subst e;cases r3;exact Dy ⟨H3,I3,q3⟩
def ado(K:Ab)(x:V)(H:Hp)(k:Bool):Prop:=
 match x with
 | .aJ=>k=false
 | .bl b=>k=b
 | .int i=>k=(i != 0)
 | .str y=>y.length<=sizeLine/\k=((y.length:Int) != 0)
 | .byt y=>y.size<=sizeLine/\k=((y.size:Int) != 0)
 | .ref p=>(∃xs,eI K H p xs/\k=!xs.isEmpty)\/(∃xs,dJ K H p xs/\k=!xs.isEmpty)\/∃kvs,H p=am (.dK kvs)/\k=!kvs.isEmpty
 | _=>False
def MK{kvs:O (κ×V)}{vs:O (κ×db)}(r:KV kvs vs):(!vs.isEmpty)=!kvs.isEmpty:=by
 cases r <;> rfl
def vO(r:Vals xs au):(!au.toArray.isEmpty)=!xs.isEmpty:=by
 cases r <;> simp
def GN:(sizeLine:Nat) < 2 ^ 63:=by rw[Da];decide
theorem aaW:akQ X (λx H Q=>∃k,ado X.K x H k/\Q k H):=by
 intro Z s σ H x v Q I rx h;obtain⟨k,e,q⟩:=h;have hs:=Da;cases x with
 | aJ=>
  cases rx;have e':=e;subst e';exact truthy_none ⟨H,I,q⟩
 | bl b=>
  cases rx;have e':=e;subst e';exact Dy ⟨H,I,q⟩
 | int i=>
  obtain⟨t,rfl⟩:=rx;have e':=e;subst e';exact PySem.P.truthy_int ⟨H,I,q⟩
 | str y=>
  obtain⟨t,rfl⟩:=rx;obtain⟨hy,e'⟩:y.length<=sizeLine/\k=((y.length:Int) != 0):=e;subst e';exact PySem.P.truthy_str ∅ ⟨H,I.tok _,q⟩
 | byt y=>
  obtain⟨t,rfl⟩:=rx;obtain⟨hy,e'⟩:y.size<=sizeLine/\k=((y.size:Int) != 0):=e;subst e';exact PySem.W.truthy_bytes ∅ ⟨H,I.tok _,q⟩
 | ref p=>
  cases rx;have e':=e;rcases e' with⟨xs,hx,e'⟩ | ⟨xs,hx,e'⟩ | ⟨kvs,hx,e'⟩
  ·subst e';obtain⟨au,r,pl,hz⟩:=I.list hx;have À:=r.length;exact wpAny_truthy_list pl.isList (by simp only[Aj];omega) ⟨H,I.tok _,by rw[vO r];exact q⟩
  ·subst e';obtain⟨au,r,pl,hz⟩:=I.tuple hx;have À:=r.length;exact truthy_tuple pl (by simp only[Aj];omega) ⟨H,I.tok _,by rw[vO r];exact q⟩
  ·subst e';obtain⟨hz,hS,vs,r,m⟩:kvs.length<=sizeLine/\(p==IR)=false/\∃vs,KV kvs vs/\s.heap.DictOf (cW X.prog X.w) p vs:=I.a8 p _ hx;have À:=Paired.length r;exact wpAny_truthy_dict hS m ∅ ⟨H,I.tok _,by rw[MK r];exact q⟩
 | _=>exact(show False from e).elim
def Tg(ha:PE X a ta)(he:∀Ä,isTrue a X.env Ä=(do let v <- Ä;standAt a.pos;KM [v] (truthy v))) :
  PT X a (λσ H Q=>ta σ H λx H'=>∃k,ado X.K x H' k/\Q k H'):=by
 intro Z s σ H Q I h;exact isTrue_plain (bV (ha Z s σ H _ I h) λv s1 ⟨x,H1,I1,r1,q1⟩=>aaW Z s1 σ H1 x v Q I1 r1 q1) (he _)
def L8:lN X (wn .Add) (λx y H Q=>∃i j,x=.str i/\y=.str j/\i.length+j.length<=sizeLine/\Q (.str (i++j)) H):=by
 intro Z s σ H x y v u Q I rx ry h;obtain⟨i,j,rfl,rfl,hz,q⟩:=h;obtain⟨t,rfl⟩:=rx;obtain⟨t',rfl⟩:=ry;exact add_str (λt' tk=>⟨.str (i++j),H,I.tok _,⟨_,rfl⟩,q⟩) hz
def vals1{x:V}(r:Vals [x] us):∃u,us=[u]/\RelV x u:=by
 cases r with
 | cons r1 r2=>cases r2;exact⟨_,rfl,r1⟩
def vals2{x:V}(r:Vals [x,y] us):∃u w',us=[u,w']/\RelV x u/\RelV y w':=by
 cases r with
 | cons r1 r2=>
  cases r2 with
  | cons r3 r4=>cases r4;exact⟨_,_,rfl,r1,r3⟩
def V6:cm X (.builtin "abs") (λxs H Q=>∃i,xs=[.int i]/\Q (.int (if i < 0 then -i else i)) H):=by
 intro Z s σ H xs us Q I r h;obtain⟨i,rfl,q⟩:=h;obtain⟨u,rfl,t,rfl⟩:=vals1 r;exact call_abs_int λu tk=>⟨.int (if i < 0 then -i else i),H,I.tok _,⟨_,rfl⟩,q⟩
def RB(hc:X.calm=true):cm X (.builtin "max") (λxs H Q=>∃i j,xs=[.int i,.int j]/\Q (.int (if j > i then j else i)) H):=by
 intro Z s σ H xs us Q I r h;obtain⟨i,j,rfl,q⟩:=h;obtain⟨u,w',rfl,⟨t,rfl⟩,⟨t',rfl⟩⟩:=vals2 r;refine max_two_ints (I.ok.hd hc) λh' tk k=>⟨_,H,I.kept k,?_,q⟩;by_cases hj:j > i
 ·rw[if_pos hj,if_pos hj];exact⟨_,rfl⟩
 ·rw[if_neg hj,if_neg hj];exact⟨_,rfl⟩
def RA(hc:X.calm=true):cm X (.builtin "min") (λxs H Q=>∃i j,xs=[.int i,.int j]/\Q (.int (if j < i then j else i)) H):=by
 intro Z s σ H xs us Q I r h;obtain⟨i,j,rfl,q⟩:=h;obtain⟨u,w',rfl,⟨t,rfl⟩,⟨t',rfl⟩⟩:=vals2 r;refine min_two_ints (I.ok.hd hc) λh' tk k=>⟨_,H,I.kept k,?_,q⟩;by_cases hj:j < i
 ·rw[if_pos hj,if_pos hj];exact⟨_,rfl⟩
 ·rw[if_neg hj,if_neg hj];exact⟨_,rfl⟩
def RF:cm X (.type "int") (λxs H Q=>(∃i,xs=[.int i]/\Q (.int i) H)\/∃k,xs=[.bl k]/\Q (.int (if k then 1 else 0)) H):=by
 intro Z s σ H xs us Q I r h;rcases h with⟨i,rfl,q⟩ | ⟨k,rfl,q⟩
 ·obtain⟨u,rfl,t,rfl⟩:=vals1 r;exact call_int_int ⟨.int i,H,I,⟨_,rfl⟩,q⟩
 ·obtain⟨u,rfl,r1⟩:=vals1 r;cases r1;exact call_int_bool ⟨.int (if k then 1 else 0),H,I.tok _,⟨_,rfl⟩,q⟩
def ag9(K:Ab)(x:V)(H:Hp)(n:Nat):Prop:=
 match x with
 | .str y=>y.length<=sizeLine/\n=y.length
 | .byt y=>y.size<=sizeLine/\n=y.size
 | .ref p=>(∃xs,eI K H p xs/\n=xs.length)\/∃xs,dJ K H p xs/\n=xs.length
 | _=>False
theorem V5:cm X (.builtin "len") (λxs H Q=>∃x n,xs=[x]/\ag9 X.K x H n/\Q (.int n) H):=by
 intro Z s σ H xs us Q I r h;obtain⟨x,n,rfl,e,q⟩:=h;obtain⟨u,rfl,rx⟩:=vals1 r;have hs:=Da;cases x with
 | str y=>
  obtain⟨t,rfl⟩:=rx;obtain⟨hy,e'⟩:y.length<=sizeLine/\n=y.length:=e;subst e';exact len_str ∅ ⟨.int _,H,I.tok _,⟨_,rfl⟩,q⟩
 | byt y=>
  obtain⟨t,rfl⟩:=rx;obtain⟨hy,e'⟩:y.size<=sizeLine/\n=y.size:=e;subst e';exact PySem.W.len_bytes ∅ ⟨.int _,H,I.tok _,⟨_,rfl⟩,q⟩
 | ref p=>
  cases rx;have e':=e;rcases e' with⟨xs,hx,e'⟩ | ⟨xs,hx,e'⟩
  ·subst e';obtain⟨au,r',pl,hz⟩:=I.list hx;have À:=r'.length;exact Calls.call_len_list pl.isList (by simp only[Aj];omega) ⟨.int xs.length,H,I.tok _,⟨_,by simp only[Aj];rw[À]⟩,q⟩
  ·subst e';obtain⟨au,r',pl,hz⟩:=I.tuple hx;have À:=r'.length;exact len_tuple pl (by simp only[Aj];omega) ⟨.int xs.length,H,I.tok _,⟨_,by simp only[Aj];rw[À]⟩,q⟩
 | _=>exact(show False from e).elim
end
end L2
variable{a:Bm}{R:PySem.Result->Ei->Prop}{mA:Bz->Option Bc}{prog:PySem.Program}{kw:O (Bz×Bc)}{env:PySem.Env}{value:Cd}{LM:Co}
namespace L2
structure NT(h:sw)(x dx C:f8)(mA:Str->Option db):Prop where
 obj:h.get? x=am (Ck C dx)
 ns:h.Ns1 dx mA
 ne:dx≠x
def QO{dx:f8}(n:h.Ns1 dx mA):∃od,h.get? dx=am od/\∀name,FG name od=am (mA name):=by
 obtain⟨o,es,ep,ho,hd,hk,_,hm⟩:=n;refine⟨o,ho,λname=>?_⟩;have e:=hm name;unfold nsFind findBy at e;rw[<- Array.find?_toList]at e;unfold FG;rw[hd];dsimp only
 split
 ·rename_i y q;rw[q]at e;exact congrArg am e
 ·rename_i q;rw[q]at e;have a:es.toList.any (·.refKey)=false:=by
   rw[List.any_eq_false];intro y hy;obtain⟨z,t,aj6⟩:=hk y (Array.mem_toList_iff.mp hy);simp[DictEntry.refKey,aj6]
  have a':¬es.toList.any (·.refKey)=true:=by rw[a];exact Bg
  rw[if_neg a'];exact congrArg am e
def NT.look{x dx C:f8}(I:NT h x dx C mA):∃od,PySem.W.InstAt h x (Ck C dx) C (am od)/\∀name,FG name od=am (mA name):=
 let ⟨od,ho,hl⟩:=QO I.ns
 ⟨od,⟨I.obj,rfl,rfl,ho⟩,hl⟩
section
variable{K:Ab}{x dx C f:f8}{name:Str}{v:db}
def get_map{expr:Bool}(X:K.In s.heap)(I:NT s.heap x dx C mA)(hg:DP K C name=true)(hh:Dw K C=true)
  (ha:BW K (.ref C) name=am ce) (hv:mA name=am v) (UW:Gh v=true) (h:Q v {s with toks:=s.toks+1}) :
  im (lc prog w) A (getAttr (.ref x) name expr) Q E s:=by
 obtain⟨od,J,hl⟩:=I.look;exact PySem.W.get_value X J (PySem.W.plainGet_of hg).1 (PySem.W.findObj_own hh ha rfl (by rw[hl,hv])) UW h
theorem Xc{ns:O Str}{Q:Unit->ii->Prop}(X:K.In s.heap)(I:NT s.heap x dx C mA)
  (hs:BW K (.ref C) "__setattr__"=am (am (.builtin "object.__setattr__"))) (hp:ED K C=true) (ht:Fm K C name=am ce) (hh:Dw K C=true)
  (hw:Gd mA ns) (hsz:ns.length<=sizeLine)
  (h:∀h',NT h' x dx C (λy=>if y=name then am v else mA y)->Cn dx s.heap h'->Q () {s with heap:=h',toks:=s.toks+2}) :
  im (lc prog w) A (setAttr (.ref x) name v) Q E s:=by
 obtain⟨od,J,hl⟩:=I.look;refine PySem.W.set_plain X J hs (PySem.W.osa_open (s:={s with toks:=s.toks+1}) (r:=ce) X J hp ht λb=>?_);obtain⟨cd,hc,ø⟩:=PySem.W.any_some hh;have hx:s.heap.get? x=am ⟨.ref C,am dx,.plain,#[]⟩:=I.obj;refine Aa (Af (Aa (Aa (wpAny_loadPart hx (Aa (PySem.W.Looks.here (s:={s with toks:=s.toks+1}) (PySem.W.looks_clsIn X hc) ?_))))));rw[ø];refine Af (a:=am dx) (Aa (Af (Aa ?_)));refine wpAny_nsSet1 (s:={s with toks:=s.toks+1}) I.ns λh' hn2 sE=>?_;obtain⟨oD,Wz,epD,hoD,hdD,hcD⟩:=hn2.count (Gd.cons name v hw);refine Aa (wpAny_lookBehind hoD (by rw[hdD];exact pastItsLine_dict (BG hcD (by rw[Ap];omega))) ?_);exact Af (h _ ⟨(sE.2 _ (BU I.ne)).trans I.obj,hn2,I.ne⟩ sE)
def Ui{vs:O db}(X:K.In s.heap)(hm:Fo K C=true)
  (hi:BW K (.ref C) "__init__"=am (am (.ref f))) (hf:PySem.W.typeIn K (.ref f)=am (.type "function"))
  (h:GT (lc prog w) (A.under (.builtin "type.__call__" ⟨.ref C::vs,kw⟩)) (.call (.ref f) ⟨.ref (s.heap.objs.size+1)::vs,kw⟩) (PySem.W.InitBack (s.heap.objs.size+1) R)
   {s with heap:=(s.heap.push BS).push (Ck C s.heap.objs.size)}) :
  GT (lc prog w) A (.call (.ref C) ⟨vs,kw⟩) R s:=by
 obtain⟨hh,g,d,t,os⟩:=s;exact PySem.W.make_core (PySem.W.makes_of X hm) (PySem.W.looks_findIn X hi) (λself=>PySem.W.bind_fn X self hf) (.inl rfl) h
end
def jP(f:Str)(v:V):O (Str×V)->O (Str×V)
 | []=>[(f,v)]
 | (g,x)::r=>if g=f then (g,v)::r else (g,x)::jP f v r
theorem tq(f g:Str)(v:V):∀fs:O (Str×V),(jP f v fs).lookup g=if g=f then am v else fs.lookup g
 | []=>by
  show C9 g [(f,v)]=_;by_cases h:g=f
  ·have hb:(g==f)=true:=beq_iff_eq.mpr h;simp only[C9,hb,if_pos h]
  ·have hb:(g==f)=false:=beq_eq_false_iff_ne.mpr h;simp only[C9,hb,if_neg h]
 | (k,x)::r=>by
  have ih:=tq f g v r;rw[show jP f v ((k,x)::r)=(if k=f then (k,v)::r else (k,x)::jP f v r) from rfl];by_cases hk:k=f
  ·rw[if_pos hk];by_cases h:g=k
   ·have hb:(g==k)=true:=beq_iff_eq.mpr h;simp only[C9,hb,if_pos (h.trans hk)]
   ·have hb:(g==k)=false:=beq_eq_false_iff_ne.mpr h;simp only[C9,hb,if_neg (λe:g=f=>h (e.trans hk.symm))]
  ·rw[if_neg hk];by_cases h:g=k
   ·have hb:(g==k)=true:=beq_iff_eq.mpr h;simp only[C9,hb,if_neg (λe:g=f=>hk (h.symm.trans e))]
   ·have hb:(g==k)=false:=beq_eq_false_iff_ne.mpr h;simp only[C9,hb];exact ih
theorem sA(f:Str)(v:V):∀fs:O (Str×V),f∈(jP f v fs).map (·.1)/\∀g,g∈fs.map (·.1)->g∈(jP f v fs).map (·.1)
 | []=>⟨by simp[jP],λg h=>by simp at h⟩
 | (k,x)::r=>by
  obtain⟨i1,i2⟩:=sA f v r;rw[show jP f v ((k,x)::r)=(if k=f then (k,v)::r else (k,x)::jP f v r) from rfl];by_cases hk:k=f
  ·rw[if_pos hk];subst hk;exact⟨by simp,λg h=>by simpa using h⟩
  ·rw[if_neg hk];refine⟨?_,λg h=>?_⟩
   ·rw[Ar];exact AN _ i1
   ·rw[Ar]at h ⊢;rcases Aw.mp h with e | e
    ·exact Aw.mpr (.inl e)
    ·exact AN _ (i2 g e)
theorem tu(f:Str)(v:V):∀fs:O (Str×V),(jP f v fs).length<=fs.length+1
 | []=>by simp[jP]
 | (k,x)::r=>by
  have ih:=tu f v r;rw[show jP f v ((k,x)::r)=(if k=f then (k,v)::r else (k,x)::jP f v r) from rfl];by_cases hk:k=f
  ·rw[if_pos hk,Ap,Ap];omega
  ·rw[if_neg hk,Ap,Ap];omega
def sR.some_of{o:Option db}(r:sR (am v) o):∃u,o=am u/\RelV v u:=by
 cases o with
 | none=>exact(show False from r).elim
 | some u=>exact⟨u,rfl,r⟩
def yP(r:RelV v u):Gh u=true:=by
 cases v with
 | aJ=>cases (show u=AY from r);rfl
 | bl b=>cases (show u=E6 b from r);rfl
 | int i=>obtain⟨t,e⟩:=(show ∃t,u=DQ i t from r);cases e;rfl
 | str x=>obtain⟨t,e⟩:=(show ∃t,u=Bp x t from r);cases e;rfl
 | byt b=>obtain⟨t,e⟩:=(show ∃t,u=Value.bytes b t from r);cases e;rfl
 | flt b=>obtain⟨t,e⟩:=(show ∃t,u=Gj b t from r);cases e;rfl
 | ref a=>cases (show u=Ay a from r);rfl
 | ty n=>cases (show u=CG n from r);rfl
section
variable{C dx:f8}{fs:O (Str×V)}
def Hc(a8:mU P w H h)(e:H a=am (.ins C dx fs)):∃mA,NT h a dx C mA/\(∀f,sR (fs.lookup f) (mA f))/\Gd mA (fs.map (·.1))/\fs.length<=1000/\H dx=am (.own a):=by
 obtain⟨d,z,ne,ob,mA,n,r,q⟩:=(show bh P w H h a (.ins C dx fs) from a8 a _ e);exact⟨mA,⟨ob,n,ne⟩,r,q,z,d⟩
end
structure RQ(K:Ab)(C:f8):Prop where
 pg:DP K C Str.empty=true
 hd:Dw K C=true
 po:ED K C=true
 sa:BW K (.ref C) "__setattr__"=am (am (.builtin "object.__setattr__"))
def RQ.get{K:Ab}{C:f8}(c:RQ K C)(f:Str):DP K C f=true:=c.pg
def fC(K:Ab)(C:f8)(f:Str):Prop:=BW K (.ref C) f=am ce
def fC.taker{K:Ab}{C:f8}{f:Str}(n:fC K C f):Fm K C f=am ce:=by
 unfold Fm;rw[show BW K (.ref C) f=am ce from n];rfl
section
variable{C dx:f8}{fs:O (Str×V)}{f:Str}
def MY{b:Bool}(I:Inv X Z σ H s)(e:H a=am (.ins C dx fs))(c:RQ X.K C)(n:fC X.K C f)(l:fs.lookup f=am v)
  (h:∀u s',Inv X Z σ H s'->RelV v u->Q u s'):im (lc X.prog X.w) A (getAttr (.ref a) f b) Q E s:=by
 obtain⟨mA,O_,r,_,_,_⟩:=Hc I.a8 e;obtain⟨u,hu,ru⟩:=sR.some_of (v:=v) (o:=mA f) (by rw[<- l];exact r f);exact get_map I.o8 O_ (c.get f) c.hd n hu (yP ru) (h u _ (I.tok _) ru)
theorem LY{Q:Unit->ii->Prop}(I:Inv X Z σ H s)(e:H a=am (.ins C dx fs))(c:RQ X.K C)(n:fC X.K C f)(hl:fs.length < 1000)(ry:RelV y u)
  (h:∀s',Inv X Z σ (upd H a (.ins C dx (jP f y fs))) s'->Q () s'):im (lc X.prog X.w) A (setAttr (.ref a) f u) Q E s:=by
 obtain⟨mA,O_,r,wi,_,ho⟩:=Hc I.a8 e;have hz:(fs.map (·.1)).length<=sizeLine:=by rw[Ah,Da];omega
 refine Xc I.o8 O_ c.sa c.po n.taker c.hd wi hz λh' O' sb=>h _ ?_;have hd:∃o,h'.get? dx=am o:=let ⟨o,_,_,e',_⟩:=O'.ns;⟨o,e'⟩;refine I.write (x:=a) (e:=dx) (by rw[e];exact Cj) (.inr ho) (λb q hb z=>(sb.2 b hb).trans z) hd ?_;refine⟨by rw[aq O_.ne];exact ho,?_,O_.ne,O'.obj,_,O'.ns,λg=>?_,λg hg=>?_⟩
 ·have:=tu f y fs;omega
 ·show sR ((jP f y fs).lookup g) (if g=f then am u else mA g);rw[tq];by_cases q:g=f
  ·rw[if_pos q,if_pos q];exact ry
  ·rw[if_neg q,if_neg q];exact r g
 ·by_cases q:g=f
  ·rw[q];exact(sA f y fs).1
  ·refine(sA f y fs).2 g (wi g λz=>hg ?_);show(if g=f then am u else mA g)=ce;rw[if_neg q];exact z
def Inv.made(I:Inv X Z σ H s):Inv X Z σ (upd (upd H s.heap.objs.size (.own (s.heap.objs.size+1))) (s.heap.objs.size+1) (.ins C s.heap.objs.size []))
  {s with heap:=(s.heap.push BS).push (Ck C s.heap.objs.size)}:=by
 have e1:(s.heap.push BS).get? s.heap.objs.size=am BS:=Ao s.heap rfl;have e2:((s.heap.push BS).push (Ck C s.heap.objs.size)).get? (s.heap.objs.size+1)=am (Ck C s.heap.objs.size):=by
  have:=Ao (s.heap.push BS) (o:=Ck C s.heap.objs.size) rfl
  rwa [Ce]at this
 have e3:(s.heap.push BS).Ns s.heap.objs.size (λ_=>ce):=⟨BS,#[],_,e1,rfl,(λe he=>absurd he (by simp)),λ_=>rfl⟩;have I1:=I.laid (a:=s.heap.objs.size) (o:=.own (s.heap.objs.size+1)) (h':=s.heap.push BS) (t':=s.toks) (λb u q=>Ag _ q) (Ak _) ⟨_,e1⟩;refine I1.laid (a:=s.heap.objs.size+1) (o:=.ins C s.heap.objs.size []) (t':=s.toks) (λb u q=>Ag _ q) (Fe (Ce _ _)) ?_;have ne:s.heap.objs.size≠s.heap.objs.size+1:=AA (De _);refine⟨by rw[aq ne,aD],A9 _,ne,e2,λ_=>ce,(Heap.Ns1.of_empty e3).at λo q=>Ag _ q,λ_=>Cj,λy hy=>absurd rfl hy⟩
def Pw{f:Str}{s:ii}(hb:pc e f env (pr e env)=pr e env)
  (h:im (lc prog w) A (pr e env) (λo s₁=>im (lc prog w) A (getAttr o f true) Q E s₁) E s):im (lc prog w) A (pr (.Attribute e f pos) env) Q E s:=
 Attribute_any_ h (by rw[arm_eval_Attribute,hb])
end
def aiZ(K:Ab)(ta:TE)(f:Str):TE:=λσ H Q=>ta σ H λx H1=>∃a C dx fs v,x=.ref a/\H1 a=am (.ins C dx fs)/\RQ K C/\fC K C f/\fs.lookup f=am v/\Q v H1
def aja(K:Ab)(ta tv:TE)(f:Str):TS:=λD σ H=>tv σ H λy H1=>ta σ H1 λx H2=>∃a C dx fs,x=.ref a/\H2 a=am (.ins C dx fs)/\RQ K C/\fC K C f/\fs.length < 1000/\
 D.nx σ (upd H2 a (.ins C dx (jP f y fs)))
section
variable{o:r9}{f:Str}{tv:TE}
def TJ(he:PE X e ta)(hb:pc e f X.env (pr e X.env)=pr e X.env):PE X (.Attribute e f pos) (aiZ X.K ta f):=by
 intro Z s σ H Q I h;refine Pw hb (bV (he Z s σ H _ I h) λu s1 ⟨x,H1,I1,rx,a,C,dx,fs,v,ex,ea,c,n,l,q⟩=>?_);subst ex;obtain rfl:u=Ay a:=rx;exact MY I1 ea c n l λu' s2 I2 ru=>⟨v,H1,I2,ru,q⟩
def Tp(ha:PE X o ta)(hv:PE X value tv)(hs:sB value (am (.Attribute o f Ë)) pos.line X.env=pure false):PS X (.Assign [.Attribute o f Ë] value pos) (aja X.K ta tv f):=by
 intro Z s σ H D I h;refine plainObj_wpAny_Assign_Attribute (bV (hv Z s σ H _ I h) λu s1 ⟨y,H1,I1,ry,q⟩=>bV (ha Z s1 σ H1 _ I1 q) λov s2 ⟨x,H2,I2,rx,a,C,dx,fs,ex,ea,c,n,l,q2⟩=>?_) hs;subst ex;obtain rfl:ov=Ay a:=rx;exact LY I2 ea c n l ry λs3 I3=>⟨σ,_,I3,q2⟩
end
section
variable{c:db}{b:Bool}
inductive n6(K:Ab)(H:Hp):V->db->Prop where
 | aJ:n6 K H .aJ (.type "NoneType")
 | bl (x:Bool):n6 K H (.bl x) (.type "bool")
 | int (i:Int):n6 K H (.int i) (.type "int")
 | str (x:Str):n6 K H (.str x) (.type "str")
 | flt (x:UInt64):n6 K H (.flt x) (.type "float")
 | lst {a:f8}{xs:List V} (e:H a=am (.lst xs)):n6 K H (.ref a) (.type "list")
 | bN {a:f8}{o:Obj}{xs:List V} (e:H a=am (.bN o (.lst xs))):n6 K H (.ref a) (.type "list")
 | tup {a:f8}{xs:List V} (e:H a=am (.tup xs)):n6 K H (.ref a) (.type "tuple")
 | dK {a:f8}{kvs:List (Key×V)} (e:H a=am (.dK kvs)):n6 K H (.ref a) (.type "dict")
 | dT {a:f8}{kvs:List (List Key×V)} (e:H a=am (.dT kvs)):n6 K H (.ref a) (.type "dict")
 | ins {a C dx:f8}{fs:List (Str×V)} (e:H a=am (.ins C dx fs)) (cl:RQ K C) (ha:BW K (.ref C) "__class__"=am (am (.builtin "object.__class__")))
   (hn:PySem.W.specialIn K (.builtin "object.__class__") "__get__"=am (am (.builtin "getset_descriptor.__get__"))) (htk:PySem.W.takesIn K (.builtin "object.__class__")=am true)
   (hm:PySem.W.mroIn K C (.type "object")=am true):n6 K H (.ref a) (.ref C)
def Q3{x:V}{t:db}(I:Inv X Z σ H s)(rx:RelV x u)(ty:n6 X.K H x t)(e:BJ X.K t c=am b)(h:∀tk,Q (.bool b) {s with toks:=tk}) :
  im (lc X.prog X.w) A (call (.builtin "isinstance") [u,c]) Q E s:=by
 cases ty with
 | aJ=>cases (show u=AY from rx);exact Bo PySem.W.kitx_none I.o8 Cj e (λz=>nomatch z) h
 | bl y=>cases (show u=E6 y from rx);exact Bo PySem.W.kitx_bool I.o8 Cj e (λz=>nomatch z) h
 | int i=>obtain⟨t,q⟩:=(show ∃t,u=DQ i t from rx);cases q;exact Bo PySem.W.kitx_int I.o8 Cj e (λz=>nomatch z) h
 | str y=>obtain⟨t,q⟩:=(show ∃t,u=Bp y t from rx);cases q;exact Bo PySem.W.kitx_str I.o8 Cj e (λz=>nomatch z) h
 | flt y=>obtain⟨t,q⟩:=(show ∃t,u=Gj y t from rx);cases q;exact Bo PySem.W.kitx_float I.o8 Cj e (λz=>nomatch z) h
 | @lst a xs ea=>
  cases (show u=Ay a from rx);obtain⟨_,_,n,_,h1⟩:=(show bh X.prog X.w H s.heap a (.lst xs) from I.a8 a _ ea);exact Bo EG I.o8 ⟨_,h1,rfl⟩ e (λz=>nomatch z) h
 | @bN a ob xs ea=>
  cases (show u=Ay a from rx);obtain⟨_,_,_,n,_,h1⟩:=(show bh X.prog X.w H s.heap a (.bN ob (.lst xs)) from I.a8 a _ ea);exact Bo EG I.o8 ⟨_,h1,rfl⟩ e (λz=>nomatch z) h
 | @tup a xs ea=>
  cases (show u=Ay a from rx);obtain⟨_,_,_,p⟩:=(show bh X.prog X.w H s.heap a (.tup xs) from I.a8 a _ ea);obtain⟨o,h1,h2,_⟩:=p;exact Bo F7 I.o8 ⟨o,h1,h2⟩ e (λz=>nomatch z) h
 | @dK a kvs ea=>
  cases (show u=Ay a from rx);obtain⟨_,_,vs,_,p⟩:=(show bh X.prog X.w H s.heap a (.dK kvs) from I.a8 a _ ea);obtain⟨o,es,ep,h1,h2,_⟩:=p;exact Bo EH I.o8 ⟨o,h1,h2.1⟩ e (λz=>nomatch z) h
 | @dT a kvs ea=>
  cases (show u=Ay a from rx);obtain⟨_,_,xs,_,o,es,ep,h1,h2,_⟩:=(show bh X.prog X.w H s.heap a (.dT kvs) from I.a8 a _ ea);exact Bo EH I.o8 ⟨o,h1,h2.1⟩ e (λz=>nomatch z) h
 | @ins a C dx fs ea cl ha hn htk hm=>
  cases (show u=Ay a from rx);obtain⟨mA,O_,_⟩:=Hc I.a8 ea;obtain⟨od,J,_⟩:=O_.look;exact Bo (PySem.W.kitx_own (cl.get _) cl.hd ha hn htk hm) I.o8 J e (λz=>nomatch z) h
end
end L2
variable{o:Cd}{v É pm cV ct oc:Bc}{vs:O L2.V}{mg:Bz->Option Bc}{base:Fc}{fd:PySem.FuncData}{ps:O Bz}{outer:O PySem.Env}{Â:Co}{qual:Bz}{scope:PySem.Scope}{an od:Option Bm}{Qw:Array (Option Bc)}
namespace L2
structure cI(k:Nat)(A:ww):Prop where
 hd:A.handled=ce
 dp:A.depth+3*k+5 < recursionLimit
 un:A.units+16*k+200 < xz
 gd:A.guards=am []
theorem cI.mono(r:cI k A)(h:j<=k):cI j A:=⟨r.hd,by have:=r.dp;omega,by have:=r.un;omega,r.gd⟩
theorem cI.deeper(r:cI (k+1) A)(env:Env):cI k (A.deeper env):=
 ⟨r.hd,by have:=r.dp;show A.depth+1+3*k+5 < _;omega,by have:=r.un;show A.units+3+16*k+200 < _;omega,r.gd⟩
def Mi{C:f8}:(A.under (.builtin "type.__call__" ⟨.ref C::us,kw⟩)).depth=A.depth+1:=by
 first | rfl | simp[Fb,Code.weight,Code.isCreation,Code.isGuard,Code.isCaller,Code.frames,Gb,guardIds]
def Mh{C:f8}:(A.under (.builtin "type.__call__" ⟨.ref C::us,kw⟩)).units=A.units+1:=by
 first | rfl | simp[Fb,Code.cUnits,Code.frames,Gb]
theorem cI.make(r:cI (k+1) A)(C:f8)(us:O db)(kw:O (Str×db)):cI k (A.under (.builtin "type.__call__" ⟨.ref C::us,kw⟩)):=
 ⟨r.hd,by have:=r.dp;rw[Mi];omega,by have:=r.un;rw[Mh];omega,by have h:=r.gd;simp[Fb,Code.guards,Code.isGuard,guardIds,pushGuards,h]⟩
theorem cI.depth(r:cI k A):A.depth < recursionLimit:=by have:=r.dp;omega
def aeu:TA:=λ_ H Q=>Q [] H
def ZI(ta:TE)(tr:TA):TA:=λσ H Q=>ta σ H λx H1=>tr σ H1 λxs H2=>Q (x::xs) H2
section
variable{t:TA}
def bW:PA X [] aeu:=λ_ _ _ _ H Q I h=>Cv ⟨[],H,I,.nil,h⟩
def aX(ha:PE X e te)(hr:PA X es t)(hs:‹fR X e es›):PA X (e::es) (ZI te t):=by
 intro pos Z s σ H Q I h;rw[hs];refine B2 (bV (ha Z s σ H _ I h) λu s1 ⟨x,H1,I1,r1,q1⟩=>?_);exact bV (hr pos Z s1 σ H1 _ I1 q1) λus s2 ⟨xs,H2,I2,r2,q2⟩=>⟨x::xs,H2,I2,.cons r1 r2,q2⟩
end
abbrev Sp:=O V->Hp->VK->XK->Prop
abbrev WD:=O Env->Hp->ii->XK->db->ii->Prop
structure IK(P:u8)(w:EQ)(K:Ab)(mg:Str->Option db)(base:sw)(A:ww)(outer:List Env)(s:ii)(H:Hp):Prop where
 frames:A.frames=am outer
 mod:Mod K mg base
 bs:∀b o,base.get? b=am o->s.heap.get? b=am o/\H b=ce
 WA:base.objs.size<=s.heap.objs.size
 nX:s.heap.FunFrames base outer
 YU:∀b∈M7 outer,H b=ce
 a8:mU P w H s.heap
 bare:Rs s.gens
def CE(outer:O Env)(P:u8)(w:EQ)(H:Hp)(s:ii)(Q:VK)(u:db)(s':ii):Prop:=
 ∃v H',s'.os=s.os/\Rs s'.gens/\Un (M7 outer) [] H H' s.heap s'.heap/\mU P w H' s'.heap/\RelV v u/\Q v H'
def CR(CX:WD)(outer:O Env)(P:u8)(w:EQ)(H:Hp)(s:ii)(Q:VK)(E:XK)(r:Result)(s':ii):Prop:=
 match r with
 | .ok (.ret u)=>CE outer P w H s Q u s'
 | .ok _=>False
 | .error e=>CX outer H s E e s'
structure eG(P:u8)(w:EQ)(K:Ab)(mg:Str->Option db)(base:sw)(CX:WD)(k:Nat)(f:f8)(fd:FS)(ps:List Str)(sp:Sp):Prop where
 len:∀vs H Q E,sp vs H Q E->vs.length=ps.length
 run:∀(A:ww) (outer:List Env) (s:ii) (H:Hp) (args:Args) (us:List db) (vs:List V) (Q:VK) (E:XK),cI k A->IK P w K mg base A outer s H->BindsTo s fd args (ps.zip us)->Vals vs us->sp vs H Q E->
  GT (lc P w) A (.call (.ref f) args) (CR CX outer P w H s Q E) s
def eG.imp{K:Ab}{CX:WD}{f:f8}{sp sp':Sp}(F:eG P w K mg base CX k f fd ps sp)
  (h:∀vs H Q E,sp' vs H Q E->sp vs H Q E):eG P w K mg base CX k f fd ps sp':=
 ⟨λvs H Q E q=>F.len vs H Q E (h _ _ _ _ q),λA outer s H args us vs Q E hr he hb hv hs=>F.run A outer s H args us vs Q E hr he hb hv (h _ _ _ _ hs)⟩
def IK.make{K:Ab}(e:IK P w K mg base A outer s H)(C:f8)(us:O db)(kw:O (Str×db)) :
  IK P w K mg base (A.under (.builtin "type.__call__" ⟨.ref C::us,kw⟩)) outer s H:=⟨by first | exact e.frames | (simpa[Fb,Code.envs,Gb,pushEnvs]using e.frames),e.mod,e.bs,e.WA,e.nX,e.YU,e.a8,e.bare⟩
section
def Inv.acW(I:Inv X Z σ H s):IK X.prog X.w X.K X.mg X.base X.A X.stack s H:=
 ⟨I.ok.frames,I.ok.mod,I.bs,BG I.ok.WA I.sz,I.stack,I.Oc,I.a8,I.bare⟩
def Inv.after{Q:VK}(I:Inv X Z σ H s)(h:CE X.stack X.prog X.w H s Q u s'):EP X Z σ Q u s':=by
 obtain⟨v,H',os,bare,un,a8,r,q⟩:=h;obtain⟨hh,g,d,t,os'⟩:=s';obtain rfl:os'=s.os:=os;exact⟨v,H',I.call (h':=hh) (g':=g) (d':=d) (t':=t) (ch:=[]) un a8 bare (λb z=>absurd z (by simp)),r,q⟩
end
def aew(C:f8)(sp:Sp)(dvs:O V)(E:XK)(t:TA):TE:=λσ H Q=>t σ H λvs H1=>∀x dx,H1 x=ce->H1 dx=ce->dx≠x->
 sp (.ref x::(vs++dvs)) (upd (upd H1 dx (.own x)) x (.ins C dx [])) (λv H2=>v=.aJ/\Q (.ref x) H2) E
def Binds(K:Ab)(fd:FS)(ps:O Str)(ds:O db):Prop:=
 ∀(s:ii) (us:O db),K.In s.heap->(us++ds).length=ps.length->BindsTo s fd ⟨us,[]⟩ (ps.zip (us++ds))
def Binds.all{K:Ab}(h:∀us:O db,us.length=ps.length->P3 fd ⟨us,[]⟩=pure (ps.zip us)):Binds K fd ps []:=λs us _ hl=>by
 rw[B1]at hl ⊢;exact .of_eq (h us hl)
def Passes(CX:WD)(X:Cx)(E:XK):Prop:=∀(Z:O (f8×Obj)) (σ:St) (H:Hp) (s:ii) (e:db) (s':ii),Inv X Z σ H s->CX X.stack H s E e s'->X.xe e s'
section
variable{CX:WD}{f C:f8}{sp:Sp}{dvs:O V}{ds:O db}{E:XK}{t:TA}
def SX{Q:VK}(F:eG X.prog X.w X.K X.mg X.base CX k f fd ps sp)(hr:cI k X.A)(hb:Binds X.K fd ps ds)(hd:Vals dvs ds)(hx:Passes CX X E)
  (I:Inv X Z σ H s) (r:Vals vs us) (h:sp (vs++dvs) H Q E):im (lc X.prog X.w) X.A (call (.ref f) us) (EP X Z σ Q) X.xe s:=by
 have r2:Vals (vs++dvs) (us++ds):=r.append hd;have hl:(us++ds).length=ps.length:=by rw[<- r2.length];exact F.len _ _ _ _ h
 refine wpAny_call (FB (F.run X.A X.stack s H ⟨us,[]⟩ (us++ds) (vs++dvs) Q E hr I.acW (hb s us I.o8 hl) r2 h) λr s' hq=>?_);cases r with
 | error e=>exact hx Z σ H s e s' I hq
 | ok fl=>
  cases fl with
  | ret u=>exact I.after hq
  | next=>exact Bb hq
  | brk=>exact Bb hq
  | cont=>exact Bb hq
structure Mk(K:Ab)(C f:f8):Prop where
 makes:Fo K C=true
 init:BW K (.ref C) "__init__"=am (am (.ref f))
 fn:PySem.W.isFn K (.ref f)=true
 kp:B6 K (.ref C)=true
def SW{Q:VK}(M:Mk X.K C f)(F:eG X.prog X.w X.K X.mg X.base CX k f fd ps sp)(hr:cI (k+1) X.A)(hb:Binds X.K fd ps ds)(hd:Vals dvs ds)
  (hx:Passes CX X E) (I:Inv X Z σ H s) (r:Vals vs us)
  (h:∀x dx,H x=ce->H dx=ce->dx≠x->sp (.ref x::(vs++dvs)) (upd (upd H dx (.own x)) x (.ins C dx [])) (λv H2=>v=.aJ/\Q (.ref x) H2) E) :
  im (lc X.prog X.w) X.A (call (.ref C) us) (EP X Z σ Q) X.xe s:=by
 have hq:=h (s.heap.objs.size+1) s.heap.objs.size (I.a8.fresh (Du _)) (I.a8.fresh (Ak _)) (AA (De _));have I2:=Inv.made (C:=C) I;have r2:Vals (V.ref (s.heap.objs.size+1)::(vs++dvs)) (Ay (s.heap.objs.size+1)::(us++ds)):=.cons rfl (r.append hd);have hl:(Ay (s.heap.objs.size+1)::us++ds).length=ps.length:=by
  have e:=r2.length;rw[F.len _ _ _ _ hq]at e;exact e.symm
 refine wpAny_call (Ui (f:=f) I.o8 M.makes M.init (beq_iff_eq.mp M.fn) (FB (F.run _ X.stack _ _ ⟨Ay (s.heap.objs.size+1)::us,[]⟩ (Ay (s.heap.objs.size+1)::(us++ds)) _ _ E (hr.make C us [])
  (I2.acW.make C us []) (hb _ (Ay (s.heap.objs.size+1)::us) I2.o8 hl) r2 hq) λr s' Wv=>?_))
 cases r with
 | error e=>exact hx Z σ _ _ e s' I2 Wv
 | ok fl=>
  cases fl with
  | ret u=>
   obtain⟨v,H',I3,rv,ev,q3⟩:=I2.after Wv;subst ev;exact⟨rv,⟨V.ref (s.heap.objs.size+1),H',I3,rfl,q3⟩⟩
  | next=>exact Bb Wv
  | brk=>exact Bb Wv
  | cont=>exact Bb Wv
def XF(M:Mk X.K C f)(F:eG X.prog X.w X.K X.mg X.base CX k f fd ps sp)(hr:cI (k+1) X.A)(hg:Gl X x)(hm:X.mg x=am (.ref C))(hb:Binds X.K fd ps ds)(hd:Vals dvs ds)(hx:Passes CX X E)
  (ha:PA X (e::es) t) (lA: ~~~(gK x)) (he:‹fR X e es›) (dg:‹kJ X pos es›) :
  PE X (.Call (.Name x p) (e::es) [] pos) (aew C sp dvs E t):=by
 intro Z s σ H Q I h;refine Bf (uG I hg hm ?_ lA);refine Em (h₀:=X.base) I.ok.mod.kin M.kp (bV (ha pos Z s σ H _ I h) λus s1 ⟨vs,H1,I1,r,q⟩=>⟨I1.o8,?_⟩) he dg;exact SW M F hr hb hd hx I1 r q
end
structure c7(N P:List Str)(sc:re):Prop where
 kind:sc.kind=.function
 co:sc.isCoroutine=false
 gen:sc.isGenerator=false
 nd:N.Nodup
 pre:N.take P.length=P
 par:∀x∈P,sc.names.lookup x=am .local\/sc.names.lookup x=am .cell
 abO:∀y∈sc.names,y.2≠.free
theorem za{kindOf:Str->Option FM}:∀{binds:O (Str×db)}{m:Str->Option db},(∀v,(x,v)∉binds)->bindL kindOf binds m x=m x
 | [],_,_=>rfl
 | (n,v)::r,m,h=>by
  unfold bindL;rw[za λw hw=>h w (AN _ hw)]
  split
  ·have:x≠n:=by rintro rfl;exact h v Bt
   simp[this]
  ·rfl
theorem zc{kindOf:Str->Option FM}:∀{binds:O (Str×db)}{m:Str->Option db},(∀v,(x,v)∉binds)->bindC kindOf binds m x=m x
 | [],_,_=>rfl
 | (n,v)::r,m,h=>by
  unfold bindC;rw[zc λw hw=>h w (AN _ hw)]
  split
  ·rfl
  ·have:x≠n:=by rintro rfl;exact h v Bt
   simp[this]
theorem zb{kindOf:Str->Option FM}:∀{P:O Str}{vs:O db}{i:Nat}{m:Str->Option db},P.Nodup->P[i]?=am x->vs[i]?=am v->kindOf x=am .local->
  bindL kindOf (P.zip vs) m x=am v
 | [],_,_,_,_,h,_,_=>by simp at h
 | _::_,[],_,_,_,_,h,_=>by simp at h
 | p::P,w::vs,0,m,nd,h1,h2,hk=>by
  simp at h1 h2;subst h1;subst h2;show bindL kindOf ((p,w)::P.zip vs) m p=_;unfold bindL;rw[za λv hv=>(Bx.mp nd).1 (Eb hv).1,if_pos hk];simp
 | p::P,w::vs,i+1,m,nd,h1,h2,hk=>by
  show bindL kindOf ((p,w)::P.zip vs) m x=_;unfold bindL;exact zb (i:=i) (Bx.mp nd).2 (by simpa using h1) (by simpa using h2) hk
theorem zd{kindOf:Str->Option FM}:∀{P:O Str}{vs:O db}{i:Nat}{m:Str->Option db},P.Nodup->P[i]?=am x->vs[i]?=am v->kindOf x≠am .local->
  bindC kindOf (P.zip vs) m x=am v
 | [],_,_,_,_,h,_,_=>by simp at h
 | _::_,[],_,_,_,_,h,_=>by simp at h
 | p::P,w::vs,0,m,nd,h1,h2,hk=>by
  simp at h1 h2;subst h1;subst h2;show bindC kindOf ((p,w)::P.zip vs) m p=_;unfold bindC;rw[zc λv hv=>(Bx.mp nd).1 (Eb hv).1,if_neg hk];simp
 | p::P,w::vs,i+1,m,nd,h1,h2,hk=>by
  show bindC kindOf ((p,w)::P.zip vs) m x=_;unfold bindC;exact zd (i:=i) (Bx.mp nd).2 (by simpa using h1) (by simpa using h2) hk
def start(N:O Str)(vs:O V):St:=vs.map am++An (N.length-vs.length) ce
def qR(CX:WD)(P:u8)(w:EQ)(K:Ab)(mg:Str->Option db)(base:sw)(N:O Str)(qual:Str)(scope:re)(f:f8)(cd:db)(A:ww)(outer:O Env)(s:ii)(H:Hp)(E:XK):Cx where
 prog:=P
 w:=w
 K:=K
 mg:=mg
 base:=base
 A:=A.deeper (Fa qual scope s.heap.objs.size f cd)
 N:=N
 s₀:=s
 H₀:=H
 env:=Fa qual scope s.heap.objs.size f cd
 outer:=outer
 stack:=Fa qual scope s.heap.objs.size f cd::outer
 ex:=[]
 calm:=true
 fn:=λ_=>true
 pn:=[]
 xe:=λe s'=>im (lc P w) (A.deeper (Fa qual scope s.heap.objs.size f cd)) (leaving (Fa qual scope s.heap.objs.size f cd) e) (λ_ Wu=>CX outer H s E e Wu) (λe' Wu=>CX outer H s E e' Wu) s'
def KZ{sc:re}(h:sc.names.lookup x=am .cell):∃c,(cellsFrom n sc.names []).lookup x=am c:=by
 have q:=E5 sc.names n [] (.inl h);exact Option.isSome_iff_exists.mp q
theorem Q4{CX:WD}{K:Ab}{N:O Str}{f:f8}{cd:db}{s1:ii}{E:XK}
  (S:c7 N ps scope) (hd:A.handled=ce) (e0:IK P w K mg base A outer s H) (hl:vs.length=ps.length) (r:Vals vs us)
  (x:InCallC s s.heap.objs.size (bindL (Fa qual scope s.heap.objs.size f cd).kindOf (ps.zip us) λ_=>ce) (cellsFrom (s.heap.objs.size+1) scope.names []) (bindC (Fa qual scope s.heap.objs.size f cd).kindOf (ps.zip us) λ_=>ce) s1) :
  Inv (qR CX P w K mg base N qual scope f cd A outer s H E) [] (start N vs) H s1:=by
 have dg:ps.length<=N.length:=by have:=congrArg Ca S.pre;rw[DW]at this;omega
 obtain⟨h1,tk,rfl,hk⟩:=x.done;have Ĝ:∀b:f8,b∉(qR CX P w K mg base N qual scope f cd A outer s H E).ex:=λb z=>absurd (show b∈([]:O f8) from z) (by simp);refine⟨⟨e0.mod,S.kind,rfl,rfl,Ak _,λy z c h1 h2=>?_,λy hy=>?_,λy c _ h=>?_,λ_=>hd,FP e0.frames,.inr ⟨rfl,rfl⟩,λb z=>absurd z (Ĝ b),e0.bs,e0.WA,λb _ _=>Ĝ b,λb z=>absurd z (Ĝ b),e0.nX,e0.YU⟩,
  rfl,e0.bare,Un.kept hk,⟨_,x.toInCall.ns,λi y v h1 h2 h3=>?_⟩,λy c h=>⟨_,x.cell y c h⟩,e0.a8.fresh (Ak _),λy c h=>?_,λp hp=>absurd (show p∈([]:O (f8×Obj)) from hp) (by simp),e0.a8.kept hk,?_⟩
 ·exact name_of_addr x.apart (BC h1) (BC h2)
 ·rcases hy with hy | hy
  ·exact KZ hy
  ·exact absurd rfl (S.abO _ (BC hy))
 ·exact DB (x.above y c (BC h))
 ·have hi:i < vs.length:=by
   unfold start at h2;by_cases hi:i < vs.length
   ·exact hi
   ·rw[Az (by simpa using hi)]at h2;rw[Bi]at h2
    split at h2 <;> cases h2
  have ha:vs[i]?=am v:=by
   unfold start at h2;rw[Ax (by simpa using hi),Ai]at h2;cases e:vs[i]? with
   | none=>rw[e]at h2;cases h2
   | some a=>rw[e]at h2;cases h2;rfl
  obtain⟨u,hu,rv⟩:=r.get ha;have hp:ps[i]?=am y:=by
   rw[<- S.pre,List.getElem?_take_of_lt ∅];exact h1
  have ndP:ps.Nodup:=by rw[<- S.pre];exact S.nd.sublist (List.take_sublist _ _)
  refine⟨u,rv,?_⟩;rcases S.par y (AM hp) with k | k
  ·exact .inl ⟨k,zb ndP hp hu k⟩
  ·obtain⟨c,e⟩:=KZ (n:=s.heap.objs.size+1) k;refine .inr ⟨.inl k,c,e,?_⟩;have q:=x.cell y c e;rw[zd ndP hp hu (by show scope.names.lookup y≠_;rw[k];decide)]at q;exact q
 ·exact e0.a8.fresh (DB (x.above y c (BC h)))
 ·unfold start;show _=N.length;rw[Al,Ah,Bh];omega
def aaq{CX:WD}{K:Ab}{f:f8}{name:Str}{params:Arguments}{dV kV:db}{N:O Str}{sp:Sp}(lk:K.lookup f=am ⟨oc,od,.func (BO name qual params body scope dV kV É pm an cV ct),Qw⟩)(g9:C6 K cV qual=true)(S:c7 N ps scope)
  (len:∀vs H Q E,sp vs H Q E->vs.length=ps.length)
  (Kg:∀(A:ww) (outer:O Env) (s:ii) (H:Hp) (vs:O V) (Q:VK) (E:XK),cI k (A.deeper (Fa qual scope s.heap.objs.size f cV))->sp vs H Q E->
   ∃t,q9 (qR CX P w K mg base N qual scope f cV A outer s H E) body t/\t {nx:=λ_ H'=>Q .aJ H',rt:=Q} (start N vs) H) :
  eG P w K mg base CX (k+1) f (BO name qual params body scope dV kV É pm an cV ct) ps sp:=by
 refine⟨len,λA outer s H args us vs Q E hr e0 hb r UY=>?_⟩;have hl:=len _ _ _ _ UY;have KX:K.In s.heap:=e0.mod.kin.keeps λb o e=>(e0.bs b o e).1;have Ő:s.heap.NoLimit:=e0.mod.nolimit.keeps λb o e=>(e0.bs b o e).1;have af9:∀y∈ps.zip us,scope.names.lookup y.1=am .local\/(scope.names.lookup y.1=am .cell/\((cellsFrom (s.heap.objs.size+1) scope.names []).lookup y.1).isSome=true):=λ⟨n,v⟩ hy=>by
  rcases S.par n (Eb hy).1 with q | q
  ·exact .inl q
  ·exact .inr ⟨q,E5 _ _ _ (.inl q)⟩
 refine codeAny_call_function hr.depth (KX _ _ lk) rfl S.co S.gen rfl (PySem.W.codeRec_of KX g9) (hb _ _ _ _ ?_);refine wpAny_newFunctionEnv_cells S.kind af9 λenv he s1 x=>?_;subst he;refine⟨Ő.keeps x.toInCall.keep,codeAny_func ?_⟩;obtain⟨t,ht,hq⟩:=Kg A outer s H vs Q E (hr.deeper _) UY;have I:Inv (qR CX P w K mg base N qual scope f cV A outer s H E) [] (start N vs) H s1:=Q4 S hr.hd e0 hl r x;refine BL (ht [] s1 (start N vs) H _ I hq) (λfl s' hs=>?_) λe s' hs=>hs;have fin:∀{σ':St}{H':Hp}{v:V}{u:db},Inv (qR CX P w K mg base N qual scope f cV A outer s H E) [] σ' H' s'->RelV v u->Q v H'->CE outer P w H s Q u s':=
  λ{σ' H' v u} J rv q=>⟨v,H',J.os,J.bare,J.base,J.a8,rv,q⟩
 cases fl with
 | ret u=>
  obtain⟨v,σ',H',J,rv,q⟩:=hs;exact fin J rv q
 | next=>
  obtain⟨σ',H',J,q⟩:=hs;exact fin (v:=V.aJ) (u:=AY) J rfl q
 | brk=>
  obtain⟨_,_,_,q⟩:=hs;exact Bb q
 | cont=>
  obtain⟨_,_,_,q⟩:=hs;exact Bb q
end L2
variable{T:String}
namespace L2
section
variable{t:TA}{id:String}{r:O V->Hp->VK->Prop}
def tCB(r:O V->Hp->VK->Prop)(t:TA):TE:=λσ H Q=>t σ H λvs H1=>r vs H1 Q
def f7(hc:cm X (.builtin id) r)(hg:Gl X x)(hm:X.mg x=ce)(hv:sK x=am (.builtin id))(ha:PA X (e::es) t)(hn: ~~~(x≠"__name__"))(lA: ~~~(gK x))
  (he:‹fR X e es›) (dg:‹kJ X pos es›):PE X (.Call (.Name x p) (e::es) [] pos) (tCB r t):=by
 intro Z s σ H Q I h;refine Bf (gB I hg hm hv ?_ hn lA);exact PyProof.Rows.callWith_builtin1 (bV (ha pos Z s σ H _ I h) λus s1 ⟨vs,H1,I1,r1,q1⟩=>hc Z s1 σ H1 vs us Q I1 r1 q1) he dg
def mZ(hc:cm X (.type T) r)(hg:Gl X x)(hm:X.mg x=ce)(hv:sK x=am (.type T))(ha:PA X (e::es) t)(hn: ~~~(x≠"__name__"))(lA: ~~~(gK x))
  (he:‹fR X e es›) (dg:‹kJ X pos es›):PE X (.Call (.Name x p) (e::es) [] pos) (tCB r t):=by
 intro Z s σ H Q I h;refine Bf (gB I hg hm hv ?_ hn lA);exact A6 (bV (ha pos Z s σ H _ I h) λus s1 ⟨vs,H1,I1,r1,q1⟩=>hc Z s1 σ H1 vs us Q I1 r1 q1) he dg
end
end L2
variable{l:Bm}{hi:Option Int}{ns ms:O Int}{items:Array Bc}{vl vu:Bc}
namespace HT
open PySem PyProof.Rows
def lexLt:O Int->O Int->Bool
 | [],[]=>false
 | [],_::_=>true
 | _::_,[]=>false
 | x::xs,y::ys=>if x=y then lexLt xs ys else decide (x < y)
theorem Mo(x y:Int)(xs ys:O Int):lexLt (x::xs) (y::ys)=if x=y then lexLt xs ys else decide (x < y):=rfl
def Vz(A:ww)(s:ii)(a:Int)(t:Tok)(c:Int)(u:Tok):∃e,DR A s (.int a t) (.int c u) e/\(e=true↔a=c):=
 ⟨(a==c),En a t c u,by simp⟩
def S5(A:ww)(s:ii)(a:Int)(t:Tok)(c:Int)(u:Tok)(prog:u8)(w:EQ)(E:db->ii->Prop)(Q:db->ii->Prop)(h:Q (.bool (decide (a < c))) s) :
  im (lc prog w) A (richCompare .Lt (.int a t) (.int c u)) Q E s:=
 (PyProof.Rows.lt_int h:im (lc prog w) A (v4 .Lt (.int a t) (.int c u)) Q E s)
section
open PySem.SeqAt
open PySem.AutoSeq1 (wpAny_loadPart')
open PySem.MeetsSeq PySem.MeetsSeq2 PySem.MeetsSeq3
theorem xi(l b:f8)(items cn:Array db)(n n2:Nat)(dd Zg:Option f8)(sl Wt:Array (Option db))(ns ms:O Int)(hi:zn items.toList ns)(hj:zn cn.toList ms) :
  Meets (BT.«tuple.__lt__» ⟨[.ref l,.ref b],[]⟩)
   (λ_ R s=>s.heap.get? l=am {cls:=.type "tuple",dict:=dd,data:=.seq items n,slots:=sl}/\s.heap.get? b=am {cls:=.type "tuple",dict:=Zg,data:=.seq cn n2,slots:=Wt}/\
    R (.ok (.ret (.bool (lexLt ns ms)))) s):=
 .of_wp λprog w A R s h=>by
  obtain⟨hp,g,d,tk,os⟩:=s;obtain⟨hl,hb,h⟩:=h;have f2:=AutoSeq1.sub_tuple_tuple;have z1:items.size=ns.length:=by rw[<- hi.length];simp
  have z2:cn.size=ms.length:=by rw[<- hj.length];simp
  wp_walk using wpAny_loadPart' hl,wpAny_loadPart' hb,wpAny_forIn_list _ (λrest b s'=>b.1=ce/\s'=⟨hp,g,d,tk,os⟩/\∃(vs ws:O db) (yA ć:O Int),rest=vs.zip ws/\
   zn vs yA/\zn ws ć/\yA.length+cn.size=ć.length+items.size/\R (.ok (.ret (.bool (lexLt yA ć)))) ⟨hp,g,d,tk,os⟩) _
  case turn=>
   rintro⟨y,x⟩ rest b s' ⟨ú,rfl,vs,ws,yA,ć,hz,hvi,hwi,À,hR⟩;cases hvi with
   | nil=>rw[List.zip_nil_left]at hz;cases hz
   | cons a t ajM=>
    cases hwi with
    | nil=>rw[List.zip_nil_right]at hz;cases hz
    | cons c u ajL=>
     rw[List.zip_cons_cons]at hz;injection hz with hyx af1;injection hyx with hy hx;subst hy hx;rw[Mo]at hR;simp only[Ap]at À;obtain⟨e,he,agd⟩:=Vz A.in1 ⟨hp,g,d,tk,os⟩ a t c u;refine Aa (he prog w _ _ ?_);cases e with
     | true=>
      rw[if_pos (agd.mp rfl)]at hR
      wp_walk
      exact⟨rfl,rfl,_,_,_,_,af1,ajM,ajL,by omega,hR⟩
     | false=>
      rw[if_neg (λq=>absurd (agd.mpr q) Bg)]at hR;have hri:=S5 A.in1 ⟨hp,g,d,tk,os⟩ a t c u prog w
      wp_walk using hri
      exact⟨_,rfl,by simpa using hR⟩
  case fin=>
   rintro⟨b1,b2⟩ s' ⟨ú,rfl,vs,ws,yA,ć,hz,hvi,hwi,À,hR⟩;simp only at ú;subst ú;have hv:lexLt yA ć=decide (items.size < cn.size):=by
    cases hvi with
    | nil=>
     cases hwi with
     | nil=>
      exact(decide_eq_false ∅).symm
     | cons c u hw=>
      simp only[BN,Ap]at À;exact(decide_eq_true ∅).symm
    | cons a t hv=>
     cases hwi with
     | nil=>
      simp only[BN,Ap]at À;exact(decide_eq_false ∅).symm
     | cons c u hw=>
      rw[List.zip_cons_cons]at hz;cases hz
   rw[hv]at hR
   wp_walk
   exact⟨_,rfl,by simpa[Builtin.Tuple.tupleCompareSizes]using hR⟩
  case h=>
   exact⟨rfl,rfl,items.toList,cn.toList,ns,ms,rfl,hi,hj,by omega,h⟩
end
section
def Mj{cn:Array db}(hl:IsTup s.heap l items)(hb:IsTup s.heap b cn)(hi:zn items.toList ns)(hj:zn cn.toList ms)
  (hu:A.units < xz) (h:Q (.bool (lexLt ns ms)) s):im (lc prog w) A (v4 .Lt (.ref l) (.ref b)) Q E s:=by
 obtain⟨⟨cls,dd,data,sl⟩,ho,hc,n,hd⟩:=id hl;obtain⟨⟨ű,Zg,data2,Wt⟩,Q9,U4,n2,Õ⟩:=id hb;simp only at hc hd U4 Õ;subst hc hd U4 Õ;exact richCompare_meets_room (op:=.Lt) ⟨_,ho,rfl⟩ ⟨_,Q9,rfl⟩ PySem.F.slot_tuple_lt PySem.F.entry_tuple_lt (PySem.F.args_tuple_lt_2 _ _) (xi l b items cn n n2 dd Zg sl Wt ns ms hi hj)
  ⟨ho,Q9,show E6 (lexLt ns ms)≠Value.notImplemented/\Q (.bool (lexLt ns ms)) s from⟨(λx=>nomatch x),h⟩⟩ hu
def Zj{t:f8}{vs ws:O db}(ht:IsTup s.heap t vs.toArray)(hb:IsTup s.heap b ws.toArray)(hv:vs≠[])
  (h1:ws=[]->Q (.ref t) s) (h2:ws≠[]->Q (.ref s.heap.objs.size) {s with heap:=s.heap.push {cls:=.type "tuple",data:=.seq (vs++ws).toArray}})
  (hsz:vs.length+ws.length<=sizeLine):im (lc prog w) A (wn .Add (.ref t) (.ref b)) Q E s:=by
 obtain⟨⟨cls,dd,data,sl⟩,ho,hc,n,hd⟩:=id ht;obtain⟨⟨ű,Zg,data2,Wt⟩,Q9,U4,n2,Õ⟩:=id hb;simp only at hc hd U4 Õ;subst hc hd U4 Õ;have e:vs.toArray++ws.toArray=(vs++ws).toArray:=by simp
 by_cases hw:ws=[]
 ·exact concat_meets ⟨_,ho,rfl⟩ ⟨_,Q9,rfl⟩ noFill_tuple_add seq_tuple_add Dx Ds (Dj _ _)
   (tuple_addW1 t b vs.toArray ws.toArray n n2 dd Zg sl Wt (by simpa using hv) (by simp[hw])) ⟨ho,Q9,h1 hw⟩
 ·refine concat_meets ⟨_,ho,rfl⟩ ⟨_,Q9,rfl⟩ noFill_tuple_add seq_tuple_add Dx Ds (Dj _ _)
   (tuple_addW2 t b vs.toArray ws.toArray n n2 dd Zg sl Wt (by simpa using hv) (by simpa using hw) (by rw[Aj,Aj];exact hsz)) ⟨ho,Q9,?_⟩
  rw[e];exact h2 hw
def d9(n d:Nat):Option Int->Nat
 | none=>d
 | some v=>if v < 0 then (v+(n:Int)).toNat else min v.toNat n
theorem Jq(n d:Nat):d9 n d ce=d:=rfl
theorem Xe(n d k:Nat):d9 n d (am (k:Int))=min k n:=by
 show(if (k:Int) < 0 then ((k:Int)+(n:Int)).toNat else min (k:Int).toNat n)=min k n;rw[if_neg ∅,BH]
theorem Pq(v:Int)(n d:Nat):(if v < 0 then max (v+(n:Int)) 0 else min v (n:Int))=((d9 n d (am v):Nat):Int):=by
 show(if v < 0 then max (v+(n:Int)) 0 else min v (n:Int))=(((if v < 0 then (v+(n:Int)).toNat else min v.toNat n):Nat):Int);by_cases hv:v < 0
 ·simp only[if_pos hv];omega
 ·simp only[if_neg hv];omega
theorem NJ(lo hi:Option Int)(n:Nat):Builtin.Slice.sliceAdjust lo hi 1 (n:Int)=(((d9 n 0 lo:Nat):Int),((d9 n n hi:Nat):Int)):=by
 have h1:¬((1:Int) < 0):=by omega
 unfold Builtin.Slice.sliceAdjust;refine Prod.ext ?_ ?_
 ·cases lo with
  | none=>rfl
  | some v=>exact Pq v n 0
 ·cases hi with
  | none=>rfl
  | some v=>exact Pq v n n
theorem L5(i j:Nat):Builtin.Slice.slicePlaces (i:Int) (j:Int) 1=j-i:=by
 unfold Builtin.Slice.slicePlaces;have h1:(1:Int) > 0:=by omega
 split <;> omega
def iL{o:Option Int}{Q:Option Int->ii->Prop}(p:IsPart v o)(h:Q o s):im (lc prog w) A (Builtin.Slice.slicePartIndex v) Q E s:=by
 cases p with
 | none=>exact slicePart_none h
 | int i t=>exact slicePart_int h
def kh{sl:f8}{lo:Option Int}{Q:Int×Int×Nat->ii->Prop}(hs:s.heap.IsSliceOf sl vl vu .none)(pl:IsPart vl lo)(pu:IsPart vu hi)
  (h:Q (((d9 n 0 lo:Nat):Int),1,d9 n n hi-d9 n 0 lo) s):im (lc prog w) A (Builtin.Slice.sliceApplied (.ref sl) (pure (n:Int))) Q E s:=by
 obtain⟨os,RX,č,YQ⟩:=id hs;refine Aa (Aa (A7 RX YQ (x:=vl) rfl (Aa (A7 RX YQ (x:=vu) rfl (Aa (A7 RX YQ (x:=.none) rfl (Af ?_)))))));refine Aa (slicePart_none ?_);refine Aa (iL pl (Aa (iL pu (Aa (Af ?_)))));show im _ _ (match Builtin.Slice.sliceAdjust lo hi 1 (n:Int) with | (lo,hi)=>pure (lo,(1:Int),Builtin.Slice.slicePlaces lo hi 1)) _ _ s;rw[NJ lo hi n];show im _ _ (pure (((d9 n 0 lo:Nat):Int),(1:Int),Builtin.Slice.slicePlaces ((d9 n 0 lo:Nat):Int) ((d9 n n hi:Nat):Int) 1)) _ _ s;rw[L5];exact Af h
theorem Tu(xs:Array db)(i k:Nat):((AD k).filterMap λ(m:Nat)=>xs[((i:Int)+(m:Int)*1).toNat]?).toArray=((xs.toList.drop i).take k).toArray:=by
 have e:(λ(m:Nat)=>xs[((i:Int)+(m:Int)*1).toNat]?)=λm=>xs[i+m]?:=by
  funext m;have:((i:Int)+(m:Int)*1).toNat=i+m:=by omega
  rw[this]
 rw[e];have:=pick_run xs i k;rw[List.filterMap_map]at this;have e2:((λx=>xs[x]?)∘λx=>i+x)=λm=>xs[i+m]?:=rfl;rw[e2]at this;rw[this]
theorem qD{t sl:f8}{lo:Option Int}(ht:IsTup s.heap t items)(hs:s.heap.IsSliceOf sl vl vu .none)(pl:IsPart vl lo)(pu:IsPart vu hi)
  (hw:¬(d9 items.size 0 lo=0/\d9 items.size items.size hi=items.size))
  (h:Q (.ref s.heap.objs.size) {s with heap:=s.heap.push {cls:=.type "tuple",data:=.seq ((items.toList.drop (d9 items.size 0 lo)).take (d9 items.size items.size hi-d9 items.size 0 lo)).toArray}})
  (hsz:items.size<=sizeLine):im (lc prog w) A (Op (.ref t) (.ref sl)) Q E s:=by
 have O3:sizeOk (.seq ((items.toList.drop (d9 items.size 0 lo)).take (d9 items.size items.size hi-d9 items.size 0 lo)).toArray):=by
  show((items.toList.drop (d9 items.size 0 lo)).take (d9 items.size items.size hi-d9 items.size 0 lo)).toArray.size<=sizeLine;rw[Aj,DW,E1,Cm];omega
 obtain⟨os,RX,č,YQ⟩:=id hs;have Ĭ:s.TypeIs (.ref sl) "slice":=⟨os,RX,č⟩;unfold Op
 try with_reducible refine Bl ?_
 first | refine Aa (Af ?_) | skip
 refine Aa (EI ht.typeIs ⋯ ?_);refine Aa (A4 (name:=B7 "__getitem__") ht.typeIs AV
  (Bd AV ht.typeIs entry_tuple_getitem ?_ (args_tuple_getitem _ _)))
 show im _ _ (Builtin.Tuple.tupleItemsOf (.ref t) >>= _) _ _ s;refine Aa (tupleItemsOf_ ht ?_);refine Aa (Cw Ĭ ?_);refine Aa (kh hs pl pu ?_);have hno:¬((((d9 items.size 0 lo:Nat):Int)==0&&(1:Int)==1&&(d9 items.size items.size hi-d9 items.size 0 lo)==items.size)=true):=by
  intro q;rw[AI,AI]at q;have q1:=eq_of_beq q.1.1;have q2:=eq_of_beq q.2;exact hw ⟨by omega,by omega⟩
 show im _ _ (if (((d9 items.size 0 lo:Nat):Int)==0&&(1:Int)==1&&(d9 items.size items.size hi-d9 items.size 0 lo)==items.size)=true then _ else _) _ _ s;rw[if_neg hno,Tu]
 first
  | exact Aa (m:=Builtin.Tuple.tupleExact _) (AJ (Af ⟨_,rfl,Af h⟩) O3)
  | exact Aa (m:=Builtin.Tuple.tupleExact _) (AJ (Aa (Af (Af ⟨_,rfl,Af h⟩))) O3)
  | exact Aa (Aa (m:=Builtin.Tuple.tupleExact _) (AJ (Af (Af ⟨_,rfl,Af h⟩)) O3))
  | exact Aa (Aa (m:=Builtin.Tuple.tupleExact _) (AJ (Af ⟨_,rfl,Af h⟩) O3))
end
end HT
variable{p2:Co}
namespace L2
abbrev TO:=St->Hp->(Option Int->Hp->Prop)->Prop
def PO(X:Cx)(e:Option r9)(t:TO):Prop:=
 ∀(Z:O (f8×Obj)) (s:ii) (σ:St) (H:Hp) (Q:Option Int->Hp->Prop),Inv X Z σ H s->t σ H Q->
  im (lc X.prog X.w) X.A (evalPart e X.env) (λu s'=>∃o H',Inv X Z σ H' s'/\IsPart u o/\Q o H') X.xe s
def WU:TO:=λ_ H Q=>Q ce H
def aet(t:TE):TO:=λσ H Q=>t σ H λx H1=>∃i,x=.int i/\Q (am i) H1
def intsAre_of:∀{us:O db},Vals (ns.map V.int) us->zn us ns:=by
 induction ns with
 | nil=>intro us r;rw[Cz]at r;cases r;exact .nil
 | cons n ns ih=>
  intro us r;rw[Ar]at r;cases r with
  | cons r1 r2=>
   obtain⟨t,e⟩:=r1;subst e;exact .cons n t (ih r2)
section
variable{lo hi:Option r9}{tl th:TO}
def Xw:PO X ce WU:=by
 intro Z s σ H Q I h;exact Af ⟨ce,H,I,.none,h⟩
def Xv(h:PE X e te):PO X (am e) (aet te):=by
 intro Z s σ H Q I hw;refine bV (h Z s σ H _ I hw) λu s1 ⟨x,H1,I1,r1,q1⟩=>?_;obtain⟨i,rfl,q⟩:=q1;obtain⟨t,rfl⟩:=r1;exact⟨am i,H1,I1,.int i t,q⟩
def SlR(X:Cx)(r:V->Option Int->Option Int->Hp->VK->Prop):Prop:=
 ∀(Z:O (f8×Obj)) (s:ii) (σ:St) (H:Hp) (x:V) (v vl vu:db) (lo hi:Option Int) (sl:f8) (Q:VK),Inv X Z σ H s->RelV x v->s.heap.IsSliceOf sl vl vu .none->IsPart vl lo->IsPart vu hi->r x lo hi H Q->
  ∃T id,Re (.type T) "__getitem__"=pure (am (.builtin id))/\s.TypeIs v T/\im (lc X.prog X.w) X.A (Op v (.ref sl)) (EP X Z σ Q) X.xe s
def tSl(r:V->Option Int->Option Int->Hp->VK->Prop)(te:TE)(tl th:TO):TE:=λσ H Q=>te σ H λx H1=>tl σ H1 λl H2=>th σ H2 λu H3=>r x l u H3 Q
def TC{r:V->Option Int->Option Int->Hp->VK->Prop}(hr:SlR X r)(he:PE X e te)(hl:PO X lo tl)(hu:PO X hi th):PE X (.Subscript e (.Slice lo hi ce p2) pos) (tSl r te tl th):=by
 intro Z s σ H Q I h;refine Subscript_ (bV (he Z s σ H _ I h) λv s1 ⟨x,H1,I1,r1,q1⟩=>?_);refine wpAny_Slice (bV (hl Z s1 σ H1 _ I1 q1) λvl s2 ⟨l,H2,I2,pl,q2⟩=>bV (hu Z s2 σ H2 _ I2 q2) λvu s3 ⟨u,H3,I3,pu,q3⟩=>?_);rw[evalPart_none];refine Af ?_;have I4:Inv X Z σ H3 {s3 with heap:=s3.heap.push {cls:=.type "slice",data:=.fields #[vl,vu,.none]}}:=I3.kept (t':=s3.toks) λb ob q=>Ag _ q;obtain⟨T,id,hT,ht,hg⟩:=hr Z {s3 with heap:=s3.heap.push {cls:=.type "slice",data:=.fields #[vl,vu,.none]}} σ H3 x v vl vu l u s3.heap.objs.size Q I4 r1 (FK.new ..) pl pu q3;show im (lc X.prog X.w) X.A (subscriptTail e (.Slice lo hi ce p2) v (.ref s3.heap.objs.size)) (EP X Z σ Q) X.xe {s3 with heap:=s3.heap.push {cls:=.type "slice",data:=.fields #[vl,vu,.none]}};exact tail_any (ops:=[.ref s3.heap.objs.size,v]) ht hT hg (by with_unfolding_all rfl)
def Ig(xs:O V)(lo hi:Option Int):O V:=(xs.drop (HT.d9 xs.length 0 lo)).take (HT.d9 xs.length xs.length hi-HT.d9 xs.length 0 lo)
theorem tI(xs:O V)(lo hi:Option Int):(Ig xs lo hi).length<=xs.length:=by
 unfold Ig;rw[DW,E1];omega
def ajd(K:Ab):V->Option Int->Option Int->Hp->VK->Prop:=λx lo hi H Q=>∃a xs,x=.ref a/\dJ K H a xs/\
 ¬(HT.d9 xs.length 0 lo=0/\HT.d9 xs.length xs.length hi=xs.length)/\∀p,H p=ce->Q (.ref p) (upd H p (.tup (Ig xs lo hi)))
def aa6:SlR X (ajd X.K):=by
 intro Z s σ H x v vl vu lo hi sl Q I rx hs pl pu h;obtain⟨a,xs,rfl,hx,hw,q⟩:=h;cases rx;obtain⟨au,r,ht,hz⟩:=I.tuple hx;have À:au.toArray.size=xs.length:=by rw[Aj];exact r.length.symm
 refine⟨"tuple",_,AV.lookup,ht.typeIs,?_⟩;refine HT.qD ht hs pl pu (by rw[À];exact hw) ?_ (by rw[À];exact hz);rw[À];refine⟨.ref s.heap.objs.size,_,I.laid (t':=s.toks) (o:=.tup (Ig xs lo hi)) (λb ob q=>Ag _ q) (Ak _) ?_,rfl,q _ (I.a8.fresh (Ak _))⟩;exact⟨BG (tI xs lo hi) hz,_,(r.drop (HT.d9 xs.length 0 lo)).take (HT.d9 xs.length xs.length hi-HT.d9 xs.length 0 lo),FZ _ _⟩
def ZS(K:Ab):R2:=λx y H Q=>∃a b xs ys,x=.ref a/\y=.ref b/\dJ K H a xs/\dJ K H b ys/\xs≠[]/\xs.length+ys.length<=sizeLine/\
 (ys=[]->Q (.ref a) H)/\(ys≠[]->∀p,H p=ce->Q (.ref p) (upd H p (.tup (xs++ys))))
def Vals.kX(r:Vals xs us):us=[]↔xs=[]:=by
 cases r with
 | nil=>simp
 | cons _ _=>simp
def OC:lN X (wn .Add) (ZS X.K):=by
 intro Z s σ H x y v u Q I rx ry h;obtain⟨a,b,xs,ys,rfl,rfl,ha,hb,hx,hz,q1,q2⟩:=h;cases rx;cases ry;obtain⟨au,r1,p1,_⟩:=I.tuple ha;obtain⟨dr,r2,p2,_⟩:=I.tuple hb;refine HT.Zj p1 p2 (λz=>hx (r1.kX.mp z)) (λz=>⟨.ref a,H,I,rfl,q1 (r2.kX.mp z)⟩) (λz=>?_) (by rw[<- r1.length,<- r2.length];exact hz);refine⟨.ref s.heap.objs.size,_,I.laid (t':=s.toks) (o:=.tup (xs++ys)) (λb ob q=>Ag _ q) (Ak _) ?_,rfl,q2 (λw=>z (r2.kX.mpr w)) _ (I.a8.fresh (Ak _))⟩;exact⟨by rw[Al];exact hz,_,r1.append r2,FZ _ _⟩
end
end L2
variable{its':O Bc}
namespace L2
def tB(n:Nat)(i:Int):Option Nat:=if 0<=i then (if i < n then am i.toNat else ce) else if -(n:Int)<=i then am (i+n).toNat else ce
def dC(xs:List α)(i:Int):Option α:=(tB xs.length i).bind λj=>xs[j]?
theorem G9(h:tB n i=am j):seqIndex? i n=am j/\j < n/\-(n:Int)<=i/\i < n:=by
 unfold tB at h;by_cases h0:0<=i
 ·rw[if_pos h0]at h;by_cases h1:i < n
  ·rw[if_pos h1]at h;have e:=Option.some.inj h;exact⟨by rw[seqIndex_of h0 h1,e],by omega,by omega,h1⟩
  ·rw[if_neg h1]at h;cases h
 ·rw[if_neg h0]at h;by_cases h1:-(n:Int)<=i
  ·rw[if_pos h1]at h;have e:=Option.some.inj h;exact⟨by rw[seqIndex_neg ∅ h1,e],by omega,h1,by omega⟩
  ·rw[if_neg h1]at h;cases h
def Ik{xs:List α}{v:α}(h:dC xs i=am v):∃j,seqIndex? i xs.length=am j/\xs[j]?=am v/\j < xs.length/\-(xs.length:Int)<=i/\i < xs.length:=by
 unfold dC at h;cases e:tB xs.length i with
 | none=>rw[e]at h;cases h
 | some j=>
  rw[e]at h;obtain⟨h1,h2,h3,h4⟩:=G9 e;exact⟨j,h1,h,h2,h3,h4⟩
theorem cg{xs:List α}{v:α}(h:xs[j]?=am v):dC xs (j:Int)=am v:=by
 have hj:=(Am.mp h).1;have e:tB xs.length (j:Int)=am j:=by
  unfold tB;rw[if_pos ∅,if_pos ∅];simp
 unfold dC;rw[e];exact h
def IE(b:r9):Prop:=∀o i,subscripted b false o i=operate [o,i] (Op o i)
def WB(X:Cx)(r:R2):Prop:=
 ∀(value Å:r9) (Z:O (f8×Obj)) (s:ii) (σ:St) (H:Hp) (x y:V) (v u:db) (Q:VK),Inv X Z σ H s->RelV x v->RelV y u->r x y H Q->
  subscripted Å false v u=operate [v,u] (Op v u)->im (lc X.prog X.w) X.A (subscriptTail value Å v u) (EP X Z σ Q) X.xe s
def MtR(X:Cx)(id:String)(r:V->O V->Hp->VK->Prop):Prop:=
 ∀(Z:O (f8×Obj)) (s:ii) (σ:St) (H:Hp) (x:V) (xs:O V) (v:db) (us:O db) (Q:VK),Inv X Z σ H s->RelV x v->Vals xs us->r x xs H Q->
  im (lc X.prog X.w) X.A (call (.builtin id) (v::us)) (EP X Z σ Q) X.xe s
section
variable{X:Cx}{a b:r9}{ta tb:TE}{pos:Pos}
def WB.or{r r':R2}(h:WB X r)(h':WB X r'):WB X (λx y H Q=>r x y H Q\/r' x y H Q):=by
 intro value Å Z s σ H x y v u Q I rx ry q hs;rcases q with q | q
 ·exact h value Å Z s σ H x y v u Q I rx ry q hs
 ·exact h' value Å Z s σ H x y v u Q I rx ry q hs
def ZT{r:R2}(hr:WB X r)(ha:PE X a ta)(hb:PE X b tb)(hs:IE b):PE X (.Subscript a b pos) (tOp r ta tb):=by
 intro Z s σ H Q I h;exact Subscript_ (adg ha hb I h λv u s2 x y H2 I2 rx ry q=>hr a b Z s2 σ H2 x y v u Q I2 rx ry q (hs _ _))
def aeZ(K:Ab):R2:=λx y H Q=>∃p xs i v,x=.ref p/\y=.int i/\eI K H p xs/\dC xs i=am v/\Q v H
def aeY(K:Ab):R2:=λx y H Q=>∃p xs i v,x=.ref p/\y=.int i/\dJ K H p xs/\dC xs i=am v/\Q v H
def abm:R2:=λx y H Q=>∃z i c,x=.str z/\y=.int i/\z.length<=sizeLine/\dC z.cps.toList i=am c/\Q (.str ⟨#[c]⟩) H
theorem YB:WB X (aeZ X.K):=by
 intro value Å Z s σ H x y v u Q I rx ry h hs;obtain⟨p,xs,i,z,rfl,rfl,hq,he,q⟩:=h;cases rx;obtain⟨t,rfl⟩:=ry;obtain⟨au,r,pl,hz⟩:=I.list hq;obtain⟨j,h1,h2,h3,h4,h5⟩:=Ik he;obtain⟨w,ew,zP⟩:=r.get h2;have hl:=r.length;have hn:=GN;have fin:EP X Z σ Q w s:=⟨z,H,I,zP,q⟩;by_cases h0:0<=i
 ·have hj:i.toNat=j:=by
   rw[seqIndex_of h0 h5]at h1;exact Option.some.inj h1
  exact item_listR pl.isList h0 ∅ (by rw[hj];simpa using ew) fin hs
 ·have hj:(i+(au.toArray.size:Int)).toNat=j:=by
   rw[seqIndex_neg ∅ h4]at h1;rw[Aj,<- hl];exact Option.some.inj h1
  exact subscriptTail_builtinR (x:=w) pl.isList.typeIs slot_list_getitem.lookup
   (wpAny_getItem_list_neg (Q:=λr s'=>r=w/\EP X Z σ Q r s') pl.isList ∅ (by rw[Aj] <;> omega) ∅ (by rw[hj];simpa using ew) ⟨rfl,fin⟩) hs
theorem aci:WB X (aeY X.K):=by
 intro value Å Z s σ H x y v u Q I rx ry h hs;obtain⟨p,xs,i,z,rfl,rfl,hq,he,q⟩:=h;cases rx;obtain⟨t,rfl⟩:=ry;obtain⟨au,r,pl,hz⟩:=I.tuple hq;obtain⟨j,h1,h2,h3,h4,h5⟩:=Ik he;obtain⟨w,ew,zP⟩:=r.get h2;have hl:=r.length;have hn:=GN;have fin:EP X Z σ Q w s:=⟨z,H,I,zP,q⟩;exact subscriptTail_builtinR (x:=w) pl.typeIs slot_tuple_getitem.lookup
  (getItem_tuple (j:=j) (Q:=λr s'=>r=w/\EP X Z σ Q r s') pl ∅ ∅ (by rw[Aj,<- hl];exact h1) (by simpa using ew) ⟨rfl,fin⟩) hs
theorem UK:WB X abm:=by
 intro value Å Z s σ H x y v u Q I rx ry h hs;obtain⟨z,i,c,rfl,rfl,hz,he,q⟩:=h;obtain⟨t,rfl⟩:=rx;obtain⟨t',rfl⟩:=ry;obtain⟨j,h1,h2,h3,h4,h5⟩:=Ik he;have hl:z.cps.toList.length=z.length:=by simp[Str.length]
 rw[hl]at h1 h4 h5;have hn:=GN;exact tail_any (typeIs_str s z t) slot_str_getitem.lookup (getItem_str (c:=c) (by
  have e1:decide (i < -(2 ^ 63:Int))=false:=decide_eq_false ∅;have e2:decide (i≥2 ^ 63)=false:=decide_eq_false ∅;rw[e1,e2,Bool.or_false]) (by rw[h1];simpa using h2) ⟨.str ⟨#[c]⟩,H,I.tok _,⟨_,rfl⟩,q⟩) hs
def rIx(K:Ab):R2:=λx y H Q=>aeZ K x y H Q\/aeY K x y H Q\/abm x y H Q
def acj:WB X (rIx X.K):=YB.or (aci.or UK)
def Mg(au:O db)(n j:Nat)(u:db):Be (·.setIfInBounds j u) {cls:=.type "list",data:=.seq au.toArray n}={cls:=.type "list",data:=.seq (au.set j u).toArray n}:=by
 simp[Be]
def Inv.lst{Z:O (f8×Obj)}{σ:St}{H:Hp}{s:ii}{p:f8}{xs:O V}(I:Inv X Z σ H s)(h:H p=am (.lst xs)) :
  ∃(au:O db) (n:Nat),Vals xs au/\s.heap.get? p=am {cls:=.type "list",data:=.seq au.toArray n}/\xs.length<=sizeLine:=by
 obtain⟨z,au,n,r,e⟩:=I.a8 p _ h;exact⟨au,n,r,e,z⟩
def Inv.abX{p:f8}{n':Nat}{f:Obj->Obj}(I:Inv X Z σ H s)(h:H p=am (.lst xs))
  (ho:s.heap.get? p=am {cls:=.type "list",data:=.seq au.toArray n}) (hf:f {cls:=.type "list",data:=.seq au.toArray n}={cls:=.type "list",data:=.seq its'.toArray n'}) (r:Vals ys its') (hz:ys.length<=sizeLine) (t:Nat) :
  Inv X Z σ (upd H p (.lst ys)) {s with heap:=s.heap.update p f,toks:=t}:=by
 have e:(s.heap.update p f).get? p=am {cls:=.type "list",data:=.seq its'.toArray n'}:=by
  rw[BV f ho (by rw[hf] <;> rfl),hf]
 refine I.write (x:=p) (e:=p) (by rw[h];trivial) (.inl rfl) (λb u hb q=>(BP _ _ (BU hb)).trans q) ⟨_,e⟩ ?_;exact⟨hz,its',n',r,e⟩
def aeT:V->V->V->Hp->(Hp->Prop)->Prop:=λo i v H Q=>∃p xs k j,o=.ref p/\i=.int k/\H p=am (.lst xs)/\tB xs.length k=am j/\Q (upd H p (.lst (xs.set j v)))
theorem set_list:RO X aeT:=by
 intro Z s σ H o i v ov iv u Q I ro ri rv h;obtain⟨p,xs,k,j,rfl,rfl,hp,hj,q⟩:=h;cases ro;obtain⟨t,rfl⟩:=ri;obtain⟨au,n,r,ho,hz⟩:=I.lst hp;obtain⟨h1,h2,h3,h4⟩:=G9 hj;have hl:=r.length;have hn:=GN;have I':Inv X Z σ (upd H p (.lst (xs.set j v))) {s with heap:=s.heap.update p (Be (·.setIfInBounds j u))}:=
  I.abX hp ho (Mg au n j u) (r.set rv j) (by rw[B9];exact hz) s.toks
 by_cases h0:0<=k
 ·have hk:k.toNat=j:=by
   rw[seqIndex_of h0 h4]at h1;exact Option.some.inj h1
  exact PySem.W.ki_setAt ho h0 ∅ (by rw[Aj,<- hl];exact h4) (by rw[hk];exact⟨_,I',q⟩)
 ·have hk:(k+(au.toArray.size:Int)).toNat=j:=by
   rw[seqIndex_neg ∅ h3]at h1;rw[Aj,<- hl];exact Option.some.inj h1
  exact PySem.W.ki_setBack ho ∅ (by rw[Aj,<- hl];exact h3) ∅ (by rw[hk];exact⟨_,I',q⟩)
theorem zO(lo hi:Option Int)(n:Nat):(Ix lo hi ce n).1=((HT.d9 n 0 lo:Nat):Int)/\(Ix lo hi ce n).2.1=((HT.d9 n n hi:Nat):Int)/\(Ix lo hi ce n).2.2=1:=by
 refine⟨?_,?_,rfl⟩
 ·cases lo with
  | none=>simp[Ix,HT.d9]
  | some i=>
   simp only[Ix,HT.d9,Option.getD_none,show(1:Int) > 0 by decide,if_true];by_cases h:i < 0
   ·simp only[h,if_true] <;> omega
   ·simp only[h,if_false] <;> omega
 ·cases hi with
  | none=>simp[Ix,HT.d9]
  | some i=>
   simp only[Ix,HT.d9,Option.getD_none,show(1:Int) > 0 by decide,if_true];by_cases h:i < 0
   ·simp only[h,if_true] <;> omega
   ·simp only[h,if_false] <;> omega
def xo(au:O db)(lo hi:Option Int):slicePick au.toArray lo hi ce=((au.drop (HT.d9 au.length 0 lo)).take (HT.d9 au.length au.length hi-HT.d9 au.length 0 lo)).toArray:=by
 obtain⟨h1,h2,h3⟩:=zO lo hi au.toArray.size;unfold slicePick;rw[h1,h2,h3];simp only[sliceRange_one,pick_run,Aj] <;> rfl
def aje(K:Ab):V->Option Int->Option Int->Hp->VK->Prop:=λx lo hi H Q=>∃a xs,x=.ref a/\eI K H a xs/\∀p,H p=ce->Q (.ref p) (upd H p (.lst (Ig xs lo hi)))
theorem ahr:SlR X (aje X.K):=by
 intro Z s σ H x v vl vu lo hi sl Q I rx hs pl pu h;obtain⟨a,xs,rfl,hx,q⟩:=h;cases rx;obtain⟨au,r,ht,hz⟩:=I.list hx;have À:=r.length;refine⟨"list",_,slot_list_getitem.lookup,ht.isList.typeIs,?_⟩;refine wpAny_getItem_list_slice ht.isList hs pl pu .none (by simp) ?_ (by rw[Aj] <;> omega);rw[xo,<- À];refine⟨.ref s.heap.objs.size,_,I.laid (t':=s.toks) (o:=.lst (Ig xs lo hi)) (λb ob q=>Ag _ q) (Ak _) ?_,rfl,q _ (I.a8.fresh (Ak _))⟩;exact⟨BG (tI xs lo hi) hz,_,0,(r.drop (HT.d9 xs.length 0 lo)).take (HT.d9 xs.length xs.length hi-HT.d9 xs.length 0 lo),Ao _ rfl⟩
theorem Ih:cm X (.type "list") (λxs H Q=>∃p ys,xs=[.ref p]/\(eI X.K H p ys\/dJ X.K H p ys)/\∀l,H l=ce->Q (.ref l) (upd H l (.lst ys))):=by
 intro Z s σ H xs us Q I r h;obtain⟨p,ys,rfl,hq,q⟩:=h;obtain⟨u,rfl,rx⟩:=vals1 r;cases rx;have fin:∀(au:O db),Vals ys au->ys.length<=sizeLine->∀(h':sw) (c':Nat),(∀b o',s.heap.get? b=am o'->h'.get? b=am o')->
   h'.get? s.heap.objs.size=am {cls:=.type "list",dict:=ce,data:=.seq au.toArray c',slots:=#[]}->EP X Z σ Q (.ref s.heap.objs.size) {s with heap:=h'}:=λau r' hz h' c' kp e=>
  ⟨.ref s.heap.objs.size,_,I.laid (t':=s.toks) kp (Ak _) (show bh X.prog X.w _ h' _ (.lst ys) from⟨hz,au,c',r',e⟩),rfl,q _ (I.a8.fresh (Ak _))⟩
 rcases hq with hq | hq
 ·obtain⟨au,r',pl,hz⟩:=I.list hq;have À:=r'.length;obtain⟨o,ho,hc,n,hd⟩:=pl.isList;exact call_list_seq p (.inl rfl) ho hc hd (λh' c' kp e=>fin au r' hz h' c' kp e) (by simp only[Aj] <;> omega)
 ·obtain⟨au,r',pl,hz⟩:=I.tuple hq;have À:=r'.length;obtain⟨o,ho,hc,n,hd⟩:=pl;exact call_list_seq p (.inr rfl) ho hc hd (λh' c' kp e=>fin au r' hz h' c' kp e) (by simp only[Aj] <;> omega)
theorem yc:cm X (.type "tuple") (λxs H Q=>∃p ys,xs=[.ref p]/\((eI X.K H p ys/\∀l,H l=ce->Q (.ref l) (upd H l (.tup ys)))\/(dJ X.K H p ys/\Q (.ref p) H))):=by
 intro Z s σ H xs us Q I r h;obtain⟨p,ys,rfl,h⟩:=h;obtain⟨u,rfl,rx⟩:=vals1 r;cases rx;rcases h with⟨hq,q⟩ | ⟨hq,q⟩
 ·obtain⟨au,r',pl,hz⟩:=I.list hq;have À:=r'.length;refine call_tuple_list pl.isList (λh' kp=>?_) (by simp only[Aj] <;> omega);have I1:Inv X Z σ H {s with heap:=h'}:=I.kept (t':=s.toks) kp;have I2:Inv X Z σ (upd H h'.objs.size (.tup ys)) {s with heap:=h'.push {cls:=.type "tuple",data:=.seq au.toArray}}:=
   I1.laid (t':=s.toks) (λb o e=>Ag _ e) (Ak _) (show bh X.prog X.w _ _ _ (.tup ys) from⟨hz,au,r',FZ _ _⟩)
  exact⟨.ref h'.objs.size,_,I2,rfl,q _ (I1.a8.fresh (Ak _))⟩
 ·obtain⟨au,r',pl,hz⟩:=I.tuple hq;exact call_tuple_same pl ⟨.ref p,H,I,rfl,q⟩
def tyV(K:Ab)(T:String)(x:V)(H:Hp):Prop:=match x with
 | .str _=>T="str"
 | .int _=>T="int"
 | .ref p=>(T="list"/\∃xs,eI K H p xs)\/(T="tuple"/\∃o,K.lookup p=am o/\o.cls=.type "tuple"/\o.dict=ce)\/
   (T="dict"/\((∃kvs,H p=am (.dK kvs))\/∃kvs,H p=am (.dT kvs)))\/(T="set"/\∃S n,H p=am (.set S n))
 | _=>False
def Sj{x:V}(I:Inv X Z σ H s)(r:RelV x v)(ty:tyV X.K T x H) :
  s.TypeIs v T/\∀a,v=.ref a->∃ob,s.heap.get? a=am ob/\ob.dict=ce:=by
 cases x with
 | str z=>
  obtain⟨t,rfl⟩:=r;cases (show T="str" from ty);exact⟨typeIs_str s z t,λ_ e=>nomatch e⟩
 | int i=>
  obtain⟨t,rfl⟩:=r;cases (show T="int" from ty);exact⟨typeIs_int s i t,λ_ e=>nomatch e⟩
 | ref p=>
  cases r;rcases ty with⟨rfl,xs,hq⟩ | ⟨rfl,o,hk,hc,hd⟩ | ⟨rfl,hk⟩ | ⟨rfl,S,n,hk⟩
  ·obtain⟨au,_,pl,_⟩:=I.list hq;refine⟨pl.isList.typeIs,λa e=>?_⟩;cases e;obtain⟨o,n,e,c,hd,_⟩:=pl;exact⟨o,e,hd⟩
  ·refine⟨⟨o,I.o8 p o hk,hc⟩,λa e=>?_⟩;cases e;exact⟨o,I.o8 _ o hk,hd⟩
  ·have z:∃o,s.heap.get? p=am o/\o.ExactDict:=by
    rcases hk with⟨kvs,hk⟩ | ⟨kvs,hk⟩
    ·obtain⟨_,_,_,_,o,_,_,e,ex,_⟩:=I.a8 p _ hk;exact⟨o,e,ex⟩
    ·obtain⟨_,_,_,_,o,_,_,e,ex,_⟩:=I.a8 p _ hk;exact⟨o,e,ex⟩
   obtain⟨o,e,ex⟩:=z;refine⟨⟨o,e,ex.1⟩,λa e2=>?_⟩;cases e2;exact⟨o,e,ex.2.1⟩
  ·obtain⟨o,_,_,_,e,ex,_⟩:=I.a8 p _ hk;refine⟨⟨o,e,ex.1⟩,λa e2=>?_⟩;cases e2;exact⟨o,e,ex.2.1⟩
 | _=>exact Bb ty
def aeD(K:Ab)(T:String)(r:V->O V->Hp->VK->Prop)(to:TE):TE:=λσ H Q=>to σ H λx H1=>tyV K T x H1/\r x [] H1 Q
def tBM(K:Ab)(T:String)(r:V->O V->Hp->VK->Prop)(to:TE)(t:TA):TE:=λσ H Q=>to σ H λx H1=>tyV K T x H1/\t σ H1 λxs H2=>r x xs H2 Q
variable{o e:r9}{es:O r9}{to:TE}{t:TA}{name:Str}{Â bB:Pos}{T id:String}{r:V->O V->Hp->VK->Prop}
def abC(pa:PlainAttrs T)(slot:Slot T name id)(ï:typeOf (.builtin id)=pure (.type "method_descriptor"))(hm:MtR X id r)(ho:PE X o to)
  (dz:‹pc o name X.env (pr o X.env)=pr o X.env›) (dw:‹R5 Â bB›):PE X (.Call (.Attribute o name Â) [] [] bB) (aeD X.K T r to):=by
 intro Z s σ H Q I h;refine wpAny_Call_method0_late dz dw (bV (ho Z s σ H _ I h) λv s1 ⟨x,H1,I1,r1,ty,q1⟩=>?_);obtain⟨h1,h2⟩:=Sj I1 r1 ty;exact⟨T,id,pa,slot,ï,h1,h2,E8 rfl (PySem.evalArgs_none (hm Z s1 σ H1 x [] v [] Q I1 r1 .nil q1))⟩
def afa(pa:PlainAttrs T)(slot:Slot T name id)(ï:typeOf (.builtin id)=pure (.type "method_descriptor"))(hm:MtR X id r)(ho:PE X o to)(ha:PA X (e::es) t)
  (dz:‹pc o name X.env (pr o X.env)=pr o X.env›)
  (mI:‹Zy X bB (e::es)›)
  (dw:‹R5 Â bB›) (hs:‹fR X e es›) (du:‹kJ X bB es›) :
  PE X (.Call (.Attribute o name Â) (e::es) [] bB) (tBM X.K T r to t):=by
 intro Z s σ H Q I h;refine wpAny_Call_method_late dz mI dw rfl (bV (ho Z s σ H _ I h) λv s1 ⟨x,H1,I1,r1,ty,q1⟩=>?_);obtain⟨h1,h2⟩:=Sj I1 r1 ty;refine⟨T,id,pa,slot,ï,h1,h2,?_⟩;have hA:=ha bB Z s1 σ H1 _ I1 q1;rw[hs]at hA ⊢;refine E8 (by show(false||(Ev bB (nn es X.env)).any (·.1))=false;rw[du] <;> rfl) (Calls.evalArgs_plain ?_);exact bV hA λus s2 ⟨vs,H2,I2,r2,q2⟩=>hm Z s2 σ H2 x vs v us Q I2 r1 r2 q2
end
def NU(X:Cx)(id:String)(r:V->O V->Hp->VK->Prop):Prop:=
 ∀(Z:O (f8×Obj)) (s:ii) (σ:St) (H:Hp) (x:V) (xs:O V) (v:db) (us:O db) (Q:VK),Inv X Z σ H s->RelV x v->Vals xs us->r x xs H Q->
  im (lc X.prog X.w) X.A (call (.builtin id) (v::us)) (EP X Z σ Q) X.xe s
def Vals.one:∀{x:V}{us:O db},Vals [x] us->∃u,us=[u]/\RelV x u
 | _,_,.cons r .nil=>⟨_,rfl,r⟩
def Vals.zero:∀{us:O db},Vals [] us->us=[]
 | _,.nil=>rfl
def Vals.dropLast(h:Vals xs us):Vals xs.dropLast us.dropLast:=by
 induction h with
 | nil=>exact .nil
 | cons r t ih=>
  cases t with
  | nil=>exact .nil
  | cons q t'=>exact .cons r ih
theorem Vals.eraseIdx:∀{xs:O V}{us:O db} (i:Nat),Vals xs us->Vals (xs.eraseIdx i) (us.eraseIdx i)
 | _,_,_,.nil=>.nil
 | _,_,0,.cons _ t=>t
 | _,_,i+1,.cons r t=>.cons r (Vals.eraseIdx i t)
theorem Vals.rep(h:Vals xs us):∀k:Nat,Vals (An k xs).flatten (An k us).flatten
 | 0=>.nil
 | k+1=>by
  rw[BD,BD,Ci,Ci];exact Vals.append h (Vals.rep h k)
theorem Na(l:List α):l.eraseIdx (l.length-1)=l.dropLast:=by
 induction l with
 | nil=>rfl
 | cons a r ih=>
  cases r with
  | nil=>rfl
  | cons b r=>
   have e:(a::b::r).length-1=((b::r).length-1)+1:=by
    have h1:(a::b::r).length=r.length+2:=rfl;have h2:(b::r).length=r.length+1:=rfl;omega
   rw[e,CP,ih]
   all_goals rfl
theorem yH:∀(l:List α) (i:Nat),(l.eraseIdx i).length<=l.length
 | [],_=>Ak _
 | _::_,0=>Du _
 | _::r,i+1=>Nat.succ_le_succ (yH r i)
theorem foldl_rep(au:O db):∀(k:Nat) (acc:O db),
  List.foldl (λx1 x2=>x1++x2) acc.toArray (An k au.toArray)=(acc++(An k au).flatten).toArray
 | 0,acc=>by simp
 | k+1,acc=>by
  have e:acc.toArray++au.toArray=(acc++au).toArray:=by simp
  have e2:(acc++au)++(An k au).flatten=acc++(An (k+1) au).flatten:=by
   rw[BD,Ci,AZ]
  rw[<- e2,<- foldl_rep au k (acc++au),<- e,BD,Dp]
section
def Inv.Mm{f:Array db->Array db}{t':Nat}(I:Inv X Z σ H s)(hH:H l=am (.lst xs))
  (e:s.heap.get? l=am {cls:=.type "list",data:=.seq au.toArray n}) (hf:f au.toArray=its'.toArray) (hv:Vals ys its') (hz:ys.length<=sizeLine) :
  Inv X Z σ (upd H l (.lst ys)) {s with heap:=s.heap.update l (Be f),toks:=t'}:=by
 have q:=PySem.IsL.update e f;rw[hf]at q;refine I.write (x:=l) (e:=l) (by rw[hH];exact trivial) (.inl rfl) (λb' u hb hu=>(BP s.heap (Be f) (BU hb)).trans hu) ⟨_,q⟩ ?_;exact⟨hz,its',_,hv,q⟩
def Inv.abY{t':Nat}(I:Inv X Z σ H s)(hv:Vals ys au)(hz:ys.length<=sizeLine) :
  Inv X Z σ (upd H s.heap.objs.size (.lst ys)) {s with heap:=s.heap.push {cls:=.type "list",data:=.seq au.toArray},toks:=t'}:=
 I.laid (λ_ _ q=>Ag _ q) (Ak _) ⟨hz,au,0,hv,Ao _ rfl⟩
def Inv.fresh(I:Inv X Z σ H s):H s.heap.objs.size=ce:=I.a8.fresh (Ak _)
def Inv.ud(I:Inv X Z σ H s)(hH:H l=am (.lst xs)):xs.length<=sizeLine/\∃(au:O db) (n:Nat),Vals xs au/\xs.length=au.length/\s.heap.get? l=am {cls:=.type "list",data:=.seq au.toArray n}:=by
 obtain⟨z,au,n,r,e⟩:=I.a8 l _ hH;exact⟨z,au,n,r,r.length,e⟩
theorem pY(h:n<=sizeLine):Builtin.List.listTooLong n=false:=by
 exact decide_eq_false ∅
end
section
def Xr:V->O V->Hp->VK->Prop:=λx vs H Q=>∃l xs y,x=.ref l/\vs=[y]/\H l=am (.lst xs)/\xs.length < sizeLine/\Q .aJ (upd H l (.lst (xs++[y])))
theorem Qz:NU X "list.append" Xr:=by
 intro Z s σ H x vs v us Q I rx rv h;obtain⟨l,xs,y,rfl,rfl,hH,hz,q⟩:=h;cases rx;obtain⟨u,rfl,ru⟩:=rv.one;obtain⟨z,au,n,r,hl,e⟩:=I.ud hH;refine wT F.slot_list_append ⟨_,e,rfl⟩ F.entry_list_append (F.args_list_append_2 _ _) (PySem.list_append l au.toArray n u (by rw[Aj];omega)) ⟨e,?_⟩;refine⟨.aJ,_,I.Mm (its':=au++[u]) hH e (by simp) (r.append (.cons ru .nil)) ?_,rfl,q⟩;rw[Al,FA];omega
def Xp:V->O V->Hp->VK->Prop:=λx vs H Q=>∃l b xs zs,x=.ref l/\vs=[.ref b]/\H l=am (.lst xs)/\H b=am (.lst zs)/\xs.length+zs.length<=sizeLine/\Q .aJ (upd H l (.lst (xs++zs)))
theorem adH:NU X "list.extend" Xp:=by
 intro Z s σ H x vs v us Q I rx rv h;obtain⟨l,b,xs,zs,rfl,rfl,hH,hB,hz,q⟩:=h;cases rx;obtain⟨u,rfl,ru⟩:=rv.one;cases ru;obtain⟨z,au,n,r,hl,e⟩:=I.ud hH;obtain⟨z2,dr,n2,r2,U0,e2⟩:=I.ud hB;have hsz:au.toArray.size+dr.toArray.size<=sizeLine:=by rw[Aj,Aj];omega
 have vR:¬(!au.toArray.isEmpty&&Builtin.List.listTooLong (au.toArray.size+dr.toArray.size))=true:=by
  rw[pY hsz,EA];exact Bg
 refine wT Eo ⟨_,e,rfl⟩ Ec (D2 _ _)
  (AutoSeq1.list_extend_list_list_0 l au.toArray n b dr.toArray n2 vR (by rw[Aj];omega) ∅) ⟨e,e2,?_⟩
 refine⟨.aJ,_,I.Mm (its':=au++dr) hH e (by simp) (r.append r2) ?_,rfl,q⟩;rw[Al];omega
def ajg:V->O V->Hp->VK->Prop:=λx vs H Q=>∃l xs y,x=.ref l/\vs=[]/\H l=am (.lst xs)/\xs[xs.length-1]?=am y/\Q y (upd H l (.lst xs.dropLast))
theorem abV:NU X "list.pop" ajg:=by
 intro Z s σ H x vs v us Q I rx rv h;obtain⟨l,xs,y,rfl,rfl,hH,hy,q⟩:=h;cases rx;have hus:=rv.zero;subst hus;obtain⟨z,au,n,r,hl,e⟩:=I.ud hH;obtain⟨u,hu,ru⟩:=r.get hy;have YH:au.toArray[au.toArray.size-1]?=am u:=by
  show au.toArray[au.length-1]?=am u;rw[<- DN,<- hl];exact hu
 refine wT F.slot_list_pop ⟨_,e,rfl⟩ F.entry_list_pop (F.args_list_pop_1 _) (MeetsSeq.list_pop_last l au.toArray n u YH (by rw[Aj];omega)) ⟨e,?_⟩;refine⟨y,_,I.Mm (its':=au.dropLast) hH e ?_ r.dropLast ?_,ru,q⟩
 ·rw[Aj,DK,Na]
 ·rw[List.length_dropLast];omega
def abk:V->O V->Hp->VK->Prop:=λx vs H Q=>∃l xs i k y,x=.ref l/\vs=[.int i]/\H l=am (.lst xs)/\-(2 ^ 63)<=i/\i < 2 ^ 63/\seqIndex? i xs.length=am k/\xs[k]?=am y/\Q y (upd H l (.lst (xs.eraseIdx k)))
theorem Ue:NU X "list.pop" abk:=by
 intro Z s σ H x vs v us Q I rx rv h;obtain⟨l,xs,i,k,y,rfl,rfl,hH,h1,h2,hk,hy,q⟩:=h;cases rx;obtain⟨u,rfl,ru⟩:=rv.one;obtain⟨t,rfl⟩:=ru;obtain⟨z,au,n,r,hl,e⟩:=I.ud hH;obtain⟨w,hw,zP⟩:=r.get hy;refine wT F.slot_list_pop ⟨_,e,rfl⟩ F.entry_list_pop (F.args_list_pop_2 _ _)
  (MeetsSeq.list_pop_at l au.toArray n i t k w (fitsIndex_both h1 h2) (by rw[Aj,<- hl];exact hk) (by rw[<- DN];exact hw) (by rw[Aj];omega)) ⟨e,?_⟩
 refine⟨y,_,I.Mm (its':=au.eraseIdx k) hH e ?_ (r.eraseIdx k) ?_,zP,q⟩
 ·show au.toArray.eraseIdxIfInBounds k=(au.eraseIdx k).toArray;rw[DK]
 ·have:=yH xs k;omega
def ajh:R2:=λx y H Q=>∃l b xs zs,x=.ref l/\y=.ref b/\H l=am (.lst xs)/\H b=am (.lst zs)/\xs.length+zs.length<=sizeLine/\∀p,H p=ce->Q (.ref p) (upd H p (.lst (xs++zs)))
theorem abL:lN X (wn .Add) ajh:=by
 intro Z s σ H x y v u Q I rx ry h;obtain⟨l,b,xs,zs,rfl,rfl,hH,hB,hz,q⟩:=h;cases rx;cases ry;obtain⟨z,au,n,r,hl,e⟩:=I.ud hH;obtain⟨z2,dr,n2,r2,U0,e2⟩:=I.ud hB;refine PySem.P.add_list e e2 ?_ (by rw[Aj,Aj];omega);have ea:au.toArray++dr.toArray=(au++dr).toArray:=by simp
 rw[ea];exact⟨.ref _,_,I.abY (t':=s.toks) (r.append r2) (by rw[Al];omega),rfl,q _ I.fresh⟩
def ajf:R2:=λx y H Q=>∃l k xs,x=.ref l/\y=.int k/\H l=am (.lst xs)/\-(2 ^ 63)<=k/\k < 2 ^ 63/\xs.length*k.toNat<=sizeLine/\
 ∀p,H p=ce->Q (.ref p) (upd H p (.lst (An k.toNat xs).flatten))
def len_rep(xs:List α)(k:Nat):(An k xs).flatten.length=k*xs.length:=by
 induction k with
 | zero=>simp
 | succ k ih=>rw[BD,Ci,Al,ih,Ge,Nat.add_comm]
theorem abF:lN X (wn .Mult) ajf:=by
 intro Z s σ H x y v u Q I rx ry h;obtain⟨l,k,xs,rfl,rfl,hH,h1,h2,hz,q⟩:=h;cases rx;obtain⟨t,rfl⟩:=ry;obtain⟨z,au,n,r,hl,e⟩:=I.ud hH;have À:au.toArray.size*k.toNat<=sizeLine:=by rw[Aj,<- hl];exact hz
 have YR:¬au.toArray.size*k.toNat > (2 ^ 63-1) / 8:=by
  have:(sizeLine:Nat)<=(2 ^ 63-1) / 8:=by decide
  omega
 have akb:¬(!Builtin.List.listFitsIndex k)=true:=by
  rw[fitsIndex_both h1 h2];exact Bg
 have vR:¬Builtin.List.listTooLong (au.toArray.size*k.toNat)=true:=by
  rw[pY À];exact Bg
 have YL:List.foldl (λx1 x2=>x1++x2) #[] (An (if au.toArray.isEmpty=true then 0 else k.toNat) au.toArray)=(An k.toNat au).flatten.toArray:=by
  have f0:∀m:Nat,List.foldl (λx1 x2=>x1++x2) #[] (An m au.toArray)=(An m au).flatten.toArray:=λm=>by
   have:=foldl_rep au m [];exact this
  rw[f0];cases au with
  | nil=>simp
  | cons a r'=>rw[if_neg (by simp)]
 refine wpAny_binaryOp_repeat_ref (T:="list") (U:="int") ⋯ ⟨_,e,rfl⟩ (λs'=>typeIs_int s' k t) noFill_list_mul F.fills_int_mul F.slot_int_rmul repeat_list F.slot_int_index.lookup
  (wT F.slot_int_rmul (typeIs_int s k t) F.entry_int_rmul (F.args_int_rmul_2 _ _) (int___rmul___int_list k t l au.toArray n)
   ⟨e,rfl,⟨_,e,rfl⟩,wT F.slot_list_mul ⟨_,e,rfl⟩ F.entry_list_mul (F.args_list_mul_2 _ _) (AutoListH.list___mul___list_int_3 l au.toArray n k t akb YR vR) ⟨e,?_⟩⟩)
 rw[YL];exact⟨.ref _,_,I.abY (t':=s.toks) (r.rep k.toNat) (by rw[len_rep,Nat.mul_comm];exact hz),rfl,q _ I.fresh⟩
end
end L2
variable{xs:O (O L2.Key×Bm×Bc)}{v:L2.V}{kvs:O (O L2.Key×L2.V)}
namespace L2
section
variable{κ:Type}[DecidableEq κ]
def j8(kvs:O (κ×V))(k:κ):Option V:=(kvs.find? λkv=>decide (kv.1=k)).map (·.2)
def mf{p:κ×V}{r:O (κ×V)}{k:κ}(e:p.1=k):j8 (p::r) k=am p.2:=by simp[j8,BZ,e]
def mh{p:κ×V}{r:O (κ×V)}{k:κ}(e:¬p.1=k):j8 (p::r) k=j8 r k:=by simp[j8,BZ,e]
theorem Ja(k:κ):∀kvs:O (κ×V),(kvs.any λkv=>decide (kv.1=k))=(j8 kvs k).isSome
 | []=>rfl
 | p::r=>by
  rw[CJ];by_cases e:p.1=k
  ·simp only[mf e,decide_eq_true e,Bool.true_or,Option.isSome_some]
  ·rw[mh e,decide_eq_false e,Bool.false_or];exact Ja k r
def KV.val{kvs:O (κ×V)}{vs:O (κ×db)}(r:KV kvs vs)(k:κ):sR (j8 kvs k) (valueAt vs k):=by
 unfold KV at r
 induction r with
 | nil=>exact Cj
 | @cons p q ps qs h t ih=>
  obtain⟨h1,h2⟩:=h;by_cases e:p.1=k
  ·have e':q.1=k:=h1.symm.trans e;have b:valueAt (q::qs) k=am q.2:=by simp[valueAt,BZ,e']
   rw[mf e,b];exact h2
  ·have e':¬q.1=k:=λz=>e (h1.trans z);have b:valueAt (q::qs) k=valueAt qs k:=by simp[valueAt,BZ,e']
   rw[mh e,b];exact ih
end
def Z8{k:Key}(r:RelV (kV k) u):(cW P w).is k u=true:=by
 cases k with
 | inl i=>obtain⟨t,e⟩:=(show ∃t,u=DQ i t from r);subst e;exact JO P w i t
 | inr x=>obtain⟨t,e⟩:=(show ∃t,u=Bp x t from r);subst e;exact JN P w x t
theorem yL:∀{ks:O Key}{us:O db},Vals (ks.map kV) us->ItemsAre (cW P w) ks us
 | [],_,r=>by rw[Cz]at r;cases r;exact .nil
 | k::ks,_,r=>by
  rw[Ar]at r;cases r with
  | cons h t=>exact .cons (Z8 h) (yL t)
abbrev KT(H:Hp):O (O Key×V)->O (O Key×f8×db)->Prop:=Paired λp q=>p.1=q.1/\H q.2.1=am (.tup (p.1.map kV))/\RelV p.2 q.2.2
def KT.val(r:KT H kvs xs)(k:O Key):sR (j8 kvs k) ((atKey xs k).map (·.2)):=by
 induction r with
 | nil=>exact Cj
 | @cons p q ps qs h t ih=>
  obtain⟨h1,_,h2⟩:=h;by_cases e:p.1=k
  ·have e':q.1=k:=h1.symm.trans e;have b:atKey (q::qs) k=am q.2:=by simp[atKey,BZ,e']
   rw[mf e,b];exact h2
  ·have e':¬q.1=k:=λz=>e (h1.trans z);have b:atKey (q::qs) k=atKey qs k:=by simp[atKey,BZ,e']
   rw[mh e,b];exact ih
def KT.keeps(r:KT H kvs xs)(ht:∀b ys,H b=am (.tup ys)->H' b=am (.tup ys)):KT H' kvs xs:=
 Paired.abW r λ_ _ z=>⟨z.1,ht _ _ z.2.1,z.2.2⟩
section
def ZO{u:HO}(ok:mU P w H h)(e:Rd H a u):bh P w H h a u:=e.ok ok
def KQ{kvs:O (Key×V)}(ok:mU P w H h)(e:Rd H a (.dK kvs)):kvs.length<=sizeLine/\(a==IR)=false/\∃vs,KV kvs vs/\h.DictOf (cW P w) a vs:=
 show bh P w H h a (.dK kvs) from ZO ok e
def Mt{ks:O Key}(ok:mU P w H h)(e:H a=am (.tup (ks.map kV))):(t0 (cW P w)).is h ks a:=by
 obtain⟨_,au,r,o,h1,h2,n,h3⟩:=(show bh P w H h a (.tup (ks.map kV)) from ok a _ e);exact⟨o,au.toArray,n,h1,h2,h3,by simpa using yL r⟩
def KP(ok:mU P w H h)(e:Rd H a (.dT kvs)):kvs.length<=sizeLine/\(a==IR)=false/\
  ∃xs,KT H kvs xs/\h.DictOfH (t0 (cW P w)) a xs:=by
 obtain⟨z,y,xs,r,o,es,ep,h1,h2,h3,h4,h5⟩:=(show bh P w H h a (.dT kvs) from ZO ok e);refine⟨z,y,xs,r,o,es,ep,h1,h2,h3,h4,λx hx=>?_,h5⟩;have all:∀{l:O (O Key×V)}{m:O (O Key×f8×db)},KT H l m->∀x∈m,(t0 (cW P w)).is h x.1 x.2.1:=by
  intro l m q
  induction q with
  | nil=>intro x hx;exact nomatch hx
  | @cons p q ps qs hq t ih=>
   intro x hx;rcases Aw.mp hx with e | hx
   ·subst e;exact Mt ok (by rw[<- hq.1];exact hq.2.1)
   ·exact ih x hx
 exact all r x hx
end
def ZA(H:Hp)(a:f8)(y:V)(r:Option V):Prop:=
 (∃kvs k,Rd H a (.dK kvs)/\y=kV k/\r=j8 kvs k)\/∃kvs k b,Rd H a (.dT kvs)/\y=.ref b/\H b=am (.tup (k.map kV))/\r=j8 kvs k
section
variable{o:Option V}
def Inv.big(I:Inv X Z σ H s):IR < s.heap.objs.size:=by
 have h:=(I.mod.glob.keeps I.bk).lt;exact Nat.lt_trans ⋯ h
def Ru(hu:A.units+1 < xz)(I:Inv X Z σ H s)(g:ZA H a y (am v))(ry:RelV y u)(h:∀w' s',Inv X Z σ H s'->RelV v w'->Q w' s') :
  im (lc X.prog X.w) A (Op (.ref a) u) Q E s:=by
 rcases g with⟨kvs,k,e,ey,l⟩ | ⟨kvs,k,b,e,ey,eb,l⟩
 ·subst ey;obtain⟨z,hd,vs,ō,dd⟩:=KQ I.a8 e;obtain⟨w',hw,zP⟩:=sR.some_of (v:=v) (o:=valueAt vs k) (by rw[l];exact ō.val k);exact wpAny_getItem_of (Z8 ry) dd.mapOf hw (h w' _ (I.tok _) zP)
 ·subst ey;cases (show u=Ay b from ry);obtain⟨z,hd,xs,ō,dd⟩:=KP I.a8 e;obtain⟨w',hw,zP⟩:=sR.some_of (v:=v) (o:=(atKey xs k).map (·.2)) (by rw[l];exact ō.val k);obtain⟨p,hp,Hf⟩:=Option.map_eq_some_iff.mp hw;refine wpAny_getItem_heap (tupleKind_room_in1 hu) (Mt I.a8 eb) dd hp ?_;rw[Hf];exact h w' _ (I.tok _) zP
end
def ads(i:r9):Prop:=∀ov iv,subscripted i false ov iv=operate [ov,iv] (Op ov iv)
def WX{Å:r9}{id:String}
  (hl:Re (.type T) "__getitem__"=pure (am (.builtin id))) (hs:ads Å)
  (h:im (lc prog w) A (pr value env) (λo s₁=>im (lc prog w) A (pr Å env) (λi s₂=>s₂.TypeIs o T/\im (lc prog w) A (Op o i) Q E s₂) E s₁) E s) :
  im (lc prog w) A (pr (.Subscript value Å pos) env) Q E s:=by
 refine Subscript_ (BL h (λo s₁ h₁=>BL h₁ (λi s₂ h₂=>?_) λ_ _ x=>x) λ_ _ x=>x);obtain⟨hT,h₂⟩:=h₂;refine Aa ?_;refine Aa (Fq hT hl ?_);have fin:im (lc prog w) A (subscripted Å false o i) (λr s₃=>im (lc prog w) A (letTemporaryGo value o r >>= λ_=>pure r) Q E s₃) E s₂:=by
  rw[hs o i];exact wpAny_operating (BL h₂ (λr s₃ h₃=>Aa (wpAny_letTemporaryGo (Af h₃))) λ_ _ x=>x)
 first
  | exact Af (Aa fin)
  | exact Aa (Af (Aa fin))
  | exact Aa fin
def KR{o:Option V}(I:Inv X Z σ H s)(g:ZA H a y o):s.TypeIs (.ref a) "dict":=by
 rcases g with⟨kvs,k,e,_,_⟩ | ⟨kvs,k,b,e,_,_,_⟩
 ·obtain⟨_,_,vs,_,dd⟩:=KQ I.a8 e;exact dd.typeIs
 ·obtain⟨_,_,xs,_,dd⟩:=KP I.a8 e;exact dd.typeIs
def aeA(td ty:TE):TE:=λσ H Q=>td σ H λx H1=>ty σ H1 λy H2=>∃a v,x=.ref a/\ZA H2 a y (am v)/\Q v H2
section
variable{i:r9}{td ty:TE}
def XI(hu:X.A.units+1 < xz)(ho:PE X o td)(hi:PE X i ty)(hs:ads i):PE X (.Subscript o i pos) (aeA td ty):=by
 intro Z s σ H Q I h;refine WX PySem.F.slot_dict_getitem.lookup hs (bV (ho Z s σ H _ I h) λu s1 ⟨x,H1,I1,rx,q1⟩=>bV (hi Z s1 σ H1 _ I1 q1) λiv s2 ⟨y,H2,I2,ry,a,v,ex,g,q2⟩=>?_);subst ex;obtain rfl:u=Ay a:=rx;exact⟨KR I2 g,Ru hu I2 g ry λw' s3 I3 zP=>⟨v,H2,I3,zP,q2⟩⟩
end
structure M2(X:Cx)(o:r9)(m:Str)(Â:Pos)(e f:r9)(bB:Pos):Prop where
 base:pc o m X.env (pr o X.env)=pr o X.env
 few:((Ev bB (nn [e,f] X.env)).all (λx=>!x.1)&&(backToKw bB (keywordEach [] X.env)).all (λx=>x.1.isSome)
  && decide (([e,f]:List r9).length+([]:List Keyword).length+(if ([]:List Keyword).isEmpty then 0 else 1) < 30))=true
 line:(Â.endLine==bB.line)=true
 trees:Ev bB (nn [e,f] X.env)=[(false,pr e X.env),(false,pr f X.env)]
def IsD(H:Hp)(a:f8):Prop:=(∃kvs,Rd H a (.dK kvs))\/∃kvs,Rd H a (.dT kvs)
end L2
variable{Ù:O Bz}{XP:(Bz->Option Bc)->Fc->Prop}{YP:PySem.World->Fc->Prop}
namespace Att
open PySem PySem.W PySem.Calls PyProof.Rows
def uo{P:Params}:∀(ns:O Int) (vs:O db),WellAll P h vs (ns.map WData.int)->zn vs ns:=by
 intro ns
 induction ns with
 | nil=>
  intro vs w;cases w;exact .nil
 | cons n ns ih=>
  intro vs w;cases w with
  | cons a b=>
   cases a;exact .cons _ _ (ih _ b)
theorem Qh{l:OpenLaw}(hn:l.most=am n){P:Params}{args:O WData}{vals:O db}
  (YJ:l.row.toRowW.claim.pre args=true) (Ř:WellAll P h vals args) :
  ∃a vs ns,vals=[Ay a]/\args=[WData.list (ns.map WData.int)]/\h.get? a=am {cls:=.type "list",data:=.seq vs.toArray}/\zn vs ns/\ns.length<=n:=by
 have hsh:=(pre_splitW YJ).1;have hc:l.pre.holds [] {args:=args}=true:=(pre_splitW YJ).2;obtain⟨d,r,rfl,h1,h2⟩:=hasAllW_cons hsh;obtain rfl:=hasAllW_nil h2;obtain⟨xs,rfl,h3⟩:=hasW_list h1;obtain⟨ns,rfl⟩:=items_int h3;have À:ns.length<=n:=by
  unfold OpenLaw.pre at hc;have h4:(WTm.not (.lt (.lit (.int (n:Int))) (.len (.arg 0)))).holds [] {args:=[.list (ns.map .int)]}=true:=by
   have h4:=(holds_andW hc).1;rw[hn]at h4;exact h4
  have h5:=condW_of h4 (w_not (w_lt w_lit (w_len_list (w_arg rfl))));refine Nat.le_of_not_lt λq=>?_
  first
   | (rw[decide_eq_true q']at h5;exact absurd h5 ⋯)
   | (simp at h5;omega)
 cases Ř with
 | cons w1 w2=>
  cases w2;cases w1 with
  | list ho akj=>exact⟨_,_,ns,rfl,rfl,ho,uo ns _ akj,À⟩
def Qr(l:OpenLaw)(args:O WData):l.row.toRowW.claim.post args (.bool true) args=true:=
 postW_of (r:=l.row.toRowW) (X:=(true==true))
  (show WShape.has [] (.bool true) .bool=true by first | rfl | decide | simp[WShape.has,WShape.arms,WShape.armsAll])
  (show(WTm.eq .res (.lit (.bool true))).value [] {args:=args,res:=am (.bool true),after:=args}=am (.bool (true==true)) from w_eq_bool (w_res rfl) w_lit) rfl
def K3{l:OpenLaw}{q:u8}{d:DefRec}
  (hn:l.most=am n) (Ũ:d.params.defaults=[])
  (call:∀(w:EQ) (s₀ s₁:ii) (mg mb:Str->Option db) (fa:f8) (o:Obj) (pm cd É:db) (a:f8) (vs:O db) (ns:O Int),
   Ground q Ù [] XP w s₀ mg mb s₁.heap->YP w s₁.heap->
   s₁.heap.get? fa=am o->o.data=.func (docDef d.name d.params d.body d.scope pm cd É)->s₁.heap.CodeRec cd d.name->mg d.name=am (.ref fa)->
   s₁.heap.get? a=am {cls:=.type "list",data:=.seq vs.toArray}->zn vs ns->ns.length<=n->s₁.gens=#[]->
   GT (lc l.prog w) callerA (.call (.ref fa) ⟨[.ref a],[]⟩) (λr s'=>r=.ok (.ret (.bool true))/\OldK s₁.heap s'.heap/\s'.os=s₁.os/\Rs s'.gens) s₁) :
  WalkO q Ù XP YP l.row.toRowW d [] (λf vs=>PySem.call f vs):=by
 intro w s₀ s₁ mg mb G Y fa o pm cd É dV kV ho hd g9 hD hmg hg args vals as YJ aoP hrd Ř hlo;obtain rfl:dV=.none:=Dflts.none hD Ũ;obtain rfl:kV=.none:=Dflts.noKw hD;obtain⟨a,vs,ns,rfl,rfl,Ų,Û,À⟩:=Qh hn YJ Ř;refine enter_call (FB (call w s₀ s₁ mg mb fa o pm cd É a vs ns G Y ho (fd_plain hd) g9 hmg Ų Û À hg) λr s' hq=>?_);obtain⟨rfl,h2,h3,h4⟩:=hq;exact⟨.inl ⟨.bool true,.bool true,[],rfl,λ_=>rfl,.bool true,Qr l _,λ_=>⟨List.Pairwise.nil,λ_ hm=>(nomatch hm)⟩⟩,h2,h3,h4⟩
end Att
namespace L2
theorem mX:∀{vs:O db}{ns:O Int},zn vs ns->Vals (ns.map V.int) vs
 | _,_,.nil=>.nil
 | _,_,.cons n t h=>.cons ⟨t,rfl⟩ (mX h)
end L2
variable{sp:L2.Sp}{B:Prop}
namespace L2
def dG(s:ut):Arguments:=match s with
 | .FunctionDef _ a _ _ _ _ _ _ _ _=>a
 | _=>{posonlyargs:=[],args:=[],vararg:=ce,kwonlyargs:=[],kw_defaults:=[],kwarg:=ce,defaults:=[]}
def bE(s:ut):O ut:=match s with
 | .FunctionDef _ _ b _ _ _ _ _ _ _=>b
 | _=>[]
def ay(s:ut):re:=match s with
 | .FunctionDef _ _ _ _ _ _ sc _ _ _=>sc
 | _=>{kind:=.function,names:=[],isGenerator:=false,isCoroutine:=false}
abbrev oM:WD:=λ_ _ _ _ _ _=>False
abbrev E0:XK:=λ_ _ _=>False
def Oz:Passes oM X E0:=λ_ _ _ _ _ _ _ h=>h.elim
structure LA(K:Ab)(x qual:Str)(st:ut)(f:f8)(fd:FS):Prop where
 ex:∃(oc:db) (od:Option f8) (kV É pm:db) (an:Option f8) (cV ct:db) (Qw:Array (Option db)),
  fd=BO x qual (dG st) (bE st) (ay st) .none kV É pm an cV ct/\K.lookup f=am ⟨oc,od,.func fd,Qw⟩/\C6 K cV qual=true
 kp:B6 K (.ref f)=true
section
variable{K:Ab}
def LA.ok{st:ut}{f:f8}{N:O Str}(F:LA K x qual st f fd)(S:c7 N ps (ay st))(len:∀vs H Q E,sp vs H Q E->vs.length=ps.length)
  (Kg:∀(cV:db) (A:ww) (outer:O Env) (s:ii) (H:Hp) (vs:O V) (Q:VK) (E:XK),cI k (A.deeper (Fa qual (ay st) s.heap.objs.size f cV))->sp vs H Q E->
   ∃t,q9 (qR oM P w K mg base N qual (ay st) f cV A outer s H E).Qy (bE st) t/\t {nx:=λ_ H'=>Q .aJ H',rt:=Q} (start N vs) H):eG P w K mg base oM (k+1) f fd ps sp:=by
 obtain⟨oc,od,kV,É,pm,an,cV,ct,Qw,rfl,lk,g9⟩:=F.ex;refine aaq lk g9 S len λA outer s H vs Q E hr UY=>?_;obtain⟨t,h,q⟩:=Kg cV A outer s H vs Q E hr UY;exact⟨t,h.Qy,q⟩
def LA.binds{st:ut}{f:f8}(F:LA K x qual st f fd)
  (h:∀(kV É pm:db) (an:Option f8) (cV ct:db) (us:O db),us.length=ps.length->P3 (BO x qual (dG st) (bE st) (ay st) .none kV É pm an cV ct) ⟨us,[]⟩=pure (ps.zip us)):Binds K fd ps []:=by
 obtain⟨oc,od,kV,É,pm,an,cV,ct,Qw,rfl,lk,g9⟩:=F.ex;exact .all (h kV É pm an cV ct)
def M6{st:ut}{f:f8}{kV:db}(l:K.lookup f=am ⟨oc,od,.func (BO x qual (dG st) (bE st) (ay st) .none kV É pm an cV ct),Qw⟩)
  (c:C6 K cV qual=true) (k:B6 K (.ref f)=true):LA K x qual st f (BO x qual (dG st) (bE st) (ay st) .none kV É pm an cV ct):=⟨⟨oc,od,kV,É,pm,an,cV,ct,Qw,rfl,l,c⟩,k⟩
end
def Qe(h:n<=1000):n < sizeLine:=Nat.lt_of_le_of_lt h ⋯
def Hb{A:Prop}(h:B):if false=true then A else B:=by
 exact h
def Ha{A:Prop}(h:A):if true=true then A else B:=by
 exact h
def i5(H H':Hp):Prop:=∀b o,H b=am o->H' b=am o
def i5.refl(H:Hp):i5 H H:=λ_ _ h=>h
def i5.free(e:i5 H H')(h:H' l=Option.none):H l=Option.none:=by
 cases q:H l with
 | none=>rfl
 | some o=>
  rw[e l o q]at h;cases h
end L2
variable{a b:Nat}{H2:L2.Hp}{Xs:PySem.Scope}{N':O Bz}{ix:O (Option Nat)}{Ç:Cd}{Î:O Cd}{cl:O (Bz×Bm)}{xl:Co}
namespace L2
def lsz{o:Obj}(e:h.get? b=am o):b < h.objs.size:=Aq e
def neN(h:a≠b):a≠b:=h
def ltN(h:a < b):a < b:=h
def aaG{c:Nat}{v:Option db}(q:h.IsCell c v):c < h.objs.size:=q.lt
structure cj(Xs:re)(N:List Str)(sc:re)(N':List Str)(ix:List (Option Nat)):Prop where
 kind:sc.kind=.function
 nc:∀y∈sc.names,y.2≠.cell
 loc:∀y∈sc.names,y.2=.local->sc.names.lookup y.1=am .local
 fr:∀y∈sc.names,y.2=.free->(Xs.names.lookup y.1=am .cell\/Xs.names.lookup y.1=am .free)
 nd:N'.Nodup
 len:ix.length=N'.length
 map:((ix.zip N').all λp=>match p.1 with | none=>true | some j=>decide (N[j]?=am p.2)&&decide (sc.names.lookup p.2=am .free))=true
def cj.at{N:O Str}{sc:re}(S:cj Xs N sc N' ix){i:Nat}(h1:ix[i]?=am (am j))(h2:N'[i]?=am x) :
  N[j]?=am x/\sc.names.lookup x=am .free:=by
 have hm:((am j,x):Option Nat×Str)∈ix.zip N':=by
  refine AM (i:=i) ?_;rw[Bn];exact⟨h1,h2⟩
 have q:=Df.mp S.map _ hm;simp only[AI,decide_eq_true_eq]at q;exact q
def qW(ix:O (Option Nat))(σ:St):St:=ix.map λo=>match o with | some j=>(σ[j]?).getD ce | none=>ce
def jK(X:Cx)(sc:re)(N':O Str)(cl:O (Str×f8))(C:f8)(s2:ii)(H2:Hp)(fp:O f8):Cx where
 prog:=X.prog
 w:=X.w
 K:=X.K
 mg:=X.mg
 base:=X.base
 A:=X.A
 N:=N'
 s₀:=s2
 H₀:=H2
 env:=compEnvC sc cl C X.env
 outer:=X.stack
 stack:=X.stack
 ex:=fp
 calm:=X.calm
 fn:=λ_=>false
 pn:=[]
 xe:=λ_ _=>False
theorem pw:∀(names:O (Str×FM)) (cs:O (Str×f8)),(∀y∈names,y.2=.free->∃c,env.cells.lookup y.1=am c)->
  ∃cl,(forIn names cs λ(x:Str×FM) (c:O (Str×f8))=>(match x with | (name,kind)=>do
    let c <- if (kind==Bk)=true then do let a <- cellOf env name;pure ((name,a)::c) else pure c
    pure (Cu c):Sem (ForInStep (O (Str×f8)))))=pure cl/\(∀x c,cl.lookup x=am c->cs.lookup x=am c\/(env.cells.lookup x=am c/\(x,Bk)∈names))/\(∀x,((x,Bk)∈names\/(∃c,cs.lookup x=am c))->∃c,cl.lookup x=am c)
 | [],cs,_=>⟨cs,rfl,λ_ _ h=>.inl h,λx h=>h.elim (λz=>nomatch z) λz=>z⟩
 | (n,k)::r,cs,h=>by
  by_cases hk:k=.free
  ·subst hk;obtain⟨c,hc⟩:=h (n,.free) Bt rfl;obtain⟨cl,e,h1,h2⟩:=pw r ((n,c)::cs) λy hy=>h y (AN _ hy);refine⟨cl,?_,λx d hd=>?_,λx hx=>?_⟩
   ·rw[Cb,<- e];simp only[beq_self_eq_true,if_true,cellOf,hc,pure_bind]
   ·rcases h1 x d hd with z | ⟨z1,z2⟩
    ·rw[A1]at z;by_cases hx:(x==n)=true
     ·rw[hx]at z;have qB:x=n:=eq_of_beq hx;subst qB;cases z;exact .inr ⟨hc,Bt⟩
     ·have qB:(x==n)=false:=by simpa using hx
      rw[qB]at z;exact .inl z
    ·exact .inr ⟨z1,AN _ z2⟩
   ·refine h2 x ?_;rcases hx with hx | ⟨d,hd⟩
    ·rcases Aw.mp hx with z | z
     ·injection z with z1 _;subst z1;exact .inr ⟨c,by rw[A1];simp⟩
     ·exact .inl z
    ·by_cases hx:(x==n)=true
     ·exact .inr ⟨c,by rw[A1,hx]⟩
     ·have qB:(x==n)=false:=by simpa using hx
      exact .inr ⟨d,by rw[A1,qB];exact hd⟩
  ·obtain⟨cl,e,h1,h2⟩:=pw r cs λy hy=>h y (AN _ hy);refine⟨cl,?_,λx d hd=>?_,λx hx=>?_⟩
   ·have hb:(k==Bk)=false:=by simpa using hk
    rw[Cb,<- e];simp only[hb,Av,if_false,pure_bind]
   ·rcases h1 x d hd with z | ⟨z1,z2⟩
    ·exact .inl z
    ·exact .inr ⟨z1,AN _ z2⟩
   ·refine h2 x ?_;rcases hx with hx | hx
    ·rcases Aw.mp hx with z | z
     ·injection z with _ z2;exact absurd z2.symm hk
     ·exact .inl z
    ·exact .inr hx
def j3{sc:re}(h:∀y∈sc.names,y.2=.free->∃c,env.cells.lookup y.1=am c) :
  ∃cl,closureFor sc env=pure cl/\(∀x c,cl.lookup x=am c->env.cells.lookup x=am c/\(x,Bk)∈sc.names)/\(∀x,(x,Bk)∈sc.names->∃c,cl.lookup x=am c):=by
 obtain⟨cl,e,h1,h2⟩:=pw (env:=env) sc.names [] h;refine⟨cl,?_,λx c hc=>(h1 x c hc).resolve_left (λz=>nomatch z),λx hx=>h2 x (.inl hx)⟩;unfold closureFor;have e':(forIn sc.names ([]:O (Str×f8)) λx r=>(match x with | (name,kind)=>if (kind==Bk)=true then do let a <- cellOf env name;pure (Cu ((name,a)::r)) else pure (Cu r):Sem (ForInStep (O (Str×f8)))))=pure cl:=by
  rw[<- e]
  first
   | rfl
   | (
     congr 1;funext x r;obtain⟨n,k⟩:=x;by_cases hk:(k==Bk)=true
     ·simp only[hk,if_true,pure_bind]
     ·simp only[hk,if_false,pure_bind,Av])
   | simp only[pure_bind]
 simpa using e'
theorem iT{env:Env}:∀{names:O (Str×FM)}{x:Str},
  (names.map λ(n,k)=>if (k==Bk&&env.scope.kind==.function&&env.kindOf n==am .cell) then (n,F3) else (n,k)).lookup x =
   (names.lookup x).map λk=>if (k==Bk&&env.scope.kind==.function&&env.kindOf x==am .cell) then F3 else k
 | [],_=>rfl
 | (n,k)::r,x=>by
  have ih:=@iT env r x;show C9 x ((if (k==Bk&&env.scope.kind==.function&&env.kindOf n==am .cell)=true then (n,F3) else (n,k))::_)=_;cases hx:x==n with
  | true=>
   have e:=eq_of_beq hx;subst e;by_cases hc:(k==Bk&&env.scope.kind==.function&&env.kindOf x==am .cell)=true
   ·rw[if_pos hc,A1,A1,hx];simp only[CZ,hc,if_true]
   ·rw[if_neg hc,A1,A1,hx];simp only[CZ,hc,if_false];simp
  | false=>
   by_cases hc:(k==Bk&&env.scope.kind==.function&&env.kindOf n==am .cell)=true
   ·rw[if_pos hc,A1,A1,hx];exact ih
   ·rw[if_neg hc,A1,A1,hx];exact ih
def PFs(X:Cx)(Î:O r9)(t:TT):Prop:=
 ∀(Z:O (f8×Obj)) (s:ii) (σ:St) (H:Hp) (Q:Bool->Hp->Prop),Inv X Z σ H s->t σ H Q->
  im (lc X.prog X.w) X.A (forIn Î true λc r=>if r=true then do let ok <- isTrue c X.env (pr c X.env);pure (Cu ok) else pure (Cu r)) (TP X Z σ Q) X.xe s
def ai2:TT:=λ_ H Q=>Q true H
def XB:PFs X [] ai2:=λZ s σ H Q I h=>by
 exact Af ⟨H,I,h⟩
def XA{c:r9}{t:TT}(hc:PT X c t):PFs X [c] t:=λZ s σ H Q I h=>by
 rw[Cb];simp only[if_true,bind_assoc,pure_bind];refine Aa (bV (hc Z s σ H Q I h) λb s1 q=>?_);exact Af q
def tLc(ix:O (Option Nat))(wi:TI)(g:TG)(tf:TT)(te:TE):TE:=λσ H Q=>wi σ H λJ H1=>∀D,H1 D=ce->∃W:Nat->Nat->St->O V->Hp->Prop,
 (∃m,W 0 m (qW ix σ) [] (upd H1 D (.lst [])))/\∀i m σ' ys H,W i m σ' ys H->H D=am (.lst ys)/\
  ((J.stop i H/\Q (.ref D) H)\/(J.go i H/\∀x H',J.ZF i H x H'->g x σ' H' λσ2 H2=>tf σ2 H2 λb H3=>
   if b=true then te σ2 H3 λy H4=>H4 D=am (.lst ys)/\ys.length+1<=sizeLine/\∃m',m' < m/\W (i+1) m' σ2 (ys++[y]) (upd H4 D (.lst (ys++[y]))) else ∃m',m' < m/\W (i+1) m' σ2 ys H3))
def nY{Ê:r9}{it acc:db}(I:Nat->ii->Prop)
  (turn:∀n s,I n s->im (lc prog w) A (pyNext it) (λr s₁=>match r with
   | none=>R (.ok .next) s₁
   | some v=>im (lc prog w) A (Sc Ê it v) (λ_ ZJ=>im (lc prog w) A (Pv Ê env v) (λ_ s₂=>
     im (lc prog w) A (forIn Î true λc r=>if r=true then do let ok <- isTrue c env (pr c env);pure (Cu ok) else pure (Cu r)) (λok s₃=>
      if ok=true then im (lc prog w) A (pr Ç env) (λx s₄=>
       im (lc prog w) A (call (.builtin "list.append") [acc,x]) (λ_ s₅=>∃m,m < n/\I m s₅) (λ_ _=>False) s₄) (λ_ _=>False) s₃
      else ∃m,m < n/\I m s₃) (λ_ _=>False) s₂) (λ_ _=>False) ZJ) (λ_ _=>False) s₁) (λ_ _=>False) s)
  (n:Nat) (h:I n s) :
  GT (lc prog w) A (.compLoop (.ListComp Ç [⟨Ê,iter,Î,0⟩] scope pos) 0 it acc env) R s:=by
 refine codeAny_loop rfl I (λn s hI=>?_) n h;refine wpAny_noted ?_;rw[compTurn_list];refine Aa (EO (Aa (BL (turn n s hI) (λr s₁ h₁=>?_) λ_ _ h'=>h'.elim)));cases r with
 | none=>exact Af h₁
 | some v=>
  refine Aa (BL h₁ (λ_ ZJ afS=>?_) λ_ _ h'=>h'.elim);refine Aa (BL afS (λ_ s₂ h₂=>Aa (BL h₂ (λok s₃ h₃=>?_) λ_ _ h'=>h'.elim)) λ_ _ h'=>h'.elim);cases ok with
  | false=>exact Af ⟨rfl,h₃⟩
  | true=>
   have afR:im (lc prog w) A (pr Ç env) (λx s₄=>
       im (lc prog w) A (call (.builtin "list.append") [acc,x]) (λ_ s₅=>∃m,m < n/\I m s₅) (λ_ _=>False) s₄) (λ_ _=>False) s₃:=h₃
   exact Aa (Aa (BL afR (λx s₄ h₄=>Aa (BL h₄ (λ_ s₅ h₅=>Af (Af ⟨rfl,h₅⟩)) λ_ _ h'=>h'.elim)) λ_ _ h'=>h'.elim))
section
variable{sc:re}{wi:TI}{g:TG}{tf:TT}
structure ahh(X:Cx)(Z:List (f8×Obj))(H:Hp)(C:f8):Prop where
 hn:H C=ce
 hL:C≠X.env.locals
 ab:X.s₀.heap.objs.size<=C
 cl:∀x c,X.env.cells.lookup x=am c->c≠C
 pn:∀p∈X.pn++Z,p.1≠C
theorem OT(hc:X.calm=true)(S:cj X.env.scope X.N sc N' ix)
  (hg:∀cl C s2 H2 fp,PG (jK X sc N' cl C s2 H2 fp) tg g) (hf:∀cl C s2 H2 fp,PFs (jK X sc N' cl C s2 H2 fp) Î tf) (he:∀cl C s2 H2 fp,PE (jK X sc N' cl C s2 H2 fp) Ç te) {s2:ii} (qC:∀x c,cl.lookup x=am c->X.env.cells.lookup x=am c/\(x,Bk)∈sc.names) (Hi:∀x,(x,Bk)∈sc.names->∃c,cl.lookup x=am c) {tn:Nat->sw->Prop}{J:It}{Q:VK} (I2:Inv X Z σ H2 s2) (T:Turn X.prog X.w X.K tg J fp it tn) (Qb:tn 0 s2.heap) (f2:∀b∈fp,yk X Z H2 b)
  (hW:∀D,H2 D=ce->∃W:Nat->Nat->St->O V->Hp->Prop,
   (∃m,W 0 m (qW ix σ) [] (upd H2 D (.lst [])))/\∀i m σ' ys H,W i m σ' ys H->H D=am (.lst ys)/\
    ((J.stop i H/\Q (.ref D) H)\/(J.go i H/\∀x H',J.ZF i H x H'->g x σ' H' λσ2 H2=>tf σ2 H2 λb H3=>
     if b=true then te σ2 H3 λy H4=>H4 D=am (.lst ys)/\ys.length+1<=sizeLine/\∃m',m' < m/\W (i+1) m' σ2 (ys++[y]) (upd H4 D (.lst (ys++[y]))) else ∃m',m' < m/\W (i+1) m' σ2 ys H3)))
  {RR:db->f8->Result->ii->Prop}{E:db->ii->Prop}
  (hRR:∀D C m s' H',Inv X Z σ H' s'->Q (.ref D) H'->s'.heap.Ns C m->ahh X Z H' C->RR (.ref D) C (.ok .next) s') :
  im (lc X.prog X.w) X.A (newList []) (λacc s₃=>im (lc X.prog X.w) X.A (newFunctionEnv sc X.env.globals cl [] X.env.qual ce .none (am X.env)) (λag2 s₄=>
   GT (lc X.prog X.w) X.A (.compStart (.ListComp Ç [⟨tg,iter,Î,0⟩] sc pos) 0 (.ref it) acc {ag2 with scope:=relabel sc X.env}) (RR acc ag2.locals) s₄) E s₃) E s2:=by
 refine AJ (wpAny_newFunctionEnv S.nc (by intro y hy;simp at hy) (λh₁ MR He=>?_) S.kind);generalize hH2:s2.heap.push {cls:=.type "list",dict:=ce,data:=.seq ([]:O db).toArray}=G2 at MR He ⊢;have hC:G2.objs.size=s2.heap.objs.size+1:=by rw[<- hH2,Ce]
 obtain⟨D,hD⟩:∃D:Nat,s2.heap.objs.size=D:=⟨_,rfl⟩;obtain⟨C,hCC⟩:∃C:Nat,G2.objs.size=C:=⟨_,rfl⟩;simp only[hD,hCC]at MR He hC ⊢;have hDC:D≠C:=by omega
 have Í:∀b o,s2.heap.get? b=am o->h₁.get? b=am o:=λb o e=>by
  have hb:=lsz e;exact He.extBut b o (neN ∅) (Ag _ (hH2▸Ag _ e))
 have MW:h₁.get? D=am {cls:=.type "list",data:=.seq ([]:O db).toArray}:=by
  refine He.extBut D _ hDC (Ag _ ?_);rw[<- hH2,<- hD];exact Ao _ rfl
 have hD2:H2 D=ce:=I2.a8.fresh ∅;have hC2:H2 C=ce:=I2.a8.fresh ∅;obtain⟨W,⟨m0,w0⟩,turn⟩:=hW D hD2;have aaF:∀x c,cl.lookup x=am c->∃v,s2.heap.IsCell c v:=λx c e=>I2.cell x c (qC x c e).1;have akL:∀x c,cl.lookup x=am c->c < D:=λx c e=>by
  obtain⟨v,q⟩:=aaF x c e;have:=aaG q;exact ltN ∅
 have ů:∀b∈fp,b < D:=λb hb=>by
  obtain⟨o,e,_⟩:=T.obj 0 _ Qb b hb;have:=lsz e;exact ltN ∅
 have Yok:(jK X sc N' cl C s2 H2 fp).Ok:=by
  refine⟨I2.ok.mod,S.kind,I2.ok.glob,I2.ok.blt,?_,?_,?_,?_,I2.ok.hd,I2.ok.frames,.inl rfl,?_,I2.bs,?_,?_,?_,I2.stack,I2.Oc⟩
  ·show s2.heap.objs.size<=C;omega
  ·intro x y c e1 e2;exact I2.ok.inj x y c (qC x c e1).1 (qC y c e2).1
  ·intro x hx;have qB:(relabel sc X.env).names.lookup x=am .cell\/(relabel sc X.env).names.lookup x=am .free:=hx;unfold relabel at qB;rw[iT]at qB;cases q:sc.names.lookup x with
   | none=>rw[q]at qB;simp at qB
   | some k=>
    have hm:=BC q;by_cases hk:k=.free
    ·subst hk;exact Hi x hm
    ·have ñ:k≠.cell:=S.nc _ hm;rw[q]at qB;have hb:(k==Bk)=false:=by simpa using hk
     simp only[CZ,hb,FU,Av,if_false]at qB;rcases qB with z | z
     ·exact absurd (Option.some.inj z) ñ
     ·exact absurd (Option.some.inj z) hk
  ·intro x c YO;exact absurd YO Bg
  ·intro b hb;refine⟨?_,λx c e z=>(f2 b hb).2.2.2.2.1 x c (qC x c e).1 z⟩;show b≠C;have:=ltN (ů b hb);exact neN ∅
  ·exact BG I2.ok.WA I2.sz
  ·intro b o e hb;rcases (f2 b hb).2.2.2.1 with z | z
   ·exact I2.ok.T8 b o e z
   ·have h1:=lsz (h:=X.base) e;have h2:=I2.ok.WA;omega
  ·intro b hb z;rcases Aw.mp (I2.zL b z) with q | q
   ·exact(f2 b hb).2.1 q
   ·exact(f2 b hb).2.2.1 q
 have un0:Un (M7 X.stack) fp H2 (upd H2 D (.lst [])) s2.heap h₁:=Un.laid Í ∅ hD2;have aj0:mU X.prog X.w (upd H2 D (.lst [])) h₁:=I2.a8.laid Í ∅ ⟨A9 _,[],0,.nil,MW⟩;have IY:∀tk,Inv (jK X sc N' cl C s2 H2 fp) [] (qW ix σ) (upd H2 D (.lst [])) {s2 with heap:=h₁,toks:=tk}:=λtk=>by
  refine⟨Yok,rfl,I2.bare,un0,⟨_,MR,λi x v e1 e2 e3=>?_⟩,λx c e=>?_,?_,λx c e=>?_,λp hp=>absurd (show p∈([]:O (f8×Obj)) from hp) (by simp),aj0,?_⟩
  ·have xa:N'[i]?=am x:=e1;unfold qW at e2;rw[Ai]at e2;cases q:ix[i]? with
   | none=>rw[q]at e2;cases e2
   | some o=>
    cases o with
    | none=>rw[q]at e2;cases e2
    | some j=>
     rw[q]at e2;have ń:(σ[j]?).getD ce=am v:=Option.some.inj e2;have e4:σ[j]?=am (am v):=by
      cases z:σ[j]? with
      | none=>rw[z]at ń;cases ń
      | some y=>rw[z]at ń;exact congrArg am ń
     obtain⟨a1,a2⟩:=S.at q xa;have af7:=BC a2;have hk:=S.fr _ af7 rfl;obtain⟨m,_,hl⟩:=I2.loc;obtain⟨u,r,l⟩:=hl j x v a1 e4 (.inr hk);refine⟨u,r,.inr ⟨?_,?_⟩⟩
     ·show(relabel sc X.env).names.lookup x=am .cell\/(relabel sc X.env).names.lookup x=am .free;unfold relabel;rw[iT,a2];by_cases hb:(X.env.scope.kind==.function&&X.env.kindOf x==am .cell)=true
      ·left
       simp only[CZ,beq_self_eq_true,F5,hb,if_true]
      ·right
       simp only[CZ,beq_self_eq_true,F5,hb,if_false,Av]
     ·obtain⟨c,hcx⟩:=Hi x af7;have hcX:=(qC x c hcx).1;refine⟨c,hcx,?_⟩;rcases l with⟨k,_⟩ | ⟨k,c',e',z⟩
      ·have k':X.env.scope.names.lookup x=am .local:=k;rcases hk with y | y <;> rw[k']at y <;> cases y
      ·rw[hcX]at e';cases e';obtain⟨o,ho,hd⟩:=z;exact⟨o,Í _ _ ho,hd⟩
  ·obtain⟨v,o,ho,hd⟩:=aaF x c e;exact⟨v,o,Í _ _ ho,hd⟩
  ·show upd H2 D (.lst []) C=ce;rw[aq (BU hDC)];exact hC2
  ·have gD:=ltN (akL x c e);show upd H2 D (.lst []) c=ce;rw[aq (neN ∅)];exact I2.kD x c (qC x c e).1
  ·unfold qW;rw[Ah];exact S.len
 have Ů:∀{Jv:O (f8×Obj)}{H':Hp},(∀b∈fp,H' b=ce)->(∀p∈Jv,p.1∉fp)->∀b∈fp,yk (jK X sc N' cl C s2 H2 fp) Jv H' b:=λhn hp b hb=>by
  refine⟨hn b hb,?_,?_,.inl hb,λx c e z=>(f2 b hb).2.2.2.2.1 x c (qC x c e).1 z,λp ş z=>?_⟩
  ·show b≠C;have:=ltN (ů b hb);exact neN ∅
  ·exact Yok.Vo b hb
  ·have ajU:p∈([]:O (f8×Obj))++_:=ş;exact hp p ajU (z▸hb)
 have Ğ:∀s₃:ii,s₃={s2 with heap:=h₁,toks:=s2.toks+([]:O (Str×db)).length}->
   GT (lc X.prog X.w) X.A (.compLoop (.ListComp Ç [⟨tg,iter,Î,0⟩] sc pos) 0 (.ref it) (.ref D) (compEnvC sc cl C X.env)) (RR (.ref D) C) s₃:=by
  rintro s₃ rfl;refine nY (λn s'=>∃i σ' ys H',Inv (jK X sc N' cl C s2 H2 fp) [] σ' H' s'/\tn i s'.heap/\(∀b∈fp,H' b=ce)/\W i n σ' ys H') ?_ m0
   ⟨0,_,[],_,IY _,T.keep _ _ _ Qb (λb _ o e=>Í b o e),λb hb=>by rw[aq (AA (ů b hb))];exact(f2 b hb).1,w0⟩
  rintro n s3 ⟨i,σ3,ys,H3,I3,Ĕ,Į,w3⟩;obtain⟨hDl,w3⟩:=turn i n σ3 ys H3 w3;rcases w3 with⟨stop,qn⟩ | ⟨go,step⟩
  ·refine bV (T.done (jK X sc N' cl C s2 H2 fp) rfl rfl rfl hc i [] s3 σ3 H3 _ I3 (Ů Į (by simp)) Ĕ stop) λr s4 ⟨hr,I4⟩=>?_;subst hr;obtain⟨m,hn,_⟩:=I4.loc;refine hRR D C m s4 H3 (I2.ag3 (ch:=fp) I4.os I4.base I4.a8 I4.bare λb hb=>?_) qn hn ?_
   ·obtain⟨a0,a1,a2,a3,a4,a5⟩:=f2 b hb;exact⟨a3,a1,a4,a5⟩
   ·refine⟨I4.free,?_,?_,λx c e z=>?_,λp hp z=>?_⟩
    ·have:=ltN I2.lt;exact neN ∅
    ·have:=I2.sz;omega
    ·obtain⟨v,q⟩:=I2.cell x c e;have:=aaG q;exact neN (a:=c) (b:=C) ∅ z
    ·have:=lsz (I2.pin p hp).1;exact neN (a:=p.1) (b:=C) ∅ z
  ·refine bV (T.item (jK X sc N' cl C s2 H2 fp) rfl rfl rfl hc i [] s3 σ3 H3 (λ_ _=>False) I3 (Ů Į (by simp)) Ĕ go) λr s4 ⟨u,hr,h4⟩=>?_;subst hr;refine bV h4 λ_ s5 ⟨x,H5,I5,r5,y5,ç,ŭ⟩=>?_;have ŷ:=I5.pinned (Ů ŭ (by simp)) (T.obj _ _ ç);refine bV (hg _ _ _ _ _ _ s5 σ3 H5 x u _ ŷ r5 (step x H5 y5)) λ_ s6 ⟨σ6,H6,I6,q6⟩=>?_;refine bV (hf _ _ _ _ _ _ s6 σ6 H6 _ I6 q6) λb s7 ⟨H7,I7,q7⟩=>?_;have Uz:∀{s8:ii}{σ8:St}{H8:Hp},Inv (jK X sc N' cl C s2 H2 fp) ([]++rV fp s5.heap) σ8 H8 s8->tn (i+1) s8.heap/\∀b∈fp,H8 b=ce:=λ{s8 σ8 H8} I8=>by
    refine⟨T.keep _ _ _ ç λb hb o e=>(I8.pin (b,o) (A2 _ (A2 _ (kY hb e)))).1,λb hb=>?_⟩;obtain⟨o,e,d⟩:=T.obj _ _ ç b hb;exact(I8.pin (b,o) (A2 _ (A2 _ (kY hb e)))).2.1
   cases b with
   | false=>
    have q7':=q7;obtain⟨m',hm,w7⟩:=q7';obtain⟨t7,fr7⟩:=Uz I7;exact⟨m',hm,i+1,σ6,ys,H7,I7.mj,t7,fr7,w7⟩
   | true=>
    refine bV (he _ _ _ _ _ _ s7 σ6 H7 _ I7 q7) λyv s8 ⟨y,H8,I8,r8,hD8,hz8,m',hm,w8⟩=>?_;obtain⟨z,au,k,rv,hl8,e8⟩:=I8.ud hD8;obtain⟨t8,fr8⟩:=Uz I8;refine wpAny_list_append_plain (s:=s8) (items:=au.toArray) (hsz:=by rw[Aj];omega) ⟨_,e8⟩ λh9 hl9 hs9=>?_;obtain⟨k9,e9⟩:=hl9;have hv9:=Vals.append rv (.cons r8 .nil);have I9:Inv (jK X sc N' cl C s2 H2 fp) ([]++rV fp s5.heap) σ6 (upd H8 D (.lst (ys++[y]))) {s8 with heap:=h9,toks:=s8.toks}:=by
     refine I8.write (x:=D) (e:=D) (by rw[hD8];exact trivial) (.inl rfl) (λb u hb hu=>(hs9.2 b hb).trans hu) ⟨_,e9⟩ ?_;refine⟨by rw[Al,FA];exact hz8,au++[yv],k9,hv9,?_⟩;rw[e9];simp
    obtain⟨t9,fr9⟩:=Uz I9;exact⟨m',hm,i+1,σ6,_,_,I9.mj,t9,fr9,w8⟩
 exact codeAny_compStart_list (Ğ _ rfl) (T.self _ 0 _ _ _ (T.keep _ _ _ Qb λb _ o e=>Í b o e) (Ğ _ rfl))
def ae9(hc:X.calm=true)(S:cj X.env.scope X.N sc N' ix)(hi:PI X tg iter wi)
  (hg:∀cl C s2 H2 fp,PG (jK X sc N' cl C s2 H2 fp) tg g) (hf:∀cl C s2 H2 fp,PFs (jK X sc N' cl C s2 H2 fp) Î tf) (he:∀cl C s2 H2 fp,PE (jK X sc N' cl C s2 H2 fp) Ç te)
  (hs:IJ X iter:=by intro _;rfl):PE X (.ListComp Ç [⟨tg,iter,Î,0⟩] sc pos) (tLc ix wi g tf te):=by
 intro Z s σ H Q I h;have MV:∀y∈sc.names,y.2=.free->∃c,X.env.cells.lookup y.1=am c:=λy hy hk=>I.ok.has y.1 (S.fr y hy hk);obtain⟨cl,yO,qC,Hi⟩:=j3 MV;refine ES (use:=ce) rfl hs yO S.kind S.loc (bV (hi Z s σ H _ I h) λv s1 h1=>bV h1 λĹ s2 h2=>?_);obtain⟨it,fp,tn,J,H2,rfl,I2,T,Qb,f2,hW⟩:=h2;refine OT (RR:=λacc C=>compPost (lc X.prog X.w) X.A X.xe ce (EP X Z σ Q) acc C) hc S hg hf he qC Hi I2 T Qb f2 hW λD C m s' H' I' q hn F=>?_;refine⟨m,hn,λh' Ŝ=>⟨.ref D,H',?_,rfl,q⟩⟩;exact I'.turned (it:=C) (t':=s'.toks) (λb o hb e=>(Ŝ.2 b hb).trans e) F.hn F.hL (.inr F.ab) F.cl F.pn
def Ti{i:Nat}(hc:X.calm=true)(hN:X.N.Nodup)(U3:X.N[i]?=am x)(hx:X.env.scope.names.lookup x=am .local)(S:cj X.env.scope X.N sc N' ix)(hi:PI X tg iter wi)
  (hg:∀cl C s2 H2 fp,PG (jK X sc N' cl C s2 H2 fp) tg g) (hf:∀cl C s2 H2 fp,PFs (jK X sc N' cl C s2 H2 fp) Î tf) (he:∀cl C s2 H2 fp,PE (jK X sc N' cl C s2 H2 fp) Ç te)
  (ur:‹sB (.ListComp Ç [⟨tg,iter,Î,0⟩] sc pos) (am (.Name x px)) xl.line X.env=pure true›)
  (hs:IJ X iter:=by intro _;rfl):PS X (.Assign [.Name x px] (.ListComp Ç [⟨tg,iter,Î,0⟩] sc pos) xl) (aa1 (tLc ix wi g tf te) (e7 i)):=by
 intro Z s σ H D0 I h;rw[exec_Assign_Name_used _ _ _ _ ur];refine Aa (EO (Aa ?_));show im _ X.A (do let _ <- comprehension (.ListComp Ç [⟨tg,iter,Î,0⟩] sc pos) sc X.env _ (newList []) false (pr iter X.env) (am (Pv (.Name x px) X.env))) _ _ s;have MV:∀y∈sc.names,y.2=.free->∃c,X.env.cells.lookup y.1=am c:=λy hy hk=>I.ok.has y.1 (S.fr y hy hk);obtain⟨cl,yO,qC,Hi⟩:=j3 MV;refine Aa (BL (ES (use:=am (Pv (.Name x px) X.env)) (Q:=λ_ s'=>SP X Z D0 .next s') rfl hs yO S.kind S.loc (bV (hi Z s σ H _ I h) λv s1 h1=>bV h1 λĹ s2 h2=>?_)) (λ_ s' hq=>Af (Af hq)) λ_ _ e=>e);obtain⟨it,fp,tn,J,H2,rfl,I2,T,Qb,f2,hW⟩:=h2;refine OT (RR:=λacc C=>compPost (lc X.prog X.w) X.A X.xe (am (Pv (.Name x px) X.env)) (λ_ s'=>SP X Z D0 .next s') acc C) (Q:=λx H1=>e7 i x σ H1 D0.nx) hc S hg hf he qC Hi I2 T Qb f2 hW λD C m s' H' I' q hn F=>?_;show im _ X.A (Pv (.Name x px) X.env (.ref D)) _ _ _;refine wpAny_assign_Name (yq (v:=.ref D) I' hN U3 (.inl hx) rfl (λWu I'' ģ=>?_) (.inr hx));obtain⟨a,ģ,ha⟩:=ģ;have haC:C≠a:=by
  rcases ha with z | z
  ·rw[z];exact F.hL
  ·exact BU (F.cl _ _ z)
 refine⟨m,hn.sameBut ģ haC,λh' Ŝ=>⟨_,H',?_,q⟩⟩;exact I''.turned (it:=C) (t':=Wu.toks) (λb o hb e=>(Ŝ.2 b hb).trans e) F.hn F.hL (.inr F.ab) F.cl F.pn
end
end L2
variable{a b:Cd}
namespace L2
section
def tK:cm X (.builtin "isinstance") (λxs H Q=>∃x c t b,xs=[x,.ty c]/\n6 X.K H x t/\BJ X.K t (.type c)=am b/\Q (.bl b) H):=by
 intro Z s σ H xs us Q I r h;obtain⟨x,c,t,b,rfl,ty,hk,q⟩:=h;obtain⟨u,w',rfl,ru,zP⟩:=vals2 r;cases (show w'=CG c from zP);exact Q3 I ru ty hk λtk=>⟨.bl b,H,I.tok _,rfl,q⟩
def uk(l:f8)(items:Array db)(n:Nat)(b:f8)(cn:Array db)(n2:Nat)(dd:Option f8)(sl:Array (Option db))(Ĥ:¬(!items.isEmpty&&Builtin.List.listTooLong (items.size+cn.size))=true)(Lx:items.size<=sizeLine)(sE:items.size+cn.size<=sizeLine+1) :
  Meets (BT.«list.extend» ⟨[.ref l,.ref b],[]⟩) (λ_ R s=>s.heap.get? l=am {cls:=.type "list",dict:=ce,data:=.seq items n,slots:=#[]}/\s.heap.get? b=am {cls:=.type "tuple",dict:=dd,data:=.seq cn n2,slots:=sl}/\R (.ok (.ret AY)) {s with heap:=s.heap.update l (Be λx=>x++cn),toks:=s.toks}):=
 .of_wp λprog w A R s h=>by
  obtain⟨hp,g,d,tk,os⟩:=s;obtain⟨hl,hb,h⟩:=h;have f1:=E9;have f2:=DT;have f3:=D9;have f4:=D3;have f5:=D4;have Lw:(items++cn).size<=sizeLine+1:=by rw[Array.size_append];exact sE
  wp_walk using (CY hl rfl (hz:=Lx) (_hz':=Lw)),BQ hl,BQ hb;exact⟨_,rfl,h⟩
def Tc(K:Ab):V->O V->Hp->VK->Prop:=λx vs H Q=>∃l b xs zs,x=.ref l/\vs=[.ref b]/\H l=am (.lst xs)/\dJ K H b zs/\xs.length+zs.length<=sizeLine/\Q .aJ (upd H l (.lst (xs++zs)))
theorem Me:NU X "list.extend" (Tc X.K):=by
 intro Z s σ H x vs v us Q I rx rv h;obtain⟨l,b,xs,zs,rfl,rfl,hH,hB,hz,q⟩:=h;cases rx;obtain⟨u,rfl,ru⟩:=rv.one;cases ru;obtain⟨z,au,n,r,hl,e⟩:=I.ud hH;obtain⟨dr,r2,⟨⟨cls,dd,data,sl⟩,e2,hc,n2,hd⟩,z2⟩:=I.tuple hB;simp only at hc hd;subst hc hd;have U0:=r2.length;have hsz:au.toArray.size+dr.toArray.size<=sizeLine:=by rw[Aj,Aj];omega
 have vR:¬(!au.toArray.isEmpty&&Builtin.List.listTooLong (au.toArray.size+dr.toArray.size))=true:=by
  rw[pY hsz,EA];exact Bg
 refine wT Eo ⟨_,e,rfl⟩ Ec (D2 _ _)
  (uk l au.toArray n b dr.toArray n2 dd sl vR (by rw[Aj];omega) ∅) ⟨e,e2,?_⟩
 refine⟨.aJ,_,I.Mm (its':=au++dr) hH e (by simp) (r.append r2) ?_,rfl,q⟩;rw[Al];omega
end
end L2
variable{j:Int}{k':Nat}{bB:Co}
namespace L2
def kI(l:f8)(H H':Hp):Prop:=∀b u,b≠l->H b=am u->H' b=am u
def kj{p:f8}(h:H p=ce)(o:HO):i5 H (upd H p o):=λb u q=>by rw[aq (bC q h)];exact q
def Qi{p:f8}(o:HO):kI p H (upd H p o):=λb u n q=>by rw[aq n];exact q
def jR(H:Hp)(o:HO)(Q:VK):Prop:=∀p H',i5 H H'->H' p=am o->H p=ce->Q (.ref p) H'
def jR.at{o:HO}{Q:VK}(h:jR H o Q)(p:f8)(hp:H p=ce):Q (.ref p) (upd H p o):=h p _ (kj hp o) aD hp
def Jc(H:Hp)(l:f8)(o:HO)(Q:Hp->Prop):Prop:=∀H',kI l H H'->H' l=am o->Q H'
def Jc.at{o:HO}{Q:Hp->Prop}(h:Jc H l o Q):Q (upd H l o):=h _ (Qi o) aD
def lN.mono{f:db->db->Sem db}{r r':R2}(h:lN X f r)(hr:∀x y H Q,r' x y H Q->r x y H Q):lN X f r':=λZ s σ H x y v u Q I rx ry q=>h Z s σ H x y v u Q I rx ry (hr _ _ _ _ q)
def cm.mono{f:db}{r r':O V->Hp->VK->Prop}(h:cm X f r)(hr:∀xs H Q,r' xs H Q->r xs H Q):cm X f r':=λZ s σ H xs us Q I rx q=>h Z s σ H xs us Q I rx (hr _ _ _ q)
def NU.mono{id:String}{r r':V->O V->Hp->VK->Prop}(h:NU X id r)(hr:∀x xs H Q,r' x xs H Q->r x xs H Q):NU X id r':=λZ s σ H x xs v us Q I rx rv q=>h Z s σ H x xs v us Q I rx rv (hr _ _ _ _ q)
def RO.mono{r r':Wk}(h:RO X r)(hr:∀o i v H Q,r' o i v H Q->r o i v H Q):RO X r':=λZ s σ H o i v ov iv u Q I ro ri rv q=>h Z s σ H o i v ov iv u Q I ro ri rv (hr _ _ _ _ _ q)
section
variable{t:TA}
def aeq(t:TA):TE:=λσ H Q=>t σ H λxs H1=>xs.length<=sizeLine/\jR H1 (.tup xs) Q
def aex(t:TA):TE:=λσ H Q=>t σ H λxs H1=>xs.length<=sizeLine/\jR H1 (.lst xs) Q
def XC{x1}(h:PA X es t):PE X (.Tuple es x1 pos) (aeq t):=by
 intro Z s σ H Q I hq;refine wpAny_Tuple_spliced (bV (h pos Z s σ H _ I hq) λus s1 ⟨xs,H1,I1,r,z,q⟩=>⟨by rw[<- r.length];exact z,?_⟩);have hf:=I1.a8.fresh (Ak _);refine⟨.ref s1.heap.objs.size,upd H1 s1.heap.objs.size (.tup xs),I1.laid (t':=s1.toks) (λb u e=>Ag _ e) (Ak _) ?_,rfl,q.at _ hf⟩;exact⟨z,us,r,⟨_,Ao _ rfl,rfl,_,rfl⟩⟩
def XG(h:PA X es t):PE X (.List es pos) (aex t):=by
 intro Z s σ H Q I hq;refine wpAny_List_spliced (bV (h pos Z s σ H _ I hq) λus s1 ⟨xs,H1,I1,r,z,q⟩=>⟨by rw[<- r.length];exact z,?_⟩);have hf:=I1.a8.fresh (Ak _);refine⟨.ref s1.heap.objs.size,upd H1 s1.heap.objs.size (.lst xs),I1.laid (t':=s1.toks) (λb u e=>Ag _ e) (Ak _) ?_,rfl,q.at _ hf⟩;exact⟨z,us,0,r,Ao _ rfl⟩
def ZQ(K:Ab):R2:=λx y H Q=>match x with
 | .int i=>∃j,y=.int j/\Q (.int (i+j)) H
 | .str i=>∃j,y=.str j/\i.length+j.length<=sizeLine/\Q (.str (i++j)) H
 | .ref a=>(∃b xs zs,y=.ref b/\H a=am (.lst xs)/\H b=am (.lst zs)/\xs.length+zs.length<=sizeLine/\jR H (.lst (xs++zs)) Q)\/ZS K x y H Q
 | _=>False
def X0:lN X (wn .Add) (ZQ X.K):=by
 refine((abM.or L8).or (abL.or OC)).mono λx y H Q h=>?_;cases x with
 | int i=>obtain⟨j,rfl,q⟩:=h;exact .inl (.inl ⟨i,j,rfl,rfl,q⟩)
 | str i=>obtain⟨j,rfl,hl,q⟩:=h;exact .inl (.inr ⟨i,j,rfl,rfl,hl,q⟩)
 | ref a=>
  rcases h with⟨b,xs,zs,rfl,h1,h2,hz,q⟩ | h
  ·exact .inr (.inl ⟨a,b,xs,zs,rfl,rfl,h1,h2,hz,λp hp=>q.at p hp⟩)
  ·exact .inr (.inr h)
 | _=>exact h.elim
def XU:lN X (wn .Mult) (rI wP λi j=>.int (i*j)):=opI λ_ _ _ _ _ _ _ hc q=>mul_int q hc
def NA:cm X (.type "list") (λxs H Q=>∃p ys,xs=[.ref p]/\(eI X.K H p ys\/dJ X.K H p ys)/\jR H (.lst ys) Q):=Ih.mono λxs H Q ⟨p,ys,e,h,q⟩=>⟨p,ys,e,h,λl hl=>q.at l hl⟩
def Td:V->O V->Hp->VK->Prop:=λx vs H Q=>∃l xs y,x=.ref l/\vs=[y]/\H l=am (.lst xs)/\xs.length < sizeLine/\Jc H l (.lst (xs++[y])) (Q .aJ)
def vq:NU X "list.append" Td:=Qz.mono λx xs H Q ⟨l,ys,y,e1,e2,h,hz,q⟩=>⟨l,ys,y,e1,e2,h,hz,q.at⟩
def Qn(K:Ab):V->O V->Hp->VK->Prop:=λx vs H Q=>∃l b xs zs,x=.ref l/\vs=[.ref b]/\H l=am (.lst xs)/\dJ K H b zs/\xs.length+zs.length<=sizeLine/\Jc H l (.lst (xs++zs)) (Q .aJ)
def JL:NU X "list.extend" (Qn X.K):=Me.mono λx xs H Q ⟨l,b,ys,zs,e1,e2,h1,h2,hz,q⟩=>⟨l,b,ys,zs,e1,e2,h1,h2,hz,q.at⟩
def aeU:V->O V->Hp->VK->Prop:=λx vs H Q=>∃l xs y,x=.ref l/\vs=[]/\H l=am (.lst (xs++[y]))/\Jc H l (.lst xs) (Q y)
def Yb:NU X "list.pop" aeU:=abV.mono λx xs H Q ⟨l,ys,y,e1,e2,h,q⟩=>⟨l,ys++[y],y,e1,e2,h,by simp,by rw[List.dropLast_concat];exact q.at⟩
def abj:Wk:=λo i v H Q=>∃p xs k j,o=.ref p/\i=.int k/\H p=am (.lst xs)/\tB xs.length k=am j/\Jc H p (.lst (xs.set j v)) Q
def Qg:RO X abj:=set_list.mono λo i v H Q ⟨p,xs,k,j,e1,e2,h,hj,q⟩=>⟨p,xs,k,j,e1,e2,h,hj,q.at⟩
end
section
variable(K:Ab)(hK:X.K=K){to:TE}{t:TA}{name:Str}{Ĉ:String}{r:V->O V->Hp->VK->Prop}{l:r9}
include hK
def YA:WB X (rIx K):=hK▸acj
def XZ:lN X (wn .Add) (ZQ K):=hK▸X0
def abl(K:Ab):O V->Hp->VK->Prop:=λxs H Q=>∃x n,xs=[x]/\ag9 K x H n/\Q (.int n) H
def y9:cm X (.builtin "len") (abl K):=hK▸V5
def Ta(K:Ab):O V->Hp->VK->Prop:=λxs H Q=>∃p ys,xs=[.ref p]/\(eI K H p ys\/dJ K H p ys)/\jR H (.lst ys) Q
def Nz:cm X (.type "list") (Ta K):=hK▸NA
def aiR(K:Ab)(ta:TE):TT:=λσ H Q=>ta σ H λx H'=>∃k,ado K x H' k/\Q k H'
def yw(ha:PE X a ta)(he:∀Ä,isTrue a X.env Ä=(do let v <- Ä;standAt a.pos;KM [v] (truthy v))):PT X a (aiR K ta):=hK▸Tg ha he
def Tv(hl:PE X l tl):PI X tg l (aad K tl):=hK▸Xy hl
def XM(pa:PlainAttrs T)(slot:Slot T name Ĉ)(ï:typeOf (.builtin Ĉ)=pure (.type "method_descriptor"))(hm:MtR X Ĉ r)(ho:PE X o to)
  (dz:‹pc o name X.env (pr o X.env)=pr o X.env›) (dw:‹R5 Â bB›):PE X (.Call (.Attribute o name Â) [] [] bB) (aeD K T r to):=hK▸abC pa slot ï hm ho dz dw
def oX(pa:PlainAttrs T)(slot:Slot T name Ĉ)(ï:typeOf (.builtin Ĉ)=pure (.type "method_descriptor"))(hm:MtR X Ĉ r)(ho:PE X o to)(ha:PA X (e::es) t)
  (dz:‹pc o name X.env (pr o X.env)=pr o X.env›)
  (mI:‹Zy X bB (e::es)›)
  (dw:‹R5 Â bB›) (hs:‹fR X e es›) (du:‹kJ X bB es›) :
  PE X (.Call (.Attribute o name Â) (e::es) [] bB) (tBM K T r to t):=hK▸afa pa slot ï hm ho ha dz mI dw hs du
omit hK
end
structure ZD(P:u8)(w:EQ)(K:Ab)(mg:Str->Option db)(base:sw)(x:Str)(k:Nat)(ps:List Str)(sp:Sp) where
 f:f8
 fd:FS
 ok:eG P w K mg base oM k f fd ps sp
 bi:Binds K fd ps []
 kp:B6 K (.ref f)=true
 at':mg x=am (.ref f)
section
variable{t:TA}
def aeC(sp:Sp)(t:TA):TE:=λσ H Q=>t σ H λvs H1=>sp vs H1 Q E0
def TK(G:ZD X.prog X.w X.K X.mg X.base x k ps sp)(hr:cI k' X.A)(hk:k<=k')(hg:Gl X x)(ha:PA X (e::es) t)(lA: ~~~(gK x))
  (he:‹fR X e es›) (dg:‹kJ X pos es›) :
  PE X (.Call (.Name x p) (e::es) [] pos) (aeC sp t):=by
 intro Z s σ H Q I h;refine Bf (uG I hg G.at' ?_ lA);refine Em (h₀:=X.base) I.ok.mod.kin G.kp (bV (ha pos Z s σ H _ I h) λus s1 ⟨vs,H1,I1,r,q⟩=>⟨I1.o8,?_⟩) he dg;refine SX (dvs:=[]) (ds:=[]) G.ok (hr.mono hk) G.bi .nil Oz I1 r ?_;rw[B1];exact q
end
section
theorem Wb{xs:List α}(h0:0<=i)(h1:i < xs.length):∃v,dC xs i=am v/\xs[i.toNat]?=am v:=by
 have hk:i.toNat < xs.length:=by omega
 have q:=cg (by rw[Ad hk]);have e:((i.toNat:Nat):Int)=i:=by omega
 rw[e]at q;exact⟨_,q,by rw[Ad hk]⟩
def ZY(h1:-18446744073709551616 < i)(h2:i < 18446744073709551616):wP i j:=ZE.ok (.inl ⟨h1,h2⟩)
def mul_r(h1:-18446744073709551616 < j)(h2:j < 18446744073709551616):wP i j:=ZE.ok (.inr ⟨h1,h2⟩)
end
def bx(h:n<=1000):n<=sizeLine:=DB (Qe h)
end L2
variable{p1:Co}
namespace L2
theorem Vals.va:∀{xs:O V}{us:O db},Vals xs us->Vals xs.reverse us.reverse
 | _,_,.nil=>.nil
 | _,_,.cons h t=>by rw[C5,C5];exact(Vals.va t).append (.cons h .nil)
def abZ:Re (.type "list_reverseiterator") (B7 "__len__")=pure ce:=by kernel_rfl
def Yi:Re (.type "list_reverseiterator") (B7 "__length_hint__")=pure (am (.builtin "list_reverseiterator.__length_hint__")):=by kernel_rfl
def W5:splitId "list_reverseiterator.__length_hint__"=am ("list_reverseiterator","__length_hint__"):=by kernel_rfl
def WW:isSubtype (.type "list_reverseiterator") (.type "list_reverseiterator")=pure true:=by kernel_rfl
def U1{r:f8}{Q:Bool->ii->Prop}(h:s.heap.IsRevIter r l i)(q:Q false s):im (lc prog w) A (Builtin.List.listLengthHint (Ay r)) Q E s:=by
 refine Aa (Fq h.typeIs abZ ?_);refine Aa (Fq h.typeIs Yi ?_);dsimp only;rw[W5];dsimp only;refine Aa (DU h.typeIs WW ?_);rw[if_neg ⋯];exact Af q
def xC{r S:f8}(hA:A.handled=ce)(h:s.heap.IsRevIter r l (items.size-1))(hl:s.heap.IsList l items)(ĉ:l≠r)(ũ:S≠r)(hSl:S≠l)(hz:items.size<=sizeLine)
  (hS:s.heap.get? S=am {cls:=CG "list",data:=FO #[]})
  (q:∀(h':sw) (tk:Nat) (acc:Array db) (c:Nat),(∀b o,b≠S->b≠r->s.heap.get? b=am o->h'.get? b=am o)->h'.get? S=am {cls:=CG "list",data:=FO acc c}->ItemsOf (λi v=>items[items.size-1-i]?=am v) acc items.size->R (.ok (.ret .none)) {s with heap:=h',toks:=tk}) :
  im (lc prog w) A.in1 (BT.«list.__init__» {pos:=[Ay S,Ay r]})
   (λfin s'=>match fin with | FN f=>R (Except.ok f) s' | Fin.again c'=>c'.quiet=true/\GT (lc prog w) A c' R s') (λe s'=>R (Except.error e) s') s:=by
 unfold BT.«list.__init__»;refine Aa (wpAny_listItems hS rfl ?_);refine Aa ?_;refine CY hS rfl ?_ (by simp) (by simp);refine Aa (CT ?_);have k1:∀b o,b≠S->s.heap.get? b=am o->(s.heap.update S (Be λ_=>#[])).get? b=am o:=λb o hb e=>by rw[BP _ _ (BU hb)];exact e
 have hS1:=BV (Be λ_=>#[]) hS rfl;generalize s.heap.update S (Be λ_=>#[])=h1 at k1 hS1 ⊢;have ļ:h1.IsRevIter r l (items.size-1):=let ⟨o,e,p⟩:=h;⟨o,k1 _ _ (BU ũ) e,p⟩;have Ţ:h1.IsList l items:=let ⟨o,e,p⟩:=hl;⟨o,k1 _ _ (BU hSl) e,p⟩;unfold Builtin.List.listExtendWith;refine Aa (Cw (T:="list_reverseiterator") ļ.typeIs ?_);rw[if_neg (by
  have e1:Builtin.List.listSameRef (Ay S) (Ay r)=false:=by
   unfold Builtin.List.listSameRef;simpa using ũ
  rw[e1];decide)]
 refine Aa (wpAny_pyIter_revIter ļ ?_);refine Aa (Bl (U1 ļ ?_));rw[if_neg ⋯];refine Af ⟨wS F.plain_extend_loop _,?_⟩;refine codeAny_extend_loopS (Walks.toS (Walks.listRev (A:=A.in1) hA r l ĉ items)) hz S (by simp[ũ,hSl]) .none items.size 0 _ #[] _ (Ej _) (A9 _) ⟨A9 _,by simpa using ļ,Ţ⟩ hS1 (ItemsOf.nil _) ?_;intro s' acc c mv e io;rw[mv.eq_with];exact q s'.heap s'.toks acc c (λb o n1 n2 e'=>mv.heap b o (by simp[n1,n2]) (k1 b o n1 e')) e io
def yd{r:f8}(hA:A.handled=ce)(h:s.heap.IsRevIter r l (items.size-1))(hl:s.heap.IsList l items)(ĉ:l≠r)(hz:items.size<=sizeLine)
  (q:∀(h':sw) (tk:Nat) (acc:Array db) (c:Nat),(∀b o,b≠r->s.heap.get? b=am o->h'.get? b=am o)->h'.get? s.heap.objs.size=am {cls:=CG "list",data:=FO acc c}->ItemsOf (λi v=>items[items.size-1-i]?=am v) acc items.size->Q (.ref s.heap.objs.size) {s with heap:=h',toks:=tk}) :
  im (lc prog w) A (call (CG "list") [Ay r]) Q E s:=by
 have lr:=let ⟨_,e,_⟩:=h;Aq e;have ll:=let ⟨_,e,_⟩:=hl;Aq e;refine callType_codes F.called_list (F.typeCall_list_1 _) F.entry_list_init (code_list_new (Q₁:=λv s₁=>v=.ref s.heap.objs.size/\s₁={s with heap:=s.heap.push {cls:=CG "list",data:=FO #[]}}) _ ⟨rfl,rfl⟩) ?_;rintro obj s₁ ⟨rfl,rfl⟩;refine⟨⟨_,Ao _ rfl,rfl⟩,F.args_list_init_2 _ _,?_⟩;have kp:∀b o,s.heap.get? b=am o->(s.heap.push {cls:=CG "list",data:=FO #[]}).get? b=am o:=λb o e=>Ag _ e;refine xC (A:=A.in1) (items:=items) (l:=l) hA (let ⟨o,e,p⟩:=h;⟨o,kp _ _ e,p⟩) (let ⟨o,e,p⟩:=hl;⟨o,kp _ _ e,p⟩) ĉ (λz=>by rw[z]at lr;exact A5 _ lr) (λz=>by rw[z]at ll;exact A5 _ ll) hz (Ao _ rfl) ?_;intro h' tk acc c k e io;exact⟨rfl,q h' tk acc c (λb o n e'=>k b o (λz=>by rw[z]at e';exact A5 _ (Aq e')) n (kp b o e')) e io⟩
def tLR(K:Ab)(te:TE):TE:=λσ H Q=>te σ H λx H1=>∃p ys,x=.ref p/\eI K H1 p ys/\jR H1 (.lst ys.reverse) Q
section
variable(K:Ab)(hK:X.K=K){q1 q2:Pos}
include hK
theorem L6(hc:X.calm=true)(õ:Gl X "list")(YM:X.mg "list"=ce)(ô:Gl X "reversed")(Ly:X.mg "reversed"=ce)(he:PE X e te)
  (Lx:‹nn [.Call (.Name "reversed" q1) [e] [] q2] X.env=(false,pr (.Call (.Name "reversed" q1) [e] [] q2) X.env)::nn [] X.env›) (sE:‹fR X e []›) :
  PE X (.Call (.Name "list" p1) [.Call (.Name "reversed" q1) [e] [] q2] [] p2) (tLR K te):=by
 intro Z s σ H Q I h;subst hK;refine Bf (gB I õ YM boot_list ?_ ⋯ ⋯);refine A6 ?_ Lx rfl;refine B2 ?_;refine Bf (gB I ô Ly boot_reversed ?_ ⋯ ⋯);refine A6 ?_ sE rfl;rw[sE];refine B2 (bV (he Z s σ H _ I h) λu s1 ⟨x,H1,I1,r1,pa,ys,ex,hS,q⟩=>Cv ?_);subst ex;cases r1;obtain⟨au,rv,pl,hz⟩:=I1.list hS;have À:=rv.length;have lp:=let ⟨_,e,_⟩:=pl.isList;Aq e;refine call_reversed_list pl.isList ?_;refine Cv ?_;have kp:∀b o,s1.heap.get? b=am o->(s1.heap.push (revObj pa (au.toArray.size-1))).get? b=am o:=λb o e=>Ag _ e;refine yd (items:=au.toArray) (l:=pa) (r:=s1.heap.objs.size) (I1.ok.hd hc) ⟨_,Ao _ rfl,rfl,rfl⟩ (let ⟨o,e,p⟩:=pl.isList;⟨o,kp _ _ e,p⟩) (λz=>by rw[z]at lp;exact A5 _ lp) (by rw[Aj];omega) ?_;intro h' tk acc c k e io;have kk:∀b o,s1.heap.get? b=am o->h'.get? b=am o:=λb o eb=>k b o (λz=>by rw[z]at eb;exact A5 _ (Aq eb)) (kp b o eb);have ea:acc=au.reverse.toArray:=by
  obtain⟨z1,z2⟩:=io;apply Array.ext
  ·rw[z1,Aj,Aj,B8]
  ·intro j h1 h2;have:=z2 j acc[j] (Dh h1);rw[Aj]at this;have hj:j < au.length:=by rw[z1,Aj]at h1;exact h1
   rw[FC]at this;have e3:au.reverse[j]?=am acc[j]:=by rw[List.getElem?_reverse hj];exact this
   rw[D6];exact(Option.some.inj (((Ad (by rw[B8];exact hj)).symm.trans e3))).symm
 subst ea;have sE:s1.heap.objs.size<=(s1.heap.push (revObj pa (au.toArray.size-1))).objs.size:=by simp[Heap.push]
 refine⟨.ref _,upd H1 _ (.lst ys.reverse),I1.laid (t':=tk) kk sE ?_,rfl,q.at _ (I1.a8.fresh sE)⟩;exact⟨by rw[B8];exact hz,au.reverse,c,rv.va,e⟩
end
end L2
namespace My
def Wd(x:Str):Prop:=1<=x.length/\x.length<=8/\∀c∈x.cps.toList,97<=c/\c < 123
def Part(x:Str)(n:Nat):Prop:=x.length<=n/\∀c∈x.cps.toList,97<=c/\c < 123
theorem xD{d st:Int}(h:st=1\/st=3\/st=5\/st=7\/st=9\/st=11)(hn:n<=26):((AD n).map λk:Nat=>am (97+((d+st*(0+(k:Int))) % 26).toNat)).Nodup:=by
 unfold List.Nodup;rw[EL];refine List.Pairwise.imp_of_mem ?_ DC;intro a b ha hb w9 hz;have ú:=AU.mp hb;have Lw:=Option.some.inj hz;rcases h with rfl | rfl | rfl | rfl | rfl | rfl <;> omega
def Gz{g:α->β}{l:List α}(h:(l.map g).Nodup):l.Nodup:=(EL.mp h).imp λh e=>h (congrArg g e)
def Mp:∀k:_root_.Fin 26,dC ("abcdefghijklmnopqrstuvwxyz":Str).cps.toList (k.val:Int)=am (97+k.val):=by decide +kernel
theorem QP{n:Int}(h0:0<=n)(h1:n < 26):dC ("abcdefghijklmnopqrstuvwxyz":Str).cps.toList n=am (97+n.toNat):=by
 have e:=Mp ⟨n.toNat,by omega⟩;have e2:((n.toNat:Nat):Int)=n:=by omega
 rw[e2]at e;exact e
inductive Tr where
 | leaf (x:Str)
 | node (l r:Tr)
def Tr.aB:Tr->O Str
 | .leaf x=>[x]
 | .node l r=>l.aB++r.aB
def Tr.size:Tr->Nat
 | .leaf _=>1
 | .node l r=>l.size+r.size+1
def Tr.depth:Tr->Nat
 | .leaf _=>0
 | .node l r=>max l.depth r.depth+1
def Tr.Ws(t:Tr):Prop:=∀x∈t.aB,Wd x
theorem Tr.lj:∀t:Tr,1<=t.aB.length
 | .leaf _=>Ak _
 | .node l r=>by have:=l.lj;show 1<=(l.aB++r.aB).length;rw[Al];omega
theorem Tr.qN:∀t:Tr,t.depth < t.aB.length
 | .leaf _=>De 0
 | .node l r=>by
  have h1:=l.qN;have h2:=r.qN;have h3:=l.lj;have h4:=r.lj;show max l.depth r.depth+1 < (l.aB++r.aB).length;rw[Al];omega
theorem Tr.size_eq:∀t:Tr,t.size+1=2*t.aB.length
 | .leaf _=>rfl
 | .node l r=>by
  have h1:=l.size_eq;have h2:=r.size_eq;show l.size+r.size+1+1=2*(l.aB++r.aB).length;rw[Al];omega
def bH(ts:O Tr):Nat:=(ts.map Tr.size).sum
def gQ(a b:O Tr):bH (a++b)=bH a+bH b:=by unfold bH;rw[AW,List.sum_append]
def rM(t:Tr):bH [t]=t.size:=by simp[bH]
theorem Tr.size_pos:∀t:Tr,1<=t.size
 | .leaf _=>Ak _
 | .node l r=>by show 1<=l.size+r.size+1;omega
theorem nk:∀ts:O Tr,ts.length<=bH ts
 | []=>Ak _
 | t::r=>by have:=nk r;have:=t.size_pos;show r.length+1<=t.size+bH r;omega
def Tr.post:Tr->O Tr
 | .leaf x=>[.leaf x]
 | .node l r=>l.post++r.post++[.node l r]
def Tr.dj:∀t:Tr,t.post.length=t.size
 | .leaf _=>rfl
 | .node l r=>by show(l.post++r.post++[_]).length=l.size+r.size+1;rw[Al,Al,l.dj,r.dj];rfl
def cJ(ts:O Tr):O Tr:=(ts.map Tr.post).flatten
def kU(a b:O Tr):cJ (a++b)=cJ a++cJ b:=by unfold cJ;rw[AW,List.flatten_append]
def rT(t:Tr):cJ [t]=t.post:=by simp[cJ]
def Qp(t u:Tr):cJ [t,u]=t.post++u.post:=by simp[cJ]
inductive Ent where
 | word (x:Str)
 | pair (a b:Nat)
def Tr.nd:Tr->Nat->O Ent
 | .leaf x,_=>[.word x]
 | .node l r,o=>l.nd o++r.nd (o+l.size)++[.pair (o+l.size-1) (o+l.size+r.size-1)]
def Tr.bp:∀(t:Tr) (o:Nat),(t.nd o).length=t.size
 | .leaf _,_=>rfl
 | .node l r,o=>by show(l.nd o++r.nd (o+l.size)++[_]).length=l.size+r.size+1;rw[Al,Al,l.bp,r.bp];rfl
def run:O Tr->O Ent->O Nat->Option (O Ent×O Nat)
 | [],Á,ls=>am (Á,ls)
 | .leaf x::k,Á,ls=>run k (Á++[.word x]) (Á.length::ls)
 | .node _ _::k,Á,b::a::ls=>run k (Á++[.pair a b]) (Á.length::ls)
 | .node _ _::_,_,_=>ce
theorem u9:∀(t:Tr) (k:O Tr) (Á:O Ent) (ls:O Nat),run (t.post++k) Á ls=run k (Á++t.nd Á.length) ((Á.length+t.size-1)::ls)
 | .leaf x,k,Á,ls=>rfl
 | .node l r,k,Á,ls=>by
  have e1:(Tr.node l r).post++k=l.post++(r.post++(Tr.node l r::k)):=by show l.post++r.post++[_]++k=_;simp
  rw[e1,u9 l,u9 r];have e2:(Á++l.nd Á.length).length=Á.length+l.size:=by rw[Al,l.bp]
  rw[e2];show run k _ _=run k _ _;have e3:(Á++l.nd Á.length++r.nd (Á.length+l.size)).length=Á.length+(Tr.node l r).size-1:=by
   rw[Al,Al,l.bp,r.bp];show _=Á.length+(l.size+r.size+1)-1;omega
  rw[e3];have e4:Á++(Tr.node l r).nd Á.length=Á++l.nd Á.length++r.nd (Á.length+l.size)++[.pair (Á.length+l.size-1) (Á.length+l.size+r.size-1)]:=by
   show Á++(l.nd Á.length++r.nd (Á.length+l.size)++[_])=_;simp
  rw[e4]
def Qk(t:Tr):run t.post [] []=am (t.nd 0,[t.size-1]):=by
 have:=u9 t [] [] [];rw[B1]at this;rw[this];show am ([]++t.nd 0,[0+t.size-1])=_;simp
end My
variable{xs:O L2.V}{x:Bc}{i:Nat}
namespace L2
def jo{t:f8}(h:s.heap.IsTupleIter it t i)(ht:s.heap.IsTuple t items)(hx:items[i]?=am x)
  (q:∀h':sw,h'.IsTupleIter it t (i+1)->Cn it s.heap h'->Q x {s with heap:=h'}):im (lc prog w) A (Builtin.SmallTypes.nextOf (.ref it)) Q E s:=by
 unfold Builtin.SmallTypes.nextOf;refine Aa (A4 h.typeIs Cp (Bd Cp h.typeIs Eh ?_ (D8 _)));obtain⟨o,ho,hc,hd⟩:=id h;obtain⟨ot,Š,htc,n,Ś⟩:=id ht;show im _ _ (field (.ref it) 0 >>= λseq=>_) _ _ s;refine Aa (A7 ho hd rfl ?_);refine Aa (A7 ho hd rfl ?_);refine Aa (BK Š Ś ?_);show im _ _ (match items[i]? with | some x=>(do Fk (.ref it) 1 (sn ((i:Int)+1));ret x) | none=>_) _ _ s;rw[hx];refine Aa (Es ho hd (show 1 < 2 by decide) ?_);refine Af ⟨x,rfl,Af (q _ ⟨_,BV _ ho (by rw[Fx (Dq hd _)]),by rw[Obj.cls_mapFields];exact hc,by rw[Dq hd];rfl⟩ (Cn.update ..))⟩
def WY{Q:α->ii->Prop}(hA:A.handled=ce)
  (q:∀(h':sw) (e:f8),(∀b o,s.heap.get? b=am o->h'.get? b=am o)->(∃o,h'.get? e=am o/\o.cls=.type "StopIteration")->E (.ref e) {s with heap:=h'}):im (lc prog w) A (Builtin.SmallTypes.stopIteration (α:=α)) Q E s:=by
 refine Aa ?_;refine Aa (C8 ?_ (by show 0<=sizeLine;decide));refine Aa (CS (a:=AY) rfl ?_);refine AJ ?_ (sizeOk_excFields ..);unfold raiseNew;refine Aa (wpAny_handled ?_);rw[hA];refine wpAny_throw (q _ _ (λb o e=>Ag _ (Ag _ e)) ⟨_,Ao _ rfl,rfl⟩)
def kq{t:f8}(hA:A.handled=ce)(h:s.heap.IsTupleIter it t i)(ht:s.heap.IsTuple t items)(hx:items[i]?=ce)
  (q:∀(h':sw) (e:f8),Gk it s.heap h'->(∃o,h'.get? e=am o/\o.cls=.type "StopIteration")->E (.ref e) {s with heap:=h'}):im (lc prog w) A (Builtin.SmallTypes.nextOf (.ref it)) Q E s:=by
 unfold Builtin.SmallTypes.nextOf;refine Aa (A4 h.typeIs Cp (Bd Cp h.typeIs Eh ?_ (D8 _)));obtain⟨o,ho,hc,hd⟩:=id h;obtain⟨ot,Š,htc,n,Ś⟩:=id ht;show im _ _ (field (.ref it) 0 >>= λseq=>_) _ _ s;refine Aa (A7 ho hd rfl ?_);refine Aa (A7 ho hd rfl ?_);refine Aa (BK Š Ś ?_);show im _ _ (match items[i]? with | some x=>(do Fk (.ref it) 1 (sn ((i:Int)+1));ret x) | none=>(do rule _;Fk (.ref it) 0 .none;Builtin.SmallTypes.stopIteration)) _ _ s;rw[hx];refine Aa (C7 ?_);refine Aa (Es ho hd (show 0 < 2 by decide) ?_);refine WY (A:=A.in1) hA λh' e k ex=>q h' e (λb o n eb=>k b o ?_) ex;rw[(Cn.update _ _ _).2 b n];exact eb
def Inv.uX{σ:L2.St}{t':Nat}{a:f8}{o:HO}(I:Inv X Z σ H s)(hf:∀b∈ch,yk X Z H b)(k:∀b u,b∉ch->s.heap.get? b=am u->h'.get? b=am u)
  (hp:s.heap.objs.size<=a) (new:bh X.prog X.w (upd H a o) h' a o):Inv X Z σ (upd H a o) {s with heap:=h',toks:=t'}:=by
 have hn:=I.a8.fresh hp;have ZX:∀b u,H b=am u->b∉ch:=λb u e z=>by rw[(hf b z).1]at e;cases e
 have nL:X.env.locals∉ch:=λz=>(hf _ z).2.1 rfl;refine I.step (g':=s.gens) (d':=s.drawn) (ch:=ch) (λb hb=>⟨(hf b hb).2.2.2.1,(hf b hb).2.1,(hf b hb).2.2.2.2.1,(hf b hb).2.2.2.2.2⟩) (λb u _ _ hc e _=>k b u hc e) (λb u _ _ hc e _=>⟨u.slots,k b u hc e⟩)
  (λb u _ e n=>by rw[aq (AA (AE (Aq e) hp))];exact n) (λb u hc e=>⟨u,k b u hc e⟩) (λb xs e=>by rw[aq (bC e hn)];exact e) (λb u xs e=>by rw[aq (bC e hn)];exact e)
  (λb ps e=>⟨#[],by rw[aq (bC e hn),e];simp⟩) (λm hm=>?_) (λb u e=>?_) I.bare
 ·obtain⟨o',es,ep,ho,r⟩:=hm;exact⟨o',es,ep,k _ o' nL ho,r⟩
 ·by_cases hb:b=a
  ·subst hb;rw[aD]at e;cases e;exact new
  ·rw[aq hb]at e;refine(I.a8 b u e).xk (λc v hc q=>k c v ?_ q) (λc q=>by rw[aq (bC q hn)];exact q) λc xs q=>by rw[aq (bC q hn)];exact q
   rcases hc with z | z
   ·rw[z];exact ZX b u e
   ·exact ZX c _ z
def Inv.zE{σ:L2.St}{t':Nat}(I:Inv X Z σ H s)(hf:∀b∈ch,yk X Z H b)(k:∀b u,b∉ch->s.heap.get? b=am u->h'.get? b=am u) :
  Inv X Z σ H {s with heap:=h',toks:=t'}:=by
 have ZX:∀b u,H b=am u->b∉ch:=λb u e z=>by rw[(hf b z).1]at e;cases e
 have nL:X.env.locals∉ch:=λz=>(hf _ z).2.1 rfl;refine I.step (g':=s.gens) (d':=s.drawn) (ch:=ch) (λb hb=>⟨(hf b hb).2.2.2.1,(hf b hb).2.1,(hf b hb).2.2.2.2.1,(hf b hb).2.2.2.2.2⟩) (λb u _ _ hc e _=>k b u hc e) (λb u _ _ hc e _=>⟨u.slots,k b u hc e⟩)
  (λ_ _ _ _ n=>n) (λb u hc e=>⟨u,k b u hc e⟩) (λ_ _ e=>e) (λ_ _ _ e=>e) (λb ps e=>⟨#[],by rw[e];simp⟩) (λm hm=>?_) (λb u e=>?_) I.bare
 ·obtain⟨o',es,ep,ho,r⟩:=hm;exact⟨o',es,ep,k _ o' nL ho,r⟩
 ·refine(I.a8 b u e).xk (λc v hc q=>k c v ?_ q) (λ_ q=>q) λ_ _ q=>q;rcases hc with z | z
  ·rw[z];exact ZX b u e
  ·exact ZX c _ z
def pD(h:Vals xs us):∀{i:Nat}{x:V},xs[i]?=am x->∃u,us[i]?=am u/\RelV x u:=by
 induction h with
 | nil=>intro i x e;simp at e
 | cons r t ih=>
  intro i x e;cases i with
  | zero=>simp at e;subst e;exact⟨_,rfl,r⟩
  | succ i=>exact ih (by simpa using e)
end L2
variable{e:Bm}{Í:Bc}{Ñ:O Cd}
namespace L2
def uw{E:db->ii->Prop}{t:f8}(RZ:e≠it)(Ļ:t≠e)(YI:t≠it)
  (hz:IsEnum s.heap e it i Í) (hi:s.heap.IsTupleIter it t i) (ht:s.heap.IsTuple t items) (hx:items[i]?=am x)
  (q:∀(h':sw) (tk:Nat),IsEnumOut h' e it (i+1:Nat) x s.heap.objs.size->h'.IsTupleIter it t (i+1)->IsPair h' s.heap.objs.size (.int i s.toks) x->(∀c o,c≠e->c≠it->s.heap.get? c=am o->h'.get? c=am o)->Q (.ref s.heap.objs.size) {s with heap:=h',toks:=tk}) :
  im (lc prog w) A (BT.«enumerate.__next__» {pos:=[.ref e]}) (λfin s'=>∃v,fin=FN (Gq v)/\Q v s') E s:=by
 show im _ _ (field (.ref e) 2 >>= λr=>_) _ _ s;refine Aa (A7 hz rfl rfl ?_);refine Aa (jo hi ht hx λh1 j1 b1=>?_);have z1:=(b1.2 _ RZ).trans hz;refine Aa (A7 z1 rfl rfl ?_);refine Aa (A7 z1 rfl rfl ?_);refine Aa (wpAny_mkInt ?_);refine Aa (Br z1 (show 3 < 6 by decide) λh2 z2 b2=>?_);refine Aa (Br z2 (show 4 < 6 by decide) λh3 z3 b3=>?_);have sz3:=b3.1.trans (b2.1.trans b1.1);have Ï:∀b,b≠e->b≠it->h3.get? b=s.heap.get? b:=λb n1 n2=>(b3.2 b n1).trans ((b2.2 b n1).trans (b1.2 b n2));refine Aa (C8 ?_ (by show 2<=sizeLine;decide));have kp:∀b o,h3.get? b=am o->(h3.push {cls:=.type "tuple",data:=.seq [DQ i s.toks,x].toArray}).get? b=am o:=λb o e=>Ag _ e;have ŵ:(h3.push {cls:=.type "tuple",data:=.seq [DQ i s.toks,x].toArray}).get? h3.objs.size=am {cls:=.type "tuple",data:=.seq #[.int i s.toks,x]}:=Ao _ rfl;generalize h3.push {cls:=.type "tuple",data:=.seq [DQ i s.toks,x].toArray}=h4 at kp ŵ ⊢;have z4:h4.get? e=am {cls:=.type "enumerate",data:=.fields #[.none,.bool false,.ref it,sn (i+1),.none,Í]}:=kp _ _ z3;refine Aa ?_;refine Aa (A7 z4 rfl rfl ?_);refine Af ?_;refine Aa (C7 ?_);refine Aa (A7 z4 rfl rfl ?_);refine Aa (Br z4 (show 5 < 6 by decide) λh5 z5 b5=>?_);refine Aa ?_;refine Aa (Br z5 (show 0 < 6 by decide) λh6 z6 b6=>?_);refine Br z6 (show 1 < 6 by decide) λh7 z7 b7=>?_;refine Aa (CT ?_);have Ŵ:∀b,b≠e->h7.get? b=h4.get? b:=λb n=>(b7.2 b n).trans ((b6.2 b n).trans (b5.2 b n));have ne:s.heap.objs.size≠e:=λz=>by have:=Aq hz;rw[<- z]at this;exact A5 _ this
 refine Af ⟨.ref h3.objs.size,rfl,?_⟩;rw[sz3]at z7 ŵ ⊢;refine q h7 _ ?_ ?_ ?_ ?_
 ·exact z7
 ·obtain⟨o,eo,p⟩:=j1;refine⟨o,?_,p⟩;rw[Ŵ _ (BU RZ)];exact kp _ _ ((b3.2 _ (BU RZ)).trans ((b2.2 _ (BU RZ)).trans eo))
 ·rw[IsPair,Ŵ _ ne];exact ŵ
 ·intro c o n1 n2 ec;rw[Ŵ _ n1];exact kp _ _ ((Ï _ n1 n2).trans ec)
def wj{t:f8}{Q:PySem.Fin->ii->Prop}(hA:A.handled=ce)
  (hz:IsEnum s.heap e it i Í) (hi:s.heap.IsTupleIter it t i) (ht:s.heap.IsTuple t items) (hx:items[i]?=ce)
  (q:∀(h':sw) (x:f8),(∀c o,c≠it->s.heap.get? c=am o->h'.get? c=am o)->(∃o,h'.get? x=am o/\o.cls=.type "StopIteration")->E (.ref x) {s with heap:=h'}) :
  im (lc prog w) A (BT.«enumerate.__next__» {pos:=[.ref e]}) Q E s:=by
 show im _ _ (field (.ref e) 2 >>= λr=>_) _ _ s;refine Aa (A7 hz rfl rfl ?_);exact Aa (kq hA hi ht hx λh' x k ex=>q h' x (λc o n e'=>k c o n e') ex)
def pP{t:f8}{Q:Option db->ii->Prop}(RZ:e≠it)(Ļ:t≠e)(YI:t≠it)
  (hz:IsEnum s.heap e it i Í) (hi:s.heap.IsTupleIter it t i) (ht:s.heap.IsTuple t items) (hx:items[i]?=am x)
  (q:∀(h':sw) (tk:Nat),IsEnumOut h' e it (i+1:Nat) x s.heap.objs.size->h'.IsTupleIter it t (i+1)->IsPair h' s.heap.objs.size (.int i s.toks) x->(∀c o,c≠e->c≠it->s.heap.get? c=am o->h'.get? c=am o)->Q (am (.ref s.heap.objs.size)) {s with heap:=h',toks:=tk}) :
  im (lc prog w) A (pyNext (.ref e)) Q E s:=by
 have ty:s.TypeIs (.ref e) "enumerate":=⟨_,hz,rfl⟩;refine Aa (Dl (A4 ty C4 (Bd C4 ty E7 ?_ (EX _))));exact uw RZ Ļ YI hz hi ht hx λh' tk a b c d=>Af (q h' tk a b c d)
def rS{t:f8}{Q:Option db->ii->Prop}(hA:A.handled=ce)
  (hz:IsEnum s.heap e it i Í) (hi:s.heap.IsTupleIter it t i) (ht:s.heap.IsTuple t items) (hx:items[i]?=ce)
  (q:∀h':sw,(∀c o,c≠it->s.heap.get? c=am o->h'.get? c=am o)->Q ce {s with heap:=h'}) :
  im (lc prog w) A (pyNext (.ref e)) Q E s:=by
 have ty:s.TypeIs (.ref e) "enumerate":=⟨_,hz,rfl⟩;refine Aa (Dl (A4 ty C4 (Bd C4 ty E7 ?_ (EX _))));refine wj (A:=A.in1) hA hz hi ht hx λh' x k ex=>?_;obtain⟨o,eo,hc⟩:=ex;refine Aa (DU (T:="StopIteration") ⟨o,eo,hc⟩ isSubtype_stop ?_);exact Af (q h' k)
def uc(t:f8)(items:Array db):Meets (BT.«enumerate.__new__» {pos:=[.type "enumerate",.ref t]}) (λ_ R s=>s.heap.IsTuple t items/\
  ∀h':sw,IsEnum h' (s.heap.objs.size+1) s.heap.objs.size (0:Nat) .none->h'.IsTupleIter s.heap.objs.size t 0->(∀b o,s.heap.get? b=am o->h'.get? b=am o)->R (.ok (.ret (.ref (s.heap.objs.size+1)))) {s with heap:=h'}):=
 .of_wp λprog w A R s h=>by
  obtain⟨h1,q⟩:=h;refine Aa ?_;refine Aa (CS (a:=true) rfl ?_);refine Aa (CS sub_enumerate ?_);refine Af ?_;refine Aa ?_;refine Aa (wpAny_stack_any λst=>Af ?_);have fin:im (lc prog w) A.in1 (pyIter (.ref t) >>= λit=>(Builtin.SmallTypes.newRecord (.type "enumerate") (Builtin.SmallTypes.ownedTupleFields++[it,sn 0,.none,.none]) >>= λr=>ret r)) (λfin s'=>∃v,fin=FN (Gq v)/\R (Except.ok (Gq v)) s') (λe s'=>R (Except.error e) s') s:=by
   refine Aa (Dr h1 ?_);have k1:∀b o,s.heap.get? b=am o->(s.heap.push {cls:=.type "tuple_iterator",data:=.fields #[.ref t,.int 0 0]}).get? b=am o:=λb o e=>Ag _ e;have g1:(s.heap.push {cls:=.type "tuple_iterator",data:=.fields #[.ref t,.int 0 0]}).get? s.heap.objs.size=am {cls:=.type "tuple_iterator",data:=.fields #[.ref t,.int 0 0]}:=Ao _ rfl;have z1:(s.heap.push {cls:=.type "tuple_iterator",data:=.fields #[.ref t,.int 0 0]}).objs.size=s.heap.objs.size+1:=Ce ..;generalize s.heap.push {cls:=.type "tuple_iterator",data:=.fields #[.ref t,.int 0 0]}=Hg at k1 g1 z1 ⊢;show im _ _ (newObj (.type "enumerate") (.fields #[.none,.bool false,.ref s.heap.objs.size,sn 0,.none,.none]) >>= λr=>ret r) _ _ _;refine Aa (AJ ?_ (by simp[sizeOk];decide));have g2:(Hg.push {cls:=.type "enumerate",data:=.fields #[.none,.bool false,.ref s.heap.objs.size,sn 0,.none,.none]}).get? Hg.objs.size=am {cls:=.type "enumerate",data:=.fields #[.none,.bool false,.ref s.heap.objs.size,sn 0,.none,.none]}:=Ao _ rfl;refine Af ⟨.ref Hg.objs.size,rfl,?_⟩;rw[z1]at g2 ⊢;exact q _ g2 ⟨_,Ag _ g1,rfl,rfl⟩ λb o e=>Ag _ (k1 _ _ e)
  refine wpAny_ite_split (λ_=>?_) (λ_=>?_)
  ·exact Aa (CS (a:=(Ay t,ce)) rfl fin)
  ·exact Aa (CS (a:=(Ay t,ce)) rfl fin)
def NC{t:f8}(h1:s.heap.IsTuple t items)
  (q:∀h':sw,IsEnum h' (s.heap.objs.size+1) s.heap.objs.size (0:Nat) .none->h'.IsTupleIter s.heap.objs.size t 0->(∀b o,s.heap.get? b=am o->h'.get? b=am o)->Q (.ref (s.heap.objs.size+1)) {s with heap:=h'}) :
  im (lc prog w) A (call (.type "enumerate") [.ref t]) Q E s:=
 callType_new F.called_enumerate ⋯ (F.typeCall_enumerate_1 _) (F.newCall_enumerate_1 _) (λo=>F.args_object_init_2 o _) F.entry_enumerate_new (uc t items) ⟨h1,λh' z i k=>⟨⟨_,z,rfl⟩,q h' z i k⟩⟩
def Ite(K:Ab)(a:f8):It where
 go:=λi H=>∃xs x,dJ K H a xs/\xs[i]?=am x
 ZF:=λi H v H'=>∃p x,v=.ref p/\H p=ce/\H'=upd H p (.tup [.int i,x])/\∀xs,dJ K H a xs->xs[i]?=am x
 stop:=λi H=>∃xs,dJ K H a xs/\xs.length<=i
theorem P4{K:Ab}{kk:Nat}{t:f8}(RZ:e≠it)(Ļ:t≠e)(YI:t≠it):Turn P w K (.Tuple Ñ kk pos) (Ite K t) [e,it] e (λi h=>(∃Í,IsEnum h e it (i:Nat) Í)/\h.IsTupleIter it t i) where
 mem:=by simp
 obj:=λi h st b hb=>by
  simp only[Aw,BA,or_false]at hb;rcases hb with rfl | rfl
  ·obtain⟨⟨_,e⟩,_⟩:=st;exact⟨_,e,λv z=>by cases z⟩
  ·obtain⟨_,⟨o,e,_,d⟩⟩:=st;exact⟨o,e,λv z=>by rw[d]at z;cases z⟩
 keep:=λi h h' st k=>⟨let ⟨o,e'⟩:=st.1;⟨o,k e (by simp) _ e'⟩,let ⟨o,e',p⟩:=st.2;⟨o,k it (by simp) _ e',p⟩⟩
 item:=by
  intro X hP hw hK hc i Z s σ H E I hf st hg;subst hP hw hK;obtain⟨xs,x,hx,gx⟩:=hg;obtain⟨au,rx,tx,_⟩:=I.tuple hx;obtain⟨u,gu,ru⟩:=pD rx gx;obtain⟨⟨Í,hz⟩,hi⟩:=st;refine pP RZ Ļ YI hz hi tx (by simpa using gu) λh' tk zo j np k=>?_;refine⟨_,rfl,?_⟩;refine Et zo λh2 z2 b2=>?_;have le:=Aq hz;have li:=let ⟨_,e',_⟩:=hi;Aq e';have lt:∀b∈[e,it],b < s.heap.objs.size:=λb hb=>by
   simp only[Aw,BA,or_false]at hb;rcases hb with rfl | rfl
   ·exact le
   ·exact li
  have nz:s.heap.objs.size≠e:=λz=>A5 _ (by have:=le;rw[<- z]at this;exact this);have ğ:∀b o,b∉[e,it]->s.heap.get? b=am o->h2.get? b=am o:=λb o hb e'=>by
   have Lw:b≠e:=λq=>hb (by simp[q]);rw[b2.2 b Lw];exact k b o Lw (λq=>hb (by simp[q])) e'
  have ě:h2.get? s.heap.objs.size=am {cls:=.type "tuple",data:=.seq #[.int i s.toks,u]}:=(b2.2 _ nz).trans np;have Ĩ:=I.a8.fresh (Ak s.heap.objs.size);refine⟨.ref s.heap.objs.size,upd H s.heap.objs.size (.tup [.int i,x]),I.uX (t':=tk) hf ğ (Ak _) ⟨by show 2<=sizeLine;decide,[.int i s.toks,u],.cons ⟨_,rfl⟩ (.cons ru .nil),⟨_,ě,rfl,_,rfl⟩⟩,rfl,⟨_,x,rfl,Ĩ,rfl,λxs' h'=>by rw[I.mY h' hx];exact gx⟩,⟨⟨_,z2⟩,let ⟨o,e',p⟩:=j;⟨o,(b2.2 _ (BU RZ)).trans e',p⟩⟩,λb hb=>?_⟩;rw[aq (AA (lt b hb))];exact(hf b hb).1
 done:=by
  intro X hP hw hK hc i Z s σ H E I hf st hg;subst hP hw hK;obtain⟨xs,hx,hl⟩:=hg;obtain⟨au,rx,tx,_⟩:=I.tuple hx;have el:=rx.length;obtain⟨⟨Í,hz⟩,hi⟩:=st;refine rS (I.ok.hd hc) hz hi tx (by simp;omega) λh' k=>⟨rfl,I.zE (t':=s.toks) hf λb o hb e'=>k b o (λz=>hb (by simp[z])) e'⟩
 self:=λA i s Q E st h=>let ⟨_,e'⟩:=st.1;DA e' h
end L2
namespace My
def Wf(l:O V)(i:Nat):Ent->O V
 | .word _=>l
 | .pair a b=>(l.set a (.int i)).set b (.int i)
def ah:O Ent->Nat->O V->O V
 | [],_,l=>l
 | e::es,i,l=>ah es (i+1) (Wf l i e)
theorem Io:∀(es:O Ent) (e:Ent) (i:Nat) (l:O V),ah (es++[e]) i l=Wf (ah es i l) (i+es.length) e
 | [],e,i,l=>rfl
 | x::es,e,i,l=>by
  show ah (es++[e]) (i+1) (Wf l i x)=Wf (ah es (i+1) (Wf l i x)) (i+(es.length+1)) e;rw[Io es e];congr 1;omega
def Zr(l:O V)(i:Nat)(e:Ent):(Wf l i e).length=l.length:=by cases e with
 | word=>rfl
 | pair=>show((l.set _ _).set _ _).length=_;rw[B9,B9]
theorem NH:∀(es:O Ent) (i:Nat) (l:O V),(ah es i l).length=l.length
 | [],_,_=>rfl
 | e::es,i,l=>by show(ah es (i+1) (Wf l i e)).length=_;rw[NH es,Zr]
end My
namespace L2
def Itd(lo:Int)(n:Nat):It:=⟨λi _=>i < n,λi H x H'=>H'=H/\x=.int (lo-i),λi _=>n<=i⟩
theorem Je{K:Ab}(it:f8)(lo:Int)(n:Nat):Turn P w K tg (Itd lo n) [it] it (λi h=>IsRangeIter h it (lo+(i:Nat)*(-1)) ((n:Int)-(i:Nat)) (-1)) where
 mem:=by simp
 obj:=λi h st b hb=>by
  have e:b=it:=by simpa using hb
  subst e;exact⟨_,st,λv z=>by
   have z':=z;cases z'⟩
 keep:=λi h h' st k=>k it (by simp) _ st
 item:=by
  intro X hP hw hK hc i Z s σ H E I hf st hg;subst hP hw hK;obtain⟨f0,f1,f2,f3,f4,f5⟩:=hf it (by simp);have W:=Walks.range (prog:=X.prog) (w:=X.w) (I.ok.hd hc) it lo (-1) n;refine W.item i s _ _ hg st λv h' tk hv uB kk=>?_;obtain⟨t,rfl⟩:=hv;have I1:Inv X Z σ H {s with heap:=h',toks:=tk}:=I.turned (λb o hb e=>kk b o (by simpa using hb) e) f0 f1 f3 f4 f5;refine⟨_,rfl,Ki (s:={s with heap:=h',toks:=tk}) (n:="range_iterator") uB rfl rfl ⋯ ⟨.int (lo-i),H,I1,⟨t,?_⟩,⟨rfl,rfl⟩,uB,λb hb=>(hf b hb).1⟩⟩;rw[show lo+(i:Int)*(-1)=lo-i by omega]
 done:=by
  intro X hP hw hK hc i Z s σ H E I hf st hg;obtain⟨f0,f1,f2,f3,f4,f5⟩:=hf it (by simp);exact wpAny_pyNext_range_end (I.ok.hd hc) st (by have:n<=i:=hg;omega) λh' eb=>⟨rfl,I.turned (t':=s.toks) (λb o hb e=>eb b o hb e) f0 f1 f3 f4 f5⟩
 self:=λ_ _ _ _ _ st h=>wpAny_pyIter_rangeiter st h
section
theorem Qm{R:It->Hp->Prop}{lo hi:Int}{t u v:Tok}{tk:Nat}(I:Inv X Z σ H s)(h1:-(2 ^ 62)<=lo)(h2:lo < 2 ^ 62)(h3:-(2 ^ 62)<=hi)(h4:hi < 2 ^ 62)
  (q:R (Itd lo (lo-hi).toNat) H):im (lc X.prog X.w) X.A (pyIter (.ref s.heap.objs.size)) (PIE X Z σ tg R) E {s with heap:=s.heap.push {cls:=.type "range",data:=.fields #[.int lo t,.int hi u,.int (-1) v]},toks:=tk}:=by
 refine wpAny_pyIter_range (FJ ..) (PySem.W.small_down h1 h2 h3 h4) ?_;have I1:Inv X Z σ H {s with heap:=s.heap.push {cls:=.type "range",data:=.fields #[.int lo t,.int hi u,.int (-1) v]},toks:=tk}:=I.kept λb o e=>Ag _ e;refine⟨(s.heap.push {cls:=.type "range",data:=.fields #[.int lo t,.int hi u,.int (-1) v]}).objs.size,[(s.heap.push {cls:=.type "range",data:=.fields #[.int lo t,.int hi u,.int (-1) v]}).objs.size],_,_,H,rfl,
  I1.kept (t':=tk) λb o e=>Ag _ e,Je _ lo (lo-hi).toNat,?_,λb hb=>?_,q⟩
 ·have e1:lo+((0:Nat):Int)*(-1)=lo:=by simp
  have e2:(((lo-hi).toNat:Nat):Int)-((0:Nat):Int)=Builtin.Range.rangeSize lo hi (-1):=by rw[PySem.W.rangeSize_down];split <;> omega
  show IsRangeIter _ _ (lo+((0:Nat):Int)*(-1)) ((((lo-hi).toNat:Nat):Int)-((0:Nat):Int)) (-1);rw[e1,e2];exact Ao _ rfl
 ·have e:b=(s.heap.push {cls:=.type "range",data:=.fields #[.int lo t,.int hi u,.int (-1) v]}).objs.size:=by simpa using hb
  subst e;exact I1.xT (Ak _) (I1.a8.fresh (Ak _))
def afP(ta:TA):TI:=λσ H R=>ta σ H λvs H1=>∃i j:Int,vs=[.int i,.int j,.int (-1)]/\(-(2 ^ 62)<=i/\i < 2 ^ 62/\-(2 ^ 62)<=j/\j < 2 ^ 62)/\R (Itd i (i-j).toNat) H1
def Qt{c:r9}{ta:TA}(hg:Gl X "range")(hm:X.mg "range"=ce)(ha:PA X [a,b,c] ta)(hs:‹nn [a,b,c] X.env=[(false,pr a X.env),(false,pr b X.env),(false,pr c X.env)]›)(sE:‹nn [b,c] X.env=[(false,pr b X.env),(false,pr c X.env)]›) :
  PI X tg (.Call (.Name "range" p) [a,b,c] [] pos) (afP ta):=by
 intro Z s σ H R I h;refine Call_ (gB I hg hm boot_range (A6 (bV (ha pos Z s σ H _ I h) λus s1 ⟨vs,H1,I1,r1,q1⟩=>?_) (by show nn _ _=_;rw[hs,sE]) (by rw[sE];rfl)));obtain⟨i,j,e,⟨q1,q2,q3,q4⟩,q⟩:=q1;subst e;cases r1 with
 | cons r rr=>
  cases rr with
  | cons r' rr=>
   cases rr with
   | cons r'' rr=>
    cases rr;obtain⟨t,rfl⟩:=r;obtain⟨t',rfl⟩:=r';obtain⟨t'',rfl⟩:=r'';refine call_range_3 ⋯ (Qm I1 q1 q2 q3 q4 q) (.inl ?_);unfold Builtin.divisionGoesByPylong;have e1:decide ((if ((-1:Int)==0)=true then 0 else (-1:Int).natAbs.log2 / 30+1) > 300)=false:=by decide
    simp only[e1,FU]
end
def ahc(K:Ab)(a:f8):It where
 go:=λi H=>∃xs x,eI K H a xs/\xs[i]?=am x
 ZF:=λi H v H'=>∃p x,v=.ref p/\H p=ce/\H'=upd H p (.tup [.int i,x])/\∀xs,eI K H a xs->xs[i]?=am x
 stop:=λi H=>∃xs,eI K H a xs/\xs.length<=i
theorem LL{K:Ab}{kk:Nat}{t:f8}(RZ:e≠it):Turn P w K (.Tuple Ñ kk pos) (ahc K t) [e,it] e (λi h=>(∃Í,IsEnum h e it (i:Nat) Í)/\h.IsListIter it t i) where
 mem:=by simp
 obj:=λi h st b hb=>by
  simp only[Aw,BA,or_false]at hb;rcases hb with rfl | rfl
  ·obtain⟨⟨_,e⟩,_⟩:=st;exact⟨_,e,λv z=>by cases z⟩
  ·obtain⟨_,⟨o,e,_,d⟩⟩:=st;exact⟨o,e,λv z=>by rw[d]at z;cases z⟩
 keep:=λi h h' st k=>⟨let ⟨o,e'⟩:=st.1;⟨o,k e (by simp) _ e'⟩,let ⟨o,e',p⟩:=st.2;⟨o,k it (by simp) _ e',p⟩⟩
 item:=by
  intro X hP hw hK hc i Z s σ H E I hf st hg;subst hP hw hK;obtain⟨xs,x,hx,gx⟩:=hg;obtain⟨au,rx,tx,_⟩:=I.list hx;obtain⟨u,gu,ru⟩:=pD rx gx;obtain⟨⟨Í,hz⟩,hi⟩:=st;refine wpAny_pyNext_enum_item hz hi tx.isList (by simpa using gu) RZ λh' zo j np _ k=>?_;refine⟨_,rfl,?_⟩;refine Et zo λh2 z2 b2=>?_;have le:=Aq hz;have li:=let ⟨_,e',_⟩:=hi;Aq e';have lt:∀b∈[e,it],b < s.heap.objs.size:=λb hb=>by
   simp only[Aw,BA,or_false]at hb;rcases hb with rfl | rfl
   ·exact le
   ·exact li
  have nz:s.heap.objs.size≠e:=λz=>A5 _ (by have:=le;rw[<- z]at this;exact this);have ğ:∀b o,b∉[e,it]->s.heap.get? b=am o->h2.get? b=am o:=λb o hb e'=>by
   have Lw:b≠e:=λq=>hb (by simp[q]);rw[b2.2 b Lw];exact k b o Lw (λq=>hb (by simp[q])) e'
  have ě:h2.get? s.heap.objs.size=am {cls:=.type "tuple",data:=.seq #[.int i s.toks,u]}:=(b2.2 _ nz).trans np;have Ĩ:=I.a8.fresh (Ak s.heap.objs.size);refine⟨.ref s.heap.objs.size,upd H s.heap.objs.size (.tup [.int i,x]),I.uX (t':=s.toks+1) hf ğ (Ak _) ⟨by show 2<=sizeLine;decide,[.int i s.toks,u],.cons ⟨_,rfl⟩ (.cons ru .nil),⟨_,ě,rfl,_,rfl⟩⟩,rfl,⟨_,x,rfl,Ĩ,rfl,λxs' h'=>by rw[I.JU h' hx];exact gx⟩,⟨⟨_,z2⟩,let ⟨o,e',p⟩:=j;⟨o,(b2.2 _ (BU RZ)).trans e',p⟩⟩,λb hb=>?_⟩;rw[aq (AA (lt b hb))];exact(hf b hb).1
 done:=by
  intro X hP hw hK hc i Z s σ H E I hf st hg;subst hP hw hK;obtain⟨xs,hx,hl⟩:=hg;obtain⟨au,rx,tx,_⟩:=I.list hx;have el:=rx.length;obtain⟨⟨Í,hz⟩,hi⟩:=st;refine wpAny_pyNext_enum_end (I.ok.hd hc) hz hi tx.isList (by simp;omega) λh' k=>⟨rfl,I.zE (t':=s.toks) hf λb o hb e'=>k b o (λz=>hb (by simp[z])) e'⟩
 self:=λA i s Q E st h=>let ⟨_,e'⟩:=st.1;DA e' h
end L2
namespace My
def en:Tr->Nat->Nat->Ent
 | .leaf x,_,_=>.word x
 | .node l r,o,j=>if j < l.size then en l o j else if j < l.size+r.size then en r (o+l.size) (j-l.size) else .pair (o+l.size-1) (o+l.size+r.size-1)
def up:Tr->Nat->Nat->O Nat->O Nat
 | .leaf _,o,_,ab=>o::ab
 | .node l r,o,j,ab=>if j < l.size then up l o j ((o+l.size+r.size)::ab) else if j < l.size+r.size then up r (o+l.size) (j-l.size) ((o+l.size+r.size)::ab) else (o+l.size+r.size)::ab
def kH:Tr->Nat->Nat->V->V
 | .leaf _,_,_,p=>p
 | .node l r,o,j,p=>if j < l.size then kH l o j (.int (o+l.size+r.size:Nat)) else if j < l.size+r.size then kH r (o+l.size) (j-l.size) (.int (o+l.size+r.size:Nat)) else p
def be:Tr->Nat->Nat->O Nat
 | .leaf _,o,_=>[o]
 | .node l r,o,j=>if j < l.size then be l o j else if j < l.size+r.size then be r (o+l.size) (j-l.size) else be l o (l.size-1)++be r (o+l.size) (r.size-1)
theorem gI:∀(t:Tr) (o j:Nat),j < t.size->(t.nd o)[j]?=am (en t o j)
 | .leaf x,o,j,h=>by
  have:j=0:=by have:j < 1:=h;omega
  subst this;rfl
 | .node l r,o,j,h=>by
  have es:(Tr.node l r).size=l.size+r.size+1:=rfl;have hn:(Tr.node l r).nd o=l.nd o++r.nd (o+l.size)++[.pair (o+l.size-1) (o+l.size+r.size-1)]:=rfl;have ln:=l.bp o;have rn:=r.bp (o+l.size);unfold en;by_cases c1:j < l.size
  ·rw[if_pos c1,hn,AZ,Ax ∅];exact gI l o j c1
  ·rw[if_neg c1];by_cases c2:j < l.size+r.size
   ·rw[if_pos c2,hn,AZ,Az ∅,Ax ∅,ln];exact gI r _ _ ∅
   ·rw[if_neg c2,hn,Az (by rw[Al];omega),Al,ln,rn];have:j-(l.size+r.size)=0:=by omega
    rw[this];rfl
theorem V9:∀(t:Tr) (o j:Nat),j < t.size->(∃x,en t o j=.word x/\be t o j=[o+j])\/∃a b,en t o j=.pair (o+a) (o+b)/\a < j/\b < j/\be t o j=be t o a++be t o b
 | .leaf x,o,j,h=>by
  have:j=0:=by have:j < 1:=h;omega
  subst this;exact .inl ⟨x,rfl,rfl⟩
 | .node l r,o,j,h=>by
  have es:(Tr.node l r).size=l.size+r.size+1:=rfl;have lp:=l.size_pos;have rp:=r.size_pos;by_cases c1:j < l.size
  ·have e1:en (.node l r) o j=en l o j:=by rw[en,if_pos c1]
   have e2:∀k,k < l.size->be (.node l r) o k=be l o k:=λk hk=>by rw[be,if_pos hk]
   rw[e1];rcases V9 l o j c1 with⟨x,q1,q2⟩ | ⟨a,b,q1,q2,q3,q4⟩
   ·exact .inl ⟨x,q1,by rw[e2 j c1];exact q2⟩
   ·exact .inr ⟨a,b,q1,q2,q3,by rw[e2 j c1,e2 a ∅,e2 b ∅];exact q4⟩
  ·by_cases c2:j < l.size+r.size
   ·have e1:en (.node l r) o j=en r (o+l.size) (j-l.size):=by rw[en,if_neg c1,if_pos c2]
    have e2:∀k,k < r.size->be (.node l r) o (l.size+k)=be r (o+l.size) k:=λk hk=>by
     rw[be,if_neg ∅,if_pos ∅];congr 1;omega
    have ej:j=l.size+(j-l.size):=by omega
    rw[e1];rcases V9 r (o+l.size) (j-l.size) ∅ with⟨x,q1,q2⟩ | ⟨a,b,q1,q2,q3,q4⟩
    ·refine .inl ⟨x,q1,?_⟩;rw[ej,e2 _ ∅,q2];congr 1;omega
    ·refine .inr ⟨l.size+a,l.size+b,?_,by omega,by omega,?_⟩
     ·rw[q1,Bs,Bs]
     ·rw[e2 a ∅,e2 b ∅,ej,e2 _ ∅,q4]
   ·have ej:j=l.size+r.size:=by omega
    refine .inr ⟨l.size-1,l.size+r.size-1,?_,by omega,by omega,?_⟩
    ·rw[en,if_neg c1,if_neg c2];congr 1 <;> omega
    ·rw[be,if_neg c1,if_neg c2,be,if_pos ∅,be,if_neg ∅,if_pos ∅];congr 2;omega
theorem uV:∀(t:Tr) (o j:Nat) (p:V) (ab:O Nat),j < t.size->(j=t.size-1/\kH t o j p=p/\up t o j ab=(o+j)::ab)\/∃a,j < a/\a < t.size/\kH t o j p=.int (o+a:Nat)/\up t o j ab=(o+j)::up t o a ab
 | .leaf x,o,j,p,ab,h=>by
  have:j=0:=by have:j < 1:=h;omega
  subst this;exact .inl ⟨rfl,rfl,rfl⟩
 | .node l r,o,j,p,ab,h=>by
  have es:(Tr.node l r).size=l.size+r.size+1:=rfl;have lp:=l.size_pos;have rp:=r.size_pos;have er:up (.node l r) o (l.size+r.size) ab=(o+l.size+r.size)::ab:=by rw[up,if_neg ∅,if_neg ∅]
  by_cases c1:j < l.size
  ·have e1:kH (.node l r) o j p=kH l o j (.int (o+l.size+r.size:Nat)):=by rw[kH,if_pos c1]
   have e2:∀k,k < l.size->up (.node l r) o k ab=up l o k ((o+l.size+r.size)::ab):=λk hk=>by rw[up,if_pos hk]
   rw[e1,e2 j c1];rcases uV l o j (.int (o+l.size+r.size:Nat)) ((o+l.size+r.size)::ab) c1 with⟨q1,q2,q3⟩ | ⟨a,q1,q2,q3,q4⟩
   ·refine .inr ⟨l.size+r.size,by omega,by omega,by rw[q2,Bs],by rw[q3,er]⟩
   ·exact .inr ⟨a,q1,by omega,q3,by rw[q4,e2 a q2]⟩
  ·by_cases c2:j < l.size+r.size
   ·have e1:kH (.node l r) o j p=kH r (o+l.size) (j-l.size) (.int (o+l.size+r.size:Nat)):=by rw[kH,if_neg c1,if_pos c2]
    have e2:∀k,k < r.size->up (.node l r) o (l.size+k) ab=up r (o+l.size) k ((o+l.size+r.size)::ab):=λk hk=>by
     rw[up,if_neg ∅,if_pos ∅];congr 1;omega
    obtain⟨i,rfl⟩:∃i,j=l.size+i:=⟨j-l.size,by omega⟩;have ei:l.size+i-l.size=i:=by omega
    rw[e1,e2 i ∅,ei];rcases uV r (o+l.size) i (.int (o+l.size+r.size:Nat)) ((o+l.size+r.size)::ab) ∅ with⟨q1,q2,q3⟩ | ⟨a,q1,q2,q3,q4⟩
    ·refine .inr ⟨l.size+r.size,by omega,by omega,by rw[q2,Bs],by rw[q3,er,Bs]⟩
    ·exact .inr ⟨l.size+a,by omega,by omega,by rw[q3,Bs],by rw[q4,e2 a q2,Bs]⟩
   ·have ej:j=l.size+r.size:=by omega
    refine .inl ⟨by omega,by rw[kH,if_neg c1,if_neg c2],?_⟩;rw[ej,er,Bs]
def oy:Tr->Nat->V->O V
 | .leaf _,_,p=>[p]
 | .node l r,o,p=>oy l o (.int (o+l.size+r.size:Nat))++oy r (o+l.size) (.int (o+l.size+r.size:Nat))++[p]
theorem lL:∀(t:Tr) (o:Nat) (p:V),(oy t o p).length=t.size
 | .leaf _,_,_=>rfl
 | .node l r,o,p=>by
  unfold oy;rw[Al,Al,lL l,lL r];rfl
theorem PB(t:Tr)(o:Nat)(p q:V)(A B:O V):(A++oy t o p++B).set (A.length+t.size-1) q=A++oy t o q++B:=by
 have key:∃I,oy t o p=I++[p]/\oy t o q=I++[q]:=by
  cases t with
  | leaf _=>exact⟨[],rfl,rfl⟩
  | node l r=>exact⟨_,rfl,rfl⟩
 obtain⟨I,e1,e2⟩:=key;have h1:=lL t o p;rw[e1,Al]at h1;have hE:I.length+1=t.size:=h1;rw[e1,e2];have ei:A.length+t.size-1=(A++I).length:=by rw[Al];omega
 rw[ei,show A++(I++[p])++B=(A++I)++p::B by simp,List.set_append_right _ _ (Ak _),Cy];simp
theorem We:∀(es fs:O Ent) (i:Nat) (l:O V),ah (es++fs) i l=ah fs (i+es.length) (ah es i l)
 | [],fs,i,l=>rfl
 | e::es,fs,i,l=>by
  show ah (es++fs) (i+1) (Wf l i e)=ah fs (i+(es.length+1)) (ah es (i+1) (Wf l i e));rw[We es fs];congr 1;omega
theorem NI:∀(t:Tr) (A B:O V),ah (t.nd A.length) A.length (A++An t.size .aJ++B)=A++oy t A.length .aJ++B
 | .leaf x,A,B=>rfl
 | .node l r,A,B=>by
  have es:(Tr.node l r).size=l.size+r.size+1:=rfl;have hn:(Tr.node l r).nd A.length=l.nd A.length++r.nd (A.length+l.size)++[.pair (A.length+l.size-1) (A.length+l.size+r.size-1)]:=rfl;have ln:=l.bp A.length;have rn:=r.bp (A.length+l.size);have h1:=NI l A (An r.size .aJ++([V.aJ]++B));have e0:A++An (Tr.node l r).size V.aJ++B=A++An l.size .aJ++(An r.size .aJ++([V.aJ]++B)):=by
   rw[es,<- DJ,<- DJ];simp only[AZ];rfl
  rw[hn,Io,We,e0,h1,ln];have la:(A++oy l A.length V.aJ).length=A.length+l.size:=by rw[Al,lL]
  have h2:=NI r (A++oy l A.length V.aJ) ([V.aJ]++B);rw[la]at h2;have e1:A++oy l A.length V.aJ++(An r.size V.aJ++([V.aJ]++B))=A++oy l A.length V.aJ++An r.size V.aJ++([V.aJ]++B):=by simp[AZ]
  rw[e1,h2,Al,ln,rn];show((_:O V).set (A.length+l.size-1) _).set (A.length+l.size+r.size-1) _=_;have s1:=PB l A.length .aJ (.int (A.length+(l.size+r.size):Nat)) A (oy r (A.length+l.size) V.aJ++([V.aJ]++B));have e2:A++oy l A.length V.aJ++oy r (A.length+l.size) V.aJ++([V.aJ]++B)=A++oy l A.length V.aJ++(oy r (A.length+l.size) V.aJ++([V.aJ]++B)):=by simp[AZ]
  rw[e2,s1];have lb:(A++oy l A.length (V.int (A.length+(l.size+r.size):Nat))).length=A.length+l.size:=by rw[Al,lL]
  have s2:=PB r (A.length+l.size) .aJ (.int (A.length+(l.size+r.size):Nat)) (A++oy l A.length (V.int (A.length+(l.size+r.size):Nat))) ([V.aJ]++B);rw[lb]at s2;have e3:A++oy l A.length (V.int (A.length+(l.size+r.size):Nat))++(oy r (A.length+l.size) V.aJ++([V.aJ]++B))=A++oy l A.length (V.int (A.length+(l.size+r.size):Nat))++oy r (A.length+l.size) V.aJ++([V.aJ]++B):=by simp[AZ]
  rw[e3,s2];have e4:oy (.node l r) A.length .aJ=oy l A.length (.int (A.length+l.size+r.size:Nat))++oy r (A.length+l.size) (.int (A.length+l.size+r.size:Nat))++[.aJ]:=rfl;rw[e4,Bs A.length l.size r.size];simp[AZ]
theorem Il:∀(t:Tr) (o j:Nat) (p:V),j < t.size->(oy t o p)[j]?=am (kH t o j p)
 | .leaf x,o,j,p,h=>by
  have:j=0:=by have:j < 1:=h;omega
  subst this;rfl
 | .node l r,o,j,p,h=>by
  have es:(Tr.node l r).size=l.size+r.size+1:=rfl;have ln:=lL l o (.int (o+l.size+r.size:Nat));have rn:=lL r (o+l.size) (.int (o+l.size+r.size:Nat));unfold oy kH;by_cases c1:j < l.size
  ·rw[if_pos c1,AZ,Ax ∅];exact Il l _ _ _ c1
  ·rw[if_neg c1];by_cases c2:j < l.size+r.size
   ·rw[if_pos c2,AZ,Az ∅,Ax ∅,ln];exact Il r _ _ _ ∅
   ·rw[if_neg c2,Az (by rw[Al];omega),Al,ln,rn];have:j-(l.size+r.size)=0:=by omega
    rw[this];rfl
def adk(t:Tr){j:Nat}(h:j < t.size):(ah (t.nd 0) 0 (An t.size .aJ))[j]?=am (kH t 0 j .aJ):=by
 have q:=NI t [] [];have e:([]:O V)++An t.size .aJ++[]=An t.size .aJ:=by simp
 have e2:([]:O V)++oy t ([]:O V).length .aJ++[]=oy t 0 .aJ:=by simp
 rw[e,e2]at q;have q':ah (t.nd 0) 0 (An t.size .aJ)=oy t 0 .aJ:=q;rw[q'];exact Il t 0 j .aJ h
end My
variable{H1:L2.Hp}{ι:O Bm}
namespace PL
section
variable{K:Ab}
def WC(K:Ab)(H:Hp)(a:f8)(xs:O V):Prop:=(∃o,H a=am (.bN o (.lst xs)))\/
  ∃(o:Obj) (au:Array db) (n:Nat),K.lookup a=am o/\o.cls=.type "list"/\o.dict=ce/\o.data=.seq au n/\au.size<=sizeLine/\Vals xs au.toList
def WC.sq{a:f8}(h:WC K H a xs):eI K H a xs:=h.elim (λh=>.inl (.inr h)) .inr
structure a9(K:Ab)(H H':Hp):Prop where
 t:∀p vs,H p=am (.tup vs)->H' p=am (.tup vs)
 z:∀p o u,H p=am (.bN o u)->H' p=am (.bN o u)
def a9.f{H H':Hp}(t:a9 K H H')(p:f8)(vs:O V)(h:WC K H p vs):WC K H' p vs:=h.elim (λ⟨o,h⟩=>.inl ⟨o,t.z _ _ _ h⟩) .inr
def a9.refl(H:Hp):a9 K H H:=⟨λ_ _ h=>h,λ_ _ _ h=>h⟩
def a9.trans(a:a9 K H H1)(b:a9 K H1 H2):a9 K H H2:=⟨λp vs h=>b.t p vs (a.t p vs h),λp o w h=>b.z p o w (a.z p o w h)⟩
def _root_.L2.i5.eJ(s:i5 H H'):a9 K H H':=⟨λp vs h=>s _ _ h,λp o u h=>s _ _ h⟩
inductive PV where
 | aJ | bl (b:Bool) | int (i:Int) | str (x:Str) | tup (l:List PV) | ref (n:Nat) | ty (n:String) | cl (l:List PV) | dv (ks vs:List PV) | ob (ns:List Str) (l:List PV)
def kP:Key->PV
 | .inl i=>.int i
 | .inr x=>.str x
inductive PO where
 | lst (xs:List PV) | dk (kvs:List (Key×PV)) | dt (kvs:List (List Key×PV)) | opq (φ:List V->Prop)
abbrev PH:=O PO
abbrev IT:=O (Option PV)
mutual
inductive VR(K:Ab)(ι:List f8)(H:Hp):V->PV->Prop
 | aJ:VR K ι H .aJ .aJ
 | bl (b:Bool):VR K ι H (.bl b) (.bl b)
 | int (i:Int):VR K ι H (.int i) (.int i)
 | str (x:Str):VR K ι H (.str x) (.str x)
 | ty (n:String):VR K ι H (.ty n) (.ty n)
 | tup {p:f8}{vs:List V}{l:List PV} (h:H p=am (.tup vs)) (r:aG K ι H vs l):VR K ι H (.ref p) (.tup l)
 | ref {n:Nat}{a:f8} (h:ι[n]?=am a):VR K ι H (.ref a) (.ref n)
 | cl {a:f8}{vs:List V}{l:List PV} (h:WC K H a vs) (r:aG K ι H vs l):VR K ι H (.ref a) (.cl l)
 | dk {a:f8}{o:Obj}{kvs:List (Key×V)}{ks l:List PV} (h:H a=am (.bN o (.dK kvs))) (e:ks=kvs.map λkv=>kP kv.1) (r:aG K ι H (kvs.map (·.2)) l):VR K ι H (.ref a) (.dv ks l)
 | dt {a:f8}{o:Obj}{kvs:List (List Key×V)}{ks l:List PV} (h:H a=am (.bN o (.dT kvs))) (e:ks=kvs.map λkv=>.tup (kv.1.map kP)) (r:aG K ι H (kvs.map (·.2)) l):VR K ι H (.ref a) (.dv ks l)
 | ob {a C dx:f8}{o:Obj}{fs:List (Str×V)}{ns:List Str}{l:List PV} (h:H a=am (.bN o (.ins C dx fs))) (c:RQ K C) (na:∀f∈ns,fC K C f) (e:ns=fs.map (·.1)) (r:aG K ι H (fs.map (·.2)) l):VR K ι H (.ref a) (.ob ns l)
inductive aG(K:Ab)(ι:List f8)(H:Hp):List V->List PV->Prop
 | nil:aG K ι H [] []
 | cons {v:V}{p:PV}{vs:List V}{ps:List PV} (r:VR K ι H v p) (t:aG K ι H vs ps):aG K ι H (v::vs) (p::ps)
end
section
variable{ι':O f8}
mutual
theorem VR.mono(ht:a9 K H H')(hi:∀(n:Nat) (a:f8),ι[n]?=am a->ι'[n]?=am a):∀{v:V}{p:PV},VR K ι H v p->VR K ι' H' v p
 | _,_,.aJ=>.aJ
 | _,_,.bl b=>.bl b
 | _,_,.int i=>.int i
 | _,_,.str x=>.str x
 | _,_,.ty n=>.ty n
 | _,_,.tup h r=>.tup (ht.t _ _ h) (aG.mono ht hi r)
 | _,_,.cl h r=>.cl (ht.f _ _ h) (aG.mono ht hi r)
 | _,_,.dk h e r=>.dk (ht.z _ _ _ h) e (aG.mono ht hi r)
 | _,_,.dt h e r=>.dt (ht.z _ _ _ h) e (aG.mono ht hi r)
 | _,_,.ob h c na e r=>.ob (ht.z _ _ _ h) c na e (aG.mono ht hi r)
 | _,_,.ref h=>.ref (hi _ _ h)
theorem aG.mono(ht:a9 K H H')(hi:∀(n:Nat) (a:f8),ι[n]?=am a->ι'[n]?=am a):∀{vs:O V}{ps:O PV},aG K ι H vs ps->aG K ι' H' vs ps
 | _,_,.nil=>.nil
 | _,_,.cons r t=>.cons (VR.mono ht hi r) (aG.mono ht hi t)
end
theorem aG.length:∀{vs:O V}{ps:O PV},aG K ι H vs ps->vs.length=ps.length
 | _,_,.nil=>rfl
 | _,_,.cons _ t=>by rw[Ap,Ap,aG.length t]
theorem aG.get:∀{vs:O V}{ps:O PV}{i:Nat}{p:PV},aG K ι H vs ps->ps[i]?=am p->∃v,vs[i]?=am v/\VR K ι H v p
 | _,_,_,_,.nil,e=>by simp at e
 | _,_,0,_,.cons r _,e=>by simp at e;subst e;exact⟨_,rfl,r⟩
 | _,_,i+1,p,.cons _ t,e=>by
  obtain⟨v,h1,h2⟩:=aG.get (i:=i) (p:=p) t (by simpa using e);exact⟨v,by simpa using h1,h2⟩
theorem aG.agm:∀{vs:O V}{ps:O PV}{i:Nat}{v:V},aG K ι H vs ps->vs[i]?=am v->∃p,ps[i]?=am p/\VR K ι H v p
 | _,_,_,_,.nil,e=>by simp at e
 | _,_,0,_,.cons r _,e=>by simp at e;subst e;exact⟨_,rfl,r⟩
 | _,_,i+1,p,.cons _ t,e=>by
  obtain⟨v,h1,h2⟩:=aG.agm (i:=i) (v:=p) t (by simpa using e);exact⟨v,by simpa using h1,h2⟩
theorem aG.set{p:PV}(r:VR K ι H v p):∀{vs:O V}{ps:O PV} (i:Nat),aG K ι H vs ps->aG K ι H (vs.set i v) (ps.set i p)
 | _,_,_,.nil=>.nil
 | _,_,0,.cons _ t=>.cons r t
 | _,_,i+1,.cons q t=>.cons q (aG.set r i t)
theorem aG.append:∀{xs ys:O V}{us ws:O PV},aG K ι H xs us->aG K ι H ys ws->aG K ι H (xs++ys) (us++ws)
 | _,_,_,_,.nil,s=>s
 | _,_,_,_,.cons r t,s=>.cons r (aG.append t s)
theorem aG.take:∀{xs:O V}{us:O PV} (n:Nat),aG K ι H xs us->aG K ι H (xs.take n) (us.take n)
 | _,_,0,_=>.nil
 | _,_,_+1,.nil=>.nil
 | _,_,n+1,.cons r t=>.cons r (aG.take n t)
theorem aG.drop:∀{xs:O V}{us:O PV} (n:Nat),aG K ι H xs us->aG K ι H (xs.drop n) (us.drop n)
 | _,_,0,r=>r
 | _,_,_+1,.nil=>.nil
 | _,_,n+1,.cons _ t=>aG.drop n t
theorem aG.reverse:∀{xs:O V}{us:O PV},aG K ι H xs us->aG K ι H xs.reverse us.reverse
 | _,_,.nil=>.nil
 | _,_,.cons r t=>by rw[C5,C5];exact(aG.reverse t).append (.cons r .nil)
def aG.one{p:PV}(r:VR K ι H v p):aG K ι H [v] [p]:=.cons r .nil
end
structure Go(ι ι':List f8)(H H':Hp):Prop where
 ext:∃m,ι'=ι++m
 new:∀a,a∈ι'->a∉ι->H a=ce
 keep:∀a o,a∉ι->H a=am o->H' a=am o
def Go.refl(ι:O f8)(H:Hp):Go ι ι H H:=⟨⟨[],by simp⟩,λa h n=>absurd h n,λ_ _ _ h=>h⟩
def OR(K:Ab)(ι:O f8)(H:Hp)(a:f8):PO->Prop
 | .lst xs=>∃vs,H a=am (.lst vs)/\aG K ι H vs xs
 | .dk kvs=>∃vs:O (Key×V),H a=am (.dK vs)/\vs.map (·.1)=kvs.map (·.1)/\aG K ι H (vs.map (·.2)) (kvs.map (·.2))
 | .dt kvs=>∃vs:O (O Key×V),H a=am (.dT vs)/\vs.map (·.1)=kvs.map (·.1)/\aG K ι H (vs.map (·.2)) (kvs.map (·.2))
 | .opq φ=>∃vs,H a=am (.lst vs)/\φ vs
structure HR(K:Ab)(ι:List f8)(H:Hp)(h:PH):Prop where
 nd:ι.Nodup
 len:ι.length=h.length
 obj:∀(n:Nat) (a:f8) (o:PO),ι[n]?=am a->h[n]?=am o->OR K ι H a o
end
end PL
variable{e:Cd}
namespace PL
section
variable{K:Ab}
abbrev QV:=PV->PH->Prop
structure ME where
 run:IT->PH->QV->Prop
 mono:∀{ps h}{Q Q':QV},(∀v h',Q v h'->Q' v h')->run ps h Q->run ps h Q'
structure MT where
 run:IT->PH->(Bool->PH->Prop)->Prop
 mono:∀{ps h}{Q Q':Bool->PH->Prop},(∀v h',Q v h'->Q' v h')->run ps h Q->run ps h Q'
structure MA where
 run:IT->PH->(List PV->PH->Prop)->Prop
 mono:∀{ps h}{Q Q':List PV->PH->Prop},(∀v h',Q v h'->Q' v h')->run ps h Q->run ps h Q'
structure ML where
 run:IT->PH->(List PV->PH->Prop)->Prop
 mono:∀{ps h}{Q Q':List PV->PH->Prop},(∀v h',Q v h'->Q' v h')->run ps h Q->run ps h Q'
structure Src where
 items:List PV
 ok:PH->Prop
 fz:Bool
structure MI where
 run:IT->PH->(Src->PH->Prop)->Prop
 mono:∀{ps h}{Q Q':Src->PH->Prop},(∀v h',Q v h'->Q' v h')->run ps h Q->run ps h Q'
structure PD where
 nx:IT->PH->Prop
 rt:QV
 bk:IT->PH->Prop
 ct:IT->PH->Prop
structure PD.Le(D D':PD):Prop where
 nx:∀ps h,D.nx ps h->D'.nx ps h
 rt:∀v h,D.rt v h->D'.rt v h
 bk:∀ps h,D.bk ps h->D'.bk ps h
 ct:∀ps h,D.ct ps h->D'.ct ps h
structure MS where
 run:PD->IT->PH->Prop
 mono:∀{D D' ps h},PD.Le D D'->run D ps h->run D' ps h
structure MG where
 run:PV->IT->PH->(IT->PH->Prop)->Prop
 mono:∀{v ps h}{Q Q':IT->PH->Prop},(∀ps h,Q ps h->Q' ps h)->run v ps h Q->run v ps h Q'
def pQ(K:Ab)(ι:O f8)(H:Hp)(Q:VK):QV:=λp h'=>∀ι' v H',Go ι ι' H H'->HR K ι' H' h'->VR K ι' H' v p->Q v H'
def PE.imp{t t':TE}(h:PE X e t)(f:∀σ H Q,t' σ H Q->t σ H Q):PE X e t':=λZ s σ H Q I q=>h Z s σ H Q I (f _ _ _ q)
def PT.imp{t t':TT}(h:PT X e t)(f:∀σ H Q,t' σ H Q->t σ H Q):PT X e t':=λZ s σ H Q I q=>h Z s σ H Q I (f _ _ _ q)
def PW.imp{t t':TT}(h:PW X e t)(f:∀σ H Q,t' σ H Q->t σ H Q):PW X e t':=λw Z s σ H Q I q=>h w Z s σ H Q I (f _ _ _ q)
def PA.imp{e:O r9}{t t':TA}(h:PA X e t)(f:∀σ H Q,t' σ H Q->t σ H Q):PA X e t':=λpos Z s σ H Q I q=>h pos Z s σ H Q I (f _ _ _ q)
def q9.imp{e:O ut}{t t':TS}(h:q9 X e t)(f:∀D σ H,t' D σ H->t D σ H):q9 X e t':=λZ s σ H D I q=>h Z s σ H D I (f _ _ _ q)
def PG.imp{t t':TG}(h:PG X e t)(f:∀v σ H Q,t' v σ H Q->t v σ H Q):PG X e t':=λZ s σ H v u Q I r q=>h Z s σ H v u Q I r (f _ _ _ _ q)
def PI.imp{t t':TI}(h:PI X tg e t)(f:∀σ H Q,t' σ H Q->t σ H Q):PI X tg e t':=λZ s σ H R I q=>h Z s σ H R I (f _ _ _ q)
section
abbrev P2:=PV->PV->PH->QV->Prop
structure M2 where
 f:P2
 mono:∀{x y h}{Q Q':QV},(∀v h',Q v h'->Q' v h')->f x y h Q->f x y h Q'
def M2.Ok(K:Ab)(r:R2)(m:M2):Prop:=∀{ι H h u v x y Q},HR K ι H h->VR K ι H u x->VR K ι H v y->m.f x y h (pQ K ι H Q)->r u v H Q
end
end
section
variable{K:Ab}
section
def mF:∀{vs:O V}{l:O PV},aG K ι H vs l->(!l.isEmpty)=!vs.isEmpty
 | _,_,.nil=>rfl
 | _,_,.cons _ _=>rfl
structure MQ where
 run:IT->PH->(Src->PH->Prop)->Prop
 mono:∀{ps h}{Q Q':Src->PH->Prop},(∀v h',Q v h'->Q' v h')->run ps h Q->run ps h Q'
end
end
section
structure MGs where
 run:List PV->IT->PH->(IT->PH->Prop)->Prop
 mono:∀{v ps h}{Q Q':IT->PH->Prop},(∀ps h,Q ps h->Q' ps h)->run v ps h Q->run v ps h Q'
end
section
variable{K:Ab}
section
structure zl where
 f:List PV->PH->QV->Prop
 mono:∀{l h}{Q Q':QV},(∀v h',Q v h'->Q' v h')->f l h Q->f l h Q'
def zl.Ok(K:Ab)(r:O V->Hp->VK->Prop)(m:zl):Prop:=∀{ι H h vs l Q},HR K ι H h->aG K ι H vs l->m.f l h (pQ K ι H Q)->r vs H Q
end
end
end PL
variable{g':Int->Int->L2.V}{g:Int->Int->PL.PV}
namespace PL
section
variable{K:Ab}
def aI(g:Int->Int->PV):M2:=⟨λx y h Q=>match x,y with | .int i,.int j=>Q (g i j) h | _,_=>False,λf q=>by
 revert q
 split
 ·exact f _ _
 ·exact λz=>z⟩
def aIc(C:Int->Int->Prop)(g:Int->Int->PV):M2:=⟨λx y h Q=>match x,y with | .int i,.int j=>C i j/\Q (g i j) h | _,_=>False,λf q=>by
 revert q
 split
 ·exact λq=>⟨q.1,f _ _ q.2⟩
 ·exact λz=>z⟩
def K8(hg:∀ι H i j,VR K ι H (g' i j) (g i j)):M2.Ok K (Xo g') (aI g):=by
 intro ι H h u v x y Q hr hu hv q;unfold aI at q;dsimp only at q;revert q
 split
 ·intro q;cases hu;cases hv;exact⟨_,_,rfl,rfl,q ι _ H (Go.refl _ _) hr (hg _ _ _ _)⟩
 ·exact Bb
def Ip{C:Int->Int->Prop}(hg:∀ι H i j,VR K ι H (g' i j) (g i j)):M2.Ok K (rI C g') (aIc C g):=by
 intro ι H h u v x y Q hr hu hv q;unfold aIc at q;dsimp only at q;revert q
 split
 ·intro q;cases hu;cases hv;exact⟨_,_,rfl,rfl,q.1,q.2 ι _ H (Go.refl _ _) hr (hg _ _ _ _)⟩
 ·exact Bb
def Gy:=aI λi j=>.int (i-j)
def iO:=aIc wP λi j=>.int (i*j)
def oDiv:=aIc RS λi j=>.int (i / j)
def oMod:=aIc (λ_ j=>0 < j) λi j=>.int (i % j)
def T5:=aIc Wq λi j=>.int (i ^ j.toNat)
def oLt:=aI λi j=>.bl (decide (i < j))
def oLe:=aI λi j=>.bl (decide (i<=j))
def oGt:=aI λi j=>.bl (decide (j < i))
def oGe:=aI λi j=>.bl (decide (j<=i))
section
def aG.kX:∀{vs:O V}{l:O PV},aG K ι H vs l->(vs=[]↔l=[])
 | _,_,.nil=>by simp
 | _,_,.cons _ _=>by simp
end
mutual
def PV.dat:PV->Bool
 | .tup l=>ya l
 | .ref _=>false
 | .ty _=>false
 | .cl _=>false
 | .dv _ _=>false
 | .ob _ _=>false
 | _=>true
def ya:O PV->Bool
 | []=>true
 | x::l=>x.dat&&ya l
end
end
section
variable{K:Ab}
section
def PV.d4:PV->Bool
 | .aJ=>true
 | _=>false
def pV:M2:=⟨λx y h Q=>match y with | .aJ=>Q (.bl x.d4) h | _=>False,λf q=>by
 revert q
 split
 ·exact f _ _
 ·exact λz=>z⟩
def yz:M2:=⟨λx y h Q=>match y with | .aJ=>Q (.bl (!x.d4)) h | _=>False,λf q=>by
 revert q
 split
 ·exact f _ _
 ·exact λz=>z⟩
def yM{x:PV}(h:VR K ι H v x):decide (v=.aJ)=x.d4:=by cases h <;> simp[PV.d4]
def X6:M2.Ok K (λx y H Q=>y=.aJ/\Q (.bl (decide (x=.aJ))) H) pV:=by
 intro ι H h u v x y Q hr hu hv q;cases hv with
 | aJ=>exact⟨rfl,q ι _ H (Go.refl _ _) hr (by rw[yM hu];exact .bl _)⟩
 | _=>exact q.elim
def T6:M2.Ok K (λx y H Q=>y=.aJ/\Q (.bl (!decide (x=.aJ))) H) yz:=by
 intro ι H h u v x y Q hr hu hv q;cases hv with
 | aJ=>exact⟨rfl,q ι _ H (Go.refl _ _) hr (by rw[yM hu];exact .bl _)⟩
 | _=>exact q.elim
end
end
end PL
variable{l:O PL.PV}
namespace PL
section
variable{K:Ab}
section
def S4{v':V}{w:db}(h:RelV v w)(h':RelV v' w):v=v':=Option.some.inj (h.abs.symm.trans h'.abs)
end
section
variable{c:r9}
def mIx(a:MQ)(b:ME):ME:=⟨λps h Q=>a.run ps h λS h1=>b.run ps h1 λy h2=>match y with
 | .int k=>S.ok h2/\match dC S.items k with | some v=>Q v h2 | none=>False
 | _=>False,λf q=>a.mono (λ_ _ q=>b.mono (λ_ _ q=>by
  revert q
  split
  ·rintro⟨q0,q⟩;refine⟨q0,?_⟩;revert q
   split
   ·exact f _ _
   ·exact λz=>z
  ·exact λz=>z) q) q⟩
def aG.dC(r:aG K ι H vs l){k:Int}{p:PV}(e:L2.dC l k=am p):∃v,L2.dC vs k=am v/\VR K ι H v p:=by
 unfold L2.dC at e ⊢;rw[r.length];cases z:tB l.length k with
 | none=>rw[z]at e;cases e
 | some j=>
  rw[z]at e;exact r.get e
def T7:M2:=⟨λx y h Q=>match x,y with
 | .str z,.int k=>z.length<=sizeLine/\match L2.dC z.cps.toList k with | some c=>Q (.str ⟨#[c]⟩) h | none=>False
 | _,_=>False,λf q=>by
  revert q
  split
  ·rintro⟨q0,q⟩;refine⟨q0,?_⟩;revert q
   split
   ·exact f _ _
   ·exact λz=>z
  ·exact λz=>z⟩
def X5:M2.Ok K abm T7:=by
 intro ι H h u v x y Q hr hu hv q;unfold T7 at q;dsimp only at q;revert q
 split
 ·rename_i z k;rintro⟨q0,q⟩;cases hu;cases hv;cases e:L2.dC z.cps.toList k with
  | none=>rw[e]at q;exact q.elim
  | some c=>rw[e]at q;exact⟨z,k,c,rfl,rfl,q0,e,q ι _ H (Go.refl _ _) hr (.str _)⟩
 ·exact Bb
def fx:zl:=⟨λl h Q=>match l with
 | [.str y]=>y.length<=sizeLine/\Q (.int y.length) h
 | [.tup l]=>Q (.int l.length) h
 | [.cl l]=>Q (.int l.length) h
 | [.ref n]=>match h[n]? with
  | some (.lst xs)=>Q (.int xs.length) h
  | _=>False
 | _=>False,λf q=>by
  revert q
  split
  ·exact λq=>⟨q.1,f _ _ q.2⟩
  ·exact f _ _
  ·exact f _ _
  ·split
   ·exact f _ _
   ·exact λz=>z
  ·exact λz=>z⟩
def Zm(K:Ab):zl.Ok K (abl K) fx:=by
 intro ι H h vs l Q hr hv q;unfold fx at q;dsimp only at q;revert q
 split
 ·intro q;cases hv with
  | cons x t=>cases t;cases x;exact⟨_,_,rfl,⟨q.1,rfl⟩,q.2 ι _ H (Go.refl _ _) hr (.int _)⟩
 ·intro q;cases hv with
  | cons x t=>
   cases t;cases x with
   | tup e r=>exact⟨_,_,rfl,.inr ⟨_,dJ.of e,r.length.symm⟩,q ι _ H (Go.refl _ _) hr (.int _)⟩
 ·intro q;cases hv with
  | cons x t=>
   cases t;cases x with
   | cl e r=>exact⟨_,_,rfl,.inl ⟨_,e.sq,r.length.symm⟩,q ι _ H (Go.refl _ _) hr (.int _)⟩
 ·rename_i n;cases hv with
  | cons x t=>
   cases t;cases x with
   | @ref _ a e=>
   split
   ·rename_i xs hn;intro q;obtain⟨ws,e1,e2⟩:=hr.obj n a _ e hn;exact⟨_,_,rfl,.inl ⟨ws,eI.of e1,e2.length.symm⟩,q ι _ H (Go.refl _ _) hr (.int _)⟩
   ·exact Bb
 ·exact Bb
inductive Kd where
 | str | tup | int | bool
def Kd.name:Kd->String
 | .str=>"str" | .tup=>"tuple" | .int=>"int" | .bool=>"bool"
def Kd.is:Kd->PV->Bool
 | .str,.str _=>true
 | .tup,.tup _=>true
 | .int,.int _=>true
 | .int,.bl _=>true
 | .bool,.bl _=>true
 | _,_=>false
def ae0(K:Ab):O V->Hp->VK->Prop:=λxs H Q=>∃x c t b,xs=[x,.ty c]/\(n6 K H x t\/(t=.type "tuple"/\∃a vs,x=.ref a/\dJ K H a vs))/\BJ K t (.type c)=am b/\Q (.bl b) H
def RC(K:Ab)(hK:X.K=K):cm X (.builtin "isinstance") (ae0 K):=by
 subst hK;intro Z s σ H xs us Q I r h;obtain⟨x,c,t,b,rfl,ty | ⟨rfl,a,vs,rfl,hT⟩,e,q⟩:=h
 ·exact tK Z s σ H _ us Q I r ⟨x,c,t,b,rfl,ty,e,q⟩
 ·obtain⟨u,w,rfl,r1,r2⟩:=vals2 r;cases r1;cases r2;obtain⟨au,_,⟨o,h1,h2,_⟩,_⟩:=I.tuple hT;exact Bo F7 I.o8 ⟨o,h1,h2⟩ e (λz=>nomatch z) λtk=>⟨.bl b,H,I.tok _,rfl,q⟩
def uH(K:Ab):(∀k:Kd,BJ K (.type "NoneType") (.type k.name)=am false)/\(∀k:Kd,BJ K (.type "list") (.type k.name)=am false)/\(∀k:Kd,BJ K (.type "dict") (.type k.name)=am false):=
 ⟨λk=>by cases k <;> kernel_rfl,λk=>by cases k <;> kernel_rfl,λk=>by cases k <;> kernel_rfl⟩
def ab9(K:Ab)(b:Bool)(k:Kd):BJ K (.type "bool") (.type k.name)=am (k.is (.bl b)):=by cases k <;> kernel_rfl
def Yt(K:Ab)(b:Int)(k:Kd):BJ K (.type "int") (.type k.name)=am (k.is (.int b)):=by cases k <;> kernel_rfl
def Ys(K:Ab)(b:Str)(k:Kd):BJ K (.type "str") (.type k.name)=am (k.is (.str b)):=by cases k <;> kernel_rfl
def Yr(K:Ab)(b:O PV)(k:Kd):BJ K (.type "tuple") (.type k.name)=am (k.is (.tup b)):=by cases k <;> kernel_rfl
def K2:zl:=⟨λl h Q=>match l with | [.int i]=>Q (.int (if i < 0 then -i else i)) h | _=>False,λf q=>by
 revert q
 split
 ·exact f _ _
 ·exact λz=>z⟩
def Zo:zl.Ok K (λxs H Q=>∃i,xs=[.int i]/\Q (.int (if i < 0 then -i else i)) H) K2:=by
 intro ι H h vs l Q hr hv q;unfold K2 at q;dsimp only at q;revert q
 split
 ·intro q;cases hv with
  | cons x t=>cases t;cases x;exact⟨_,rfl,q ι _ H (Go.refl _ _) hr (.int _)⟩
 ·exact Bb
def NF:zl:=⟨λl h Q=>match l with | [.int i]=>Q (.int i) h | [.bl k]=>Q (.int (if k then 1 else 0)) h | _=>False,λf q=>by
 revert q
 split
 ·exact f _ _
 ·exact f _ _
 ·exact λz=>z⟩
def Zn:zl.Ok K (λxs H Q=>(∃i,xs=[.int i]/\Q (.int i) H)\/∃k,xs=[.bl k]/\Q (.int (if k then 1 else 0)) H) NF:=by
 intro ι H h vs l Q hr hv q;unfold NF at q;dsimp only at q;revert q
 split
 ·intro q;cases hv with
  | cons x t=>cases t;cases x;exact .inl ⟨_,rfl,q ι _ H (Go.refl _ _) hr (.int _)⟩
 ·intro q;cases hv with
  | cons x t=>cases t;cases x;exact .inr ⟨_,rfl,q ι _ H (Go.refl _ _) hr (.int _)⟩
 ·exact Bb
def RI:zl:=⟨λl h Q=>match l with | [.int i,.int j]=>Q (.int (if j > i then j else i)) h | _=>False,λf q=>by
 revert q
 split
 ·exact f _ _
 ·exact λz=>z⟩
def Ij:zl:=⟨λl h Q=>match l with | [.int i,.int j]=>Q (.int (if j < i then j else i)) h | _=>False,λf q=>by
 revert q
 split
 ·exact f _ _
 ·exact λz=>z⟩
def Zl:zl.Ok K (λxs H Q=>∃i j,xs=[.int i,.int j]/\Q (.int (if j > i then j else i)) H) RI:=by
 intro ι H h vs l Q hr hv q;unfold RI at q;dsimp only at q;revert q
 split
 ·intro q;cases hv with
  | cons x t=>cases t with
   | cons y t=>cases t;cases x;cases y;exact⟨_,_,rfl,q ι _ H (Go.refl _ _) hr (.int _)⟩
 ·exact Bb
def Zk:zl.Ok K (λxs H Q=>∃i j,xs=[.int i,.int j]/\Q (.int (if j < i then j else i)) H) Ij:=by
 intro ι H h vs l Q hr hv q;unfold Ij at q;dsimp only at q;revert q
 split
 ·intro q;cases hv with
  | cons x t=>cases t with
   | cons y t=>cases t;cases x;cases y;exact⟨_,_,rfl,q ι _ H (Go.refl _ _) hr (.int _)⟩
 ·exact Bb
end
end
section
variable{K:Ab}
section
def S7(K:Ab):O V->Hp->VK->Prop:=λxs H Q=>∃p ys,xs=[.ref p]/\((eI K H p ys/\jR H (.tup ys) Q)\/(dJ K H p ys/\Q (.ref p) H))
def Rz(K:Ab)(hK:X.K=K):cm X (.type "tuple") (S7 K):=by
 subst hK;exact yc.mono λxs H Q ⟨p,ys,e,h⟩=>⟨p,ys,e,h.imp (λ⟨h1,h2⟩=>⟨h1,λl hl=>h2.at l hl⟩) λz=>z⟩
structure MQL where
 run:IT->PH->(Src->PH->Prop)->Prop
 mono:∀{ps h}{Q Q':Src->PH->Prop},(∀v h',Q v h'->Q' v h')->run ps h Q->run ps h Q'
structure MO where
 run:IT->PH->(Option Int->PH->Prop)->Prop
 mono:∀{ps h}{Q Q':Option Int->PH->Prop},(∀v h',Q v h'->Q' v h')->run ps h Q->run ps h Q'
def PO.imp{e:Option r9}{t t':TO}(h:L2.PO X e t)(f:∀σ H Q,t' σ H Q->t σ H Q):L2.PO X e t':=λZ s σ H Q I q=>h Z s σ H Q I (f _ _ _ q)
def sN(xs:O PV)(lo hi:Option Int):O PV:=(xs.drop (HT.d9 xs.length 0 lo)).take (HT.d9 xs.length xs.length hi-HT.d9 xs.length 0 lo)
def aG.cut(r:aG K ι H vs l)(lo hi:Option Int):aG K ι H (Ig vs lo hi) (sN l lo hi):=by
 unfold Ig sN;rw[r.length];exact(r.drop _).take _
end
end
end PL
variable{t1:L2.TE}{tp:Co}
namespace PL
section
variable{K:Ab}
section
variable{c:r9}
def gJ(lo:Int)(n:Nat):O PV:=(AD n).map λ(i:Nat)=>.int (lo+(i:Int))
def kC(lo:Int)(n:Nat):(gJ lo n).length=n:=by unfold gJ;simp
def sD{lo:Int}{p:PV}(h:(gJ lo n)[i]?=am p):i < n/\p=.int (lo+i):=by
 unfold gJ at h;rw[Ai]at h;cases z:(AD n)[i]? with
 | none=>rw[z]at h;cases h
 | some k=>
  rw[z]at h;obtain⟨h1,h2⟩:=Am.mp z;simp at h1 h2;subst h2;exact⟨h1,(Option.some.inj h).symm⟩
def ox(lo:Int)(n:Nat):O PV:=(AD n).map λ(i:Nat)=>.int (lo-(i:Int))
def yZ(lo:Int)(n:Nat):(ox lo n).length=n:=by unfold ox;simp
def sL{lo:Int}{p:PV}(h:(ox lo n)[i]?=am p):i < n/\p=.int (lo-i):=by
 unfold ox at h;rw[Ai]at h;cases z:(AD n)[i]? with
 | none=>rw[z]at h;cases h
 | some k=>
  rw[z]at h;obtain⟨h1,h2⟩:=Am.mp z;simp at h1 h2;subst h2;exact⟨h1,(Option.some.inj h).symm⟩
def W9(i:Int):Prop:=-(2 ^ 62)<=i/\i < 2 ^ 62
def ahD(m:MA):MI:=⟨λps h Q=>m.run ps h λl h1=>match l with | [.int j]=>W9 j/\Q ⟨gJ 0 j.toNat,λ_=>True,false⟩ h1 | _=>False,λf q=>m.mono (λl h1 q=>by
 revert q
 split
 ·exact λq=>⟨q.1,f _ _ q.2⟩
 ·exact λz=>z) q⟩
def dI(k:Nat):O PV->O PV
 | []=>[]
 | x::l=>.tup [.int (k:Int),x]::dI (k+1) l
theorem bT:∀(k:Nat) (l:O PV),(dI k l).length=l.length
 | _,[]=>rfl
 | k,x::l=>by rw[dI,Ap,Ap,bT]
theorem ft:∀{k:Nat}{l:O PV}{i:Nat}{p:PV},(dI k l)[i]?=am p->∃x,l[i]?=am x/\p=.tup [.int ((k+i:Nat):Int),x]
 | _,[],_,_,h=>by simp[dI]at h
 | k,x::l,0,p,h=>by simp[dI]at h;subst h;exact⟨x,rfl,by simp⟩
 | k,x::l,i+1,p,h=>by
  obtain⟨y,h1,h2⟩:=ft (k:=k+1) (l:=l) (i:=i) (p:=p) (by simpa[dI]using h);exact⟨y,by simpa using h1,by rw[h2,show k+1+i=k+(i+1) by omega]⟩
def acm(K:Ab)(t1:TE):TI:=λσ H R=>t1 σ H λx H1=>∃a,x=.ref a/\(((∃xs,eI K H1 a xs)/\R (ahc K a) H1)\/((∃xs,dJ K H1 a xs)/\R (Ite K a) H1))
def Tw{X:Cx}(K:Ab)(hK:X.K=K){e1:r9}{kk:Nat}(hg:Gl X "enumerate")(hm:X.mg "enumerate"=ce)(h1:PE X e1 t1)
  (Lx:‹fR X e1 []›):PI X (.Tuple Ñ kk tp) (.Call (.Name "enumerate" p1) [e1] [] p2) (acm K t1):=by
 subst hK;intro Z s σ H R I h;refine Bf (gB I hg hm boot_enumerate ?_ ⋯ ⋯);refine A6 ?_ Lx rfl;rw[Lx];refine B2 (bV (h1 Z s σ H _ I h) λu1 s1 ⟨x,H1,I1,r1,a,ex,hh⟩=>Cv ?_);subst ex;cases r1;have d1:s1.heap.objs.size+1≠s1.heap.objs.size:=Nat.succ_ne_self _;rcases hh with⟨⟨xs,hx⟩,q⟩ | ⟨⟨xs,hx⟩,q⟩
 ·obtain⟨au,rx,tx,_⟩:=I1.list hx;refine call_enumerate_list tx.isList λh' ze hi _ k=>?_;refine DA ze ?_;refine⟨_,_,_,_,H1,rfl,I1.kept (t':=s1.toks) k,LL d1,⟨⟨_,ze⟩,hi⟩,λc hc=>?_,q⟩;have Ú:s1.heap.objs.size<=c:=by
   simp only[Aw,BA,or_false]at hc;rcases hc with rfl | rfl
   ·exact B3 _ _
   ·exact Ak _
  exact I1.xT Ú (I1.a8.fresh Ú)
 ·obtain⟨au,rx,tx,_⟩:=I1.tuple hx;have l1:=let ⟨_,e,_⟩:=tx;Aq e;refine NC tx λh' ze hi k=>?_;refine DA ze ?_;refine⟨_,_,_,_,H1,rfl,I1.kept (t':=s1.toks) k,P4 d1 (AA (AE l1 (B3 _ 1))) (AA l1),⟨⟨_,ze⟩,hi⟩,λc hc=>?_,q⟩;have Ú:s1.heap.objs.size<=c:=by
   simp only[Aw,BA,or_false]at hc;rcases hc with rfl | rfl
   ·exact B3 _ _
   ·exact Ak _
  exact I1.xT Ú (I1.a8.fresh Ú)
def nT:O PV->O PV->O PV
 | x::l,y::m=>.tup [x,y]::nT l m
 | _,_=>[]
theorem pB:∀{l m:O PV}{i:Nat}{p:PV},(nT l m)[i]?=am p->∃x y,l[i]?=am x/\m[i]?=am y/\p=.tup [x,y]
 | [],m,i,p,h=>by simp[nT]at h
 | x::l,[],i,p,h=>by simp[nT]at h
 | x::l,y::m,0,p,h=>by simp[nT]at h;subst h;exact⟨x,y,rfl,rfl,rfl⟩
 | x::l,y::m,i+1,p,h=>by
  obtain⟨u,w,h1,h2,h3⟩:=pB (l:=l) (m:=m) (i:=i) (p:=p) (by simpa[nT]using h);exact⟨u,w,by simpa using h1,by simpa using h2,h3⟩
end
end
end PL
variable{op:PySem.CmpOp}{p3 p4:Co}
namespace PL
section
variable{K:Ab}
section
structure JC(X:Cx)(K:Ab)(op:CmpOp)(b:r9)(m:M2):Prop where
 p:∃r,lN X (v4 op) r/\M2.Ok K r m
 k:xL op b=false
def OX:JC X K .Lt b oLt:=⟨⟨_,afg,K8 λ_ _ _ _=>.bl _⟩,mq _⟩
def aaa:JC X K .LtE b oLe:=⟨⟨_,afh,K8 λ_ _ _ _=>.bl _⟩,mq _⟩
def aab:JC X K .Gt b oGt:=⟨⟨_,afi,K8 λ_ _ _ _=>.bl _⟩,mq _⟩
def afL:JC X K .GtE b oGe:=⟨⟨_,afj,K8 λ_ _ _ _=>.bl _⟩,mq _⟩
def lu:JC X K .Is b pV:=⟨⟨_,abJ,X6⟩,mq _⟩
def OW:JC X K .IsNot b yz:=⟨⟨_,XS,T6⟩,mq _⟩
end
end
end PL
variable{u v:Gi}{i:Int}
namespace L2
def lX(lo:Int)(n:Nat):O V:=(AD n).map λ(i:Nat)=>.int (lo+(i:Int))
theorem uU{lo:Int}{acc:Array db}(h:ItemsOf (λ(i:Nat) v=>∃t,v=.int (lo+(i:Int)*1) t) acc n):Vals (lX lo n) acc.toList:=by
 obtain⟨hs,hi⟩:=h;have go:∀(k:Nat),k<=n->Vals ((AD k).map λ(i:Nat)=>V.int (lo+(i:Int))) (acc.toList.take k):=by
  intro k
  induction k with
  | zero=>intro _;simp;exact .nil
  | succ k ih=>
   intro hk;have Ww:k < acc.size:=by omega
   rw[Fu,AW,Ew];have e:acc.toList[k]?=am acc[k]:=by simp[Ww]
   rw[e];refine Vals.append (ih ∅) ?_;obtain⟨t,ht⟩:=hi k acc[k] (by simp[Ww]);refine .cons ⟨t,?_⟩ .nil;rw[ht];simp
 have:=go n (Ak _);rw[CV (by simp[hs])]at this;exact this
def yb{Q:O db->ii->Prop}{r:f8}{a b c:Int}{t:Tok}(hh:A.handled=ce)(hr:IsRange s.heap r a b c t u v)(vQ:Builtin.Range.small a b c=true)
  (hn:Builtin.Range.rangeSize a b c=n) (À:n<=2 ^ 24)
  (hQ:∀h' tk uy,(∀b o',s.heap.get? b=am o'->h'.get? b=am o')->ItemsOf (λi v=>∃t,v=.int (a+i*c) t) uy n->Q uy.toList {s with heap:=h',toks:=tk}):im (lc prog w) A (collect (.ref r)) Q E s:=by
 unfold collect;refine Aa (wpAny_runValue (wE F.entry_proto_collect ?_));rw[Cf F.plain_proto_collect _];show im _ A.in1 (newList [] >>= λl=>again (.builtin "list.__iadd__" ⟨[l,.ref r],[]⟩)) _ _ s;refine Aa (AJ ?_);refine Af ⟨wS F.plain_list_iadd _,wE F.entry_list_iadd ?_⟩;rw[Cf F.plain_list_iadd _];show im _ A.in1 (Builtin.List.listExtendWith (.ref s.heap.objs.size) (.ref r) (.ref s.heap.objs.size)) _ _ _;have hS:(s.heap.push {cls:=.type "list",data:=.seq ([]:O db).toArray}).get? s.heap.objs.size=am {cls:=.type "list",data:=.seq #[] 0}:=Ao _ rfl;refine BL (wpAny_extend_range (A:=A) (s:={s with heap:=s.heap.push {cls:=.type "list",data:=.seq ([]:O db).toArray}}) (R:=λr' s'=>r'=.ok (.ret (.ref s.heap.objs.size))/\∃h' tk uy c',s'={s with heap:=h',toks:=tk}/\
   (∀b o,b≠s.heap.objs.size->(s.heap.push {cls:=.type "list",data:=.seq ([]:O db).toArray}).get? b=am o->h'.get? b=am o)/\h'.get? s.heap.objs.size=am {cls:=.type "list",dict:=ce,data:=.seq uy c',slots:=#[]}/\ItemsOf (λi v=>∃t,v=.int (a+i*c) t) uy n)
  hh (Ag _ hr) vQ hn À s.heap.objs.size _ 0 hS λh' tk uy c' k1 k2 k3=>⟨rfl,h',tk,uy,c',rfl,k1,k2,k3⟩) (λfin s' h=>?_) (λe s' h=>?_)
 ·have agF:∀Wu,(∃h' tk uy c',Wu={s with heap:=h',toks:=tk}/\
   (∀b o,b≠s.heap.objs.size->(s.heap.push {cls:=.type "list",data:=.seq ([]:O db).toArray}).get? b=am o->h'.get? b=am o)/\h'.get? s.heap.objs.size=am {cls:=.type "list",dict:=ce,data:=.seq uy c',slots:=#[]}/\ItemsOf (λi v=>∃t,v=.int (a+i*c) t) uy n)->
   im (lc prog w) A (match Ay s.heap.objs.size with
   | Ay a=>do
    match (<- load a).data with
     | FO xs _=>pure xs.toList
     | _=>unsupported "internal:collect"
   | _=>unsupported "internal:collect") Q E Wu:=by
   rintro Wu ⟨h',tk,uy,c',rfl,k1,k2,k3⟩;show im _ A (load s.heap.objs.size >>= _) _ _ _;refine Aa (F9 k2 ?_);exact Af (hQ h' tk uy (λb o' hb=>k1 b o' (AA (Aq hb)) (Ag _ hb)) k3)
  cases fin with
  | done f=>
   obtain⟨e,h⟩:=h;cases e;exact agF _ h
  | again c'=>exact⟨h.1,FB h.2 λr Wu hr=>by obtain⟨rfl,h⟩:=hr;exact agF _ h⟩
 ·exact absurd h.1 (by simp)
theorem lY(r:f8)(a b:Int)(t u v:Tok)(n:Nat)(vQ:Builtin.Range.small a b 1=true)(hn:Builtin.Range.rangeSize a b 1=n)(À:n<=2 ^ 24) :
  Meets (BT.«tuple.__new__» ⟨[.type "tuple",.ref r],[]⟩)
   (λA R s=>A.handled=ce/\IsRange s.heap r a b 1 t u v/\∀(h':sw) (tk:Nat) (acc:Array db),(∀b o',s.heap.get? b=am o'->h'.get? b=am o')->ItemsOf (λ(i:Nat) v=>∃t,v=.int (a+(i:Int)*1) t) acc n->R (.ok (.ret (.ref h'.objs.size))) {s with heap:=h'.push {cls:=.type "tuple",data:=.seq acc},toks:=tk}):=
 .of_wp λprog w A R s h=>by
  obtain⟨hp,g,d,tk,os⟩:=s;obtain⟨hh,ht,h⟩:=h;have aoB:=sub_tuple_self;have alK:=init_tuple_lookup;have hmh:=madeHere_tuple;have hT:Shared.TypeIs ⟨hp,g,d,tk,os⟩ (.ref r) "range":=⟨_,ht,rfl⟩;have ht':hp.get? r=am {cls:=.type "range",data:=.fields #[.int a t,.int b u,.int 1 v]}:=ht
  wp_walk using BQ ht',Cw hT,yb (by exact hh) ht vQ hn À
  intro h' RT acc hk MW;show im _ _ (Builtin.Tuple.tupleExact acc.toList.toArray >>= λv=>ret v) _ _ _;unfold Builtin.Tuple.tupleExact;have hz:acc.size<=sizeLine:=by rw[MW.1,Da];omega
  refine Aa (AJ ?_ (by show acc.toList.toArray.size<=sizeLine;simpa using hz));refine Af ⟨_,rfl,?_⟩;have e:acc.toList.toArray=acc:=by simp
  rw[e];exact h h' RT acc hk MW
def sQ{r:f8}{a b:Int}{t:Tok}(hh:A.handled=ce)(hr:IsRange s.heap r a b 1 t u v)(vQ:Builtin.Range.small a b 1=true)
  (hn:Builtin.Range.rangeSize a b 1=n) (À:n<=2 ^ 24)
  (h:∀(h':sw) (tk:Nat) (acc:Array db),(∀b o',s.heap.get? b=am o'->h'.get? b=am o')->ItemsOf (λ(i:Nat) v=>∃t,v=.int (a+(i:Int)*1) t) acc n->Q (.ref h'.objs.size) {s with heap:=h'.push {cls:=.type "tuple",data:=.seq acc},toks:=tk}) :
  im (lc prog w) A (call (.type "tuple") [.ref r]) Q E s:=
 callType_new F.called_tuple ⋯ (F.typeCall_tuple_1 _) (F.newCall_tuple_1 _) (λobj=>F.args_object_init_2 obj _) F.entry_tuple_new
  (lY r a b t u v n vQ hn À) ⟨hh,hr,λh' tk acc hk MW=>⟨⟨_,Ao _ rfl,rfl⟩,h h' tk acc hk MW⟩⟩
section
variable{ta:TA}
theorem Jr:Builtin.Range.rangeSize i j 1=(((j-i).toNat:Nat):Int):=by rw[rangeSize_one];split <;> omega
theorem ahv{Q:VK}{t u v:Tok}{tk:Nat}(hc:X.calm=true)(I:Inv X Z σ H s)(hb:-(2 ^ 62)<=i/\i < 2 ^ 62/\-(2 ^ 62)<=j/\j < 2 ^ 62)(hz:(j-i).toNat<=1000000)
  (q:jR H (.tup (lX i (j-i).toNat)) Q):im (lc X.prog X.w) X.A (call (.type "tuple") [.ref s.heap.objs.size]) (EP X Z σ Q) E {s with heap:=s.heap.push {cls:=.type "range",data:=.fields #[.int i t,.int j u,.int 1 v]},toks:=tk}:=by
 have I1:Inv X Z σ H {s with heap:=s.heap.push {cls:=.type "range",data:=.fields #[.int i t,.int j u,.int 1 v]},toks:=tk}:=I.kept λb o e=>Ag _ e;refine sQ (s:={s with heap:=s.heap.push {cls:=.type "range",data:=.fields #[.int i t,.int j u,.int 1 v]},toks:=tk}) (I.ok.hd hc) (FJ ..) (small_one hb.1 hb.2.1 hb.2.2.1 hb.2.2.2) Jr ∅ λh' RT acc kp it=>?_;have I2:Inv X Z σ H {s with heap:=h',toks:=RT}:=I1.kept (h':=h') (t':=RT) kp;obtain⟨au,rfl⟩:∃au:O db,acc=au.toArray:=⟨acc.toList,by simp⟩;have rv:=uU it;have hl:(lX i (j-i).toNat).length<=sizeLine:=by unfold lX;rw[Ah,CA,Da];omega
 refine⟨.ref h'.objs.size,upd H h'.objs.size (.tup (lX i (j-i).toNat)),I2.laid (t':=RT) (λb o e=>Ag _ e) (Ak _) ?_,rfl,q.at _ (I2.a8.fresh (Ak _))⟩;exact⟨hl,au,by simpa using rv,⟨_,Ao _ rfl,rfl,_,rfl⟩⟩
theorem Xi{Q:VK}{t u v:Tok}{tk:Nat}(hc:X.calm=true)(I:Inv X Z σ H s)(hb:-(2 ^ 62)<=i/\i < 2 ^ 62/\-(2 ^ 62)<=j/\j < 2 ^ 62)(hz:(j-i).toNat<=1000000)
  (q:jR H (.lst (lX i (j-i).toNat)) Q):im (lc X.prog X.w) X.A (call (.type "list") [.ref s.heap.objs.size]) (EP X Z σ Q) E {s with heap:=s.heap.push {cls:=.type "range",data:=.fields #[.int i t,.int j u,.int 1 v]},toks:=tk}:=by
 have I1:Inv X Z σ H {s with heap:=s.heap.push {cls:=.type "range",data:=.fields #[.int i t,.int j u,.int 1 v]},toks:=tk}:=I.kept λb o e=>Ag _ e;refine call_list_range (s:={s with heap:=s.heap.push {cls:=.type "range",data:=.fields #[.int i t,.int j u,.int 1 v]},toks:=tk}) (I.ok.hd hc) (FJ ..) (small_one hb.1 hb.2.1 hb.2.2.1 hb.2.2.2) Jr ∅ λh' RT acc c' kp hS it=>?_;have rv:=uU it;have hl:(lX i (j-i).toNat).length<=sizeLine:=by unfold lX;rw[Ah,CA,Da];omega
 refine⟨.ref (s.heap.push {cls:=.type "range",data:=.fields #[.int i t,.int j u,.int 1 v]}).objs.size,upd H _ (.lst (lX i (j-i).toNat)),I1.laid (h':=h') (t':=RT) kp (Ak _) ?_,rfl,q.at _ (I1.a8.fresh (Ak _))⟩;exact⟨hl,acc.toList,c',rv,by simpa using hS⟩
def okR(i j:Int):Prop:=(-(2 ^ 62)<=i/\i < 2 ^ 62/\-(2 ^ 62)<=j/\j < 2 ^ 62)/\(j-i).toNat<=1000000
section
variable{T:Str}{Tn:String}{r:VK->Hp->Int->Int->Prop}
def Ql(ô:Gl X "range")(Ly:X.mg "range"=ce)(õ:Gl X T)(YM:X.mg T=ce)(hb1:sK T=am (.type Tn))(ha:PA X [a] ta)
  (Ö:∀{Z:O (f8×Obj)}{σ:St}{H:Hp}{s:ii}{Q:VK}{i j:Int}{t u v:Tok}{tk:Nat},Inv X Z σ H s->r Q H i j->im (lc X.prog X.w) X.A (call (.type Tn) [.ref s.heap.objs.size]) (EP X Z σ Q) X.xe {s with heap:=s.heap.push {cls:=.type "range",data:=.fields #[.int i t,.int j u,.int 1 v]},toks:=tk})
  (hn:T≠"__name__") (hd:(T==("__debug__":Str))=false) (Ĥ:nn [.Call (.Name "range" p1) [a] [] p2] X.env=(false,pr (.Call (.Name "range" p1) [a] [] p2) X.env)::nn [] X.env) (hs:nn [a] X.env=[(false,pr a X.env)]) :
  PE X (.Call (.Name T p) [.Call (.Name "range" p1) [a] [] p2] [] pos) (λσ H Q=>ta σ H λvs H1=>∃j:Int,vs=[.int j]/\r Q H1 0 j):=by
 intro Z s σ H Q I h;refine Bf (gB I õ YM hb1 ?_ hn hd);refine A6 ?_ Ĥ rfl;rw[Ĥ];show im _ _ (spliced ((false,pr (.Call (.Name "range" p1) [a] [] p2) X.env)::Ev pos (nn [] X.env))) _ _ s;refine B2 ?_;refine Call_ (gB I ô Ly boot_range (A6 (bV (ha p2 Z s σ H _ I h) λus s1 ⟨vs,H1,I1,r1,q1⟩=>?_) hs rfl));obtain⟨j,rfl,q⟩:=q1;obtain⟨w,rfl,t,rfl⟩:=vals1 r1;exact call_range_1 (Cv (Ö I1 q))
end
end
end L2
namespace PL
section
variable{K:Ab}
section
def Sf(lo:Int)(n:Nat):aG K ι H (lX lo n) (gJ lo n):=by
 unfold lX gJ
 induction AD n with
 | nil=>exact .nil
 | cons k l ih=>exact .cons (.int _) ih
end
end
theorem KU:∀{l:O PV},ya l=true↔∀x∈l,x.dat=true
 | []=>by simp[ya]
 | x::l=>by rw[ya,AI,KU];simp
section
variable{K:Ab}
section
variable{c:r9}
def aG.rep(h:aG K ι H vs l):∀k:Nat,aG K ι H (An k vs).flatten (An k l).flatten
 | 0=>.nil
 | k+1=>by
  rw[BD,BD,Ci,Ci];exact h.append (h.rep k)
def S8:V->O V->Hp->VK->Prop:=λx vs H Q=>∃(l:f8) (ns:O Int) (k:Int),x=.ref l/\vs=[.int k]/\H l=am (.lst (ns.map V.int))/\k∈ns/\Jc H l (.lst ((ns.erase k).map V.int)) (Q .aJ)
theorem ints_get:∀{us:O db}{ns:O Int},zn us ns->∀(i:Nat) (hi:i < us.length),∃n t,ns[i]?=am n/\us[i]=.int n t
 | _,_,.nil,i,hi=>by simp at hi
 | _,_,.cons _ _ r,i,hi=>by
  cases i with
  | zero=>exact⟨_,_,rfl,rfl⟩
  | succ i=>exact ints_get r i (by simpa using hi)
theorem UT{k:Int}:∀{ns:O Int}{m:Nat},ns[m]?=am k->ns.idxOf k<=m
 | [],m,h=>by simp at h
 | a::ns,0,h=>by
  have:a=k:=by simpa using h
  subst this;simp
 | a::ns,m+1,h=>by
  have:=UT (ns:=ns) (m:=m) (by simpa using h);rw[List.idxOf_cons];by_cases c:a=k
  ·have:(a==k)=true:=by simpa using c
   rw[this];exact A9 _
  ·have c2:(a==k)=false:=by simpa using c
   rw[c2];exact Nat.succ_le_succ this
theorem yW(f:α->β):∀(l:List α) (j:Nat),(l.eraseIdx j).map f=(l.map f).eraseIdx j
 | [],_=>rfl
 | a::l,0=>rfl
 | a::l,j+1=>by
  show f a::(l.eraseIdx j).map f=f a::(l.map f).eraseIdx j;rw[yW f l j]
def isK(k:Int):db->Bool
 | .int a _=>a==k
 | _=>false
def xh(r:Vals vs us):∀j,Vals (vs.eraseIdx j) (us.eraseIdx j):=by
 induction r with
 | nil=>intro j;exact .nil
 | cons h r ih=>
  intro j;cases j with
  | zero=>exact r
  | succ j=>exact .cons h (ih j)
theorem Md:NU X "list.remove" S8:=by
 intro Z s σ H x vs v us Q I rx rv h;obtain⟨l,ns,k,rfl,rfl,hH,hk,q⟩:=h;cases rx;obtain⟨u,rfl,ru⟩:=rv.one;obtain⟨t,rfl⟩:=ru;obtain⟨z,au,n,r,hl,e⟩:=I.ud hH;have hi:=intsAre_of r;have À:ns.length=au.length:=by rw[Ah]at hl;omega
 have hj:=B5 hk;have hej:ns.erase k=ns.eraseIdx (ns.idxOf k):=by rw[List.erase_eq_eraseIdx_of_idxOf rfl]
 refine wT F.slot_list_remove ⟨_,e,rfl⟩ F.entry_list_remove (F.args_list_remove_2 _ _) (MeetsSeq.list_remove l au.toArray n (.int k t) (isK k) (λy hy=>?_) (ns.idxOf k) (by rw[Aj];omega) ?_ (λm hm gD=>?_) (by rw[Aj];omega)) ⟨e,?_⟩
 ·have YH:y∈au:=by simpa using hy
  obtain⟨i,RY⟩:=B4 YH;obtain⟨h1,h2⟩:=Am.mp RY;obtain⟨n',t',g1,g2⟩:=ints_get hi i h1;rw[<- h2,g2];exact MeetsSeq.EqGives.int _ _ _ _
 ·have h1:ns.idxOf k < au.length:=by omega
  obtain⟨n',t',g1,g2⟩:=ints_get hi (ns.idxOf k) h1;have g3:ns[ns.idxOf k]?=am k:=by rw[Ad hj,List.getElem_idxOf hj]
  rw[g3]at g1;cases g1;rw[D6,g2];simp[isK]
 ·have h1:m < au.length:=by rw[Aj]at hm;exact hm
  obtain⟨n',t',g1,g2⟩:=ints_get hi m h1;rw[D6,g2];have:n'≠k:=λz=>by
   subst z;have:=UT g1;omega
  simp[isK,this]
 ·refine⟨.aJ,_,I.Mm (its':=au.eraseIdx (ns.idxOf k)) (ys:=(ns.erase k).map V.int) hH e (by simp[Array.toList_eraseIdxIfInBounds,<- Array.toList_inj]) ?_ ?_,rfl,q.at⟩
  ·rw[hej,yW];exact xh r _
  ·rw[hej,Ah,FT]
   split <;> omega
theorem jw:∀{ns:O Int}{vs:O V},aG K ι H vs (ns.map PV.int)->vs=ns.map V.int
 | [],_,h=>by cases h;rfl
 | b::bs,_,h=>by
  cases h with
  | cons x t=>cases x;rw[jw t];rfl
theorem nv(ι:O f8)(H:Hp):∀ns:O Int,aG K ι H (ns.map V.int) (ns.map PV.int)
 | []=>.nil
 | n::ns=>.cons (.int n) (nv ι H ns)
def abi(K:Ab):O V->Hp->VK->Prop:=λxs H Q=>∃(p:f8) (ns:O Int),xs=[.ref p]/\eI K H p (ns.map V.int)/\ns.length < 64/\∀ms:O Int,ms.Perm ns->ms.Pairwise (·<=·)->jR H (.lst (ms.map V.int)) Q
theorem Ny(K:Ab)(hK:X.K=K):cm X (.builtin "sorted") (abi K):=by
 subst hK;intro Z s σ H xs us Q I r h;obtain⟨p,ns,rfl,hq,Ď,q⟩:=h;obtain⟨u,rfl,rx⟩:=vals1 r;cases rx;obtain⟨au,r',pl,hz⟩:=I.list hq;have hi:=intsAre_of r';have hl:=r'.length;rw[Ah]at hl hz;refine PyProof.Rows.sorted_ints pl.isList hi ∅ λout ms a1 a2 a3=>?_;obtain⟨e,he⟩:=sortedAll_at s.heap au out;refine⟨.ref (s.heap.objs.size+1),_,I.laid (t':=s.toks) (λ_ _=>sortedAll_old) (Du _) (show bh X.prog X.w _ _ _ (.lst (ms.map V.int)) from⟨?_,out.toList,e,mX a1,?_⟩),rfl,(q ms a2 a3).at _ (I.a8.fresh (Du _))⟩
 ·rw[Ah,a2.length_eq];exact hz
 ·rw[FV];exact he
end
end
end PL
variable{xs:Array Bc}{a:Bm}{o:FY}
namespace L2
def o9{name:Str}{Q:Option db->ii->Prop}
  (hx:s.heap.get? a=am o) (hc:o.cls=.type "list") (mJ:o.data=.seq xs k) (hd:o.dict=ce) (af6:Re (.type "list") name=pure ce) (af4:(["__module__","__name__","__qualname__","__doc__","__annotations__"]:O Str).contains name=false) (hA:A.handled=ce)
  (h:∀h' tk e,Heap.NewExcOf s.heap h' e "AttributeError"->Q ce {s with heap:=h',toks:=tk}) (hsz:name.length+100<=sizeLine:=by size_fits) :
  im (lc prog w) A (getAttr? (.ref a) name) Q E s:=by
 obtain⟨c,dct,dat,sl⟩:=o;simp only at hc mJ hd;subst hc mJ hd;obtain⟨hp,g,d,tk,os⟩:=s;have hT:∀RT,(⟨hp,g,d,RT,os⟩:ii).TypeIs (.ref a) "list":=λ_=>⟨_,hx,rfl⟩;have f1:=sub_AttributeError;have f3:=Dk.lookup;have f4:=Dk.bind (.ref a);have f5:=am_list_getattr_none
 repeat (any_goals (first | assumption | exact hT _ | ((with_reducible show im _ _ (call (Value.builtin "list.__getattribute__") _ _) _ _ _);refine wT Dk (hT _) am_entry_list_getattribute (F.args_list_getattribute_2 _ _) (meets_getattribute_miss_list a xs k sl name _ af6 af4 hsz) ⟨hx,hA,λh' RT e qB=>?_⟩) | wp_step))
 obtain⟨t',u',he⟩:=qB.there;unfold getattributeRaised
 repeat (any_goals (first | assumption | wp_step))
 exact h _ _ _ qB.of
end L2
variable{b d:Bm}{v:Bc}
namespace L2
def jB:entryFor table "dict.update.loop"=am BT.«dict.update.loop»:=entryFor_of_fast (by kernel_rfl)
def jk:plainId "dict.update.loop"=true:=by decide +kernel
section
variable{K:Type}[DecidableEq K]{knd:KeyKind prog w K}
def IG(knd:KeyKind prog w K)(h:sw)(it d:f8)(v:db)(x:O K×f8×db):Prop:=
 ∃pa o n,v=.ref pa/\pa≠it/\pa≠d/\x.2.1≠it/\x.2.1≠d/\h.get? pa=am o/\o.cls=.type "tuple"/\o.data=.seq #[.ref x.2.1,x.2.2] n/\(t0 knd).is h x.1 x.2.1
def zG{k:O K}(x:(t0 knd).is h k b)(kp:∀o,h.get? b=am o->h'.get? b=am o):(t0 knd).is h' k b:=by
 obtain⟨o,au,n,h1,h2⟩:=x;exact⟨o,au,n,kp _ h1,h2⟩
def IG.keep{x:O K×f8×db}(p:IG knd h it d v x)(kp:∀b o,b≠it->b≠d->h.get? b=am o->h'.get? b=am o):IG knd h' it d v x:=by
 obtain⟨pa,o,n,e,n1,n2,n3,n4,h1,h2,h3,h4⟩:=p;exact⟨pa,o,n,e,n1,n2,n3,n4,kp _ _ n1 n2 h1,h2,h3,zG h4 λo q=>kp _ _ n3 n4 q⟩
def Ib{xs:O (O K×f8×db)}(m:h.DictOfH (t0 knd) d xs)(hd:d≠it)(hx:∀x∈xs,x.2.1≠it)(kp:∀b o,b≠it->h.get? b=am o->h'.get? b=am o):h'.DictOfH (t0 knd) d xs:=by
 obtain⟨o,es,ep,ho,hc,ø,he,his,hn⟩:=m;exact⟨o,es,ep,kp _ _ hd ho,hc,ø,he,λx q=>zG (his x q) λo z=>kp _ _ (hx x q) z,hn⟩
def Jj{xs:O (O K×f8×db)}{k:O K}(hx:∀x∈xs,x.2.1≠it)(hb:b≠it):∀x∈storedH xs k b v,x.2.1≠it:=by
 intro x q;unfold storedH at q
 split at q
 ·obtain⟨y,hy,rfl⟩:=Au.mp q;have e:(putAt k v y).2.1=y.2.1:=by unfold putAt;split <;> rfl
  rw[e];exact hx y hy
 ·rcases AQ.mp q with q | q
  ·exact hx x q
  ·rw[AR.mp q];exact hb
def Jk{xs:O (O K×f8×db)}{k:O K}:(storedH xs k b v).length<=xs.length+1:=by
 unfold storedH
 split <;> simp
theorem Jb(hA:A.handled=ce)(hu:A.units+1 < xz){l:f8}(hz:items.size+items.size<=sizeLine)(ŧ:d≠it)(hli:l≠it)(hld:l≠d) :
  ∀(k i:Nat) (ys xs:O (O K×f8×db)) (s:ii),items.size-i=k->i<=items.size->ys.length=items.size-i->xs.length<=i->s.heap.IsListIter it l i->s.heap.IsList l items->s.heap.DictOfH (t0 knd) d xs->(∀x∈xs,x.2.1≠it)->
   (∀j x,ys[j]?=am x->∃v,items[i+j]?=am v/\IG knd s.heap it d v x)->
   (∀h' tk,h'.DictOfH (t0 knd) d (ys.foldl (λa y=>storedH a y.1 y.2.1 y.2.2) xs)->(∀b o,b≠it->b≠d->s.heap.get? b=am o->h'.get? b=am o)->R (.ok (.ret .none)) {s with heap:=h',toks:=tk})->
   GT (lc prog w) A (.builtin "dict.update.loop" ⟨[.ref d,.ref it,sn i,.none],[]⟩) R s:=by
 intro k
 induction k with
 | zero=>
  intro i ys xs s hk hi hy hxl Ô hl hd hx hp q;have e0:ys=[]:=Bj ∅;subst e0;refine wE jB ?_;refine Aa (wpAny_pyNext_list_end (A:=A.in1) hA Ô hl (by rw[Fj];omega) λh' ex=>?_);have kp:=ex;exact Aa (Af (Af (q h' s.toks (Ib hd ŧ hx kp) λb o n1 _ e=>kp b o n1 e)))
 | succ k ih=>
  intro i ys xs s hk hi hy hxl Ô hl hd hx hp q
  match ys,hy,hp,q with
  | [],hy,_,_=>exact absurd hy (by simp only[BN];omega)
  | y::ys,hy,hp,q=>
  obtain⟨v,hv,pa⟩:=hp 0 y rfl;refine wE jB ?_;refine Aa (wpAny_pyNext_list_item Ô hl (by simpa using hv) λh1 aj7 sb=>?_);have Yq:∀b o,b≠it->s.heap.get? b=am o->h1.get? b=am o:=λb o hb e=>(sb.2 b hb).trans e;have pa1:=pa.keep λb o n1 _ e=>Yq b o n1 e;have ĩ:=Ib hd ŧ hx Yq;have Ţ:h1.IsList l items:=let ⟨o,e,p⟩:=hl;⟨o,Yq _ _ hli e,p⟩;obtain⟨p,o,n,rfl,n1,n2,n3,n4,g1,g2,g3,g4⟩:=pa1;refine Aa (Bl (Aa (Er ?_)));refine Aa (Cw (T:="tuple") ⟨_,g1,g2⟩ ?_);refine Aa (BK g1 g3 (Af ?_));refine Bl (wpAny_dictSet_heap (knd:=t0 knd) (tupleKind_room_in1 hu) g4 ĩ (λh2 Õ sb2=>?_) ∅);have ő:∀b o,b≠d->h1.get? b=am o->h2.get? b=am o:=λb o hb e=>(sb2.2 b hb).trans e;refine Af ⟨wS jk _,?_⟩;have kp:∀b o,b≠it->b≠d->s.heap.get? b=am o->h2.get? b=am o:=λb o a1 a2 e=>ő _ _ a2 (Yq _ _ a1 e);refine ih (i+1) ys (storedH xs y.1 y.2.1 y.2.2) _ ∅ ∅ (by rw[Ap]at hy;omega) (BG Jk ∅) ?_ ?_ Õ (Jj hx n3) (λj x hj=>?_) (λh' tk dd k3=>?_)
  ·obtain⟨o',e1,e2⟩:=aj7;exact⟨o',ő _ _ (BU ŧ) e1,e2⟩
  ·obtain⟨o',e1,e2⟩:=Ţ;exact⟨o',ő _ _ hld e1,e2⟩
  ·obtain⟨v',h3,h4⟩:=hp (j+1) x hj;exact⟨v',by rw[show i+1+j=i+(j+1) by omega];exact h3,h4.keep kp⟩
  ·exact q h' tk dd λb o a1 a2 e=>k3 b o a1 a2 (kp b o a1 a2 e)
end
def GK:Re (.type "list") (B7 "keys")=pure ce:=am_miss_of_fast (by decide +kernel)
section
variable{K:Type}[DecidableEq K]{knd:KeyKind prog w K}
theorem ux{l:f8}{ys:O (O K×f8×db)}(hA:A.handled=ce)(hu:A.units+2 < xz)(ho:s.heap.get? l=am o)(hc:o.cls=.type "list")(mJ:o.data=.seq items n)(hd:o.dict=ce)
  (hz:items.size+items.size<=sizeLine) (hy:ys.length=items.size)
  (hp:∀(j:Nat) (x:O K×f8×db),ys[j]?=am x->∃(pa:f8) (op:Obj) (m:Nat),items[j]?=am (Ay pa)/\s.heap.get? pa=am op/\op.cls=.type "tuple"/\op.data=.seq #[Ay x.2.1,x.2.2] m/\(t0 knd).is s.heap x.1 x.2.1)
  (q:∀h' tk,(∀b o,s.heap.get? b=am o->h'.get? b=am o)->h'.DictOfH (t0 knd) s.heap.objs.size (ys.foldl (λa y=>storedH a y.1 y.2.1 y.2.2) [])->Q (.ref s.heap.objs.size) {s with heap:=h',toks:=tk}) :
  im (lc prog w) A (call (.type "dict") [.ref l]) Q E s:=by
 refine callType_codes (Q₁:=λobj s₁=>obj=.ref s.heap.objs.size/\s₁={s with heap:=s.heap.push {cls:=.type "dict",data:=.dict #[]}}) F.kt_called_dict (F.kt_typeCall_dict_1 _) F.entry_dict_init (kt_code_dict_new _ ⟨rfl,rfl⟩) ?_;rintro obj s₁ ⟨rfl,rfl⟩;have ĸ:∀b o,s.heap.get? b=am o->(s.heap.push {cls:=.type "dict",data:=.dict #[]}).get? b=am o:=λb o e=>Ag _ e;have YL:(s.heap.push {cls:=.type "dict",data:=.dict #[]}).DictOf knd s.heap.objs.size []:=Heap.DictOf.new s.heap;have af3:(s.heap.push {cls:=.type "dict",data:=.dict #[]}).DictOfH (t0 knd) s.heap.objs.size []:=⟨_,#[],0,Ao _ rfl,⟨rfl,rfl,rfl⟩,rfl,rfl,λx hx=>absurd hx (BA),FR⟩;have ls:∀b o,s.heap.get? b=am o->b≠s.heap.objs.size:=λb o e z=>by subst z;exact A5 _ (Aq e)
 refine⟨YL.typeIs,F.args_dict_init_2 _ _,?_⟩;refine Aa ?_;refine Aa (wpAny_notOrdered_dict YL.typeIs ?_);refine Af ?_;refine Aa (Cw (T:="list") ⟨_,ĸ _ _ ho,hc⟩ ?_);refine Aa (o9 (ĸ _ _ ho) hc mJ hd GK (by decide +kernel) hA (λh1 tk e nx=>?_) ⋯);refine Aa (C7 (Aa ?_));refine Dz (items:=items) ⟨_,nx.keeps _ _ (ĸ _ _ ho),hc,n,mJ⟩ ?_;have hsz:=Aq (nx.keeps _ _ (Ao s.heap rfl));have Yq:∀b o,s.heap.get? b=am o->(h1.push {cls:=.type "list_iterator",data:=.fields #[.ref l,.int 0 0]}).get? b=am o:=λb o e=>Ag _ (nx.keeps _ _ (ĸ _ _ e));have ni:∀b o,s.heap.get? b=am o->b≠h1.objs.size:=λb o e z=>by
  have h3:=Aq e;subst z;exact A5 _ (Nat.lt_trans h3 hsz)
 refine Af ⟨wS jk _,?_⟩;refine Jb (A:=A.in1) (knd:=knd) hA (by show A.units+1+1 < _;omega) (items:=items) (d:=s.heap.objs.size) (it:=h1.objs.size) (l:=l) hz (AA hsz) (ni _ _ ho) (ls _ _ ho) items.size 0 ys [] _ (Ej _) (A9 _) (by rw[hy];rfl) (Ak _)
  ⟨_,Ao _ rfl,rfl,rfl⟩ ⟨_,Yq _ _ ho,hc,n,mJ⟩ ?_ (λx hx=>nomatch hx) (λj x hj=>?_) (λh' RT dd kp=>?_)
 ·refine Ib (it:=h1.objs.size) af3 (AA hsz) (λx hx=>nomatch hx) λb o _ e=>Ag _ (nx.keeps _ _ e)
 ·obtain⟨pa,op,m,e1,e2,e3,e4,e5⟩:=hp j x hj;have kb:∃ob,s.heap.get? x.2.1=am ob:=let ⟨ob,_,_,z,_⟩:=e5;⟨ob,z⟩;obtain⟨ob,eb⟩:=kb;exact⟨.ref pa,by rw[AL];exact e1,pa,op,m,rfl,ni _ _ e2,ls _ _ e2,ni _ _ eb,ls _ _ eb,Yq _ _ e2,e3,e4,zG e5 λo z=>Yq _ _ z⟩
 ·exact⟨rfl,q h' RT (λb o e=>kp b o (ni _ _ e) (ls _ _ e) (Yq _ _ e)) dd⟩
end
structure Pz where
 pa:f8
 k:List Key
 b:f8
 v:V
def Pz.At(H:Hp)(z:Pz):Prop:=H z.pa=am (.tup [.ref z.b,z.v])/\H z.b=am (.tup (z.k.map kV))
def abo(K:Ab):O V->Hp->VK->Prop:=λxs H Q=>∃(p:f8) (zs:O Pz),xs=[.ref p]/\eI K H p (zs.map λz=>.ref z.pa)/\(∀z∈zs,z.At H)/\(zs.map (·.k)).Nodup/\zs.length<=1000/\jR H (.dT (zs.map λz=>(z.k,z.v))) Q
theorem tG{K:Type}[DecidableEq K]:∀(ys xs:O (K×f8×db)),((xs++ys).map (·.1)).Nodup->ys.foldl (λa y=>storedH a y.1 y.2.1 y.2.2) xs=xs++ys
 | [],xs,_=>by simp
 | y::ys,xs,h=>by
  have hn:atKey xs y.1=ce:=by
   cases e:atKey xs y.1 with
   | none=>rfl
   | some p=>
    exfalso;rw[AW,Ar]at h;have h2:=(DE.mp h).2.2;have hm:y.1∈xs.map (·.1):=by
     by_cases hc:y.1∈xs.map (·.1)
     ·exact hc
     ·rw[atKey_none_of_get (λj q hj=>?_)]at e
      ·cases e
      ·exact hc (Au.mpr ⟨_,AM hj,rfl⟩)
    exact h2 _ hm _ Bt rfl
  rw[Dp,storedH_new hn,tG ys (xs++[(y.1,y.2.1,y.2.2)]) (by simpa using h)];simp
section
theorem ND(K:Ab)(hK:X.K=K)(hc:X.calm=true)(hu:X.A.units+2 < xz):cm X (.type "dict") (abo K):=by
 subst hK;intro Z s σ H xs us Q I r h;obtain⟨p,zs,rfl,hq,hz,hn,hl,q⟩:=h;obtain⟨u,rfl,rx⟩:=vals1 r;cases rx;obtain⟨au,rv,pl,hsz⟩:=I.list hq;obtain⟨o,n,ho,IP,hd,mJ⟩:=pl;have İ:∀(zs:O Pz) (au:O db),(∀z∈zs,z.At H)->Vals (zs.map λz=>V.ref z.pa) au->∃ys:O (O Key×f8×db),ys.map (·.1)=zs.map (·.k)/\KT H (zs.map λz=>(z.k,z.v)) ys/\
   ∀(j:Nat) (x:O Key×f8×db),ys[j]?=am x->∃(pa:f8) (op:Obj) (m:Nat),au[j]?=am (Ay pa)/\s.heap.get? pa=am op/\op.cls=.type "tuple"/\op.data=.seq #[Ay x.2.1,x.2.2] m/\(t0 (cW X.prog X.w)).is s.heap x.1 x.2.1:=by
  intro zs
  induction zs with
  | nil=>intro au _ _;exact⟨[],rfl,.nil,λj x h=>by simp at h⟩
  | cons z zs ih=>
   intro au ha hv;cases hv with
   | @cons _ u _ us ru rus=>
   cases ru;obtain⟨ys,e1,e2,e3⟩:=ih us (λy hy=>ha y (AN _ hy)) rus;obtain⟨a1,a2⟩:=ha z Bt;obtain⟨_,its',r',op,h1,h2,m,h3⟩:=(show bh X.prog X.w H s.heap z.pa (.tup [.ref z.b,z.v]) from I.a8 _ _ a1);obtain⟨w,rfl,zP⟩:∃w,its'=[Ay z.b,w]/\RelV z.v w:=by
    cases r' with
    | cons q1 q2=>cases q1;cases q2 with
     | cons q3 q4=>cases q4;exact⟨_,rfl,q3⟩
   refine⟨(z.k,z.b,w)::ys,by rw[Ar,Ar,e1],.cons ⟨rfl,a2,zP⟩ e2,λj x hj=>?_⟩;cases j with
   | zero=>
    cases hj;exact⟨z.pa,op,m,rfl,h1,h2,h3,Mt I.a8 a2⟩
   | succ j=>exact e3 j x hj
 obtain⟨ys,e1,e2,e3⟩:=İ zs au hz rv;have À:=rv.length;rw[Ah]at À;have ĺ:ys.length=zs.length:=by have:=congrArg Ca e1;simpa using this
 have hs:(1000:Nat)+1000<=sizeLine:=by decide
 refine ux (knd:=cW X.prog X.w) (items:=au.toArray) (ys:=ys) (I.ok.hd hc) hu ho IP mJ hd (by rw[Aj];omega) (by rw[Aj];omega) (λj x hj=>?_) (λh' tk kp dd=>?_)
 ·obtain⟨pa,op,m,g1,g2⟩:=e3 j x hj;exact⟨pa,op,m,by rw[FC];exact g1,g2⟩
 ·rw[tG ys [] (by rw[C0,e1];exact hn),C0]at dd;obtain⟨od,es,ep,Wv,h2,h3,h4,_,h5⟩:=dd;have akh:=beq_eq_false_iff_ne.mpr (BU (AA I.big));have fr:=I.a8.fresh (Ak s.heap.objs.size);refine⟨.ref s.heap.objs.size,_,I.laid (t':=tk) kp (Ak _) (show bh X.prog X.w (upd H s.heap.objs.size (.dT (zs.map λz=>(z.k,z.v)))) h' _ (.dT _) from⟨?_,akh,ys,?_,od,es,ep,Wv,h2,h3,h4,h5⟩),rfl,q.at _ fr⟩
  ·rw[Ah];exact BG hl ⋯
  ·refine e2.keeps λc xs ec=>?_;rw[aq (λz=>by subst z;rw[fr]at ec;cases ec)];exact ec
end
end L2
variable{i ep:Nat}{es:Array PySem.DictEntry}
namespace L2
section
def Zv(h:sw)(d:f8)(es:Array DictEntry)(ep:Nat):Prop:=∃o,h.get? d=am o/\o.ExactDict/\o.data=.dict es ep
theorem Ua{Q:Option db->ii->Prop}(Ô:s.heap.IsKeyIter it d i es.size ep)(hm:Zv s.heap d es ep)(hi:i < es.size)
  (q:∀h',h'.IsKeyIter it d (i+1) es.size ep->Cn it s.heap h'->Q (am es[i].key) {s with heap:=h'}):im (lc prog w) A (pyNext (.ref it)) Q E s:=by
 have ty:=Ô.typeIs;obtain⟨o,ho,hc,hd⟩:=id Ô;obtain⟨od,YK,-,ã⟩:=hm;have agb:(s.heap.update it (Obj.mapFields (·.setIfInBounds 1 (sn ((i:Int)+1))))).IsKeyIter it d (i+1) es.size ep:=⟨_,BV _ ho (Fx (Dq hd _)),(Obj.cls_mapFields ..).trans hc,by rw[Dq hd];simp[sn]⟩;refine Aa (Dl (A4 (name:=B7 "__next__") ty BX (Bd BX ty D1 ?_ (DS _))));refine Aa (Af (Aa (Aa ?_)))
 first | refine Aa (Cg ty (Af ?_)) | refine Aa (CH ty (Af ?_))
 refine Aa (wpAny_fieldsOf ho hd ?_);show im _ _ (if (Ay d==AY)=true then _ else _) _ _ s;rw[if_neg (λz:(Ay d==AY)=true=>Bg z)];refine Aa (Af (Aa (EJ YK ã ?_)));rw[if_neg (by simp)];refine Aa (Af (Aa (Fs YK ã ?_)));rw[if_neg (by simp)];refine Af ?_;have i0:¬((i:Int) < 0):=by omega
 simp only[i0,if_false,BH,Dh hi];refine Aa ?_
 first | refine Aa (Cg ty (Af ?_)) | refine Aa (CH ty (Af ?_))
 refine Aa (wpAny_isOneOf_keyiter ty ?_);show im _ _ (Fk (.ref it) 1 (sn ((i:Int)+1)) >>= _) _ _ s;refine Aa (Es ho hd (by simp) (Aa (Bl (Aa (wpAny_isOneOf_keyiter (s:={s with heap:=s.heap.update it (Obj.mapFields (·.setIfInBounds 1 (sn ((i:Int)+1))))}) agb.typeIs ?_)))));exact Af (Af ⟨_,rfl,Af (q _ agb (Cn.update ..))⟩)
theorem Y2{Q:Option db->ii->Prop}(hh:A.handled=ce)(Ô:s.heap.IsKeyIter it d i es.size ep)(hm:Zv s.heap d es ep)(hi:es.size<=i)
  (q:∀h',Gk it s.heap h'->Q ce {s with heap:=h'}):im (lc prog w) A (pyNext (.ref it)) Q E s:=by
 have ty:=Ô.typeIs;obtain⟨o,ho,hc,hd⟩:=id Ô;obtain⟨od,YK,-,ã⟩:=hm;refine Aa (Dl (A4 (name:=B7 "__next__") ty BX (Bd BX ty D1 ?_ (DS _))));refine Aa (Af (Aa (Aa ?_)))
 first | refine Aa (Cg ty (Af ?_)) | refine Aa (CH ty (Af ?_))
 refine Aa (wpAny_fieldsOf ho hd ?_);show im _ _ (if (Ay d==AY)=true then _ else _) _ _ s;rw[if_neg (λz:(Ay d==AY)=true=>Bg z)];refine Aa (Af (Aa (EJ YK ã ?_)));rw[if_neg (by simp)];refine Aa (Af (Aa (Fs YK ã ?_)));rw[if_neg (by simp)];refine Af ?_;have i0:¬((i:Int) < 0):=by omega
 simp only[i0,if_false,BH,Fj hi];refine Aa ?_
 first | refine Aa (Cg ty (Af ?_)) | refine Aa (CH ty (Af ?_))
 show im _ _ (Fk (.ref it) 0 .none >>= _) _ _ s;refine Aa (Es ho hd (by simp) ?_);refine Aa ?_;refine Aa (AJ (Aa (m:=firstArgMember _ _) (CS (a:=AY) (by first | rfl | (simp only[firstArgMember];rfl)) (AJ ?_ (by size_fits)))) (by size_fits));unfold raiseNew;refine Aa (wpAny_handled ?_);rw[show A.in1.handled=ce from hh];refine Aa (Af (wpAny_throw ?_));refine Aa (DU (T:="StopIteration") (b:=true) ⟨_,Ao _ rfl,rfl⟩ isSubtype_stop ?_);exact Af (q _ (((Cn.update ..).extBut.push _).push _))
def UL(hs:(d==IR)=false)(hm:Zv s.heap d es ep)
  (q:Q (.ref s.heap.objs.size) {s with heap:=s.heap.push {cls:=.type "dict_keyiterator",data:=.fields #[.ref d,.int 0 0,.int es.size 0,.int ep 0]}}):im (lc prog w) A (pyIter (.ref d)) Q E s:=by
 obtain⟨od,YK,hx,ã⟩:=hm;have ty:s.TypeIs (.ref d) "dict":=⟨_,YK,hx.1⟩;refine wpAny_pyIter_slot ty F.slot_dict_iter (Bd F.slot_dict_iter ty F.entry_dict_iter ?_ (F.args_dict_iter_1 _));refine Aa ?_;refine Aa (wpAny_notOrdered_dict ty ?_);refine Af ?_;show im _ _ (Builtin.Dict.showsAll d >>= _) _ _ s;unfold Builtin.Dict.showsAll;rw[if_neg (by rw[hs];exact Bg)];refine Aa (Af (Aa (EJ YK ã (Aa (Fs YK ã ?_)))));exact Aa (AJ (Af ⟨_,rfl,"dict_keyiterator",_,⟨_,Ao _ rfl,rfl⟩,BX.lookup,q⟩))
end
end L2
variable{u:L2.HO}
namespace L2
section
def Inv.freeze(I:Inv X Z σ H s)(e:H a=am (.dT kvs)):∃o,Inv X Z σ (upd H a (.bN o (.dT kvs))) s:=by
 obtain⟨z,hs,xs,r,o,es,ep,h1,h2,h3,h4,h5⟩:=(show bh X.prog X.w H s.heap a (.dT kvs) from I.a8 a _ e);refine⟨o,?_⟩;have q:=I.write (x:=a) (e:=a) (o:=.bN o (.dT kvs)) (h':=s.heap) (t':=s.toks) (by rw[e];exact Cj) (.inl rfl) (λb u _ z=>z) ⟨o,h1⟩
  ⟨h1,z,hs,xs,KT.keeps r λb ys eb=>by rw[aq (Uc eb e (λz=>nomatch z))];exact eb,o,es,ep,h1,h2,h3,h4,h5⟩
 exact q
def Inv.aaX(I:Inv X Z σ H s)(e:H a=am (.bN o u))(h0:∀o u,X.H₀ a≠am (.bN o u))(hu:bh X.prog X.w (upd H a u) s.heap a u)(a8:mU X.prog X.w (upd H a u) s.heap):Inv X Z σ (upd H a u) s:=by
 have ne:∀b v,H b=v->v≠am (.bN o u)->b≠a:=λb v q n z=>by subst z;exact n (q.symm.trans e)
 refine⟨I.ok,I.os,I.bare,⟨I.base.keep,I.base.slot,λb ob q n hx=>?_,I.base.there,λb xs q=>?_,λb ob xs q=>?_,λb ps q=>?_⟩,I.loc,I.cell,?_,λx c q=>?_,λp hp=>?_,a8,I.len⟩
 ·have:=I.base.free b ob q n hx;rw[aq (ne b _ this (by simp))];exact this
 ·have:=I.base.dM b xs q;rw[aq (ne b _ this (by simp))];exact this
 ·have:=I.base.vV b ob xs q;have hb:b≠a:=λz=>by subst z;exact h0 _ _ q
  rw[aq hb];exact this
 ·obtain⟨m,this⟩:=I.base.xj b ps q;exact⟨m,by rw[aq (ne b _ this (by simp))];exact this⟩
 ·rw[aq (ne _ _ I.free (by simp))];exact I.free
 ·rw[aq (ne _ _ (I.kD x c q) (by simp))];exact I.kD x c q
 ·obtain⟨p1,p2,p3⟩:=I.pin p hp;exact⟨p1,by rw[aq (ne _ _ p2 (by simp))];exact p2,p3⟩
def UZ(ok:mU P w H h)(e:H a=am (.bN o u)):mU P w (upd H a u) h:=λb u' q=>by
 have ne:∀c v,H c=am v->v≠.bN o u->upd H a u c=am v:=λc v z n=>by
  rw[aq (λy=>by subst y;rw[e]at z;cases z;exact n rfl)];exact z
 by_cases hb:b=a
 ·subst hb;rw[aD]at q;cases q;exact bh.xk (ok b _ e).2 (λ_ _ _ z=>z) (λc z=>ne c _ z (by simp)) λc xs z=>ne c _ z (by simp)
 ·rw[aq hb]at q;exact bh.xk (ok b _ q) (λ_ _ _ z=>z) (λc z=>ne c _ z (by simp)) λc xs z=>ne c _ z (by simp)
end
def ahe(a:f8)(o:Obj):It:=
 ⟨λi H=>∃kvs,H a=am (.bN o (.dT kvs))/\i < kvs.length,λi H x H'=>H'=H/\∀kvs,H a=am (.bN o (.dT kvs))->∃b k v,x=.ref b/\kvs[i]?=am (k,v)/\H b=am (.tup (k.map kV)),λi H=>∃kvs,H a=am (.bN o (.dT kvs))/\kvs.length<=i⟩
theorem Vc(x:bh P w H h a (.bN o (.dT kvs)))(hd:o.data=.dict es ep) :
  Zv h a es ep/\es.size=kvs.length/\∀(i:Nat) (hi:i < es.size),∃b k v,es[i].key=.ref b/\kvs[i]?=am (k,v)/\H b=am (.tup (k.map kV)):=by
 obtain⟨e,z,hs,xs,r,o',ł,Ń,h1,h2,h3,h4,h5⟩:=x;rw[e]at h1;cases h1;rw[hd]at h3;cases h3;have hl:es.size=xs.length:=by have:=congrArg Ca h4;simpa using this
 refine⟨⟨o,e,h2,hd⟩,hl.trans (Paired.length r).symm,λi hi=>?_⟩;have hx:xs[i]?=am (xs[i]'∅):=Ad _;have pg:∀{l:O (O Key×V)}{m:O (O Key×f8×db)}{i:Nat}{q:O Key×f8×db},KT H l m->m[i]?=am q->∃v,l[i]?=am (q.1,v)/\H q.2.1=am (.tup (q.1.map kV)):=by
  intro l m i q t
  induction t generalizing i with
  | nil=>intro h;simp at h
  | @cons p q' ps qs hq t ih=>
   intro h;cases i with
   | zero=>
    cases h;obtain⟨p1,p2⟩:=p;have e1:=hq.1;subst e1;exact⟨p2,rfl,hq.2.1⟩
   | succ i=>exact ih (by simpa using h)
 obtain⟨v,g1,g2⟩:=pg r hx;refine⟨_,_,v,?_,g1,g2⟩;have:es[i]=entryOfKey (t0 (cW P w)) (xs[i]'∅):=by
  have h6:es.toList[i]?=am (entryOfKey (t0 (cW P w)) (xs[i]'∅)):=by rw[h4,Ai,hx];rfl
  rw[DN,Dh hi]at h6;exact Option.some.inj h6
 rw[this];rfl
theorem P5{K:Ab}(a it:f8)(o:Obj)(hd:o.data=.dict es ep):Turn P w K tg (ahe a o) [it] it (λi h=>h.IsKeyIter it a i es.size ep) where
 mem:=by simp
 obj:=λi h st b hb=>by
  have e:b=it:=by simpa using hb
  subst e;obtain⟨o,e,c,d⟩:=st;exact⟨o,e,λv z=>by rw[d]at z;cases z⟩
 keep:=λi h h' st k=>st.at λo e=>k it (by simp) o e
 item:=by
  intro X hP hw hK hc i Z s σ H E I hf st hg;subst hP hw hK;obtain⟨kvs,hq,hx⟩:=hg;obtain⟨Ŏ,hl,ky⟩:=Vc (I.a8 a _ hq) hd;obtain⟨b,k,v,k1,k2,k3⟩:=ky i ∅;obtain⟨f0,f1,f2,f3,f4,f5⟩:=hf it (by simp);refine Ua st Ŏ ∅ λh' uB sb=>?_;have I1:Inv X Z σ H {s with heap:=h'}:=I.turned (t':=s.toks) (λb o hb e=>(sb.2 b hb).trans e) f0 f1 f3 f4 f5;obtain⟨oi,e,c,d⟩:=id uB;refine⟨_,rfl,Ki (s:={s with heap:=h'}) e c d ⋯ ⟨.ref b,H,I1,k1,⟨rfl,λan2 Wv=>?_⟩,uB,λb hb=>(hf b hb).1⟩⟩;rw[hq]at Wv;cases Wv;exact⟨b,k,v,rfl,k2,k3⟩
 done:=by
  intro X hP hw hK hc i Z s σ H E I hf st hg;obtain⟨kvs,hq,hx⟩:=hg;obtain⟨Ŏ,hl,ky⟩:=Vc (I.a8 a _ hq) hd;obtain⟨f0,f1,f2,f3,f4,f5⟩:=hf it (by simp);exact Y2 (I.ok.hd hc) st Ŏ ∅ λh' eb=>⟨rfl,I.turned (t':=s.toks) (λb o hb e=>eb b o hb e) f0 f1 f3 f4 f5⟩
 self:=λ_ _ _ _ _ st h=>wpAny_pyIter_keyiter st h
def acn(tl:TE):TI:=λσ H R=>tl σ H λx H1=>∃a o kvs,x=.ref a/\H1 a=am (.bN o (.dT kvs))/\R (ahe a o) H1
def Tx{l:r9}(hl:PE X l tl):PI X tg l (acn tl):=by
 intro Z s σ H R I h;refine bV (hl Z s σ H _ I h) λv s1 ⟨x,H1,I1,r1,q1⟩=>?_;obtain⟨a,o,kvs,e,hq,q⟩:=q1;subst e;cases r1;obtain⟨eo,z,hs,xs,r,o',es,ep,h1,h2,h3,h4,h5⟩:=(show bh X.prog X.w H1 s1.heap a (.bN o (.dT kvs)) from I1.a8 a _ hq);rw[eo]at h1;cases h1;refine UL hs ⟨o,eo,h2,h3⟩ ?_;refine⟨s1.heap.objs.size,[s1.heap.objs.size],_,_,H1,rfl,I1.kept (t':=s1.toks) λb o e=>Ag _ e,P5 a _ o h3,⟨_,Ao _ rfl,rfl,rfl⟩,λb hb=>?_,q⟩;have e:b=s1.heap.objs.size:=by simpa using hb
 subst e;exact I1.xT (Ak _) (I1.a8.fresh (Ak _))
end L2
variable{o:L2.HO}{j:Nat}{v:PL.PV}{ws:O (Bz×L2.V)}{fz:O (Bm×FY)}{φ:O L2.V->Prop}
noncomputable section
namespace FL
section
variable{K:Ab}
structure W(α:Type) where
 run:(α->Prop)->Prop
 mono:∀{Q Q':α->Prop},(∀a,Q a->Q' a)->run Q->run Q'
namespace W
variable{α β γ:Type}
def ext'{a b:W α}(h:∀Q,a.run Q↔b.run Q):a=b:=by
 cases a;cases b;congr;funext Q;exact propext (h Q)
noncomputable def ret(a:α):W α:=⟨λQ=>Q a,λh q=>h _ q⟩
noncomputable def bind(w:W α)(k:α->W β):W β:=⟨λQ=>w.run λa=>(k a).run Q,λh q=>w.mono (λa q=>(k a).mono h q) q⟩
def fail:W α:=⟨λ_=>False,λ_ q=>q⟩
def e6(p:Prop)(w:W α):W α:=⟨λQ=>p/\w.run Q,λh q=>⟨q.1,w.mono h q.2⟩⟩
def any(p:α->Prop):W α:=⟨λQ=>∀a,p a->Q a,λh q a pa=>h a (q a pa)⟩
def OE:Option α->W α
 | some a=>ret a
 | none=>fail
@[simp] theorem aa(a:α)(k:α->W β):bind (ret a) k=k a:=(rfl)
@[simp] theorem bind_assoc(w:W α)(f:α->W β)(g:β->W γ):bind (bind w f) g=bind w λa=>bind (f a) g:=(rfl)
@[simp] theorem ag5(w:W α):bind w ret=w:=(rfl)
@[simp] theorem ad0(k:α->W β):bind fail k=fail:=(rfl)
@[simp] theorem ag(a:α)(Q:α->Prop):(ret a).run Q=Q a:=(rfl)
@[simp] theorem run_bind(w:W α)(k:α->W β)(Q:β->Prop):(bind w k).run Q=w.run λa=>(k a).run Q:=(rfl)
@[simp] theorem aeM(Q:α->Prop):(fail:W α).run Q=False:=(rfl)
@[simp] theorem ahu(p Q:α->Prop):(any p).run Q=∀a,p a->Q a:=(rfl)
@[simp] theorem Xg(p:Prop)(w:W α)(Q:α->Prop):(e6 p w).run Q=(p/\w.run Q):=(rfl)
@[simp] theorem VZ(p:Prop)(w:W α)(k:α->W β):bind (e6 p w) k=e6 p (bind w k):=(rfl)
def ao{p:Prop}{w:W α}(h:p):e6 p w=w:=ext' λQ=>⟨λq=>q.2,λq=>⟨h,q⟩⟩
@[simp] theorem ag1{w:W α}:e6 True w=w:=ao trivial
@[simp] theorem aO(a:α):OE (am a)=ret a:=(rfl)
@[simp] theorem afn:OE (ce:Option α)=fail:=(rfl)
end W
inductive FD where
 | v (p:PV) | o (b:f8) (l:List PV)
def iH:O (Str×FD)->O f8
 | []=>[]
 | (_,.v _)::l=>iH l
 | (_,.o b _)::l=>b::iH l
inductive oB(K:Ab)(H:Hp):List (Str×V)->List (Str×FD)->Prop
 | nil:oB K H [] []
 | v {n:Str}{u:V}{p:PV}{ws:List (Str×V)}{fd:List (Str×FD)} (r:VR K [] H u p) (t:oB K H ws fd):oB K H ((n,u)::ws) ((n,.v p)::fd)
 | o {n:Str}{b:f8}{vs:List V}{l:List PV}{ws:List (Str×V)}{fd:List (Str×FD)} (e:H b=am (.lst vs)) (r:aG K [] H vs l) (t:oB K H ws fd):oB K H ((n,.ref b)::ws) ((n,.o b l)::fd)
inductive SL where
 | val (v:PV) | adr (b:f8) (us:List V) (ps:List PV) (fz:List (f8×Obj)) | ol (q:Option f8) (l:List PV) | oll (bs:List f8) (ls:List (List PV)) | od (kvs:List (Key×PV)) | ot (kvs:List (List Key×PV)) | oW (φ:List V->Prop) | ob (q C:f8) (fd:List (Str×FD))
abbrev br:=O (Option SL)
def PK(H:Hp)(fz:O (f8×Obj)):Prop:=∀p∈fz,∃u,H p.1=am (.bN p.2 u)
def PK.tk(h:PK H fz)(t:a9 K H H'):PK H' fz:=λp hp=>let ⟨u,e⟩:=h p hp;⟨u,t.z _ _ _ e⟩
def _root_.L2.HO.nt:HO->Bool
 | .tZ _=>false
 | _=>true
def _root_.L2.HO.ow:HO->Bool
 | .lst _=>true
 | .dK _=>true
 | .dT _=>true
 | .ins _ _ _=>true
 | _=>false
def TY(h:o.ow=true):o.nt=true:=by cases o <;> first | rfl | cases h
def aff{ob:Obj}(k:bh P w H h a o)(e:h.get? a=am ob)(ho:o.ow=true)(vs:Array db):ob.data≠.fields vs:=by
 cases o with
 | lst xs=>obtain⟨_,_,_,_,q⟩:=k;rw[e]at q;cases q;nofun
 | dK xs=>obtain⟨_,_,_,_,o,_,_,q,_,q2,_⟩:=k;rw[e]at q;cases q;rw[q2];nofun
 | dT xs=>obtain⟨_,_,_,_,o,_,_,q,_,q2,_⟩:=k;rw[e]at q;cases q;rw[q2];nofun
 | ins C dx fs=>obtain⟨_,_,_,q,_⟩:=k;rw[e]at q;cases q;nofun
 | _=>cases ho
class bU where
 ts:List (f8×Str)
def FzC(H:Hp)(c:db)(q:Str):Prop:=∃a o u vs t,c=.ref a/\H a=am (.bN o u)/\o.data=.fields vs/\vs[1]?=am (.str q t)
variable[bU]
def TB(H:Hp):Prop:=∀p∈bU.ts,∃ps,H p.1=am (.tZ ps)/\TriplesOk ps.toList/\∀pos c,PP pos ps.toList=am c->FzC H c p.2
def TB.mono(h:TB H)(h1:∀a ps,H a=am (.tZ ps)->H' a=am (.tZ ps))(h2:∀a o u vs,H a=am (.bN o u)->o.data=.fields vs->∃u,H' a=am (.bN o u)):TB H':=λp hp=>by
 obtain⟨ps,e,q,k⟩:=h p hp;refine⟨ps,h1 _ _ e,q,λpos c z=>?_⟩;obtain⟨a,o,u,vs,t,e1,e2,e3,e4⟩:=k pos c z;obtain⟨u',e5⟩:=h2 a o u vs e2 e3;exact⟨a,o,u',vs,t,e1,e5,e3,e4⟩
def TB.same(h:TB H)(s:i5 H H'):TB H':=h.mono (λa _ z=>s a _ z) λa _ _ _ z _=>⟨_,s a _ z⟩
def TB.aaX{ob:Obj}(t:TB H)(k:mU P w H h)(e:H a=am (.bN ob o))(ho:o.ow=true):TB (upd H a o):=
 t.mono (λb _ z=>by rw[aq (λy=>by subst y;rw[e]at z;cases z)];exact z) λb o' u vs z d=>⟨u,by
  rw[aq (λy=>by subst y;rw[e]at z;cases z;exact aff (k b _ e).2 (k b _ e).1 ho vs d)];exact z⟩
def TB.yt{ob:HO}(h:TB H)(s:kI a H H')(e:H a=am ob)(n1:ob.nt=true)(n2:∀o u,ob≠.bN o u):TB H':=
 h.mono (λb _ z=>s b _ (λy=>by subst y;rw[e]at z;cases z;cases n1) z) λb _ _ _ z _=>⟨_,s b _ (λy=>by subst y;rw[e]at z;cases z;exact n2 _ _ rfl) z⟩
def SL.own:SL->Bool
 | .val _=>false
 | .adr _ _ _ _=>false
 | _=>true
def SL.inn:SL->O f8
 | .oll bs _=>bs
 | .ob _ _ fd=>iH fd
 | _=>[]
def SL.has(s:SL)(x a:f8):Prop:=a=x\/a∈s.inn
def jN(K:Ab)(H:Hp)(a:f8):SL->Prop
 | .val _=>False
 | .adr b us ps fz=>a=b/\aG K [] H us ps/\PK H fz
 | .oll bs ls=>H a=am (.lst (bs.map V.ref))/\a∉bs/\bs.Nodup/\bs.length=ls.length/\∀(j:Nat) (b:f8) (l:O PV),bs[j]?=am b->ls[j]?=am l->∃ws,H b=am (.lst ws)/\aG K [] H ws l
 | .ol q l=>(∀b,q=am b->a=b)/\∃vs,H a=am (.lst vs)/\aG K [] H vs l
 | .od kvs=>∃vs:O (Key×V),H a=am (.dK vs)/\vs.map (·.1)=kvs.map (·.1)/\aG K [] H (vs.map (·.2)) (kvs.map (·.2))
 | .ot kvs=>∃vs:O (O Key×V),H a=am (.dT vs)/\vs.map (·.1)=kvs.map (·.1)/\aG K [] H (vs.map (·.2)) (kvs.map (·.2))
 | .oW φ=>∃vs,H a=am (.lst vs)/\φ vs
 | .ob q C fd=>a=q/\RQ K C/\(∀p∈fd,fC K C p.1)/\a∉iH fd/\(iH fd).Nodup/\∃dx ws,H a=am (.ins C dx ws)/\oB K H ws fd
def zj(K:Ab)(H:Hp)(u:V)(s:SL):Prop:=(∃v,s=.val v/\VR K [] H u v)\/∃a,u=.ref a/\jN K H a s
def dc(σ:L2.St)(fs:br)(a:f8):Prop:=∃(i:Nat) (s:SL) (x:f8),fs[i]?=am (am s)/\s.own=true/\σ[i]?=am (am (.ref x))/\s.has x a
def i6(σ:L2.St)(fs:br)(φ:O V->Prop)(a:f8):Prop:=∃i:Nat,fs[i]?=am (am (.oW φ))/\σ[i]?=am (am (.ref a))
structure aU(K:Ab)(H:Hp)(σ:L2.St)(fs:br):Prop where
 len:σ.length=fs.length
 at':∀(i:Nat) (s:SL),fs[i]?=am (am s)->∃u,σ[i]?=am (am u)/\zj K H u s
 nd:∀(i j:Nat) (s t:SL) (x y a:f8),fs[i]?=am (am s)->fs[j]?=am (am t)->s.own=true->t.own=true->σ[i]?=am (am (.ref x))->σ[j]?=am (am (.ref y))->s.has x a->t.has y a->i=j
 tb:TB H
structure c6(σ:L2.St)(fs:br)(H:Hp)(σ':L2.St)(bL:br)(H':Hp):Prop where
 keep:∀a o,H a=am o->¬dc σ fs a->(o.nt=true->H' a=am o)/\¬dc σ' bL a
 there:∀a,H' a=ce->H a=ce
 pk:∀a φ,i6 σ fs φ a->i6 σ' bL φ a\/(¬dc σ' bL a/\∃vs,H' a=am (.lst vs)/\φ vs)
structure de(σ:L2.St)(fs:br)(H H':Hp):Prop where
 keep:∀a o,H a=am o->(∀φ,¬i6 σ fs φ a)->(nt:‹o.nt=true›)->H' a=am o
 there:∀a,H' a=ce->H a=ce
section
variable{σ σ' σ1 σ2:L2.St}{fs bL Vd dh:br}{H H' H1 H2:Hp}
def i6.Fl(p:i6 σ fs φ a):dc σ fs a:=let ⟨i,e1,e2⟩:=p;⟨i,_,_,e1,rfl,e2,.inl rfl⟩
def de.refl:de σ fs H H:=⟨λ_ _ h _ _=>h,λ_ h=>h⟩
def de.trans(a:de σ fs H H1)(b:de σ fs H1 H2):de σ fs H H2:=⟨λx o h n t=>b.keep x o (a.keep x o h n t) n t,λx h=>a.there x (b.there x h)⟩
def de.f(g:de σ fs H H'):c6 σ fs H σ fs H':=⟨λa o h n=>⟨λt=>g.keep a o h (λφ p=>n p.Fl) t,n⟩,g.there,λa φ p=>.inl p⟩
def de.yK(g:de σ fs H H')(h:H a=am o)(n:¬dc σ fs a)(t:‹o.nt=true›):H' a=am o:=g.keep a o h (λφ p=>n p.Fl) t
def de.same(h:i5 H H'):de σ fs H H':=⟨λa o e _ _=>h a o e,λa e=>(by
 cases z:H a with
 | none=>rfl
 | some o=>rw[h a o z]at e;cases e)⟩
def oB.ex{fd:O (Str×FD)}(h:oB K H ws fd){c:f8}(hc:c∈iH fd):∃vs,H c=am (.lst vs):=by
 induction h with
 | nil=>cases hc
 | v r t ih=>exact ih hc
 | @o n b vs l ws fd e r t ih=>
  rcases Aw.mp (show c∈b::iH fd from hc) with rfl | hc
  ·exact⟨vs,e⟩
  ·exact ih hc
def jN.ex{c:f8}{s:SL}(h:jN K H a s)(ho:s.own=true)(hc:s.has a c):∃o,H c=am o/\(∀vs,o≠.tup vs)/\(∀ob u,o≠.bN ob u)/\o.ow=true:=by
 cases s with
 | val _=>exact h.elim
 | adr _ _ _ _=>cases ho
 | ol q l=>obtain⟨_,vs,e,_⟩:=h;rcases hc with rfl | hc;exact⟨_,e,by simp,by simp,rfl⟩;cases hc
 | oll bs ls=>
  obtain⟨e,_,_,hl,hb⟩:=h;rcases hc with rfl | hc
  ·exact⟨_,e,by simp,by simp,rfl⟩
  ·obtain⟨j,hj⟩:=B4 (show c∈bs from hc);have h1:=(Am.mp hj).1;obtain⟨ws,e,_⟩:=hb j c _ hj (Ad (by rw[<- hl];exact h1));exact⟨_,e,by simp,by simp,rfl⟩
 | od l=>obtain⟨vs,e,_⟩:=h;rcases hc with rfl | hc;exact⟨_,e,by simp,by simp,rfl⟩;cases hc
 | ot l=>obtain⟨vs,e,_⟩:=h;rcases hc with rfl | hc;exact⟨_,e,by simp,by simp,rfl⟩;cases hc
 | oW l=>obtain⟨vs,e,_⟩:=h;rcases hc with rfl | hc;exact⟨_,e,by simp,by simp,rfl⟩;cases hc
 | ob q C fd=>
  obtain⟨_,_,_,_,_,dx,ws,e,r⟩:=h;rcases hc with rfl | hc
  ·exact⟨_,e,by simp,by simp,rfl⟩
  ·obtain⟨vs,e⟩:=r.ex hc;exact⟨_,e,by simp,by simp,rfl⟩
def aU.ownAt(s:aU K H σ fs){t:SL}(h1:fs[i]?=am (am t))(h2:t.own=true)(h3:σ[i]?=am (am (.ref a))):jN K H a t:=by
 obtain⟨u,e,r⟩:=s.at' i t h1;rw[h3]at e;cases e;rcases r with⟨v,rfl,_⟩ | ⟨b,e,r⟩
 ·cases h2
 ·cases e;exact r
def aU.Fl(s:aU K H σ fs)(h:dc σ fs a):∃o,H a=am o/\(∀vs,o≠.tup vs)/\(∀ob u,o≠.bN ob u)/\o.ow=true:=by
 obtain⟨i,t,x,h1,h2,h3,h4⟩:=h;exact(s.ownAt h1 h2 h3).ex h2 h4
def aU.noOwn(s:aU K H σ fs)(h:H a=ce):¬dc σ fs a:=λz=>by
 obtain⟨o,e,_⟩:=s.Fl z;rw[h]at e;cases e
def aU.abP(s:aU K H σ fs)(h:H a=am (.tup vs)):¬dc σ fs a:=λz=>by
 obtain⟨o,e,n,_⟩:=s.Fl z;rw[h]at e;cases e;exact n vs rfl
def aU.abQ(s:aU K H σ fs){ob:Obj}(h:H a=am (.bN ob u)):¬dc σ fs a:=λz=>by
 obtain⟨o,e,_,n,_⟩:=s.Fl z;rw[h]at e;cases e;exact n ob u rfl
def c6.refl:c6 σ fs H σ fs H:=⟨λ_ _ h n=>⟨λ_=>h,n⟩,λ_ h=>h,λ_ _ h=>.inl h⟩
def c6.X9(a:c6 σ fs H σ1 Vd H1)(b:c6 σ1 Vd H1 σ2 dh H2){x:f8}(h:H x=am o)(n:¬dc σ fs x):¬dc σ2 dh x:=by
 have n1:=(a.keep x o h n).2;cases z:H1 x with
 | none=>rw[a.there x z]at h;cases h
 | some o1=>exact(b.keep x o1 z n1).2
def c6.trans(a:c6 σ fs H σ1 Vd H1)(b:c6 σ1 Vd H1 σ2 dh H2):c6 σ fs H σ2 dh H2:=
 ⟨λx o h n=>⟨λt=>let ⟨h1,n1⟩:=a.keep x o h n;(b.keep x o (h1 t) n1).1 t,a.X9 b h n⟩,λx h=>a.there x (b.there x h),λx φ h=>(a.pk x φ h).elim (b.pk x φ) λ⟨n,vs,e,p⟩=>.inr (let ⟨h1,n1⟩:=b.keep x _ e n;⟨n1,vs,h1 rfl,p⟩)⟩
def c6.dM(g:c6 σ fs H σ' bL H')(s:aU K H σ fs):a9 K H H':=
 ⟨λa vs h=>(g.keep a _ h (s.abP h)).1 rfl,λa o u h=>(g.keep a _ h (s.abQ h)).1 rfl⟩
def VR.tk{u:V}(t:a9 K H H')(r:VR K [] H u v):VR K [] H' u v:=r.mono t λ_ _ e=>e
def aG.tk{u:O V}{v:O PV}(t:a9 K H H')(r:aG K [] H u v):aG K [] H' u v:=r.mono t λ_ _ e=>e
def c6.vr(g:c6 σ fs H σ' bL H')(s:aU K H σ fs){u:V}(r:VR K [] H u v):VR K [] H' u v:=VR.tk (g.dM s) r
def de.dM(g:de σ fs H H')(s:aU K H σ fs):a9 K H H':=g.f.dM s
def de.vr(g:de σ fs H H')(s:aU K H σ fs){u:V}(r:VR K [] H u v):VR K [] H' u v:=VR.tk (g.dM s) r
def de.Sg(g:de σ fs H H')(s:aU K H σ fs){u:O V}{v:O PV}(r:aG K [] H u v):aG K [] H' u v:=aG.tk (g.dM s) r
def oB.mono{fd:O (Str×FD)}(t:a9 K H H')(h:oB K H ws fd)(e:∀c vs,c∈iH fd->H c=am (.lst vs)->H' c=am (.lst vs)):oB K H' ws fd:=by
 induction h with
 | nil=>exact .nil
 | v r _ ih=>exact .v (VR.tk t r) (ih e)
 | @o n b vs l ws fd q r _ ih=>exact .o (e b vs (.head _) q) (aG.tk t r) (ih λc vs hc=>e c vs (.tail _ hc))
def jN.mono{s:SL}(t:a9 K H H')(e:∀c o,s.own=true->s.has a c->H c=am o->o.nt=true->H' c=am o)(h:jN K H a s):jN K H' a s:=by
 cases s with
 | val _=>exact h
 | adr _ _ _ _=>exact⟨h.1,aG.tk t h.2.1,h.2.2.tk t⟩
 | ol _ l=>obtain⟨z,vs,q,r⟩:=h;exact⟨z,vs,e _ _ rfl (.inl rfl) q rfl,aG.tk t r⟩
 | oll bs ls=>
  obtain⟨z,h1,h2,h3,h4⟩:=h;refine⟨e _ _ rfl (.inl rfl) z rfl,h1,h2,h3,λj b l hb hl=>?_⟩;obtain⟨ws,q,r⟩:=h4 j b l hb hl;exact⟨ws,e _ _ rfl (.inr (AM hb)) q rfl,aG.tk t r⟩
 | od l=>obtain⟨vs,q,k,r⟩:=h;exact⟨vs,e _ _ rfl (.inl rfl) q rfl,k,aG.tk t r⟩
 | ot l=>obtain⟨vs,q,k,r⟩:=h;exact⟨vs,e _ _ rfl (.inl rfl) q rfl,k,aG.tk t r⟩
 | oW φ=>obtain⟨vs,q,k⟩:=h;exact⟨vs,e _ _ rfl (.inl rfl) q rfl,k⟩
 | ob q C fd=>obtain⟨h0,h1,h2,h3,h4,dx,ws,q,r⟩:=h;exact⟨h0,h1,h2,h3,h4,dx,ws,e _ _ rfl (.inl rfl) q rfl,r.mono t λc vs hc q=>e c _ rfl (.inr hc) q rfl⟩
def zj.mono{u:V}{s:SL}(t:a9 K H H')(e:∀x a o,u=.ref x->s.own=true->s.has x a->H a=am o->o.nt=true->H' a=am o)(h:zj K H u s):zj K H' u s:=by
 rcases h with⟨v,q,r⟩ | ⟨a,q,r⟩
 ·exact .inl ⟨v,q,VR.tk t r⟩
 ·exact .inr ⟨a,q,r.mono t (λc o z y w nt=>e a c o q z y w nt)⟩
def aU.same(s:aU K H σ fs)(h:i5 H H'):aU K H' σ fs:=⟨s.len,λi t e=>let ⟨u,h1,h2⟩:=s.at' i t e;⟨u,h1,h2.mono h.eJ (λ_ a o _ _ _ z _=>h a o z)⟩,s.nd,s.tb.same h⟩
def c6.same(h:i5 H H')(s:aU K H σ fs):c6 σ fs H σ fs H':=⟨λa o e n=>⟨λ_=>h a o e,n⟩,λa e=>(by
 cases z:H a with
 | none=>rfl
 | some o=>rw[h a o z]at e;cases e),λa φ p=>.inl p⟩
inductive i7:br->br->Prop
 | nil:i7 [] []
 | drop {s:Option SL}{a b:br} (h:i7 a b):i7 (s::a) (ce::b)
 | keep {s:Option SL}{a b:br} (h:i7 a b):i7 (s::a) (s::b)
theorem i7.at{a b:br}(h:i7 a b):∀(i:Nat) (s:SL),b[i]?=am (am s)->a[i]?=am (am s):=by
 induction h with
 | nil=>intro i s e;simp at e
 | drop h ih=>intro i s e;cases i with | zero=>simp at e | succ i=>simp at e ⊢;exact ih i s e
 | keep h ih=>intro i s e;cases i with | zero=>simpa using e | succ i=>simp at e ⊢;exact ih i s e
theorem i7.length{a b:br}(h:i7 a b):a.length=b.length:=by induction h <;> simp_all
theorem i7.refl:∀a:br,i7 a a
 | []=>.nil
 | _::a=>.keep (i7.refl a)
def aU.le(s:aU K H σ fs)(h:i7 fs bL):aU K H σ bL:=⟨s.len.trans h.length,λi t e=>s.at' i t (h.at i t e),λi j t u x y a e1 e2=>s.nd i j t u x y a (h.at i t e1) (h.at j u e2),s.tb⟩
def dc.le(h:i7 fs bL)(o:dc σ bL a):dc σ fs a:=let ⟨i,t,x,e1,e2,e3⟩:=o;⟨i,t,x,h.at i t e1,e2,e3⟩
def c6.le(s:aU K H σ fs)(h:i7 fs bL):c6 σ fs H σ bL H:=⟨λa o e n=>⟨λ_=>e,λz=>n (z.le h)⟩,λ_ e=>e,λa φ p=>by
 obtain⟨i,e1,e2⟩:=p;by_cases c:dc σ bL a
 ·obtain⟨j,t,x,c1,c2,c3,c4⟩:=c;have ij:=s.nd i j _ t a x a e1 (h.at j t c1) rfl c2 e2 c3 (.inl rfl) c4;subst ij;have:=h.at i t c1;rw[e1]at this;cases this;exact .inl ⟨i,c1,e2⟩
 ·obtain⟨vs,q,r⟩:=s.ownAt e1 rfl e2;exact .inr ⟨c,vs,q,r⟩⟩
def b9{l:O (Option α)}{x y:α}(h:(l.set i (am x))[j]?=am (am y)):(j=i/\y=x)\/(j≠i/\l[j]?=am (am y)):=by
 by_cases c:j=i
 ·subst c;rw[List.getElem?_set]at h;simp at h;exact .inl ⟨rfl,h.2.symm⟩
 ·rw[Bq (λz=>c z.symm)]at h;exact .inr ⟨c,h⟩
def cY{l:List α}{x:α}(h:i < l.length):(l.set i x)[i]?=am x:=by rw[List.getElem?_set];simp[h]
def aL{l:List α}{x:α}(h:j≠i):(l.set i x)[j]?=l[j]?:=Bq (λz=>h z.symm)
def aU.put(s:aU K H σ fs){u:V}{t:SL}(hr:zj K H u t)(hf:∀x a,u=.ref x->t.own=true->t.has x a->∀(j:Nat) (w:SL) (y:f8),j≠i->fs[j]?=am (am w)->w.own=true->σ[j]?=am (am (.ref y))->¬w.has y a):aU K H (σ.set i (am u)) (fs.set i (am t)):=by
 refine⟨by simp[s.len],λj w e=>?_,λj k w x b1 b2 a e1 e2 o1 o2 q1 q2 z1 z2=>?_,s.tb⟩
 ·rcases b9 e with⟨rfl,rfl⟩ | ⟨n,e⟩
  ·have hl:j < σ.length:=by
    have:=(Am.mp e).1;rw[B9]at this;rw[s.len];exact this
   exact⟨u,cY hl,hr⟩
  ·obtain⟨v,h1,h2⟩:=s.at' j w e;exact⟨v,by rw[aL n];exact h1,h2⟩
 ·rcases b9 e1 with⟨y1,y2⟩ | ⟨n1,f1⟩ <;> rcases b9 e2 with⟨y3,y4⟩ | ⟨n2,f2⟩
  ·exact y1.trans y3.symm
  ·subst y1;subst y2;rw[aL n2]at q2;have hl:j < σ.length:=by have:=(Am.mp q1).1;simpa using this
   rw[cY hl]at q1;cases q1;exact absurd z2 (hf _ a rfl o1 z1 k x b2 n2 f2 o2 q2)
  ·subst y3;subst y4;rw[aL n1]at q1;have hl:k < σ.length:=by have:=(Am.mp q2).1;simpa using this
   rw[cY hl]at q2;cases q2;exact absurd z1 (hf _ a rfl o2 z2 j w b1 n1 f1 o1 q1)
  ·rw[aL n1]at q1;rw[aL n2]at q2;exact s.nd j k w x b1 b2 a f1 f2 o1 o2 q1 q2 z1 z2
def aU.f6(s:aU K H σ fs){u:V}(hr:VR K [] H u v)(i:Nat):aU K H (σ.set i (am u)) (fs.set i (am (.val v))):=s.put (.inl ⟨v,rfl,hr⟩) λ_ _ _ z=>by cases z
def JA{u:V}{t:SL}(o:dc (σ.set i (am u)) (fs.set i (am t)) a)(hl:σ.length=fs.length):dc σ fs a\/∃x,u=.ref x/\t.own=true/\t.has x a:=by
 obtain⟨j,w,x,e1,e2,e3,e4⟩:=o;rcases b9 e1 with⟨rfl,rfl⟩ | ⟨n,e1⟩
 ·have h2:j < σ.length:=by have:=(Am.mp e3).1;simpa using this
  rw[cY h2]at e3;cases e3;exact .inr ⟨x,rfl,e2,e4⟩
 ·rw[aL n]at e3;exact .inl ⟨j,w,x,e1,e2,e3,e4⟩
def Ow(s:aU K H σ fs){u:V}{t:SL}(p:i6 σ fs φ a)(hu:∀x,u=.ref x->t.own=true->t.has x a->t=.oW φ):i6 (σ.set i (am u)) (fs.set i (am t)) φ a\/¬dc (σ.set i (am u)) (fs.set i (am t)) a:=by
 obtain⟨j,e1,e2⟩:=p;by_cases c:j=i
 ·subst c;by_cases c2:∃x,u=.ref x/\t.own=true/\t.has x a
  ·obtain⟨x,c3,c4,c5⟩:=c2;have hl:=(Am.mp e2).1;have U0:=(Am.mp e1).1;have et:=hu x c3 c4 c5;subst et;rcases c5 with rfl | c5
   ·exact .inl ⟨j,by rw[cY U0],by rw[cY hl,c3]⟩
   ·cases c5
  ·refine .inr λo=>?_;obtain⟨k,w,y,q1,q2,q3,q4⟩:=o;rcases b9 q1 with⟨rfl,rfl⟩ | ⟨n,q1⟩
   ·have hl:=(Am.mp e2).1;rw[cY hl]at q3;cases q3;exact c2 ⟨y,rfl,q2,q4⟩
   ·rw[aL n]at q3;exact n (s.nd k j w _ y a a q1 e1 q2 rfl q3 e2 q4 (.inl rfl))
 ·exact .inl ⟨j,by rw[aL c];exact e1,by rw[aL c];exact e2⟩
def c6.f6(s:aU K H σ fs)(u:V)(v:PV)(i:Nat):c6 σ fs H (σ.set i (am u)) (fs.set i (am (.val v))) H:=
 ⟨λa o e n=>⟨λ_=>e,λz=>(JA z s.len).elim n λ⟨_,_,z,_⟩=>by cases z⟩,λ_ e=>e,λa φ p=>(Ow s p (λ_ _ z=>by cases z)).imp id λn=>⟨n,by
  obtain⟨j,e1,e2⟩:=p;obtain⟨vs,q,r⟩:=s.ownAt e1 rfl e2;exact⟨vs,q,r⟩⟩⟩
def aU.Te(s:aU K H σ fs){t:SL}(hr:jN K H a t)(hn:∀c,t.has a c->¬dc σ fs c)(i:Nat):aU K H (σ.set i (am (.ref a))) (fs.set i (am t)):=s.put (.inr ⟨a,rfl,hr⟩) λx c e _ hc j w y n e1 e2 e3 z=>by
 cases e;exact hn c hc ⟨j,w,y,e1,e2,e3,z⟩
def Hj{t:SL}(hi:t.inn=[]){c:f8}(h:t.has a c):c=a:=by
 rcases h with h | h
 ·exact h
 ·rw[hi]at h;cases h
def aU.Tf(s:aU K H σ fs){t:SL}(hr:jN K H a t)(hn:¬dc σ fs a)(i:Nat)(hi:‹t.inn=[]›):aU K H (σ.set i (am (.ref a))) (fs.set i (am t)):=s.Te hr (λc hc=>by rw[Hj hi hc];exact hn) i
def c6.Te(s:aU K H1 σ fs)(g:c6 σ fs H σ fs H1){t:SL}(hn:∀c,t.has a c->¬dc σ fs c)(h0:∀c,t.has a c->H c=ce)(i:Nat):c6 σ fs H (σ.set i (am (.ref a))) (fs.set i (am t)) H1:=by
 refine⟨λb o e n=>⟨(g.keep b o e n).1,λz=>(JA z s.len).elim n λ⟨x,z,_,y⟩=>?_⟩,g.there,λb φ p=>?_⟩
 ·cases z;rw[h0 b y]at e;cases e
 ·obtain⟨j,e1,e2⟩:=p;obtain⟨vs,q,r⟩:=s.ownAt e1 rfl e2;refine(Ow (t:=t) s ⟨j,e1,e2⟩ (λx z o y=>?_)).imp id λn=>⟨n,vs,q,r⟩;cases z;exact absurd ⟨j,_,_,e1,rfl,e2,.inl rfl⟩ (hn b y)
def c6.Tf(s:aU K H1 σ fs)(g:c6 σ fs H σ fs H1){t:SL}(hn:¬dc σ fs a)(h0:H a=ce)(i:Nat)(hi:‹t.inn=[]›):c6 σ fs H (σ.set i (am (.ref a))) (fs.set i (am t)) H1:=c6.Te s g (λc hc=>by rw[Hj hi hc];exact hn) (λc hc=>by rw[Hj hi hc];exact h0) i
def JB(s:aU K H σ fs){t t':SL}{c:f8}(e1:fs[i]?=am (am t))(o:t.own=true)(np:∀φ,t≠.oW φ)(e2:σ[i]?=am (am (.ref a)))(hc:t.has a c)(IP:t'.has a c)(w6:∀b,t'.has a b->t.has a b)(o':t'.own=true)(sx:kI c H H')(ht:a9 K H H'->jN K H' a t'):aU K H' σ (fs.set i (am t'))/\c6 σ fs H σ (fs.set i (am t')) H':=by
 have oa:=s.ownAt e1 o e2;obtain⟨ob,q,n1,n2,n3⟩:=oa.ex o hc;have tk:a9 K H H':=⟨λb vs z=>sx b _ (λy=>by subst y;rw[q]at z;cases z;exact n1 _ rfl) z,λb o u z=>sx b _ (λy=>by subst y;rw[q]at z;cases z;exact n2 _ _ rfl) z⟩;have ZV:=ht tk;have hi:i < fs.length:=(Am.mp e1).1;have Gs:∀b,dc σ (fs.set i (am t')) b->dc σ fs b:=λb z=>by
  obtain⟨j,w,x,z1,z2,z3,z4⟩:=z;rcases b9 z1 with⟨rfl,rfl⟩ | ⟨n,z1⟩
  ·rw[e2]at z3;cases z3;exact⟨j,t,a,e1,o,e2,w6 b z4⟩
  ·exact⟨j,w,x,z1,z2,z3,z4⟩
 refine⟨⟨by simp[s.len],λj w e=>?_,λj k w x b1 b2 b z1 z2 o1 o2 q1 q2 y1 y2=>?_,s.tb.yt sx q (TY n3) n2⟩,⟨λb ob e n=>⟨λ_=>sx b ob (λz=>by subst z;exact n ⟨i,t,a,e1,o,e2,hc⟩) e,λz=>n (Gs b z)⟩,λb e=>?_,λb φ p=>?_⟩⟩
 ·rcases b9 e with⟨rfl,rfl⟩ | ⟨n,e⟩
  ·exact⟨_,e2,.inr ⟨a,rfl,ZV⟩⟩
  ·obtain⟨u,h1,h2⟩:=s.at' j w e;refine⟨u,h1,h2.mono tk (λx b ob eb ow hb z _=>sx b ob (λy=>?_) z)⟩;subst y;subst eb;exact n (s.nd j i w t x a b e e1 ow o h1 e2 hb hc)
 ·have f:∀{j:Nat}{w:SL}{y:f8},(fs.set i (am t'))[j]?=am (am w)->w.own=true->σ[j]?=am (am (.ref y))->w.has y b->∃w',fs[j]?=am (am w')/\w'.own=true/\w'.has y b:=λ{j w y} z ow qy hy=>by
   rcases b9 z with⟨rfl,rfl⟩ | ⟨n,z⟩
   ·rw[e2]at qy;cases qy;exact⟨t,e1,o,w6 b hy⟩
   ·exact⟨w,z,ow,hy⟩
  obtain⟨w',a1,a2,a3⟩:=f z1 o1 q1 y1;obtain⟨x',c1,c2,c3⟩:=f z2 o2 q2 y2;exact s.nd j k w' x' b1 b2 b a1 c1 a2 c2 q1 q2 a3 c3
 ·cases z:H b with
  | none=>rfl
  | some ob=>
   by_cases cc:b=c
   ·subst cc;obtain⟨o2,y,_⟩:=ZV.ex o' IP;rw[e]at y;cases y
   ·rw[sx b ob cc z]at e;cases e
 ·obtain⟨j,p1,p2⟩:=p;have ji:j≠i:=λz=>by subst z;rw[e1]at p1;cases p1;exact np φ rfl
  exact .inl ⟨j,by rw[aL ji];exact p1,p2⟩
def iM(s:aU K H σ fs){t t':SL}(e1:fs[i]?=am (am t))(o:t.own=true)(np:∀φ,t≠.oW φ)(e2:σ[i]?=am (am (.ref a)))(sx:kI a H H')(ht:a9 K H H'->jN K H' a t')(hi:‹t'.inn=t.inn›)(o':‹t'.own=true›):aU K H' σ (fs.set i (am t'))/\c6 σ fs H σ (fs.set i (am t')) H':=
 JB s e1 o np e2 (.inl rfl) (.inl rfl) (λb h=>by unfold SL.has at h ⊢;rw[hi]at h;exact h) o' sx ht
end
end
end FL
open FL.W renaming bind→ap,ret→bn,run_bind→ga,aa→nw,ag→o0,ao→tz,ext'→Gc,aO→GE
local macro_rules | `($a\$b)=>`(ap (bn $a) $b)
variable{x:Bz}{u:L2.V}{o b:Cd}{fs bL:FL.br}{σ σ':L2.St}{es:O Cd}{wa wb wc:FL.W PL.PV}{wl:FL.W (O PL.PV)}
namespace FL
section
variable[bU]
variable{K:Ab}
def fE(K:Ab)(fs:br)(w:W PV):TE:=λσ H Q=>aU K H σ fs/\w.run λv=>∀u H',de σ fs H H'->aU K H' σ fs->VR K [] H' u v->Q u H'
def fT(K:Ab)(fs:br)(w:W Bool):TT:=λσ H Q=>aU K H σ fs/\w.run λb=>∀H',de σ fs H H'->aU K H' σ fs->Q b H'
def fO(K:Ab)(fs:br)(w:W (Option Int)):TO:=λσ H Q=>aU K H σ fs/\w.run λb=>∀H',de σ fs H H'->aU K H' σ fs->Q b H'
def fL(K:Ab)(fs:br)(w:W (O PV)):TE:=λσ H Q=>aU K H σ fs/\w.run λl=>∀a vs H',de σ fs H H'->aU K H' σ fs->H a=ce->H' a=am (.lst vs)->aG K [] H' vs l->Q (.ref a) H'
def SqI(K:Ab)(H:Hp)(u:V)(l:O PV):Prop:=∃a vs,u=.ref a/\(WC K H a vs\/H a=am (.tup vs))/\aG K [] H vs l
def Zu(K:Ab)(σ:L2.St)(fs:br)(H:Hp)(u:V)(l:O PV):Prop:=SqI K H u l\/∃a,u=.ref a/\((¬dc σ fs a/\∃vs,H a=am (.lst vs)/\aG K [] H vs l)\/∃(i:Nat) (q:Option f8),fs[i]?=am (am (.ol q l))/\σ[i]?=am (am (.ref a)))
def fQ(K:Ab)(fs:br)(w:W (O PV)):TE:=λσ H Q=>aU K H σ fs/\w.run λl=>∀u H',de σ fs H H'->aU K H' σ fs->Zu K σ fs H' u l->Q u H'
def fI(K:Ab)(fs:br)(w:W (O PV)):TE:=λσ H Q=>aU K H σ fs/\w.run λl=>∀u H',de σ fs H H'->aU K H' σ fs->SqI K H' u l->Q u H'
inductive AK where
 | v | p (φ:List V->Prop) | f (a:f8) (us:List V) (ps:List PV) (fz:List (f8×Obj))
inductive eF(K:Ab)(σ:L2.St)(fs:br)(H:Hp):List V->List AK->List PV->Prop
 | nil:eF K σ fs H [] [] []
 | v {u:V}{x:PV}{vs:List V}{ks:List AK}{l:List PV} (r:VR K [] H u x) (t:eF K σ fs H vs ks l):eF K σ fs H (u::vs) (.v::ks) (x::l)
 | p {a:f8}{φ:List V->Prop}{vs:List V}{ks:List AK}{l:List PV} (r:i6 σ fs φ a) (t:eF K σ fs H vs ks l):eF K σ fs H (.ref a::vs) (.p φ::ks) l
 | f {a:f8}{us vs:List V}{ps:List PV}{fz:List (f8×Obj)}{ks:List AK}{l:List PV} (r:aG K [] H us ps) (z:PK H fz) (t:eF K σ fs H vs ks l):eF K σ fs H (.ref a::vs) (.f a us ps fz::ks) l
def fA(K:Ab)(fs:br)(ks:O AK)(w:W (O PV)):TA:=λσ H Q=>aU K H σ fs/\w.run λl=>∀vs H',de σ fs H H'->aU K H' σ fs->eF K σ fs H' vs ks l->Q vs H'
structure EF(X:Cx)(K:Ab)(fs:br)(e:r9)(w:W PV):Prop where p:PE X e (fE K fs w)
structure LF(X:Cx)(K:Ab)(fs:br)(e:r9)(w:W (List PV)):Prop where p:PE X e (fL K fs w)
structure QF(X:Cx)(K:Ab)(fs:br)(e:r9)(w:W (List PV)):Prop where p:PE X e (fQ K fs w)
structure IF(X:Cx)(K:Ab)(fs:br)(e:r9)(w:W (List PV)):Prop where p:PE X e (fI K fs w)
structure TF(X:Cx)(K:Ab)(fs:br)(e:r9)(w:W Bool):Prop where p:PT X e (fT K fs w)
structure IQ(X:Cx)(K:Ab)(fs:br)(e:r9)(w:W Bool):Prop where p:PW X e (fT K fs w)
structure OF(X:Cx)(K:Ab)(fs:br)(e:Option r9)(w:W (Option Int)):Prop where p:L2.PO X e (fO K fs w)
structure AF(X:Cx)(K:Ab)(fs:br)(es:List r9)(ks:List AK){R:Type}(B:(List PV->W R)->W R):Prop where
 p:∃w:W (List PV),PA X es (fA K fs ks w)/\∀k,B k=ap w k
section
def SqI.tk(t:a9 K H H')(h:SqI K H u l):SqI K H' u l:=by
 obtain⟨a,vs,e,q,r⟩:=h;exact⟨a,vs,e,q.imp (t.f _ _) (t.t _ _),aG.tk t r⟩
def Zu.go(h:Zu K σ fs H u l)(s:aU K H σ fs)(g:de σ fs H H'):Zu K σ fs H' u l:=by
 rcases h with h | ⟨a,e,⟨n,vs,q,r⟩ | q⟩
 ·exact .inl (h.tk (g.dM s))
 ·exact .inr ⟨a,e,.inl ⟨n,vs,(g.yK q n),g.Sg s r⟩⟩
 ·exact .inr ⟨a,e,.inr q⟩
def Zu.sq(h:Zu K σ fs H u l)(s:aU K H σ fs):∃a vs,u=.ref a/\(eI K H a vs\/dJ K H a vs)/\aG K [] H vs l:=by
 rcases h with⟨a,vs,e,q,r⟩ | ⟨a,e,⟨n,vs,q,r⟩ | ⟨i,_,q1,q2⟩⟩
 ·exact⟨a,vs,e,q.elim (λq=>.inl q.sq) λq=>.inr (dJ.of q),r⟩
 ·exact⟨a,vs,e,.inl (eI.of q),r⟩
 ·obtain⟨_,vs,q,r⟩:=s.ownAt q1 rfl q2;exact⟨a,vs,e,.inl (eI.of q),r⟩
end
section
variable{a c:r9}{rest:O r9}{w:W PV}
def af(i:Nat)(hs:‹fs[i]?=am (am (.val v))›)(hN:‹X.N[i]?=am x›)(hv:ye X.env.scope x:=by first | exact CN rfl | exact Cq (CN rfl) | exact Cq (Cq rfl))(hd: ~~~(gK x))(g9: ~~~(zk x)):EF X K fs (.Name x pos) (.ret v):=
 ⟨PE.imp (dm hN hv hd g9) λσ H Q ⟨sr,q⟩=>by
  obtain⟨u,e1,r⟩:=sr.at' i _ hs;rcases r with⟨w,e,r⟩ | ⟨a,_,r⟩
  ·cases e;exact⟨u,e1,q u H .refl sr r⟩
  ·exact r.elim⟩
def f_c{v:V}{p:PV}(hv:∀H,VR K [] H v p)(h:PE X e (tC v)):EF X K fs e (.ret p):=⟨PE.imp h λσ H Q ⟨sr,q⟩=>q v H .refl sr (hv _)⟩
def ak{i j}:EF X K fs (.Constant (.int i) j pos) (.ret (.int i)):=f_c (λ_=>.int i) abB
def HQ{b j}:EF X K fs (.Constant (.bool b) j pos) (.ret (.bl b)):=f_c (λ_=>.bl b) afb
def fc{j}:EF X K fs (.Constant .none j pos) (.ret .aJ):=f_c (λ_=>.aJ) TH
def yX{x j}:EF X K fs (.Constant (.str x) j pos) (.ret (.str x)):=f_c (λ_=>.str x) abz
def HM{i:Int}{t:Tok}(hm:X.mg x=am (.int i t))(hg:Gl X x)(hd: ~~~(gK x)):EF X K fs (.Name x pos) (.ret (.int i)):=f_c (λ_=>.int i) (pS hg hm ⟨_,rfl⟩ hd)
def HL{i:Str}{t:Tok}(hm:X.mg x=am (.str i t))(hg:Gl X x)(hd: ~~~(gK x)):EF X K fs (.Name x pos) (.ret (.str i)):=f_c (λ_=>.str i) (pS hg hm ⟨_,rfl⟩ hd)
def of2(m:M2)(x y:PV):W PV:=⟨λQ=>m.f x y [] λz h=>h=[]/\Q z,λf q=>m.mono (λ_ _ q=>⟨q.1,f _ q.2⟩) q⟩
def hr0(H:Hp):HR K [] H []:=⟨FR,rfl,λn a o e _=>by simp at e⟩
def pq0{Q:VK}{z:PV}{h:PH}(sr:aU K H σ fs)(q:h=[]/\∀u H',de σ fs H H'->aU K H' σ fs->VR K [] H' u z->Q u H'):pQ K [] H Q z h:=λι' v H' g r x=>by
 obtain⟨e,q⟩:=q;subst e;have:ι'=[]:=Bj r.len;subst this;have sm:i5 H H':=λa o z=>g.keep a o (by simp) z;exact q v H' (de.same sm) (sr.same sm) x
def abN{r:R2}{m:M2}(hm:M2.Ok K r m){Q:VK}{v:V}{x y:PV}(sr:aU K H σ fs)(hu:VR K [] H u x)(hv:VR K [] H v y)(q:(of2 m x y).run λz=>∀u H',de σ fs H H'->aU K H' σ fs->VR K [] H' u z->Q u H'):r u v H Q:=
 hm (hr0 H) hu hv (m.mono (λz h q=>pq0 sr q) q)
def Pd{r:R2}{m:M2}(hm:M2.Ok K r m):∀σ H Q,fE K fs (.bind wa λx=>.bind wb λy=>of2 m x y) σ H Q->tOp r (fE K fs wa) (fE K fs wb) σ H Q:=λσ H Q ⟨sr,q⟩=>
 ⟨sr,wa.mono (λx q1 u1 H1 g1 s1 v1=>⟨s1,wb.mono (λy q2 u2 H2 g2 s2 v2=>abN hm s2 (g2.vr s1 v1) v2 ((of2 m x y).mono (λz q u3 H3 g3 s3 v3=>q u3 H3 ((g1.trans g2).trans g3) s3 v3) q2)) q1⟩) q⟩
def VE{op:Operator}{r:R2}{m:M2}(ho:lN X (wn op) r)(hm:M2.Ok K r m)(ha:EF X K fs a wa)(hb:EF X K fs b wb):EF X K fs (.BinOp a op b pos) (.bind wa λx=>.bind wb λy=>of2 m x y):=⟨PE.imp (Oy ho ha.p hb.p) (Pd hm)⟩
def wq(ha:EF X K fs a wa)(hb:EF X K fs b wb):EF X K fs (.BinOp a .Sub b pos) (.bind wa λx=>.bind wb λy=>of2 Gy x y):=VE abE (K8 λ_ _ _ _=>.int _) ha hb
def mO(ha:EF X K fs a wa)(hb:EF X K fs b wb):EF X K fs (.BinOp a .Mult b pos) (.bind wa λx=>.bind wb λy=>of2 iO x y):=VE XU (Ip λ_ _ _ _=>.int _) ha hb
def aay(ha:EF X K fs a wa)(hb:EF X K fs b wb):EF X K fs (.BinOp a .FloorDiv b pos) (.bind wa λx=>.bind wb λy=>of2 oDiv x y):=VE XW (Ip λ_ _ _ _=>.int _) ha hb
def tH(ha:EF X K fs a wa)(hb:EF X K fs b wb):EF X K fs (.BinOp a .Mod b pos) (.bind wa λx=>.bind wb λy=>of2 oMod x y):=VE abI (Ip λ_ _ _ _=>.int _) ha hb
def aax(ha:EF X K fs a wa)(hb:EF X K fs b wb):EF X K fs (.BinOp a .Pow b pos) (.bind wa λx=>.bind wb λy=>of2 T5 x y):=VE abG (Ip λ_ _ _ _=>.int _) ha hb
def mx:PV->W PV
 | .int i=>.ret (.int (-i))
 | _=>.fail
def iX(ha:EF X K fs a wa):EF X K fs (.UnaryOp .USub a pos) (.bind wa mx):=⟨PE.imp (ae8 aaU ha.p) λσ H Q ⟨sr,q⟩=>⟨sr,wa.mono (λx q1 u1 H1 g1 s1 v1=>by
 cases v1 with
 | int i=>exact⟨_,rfl,q1 _ H1 g1 s1 (.int _)⟩
 | _=>exact q1.elim) q⟩⟩
def asB:PV->W Bool
 | .bl b=>.ret b
 | _=>.fail
def yY{m:M2}(hc:JC X K op b m)(ha:EF X K fs a wa)(hb:EF X K fs b wb):EF X K fs (.Compare a [op] [b] pos) (.bind wa λx=>.bind wb λy=>of2 m x y):=let ⟨_,h1,h2⟩:=hc.p;⟨PE.imp (XJ h1 ha.p hb.p hc.k) (Pd h2)⟩
def akB{w:W PV}:∀σ H Q,fT K fs (.bind w asB) σ H Q->(fE K fs w) σ H λx H'=>∃k,x=.bl k/\Q k H':=λσ H Q ⟨sr,q⟩=>⟨sr,w.mono (λx q1 u1 H1 g1 s1 v1=>by
 cases v1 with
 | bl b=>exact⟨b,rfl,q1 H1 g1 s1⟩
 | _=>exact q1.elim) q⟩
def cu{m:M2}(hc:JC X K op b m)(ha:EF X K fs a wa)(hb:EF X K fs b wb):TF X K fs (.Compare a [op] [b] pos) (.bind wa λx=>.bind wb λy=>.bind (of2 m x y) asB):=let ⟨_,h1,h2⟩:=hc.p
 ⟨PT.imp (uC h1 ha.p hb.p hc.k) λσ H Q q=>Pd h2 σ H _ (akB (w:=.bind wa λx=>.bind wb λy=>of2 m x y) σ H Q q)⟩
def V0(z:PV)(w:W PV):W PV:=match z with
 | .bl true=>w
 | .bl false=>.ret (.bl false)
 | _=>.fail
def Zp(x:PV)(w:W PV):W PV:=match x with
 | .bl true=>w
 | .bl false=>.ret (.bl false)
 | _=>.fail
def agX(ha:EF X K fs a wa)(hb:EF X K fs (.BoolOp .And (b::rest) pos) wb):EF X K fs (.BoolOp .And (a::b::rest) pos) (.bind wa λx=>Zp x wb):=⟨PE.imp (abD ha.p hb.p) λσ H Q ⟨sr,q⟩=>⟨sr,wa.mono (λx q1 u1 H1 g1 s1 v1=>by
 cases v1 with
 | bl k=>
  cases k with
  | true=>exact⟨true,rfl,by rw[if_pos rfl];exact⟨s1,wb.mono (λ_ q u H' g s v=>q u H' (g1.trans g) s v) q1⟩⟩
  | false=>exact⟨false,rfl,by rw[if_neg Bg];exact q1 _ H1 g1 s1 (.bl _)⟩
 | _=>exact q1.elim) q⟩⟩
def agR{op}(h:EF X K fs a wa):EF X K fs (.BoolOp op [a] pos) wa:=⟨abA h.p⟩
variable{ta tb tc:W Bool}
def kM(h:TF X K fs a ta):IQ X K fs (.BoolOp .And [a] pos) ta:=⟨Xt h.p⟩
def LJ(h:TF X K fs a ta):IQ X K fs (.BoolOp .Or [a] pos) ta:=⟨abp h.p⟩
def oT(ha:TF X K fs a ta)(hb:IQ X K fs (.BoolOp .And (b::rest) pos) tb):IQ X K fs (.BoolOp .And (a::b::rest) pos) (.bind ta λk=>if k=true then tb else .ret false):=⟨PW.imp (abq ha.p hb.p) λσ H Q ⟨sr,q⟩=>⟨sr,ta.mono (λk q1 H1 g1 s1=>by
 cases k with
 | true=>exact Ha ⟨s1,tb.mono (λ_ q H' g s=>q H' (g1.trans g) s) q1⟩
 | false=>exact Hb (q1 H1 g1 s1)) q⟩⟩
def Sk(ha:TF X K fs a ta)(hb:IQ X K fs (.BoolOp .Or (b::rest) pos) tb):IQ X K fs (.BoolOp .Or (a::b::rest) pos) (.bind ta λk=>if k=true then .ret true else tb):=⟨PW.imp (ae6 ha.p hb.p) λσ H Q ⟨sr,q⟩=>⟨sr,ta.mono (λk q1 H1 g1 s1=>by
 cases k with
 | true=>exact Ha (q1 H1 g1 s1)
 | false=>exact Hb ⟨s1,tb.mono (λ_ q H' g s=>q H' (g1.trans g) s) q1⟩) q⟩⟩
def IQ.t(h:IQ X K fs a ta):TF X K fs a ta:=⟨PW.pt h.p⟩
def sV(ha:TF X K fs a ta):TF X K fs (.UnaryOp .Not a pos) (.bind ta λk=>.ret (!k)):=⟨PT.imp (abr ha.p) λσ H Q ⟨sr,q⟩=>⟨sr,q⟩⟩
def wu(hc:TF X K fs c tc)(ha:EF X K fs a wa)(hb:EF X K fs b wb):EF X K fs (.IfExp c a b pos) (.bind tc λk=>if k=true then wa else wb):=⟨PE.imp (Jx hc.p ha.p hb.p) λσ H Q ⟨sr,q⟩=>⟨sr,tc.mono (λk q1 H1 g1 s1=>by
 cases k with
 | true=>exact Ha ⟨s1,wa.mono (λ_ q u H' g s v=>q u H' (g1.trans g) s v) q1⟩
 | false=>exact Hb ⟨s1,wb.mono (λ_ q u H' g s v=>q u H' (g1.trans g) s v) q1⟩) q⟩⟩
def afB{la lb:W (O PV)}(hc:TF X K fs c tc)(ha:LF X K fs a la)(hb:LF X K fs b lb):LF X K fs (.IfExp c a b pos) (.bind tc λk=>if k=true then la else lb):=⟨PE.imp (Jx hc.p ha.p hb.p) λσ H Q ⟨sr,q⟩=>⟨sr,tc.mono (λk q1 H1 g1 s1=>by
 cases k with
 | true=>exact Ha ⟨s1,la.mono (λ_ q a vs H' g s n e v=>q a vs H' (g1.trans g) s (g1.there a n) e v) q1⟩
 | false=>exact Hb ⟨s1,lb.mono (λ_ q a vs H' g s n e v=>q a vs H' (g1.trans g) s (g1.there a n) e v) q1⟩) q⟩⟩
def i9:PV->W Bool
 | .aJ=>.ret false
 | .bl b=>.ret b
 | .int i=>.ret (i != 0)
 | .str y=>.e6 (y.length<=sizeLine) (.ret ((y.length:Int) != 0))
 | .tup l=>.ret (!l.isEmpty)
 | .cl l=>.ret (!l.isEmpty)
 | _=>.fail
def gH(hK:X.K=K)(ha:EF X K fs a wa)(he:∀Ä,isTrue a X.env Ä=(do let v <- Ä;standAt a.pos;KM [v] (truthy v))):TF X K fs a (.bind wa i9):=⟨PT.imp (yw K hK ha.p he) λσ H Q ⟨sr,q⟩=>⟨sr,wa.mono (λx q1 u1 H1 g1 s1 v1=>by
 cases v1 with
 | aJ=>exact⟨false,rfl,q1 H1 g1 s1⟩
 | bl b=>exact⟨b,rfl,q1 H1 g1 s1⟩
 | int i=>exact⟨_,rfl,q1 H1 g1 s1⟩
 | str y=>exact⟨_,⟨q1.1,rfl⟩,q1.2 H1 g1 s1⟩
 | ty _=>exact q1.elim
 | dk _ _ _=>exact q1.elim
 | dt _ _ _=>exact q1.elim
 | ob _ _ _ _ _=>exact q1.elim
 | ref _=>exact q1.elim
 | @tup p vs l e rs=>
  refine⟨!vs.isEmpty,.inr (.inl ⟨_,dJ.of e,rfl⟩),?_⟩;rw[<- mF rs];exact q1 H1 g1 s1
 | @cl p vs l e rs=>
  refine⟨!vs.isEmpty,.inl ⟨_,e.sq,rfl⟩,?_⟩;rw[<- mF rs];exact q1 H1 g1 s1) q⟩⟩
def ZH(hK:X.K=K)(ha:QF X K fs a wl)(he:∀Ä,isTrue a X.env Ä=(do let v <- Ä;standAt a.pos;KM [v] (truthy v))):TF X K fs a (.bind wl λl=>.ret (!l.isEmpty)):=⟨PT.imp (yw K hK ha.p he) λσ H Q ⟨sr,q⟩=>⟨sr,wl.mono (λl q1 u1 H1 g1 s1 v1=>by
 obtain⟨b,vs,rfl,h,rs⟩:=v1.sq s1;refine⟨!vs.isEmpty,?_,?_⟩
 ·exact h.elim (λh=>.inl ⟨_,h,rfl⟩) λh=>.inr (.inl ⟨_,h,rfl⟩)
 ·rw[<- mF rs];exact q1 H1 g1 s1) q⟩⟩
variable{R:Type}{ks:O AK}{B:(O PV->W R)->W R}
def ai:AF X K fs [] [] (R:=R) (λk=>k []):=⟨.ret [],PA.imp bW λσ H Q ⟨sr,q⟩=>q [] H .refl sr .nil,λk=>rfl⟩
def aj(ha:EF X K fs e w)(hr:AF X K fs es ks B)(hs:‹fR X e es›):AF X K fs (e::es) (.v::ks) (λk=>.bind w λx=>B λl=>k (x::l)):=by
 obtain⟨wr,hp,hB⟩:=hr.p;refine⟨.bind w λx=>.bind wr λl=>.ret (x::l),PA.imp (aX ha.p hp hs) λσ H Q ⟨sr,q⟩=>?_,λk=>?_⟩
 ·exact⟨sr,w.mono (λx q1 u1 H1 g1 s1 v1=>⟨s1,wr.mono (λl q2 vs H2 g2 s2 v2=>q2 _ H2 (g1.trans g2) s2 (.v (g2.vr s1 v1) v2)) q1⟩) q⟩
 ·have:(λx=>B λl=>k (x::l))=λx=>ap wr λl=>k (x::l):=funext λx=>hB _;rw[this];rfl
def cC(i:Nat)(hr:AF X K fs es ks B)(hs:‹fs[i]?=am (am (.oW φ))›)(hN:‹X.N[i]?=am x›)(hv:ye X.env.scope x:=by first | exact CN rfl | exact Cq (CN rfl) | exact Cq (Cq rfl))(hd: ~~~(gK x))(g9: ~~~(zk x))
  (nA:‹nn (.Name x pos::es) X.env=(false,pr (.Name x pos) X.env)::nn es X.env›):AF X K fs (.Name x pos::es) (.p φ::ks) B:=by
 obtain⟨wr,hp,hB⟩:=hr.p;refine⟨wr,PA.imp (aX (dm hN hv hd g9) hp nA) λσ H Q ⟨sr,q⟩=>?_,hB⟩;obtain⟨u,e1,r⟩:=sr.at' i _ hs;rcases r with⟨v,e,_⟩ | ⟨a,e,r⟩
 ·cases e
 ·subst e;exact⟨_,e1,sr,wr.mono (λl q2 vs H2 g2 s2 v2=>q2 _ H2 g2 s2 (.p ⟨i,hs,e1⟩ v2)) q⟩
theorem eF.Sg:∀{vs:O V}{n:Nat}{l:O PV},eF K σ fs H vs (An n .v) l->aG K [] H vs l/\l.length=n
 | _,0,_,.nil=>⟨.nil,rfl⟩
 | _,n+1,_,.v r t=>⟨.cons r (eF.Sg t).1,by rw[Ap,(eF.Sg t).2]⟩
def agQ{x1}{B:(O PV->W PV)->W PV}(h:AF X K fs es (An n .v) B)(hn: ~~~(n<=1000)):EF X K fs (.Tuple es x1 pos) (B λl=>.ret (.tup l)):=by
 obtain⟨w,hp,hB⟩:=h.p;rw[hB];refine⟨PE.imp (XC hp) λσ H Q ⟨sr,q⟩=>⟨sr,w.mono (λl q1 vs H1 g1 s1 v1=>?_) q⟩⟩;obtain⟨v2,hl⟩:=v1.Sg;refine⟨by rw[v2.length,hl];exact bx hn,λp H2 s2 e2 n2=>?_⟩;exact q1 _ H2 (g1.trans (de.same s2)) (s1.same s2) (.tup e2 (aG.tk s2.eJ v2))
def afz{B:(O PV->W (O PV))->W (O PV)}(h:AF X K fs es (An n .v) B)(hn: ~~~(n<=1000)):LF X K fs (.List es pos) (B λl=>.ret l):=by
 obtain⟨w,hp,hB⟩:=h.p;rw[hB];refine⟨PE.imp (XG hp) λσ H Q ⟨sr,q⟩=>⟨sr,w.mono (λl q1 vs H1 g1 s1 v1=>?_) q⟩⟩;obtain⟨v2,hl⟩:=v1.Sg;refine⟨by rw[v2.length,hl];exact bx hn,λp H2 s2 e2 n2=>?_⟩;exact q1 _ _ H2 (g1.trans (de.same s2)) (s1.same s2) (g1.there p n2) e2 (aG.tk s2.eJ v2)
end
end
end FL
namespace L2
def Inv.Hx{σ:St}(I:Inv X Z σ H s)(e:H a=am (.lst vs)):∃o,Inv X Z σ (upd H a (.bN o (.lst vs))) s:=by
 obtain⟨z,au,n,r,h1⟩:=(show bh X.prog X.w H s.heap a (.lst vs) from I.a8 a _ e);exact⟨_,I.write (x:=a) (e:=a) (o:=.bN _ (.lst vs)) (h':=s.heap) (t':=s.toks) (by rw[e];exact Cj) (.inl rfl) (λb u _ z=>z) ⟨_,h1⟩ ⟨h1,z,au,n,r,h1⟩⟩
def Inv.O7{σ:St}{kvs:O (Key×V)}(I:Inv X Z σ H s)(e:H a=am (.dK kvs)):∃o,Inv X Z σ (upd H a (.bN o (.dK kvs))) s:=by
 obtain⟨z,hs,vs,r,o,es,ep,h1,h2⟩:=(show bh X.prog X.w H s.heap a (.dK kvs) from I.a8 a _ e);exact⟨o,I.write (x:=a) (e:=a) (o:=.bN o (.dK kvs)) (h':=s.heap) (t':=s.toks) (by rw[e];exact Cj) (.inl rfl) (λb u _ z=>z) ⟨o,h1⟩ ⟨h1,z,hs,vs,r,o,es,ep,h1,h2⟩⟩
end L2
variable{t:FL.SL}{ks:O FL.AK}{B:(O PL.PV->FL.W PL.PV)->FL.W PL.PV}{q0:Option Bm}
namespace FL
section
variable[bU]
variable{K:Ab}
section
def uA(o':HO)(e:H a=am (.lst vs)):a9 K H (upd H a o'):=⟨λb ws q=>by rw[aq (Uc q e (by intro z;cases z))];exact q,λb o u q=>by rw[aq (Uc q e (by intro z;cases z))];exact q⟩
def dvK(kvs:O (Key×PV)):PV:=.dv (kvs.map λkv=>kP kv.1) (kvs.map (·.2))
def VN(kvs:O (O Key×PV)):PV:=.dv (kvs.map λkv=>.tup (kv.1.map kP)) (kvs.map (·.2))
def fW{oh:HO}(o':HO)(e:H a=am oh)(n1:∀vs,oh≠.tup vs)(n2:∀o u,oh≠.bN o u):a9 K H (upd H a o'):=⟨λb ws q=>by rw[aq (λz=>by subst z;rw[e]at q;cases q;exact n1 _ rfl)];exact q,λb o u q=>by rw[aq (λz=>by subst z;rw[e]at q;cases q;exact n2 _ _ rfl)];exact q⟩
def Z4{vs:O (O Key×V)}{kvs:O (O Key×PV)}(h:vs.map (·.1)=kvs.map (·.1)):(kvs.map λkv=>PV.tup (kv.1.map kP))=vs.map λkv=>PV.tup (kv.1.map kP):=by
 have:=congrArg (Dn λk:O Key=>PV.tup (k.map kP)) h;rw[AG,AG]at this;exact this.symm
def Z5{vs:O (Key×V)}{kvs:O (Key×PV)}(h:vs.map (·.1)=kvs.map (·.1)):(kvs.map λkv=>kP kv.1)=vs.map λkv=>kP kv.1:=by
 have:=congrArg (Dn kP) h;rw[AG,AG]at this;exact this.symm
def SL.bw:SL->Bool
 | .ol _ _=>true
 | .od _=>true
 | .ot _=>true
 | _=>false
def SL.bv:SL->PV
 | .ol _ l=>.cl l
 | .od kvs=>dvK kvs
 | .ot kvs=>VN kvs
 | _=>.aJ
def SL.V7(h:t.bw=true):t.own=true:=by cases t <;> first | rfl | cases h
def agq(I:Inv X Z σ' H s)(oa:jN K H a t)(hb:t.bw=true):∃ob o,H a=am o/\(∀vs,o≠.tup vs)/\(∀ob u,o≠.bN ob u)/\Inv X Z σ' (upd H a (.bN ob o)) s/\VR K [] (upd H a (.bN ob o)) (.ref a) t.bv:=by
 cases t with
 | ol q l=>
  obtain⟨_,vs,e,r⟩:=oa;obtain⟨ob,I2⟩:=I.Hx e;exact⟨ob,_,e,by simp,by simp,I2,.cl (.inl ⟨ob,aD⟩) (aG.tk (fW _ e (by simp) (by simp)) r)⟩
 | od l=>
  obtain⟨vs,e,k,r⟩:=oa;obtain⟨ob,I2⟩:=I.O7 e;exact⟨ob,_,e,by simp,by simp,I2,.dk aD (Z5 k) (aG.tk (fW _ e (by simp) (by simp)) r)⟩
 | ot l=>
  obtain⟨vs,e,k,r⟩:=oa;obtain⟨ob,I2⟩:=I.freeze e;exact⟨ob,_,e,by simp,by simp,I2,.dt aD (Z4 k) (aG.tk (fW _ e (by simp) (by simp)) r)⟩
 | _=>cases hb
def aU.agp{o u:HO}(sr:aU K H σ fs)(hs:fs[i]?=am (am t))(ho:t.own=true)(e1:σ[i]?=am (am (.ref a)))(h1:H a=am o)(n1:∀vs,o≠.tup vs)(n2:∀ob u,o≠.bN ob u)(vr:VR K [] (upd H a u) (.ref a) v):aU K (upd H a u) σ (fs.set i (am (.val v))):=by
 have nt:o.nt=true:=by
  obtain⟨o',z1,_,_,z2⟩:=(sr.ownAt hs ho e1).ex ho (.inl rfl);rw[h1]at z1;cases z1;exact TY z2
 refine⟨by simp[sr.len],λj t' z=>?_,λj k t' u b1 b2 b z1 z2 o1 o2=>?_,sr.tb.yt (λb o n z=>by rw[aq n];exact z) h1 nt n2⟩
 ·rcases b9 z with⟨rfl,rfl⟩ | ⟨n,z⟩
  ·exact⟨_,e1,.inl ⟨_,rfl,vr⟩⟩
  ·obtain⟨u,k1,k2⟩:=sr.at' j t' z;exact⟨u,k1,k2.mono (fW _ h1 n1 n2) (λx b o eb ow hb zz _=>by
    subst eb;rw[aq (λy=>by subst y;exact n (sr.nd j i t' _ x b b z hs ow ho k1 e1 hb (.inl rfl)))];exact zz)⟩
 ·rcases b9 z1 with⟨rfl,rfl⟩ | ⟨n1,z1⟩
  ·cases o1
  ·rcases b9 z2 with⟨rfl,rfl⟩ | ⟨n2,z2⟩
   ·cases o2
   ·exact sr.nd j k t' u b1 b2 b z1 z2 o1 o2
def aU.side(s:aU K H σ fs)(n:¬dc σ fs a)(e:H a=am (.lst vs))(o':HO):aU K (upd H a o') σ fs:=⟨s.len,λi t q=>by
 obtain⟨u,h1,h2⟩:=s.at' i t q;exact⟨u,h1,h2.mono (uA o' e) (λx b o eb ow hb z _=>by subst eb;rw[aq (λy:b=a=>n ⟨i,t,x,q,ow,h1,y▸hb⟩)];exact z)⟩,s.nd,s.tb.yt (λb o n z=>by rw[aq n];exact z) e rfl (by simp)⟩
def de.side(g:de σ fs H H1)(h0:H a=ce)(o':HO):de σ fs H (upd H1 a o'):=⟨λb o e n t=>by rw[aq (bC e h0)];exact g.keep b o e n t,λb e=>by
 by_cases c:b=a
 ·subst c;exact h0
 ·rw[aq c]at e;exact g.there b e⟩
end
section
variable{a:r9}{w:W PV}
def jC(h:LF X K fs e wl):EF X K fs e (.bind wl λl=>.ret (.cl l)):=⟨λZ s σ H Q I ⟨sr,q⟩=>by
 refine bV (h.p Z s σ H (λu H1=>∃a vs l,u=.ref a/\de σ fs H H1/\aU K H1 σ fs/\H a=ce/\H1 a=am (.lst vs)/\aG K [] H1 vs l/\∀u H',de σ fs H H'->aU K H' σ fs->VR K [] H' u (.cl l)->Q u H') I ⟨sr,wl.mono (λl q1 a vs H1 g1 s1 n e v=>⟨a,vs,l,rfl,g1,s1,n,e,v,q1⟩) q⟩) λu s1 ⟨v,H1,I1,r1,a,vs,l,e,g1,SV,n,ea,vr,q1⟩=>?_;subst e;obtain⟨ob,I2⟩:=I1.Hx ea;exact⟨.ref a,_,I2,r1,q1 _ _ (g1.side n _) (SV.side (λz=>sr.noOwn n z) ea _) (.cl (.inl ⟨ob,aD⟩) (aG.tk (uA _ ea) vr))⟩⟩
def az:PV->W (O PV)
 | .tup l=>.ret l
 | .cl l=>.ret l
 | _=>.fail
def aR(h:EF X K fs e w):IF X K fs e (.bind w az):=⟨PE.imp h.p λσ H Q ⟨sr,q⟩=>⟨sr,w.mono (λx q1 u1 H1 g1 s1 v1=>by
 cases v1 with
 | tup e r=>exact q1 _ H1 g1 s1 ⟨_,_,rfl,.inr e,r⟩
 | cl e r=>exact q1 _ H1 g1 s1 ⟨_,_,rfl,.inl e,r⟩
 | _=>exact q1.elim) q⟩⟩
def yN(h:LF X K fs e wl):IF X K fs e wl:=aR (jC h)
theorem IF.q(h:IF X K fs e wl):QF X K fs e wl:=⟨PE.imp h.p λσ H Q ⟨sr,q⟩=>⟨sr,wl.mono (λl q1 u1 H1 g1 s1 v1=>q1 u1 H1 g1 s1 (.inl v1)) q⟩⟩
def aE(h:EF X K fs e w):QF X K fs e (.bind w az):=(aR h).q
def jh(h:LF X K fs e wl):QF X K fs e wl:=⟨PE.imp h.p λσ H Q ⟨sr,q⟩=>⟨sr,wl.mono (λl q1 a vs H1 g1 s1 n e v=>q1 _ H1 g1 s1 (.inr ⟨a,rfl,.inl ⟨sr.noOwn n,vs,e,v⟩⟩)) q⟩⟩
def bA(i:Nat)(hs:‹fs[i]?=am (am (.ol q0 l))›)(hN:‹X.N[i]?=am x›)(hv:ye X.env.scope x:=by first | exact CN rfl | exact Cq (CN rfl) | exact Cq (Cq rfl))(hd: ~~~(gK x))(g9: ~~~(zk x)):QF X K fs (.Name x pos) (.ret l):=
 ⟨PE.imp (dm hN hv hd g9) λσ H Q ⟨sr,q⟩=>by
  obtain⟨u,e1,r⟩:=sr.at' i _ hs;rcases r with⟨w,e,r⟩ | ⟨a,e,r⟩
  ·cases e
  ·subst e;exact⟨_,e1,q _ H .refl sr (.inr ⟨a,rfl,.inr ⟨i,q0,hs,e1⟩⟩)⟩⟩
def G8(l:O PV):PV->W PV
 | .int i=>.OE (dC l i)
 | _=>.fail
def aM(hK:X.K=K)(ha:QF X K fs a wl)(hb:EF X K fs b wb)(hs:IE b:=by exact λ_ _=>rfl):EF X K fs (.Subscript a b pos) (.bind wl λl=>.bind wb λy=>G8 l y):=⟨PE.imp (ZT (YA K hK) ha.p hb.p hs) λσ H Q ⟨sr,q⟩=>⟨sr,wl.mono (λl q1 u1 H1 g1 s1 v1=>⟨s1,wb.mono (λy q2 u2 H2 g2 s2 v2=>by
 cases v2 with
 | int i=>
  have q2:(W.OE (dC l i)).run _:=q2;cases z:dC l i with
  | none=>rw[z]at q2;exact q2.elim
  | some x=>
   rw[z]at q2;obtain⟨ad,vs,rfl,h,rs⟩:=(v1.go s1 g2).sq s2;obtain⟨v,e1,e2⟩:=aG.dC rs z;have q3:=q2 v H2 (g1.trans g2) s2 e2;exact h.elim (λh=>.inl ⟨ad,vs,i,v,rfl,rfl,h,e1,q3⟩) λh=>.inr (.inl ⟨ad,vs,i,v,rfl,rfl,h,e1,q3⟩)
 | _=>exact q2.elim) q1⟩) q⟩⟩
def agV(ha:EF X K fs a wa)(hb:EF X K fs b wb)(hs:IE b):EF X K fs (.Subscript a b pos) (.bind wa λx=>.bind wb λy=>of2 T7 x y):=⟨PE.imp (ZT UK ha.p hb.p hs) (Pd X5)⟩
def rH(m:zl)(l:O PV):W PV:=⟨λQ=>m.f l [] λz h=>h=[]/\Q z,λf q=>m.mono (λ_ _ q=>⟨q.1,f _ q.2⟩) q⟩
section
variable{id:String}{r:O V->Hp->VK->Prop}
def T3{m:zl}(hm:zl.Ok K r m){Q:VK}{us:O V}(sr:aU K H σ fs)(hu:aG K [] H us l)(q:(rH m l).run λz=>∀u H',de σ fs H H'->aU K H' σ fs->VR K [] H' u z->Q u H'):r us H Q:=hm (hr0 H) hu (m.mono (λz h q=>pq0 sr q) q)
def uL{m:zl}(hc:cm X (.builtin id) r)(hB:zl.Ok K r m)(hg:Gl X x)(hm:X.mg x=ce)(hv:sK x=am (.builtin id))(ha:AF X K fs (e::es) (An n .v) B)(hn: ~~~(x≠"__name__"))(lA: ~~~(gK x))
  (he:‹fR X e es›) (dg:‹kJ X pos es›):EF X K fs (.Call (.Name x p) (e::es) [] pos) (B (rH m)):=by
 obtain⟨w,hp,Ŭ⟩:=ha.p;rw[Ŭ];exact⟨PE.imp (f7 hc hg hm hv hp hn lA he dg) λσ H Q ⟨sr,q⟩=>⟨sr,w.mono (λl q1 vs H1 g1 s1 v1=>T3 hB s1 v1.Sg.1 ((rH m l).mono (λz q u H' g s v=>q u H' (g1.trans g) s v) q1)) q⟩⟩
def VL{m:zl}(hc:cm X (.type id) r)(hB:zl.Ok K r m)(hg:Gl X x)(hm:X.mg x=ce)(hv:sK x=am (.type id))(ha:AF X K fs (e::es) (An n .v) B)(hn: ~~~(x≠"__name__"))(lA: ~~~(gK x))
  (he:‹fR X e es›) (dg:‹kJ X pos es›):EF X K fs (.Call (.Name x p) (e::es) [] pos) (B (rH m)):=by
 obtain⟨w,hp,Ŭ⟩:=ha.p;rw[Ŭ];exact⟨PE.imp (mZ hc hg hm hv hp hn lA he dg) λσ H Q ⟨sr,q⟩=>⟨sr,w.mono (λl q1 vs H1 g1 s1 v1=>T3 hB s1 v1.Sg.1 ((rH m l).mono (λz q u H' g s v=>q u H' (g1.trans g) s v) q1)) q⟩⟩
def CQ(K:Ab)(r:O V->Hp->VK->Prop)(m:O PV->W PV):Prop:=∀{fs:br}{σ:L2.St}{H:Hp}{Q:VK}{u:V}{l:O PV},aU K H σ fs->Zu K σ fs H u l->((m l).run λz=>∀u H',de σ fs H H'->aU K H' σ fs->VR K [] H' u z->Q u H')->r [u] H Q
def CL(K:Ab)(r:O V->Hp->VK->Prop)(m:O PV->W (O PV)):Prop:=∀{fs:br}{σ:L2.St}{H:Hp}{Q:VK}{u:V}{l:O PV},aU K H σ fs->Zu K σ fs H u l->((m l).run λz=>∀a vs H',de σ fs H H'->aU K H' σ fs->H a=ce->H' a=am (.lst vs)->aG K [] H' vs z->Q (.ref a) H')->r [u] H Q
def VM{m:O PV->W PV}(hc:cm X (.builtin id) r)(hB:CQ K r m)(hg:Gl X x)(hm:X.mg x=ce)(hv:sK x=am (.builtin id))(ha:QF X K fs e wl)(hn: ~~~(x≠"__name__"))(lA: ~~~(gK x))
  (he:‹fR X e []›) (dg:‹kJ X pos []›):EF X K fs (.Call (.Name x p) [e] [] pos) (.bind wl m):=⟨PE.imp (f7 hc hg hm hv (aX ha.p bW he) hn lA he dg) λσ H Q ⟨sr,q⟩=>⟨sr,wl.mono (λl q1 u H1 g1 s1 v1=>hB s1 v1 ((m l).mono (λz q u H' g s v=>q u H' (g1.trans g) s v) q1)) q⟩⟩
def Rp{m:O PV->W PV}(hc:cm X (.type id) r)(hB:CQ K r m)(hg:Gl X x)(hm:X.mg x=ce)(hv:sK x=am (.type id))(ha:QF X K fs e wl)(hn: ~~~(x≠"__name__"))(lA: ~~~(gK x))
  (he:‹fR X e []›) (dg:‹kJ X pos []›):EF X K fs (.Call (.Name x p) [e] [] pos) (.bind wl m):=⟨PE.imp (mZ hc hg hm hv (aX ha.p bW he) hn lA he dg) λσ H Q ⟨sr,q⟩=>⟨sr,wl.mono (λl q1 u H1 g1 s1 v1=>hB s1 v1 ((m l).mono (λz q u H' g s v=>q u H' (g1.trans g) s v) q1)) q⟩⟩
def ahG{m:O PV->W (O PV)}(hc:cm X (.builtin id) r)(hB:CL K r m)(hg:Gl X x)(hm:X.mg x=ce)(hv:sK x=am (.builtin id))(ha:QF X K fs e wl)(hn: ~~~(x≠"__name__"))(lA: ~~~(gK x))
  (he:‹fR X e []›) (dg:‹kJ X pos []›):LF X K fs (.Call (.Name x p) [e] [] pos) (.bind wl m):=⟨PE.imp (f7 hc hg hm hv (aX ha.p bW he) hn lA he dg) λσ H Q ⟨sr,q⟩=>⟨sr,wl.mono (λl q1 u H1 g1 s1 v1=>hB s1 v1 ((m l).mono (λz q a vs H' g s n e v=>q a vs H' (g1.trans g) s (g1.there a n) e v) q1)) q⟩⟩
def Uv{m:O PV->W (O PV)}(hc:cm X (.type id) r)(hB:CL K r m)(hg:Gl X x)(hm:X.mg x=ce)(hv:sK x=am (.type id))(ha:QF X K fs e wl)(hn: ~~~(x≠"__name__"))(lA: ~~~(gK x))
  (he:‹fR X e []›) (dg:‹kJ X pos []›):LF X K fs (.Call (.Name x p) [e] [] pos) (.bind wl m):=⟨PE.imp (mZ hc hg hm hv (aX ha.p bW he) hn lA he dg) λσ H Q ⟨sr,q⟩=>⟨sr,wl.mono (λl q1 u H1 g1 s1 v1=>hB s1 v1 ((m l).mono (λz q a vs H' g s n e v=>q a vs H' (g1.trans g) s (g1.there a n) e v) q1)) q⟩⟩
end
def GO(l:O PV):W PV:=.ret (.int l.length)
def Yk(K:Ab):CQ K (abl K) GO:=λ{fs σ H Q u l} s v q=>by
 obtain⟨a,vs,rfl,h,rs⟩:=v.sq s;refine⟨_,vs.length,rfl,?_,?_⟩
 ·exact h.elim (λh=>.inl ⟨_,h,rfl⟩) λh=>.inr ⟨_,h,rfl⟩
 ·rw[rs.length];exact q _ H .refl s (.int _)
def fV(l:O PV):W PV:=.ret (.tup l)
def WQ(K:Ab):CQ K (S7 K) fV:=λ{fs σ H Q u l} s v q=>by
 have fresh:∀{a:f8}{vs:O V},eI K H a vs->aG K [] H vs l->S7 K [.ref a] H Q:=λ{a vs} h rs=>⟨a,vs,rfl,.inl ⟨h,λp H2 s2 e2 n2=>q _ H2 (de.same s2) (s.same s2) (.tup e2 (aG.tk s2.eJ rs))⟩⟩;rcases v with⟨a,vs,rfl,h | h,rs⟩ | ⟨a,rfl,⟨n,vs,h,rs⟩ | ⟨i,_,q1,q2⟩⟩
 ·exact fresh h.sq rs
 ·exact⟨a,vs,rfl,.inr ⟨dJ.of h,q _ H .refl s (.tup h rs)⟩⟩
 ·exact fresh (eI.of h) rs
 ·obtain⟨_,vs,h,rs⟩:=s.ownAt q1 rfl q2;exact fresh (eI.of h) rs
end
end
end FL
variable{R:Type}
namespace FL
section
variable[bU]
variable{K:Ab}
def sS(vs:O V)(ks:O AK)(φ:O V->Prop)(a:f8):Prop:=∃i:Nat,ks[i]?=am (.p φ)/\vs[i]?=am (.ref a)
structure GoC(vs:List V)(ks:List AK)(H H':Hp):Prop where
 keep:∀a o,H a=am o->(∀φ,¬sS vs ks φ a)->(nt:‹o.nt=true›)->H' a=am o
 tb:TB H'
 there:∀a,H' a=ce->H a=ce
 abw:∀a φ,sS vs ks φ a->∃ws,H' a=am (.lst ws)/\φ ws
inductive jd(K:Ab)(H:Hp):List V->List AK->List PV->Prop
 | nil:jd K H [] [] []
 | v {u:V}{x:PV}{vs:List V}{ks:List AK}{l:List PV} (r:VR K [] H u x) (t:jd K H vs ks l):jd K H (u::vs) (.v::ks) (x::l)
 | p {a:f8}{φ:List V->Prop}{ws vs:List V}{ks:List AK}{l:List PV} (e:H a=am (.lst ws)) (r:φ ws) (t:jd K H vs ks l):jd K H (.ref a::vs) (.p φ::ks) l
 | f {a:f8}{us vs:List V}{ps:List PV}{fz:List (f8×Obj)}{ks:List AK}{l:List PV} (r:aG K [] H us ps) (z:PK H fz) (t:jd K H vs ks l):jd K H (.ref a::vs) (.f a us ps fz::ks) l
def xn(K:Ab)(ks:O AK)(m:O PV->W PV):Sp:=λvs H Q _=>TB H/\∃l,jd K H vs ks l/\(m l).run λv=>∀u H',GoC vs ks H H'->VR K [] H' u v->Q u H'
def Jo(K:Ab)(ks:O AK)(m:O PV->W (O PV)):Sp:=λvs H Q _=>TB H/\∃l,jd K H vs ks l/\(m l).run λz=>∀a ws H',GoC vs ks H H'->H a=ce->H' a=am (.lst ws)->aG K [] H' ws z->Q (.ref a) H'
def w5(R:Type):Nat->Type
 | 0=>W R
 | n+1=>PV->w5 R n
def kK:(n:Nat)->w5 R n->O PV->W R
 | 0,m,[]=>m
 | n+1,m,x::l=>kK n (m x) l
 | 0,_,_::_=>.fail
 | _+1,_,[]=>.fail
section
def eF.oW(h:eF K σ fs H vs ks l)(p:sS vs ks φ a):i6 σ fs φ a:=by
 obtain⟨i,e1,e2⟩:=p
 induction h generalizing i with
 | nil=>simp at e1
 | v r t ih=>cases i with | zero=>simp at e1 | succ i=>exact ih i (by simpa using e1) (by simpa using e2)
 | p r t ih=>
  cases i with
  | zero=>simp at e1 e2;subst e1;subst e2;exact r
  | succ i=>exact ih i (by simpa using e1) (by simpa using e2)
 | f r z t ih=>cases i with | zero=>simp at e1 | succ i=>exact ih i (by simpa using e1) (by simpa using e2)
def eF.c(h:eF K σ fs H vs ks l)(s:aU K H σ fs):jd K H vs ks l:=by
 induction h with
 | nil=>exact .nil
 | v r t ih=>exact .v r ih
 | p r t ih=>
  obtain⟨i,e1,e2⟩:=r;obtain⟨ws,q,x⟩:=s.ownAt e1 rfl e2;exact .p q x ih
 | f r z t ih=>exact .f r z ih
def GoC.caller(g:GoC vs ks H H')(h:eF K σ fs H vs ks l)(s:aU K H σ fs):aU K H' σ fs/\de σ fs H H':=by
 have gf:de σ fs H H':=⟨λa o e n t=>g.keep a o e (λφ p=>n φ (h.oW p)) t,g.there⟩;have tk:=gf.dM s;refine⟨⟨s.len,λi t e=>?_,s.nd,g.tb⟩,gf⟩;obtain⟨u,h1,h2⟩:=s.at' i t e;refine⟨u,h1,?_⟩;rcases h2 with⟨v,q,r⟩ | ⟨a,q,r⟩
 ·exact .inl ⟨v,q,VR.tk tk r⟩
 ·subst q;refine .inr ⟨a,rfl,?_⟩;by_cases c:(∃φ,sS vs ks φ a)/\t.own=true
  ·obtain⟨⟨φ,p⟩,ow⟩:=c;obtain⟨j,e1,e2⟩:=h.oW p;have ij:=s.nd i j t _ a a a e e1 ow rfl h1 e2 (.inl rfl) (.inl rfl);subst ij;rw[e]at e1;cases e1;exact g.abw a φ p
  ·refine r.mono tk (λb o ow hb z nt=>g.keep b o z (λφ p=>?_) nt);obtain⟨j,e1,e2⟩:=h.oW p;have ij:=s.nd i j t _ a b b e e1 ow rfl h1 e2 hb (.inl rfl);subst ij;rw[h1]at e2;cases e2;exact c ⟨⟨φ,p⟩,ow⟩
end
section
def ac1{m:O PV->W PV}(G:ZD X.prog X.w X.K X.mg X.base x k ps (xn K ks m))(hr:cI k' X.A)(hk:k<=k')(hg:Gl X x)(ha:AF X K fs (e::es) ks B)(lA: ~~~(gK x))
  (he:‹fR X e es›) (dg:‹kJ X pos es›):EF X K fs (.Call (.Name x p) (e::es) [] pos) (B m):=by
 obtain⟨w,hp,hB⟩:=ha.p;rw[hB];exact⟨PE.imp (TK G hr hk hg hp lA he dg) λσ H Q ⟨sr,q⟩=>⟨sr,w.mono (λl q1 vs H1 g1 s1 v1=>⟨s1.tb,l,v1.c s1,(m l).mono (λz q2 u H2 g2 r2=>let ⟨s2,g3⟩:=g2.caller v1 s1;q2 u H2 (g1.trans g3) s2 r2) q1⟩) q⟩⟩
def ab6{m:O PV->W (O PV)}{B:(O PV->W (O PV))->W (O PV)}(G:ZD X.prog X.w X.K X.mg X.base x k ps (Jo K ks m))(hr:cI k' X.A)(hk:k<=k')(hg:Gl X x)(ha:AF X K fs (e::es) ks B)(lA: ~~~(gK x))
  (he:‹fR X e es›) (dg:‹kJ X pos es›):LF X K fs (.Call (.Name x p) (e::es) [] pos) (B m):=by
 obtain⟨w,hp,hB⟩:=ha.p;rw[hB];exact⟨PE.imp (TK G hr hk hg hp lA he dg) λσ H Q ⟨sr,q⟩=>⟨sr,w.mono (λl q1 vs H1 g1 s1 v1=>⟨s1.tb,l,v1.c s1,(m l).mono (λz q2 a ws H2 g2 n2 e2 r2=>let ⟨s2,g3⟩:=g2.caller v1 s1;q2 a ws H2 (g1.trans g3) s2 (g1.there a n2) e2 r2) q1⟩) q⟩⟩
end
end
end FL
variable{x:Bool}{T:Type}{p':Co}
namespace FL
section
variable[bU]
variable{K:Ab}
inductive End where
 | nx (fs:br) | nc (fs:br) | ct (fs:br) | rt (v:PV) | rl (l:List PV) | bk (fs:br) | ro (v:PV) (a:f8) (l:List PV)
def II(σ:L2.St)(fs:br)(H:Hp)(a:f8):Prop:=H a=ce\/∃(i:Nat) (s:SL) (x:f8),fs[i]?=am (am s)/\s.own=true/\(∀φ,s≠.oW φ)/\σ[i]?=am (am (.ref x))/\s.has x a
def bZ(K:Ab)(x:Bool)(σ:L2.St)(fs:br)(H:Hp)(D:Ends):End->Prop
 | .nx bL=>x=false->∀σ' H',c6 σ fs H σ' bL H'->aU K H' σ' bL->D.nx σ' H'
 | .nc bL=>∀σ' H',c6 σ fs H σ' bL H'->aU K H' σ' bL->(x=false->D.nx σ' H')/\D.ct σ' H'
 | .ct bL=>∀σ' H',c6 σ fs H σ' bL H'->aU K H' σ' bL->D.ct σ' H'
 | .bk bL=>∀σ' H',c6 σ fs H σ' bL H'->aU K H' σ' bL->D.bk σ' H'
 | .rt v=>∀u σ' bL H',c6 σ fs H σ' bL H'->aU K H' σ' bL->VR K [] H' u v->D.rt u H'
 | .ro v a l=>∀u σ' bL H',c6 σ fs H σ' bL H'->aU K H' σ' bL->(∃i:Nat,bL[i]?=am (am (.ol (am a) l)))->VR K [] H' u v->D.rt u H'
 | .rl l=>∀a ws σ' bL H',c6 σ fs H σ' bL H'->aU K H' σ' bL->II σ fs H a->H' a=am (.lst ws)->aG K [] H' ws l->D.rt (.ref a) H'
def fS(K:Ab)(x:Bool)(fs:br)(w:W T)(out:T->End):TS:=λD σ H=>aU K H σ fs/\w.run λt=>bZ K x σ fs H D (out t)
structure SF(X:Cx)(K:Ab)(x:Bool)(fs:br)(SA:List ut){T:Type}(w:W T)(out:T->End):Prop where p:q9 X SA (fS K x fs w out)
section
variable{σ1:L2.St}{Vd:br}
def II.go(g:c6 σ fs H σ1 Vd H1)(s:aU K H σ fs)(s1:aU K H1 σ1 Vd)(h:II σ1 Vd H1 a):II σ fs H a:=by
 rcases h with h | ⟨i,t,x,e1,e2,np,e3,e4⟩
 ·exact .inl (g.there a h)
 ·cases z:H a with
  | none=>exact .inl z
  | some o=>
   by_cases c:dc σ fs a
   ·obtain⟨j,t',y,c1,c2,c3,c4⟩:=c;by_cases d:∃φ,t'=.oW φ
    ·obtain⟨φ,rfl⟩:=d;rcases c4 with rfl | c4
     ·rcases g.pk a φ ⟨j,c1,c3⟩ with⟨k,k1,k2⟩ | ⟨n,_⟩
      ·have:=s1.nd i k t _ x a a e1 k1 e2 rfl e3 k2 e4 (.inl rfl);subst this;rw[e1]at k1;cases k1;exact absurd rfl (np φ)
      ·exact absurd ⟨i,t,x,e1,e2,e3,e4⟩ n
     ·cases c4
    ·exact .inr ⟨j,t',y,c1,c2,λφ e=>d ⟨φ,e⟩,c3,c4⟩
   ·exact absurd ⟨i,t,x,e1,e2,e3,e4⟩ (g.keep a o z c).2
def bZ.go(g:c6 σ fs H σ1 Vd H1)(s:aU K H σ fs)(s1:aU K H1 σ1 Vd){E:End}(h:bZ K x σ fs H D E):bZ K x σ1 Vd H1 D E:=by
 cases E with
 | nx bL=>exact λhx σ' H' g' s'=>h hx σ' H' (g.trans g') s'
 | nc bL=>exact λσ' H' g' s'=>h σ' H' (g.trans g') s'
 | bk bL=>exact λσ' H' g' s'=>h σ' H' (g.trans g') s'
 | ct bL=>exact λσ' H' g' s'=>h σ' H' (g.trans g') s'
 | rt v=>exact λu σ' bL H' g' s' r=>h u σ' bL H' (g.trans g') s' r
 | ro v a l=>exact λu σ' bL H' g' s' o r=>h u σ' bL H' (g.trans g') s' o r
 | rl l=>exact λa ws σ' bL H' g' s' f e r=>h a ws σ' bL H' (g.trans g') s' (f.go g s s1) e r
def bZ.exit{D':Ends}(h1:D'.rt=D.rt)(h2:D'.ct=D.ct)(h3:D'.bk=D.bk){E:End}(h:bZ K x σ fs H D E):bZ K true σ fs H D' E:=by
 cases E with
 | nx bL=>exact λhx=>nomatch hx
 | nc bL=>exact λσ' H' g' s'=>⟨λhx=>(nomatch hx),h2▸(h σ' H' g' s').2⟩
 | bk bL=>exact λσ' H' g' s'=>h3▸h σ' H' g' s'
 | ct bL=>exact λσ' H' g' s'=>h2▸h σ' H' g' s'
 | rt v=>exact λu σ' bL H' g' s' r=>h1▸h u σ' bL H' g' s' r
 | ro v a l=>exact λu σ' bL H' g' s' o r=>h1▸h u σ' bL H' g' s' o r
 | rl l=>exact λa ws σ' bL H' g' s' f e r=>h1▸h a ws σ' bL H' g' s' f e r
end
section
variable{X:Cx}{a b c e o:r9}{pos p:Pos}{fs bL:br}{st:ut}{SA rest sa sb:O ut}{T T1:Type}{w wk:W T}{out:T->End}{we:W PV}{wl:W (O PV)}{x:Bool}
def End.O0:End->Prop
 | .rt _=>True
 | .rl _=>True
 | .ro _ _ _=>True
 | _=>False
def bZ.ajl{D':Ends}{y:Bool}{E:End}(ho:E.O0)(e:D'.rt=D.rt)(h:bZ K x σ fs H D E):bZ K y σ fs H D' E:=by
 cases E with
 | rt v=>exact λu σ' bL H' g s r=>e▸h u σ' bL H' g s r
 | rl v=>exact λa ws σ' bL H' g s f ea r=>e▸h a ws σ' bL H' g s f ea r
 | ro v a l=>exact λu σ' bL H' g s o r=>e▸h u σ' bL H' g s o r
 | _=>exact ho.elim
def Jd(X:Cx)(K:Ab)(x:Bool)(rest:O ut){T:Type}(out:T->End):TS:=λD σ H=>∃bL w',SF X K x bL rest w' out/\fS K x bL w' out D σ H
def Xj:q9 X rest (Jd X K x rest out):=λZ s σ H D I ⟨bL,w',h,q⟩=>h.p Z s σ H D I q
def Ub:q9 X rest aa0:=λ_ _ _ _ _ _ h=>h.elim
def SF.step{t:TS}(h:PS X st t)(hq:∀D σ H,fS K x fs w out D σ H->t {D with nx:=Jd X K x rest out D} σ H):SF X K x fs (st::rest) w out:=⟨q9.imp (Js h Xj) λD σ H q=>hq D σ H q⟩
def SF.last{t:TS}(h:PS X st t)(hq:∀D σ H,fS K x fs w out D σ H->t {D with nx:=λ_ _=>False} σ H):SF X K x fs (st::rest) w out:=⟨q9.imp (Js h Ub) λD σ H q=>hq D σ H q⟩
def SF.nil{t:T}(h:out t=.nx bL)(hl:i7 fs bL):SF X K false fs [] (.ret t) out:=⟨q9.imp zQ λD σ H ⟨sr,q⟩=>by
 have q:bZ K false σ fs H D (out t):=q;rw[h]at q;exact q rfl σ H (c6.le sr hl) (sr.le hl)⟩
def SF.eL{t:T}(h:out t=.nc bL)(hl:i7 fs bL):SF X K false fs [] (.ret t) out:=⟨q9.imp zQ λD σ H ⟨sr,q⟩=>by
 have q:bZ K false σ fs H D (out t):=q;rw[h]at q;exact(q σ H (c6.le sr hl) (sr.le hl)).1 rfl⟩
def SF.cont{t:T}(h:out t=.nc bL\/out t=.ct bL)(hl:i7 fs bL):SF X K x fs (.Continue pos::rest) (.ret t) out:=SF.last Jt λD σ H ⟨sr,q⟩=>by
 have q:bZ K x σ fs H D (out t):=q;rcases h with h | h
 ·rw[h]at q;exact(q σ H (c6.le sr hl) (sr.le hl)).2
 ·rw[h]at q;exact q σ H (c6.le sr hl) (sr.le hl)
def SF.ret{k:PV->T}(he:EF X K fs e we)(h:∀v,out (k v)=.rt v):SF X K x fs (.Return (am e) pos::rest) (.bind we λv=>.ret (k v)) out:=SF.last (zS he.p) λD σ H ⟨sr,q⟩=>⟨sr,we.mono (λv q1 u H1 g1 s1 v1=>by
 have q1:bZ K x σ fs H D (out (k v)):=q1;rw[h]at q1;exact q1 u σ fs H1 g1.f s1 v1) q⟩
def SF.c8{out:PV->End}(he:EF X K fs e we)(h:∀v,out v=.rt v):SF X K x fs (.Return (am e) pos::rest) we out:=SF.ret (k:=λv=>v) he h
def SF.ajc{k:O PV->T}(he:LF X K fs e wl)(h:∀l,out (k l)=.rl l):SF X K x fs (.Return (am e) pos::rest) (.bind wl λl=>.ret (k l)) out:=SF.last (zS he.p) λD σ H ⟨sr,q⟩=>⟨sr,wl.mono (λl q1 a ws H1 g1 s1 n e v1=>by
 have q1:bZ K x σ fs H D (out (k l)):=q1;rw[h]at q1;exact q1 a ws σ fs H1 g1.f s1 (.inl n) e v1) q⟩
def SF.fZ{out:O PV->End}(he:LF X K fs e wl)(h:∀v,out v=.rl v):SF X K x fs (.Return (am e) pos::rest) wl out:=SF.ajc (k:=λv=>v) he h
def SF.aeP(i:Nat){y:Str}{t:T}(hs:fs[i]?=am (am (.ol q0 l)))(h:out t=.rl l)(hN:‹X.N[i]?=am y›)(hv:ye X.env.scope y:=by first | exact CN rfl | exact Cq (CN rfl) | exact Cq (Cq rfl))(hd: ~~~(gK y))(g9: ~~~(zk y)):SF X K x fs (.Return (am (.Name y p)) pos::rest) (.ret t) out:=SF.last (zS (dm hN hv hd g9)) λD σ H ⟨sr,q⟩=>by
 have q:bZ K x σ fs H D (out t):=q;rw[h]at q;obtain⟨u,e1,r⟩:=sr.at' i _ hs;rcases r with⟨v,e,_⟩ | ⟨a,e,r⟩
 ·cases e
 ·subst e;obtain⟨_,ws,q1,q2⟩:=r;exact⟨_,e1,q a ws σ fs H .refl sr (.inr ⟨i,_,_,hs,rfl,by simp,e1,.inl rfl⟩) q1 q2⟩
def SF.aeQ(i:Nat){ad:f8}{k:PV->T}(hs:fs[i]?=am (am (.ol (am ad) l)))(he:EF X K fs e we)(h:∀v,out (k v)=.ro v ad l):SF X K x fs (.Return (am e) pos::rest) (.bind we λv=>.ret (k v)) out:=SF.last (zS he.p) λD σ H ⟨sr,q⟩=>⟨sr,we.mono (λv q1 u H1 g1 s1 v1=>by
 have q1:bZ K x σ fs H D (out (k v)):=q1;rw[h]at q1;exact q1 u σ fs H1 g1.f s1 ⟨i,hs⟩ v1) q⟩
def SF.expr{k:PV->W T}(he:EF X K fs e we)(hr:∀v,SF X K x fs rest (k v) out)(hs:‹sB e ce pos.line X.env=pure false›):SF X K x fs (.Expr e pos::rest) (.bind we k) out:=SF.step (pR he.p hs) λD σ H ⟨sr,q⟩=>
 ⟨sr,we.mono (λv q1 u H1 g1 s1 v1=>⟨fs,k v,hr v,s1,(k v).mono (λt q2=>q2.go g1.f sr s1) q1⟩) q⟩
def SF.set{y:Str}{k:PV->W T}(hN:X.N.Nodup)(hi:X.N[i]?=am y)(hx:Loc X.env.scope y)(he:EF X K fs e we)(hr:∀v,SF X K x (fs.set i (am (.val v))) rest (k v) out)(hs:‹sB e (am (.Name y p')) pos.line X.env=pure false›)
  (hf:Wm X y:=by first | exact .inl rfl | exact .inr rfl | assumption):SF X K x fs (.Assign [.Name y p'] e pos::rest) (.bind we k) out:=SF.step (zR hN hi hx he.p hs hf) λD σ H ⟨sr,q⟩=>
 ⟨sr,we.mono (λv q1 u H1 g1 s1 v1=>⟨_,k v,hr v,s1.f6 v1 i,(k v).mono (λt q2=>q2.go (g1.f.trans (c6.f6 s1 u v i)) sr (s1.f6 v1 i)) q1⟩) q⟩
def SF.ai9{y:Str}{k:O PV->W T}(hN:X.N.Nodup)(hi:X.N[i]?=am y)(hx:Loc X.env.scope y)(he:LF X K fs e wl)(hr:∀l,SF X K x (fs.set i (am (.ol ce l))) rest (k l) out)(hs:‹sB e (am (.Name y p')) pos.line X.env=pure false›)
  (hf:Wm X y:=by first | exact .inl rfl | exact .inr rfl | assumption):SF X K x fs (.Assign [.Name y p'] e pos::rest) (.bind wl k) out:=SF.step (zR hN hi hx he.p hs hf) λD σ H ⟨sr,q⟩=>by
 refine⟨sr,wl.mono (λl q1 a ws H1 g1 s1 n e v1=>?_) q⟩;have no:=sr.noOwn n;have s2:=s1.Tf (t:=.ol ce l) ⟨by simp,ws,e,v1⟩ no i;exact⟨_,k l,hr l,s2,(k l).mono (λt q2=>q2.go (c6.Tf s1 g1.f no n i) sr s2) q1⟩
def SF.bN(i:Nat){t:SL}(hs:fs[i]?=am (am t))(hr:SF X K x (fs.set i (am (.val t.bv))) SA w out)(hb:‹t.bw=true›):SF X K x fs SA w out:=⟨λZ s σ H D I ⟨sr,q⟩=>by
 obtain⟨u,e1,r⟩:=sr.at' i _ hs;have ho:=SL.V7 hb;rcases r with⟨v,e,_⟩ | ⟨a,e,oa⟩
 ·subst e;cases hb
 ·subst e;obtain⟨ob,o,h1,n1,n2,I2,vr⟩:=agq I oa hb;have ow:∀b,dc σ (fs.set i (am (.val t.bv))) b->dc σ fs b:=λb z=>by
   obtain⟨j,t,x,z1,z2,z3,z4⟩:=z;rcases b9 z1 with⟨rfl,rfl⟩ | ⟨n,z1⟩
   ·cases z2
   ·exact⟨j,t,x,z1,z2,z3,z4⟩
  have s2:=sr.agp hs ho e1 h1 n1 n2 vr;have g2:c6 σ fs H σ (fs.set i (am (.val t.bv))) (upd H a (.bN ob o)):=by
   refine⟨λb o z n=>⟨?_,λy=>n (ow b y)⟩,λb z=>?_,λb φ z=>?_⟩
   ·intro _;rw[aq (λy=>by subst y;exact n ⟨i,_,_,hs,ho,e1,.inl rfl⟩)];exact z
   ·by_cases c:b=a
    ·subst c;rw[aD]at z;cases z
    ·rw[aq c]at z;exact z
   ·obtain⟨j,z1,z2⟩:=z;have:j≠i:=λy=>by subst y;rw[hs]at z1;cases z1;cases hb
    exact .inl ⟨j,by rw[aL this];exact z1,z2⟩
  exact hr.p Z s σ _ D I2 ⟨s2,w.mono (λt q3=>q3.go g2 sr s2) q⟩⟩
variable{tc:W Bool}
def SF.ifT(hc:TF X K fs c tc)(ha:SF X K x fs sa w out)(hb:SF X K x fs sb wk out):SF X K x fs [.If c sa sb pos] (.bind tc λb=>if b=true then w else wk) out:=⟨q9.imp (Xu (Tj hc.p ha.p hb.p)) λD σ H ⟨sr,q⟩=>⟨sr,tc.mono (λk q1 H1 g1 s1=>by
 cases k with
 | true=>exact Ha ⟨s1,w.mono (λt q2=>q2.go g1.f sr s1) q1⟩
 | false=>exact Hb ⟨s1,wk.mono (λt q2=>q2.go g1.f sr s1) q1⟩) q⟩⟩
def SF.US(hc:TF X K fs c tc)(ha:SF X K true fs sa w out)(hb:SF X K x fs rest wk out):SF X K x fs (.If c sa [] pos::rest) (.bind tc λb=>if b=true then w else wk) out:=SF.step (Tj hc.p ha.p zQ) λD σ H ⟨sr,q⟩=>⟨sr,tc.mono (λk q1 H1 g1 s1=>by
 cases k with
 | true=>exact Ha ⟨s1,w.mono (λt q2=>bZ.exit (D:=D) (D':={D with nx:=Jd X K x rest out D}) rfl rfl rfl (q2.go g1.f sr s1)) q1⟩
 | false=>exact Hb ⟨fs,wk,hb,s1,wk.mono (λt q2=>q2.go g1.f sr s1) q1⟩) q⟩
def adw(X:Cx)(K:Ab)(x:Bool)(rest:O ut){T:Type}(w:W T)(out:T->End):End->Prop
 | .nx bL=>SF X K x bL rest w out
 | .nc bL=>False
 | .bk bL=>∃t,w=.ret t/\out t=.bk bL
 | .ct bL=>∃t,w=.ret t/\(out t=.ct bL\/out t=.nc bL)
 | .rt v=>∃t,w=.ret t/\out t=.rt v
 | .rl l=>∃t,w=.ret t/\out t=.rl l
 | .ro v a l=>∃t,w=.ret t/\out t=.ro v a l
def adw.r{E:End}(sr:aU K H σ fs)(h:adw X K x rest w out E)(q:w.run λt=>bZ K x σ fs H D (out t)):bZ K false σ fs H {D with nx:=Jd X K x rest out D} E:=by
 cases E with
 | nx bL=>exact λ_ σ' H' g' s'=>⟨bL,w,h,s',w.mono (λt q2=>q2.go g' sr s') q⟩
 | nc bL=>exact h.elim
 | bk bL=>
  obtain⟨t,rfl,h⟩:=h;have q:bZ K x σ fs H D (out t):=q;rw[h]at q;exact q
 | ct bL=>
  obtain⟨t,rfl,h⟩:=h;have q:bZ K x σ fs H D (out t):=q;rcases h with h | h
  ·rw[h]at q;exact q
  ·rw[h]at q;exact λσ' H' g s=>(q σ' H' g s).2
 | rt v=>
  obtain⟨t,rfl,h⟩:=h;have q:bZ K x σ fs H D (out t):=q;rw[h]at q;exact q
 | rl v=>
  obtain⟨t,rfl,h⟩:=h;have q:bZ K x σ fs H D (out t):=q;rw[h]at q;exact q
 | ro v a l=>
  obtain⟨t,rfl,h⟩:=h;have q:bZ K x σ fs H D (out t):=q;rw[h]at q;exact q
variable{w1 w2:W T1}{out1:T1->End}{k:T1->W T}
def SF.ifS(hc:TF X K fs c tc)(ha:SF X K false fs sa w1 out1)(hb:SF X K false fs sb w2 out1)(hr:∀t,adw X K x rest (k t) out (out1 t)):SF X K x fs (.If c sa sb pos::rest) (.bind tc λb=>.bind (if b=true then w1 else w2) k) out:=SF.step (Tj hc.p ha.p hb.p) λD σ H ⟨sr,q⟩=>⟨sr,tc.mono (λb q1 H1 g1 s1=>by
 have fin:∀t,(k t).run (λt=>bZ K x σ fs H D (out t))->bZ K false σ fs H {D with nx:=Jd X K x rest out D} (out1 t):=λt q=>(hr t).r sr q;cases b with
 | true=>exact Ha ⟨s1,w1.mono (λt q2=>(fin t q2).go g1.f sr s1) q1⟩
 | false=>exact Hb ⟨s1,w2.mono (λt q2=>(fin t q2).go g1.f sr s1) q1⟩) q⟩
end
end
end FL
variable{is:O Nat}
namespace FL
section
variable[bU]
variable{K:Ab}
def JF(K:Ab)(H:Hp)(J:It)(l:O PV):Prop:=l.length<=sizeLine/\∀H',a9 K H H'->(∀(i:Nat) (p:PV),l[i]?=am p->J.go i H'/\∀x H2,J.ZF i H' x H2->i5 H' H2/\VR K [] H2 x p)/\J.stop l.length H'
def JF.tk{J:It}(t:a9 K H H')(h:JF K H J l):JF K H' J l:=⟨h.1,λH2 t2=>h.2 H2 (a9.trans t t2)⟩
def fIt(K:Ab)(fs:br)(w:W (O PV)):TI:=λσ H R=>aU K H σ fs/\w.run λl=>∀J H',de σ fs H H'->aU K H' σ fs->JF K H' J l->R J H'
structure wM(X:Cx)(K:Ab)(fs:br)(tg e:r9)(w:W (List PV)):Prop where p:PI X tg e (fIt K fs w)
section
variable{a c:r9}
def Zw{ad:f8}(h:WC K H ad vs)(r:aG K [] H vs l)(hz:l.length<=sizeLine):JF K H (Itl K ad) l:=⟨hz,λH' t=>by
 have e1:=(t.f _ _ h).sq;have e2:=aG.tk t r;refine⟨λi p hp=>?_,vs,e1,by rw[e2.length];exact Ak _⟩;obtain⟨v,h3,h4⟩:=e2.get hp;refine⟨⟨vs,v,e1,h3⟩,λx H3 y=>?_⟩;obtain⟨rfl,y⟩:=y;have:=y vs e1;rw[h3]at this;cases this;exact⟨i5.refl _,h4⟩⟩
def adt{ad:f8}(h:H ad=am (.tup vs))(r:aG K [] H vs l)(hz:l.length<=sizeLine):JF K H (Itt K ad) l:=⟨hz,λH' t=>by
 have e1:=dJ.of (K:=K) (t.t _ _ h);have e2:=aG.tk t r;refine⟨λi p hp=>?_,vs,e1,by rw[e2.length];exact Ak _⟩;obtain⟨v,h3,h4⟩:=e2.get hp;refine⟨⟨vs,v,e1,h3⟩,λx H3 y=>?_⟩;obtain⟨rfl,y⟩:=y;have:=y vs e1;rw[h3]at this;cases this;exact⟨i5.refl _,h4⟩⟩
def bg(hK:X.K=K)(h:IF X K fs e wl):wM X K fs tg e wl:=⟨by
 subst hK;intro Z s σ H R I ⟨sr,q⟩;refine bV (h.p Z s σ H (λu H1=>∃l,SqI X.K H1 u l/\∀J,JF X.K H1 J l->R J H1) I ⟨sr,wl.mono (λl q1 u H1 g1 s1 v1=>⟨l,v1,λJ j=>q1 J H1 g1 s1 j⟩) q⟩) λv s1 ⟨x,H1,I1,r1,l,⟨ad,vs,e,hh,rs⟩,q1⟩=>?_;subst e;cases r1;rcases hh with hh | hh
 ·obtain⟨au,rv,pl,hz⟩:=I1.list hh.sq;refine Dz pl.isList ?_;refine⟨s1.heap.objs.size,[s1.heap.objs.size],_,_,H1,rfl,I1.kept (t':=s1.toks) λb o e=>Ag _ e,ym ad _,⟨_,Ao _ rfl,rfl,rfl⟩,λb hb=>?_,q1 _ (Zw hh rs (by rw[<- rs.length];exact hz))⟩;have e:b=s1.heap.objs.size:=by simpa using hb
  subst e;exact I1.xT (Ak _) (I1.a8.fresh (Ak _))
 ·obtain⟨au,rv,pl,hz⟩:=I1.tuple (dJ.of hh);refine Dr (show s1.heap.IsTuple ad au.toArray from pl) ?_;refine⟨s1.heap.objs.size,[s1.heap.objs.size],_,_,H1,rfl,I1.kept (t':=s1.toks) λb o e=>Ag _ e,uW ad _,⟨_,Ao _ rfl,rfl,rfl⟩,λb hb=>?_,q1 _ (adt hh rs (by rw[<- rs.length];exact hz))⟩;have e:b=s1.heap.objs.size:=by simpa using hb
  subst e;exact I1.xT (Ak _) (I1.a8.fresh (Ak _))⟩
def okN(i j:Int):Prop:=-(2 ^ 62)<=i/\i < 2 ^ 62/\-(2 ^ 62)<=j/\j < 2 ^ 62/\(j-i).toNat<=sizeLine
def lO:PV->W (O PV)
 | .int j=>.e6 (okN 0 j) (.ret (gJ 0 j.toNat))
 | _=>.fail
def Ot:PV->PV->PV->W (O PV)
 | .int i,.int j,.int k=>.e6 (k = -1/\okN j i) (.ret (ox i (i-j).toNat))
 | _,_,_=>.fail
def adu(lo:Int)(n:Nat)(hz:n<=sizeLine):JF K H (Itr lo n) (gJ lo n):=⟨by rw[kC];exact hz,λH' t=>⟨λi p hp=>by
  obtain⟨h1,rfl⟩:=sD hp;refine⟨h1,λx H2 y=>?_⟩;obtain⟨rfl,rfl⟩:=y;exact⟨i5.refl _,.int _⟩,by show n<=(gJ lo n).length;rw[kC];exact Ak _⟩⟩
theorem g8(hg:Gl X "range")(hm:X.mg "range"=ce)(ha:EF X K fs a wa)(hs:‹nn [a] X.env=[(false,pr a X.env)]›):wM X K fs tg (.Call (.Name "range" p) [a] [] pos) (.bind wa lO):=
 ⟨PI.imp (Qu hg hm (aX ha.p bW hs) hs) λσ H R ⟨sr,q⟩=>⟨sr,wa.mono (λx q1 u1 H1 g1 s1 v1=>by
  cases v1 with
  | int j=>exact⟨_,rfl,q1.1.2.2.1,q1.1.2.2.2.1,q1.2 _ H1 g1 s1 (adu _ _ (by have:=q1.1.2.2.2.2;omega))⟩
  | _=>exact q1.elim) q⟩⟩
def OZ(hg:Gl X "range")(hm:X.mg "range"=ce)(ha:EF X K fs a wa)(hb:EF X K fs b wb)(hc:EF X K fs c wc)(hs:‹nn [a,b,c] X.env=[(false,pr a X.env),(false,pr b X.env),(false,pr c X.env)]›)(sE:‹nn [b,c] X.env=[(false,pr b X.env),(false,pr c X.env)]›)(hs3:‹nn [c] X.env=[(false,pr c X.env)]›):wM X K fs tg (.Call (.Name "range" p) [a,b,c] [] pos) (.bind wa λx=>.bind wb λy=>.bind wc λz=>Ot x y z):=
 ⟨PI.imp (Qt hg hm (aX ha.p (aX hb.p (aX hc.p bW hs3) (by show nn _ _=_;rw[sE,hs3])) (by show nn _ _=_;rw[hs,sE])) hs sE) λσ H R ⟨sr,q⟩=>⟨sr,wa.mono (λx q1 u1 H1 g1 s1 v1=>⟨s1,wb.mono (λy q2 u2 H2 g2 s2 v2=>⟨s2,wc.mono (λz q3 u3 H3 g3 s3 v3=>by
  cases v1 with
  | int i=>
   cases v2 with
   | int j=>
    cases v3 with
    | int k=>
     obtain⟨⟨rfl,k1,k2,k3,k4,k5⟩,q3⟩:=q3;refine⟨_,_,rfl,⟨k3,k4,k1,k2⟩,q3 _ H3 ((g1.trans g2).trans g3) s3 ⟨by rw[yZ];exact k5,λH' t=>⟨λi p hp=>?_,?_⟩⟩⟩
     ·obtain⟨h1,rfl⟩:=sL hp;refine⟨h1,λx H2 y=>?_⟩;obtain⟨rfl,rfl⟩:=y;exact⟨i5.refl _,.int _⟩
     ·exact Fe (yZ _ _).symm
    | _=>exact q3.elim
   | _=>exact q3.elim
  | _=>exact q3.elim) q2⟩) q1⟩) q⟩⟩
def nu(hK:X.K=K){kk:Nat}(hg:Gl X "enumerate")(hm:X.mg "enumerate"=ce)(h:IF X K fs e wl)(Lx:‹fR X e []›):wM X K fs (.Tuple Ñ kk tp) (.Call (.Name "enumerate" p1) [e] [] p2) (.bind wl λl=>.e6 (l.length<=sizeLine) (.ret (dI 0 l))):=
 ⟨PI.imp (Tw K hK hg hm h.p Lx) λσ H R ⟨sr,q⟩=>⟨sr,wl.mono (λl q1 u1 H1 g1 s1 v1=>by
  obtain⟨ad,vs,rfl,hh,rs⟩:=v1;have yl:∀{H':Hp}{i:Nat}{x v:V}{y:PV}{pp:f8},H' pp=ce->VR K [] H' v y->i5 H' (upd H' pp (.tup [.int (i:Int),v]))/\VR K [] (upd H' pp (.tup [.int (i:Int),v])) (.ref pp) (.tup [.int ((0+i:Nat):Int),y]):=λ{H' i x v y pp} hn h4=>
   have sm:=kj hn (.tup [.int (i:Int),v])
   ⟨sm,.tup aD (.cons (by rw[AL];exact .int _) (.cons (VR.tk sm.eJ h4) .nil))⟩
  refine⟨ad,rfl,?_⟩;rcases hh with hh | hh
  ·refine .inl ⟨⟨vs,hh.sq⟩,q1.2 _ H1 g1 s1 ⟨by rw[bT];exact q1.1,λH' t=>⟨λi p hp=>?_,vs,(t.f _ _ hh).sq,by rw[rs.length,bT];exact Ak _⟩⟩⟩;obtain⟨y,hy,rfl⟩:=ft hp;obtain⟨v,h3,h4⟩:=(aG.tk t rs).get hy;refine⟨⟨vs,v,(t.f _ _ hh).sq,h3⟩,λx H3 z=>?_⟩;obtain⟨pp,x0,rfl,hn,rfl,hz⟩:=z;have:=hz vs (t.f _ _ hh).sq;rw[h3]at this;cases this;exact yl (x:=.aJ) hn h4
  ·refine .inr ⟨⟨vs,dJ.of hh⟩,q1.2 _ H1 g1 s1 ⟨by rw[bT];exact q1.1,λH' t=>⟨λi p hp=>?_,vs,dJ.of (t.t _ _ hh),by rw[rs.length,bT];exact Ak _⟩⟩⟩;obtain⟨y,hy,rfl⟩:=ft hp;obtain⟨v,h3,h4⟩:=(aG.tk t rs).get hy;refine⟨⟨vs,v,dJ.of (t.t _ _ hh),h3⟩,λx H3 z=>?_⟩;obtain⟨pp,x0,rfl,hn,rfl,hz⟩:=z;have:=hz vs (dJ.of (t.t _ _ hh));rw[h3]at this;cases this;exact yl (x:=.aJ) hn h4) q⟩⟩
end
def u7:O Nat->O V->L2.St->L2.St
 | i::is,u::us,σ=>u7 is us (σ.set i (am u))
 | _,_,σ=>σ
def fG(K:Ab)(fs:br)(is:O Nat)(wt:PV->W T)(dh:T->br):TG:=λv σ H Q=>∃p,aU K H σ fs/\VR K [] H v p/\(wt p).run λt=>∀us,c6 σ fs H (u7 is us σ) (dh t) H->aU K H (u7 is us σ) (dh t)->Q (u7 is us σ) H
structure GF(X:Cx)(K:Ab)(fs:br)(tg:r9)(is:List Nat){T:Type}(wt:PV->W T)(dh:T->br):Prop where p:PG X tg (fG K fs is wt dh)
def oS:PV->W (PV×PV)
 | .tup [a,b]=>.ret (a,b)
 | _=>.fail
def un4:PV->W (PV×PV×PV×PV)
 | .tup [a,b,c,d]=>.ret (a,b,c,d)
 | _=>.fail
section
def g_1(h:PG X tg (e7 i)):GF X K fs tg [i] .ret (λp=>fs.set i (am (.val p))):=⟨PG.imp h λv σ H Q ⟨p,sr,r,q⟩=>q [v] (c6.f6 sr v p i) (sr.f6 r i)⟩
def Hw(hK:X.K=K)(h:PG X tg (acJ X.K 2 (vU (e7 i) (vU (e7 j) acK)))):GF X K fs tg [i,j] oS (λt=>(fs.set i (am (.val t.1))).set j (am (.val t.2))):=⟨PG.imp h λv σ H Q ⟨p,sr,r,q⟩=>by
 unfold oS at q
 split at q
 ·cases r with
  | tup e rs=>
   cases rs with
   | cons ra t=>
   cases t with
   | cons rb t=>
   cases t;have s1:=sr.f6 ra i;exact⟨_,_,rfl,dJ.of e,rfl,_,_,rfl,_,_,rfl,rfl,q [_,_] ((c6.f6 sr _ _ i).trans (c6.f6 s1 _ _ j)) (s1.f6 rb j)⟩
 ·exact q.elim⟩
def g_4{l:Nat}(hK:X.K=K)(h:PG X tg (acJ X.K 4 (vU (e7 i) (vU (e7 j) (vU (e7 k) (vU (e7 l) acK)))))):GF X K fs tg [i,j,k,l] un4 (λt=>(((fs.set i (am (.val t.1))).set j (am (.val t.2.1))).set k (am (.val t.2.2.1))).set l (am (.val t.2.2.2))):=⟨PG.imp h λv σ H Q ⟨p,sr,r,q⟩=>by
 unfold un4 at q
 split at q
 ·cases r with
  | tup e rs=>
   cases rs with
   | cons ra t=>
   cases t with
   | cons rb t=>
   cases t with
   | cons rc t=>
   cases t with
   | cons rd t=>
   cases t;have s1:=sr.f6 ra i;have s2:=s1.f6 rb j;have s3:=s2.f6 rc k;exact⟨_,_,rfl,dJ.of e,rfl,_,_,rfl,_,_,rfl,_,_,rfl,_,_,rfl,rfl,q [_,_,_,_] ((((c6.f6 sr _ _ i).trans (c6.f6 s1 _ _ j)).trans (c6.f6 s2 _ _ k)).trans (c6.f6 s3 _ _ l)) (s3.f6 rd l)⟩
 ·exact q.elim⟩
end
section
variable{S T:Type}
def bS:O PV->S->(PV->S->W S)->W S
 | [],s,_=>.ret s
 | x::r,s,f=>.bind (f x s) λs'=>bS r s' f
inductive Lp(S T:Type) where
 | go (s:S) | out (t:T)
def lB:O PV->S->(PV->S->W (Lp S T))->W (Lp S T)
 | [],s,_=>.ret (.go s)
 | x::r,s,f=>.bind (f x s) λo=>match o with
  | .go s'=>lB r s' f
  | .out t=>.ret (.out t)
def R0(k:S->W T)(inj:R->T):Lp S R->W T
 | .go s=>k s
 | .out r=>.ret (inj r)
@[simp] theorem akq(k:S->W T)(inj:R->T)(s:S):R0 k inj (.go s)=k s:=(rfl)
@[simp] theorem ahW(k:S->W T)(inj:R->T)(r:R):R0 k inj (.out r)=.ret (inj r):=(rfl)
def lpE(hd:S->br)(out:R->End):Lp S R->End
 | .go s=>.nc (hd s)
 | .out r=>out r
def oQ(c:S->W Bool)(b:S->W S):Nat->S->W S
 | 0,_=>.fail
 | n+1,s=>.bind (c s) λk=>if k=true then .bind (b s) (oQ c b n) else .ret s
def uR(c:S->W Bool)(b:S->W S)(s:S):W S:=⟨λQ=>∃n,(oQ c b n s).run Q,λh ⟨n,q⟩=>⟨n,(oQ c b n s).mono h q⟩⟩
end
section
variable{c:r9}{rest:O ut}{S T T2:Type}{hd:S->br}{s0:S}{wt:PV->W T2}{dh:S->T2->br}{k:S->W T}{out:T->End}{R:Type}{inj:R->T}
theorem SF.for{f:PV->S->W S}{wb:T2->S->W S}(hp:Db (lc X.prog X.w) X.A X.env X.xe)(hc:X.calm=true)(hi:wM X K fs tg iter wl)(hl:i7 fs (hd s0))(hg:∀s,GF X K (hd s) tg is wt (dh s))(hf:∀p s,f p s=.bind (wt p) λt=>wb t s)
  (hb:∀s t,SF X K false (dh s t) body (wb t s) λs'=>.nc (hd s')) (hr:∀s,SF X K x (hd s) rest (k s) out) (hs:IJ X iter:=by intro _;rfl) :
  SF X K x fs (.For tg iter body [] pos::rest) (.bind wl λl=>.bind (bS l s0 f) k) out:=by
 refine SF.step (L3 (g:=λv σ H Q=>∃s,fG K (hd s) is wt (dh s) v σ H Q) (tb:=λD σ H=>∃s t,fS K false (dh s t) (wb t s) (λs'=>.nc (hd s')) D σ H) hp hc hi.p (λZ s σ H v u Q I r ⟨s1,q⟩=>(hg s1).p Z s σ H v u Q I r q) (λZ s σ H D I ⟨s1,t1,q⟩=>(hb s1 t1).p Z s σ H D I q) hs) λD σ H ⟨sr,q⟩=>?_;refine⟨sr,wl.mono (λl q1 J H1 g1 s1 jf=>?_) q⟩;refine⟨λi m σ' H'=>∃s,aU K H' σ' (hd s)/\c6 σ fs H σ' (hd s) H'/\JF K H' J l/\m=l.length-i/\i<=l.length/\(bS (l.drop i) s f).run λs'=>(k s').run λt=>bZ K x σ fs H D (out t),⟨l.length,s0,s1.le hl,g1.f.trans (c6.le s1 hl),jf,by simp,A9 _,by simpa using q1⟩,?_⟩;rintro i m σ2 H2 ⟨s,s2,g2,Yz,rfl,hi,q2⟩;obtain⟨j1,j2⟩:=Yz.2 H2 (a9.refl H2);by_cases gD:i < l.length
 ·obtain⟨go,yl⟩:=j1 i _ (Ad gD);have ed:=Bv gD;rw[ed]at q2;refine .inr ⟨go,λσ3 H3=>∃s',aU K H3 σ3 (hd s')/\c6 σ fs H σ3 (hd s') H3/\JF K H3 J l/\(bS (l.drop (i+1)) s' f).run λs'=>(k s').run λt=>bZ K x σ fs H D (out t),λσ3 H3 ⟨s',a1,a2,a3,a4⟩=>⟨l.length-(i+1),by omega,s',a1,a2,a3,rfl,gD,a4⟩,λv H3 y=>?_⟩;obtain⟨sm,vx⟩:=yl v H3 y;have q2:(f l[i] s).run λs'=>(bS (l.drop (i+1)) s' f).run λs'=>(k s').run λt=>bZ K x σ fs H D (out t):=q2;rw[hf]at q2;have s3:=s2.same sm;have g3:=g2.trans (c6.same sm s2);refine⟨s,_,s3,vx,(wt l[i]).mono (λt q4 us g4 s4=>?_) q2⟩;refine⟨s,t,s4,(wb t s).mono (λs' q5 σ5 H5 g5 s5=>?_) q4⟩;have fin:∃s',aU K H5 σ5 (hd s')/\c6 σ fs H σ5 (hd s') H5/\JF K H5 J l/\(bS (l.drop (i+1)) s' f).run λs'=>(k s').run λt=>bZ K x σ fs H D (out t):=⟨s',s5,(g3.trans g4).trans g5,Yz.tk (a9.trans sm.eJ (a9.trans (g4.dM s3) (g5.dM s4))),q5⟩;exact⟨λ_=>fin,fin⟩
 ·have e:i=l.length:=by omega
  subst e;rw[DZ]at q2;exact .inl ⟨j2,hd s,k s,hr s,s2,(k s).mono (λt q3=>q3.go g2 sr s2) q2⟩
theorem SF.lB{f:PV->S->W (Lp S R)}{wb:T2->S->W (Lp S R)}(hp:Db (lc X.prog X.w) X.A X.env X.xe)(hc:X.calm=true)(hi:wM X K fs tg iter wl)(hl:i7 fs (hd s0))(hg:∀s,GF X K (hd s) tg is wt (dh s))(hf:∀p s,f p s=.bind (wt p) λt=>wb t s)
  (ho:∀t,(out (inj t)).O0)
  (hb:∀s t,SF X K false (dh s t) body (wb t s) (lpE hd λr=>out (inj r))) (hr:∀s,SF X K x (hd s) rest (k s) out) (hs:IJ X iter:=by intro _;rfl) :
  SF X K x fs (.For tg iter body [] pos::rest) (.bind wl λl=>.bind (FL.lB l s0 f) (R0 k inj)) out:=by
 refine SF.step (L3 (g:=λv σ H Q=>∃s,fG K (hd s) is wt (dh s) v σ H Q) (tb:=λD σ H=>∃s t,fS K false (dh s t) (wb t s) (lpE hd λr=>out (inj r)) D σ H) hp hc hi.p (λZ s σ H v u Q I r ⟨s1,q⟩=>(hg s1).p Z s σ H v u Q I r q) (λZ s σ H D I ⟨s1,t1,q⟩=>(hb s1 t1).p Z s σ H D I q) hs) λD σ H ⟨sr,q⟩=>?_;refine⟨sr,wl.mono (λl q1 J H1 g1 s1 jf=>?_) q⟩;have lo:∀(D':Ends) (y:Bool) (t:R),D'.rt=D.rt->bZ K x σ fs H D (out (inj t))->bZ K y σ fs H D' (out (inj t)):=λD' y t e h=>bZ.ajl (ho t) e h;refine⟨λi m σ' H'=>∃s,aU K H' σ' (hd s)/\c6 σ fs H σ' (hd s) H'/\JF K H' J l/\m=l.length-i/\i<=l.length/\(FL.lB (l.drop i) s f).run λo=>(R0 k inj o).run λt=>bZ K x σ fs H D (out t),⟨l.length,s0,s1.le hl,g1.f.trans (c6.le s1 hl),jf,by simp,A9 _,by simpa using q1⟩,?_⟩;rintro i m σ2 H2 ⟨s,s2,g2,Yz,rfl,hi,q2⟩;obtain⟨j1,j2⟩:=Yz.2 H2 (a9.refl H2);by_cases gD:i < l.length
 ·obtain⟨go,yl⟩:=j1 i _ (Ad gD);have ed:=Bv gD;rw[ed]at q2;refine .inr ⟨go,λσ3 H3=>∃s',aU K H3 σ3 (hd s')/\c6 σ fs H σ3 (hd s') H3/\JF K H3 J l/\(FL.lB (l.drop (i+1)) s' f).run λo=>(R0 k inj o).run λt=>bZ K x σ fs H D (out t),λσ3 H3 ⟨s',a1,a2,a3,a4⟩=>⟨l.length-(i+1),by omega,s',a1,a2,a3,rfl,gD,a4⟩,λv H3 y=>?_⟩;obtain⟨sm,vx⟩:=yl v H3 y;have q2:(f l[i] s).run λo=>(match o with | .go s'=>FL.lB (l.drop (i+1)) s' f | .out t=>bn (.out t)).run λo=>(R0 k inj o).run λt=>bZ K x σ fs H D (out t):=q2;rw[hf]at q2;have s3:=s2.same sm;have g3:=g2.trans (c6.same sm s2);refine⟨s,_,s3,vx,(wt l[i]).mono (λt q4 us g4 s4=>?_) q2⟩;refine⟨s,t,s4,(wb t s).mono (λo q5=>?_) q4⟩;cases o with
  | out t5=>
   refine bZ.go (g3.trans g4) sr s4 (lo _ false t5 ?_ q5);rfl
  | go s'=>
   intro σ5 H5 g5 s5;have fin:∃s',aU K H5 σ5 (hd s')/\c6 σ fs H σ5 (hd s') H5/\JF K H5 J l/\(FL.lB (l.drop (i+1)) s' f).run λo=>(R0 k inj o).run λt=>bZ K x σ fs H D (out t):=⟨s',s5,(g3.trans g4).trans g5,Yz.tk (a9.trans sm.eJ (a9.trans (g4.dM s3) (g5.dM s4))),q5⟩;exact⟨λ_=>fin,fin⟩
 ·have e:i=l.length:=by omega
  subst e;rw[DZ]at q2;exact .inl ⟨j2,hd s,k s,hr s,s2,(k s).mono (λt q3=>q3.go g2 sr s2) q2⟩
def SF.Sb{cw:S->W Bool}{b:S->W S}(hp:Db (lc X.prog X.w) X.A X.env X.xe)(hl:i7 fs (hd s0))(hc:∀s,TF X K (hd s) c (cw s))(hb:∀s,SF X K false (hd s) body (b s) λs'=>.nc (hd s'))(hr:∀s,SF X K x (hd s) rest (k s) out) :
  SF X K x fs (.While c body [] pos::rest) (.bind (uR cw b s0) k) out:=by
 refine SF.step (Th (tc:=λσ H Q=>∃s,fT K (hd s) (cw s) σ H Q) (tb:=λD σ H=>∃s,fS K false (hd s) (b s) (λs'=>.nc (hd s')) D σ H) hp (λZ s σ H Q I ⟨s1,q⟩=>(hc s1).p Z s σ H Q I q) (λZ s σ H D I ⟨s1,q⟩=>(hb s1).p Z s σ H D I q)) λD σ H ⟨sr,n,q⟩=>?_;refine⟨λm σ' H'=>∃s,aU K H' σ' (hd s)/\c6 σ fs H σ' (hd s) H'/\(oQ cw b m s).run λs'=>(k s').run λt=>bZ K x σ fs H D (out t),⟨n,s0,sr.le hl,c6.le sr hl,q⟩,?_⟩;rintro m σ1 H1 ⟨s,s1,g1,q1⟩;cases m with
 | zero=>exact q1.elim
 | succ m=>
  refine⟨s,s1,(cw s).mono (λkk q2 H2 g2 s2=>?_) q1⟩;cases kk with
  | false=>
   refine Hb ?_;exact⟨hd s,k s,hr s,s2,(k s).mono (λt q3=>q3.go (g1.trans g2.f) sr s2) q2⟩
  | true=>
   refine Ha ?_;refine⟨λσ3 H3=>∃s,aU K H3 σ3 (hd s)/\c6 σ fs H σ3 (hd s) H3/\(oQ cw b m s).run λs'=>(k s').run λt=>bZ K x σ fs H D (out t),λσ3 H3 a=>⟨m,De m,a⟩,s,s2,(b s).mono (λs' q5 σ5 H5 g5 s5=>?_) q2⟩;have fin:∃s,aU K H5 σ5 (hd s)/\c6 σ fs H σ5 (hd s) H5/\(oQ cw b m s).run λs'=>(k s').run λt=>bZ K x σ fs H D (out t):=⟨s',s5,(g1.trans g2.f).trans g5,q5⟩;exact⟨λ_=>fin,fin⟩
end
end
end FL
variable{f:PL.PV->FL.W (Option PL.PV)}{pA:FL.br}
namespace FL
section
variable[bU]
variable{K:Ab}
def mD:O PV->(PV->W (Option PV))->W (O PV)
 | [],_=>.ret []
 | x::r,f=>.bind (f x) λo=>.bind (mD r f) λl=>.ret (o.toList++l)
def aZ:O PV->(PV->W PV)->W (O PV)
 | [],_=>.ret []
 | x::r,f=>.bind (f x) λy=>.bind (aZ r f) λl=>.ret (y::l)
theorem GC(f:PV->W PV):∀l,aZ l f=mD l λp=>.bind (f p) λv=>.ret (am v)
 | []=>rfl
 | x::r=>by
  show ap (f x) (λy=>ap (aZ r f) λl=>bn (y::l))=ap (f x) λy=>ap (mD r _) λl=>bn (y::l);rw[GC f r]
def cS(ix:O (Option Nat))(fs:br):br:=ix.map λo=>match o with | some j=>(fs[j]?).getD ce | none=>ce
section
def qX{s:SL}(h:(cS ix fs)[i]?=am (am s)):∃j,ix[i]?=am (am j)/\fs[j]?=am (am s):=by
 unfold cS at h;rw[Ai]at h;cases q:ix[i]? with
 | none=>rw[q]at h;cases h
 | some o=>
  rw[q]at h;cases o with
  | none=>cases h
  | some j=>
   refine⟨j,rfl,?_⟩;have h:(fs[j]?).getD ce=am s:=Option.some.inj h;cases z:fs[j]? with
   | none=>rw[z]at h;cases h
   | some y=>rw[z]at h;exact congrArg am h
def nR(h:ix[i]?=am (am j))(e:σ[j]?=am (am u)):(qW ix σ)[i]?=am (am u):=by
 unfold qW;rw[Ai,h];show am ((σ[j]?).getD ce)=_;rw[e];rfl
def aU.jK(s:aU K H σ fs)(inj:∀i i' j:Nat,ix[i]?=am (am j)->ix[i']?=am (am j)->i=i'):aU K H (qW ix σ) (cS ix fs):=by
 refine⟨by unfold qW cS;simp,λi t e=>?_,λi i' t u x y a e1 e2 o1 o2 q1 q2 z1 z2=>?_,s.tb⟩
 ·obtain⟨j,h1,h2⟩:=qX e;obtain⟨u,h3,h4⟩:=s.at' j t h2;exact⟨u,nR h1 h3,h4⟩
 ·obtain⟨j,h1,h2⟩:=qX e1;obtain⟨j',hE,uI⟩:=qX e2;obtain⟨u1,h3,_⟩:=s.at' j t h2;obtain⟨u2,U7,_⟩:=s.at' j' u uI;rw[nR h1 h3]at q1;rw[nR hE U7]at q2;cases q1;cases q2;have:=s.nd j j' t u x y a h2 uI o1 o2 h3 U7 z1 z2;subst this;exact inj i i' j h1 hE
structure Zx(ix:List (Option Nat))(σ:L2.St)(fs:br)(σ':L2.St)(bL:br):Prop where
 own:∀(i:Nat) (t:SL),bL[i]?=am (am t)->t.own=true->∃j,ix[i]?=am (am j)/\fs[j]?=am (am t)/\σ'[i]?=σ[j]?
def Zx.Fl(h:Zx ix σ fs σ' bL)(o:dc σ' bL a):dc σ fs a:=by
 obtain⟨i,t,x,e1,e2,e3,e4⟩:=o;obtain⟨j,h1,h2,h3⟩:=h.own i t e1 e2;exact⟨j,t,x,h2,e2,h3▸e3,e4⟩
def Zx.oW(h:Zx ix σ fs σ' bL)(o:i6 σ' bL φ a):i6 σ fs φ a:=by
 obtain⟨i,e1,e3⟩:=o;obtain⟨j,h1,h2,h3⟩:=h.own i _ e1 rfl;exact⟨j,h2,h3▸e3⟩
def Zx.out(h:Zx ix σ fs σ' bL)(s:aU K H1 σ fs)(g:de σ' bL H1 H2)(s2:aU K H2 σ' bL):aU K H2 σ fs/\de σ fs H1 H2:=by
 have gf:de σ fs H1 H2:=⟨λa o e n t=>g.keep a o e (λφ z=>n φ (h.oW z)) t,g.there⟩;refine⟨⟨s.len,λj t e=>?_,s.nd,s2.tb⟩,gf⟩;obtain⟨u,h1,h2⟩:=s.at' j t e;refine⟨u,h1,?_⟩;have tk:=gf.dM s;rcases h2 with⟨v,q,r⟩ | ⟨a,q,r⟩
 ·exact .inl ⟨v,q,VR.tk tk r⟩
 ·subst q;refine .inr ⟨a,rfl,?_⟩;by_cases c:∃b,t.own=true/\t.has a b/\dc σ' bL b
  ·obtain⟨b,ow,hb,i,t',x,c1,c2,c3,c4⟩:=c;obtain⟨j',k1,k2,k3⟩:=h.own i t' c1 c2;have jj:=s.nd j j' t t' a x b e k2 ow c2 h1 (k3▸c3) hb c4;subst jj;rw[e]at k2;cases k2;exact s2.ownAt c1 c2 (k3.trans h1)
  ·exact r.mono tk (λb o ow hb z nt=>g.yK z (λy=>c ⟨b,ow,hb,y⟩) nt)
theorem u5:∀{is:O Nat}{us:O V}{σ:L2.St}{i:Nat},i∉is->(u7 is us σ)[i]?=σ[i]?
 | [],us,σ,i,_=>by cases us <;> rfl
 | j::is,[],σ,i,_=>rfl
 | j::is,u::us,σ,i,h=>by
  rw[u7,u5 (λz=>h (AN _ z))];exact aL (λz=>h (by rw[z];exact Bt))
end
section
variable{sc:re}{T2:Type}{wt:PV->W T2}{dh:T2->br}{tf:T2->W Bool}{te:T2->W PV}
structure FF(X:Cx)(K:Ab)(fs:br)(Î:List r9)(w:W Bool):Prop where p:PFs X Î (fT K fs w)
def Vi:FF X K fs [] (.ret true):=⟨λZ s σ H Q I ⟨sr,q⟩=>XB Z s σ H Q I (q H .refl sr)⟩
def M9{c:r9}{w:W Bool}(h:TF X K fs c w):FF X K fs [c] w:=⟨XA h.p⟩
def yj(is:O Nat)(pA:br)(dh:T2->br):Prop:=∀t,(dh t).length=pA.length/\∀(i:Nat) (s:SL),(dh t)[i]?=am (am s)->(i∈is/\s.own=false)\/(i∉is/\pA[i]?=am (am s))
theorem aav(S:cj X.env.scope X.N sc N' ix)(hb:pA=cS ix fs)(hf:∀p,f p=.bind (wt p) λt=>.bind (tf t) λk=>if k=true then .bind (te t) λv=>.ret (am v) else .ret ce)(hl:yj is pA dh)(hr:∀t,i7 (dh t) pA)(w6:∀j∈is,ix[j]?=am ce) :
  ∀σ H Q,fL K fs (.bind wl λl=>mD l f) σ H Q->tLc ix (fIt K fs wl) (λv σ H Q=>fG K pA is wt dh v σ H Q) (λσ H Q=>∃t,fT K (dh t) (tf t) σ H Q) (λσ H Q=>∃t,fE K (dh t) (te t) σ H Q) σ H Q:=by
 subst hb;rintro σ H Q ⟨sr,q⟩;refine⟨sr,wl.mono (λl q1 J H1 g1 s1 jf D hD=>?_) q⟩;have inj:∀i i' j:Nat,ix[i]?=am (am j)->ix[i']?=am (am j)->i=i':=λi i' j h1 h2=>by
  have hi:i < N'.length:=by rw[<- S.len];exact(Am.mp h1).1
  have U3:i' < N'.length:=by rw[<- S.len];exact(Am.mp h2).1
  have e1:=(S.at h1 (Ad hi)).1;have e2:=(S.at h2 (Ad U3)).1;rw[e1]at e2;exact(List.getElem_inj S.nd).mp (Option.some.inj e2)
 have nD:=s1.noOwn hD;refine⟨λi m σ' ys H'=>∃acc,aU K H' σ fs/\de σ fs H H'/\aU K H' σ' (cS ix fs)/\Zx ix σ fs σ' (cS ix fs)/\JF K H' J l/\H' D=am (.lst ys)/\aG K [] H' ys acc/\acc.length<=i/\m=l.length-i/\i<=l.length/\
  (mD (l.drop i) f).run λr=>∀a vs H',de σ fs H H'->aU K H' σ fs->H a=ce->H' a=am (.lst vs)->aG K [] H' vs (acc++r)->Q (.ref a) H',⟨l.length,[],?_⟩,?_⟩
 ·have sm:=kj hD (.lst []);refine⟨s1.same sm,g1.trans (de.same sm),(s1.same sm).jK inj,⟨λi t e o=>?_⟩,jf.tk sm.eJ,aD,.nil,A9 _,by simp,A9 _,by simpa using q1⟩;obtain⟨j,h1,h2⟩:=qX e;obtain⟨u,h3,_⟩:=s1.at' j t h2;exact⟨j,h1,h2,by rw[nR h1 h3,h3]⟩
 rintro i m σ2 ys H2 ⟨acc,sO,gO,s2,inn,Yz,hy,vy,MW,rfl,hi,q2⟩;refine⟨hy,?_⟩;obtain⟨j1,j2⟩:=Yz.2 H2 (a9.refl H2);by_cases gD:i < l.length
 ·obtain⟨go,yl⟩:=j1 i _ (Ad gD);have ed:=Bv gD;rw[ed]at q2;refine .inr ⟨go,λv H3 y=>?_⟩;obtain⟨sm,vx⟩:=yl v H3 y;have q2:(f l[i]).run λo=>(mD (l.drop (i+1)) f).run λr=>∀a vs H',de σ fs H H'->aU K H' σ fs->H a=ce->H' a=am (.lst vs)->aG K [] H' vs (acc++(o.toList++r))->Q (.ref a) H':=q2;rw[hf]at q2;have s3:=s2.same sm;have sO3:=sO.same sm;have gO3:=gO.trans (de.same sm);have hy3:=sm _ _ hy;have vy3:=aG.tk sm.eJ vy;have jf3:=Yz.tk sm.eJ;refine⟨_,s3,vx,(wt l[i]).mono (λt q4 us g4 s4=>?_) q2⟩;have YG:Zx ix σ fs (u7 is us σ2) (dh t):=⟨λj u e o=>by
   rcases (hl t).2 j u e with⟨_,z⟩ | ⟨n,z⟩
   ·rw[z]at o;cases o
   ·obtain⟨j',k1,k2,k3⟩:=inn.own j u z o;exact⟨j',k1,k2,by rw[u5 n];exact k3⟩⟩
  refine⟨t,s4,(tf t).mono (λkk q5 H5 g5 s5=>?_) q4⟩;obtain⟨sO5,akt⟩:=YG.out sO3 g5 s5;have gO5:=gO3.trans akt;have tk5:=g5.dM s4;have nD4:¬dc (u7 is us σ2) (dh t) D:=λz=>nD (YG.Fl z);have hy5:=g5.yK hy3 nD4;have vy5:=aG.tk tk5 vy3;have jf5:=jf3.tk (g5.dM s4);have Ð:∀{H6:Hp},aU K H6 (u7 is us σ2) (dh t)->aU K H6 (u7 is us σ2) (cS ix fs)/\Zx ix σ fs (u7 is us σ2) (cS ix fs):=λ{H6} z=>⟨z.le (hr t),⟨λj u e o=>YG.own j u ((hr t).at j u e) o⟩⟩;cases kk with
  | false=>
   refine Hb ⟨l.length-(i+1),by omega,acc,sO5,gO5,(Ð s5).1,(Ð s5).2,jf5,hy5,vy5,by omega,rfl,gD,?_⟩;exact q5
  | true=>
   refine Ha ⟨t,s5,(te t).mono (λv6 q6 u6 H6 g6 s6 v6'=>?_) q5⟩;obtain⟨sO6,aks⟩:=YG.out sO5 g6 s6;have gO6:=gO5.trans aks;have tk6:=g6.dM s5;have ġ:=g6.yK hy5 nD4;have vy6:=aG.tk tk6 vy5;have tkD:=uA (K:=K) (.lst (ys++[u6])) ġ;have hD0:=g1.there D hD;refine⟨ġ,by rw[vy6.length];have:=Yz.1;omega,l.length-(i+1),by omega,acc++[v6],sO6.side nD ġ _,gO6.side hD0 _,((Ð s6).1).side (λz=>nD ((Ð s6).2.Fl z)) ġ _,(Ð s6).2,(jf5.tk (g6.dM s5)).tk (uA _ ġ),aD,aG.tk tkD (vy6.append (.cons v6' .nil)),by rw[Al];simp;omega,rfl,gD,?_⟩;refine(mD (l.drop (i+1)) f).mono (λr q7 a vs H7 g7 s7 n e v7=>q7 a vs H7 g7 s7 n e ?_) q6;simpa using v7
 ·have e:i=l.length:=by omega
  subst e;rw[DZ]at q2;exact .inl ⟨j2,q2 D ys H2 gO sO (g1.there D hD) hy (by simpa using vy)⟩
end
end
end FL
namespace L2
def um(l:f8)(items:Array db)(n:Nat)(b:f8)(cn:Array db)(n2:Nat)(sl:Array (Option db))(hc0:¬(!items.isEmpty&&Builtin.List.listTooLong (items.size+cn.size))=true)(ù:items.size<=sizeLine)(sE:items.size+cn.size<=sizeLine+1) :
  Meets (BT.«list.extend» ⟨[.ref l,.ref b],[]⟩) (λ_ R s=>s.heap.get? l=am {cls:=.type "list",dict:=ce,data:=.seq items n,slots:=#[]}/\s.heap.get? b=am {cls:=.type "list",dict:=ce,data:=.seq cn n2,slots:=sl}/\R (.ok (.ret AY)) {s with heap:=s.heap.update l (Be λx=>x++cn),toks:=s.toks}):=
 .of_wp λprog w A R s h=>by
  obtain⟨hp,g,d,tk,os⟩:=s;obtain⟨hl,hb,h⟩:=h;have f1:=E9;have f2:=DT;have f3:=D9;have f4:=D3;have f5:=D4;have Lw:(items++cn).size<=sizeLine+1:=by rw[Array.size_append];exact sE
  wp_walk using (CY hl rfl (hz:=ù) (_hz':=Lw)),BQ hl,BQ hb;exact⟨_,rfl,h⟩
def ae2(K:Ab):V->O V->Hp->VK->Prop:=λx vs H Q=>∃l b xs zs,x=.ref l/\vs=[.ref b]/\H l=am (.lst xs)/\(eI K H b zs\/dJ K H b zs)/\xs.length+zs.length<=sizeLine/\Jc H l (.lst (xs++zs)) (Q .aJ)
theorem Yd(K:Ab)(hK:X.K=K):NU X "list.extend" (ae2 K):=by
 subst hK;intro Z s σ H x vs v us Q I rx rv h;obtain⟨l,b,xs,zs,rfl,rfl,hH,hB | hB,hz,q⟩:=h
 ·cases rx;obtain⟨u,rfl,ru⟩:=rv.one;cases ru;obtain⟨z,au,n,r,hl,e⟩:=I.ud hH;obtain⟨dr,r2,⟨⟨cls,dd,data,sl⟩,n2,e2,hc,hd,mJ⟩,z2⟩:=I.list hB;simp only at hc hd mJ;subst hc hd mJ;have U0:=r2.length;have hsz:au.toArray.size+dr.toArray.size<=sizeLine:=by rw[Aj,Aj];omega
  have vR:¬(!au.toArray.isEmpty&&Builtin.List.listTooLong (au.toArray.size+dr.toArray.size))=true:=by
   rw[pY hsz,EA];exact Bg
  refine wT Eo ⟨_,e,rfl⟩ Ec (D2 _ _)
   (um l au.toArray n b dr.toArray n2 sl vR (by rw[Aj];omega) ∅) ⟨e,e2,?_⟩
  refine⟨.aJ,_,I.Mm (its':=au++dr) hH e (by simp) (r.append r2) ?_,rfl,q.at⟩;rw[Al];omega
 ·exact JL Z s σ H _ _ v us Q I rx rv ⟨l,b,xs,zs,rfl,rfl,hH,hB,hz,q⟩
end L2
variable{y z:Bz}{we:FL.W PL.PV}
namespace FL
section
variable[bU]
variable{K:Ab}
section
variable{sc:re}{T2:Type}{wt:PV->W T2}{dh:T2->br}{tf:T2->W Bool}{te:T2->W PV}
def ab5(hc:X.calm=true)(S:cj X.env.scope X.N sc N' ix)(hi:wM X K fs tg iter wl)(hg:∀cl C s2 H2 fp,GF (jK X sc N' cl C s2 H2 fp) K (cS ix fs) tg is wt dh)(ť:∀cl C s2 H2 fp t,FF (jK X sc N' cl C s2 H2 fp) K (dh t) Î (tf t))(he:∀cl C s2 H2 fp t,EF (jK X sc N' cl C s2 H2 fp) K (dh t) Ç (te t))
  (hf:∀p,f p=.bind (wt p) λt=>.bind (tf t) λk=>if k=true then .bind (te t) λv=>.ret (am v) else .ret ce) (hl:yj is (cS ix fs) dh/\∀t,i7 (dh t) (cS ix fs)) (w6:∀j∈is,ix[j]?=am ce) (hs:IJ X iter:=by intro _;rfl) :
  LF X K fs (.ListComp Ç [⟨tg,iter,Î,0⟩] sc pos) (.bind wl λl=>mD l f):=
 ⟨PE.imp (ae9 hc S hi.p (λcl C s2 H2 fp=>(hg cl C s2 H2 fp).p) (λcl C s2 H2 fp Z s σ H Q I ⟨t,q⟩=>(ť cl C s2 H2 fp t).p Z s σ H Q I q) (λcl C s2 H2 fp Z s σ H Q I ⟨t,q⟩=>(he cl C s2 H2 fp t).p Z s σ H Q I q) hs) (aav S rfl hf hl.1 hl.2 w6)⟩
def Z2{f:PV->W PV}(hc:X.calm=true)(S:cj X.env.scope X.N sc N' ix)(hi:wM X K fs tg iter wl)(hg:∀cl C s2 H2 fp,GF (jK X sc N' cl C s2 H2 fp) K (cS ix fs) tg is wt dh)(he:∀cl C s2 H2 fp t,EF (jK X sc N' cl C s2 H2 fp) K (dh t) Ç (te t))
  (hf:∀p,f p=.bind (wt p) te) (hl:yj is (cS ix fs) dh/\∀t,i7 (dh t) (cS ix fs)) (w6:∀j∈is,ix[j]?=am ce) (hs:IJ X iter:=by intro _;rfl) :
  LF X K fs (.ListComp Ç [⟨tg,iter,[],0⟩] sc pos) (.bind wl λl=>aZ l f):=by
 have:(λl=>aZ l f)=λl=>mD l λp=>.bind (wt p) λt=>.bind (.ret true) λk=>if k=true then .bind (te t) λv=>.ret (am v) else .ret ce:=funext λl=>by
  rw[GC];congr 1;funext p;rw[hf];rfl
 rw[this];exact ab5 (tf:=λ_=>.ret true) hc S hi hg (λ_ _ _ _ _ _=>Vi) he (λp=>rfl) hl w6 hs
def SF.ZL{rest:O ut}{out:T->End}{k:O PV->W T}(hc:X.calm=true)(hN:X.N.Nodup)(U3:X.N[i]?=am y)(hx:X.env.scope.names.lookup y=am .local)(S:cj X.env.scope X.N sc N' ix)(hi:wM X K fs tg iter wl)(hg:∀cl C s2 H2 fp,GF (jK X sc N' cl C s2 H2 fp) K (cS ix fs) tg is wt dh)(ť:∀cl C s2 H2 fp t,FF (jK X sc N' cl C s2 H2 fp) K (dh t) Î (tf t))(he:∀cl C s2 H2 fp t,EF (jK X sc N' cl C s2 H2 fp) K (dh t) Ç (te t))
  (hf:∀p,f p=.bind (wt p) λt=>.bind (tf t) λk=>if k=true then .bind (te t) λv=>.ret (am v) else .ret ce) (hl:yj is (cS ix fs) dh/\∀t,i7 (dh t) (cS ix fs)) (w6:∀j∈is,ix[j]?=am ce) (hr:∀l,SF X K x (fs.set i (am (.ol ce l))) rest (k l) out)
  (ur:‹sB (.ListComp Ç [⟨tg,iter,Î,0⟩] sc pos) (am (.Name y px)) xl.line X.env=pure true›) (hs:IJ X iter:=by intro _;rfl) :
  SF X K x fs (.Assign [.Name y px] (.ListComp Ç [⟨tg,iter,Î,0⟩] sc pos) xl::rest) (.bind (.bind wl λl=>mD l f) k) out:=
 SF.step (Ti hc hN U3 hx S hi.p (λcl C s2 H2 fp=>(hg cl C s2 H2 fp).p) (λcl C s2 H2 fp Z s σ H Q I ⟨t,q⟩=>(ť cl C s2 H2 fp t).p Z s σ H Q I q) (λcl C s2 H2 fp Z s σ H Q I ⟨t,q⟩=>(he cl C s2 H2 fp t).p Z s σ H Q I q) ur hs) λD σ H ⟨sr,q⟩=>
  aav (K:=K) S rfl hf hl.1 hl.2 w6 σ H _ ⟨sr,(ap wl λl=>mD l f).mono (λl q1 a ws H1 g1 s1 n e v1=>by
   have no:=sr.noOwn n;have s2:=s1.Tf (t:=.ol ce l) ⟨by simp,ws,e,v1⟩ no i;exact⟨_,k l,hr l,s2,(k l).mono (λt q2=>q2.go (c6.Tf s1 g1.f no n i) sr s2) q1⟩) q⟩
theorem GQ:∀{l:br}{i:Nat} (s:Option SL),l[i]?=am ce->i7 (l.set i s) l
 | [],_,_,h=>by simp at h
 | x::l,0,s,h=>by
  simp at h;subst h;exact .drop (i7.refl l)
 | x::l,i+1,s,h=>by
  rw[List.set_cons_succ];exact .keep (GQ s (by simpa using h))
def i7.trans{a b c:br}(h1:i7 a b)(h2:i7 b c):i7 a c:=by
 induction h1 generalizing c with
 | nil=>exact h2
 | drop h ih=>cases h2 with | drop h2=>exact .drop (ih h2) | keep h2=>exact .drop (ih h2)
 | keep h ih=>cases h2 with | drop h2=>exact .drop (ih h2) | keep h2=>exact .keep (ih h2)
def vI{l:br}{is:O Nat}(hl:l.length=pA.length/\∀(j:Nat) (s:SL),l[j]?=am (am s)->(j∈is/\s.own=false)\/(j∉is/\pA[j]?=am (am s)))(hi:pA[i]?=am ce) :
  (l.set i (am (.val v))).length=pA.length/\∀(j:Nat) (s:SL),(l.set i (am (.val v)))[j]?=am (am s)->(j∈is++[i]/\s.own=false)\/(j∉is++[i]/\pA[j]?=am (am s)):=by
 refine⟨by rw[B9];exact hl.1,λj s e=>?_⟩;rcases b9 e with⟨rfl,rfl⟩ | ⟨n,e⟩
 ·exact .inl ⟨by simp,rfl⟩
 ·rcases hl.2 j s e with⟨h1,h2⟩ | ⟨h1,h2⟩
  ·exact .inl ⟨by simp[h1],h2⟩
  ·exact .inr ⟨by simp[h1,n],h2⟩
def Z0(pA:br):pA.length=pA.length/\∀(j:Nat) (s:SL),pA[j]?=am (am s)->(j∈([]:O Nat)/\s.own=false)\/(j∉([]:O Nat)/\pA[j]?=am (am s)):=⟨rfl,λj s e=>.inr ⟨by simp,e⟩⟩
def ab1(hi:pA[i]?=am ce):yj [i] pA (λp=>pA.set i (am (.val p)))/\∀t,i7 (pA.set i (am (.val t))) pA:=⟨λt=>vI (is:=[]) (Z0 pA) hi,λt=>GQ _ hi⟩
def SR{l:br}{s:Option SL}(h:l[j]?=am ce)(n:j≠i):(l.set i s)[j]?=am ce:=by rw[aL n];exact h
def QR(hi:pA[i]?=am ce)(hj:pA[j]?=am ce)(n:j≠i):yj [i,j] pA (λt:PV×PV=>(pA.set i (am (.val t.1))).set j (am (.val t.2)))/\∀t:PV×PV,i7 ((pA.set i (am (.val t.1))).set j (am (.val t.2))) pA:=
 ⟨λt=>vI (is:=[i]) (vI (is:=[]) (Z0 pA) hi) hj,λt=>(GQ _ (SR hj n)).trans (GQ _ hi)⟩
end
section
variable{rest:O ut}{T:Type}{out:T->End}{wi:W PV}
def dN(sr:aU K H σ fs)(hs:fs[i]?=am (am (.ol q0 l))):∃a ws,σ[i]?=am (am (.ref a))/\H a=am (.lst ws)/\aG K [] H ws l:=by
 obtain⟨u,e1,r⟩:=sr.at' i _ hs;rcases r with⟨v,e,_⟩ | ⟨a,e,z,ws,q1,q2⟩
 ·cases e
 ·subst e;exact⟨a,ws,e1,q1,q2⟩
def pT{sT:O V}{l':O PV}(sr:aU K H σ fs)(hs:fs[i]?=am (am (.ol q0 l)))(e1:σ[i]?=am (am (.ref a)))(sx:kI a H H')(h':H' a=am (.lst sT))(r:aG K [] H sT l'):aU K H' σ (fs.set i (am (.ol q0 l')))/\c6 σ fs H σ (fs.set i (am (.ol q0 l'))) H':=
 iM (t':=.ol q0 l') sr hs rfl (by simp) e1 sx λtk=>⟨(sr.ownAt hs rfl e1).1,sT,h',aG.tk tk r⟩
def eY(l:O PV)(v:PV):W (O PV):=.e6 (l.length < sizeLine) (.ret (l++[v]))
theorem SF.append(i:Nat){k:O PV->W T}(hs:fs[i]?=am (am (.ol q0 l)))(hK:X.K=K)(hN:X.N[i]?=am y)(hv:ye X.env.scope y)(he:EF X K fs e we)(hr:∀l',SF X K x (fs.set i (am (.ol q0 l'))) rest (k l') out)
  (hd: ~~~(gK y)) (g9: ~~~(zk y)) (dz:‹pc (.Name y p) "append" X.env (pr (.Name y p) X.env)=pr (.Name y p) X.env›)
  (mI:‹Zy X bB [e]›)
  (dw:‹R5 Â bB›) (nA:‹fR X e []›) (du:‹kJ X bB []›)
  (ur:‹sB (.Call (.Attribute (.Name y p) "append" Â) [e] [] bB) ce pos.line X.env=pure false›) :
  SF X K x fs (.Expr (.Call (.Attribute (.Name y p) "append" Â) [e] [] bB) pos::rest) (.bind we λv=>.bind (eY l v) k) out:=
 SF.step (pR (oX K hK BI EN EM vq (dm hN hv hd g9) (aX he.p bW nA) dz mI dw nA du) ur) λD σ H ⟨sr,q⟩=>by
  obtain⟨a,ws,e1,h1,r1⟩:=dN sr hs;refine⟨_,e1,.inl ⟨rfl,_,eI.of h1⟩,sr,we.mono (λv q1 u H1 g1 s1 v1=>?_) q⟩;obtain⟨a',sT,xa,hE,Lv⟩:=dN s1 hs;rw[e1]at xa;cases xa;refine⟨a,sT,u,rfl,rfl,hE,by rw[Lv.length];exact q1.1,λH2 sx h2=>?_⟩;obtain⟨s2,g2⟩:=pT s1 hs e1 sx h2 (Lv.append (.one v1));exact⟨_,k _,hr _,s2,(k _).mono (λt q2=>q2.go (g1.f.trans g2) sr s2) q1.2⟩
def Vn(l m:O PV):W (O PV):=.e6 (l.length+m.length<=sizeLine) (.ret (l++m))
theorem SF.extend(i:Nat){k:O PV->W T}(hs:fs[i]?=am (am (.ol q0 l)))(hK:X.K=K)(hN:X.N[i]?=am y)(hv:ye X.env.scope y)(he:QF X K fs e wl)(hr:∀l',SF X K x (fs.set i (am (.ol q0 l'))) rest (k l') out)
  (hd: ~~~(gK y)) (g9: ~~~(zk y)) (dz:‹pc (.Name y p) "extend" X.env (pr (.Name y p) X.env)=pr (.Name y p) X.env›)
  (mI:‹Zy X bB [e]›)
  (dw:‹R5 Â bB›) (nA:‹fR X e []›) (du:‹kJ X bB []›)
  (ur:‹sB (.Call (.Attribute (.Name y p) "extend" Â) [e] [] bB) ce pos.line X.env=pure false›) :
  SF X K x fs (.Expr (.Call (.Attribute (.Name y p) "extend" Â) [e] [] bB) pos::rest) (.bind wl λm=>.bind (Vn l m) k) out:=
 SF.step (pR (oX K hK BI PySem.F.slot_list_extend PySem.F.type_list_extend (Yd K hK) (dm hN hv hd g9) (aX he.p bW nA) dz mI dw nA du) ur) λD σ H ⟨sr,q⟩=>by
  obtain⟨a,ws,e1,h1,r1⟩:=dN sr hs;refine⟨_,e1,.inl ⟨rfl,_,eI.of h1⟩,sr,wl.mono (λm q1 u H1 g1 s1 v1=>?_) q⟩;obtain⟨a',sT,xa,hE,Lv⟩:=dN s1 hs;rw[e1]at xa;cases xa;obtain⟨b,zs,rfl,hb,rb⟩:=v1.sq s1;refine⟨a,b,sT,zs,rfl,rfl,hE,hb,by rw[Lv.length,rb.length];exact q1.1,λH2 sx h2=>?_⟩;obtain⟨s2,g2⟩:=pT s1 hs e1 sx h2 (Lv.append rb);exact⟨_,k _,hr _,s2,(k _).mono (λt q2=>q2.go (g1.f.trans g2) sr s2) q1.2⟩
def zT(l:O PV):W (O PV×PV):=match l.getLast? with
 | some v=>.ret (l.dropLast,v)
 | none=>.fail
def SN{l:O PV}(h:l.getLast?=am v):l=l.dropLast++[v]:=by
 rw[List.getLast?_eq_some_iff]at h;obtain⟨ys,rfl⟩:=h;simp
theorem aG.snoc:∀{ws:O V}{l:O PV}{v:PV},aG K [] H ws (l++[v])->∃ÿ u,ws=ÿ++[u]/\aG K [] H ÿ l/\VR K [] H u v
 | _,[],_,.cons r .nil=>⟨[],_,rfl,.nil,r⟩
 | _,x::l,v,.cons r t=>by
  obtain⟨ÿ,u,rfl,h1,h2⟩:=aG.snoc t;exact⟨_::ÿ,u,rfl,.cons r h1,h2⟩
def SF.zU(i j:Nat){k:O PV×PV->W T}(hs:fs[i]?=am (am (.ol q0 l)))(ħ:j≠i)(hK:X.K=K)(hN:X.N[i]?=am y)(hv:ye X.env.scope y)(Ū:X.N.Nodup)(hj:X.N[j]?=am z)(hx:Loc X.env.scope z)(hr:∀t:O PV×PV,SF X K x ((fs.set i (am (.ol q0 t.1))).set j (am (.val t.2))) rest (k t) out)
  (hd: ~~~(gK y)) (g9: ~~~(zk y)) (dz:‹pc (.Name y p) "pop" X.env (pr (.Name y p) X.env)=pr (.Name y p) X.env›) (dw:‹R5 Â bB›)
  (ur:‹sB (.Call (.Attribute (.Name y p) "pop" Â) [] [] bB) (am (.Name z p')) pos.line X.env=pure false›) (hf:Wm X z:=by first | exact .inl rfl | exact .inr rfl | assumption) :
  SF X K x fs (.Assign [.Name z p'] (.Call (.Attribute (.Name y p) "pop" Â) [] [] bB) pos::rest) (.bind (zT l) k) out:=
 SF.step (zR Ū hj hx (XM K hK BI Fz Fy Yb (dm hN hv hd g9) dz dw) ur hf) λD σ H ⟨sr,q⟩=>by
  obtain⟨a,ws,e1,h1,r1⟩:=dN sr hs;have q:(zT l).run λt=>(k t).run λt=>bZ K x σ fs H D (out t):=q;unfold zT at q;cases hl:l.getLast? with
  | none=>rw[hl]at q;exact q.elim
  | some v=>
   rw[hl]at q;have el:=SN hl;rw[el]at r1;obtain⟨ÿ,u,rfl,r0,ru⟩:=aG.snoc r1;refine⟨_,e1,.inl ⟨rfl,_,eI.of h1⟩,a,ÿ,u,rfl,rfl,h1,λH2 sx h2=>?_⟩;obtain⟨s2,g2⟩:=pT sr hs e1 sx h2 r0;have ru2:VR K [] H2 u v:=g2.vr sr ru;have s3:=s2.f6 ru2 j;exact⟨_,k _,hr (l.dropLast,v),s3,(k _).mono (λt q2=>q2.go (g2.trans (c6.f6 s2 _ _ j)) sr s3) q⟩
def fY(l:O PV)(i v:PV):W (O PV):=match i with
 | .int k=>match tB l.length k with
  | some j=>.ret (l.set j v)
  | none=>.fail
 | _=>.fail
def SF.xq(i:Nat){ei:r9}{k:O PV->W T}(hs:fs[i]?=am (am (.ol q0 l)))(hN:X.N[i]?=am y)(hv:ye X.env.scope y)(he:EF X K fs e we)(hi:EF X K fs ei wi)(hr:∀l',SF X K x (fs.set i (am (.ol q0 l'))) rest (k l') out)
  (ha:∀v,Pv (.Subscript (.Name y p) ei LM) X.env v=(do
   let ov <- KM [v] (pr (.Name y p) X.env)
   let iv <- KM [v,ov] (pr ei X.env)
   standAt LM
   KM [v,ov,iv] (setItem ov iv v)
   release [v,ov,iv] []):=by intro _;rfl)
  (hd: ~~~(gK y)) (g9: ~~~(zk y)) (hss:‹Os [.Subscript (.Name y p) ei LM] e pos.line X.env=pure false›) (hw:‹Pi [.Subscript (.Name y p) ei LM] e X.env=pure ce›)
  (h1:‹(GM [.Subscript (.Name y p) ei LM] X.env).map (·.2)=[Pv (.Subscript (.Name y p) ei LM) X.env]›) :
  SF X K x fs (.Assign [.Subscript (.Name y p) ei LM] e pos::rest) (.bind we λv=>.bind wi λn=>.bind (fY l n v) k) out:=
 SF.step (Tq he.p (aby (dm hN hv hd g9) hi.p Qg ha) hss hw h1) λD σ H ⟨sr,q⟩=>by
  refine⟨sr,we.mono (λv q1 u H1 g1 s1 v1=>?_) q⟩;obtain⟨a,ws,e1,h1,r1⟩:=dN s1 hs;refine⟨_,e1,s1,wi.mono (λn q2 u2 H2 g2 s2 v2=>?_) q1⟩;obtain⟨a',sT,xa,hE,Lv⟩:=dN s2 hs;rw[e1]at xa;cases xa;cases v2 with
  | int kk=>
   have q2:(match tB l.length kk with | some j=>bn (l.set j v) | none=>W.fail).run _:=q2;cases hj:tB l.length kk with
   | none=>rw[hj]at q2;exact q2.elim
   | some j=>
    rw[hj]at q2;refine⟨a,sT,kk,j,rfl,rfl,hE,by rw[Lv.length];exact hj,λH3 sx h3=>?_⟩;obtain⟨s3,g3⟩:=pT s2 hs e1 sx h3 (Lv.set (g2.vr s1 v1) j);exact⟨_,k _,hr _,s3,(k _).mono (λt q3=>q3.go ((g1.trans g2).f.trans g3) sr s3) q2⟩
  | _=>exact q2.elim
end
end
end FL
variable{x:Bz}
namespace FL
section
variable[bU]
variable{K:Ab}
def jc:O AK->O PV->br
 | [],_=>[]
 | .v::ks,x::l=>am (.val x)::jc ks l
 | .v::_,[]=>[]
 | .p φ::ks,l=>am (.oW φ)::jc ks l
 | .f a us ps fz::ks,l=>am (.adr a us ps fz)::jc ks l
def wG(ks:O AK)(l:O PV)(n:Nat):br:=jc ks l++An (n-ks.length) ce
def NS(ks:O AK):Prop:=∀i j:Nat,(∃φ,ks[i]?=am (.p φ))->(∃φ,ks[j]?=am (.p φ))->i=j
theorem gM:∀{n:Nat}{m:w5 R n}{l:O PV}{Q:R->Prop},(kK n m l).run Q->l.length=n
 | 0,_,[],_,_=>rfl
 | 0,_,_::_,_,h=>h.elim
 | n+1,_,[],_,h=>h.elim
 | n+1,m,x::l,Q,h=>by rw[Ap,gM (n:=n) (m:=m x) h]
section
theorem jd.len(h:jd K H vs ks l):vs.length=ks.length:=by induction h <;> simp_all
def jd.slot(h:jd K H vs ks l):(jc ks l).length=vs.length/\∀(i:Nat) (s:SL),(jc ks l)[i]?=am (am s)->∃u,vs[i]?=am u/\zj K H u s/\(s.own=true->∃φ,s=.oW φ/\ks[i]?=am (.p φ)):=by
 induction h with
 | nil=>exact⟨rfl,λi s e=>by simp[jc]at e⟩
 | @v u x vs ks l r t ih=>
  refine⟨by simp[jc,ih.1],λi s e=>?_⟩;cases i with
  | zero=>simp[jc]at e;subst e;exact⟨u,rfl,.inl ⟨x,rfl,r⟩,λz=>by cases z⟩
  | succ i=>simp[jc]at e;obtain⟨w,h1,h2,h3⟩:=ih.2 i s e;exact⟨w,by simpa using h1,h2,by simpa using h3⟩
 | @p a φ ws vs ks l e0 r t ih=>
  refine⟨by simp[jc,ih.1],λi s e=>?_⟩;cases i with
  | zero=>simp[jc]at e;subst e;exact⟨_,rfl,.inr ⟨a,rfl,ws,e0,r⟩,λ_=>⟨φ,rfl,rfl⟩⟩
  | succ i=>simp[jc]at e;obtain⟨w,h1,h2,h3⟩:=ih.2 i s e;exact⟨w,by simpa using h1,h2,by simpa using h3⟩
 | @f a us vs ps fz ks l r z t ih=>
  refine⟨by simp[jc,ih.1],λi s e=>?_⟩;cases i with
  | zero=>simp[jc]at e;subst e;exact⟨_,rfl,.inr ⟨a,rfl,rfl,r,z⟩,λz=>by cases z⟩
  | succ i=>simp[jc]at e;obtain⟨w,h1,h2,h3⟩:=ih.2 i s e;exact⟨w,by simpa using h1,h2,by simpa using h3⟩
def jd.abw(h:jd K H vs ks l)(e:ks[i]?=am (.p φ)):(jc ks l)[i]?=am (am (.oW φ)):=by
 induction h generalizing i with
 | nil=>simp at e
 | v r t ih=>cases i with | zero=>simp at e | succ i=>simp[jc];exact ih (by simpa using e)
 | p e0 r t ih=>cases i with | zero=>simp at e;subst e;rfl | succ i=>simp[jc];exact ih (by simpa using e)
 | f r z t ih=>cases i with | zero=>simp at e | succ i=>simp[jc];exact ih (by simpa using e)
theorem qY{s:SL}(h:(wG ks l n)[i]?=am (am s)):(jc ks l)[i]?=am (am s):=by
 unfold wG at h;by_cases c:i < (jc ks l).length
 ·rw[Ax c]at h;exact h
 ·rw[Az ∅,Bi]at h
  split at h <;> cases h
def iC{N:O Str}(h:vs[i]?=am u):(L2.start N vs)[i]?=am (am u):=by
 unfold L2.start;rw[Ax (by rw[Ah];exact(Am.mp h).1),Ai,h];rfl
def rK{N:O Str}(h:(L2.start N vs)[i]?=am (am u)):vs[i]?=am u:=by
 unfold L2.start at h;by_cases c:i < vs.length
 ·rw[Ax (by simpa using c),Ai]at h;cases z:vs[i]? with
  | none=>rw[z]at h;cases h
  | some q=>rw[z]at h;cases h;rfl
 ·rw[Az (by simpa using c),Bi]at h
  split at h <;> cases h
def jd.beg(h:jd K H vs ks l)(tb:TB H)(one:NS ks)(N:O Str):aU K H (L2.start N vs) (wG ks l N.length):=by
 obtain⟨hl,hs⟩:=h.slot;refine⟨?_,λi s e=>?_,λi j s t x y a e1 e2 o1 o2 q1 q2 z1 z2=>?_,tb⟩
 ·unfold L2.start wG;rw[Al,Al,Ah,hl,Bh,Bh,h.len]
 ·obtain⟨u,h1,h2,_⟩:=hs i s (qY e);exact⟨u,iC h1,h2⟩
 ·obtain⟨_,_,_,h3⟩:=hs i s (qY e1);obtain⟨_,_,_,h4⟩:=hs j t (qY e2);obtain⟨φ,_,k1⟩:=h3 o1;obtain⟨ψ,_,k2⟩:=h4 o2;exact one i j ⟨φ,k1⟩ ⟨ψ,k2⟩
def jd.go(h:jd K H vs ks l){N:O Str}(g:c6 (L2.start N vs) (wG ks l N.length) H σ' bL H')(s':aU K H' σ' bL):GoC vs ks H H':=by
 obtain⟨hl,hs⟩:=h.slot;refine⟨λa o e n=>(g.keep a o e λz=>?_).1,s'.tb,g.there,λa φ p=>?_⟩
 ·obtain⟨i,s,x,e1,e2,e3,e4⟩:=z;obtain⟨u,h1,h2,h3⟩:=hs i s (qY e1);obtain⟨φ,rfl,k⟩:=h3 e2;rcases e4 with rfl | e4
  ·exact n φ ⟨i,k,rK e3⟩
  ·cases e4
 ·obtain⟨i,e1,e2⟩:=p;have e3:=h.abw e1;have hi:=(Am.mp e3).1;have e4:(wG ks l N.length)[i]?=am (am (.oW φ)):=by unfold wG;rw[Ax hi];exact e3
  rcases g.pk a φ ⟨i,e4,iC e2⟩ with⟨j,k1,k2⟩ | ⟨_,k⟩
  ·exact s'.ownAt k1 rfl k2
  ·exact k
end
section
variable{st:ut}{f:f8}{N:O Str}
def fnV{m:w5 PV n}(Fn:LA K x qual st f fd)(S:c7 N ps (ay st))(YN:ks.length=ps.length)(one:NS ks)
  (Æ:∀l:O PV,l.length=n->∀(cV:db) (A:ww) (outer:O Env) (s:ii) (H:Hp) (E:XK),cI k (A.deeper (Fa qual (ay st) s.heap.objs.size f cV))->SF (qR oM P w K mg base N qual (ay st) f cV A outer s H E).Qy K false (wG ks l N.length) (bE st) (kK n m l) .rt) :
  eG P w K mg base oM (k+1) f fd ps (xn K ks (kK n m)):=by
 refine Fn.ok S (λvs H Q E h=>?_) (λcV A outer s H vs Q E hr h=>?_)
 ·obtain⟨_,l,h,_⟩:=h;rw[h.len];exact YN
 obtain⟨tb,l,h,q⟩:=h;refine⟨_,(Æ l (gM q) cV A outer s H E hr).p,h.beg tb one N,(kK n m l).mono (λv q1 u σ' bL H' g s' r=>q1 u H' (h.go g s') r) q⟩
def fnL{m:w5 (O PV) n}(Fn:LA K x qual st f fd)(S:c7 N ps (ay st))(YN:ks.length=ps.length)(one:NS ks)
  (Æ:∀l:O PV,l.length=n->∀(cV:db) (A:ww) (outer:O Env) (s:ii) (H:Hp) (E:XK),cI k (A.deeper (Fa qual (ay st) s.heap.objs.size f cV))->SF (qR oM P w K mg base N qual (ay st) f cV A outer s H E).Qy K false (wG ks l N.length) (bE st) (kK n m l) .rl) :
  eG P w K mg base oM (k+1) f fd ps (Jo K ks (kK n m)):=by
 refine Fn.ok S (λvs H Q E h=>?_) (λcV A outer s H vs Q E hr h=>?_)
 ·obtain⟨_,l,h,_⟩:=h;rw[h.len];exact YN
 obtain⟨tb,l,h,q⟩:=h;have sr:=h.beg tb one N;refine⟨_,(Æ l (gM q) cV A outer s H E hr).p,sr,(kK n m l).mono (λz q1 a ws σ' bL H' g s' fr e r=>q1 a ws H' (h.go g s') ?_ e r) q⟩;rcases fr with fr | ⟨i,t,x,e1,e2,np,e3,e4⟩
 ·exact fr
 ·obtain⟨_,_,_,h3⟩:=h.slot.2 i t (qY e1);obtain⟨φ,e,_⟩:=h3 e2;exact absurd e (np φ)
end
def X2:NS []:=λi j ⟨_,h⟩=>by simp at h
def afl(h:NS ks):NS (.v::ks):=λi j ⟨φ,a⟩ ⟨ψ,b⟩=>by
 cases i with
 | zero=>simp at a
 | succ i=>
  cases j with
  | zero=>simp at b
  | succ j=>rw[h i j ⟨φ,by simpa using a⟩ ⟨ψ,by simpa using b⟩]
end
end FL
namespace L2
def ae5(K:Ab):R2:=λx y H Q=>∃a b xs zs,x=.ref a/\y=.ref b/\eI K H a xs/\eI K H b zs/\xs.length+zs.length<=sizeLine/\jR H (.lst (xs++zs)) Q
theorem XY(K:Ab)(hK:X.K=K):lN X (wn .Add) (ae5 K):=by
 subst hK;intro Z s σ H x y v u Q I rx ry h;obtain⟨l,b,xs,zs,rfl,rfl,hH,hB,hz,q⟩:=h;cases rx;cases ry;obtain⟨au,r,⟨⟨cls,dd,data,sl⟩,n,ho,hc,hd,mJ⟩,_⟩:=I.list hH;obtain⟨dr,r2,⟨⟨ű,Zg,data2,Wt⟩,n2,Q9,U4,Õ,aan⟩,_⟩:=I.list hB;simp only at hc hd mJ U4 Õ aan;subst hc hd mJ U4 Õ aan;have e:au.toArray++dr.toArray=(au++dr).toArray:=by simp
 have hl:=r.length;have U0:=r2.length;refine concat_meets ⟨_,ho,rfl⟩ ⟨_,Q9,rfl⟩ noFill_list_add seq_list_add PySem.F.slot_list_add PySem.F.entry_list_add (PySem.F.args_list_add_2 _ _) (list_addW l b au.toArray dr.toArray n n2 ce ce sl Wt (by simp;omega)) ⟨ho,Q9,?_⟩;rw[e];exact⟨.ref _,_,I.abY (t':=s.toks) (r.append r2) (by rw[Al];omega),rfl,q.at _ I.fresh⟩
end L2
variable{hi:FL.W (Option Int)}
namespace FL
section
variable[bU]
variable{K:Ab}
section
variable{a c:r9}{w:W PV}{wm:W (O PV)}
def nZ(l m:O PV):W (O PV):=.e6 (l.length+m.length<=sizeLine) (.ret (l++m))
def fQL(K:Ab)(fs:br)(w:W (O PV)):TE:=λσ H Q=>aU K H σ fs/\w.run λl=>∀u H',de σ fs H H'->aU K H' σ fs->Zu K σ fs H' u l->(∀ņ,de σ fs H' ņ->aU K ņ σ fs->∃a vs,u=.ref a/\eI K ņ a vs/\aG K [] ņ vs l)->Q u H'
structure R4(X:Cx)(K:Ab)(fs:br)(e:r9)(w:W (List PV)):Prop where p:PE X e (fQL K fs w)
def cK(h:LF X K fs e wl):R4 X K fs e wl:=⟨PE.imp h.p λσ H Q ⟨sr,q⟩=>⟨sr,wl.mono (λl q1 a vs H1 g1 s1 n e v=>q1 _ H1 g1 s1 (.inr ⟨a,rfl,.inl ⟨sr.noOwn n,vs,e,v⟩⟩) λH2 g2 s2=>⟨a,vs,rfl,eI.of (g2.yK e (sr.noOwn n)),g2.Sg s1 v⟩) q⟩⟩
def L1(i:Nat)(hs:‹fs[i]?=am (am (.ol q0 l))›)(hN:‹X.N[i]?=am x›)(hv:ye X.env.scope x:=by first | exact CN rfl | exact Cq (CN rfl) | exact Cq (Cq rfl))(hd: ~~~(gK x))(g9: ~~~(zk x)):R4 X K fs (.Name x pos) (.ret l):=
 ⟨PE.imp (dm hN hv hd g9) λσ H Q ⟨sr,q⟩=>by
  obtain⟨a,ws,e1,h1,r1⟩:=dN sr hs;refine⟨_,e1,q _ H .refl sr (.inr ⟨a,rfl,.inr ⟨i,q0,hs,e1⟩⟩) λH2 g2 s2=>?_⟩;obtain⟨a',sT,xa,hE,Lv⟩:=dN s2 hs;rw[e1]at xa;cases xa;exact⟨a,sT,rfl,eI.of hE,Lv⟩⟩
def GG:PV->W (O PV)
 | .cl l=>.ret l
 | _=>.fail
def oV(h:EF X K fs e w):R4 X K fs e (.bind w GG):=⟨PE.imp h.p λσ H Q ⟨sr,q⟩=>⟨sr,w.mono (λx q1 u1 H1 g1 s1 v1=>by
 cases v1 with
 | cl e r=>exact q1 _ H1 g1 s1 (.inl ⟨_,_,rfl,.inl e,r⟩) λH2 g2 s2=>⟨_,_,rfl,((g2.dM s1).f _ _ e).sq,g2.Sg s1 r⟩
 | _=>exact q1.elim) q⟩⟩
def oq(hK:X.K=K)(ha:R4 X K fs a wl)(hb:R4 X K fs b wm):LF X K fs (.BinOp a .Add b pos) (.bind wl λl=>.bind wm λm=>nZ l m):=⟨PE.imp (Oy (XY K hK) ha.p hb.p) λσ H Q ⟨sr,q⟩=>⟨sr,wl.mono (λl q1 u1 H1 g1 s1 _ v1=>⟨s1,wm.mono (λm q2 u2 H2 g2 s2 _ v2=>by
 obtain⟨a,vs,rfl,h1,r1⟩:=v1 H2 g2 s2;obtain⟨b,ws,rfl,h2,r2⟩:=v2 H2 .refl s2;refine⟨a,b,vs,ws,rfl,rfl,h1,h2,by rw[r1.length,r2.length];exact q2.1,λp H3 s3 h3 n3=>?_⟩;have gg:=g1.trans g2;exact q2.2 p _ H3 (gg.trans (de.same s3)) (s2.same s3) (gg.there p n3) h3 (aG.tk s3.eJ (r1.append r2))) q1⟩) q⟩⟩
def yC{Q:VK}(g1:de σ fs H H1)(s1:aU K H1 σ fs)(r:aG K [] H1 vs l)(q:∀a vs H',de σ fs H H'->aU K H' σ fs->H a=ce->H' a=am (.lst vs)->aG K [] H' vs l->Q (.ref a) H'):jR H1 (.lst vs) Q:=λp H2 s2 h2 n2=>q p vs H2 (g1.trans (de.same s2)) (s1.same s2) (g1.there p n2) h2 (aG.tk s2.eJ r)
def Ul(K:Ab):CL K (Ta K) .ret:=λ{fs σ H Q u l} s v q=>by
 obtain⟨a,vs,rfl,h,rs⟩:=v.sq s;exact⟨a,vs,rfl,h,yC .refl s rs q⟩
def ab4(hK:X.K=K)(hg:Gl X "list")(hm:X.mg "list"=ce)(ha:QF X K fs e wl)(he:‹fR X e []›)(dg:‹kJ X pos []›):LF X K fs (.Call (.Name "list" p) [e] [] pos) wl:=Uv (m:=.ret) (Nz K hK) (Ul K) hg hm boot_list ha ⋯ ⋯ he dg
def bz(hK:X.K=K)(hg:Gl X "tuple")(hm:X.mg "tuple"=ce)(ha:QF X K fs e wl)(he:‹fR X e []›)(dg:‹kJ X pos []›):EF X K fs (.Call (.Name "tuple" p) [e] [] pos) (.bind wl fV):=Rp (Rz K hK) (WQ K) hg hm boot_tuple ha ⋯ ⋯ he dg
def sJ(hK:X.K=K)(hg:Gl X "len")(hm:X.mg "len"=ce)(ha:QF X K fs e wl)(he:‹fR X e []›)(dg:‹kJ X pos []›):EF X K fs (.Call (.Name "len" p) [e] [] pos) (.bind wl GO):=VM (y9 K hK) (Yk K) hg hm boot_len ha ⋯ ⋯ he dg
def Wg(ha:EF X K fs e w)(he:nn [e] X.env=(false,pr e X.env)::nn [] X.env):AF X K fs [e] (An 1 .v) (R:=R) (λk=>.bind w λx=>k [x]):=aj ha ai he
def fe(hK:X.K=K)(hg:Gl X "len")(hm:X.mg "len"=ce)(ha:EF X K fs e w)(he:‹fR X e []›)(dg:‹kJ X pos []›):EF X K fs (.Call (.Name "len" p) [e] [] pos) (.bind w λx=>rH fx [x]):=uL (n:=1) (y9 K hK) (Zm K) hg hm boot_len (Wg ha he) ⋯ ⋯ he dg
def aaz(hg:Gl X "abs")(hm:X.mg "abs"=ce)(ha:EF X K fs e w)(he:‹fR X e []›)(dg:‹kJ X pos []›):EF X K fs (.Call (.Name "abs" p) [e] [] pos) (.bind w λx=>rH K2 [x]):=uL (n:=1) V6 Zo hg hm boot_abs (Wg ha he) ⋯ ⋯ he dg
def Y4(hg:Gl X "int")(hm:X.mg "int"=ce)(ha:EF X K fs e w)(he:‹fR X e []›)(dg:‹kJ X pos []›):EF X K fs (.Call (.Name "int" p) [e] [] pos) (.bind w λx=>rH NF [x]):=VL (n:=1) RF Zn hg hm boot_int (Wg ha he) ⋯ ⋯ he dg
def agS(hc:X.calm=true)(hg:Gl X "max")(hm:X.mg "max"=ce)(ha:EF X K fs a wa)(hb:EF X K fs b wb)(he:‹nn [a,b] X.env=(false,pr a X.env)::nn [b] X.env›)(ö:‹fR X b []›)(dg:‹(Ev pos (nn [b] X.env)).any (·.1)=false›):EF X K fs (.Call (.Name "max" p) [a,b] [] pos) (.bind wa λx=>.bind wb λy=>rH RI [x,y]):=uL (n:=2) (RB hc) Zl hg hm boot_max (aj ha (aj hb ai ö) he) ⋯ ⋯ he dg
def VF(hc:X.calm=true)(hg:Gl X "min")(hm:X.mg "min"=ce)(ha:EF X K fs a wa)(hb:EF X K fs b wb)(he:‹nn [a,b] X.env=(false,pr a X.env)::nn [b] X.env›)(ö:‹fR X b []›)(dg:‹(Ev pos (nn [b] X.env)).any (·.1)=false›):EF X K fs (.Call (.Name "min" p) [a,b] [] pos) (.bind wa λx=>.bind wb λy=>rH Ij [x,y]):=uL (n:=2) (RA hc) Zk hg hm boot_min (aj ha (aj hb ai ö) he) ⋯ ⋯ he dg
def Z1(hK:X.K=K)(hc:X.calm=true)(õ:Gl X "list")(YM:X.mg "list"=ce)(ô:Gl X "reversed")(Ly:X.mg "reversed"=ce)(he:R4 X K fs e wl)
  (Lx:‹nn [.Call (.Name "reversed" p3) [e] [] p4] X.env=(false,pr (.Call (.Name "reversed" p3) [e] [] p4) X.env)::nn [] X.env›) (sE:‹fR X e []›) :
  LF X K fs (.Call (.Name "list" p1) [.Call (.Name "reversed" p3) [e] [] p4] [] p2) (.bind wl λl=>.ret l.reverse):=⟨PE.imp (L6 K hK hc õ YM ô Ly he.p Lx sE) λσ H Q ⟨sr,q⟩=>⟨sr,wl.mono (λl q1 u1 H1 g1 s1 _ v1=>by
 obtain⟨a,vs,rfl,h1,r1⟩:=v1 H1 .refl s1;exact⟨a,vs,rfl,h1,yC g1 s1 r1.reverse q1⟩) q⟩⟩
def nV(k:Kd)(x:PV):W PV:=match x with
 | .ref _=>.fail
 | .ty _=>.fail
 | .ob _ _=>.fail
 | x=>.ret (.bl (k.is x))
def ZR(K:Ab):O V->Hp->VK->Prop:=λxs H Q=>∃x c t b,xs=[x,.ty c]/\(n6 K H x t\/(t=.type "tuple"/\∃a vs,x=.ref a/\dJ K H a vs)\/(t=.type "list"/\∃a vs,x=.ref a/\eI K H a vs)\/(t=.type "dict"/\∃a,x=.ref a/\IsD H a))/\BJ K t (.type c)=am b/\Q (.bl b) H
def RD(hK:X.K=K):cm X (.builtin "isinstance") (ZR K):=by
 subst hK;intro Z s σ H xs us Q I r h;obtain⟨x,c,t,b,rfl,ty | ty | ⟨rfl,a,vs,rfl,hL⟩ | ⟨rfl,a,rfl,hD⟩,e,q⟩:=h
 ·exact tK Z s σ H _ us Q I r ⟨x,c,t,b,rfl,ty,e,q⟩
 ·exact RC X.K rfl Z s σ H _ us Q I r ⟨x,c,t,b,rfl,.inr ty,e,q⟩
 ·obtain⟨u,w,rfl,r1,r2⟩:=vals2 r;cases r1;cases r2;obtain⟨au,_,⟨o,n,h1,h2,_⟩,_⟩:=I.list hL;exact Bo EG I.o8 ⟨o,h1,h2⟩ e (λz=>nomatch z) λtk=>⟨.bl b,H,I.tok _,rfl,q⟩
 ·obtain⟨u,w,rfl,r1,r2⟩:=vals2 r;cases r1;cases r2;have:∃o,s.heap.get? a=am o/\o.cls=.type "dict":=by
   rcases hD with⟨kvs,e⟩ | ⟨kvs,e⟩
   ·obtain⟨_,_,vs,_,o,_,_,h1,h2,_⟩:=KQ I.a8 e;exact⟨o,h1,h2.1⟩
   ·obtain⟨_,_,xs,_,o,_,_,h1,h2,_⟩:=KP I.a8 e;exact⟨o,h1,h2.1⟩
  obtain⟨o,h1,h2⟩:=this;exact Bo EH I.o8 ⟨o,h1,h2⟩ e (λz=>nomatch z) λtk=>⟨.bl b,H,I.tok _,rfl,q⟩
def qM(hK:X.K=K)(k:Kd)(hg:Gl X "isinstance")(hm:X.mg "isinstance"=ce)(ha:EF X K fs a wa)(hgx:Gl X x)(hmx:X.mg x=ce)(hv:sK x=am (.type k.name))(hn: ~~~(x≠"__name__"))(hd: ~~~(gK x))
  (he:‹nn [a,.Name x p2] X.env=(false,pr a X.env)::nn [.Name x p2] X.env›) (ö:‹nn [Expr.Name x p2] X.env=(false,pr (.Name x p2) X.env)::nn [] X.env›)
  (dg:‹(Ev pos (nn [Expr.Name x p2] X.env)).any (·.1)=false›):EF X K fs (.Call (.Name "isinstance" p) [a,.Name x p2] [] pos) (.bind wa (nV k)):=
 ⟨PE.imp (f7 (RD hK) hg hm boot_isinstance (aX ha.p (aX (XN (v:=.ty k.name) hgx hmx hv rfl hn hd) bW ö) he) ⋯ ⋯ he dg) λσ H Q ⟨sr,q⟩=>⟨sr,wa.mono (λx q1 u1 H1 g1 s1 v1=>by
  have fin:∀{t:db}{y:PV},n6 K H1 u1 t->BJ K t (.type k.name)=am (k.is y)->Q (.bl (k.is y)) H1->ZR K [u1,.ty k.name] H1 Q:=λty e q=>⟨_,_,_,_,rfl,.inl ty,e,q⟩;cases v1 with
  | aJ=>exact fin (y:=.aJ) .aJ (by rw[(uH K).1 k];cases k <;> rfl) (q1 _ H1 g1 s1 (.bl _))
  | bl b=>exact fin (.bl b) (ab9 K b k) (q1 _ H1 g1 s1 (.bl _))
  | int b=>exact fin (.int b) (Yt K b k) (q1 _ H1 g1 s1 (.bl _))
  | str b=>exact fin (.str b) (Ys K b k) (q1 _ H1 g1 s1 (.bl _))
  | ty n=>exact q1.elim
  | ref n=>exact q1.elim
  | ob _ _ _ _ _=>exact q1.elim
  | @dk a o kvs ks l e k1 r=>exact⟨_,_,_,_,rfl,.inr (.inr (.inr ⟨rfl,_,rfl,.inl ⟨_,.inr ⟨_,e⟩⟩⟩)),(show _=am (k.is (.dv ks l)) by rw[(uH K).2.2 k];cases k <;> rfl),q1 _ H1 g1 s1 (.bl _)⟩
  | @dt a o kvs ks l e k1 r=>exact⟨_,_,_,_,rfl,.inr (.inr (.inr ⟨rfl,_,rfl,.inr ⟨_,.inr ⟨_,e⟩⟩⟩)),(show _=am (k.is (.dv ks l)) by rw[(uH K).2.2 k];cases k <;> rfl),q1 _ H1 g1 s1 (.bl _)⟩
  | @cl p vs l e r=>exact⟨_,_,_,_,rfl,.inr (.inr (.inl ⟨rfl,_,_,rfl,e.sq⟩)),(show _=am (k.is (.cl l)) by rw[(uH K).2.1 k];cases k <;> rfl),q1 _ H1 g1 s1 (.bl _)⟩
  | @tup p vs l e r=>exact⟨_,_,_,_,rfl,.inr (.inl ⟨rfl,_,_,rfl,dJ.of e⟩),Yr K _ k,q1 _ H1 g1 s1 (.bl _)⟩) q⟩⟩
def Xk(l:O PV):PV->W (O PV)
 | .int k=>.e6 (-(2 ^ 63)<=k/\k < 2 ^ 63/\l.length*k.toNat<=sizeLine) (.ret (An k.toNat l).flatten)
 | _=>.fail
def afy(ha:LF X K fs a wl)(hb:EF X K fs b wb):LF X K fs (.BinOp a .Mult b pos) (.bind wl λl=>.bind wb λy=>Xk l y):=⟨PE.imp (Oy abF ha.p hb.p) λσ H Q ⟨sr,q⟩=>⟨sr,wl.mono (λl q1 a vs H1 g1 s1 n e v=>⟨s1,wb.mono (λy q2 u2 H2 g2 s2 v2=>by
 cases v2 with
 | int k=>
  have no:=sr.noOwn n;have e2:=(g2.yK e no);have r2:=g2.Sg s1 v;refine⟨a,k,vs,rfl,rfl,e2,q2.1.1,q2.1.2.1,by rw[r2.length];exact q2.1.2.2,λp hp=>?_⟩;have sm:=kj hp (.lst (An k.toNat vs).flatten);have gg:=g1.trans g2;exact q2.2 p _ _ (gg.trans (de.same sm)) (s2.same sm) (gg.there p hp) aD (aG.tk sm.eJ (r2.rep k.toNat))
 | _=>exact q2.elim) q1⟩) q⟩⟩
def part:PV->W (Option Int)
 | .int i=>.ret (am i)
 | _=>.fail
def Gx:OF X K fs ce (.ret ce):=⟨PO.imp Xw λσ H Q ⟨sr,q⟩=>q H .refl sr⟩
def Ma(h:EF X K fs e w):OF X K fs (am e) (.bind w part):=⟨PO.imp (Xv h.p) λσ H Q ⟨sr,q⟩=>⟨sr,w.mono (λx q1 u1 H1 g1 s1 v1=>by
 cases v1 with
 | int i=>exact⟨_,rfl,q1 H1 g1 s1⟩
 | _=>exact q1.elim) q⟩⟩
def abe(i j:PV):W (O PV):=match i,j with
 | .int i,.int j=>.e6 (okR i j) (.ret (gJ i (j-i).toNat))
 | _,_=>.fail
def Uu(hc:X.calm=true)(õ:Gl X "list")(YM:X.mg "list"=ce)(ô:Gl X "range")(Ly:X.mg "range"=ce)(ha:EF X K fs a wa)
  (Ĥ:‹nn [.Call (.Name "range" p1) [a] [] p2] X.env=(false,pr (.Call (.Name "range" p1) [a] [] p2) X.env)::nn [] X.env›) (hs:‹nn [a] X.env=[(false,pr a X.env)]›) :
  LF X K fs (.Call (.Name "list" p) [.Call (.Name "range" p1) [a] [] p2] [] pos) (.bind wa λy=>abe (.int 0) y):=⟨PE.imp (Ql (r:=λQ H i j=>okR i j/\jR H (.lst (lX i (j-i).toNat)) Q) ô Ly õ YM boot_list (aX ha.p bW hs) (λI q=>Xi hc I q.1.1 q.1.2 q.2) ⋯ ⋯ Ĥ hs) λσ H Q ⟨sr,q⟩=>⟨sr,wa.mono (λx q1 u1 H1 g1 s1 v1=>by
 cases v1 with
 | int j=>exact⟨_,rfl,q1.1,yC g1 s1 (Sf _ _) q1.2⟩
 | _=>exact q1.elim) q⟩⟩
def qA:O PV->W (O Int)
 | []=>.ret []
 | .int i::r=>.bind (qA r) λl=>.ret (i::l)
 | _=>.fail
theorem iE:∀{l:O PV}{Q:O Int->Prop},(qA l).run Q->∃ns:O Int,l=ns.map PV.int/\Q ns
 | [],Q,h=>⟨[],rfl,h⟩
 | .int b::r,Q,h=>by
  obtain⟨bs,e,q⟩:=iE (l:=r) h;exact⟨b::bs,by rw[e];rfl,q⟩
 | .aJ::r,Q,h=>h.elim
 | .bl _::r,Q,h=>h.elim
 | .str _::r,Q,h=>h.elim
 | .tup _::r,Q,h=>h.elim
 | .ref _::r,Q,h=>h.elim
 | .ty _::r,Q,h=>h.elim
 | .cl _::r,Q,h=>h.elim
@[simp] theorem eE:∀bs:O Int,qA (bs.map PV.int)=.ret bs
 | []=>rfl
 | b::bs=>by
  show ap (qA (bs.map PV.int)) _=_;rw[eE bs];rfl
end
end
end FL
variable{k2:Nat}
namespace FL
section
variable[bU]
variable{K:Ab}
abbrev b2(m:M2)(wa wb:W PV):W PV:=.bind wa λx=>.bind wb λy=>of2 m x y
abbrev t2(m:M2)(wa wb:W PV):W Bool:=.bind wa λx=>.bind wb λy=>.bind (of2 m x y) asB
abbrev c1(m:zl)(w:W PV):W PV:=.bind w λx=>rH m [x]
abbrev bK(wl:W (O PV))(wb:W PV):W PV:=.bind wl λl=>.bind wb λy=>G8 l y
abbrev Jh(a b:W Bool):W Bool:=.bind a λk=>if k=true then b else .ret false
abbrev tor(a b:W Bool):W Bool:=.bind a λk=>if k=true then .ret true else b
abbrev Jg(a:W Bool):W Bool:=.bind a λk=>.ret (!k)
abbrev dZ{α:Type}(t:W Bool)(a b:W α):W α:=.bind t λk=>if k=true then a else b
section
variable{a c:r9}{rest:O ut}{S T T2:Type}{hd:S->br}{s0:S}{w:W PV}{wt:PV->W T2}{dh:S->T2->br}{k:S->W T}{out:T->End}{x:Bool}
def SF.vX{f:PV->S->W S}(hp:Db (lc X.prog X.w) X.A X.env X.xe)(hc:X.calm=true)(hi:wM X K fs tg iter wl)(hl:i7 fs (hd s0))(hg:PG X tg (e7 i))(hb:∀s p,SF X K false ((hd s).set i (am (.val p))) body (f p s) λs'=>.nc (hd s'))(hr:∀s,SF X K x (hd s) rest (k s) out)(hs:IJ X iter:=by intro _;rfl) :
  SF X K x fs (.For tg iter body [] pos::rest) (.bind wl λl=>.bind (bS l s0 f) k) out:=SF.for (wt:=.ret) (wb:=λp s=>f p s) hp hc hi hl (λs=>g_1 hg) (λ_ _=>rfl) hb hr hs
def SF.Kt{wb:T2->S->W S}(hp:Db (lc X.prog X.w) X.A X.env X.xe)(hc:X.calm=true)(hi:wM X K fs tg iter wl)(hl:i7 fs (hd s0))(hg:∀s,GF X K (hd s) tg is wt (dh s))(hb:∀s t,SF X K false (dh s t) body (wb t s) λs'=>.nc (hd s'))(hr:∀s,SF X K x (hd s) rest (k s) out)(hs:IJ X iter:=by intro _;rfl) :
  SF X K x fs (.For tg iter body [] pos::rest) (.bind wl λl=>.bind (bS l s0 λp s=>.bind (wt p) λt=>wb t s) k) out:=SF.for hp hc hi hl hg (λ_ _=>rfl) hb hr hs
def SF.agu{inj:R->T}{f:PV->S->W (Lp S R)}(hp:Db (lc X.prog X.w) X.A X.env X.xe)(hc:X.calm=true)(hi:wM X K fs tg iter wl)(hl:i7 fs (hd s0))(hg:PG X tg (e7 i))(ho:∀t,(out (inj t)).O0)(hb:∀s p,SF X K false ((hd s).set i (am (.val p))) body (f p s) (lpE hd λr=>out (inj r)))(hr:∀s,SF X K x (hd s) rest (k s) out)(hs:IJ X iter:=by intro _;rfl) :
  SF X K x fs (.For tg iter body [] pos::rest) (.bind wl λl=>.bind (FL.lB l s0 f) (R0 k inj)) out:=SF.lB (wt:=.ret) (wb:=λp s=>f p s) hp hc hi hl (λs=>g_1 hg) (λ_ _=>rfl) ho hb hr hs
def SF.aap{inj:R->T}{wb:T2->S->W (Lp S R)}(hp:Db (lc X.prog X.w) X.A X.env X.xe)(hc:X.calm=true)(hi:wM X K fs tg iter wl)(hl:i7 fs (hd s0))(hg:∀s,GF X K (hd s) tg is wt (dh s))(ho:∀t,(out (inj t)).O0)(hb:∀s t,SF X K false (dh s t) body (wb t s) (lpE hd λr=>out (inj r)))(hr:∀s,SF X K x (hd s) rest (k s) out)(hs:IJ X iter:=by intro _;rfl) :
  SF X K x fs (.For tg iter body [] pos::rest) (.bind wl λl=>.bind (FL.lB l s0 λp s=>.bind (wt p) λt=>wb t s) (R0 k inj)) out:=SF.lB hp hc hi hl hg (λ_ _=>rfl) ho hb hr hs
def SF.Xd{fs3:T2->br}{k:T2->W T}(he:EF X K fs e we)(hg:GF X K fs tg is wt fs3)(hr:∀t,SF X K x (fs3 t) rest (k t) out)(hs:‹Os [tg] e pos.line X.env=pure false›)(hw:‹Pi [tg] e X.env=pure ce›)
  (h1:‹(GM [tg] X.env).map (·.2)=[Pv tg X.env]›):SF X K x fs (.Assign [tg] e pos::rest) (.bind we λv=>.bind (wt v) k) out:=SF.step (Tq he.p hg.p hs hw h1) λD σ H ⟨sr,q⟩=>
 ⟨sr,we.mono (λv q1 u H1 g1 s1 v1=>⟨v,s1,v1,(wt v).mono (λt q2 us g2 s2=>⟨_,k t,hr t,s2,(k t).mono (λt' q3=>q3.go (g1.f.trans g2) sr s2) q2⟩) q1⟩) q⟩
def SF.par{ì:Pos}{kt:Nat}{k:PV->PV->W T}(hc:X.calm=true)(hN:X.N.Nodup)(hi:X.N[i]?=am y)(hj:X.N[j]?=am z)(ħ:i≠j)(hx:X.env.scope.names.lookup y=am .local)(hy:X.env.scope.names.lookup z=am .local)
  (ha:EF X K fs a wa) (hb:EF X K fs b wb) (hr:∀u v,SF X K x ((fs.set i (am (.val u))).set j (am (.val v))) rest (k u v) out)
  (hw:‹Pi [.Tuple [.Name y px,.Name z py] kt pt] (.Tuple [a,b] k2 ì) X.env=pure (am [y,z])›) (hs:‹Os [.Tuple [.Name y px,.Name z py] kt pt] (.Tuple [a,b] k2 ì) pos.line X.env=pure false›)
  (he:‹nn [a,b] X.env=(false,pr a X.env)::nn [b] X.env›) (ö:‹fR X b []›) :
  SF X K x fs (.Assign [.Tuple [.Name y px,.Name z py] kt pt] (.Tuple [a,b] k2 ì) pos::rest) (.bind wa λu=>.bind wb λv=>k u v) out:=
 SF.step (abu hc hN hi hj ħ hx hy (aX ha.p (aX hb.p bW ö) he) hw hs) λD σ H ⟨sr,q⟩=>⟨sr,wa.mono (λu q1 u1 H1 g1 s1 v1=>⟨s1,wb.mono (λv q2 u2 H2 g2 s2 v2=>by
  have s3:=s2.f6 (g2.vr s1 v1) i;have s4:=s3.f6 v2 j;exact⟨_,_,rfl,_,k u v,hr u v,s4,(k u v).mono (λt q3=>q3.go (((g1.trans g2).f.trans (c6.f6 s2 _ _ i)).trans (c6.f6 s3 _ _ j)) sr s4) q2⟩) q1⟩) q⟩
def Sm(v:PV):W PV:=.e6 (v.dat=true) (.ret v)
def Sn(l:O PV):W (O PV):=.e6 (ya l=true) (.ret l)
mutual
theorem VR.nG{ι:O f8}{H H':Hp}(t:∀p vs,H p=am (.tup vs)->H' p=am (.tup vs)):∀{v:V}{q:PV},VR K ι H v q->q.dat=true->VR K [] H' v q
 | _,_,.aJ,_=>.aJ
 | _,_,.bl b,_=>.bl b
 | _,_,.int i,_=>.int i
 | _,_,.str x,_=>.str x
 | _,_,.ty n,h=>by rw[PV.dat]at h;cases h
 | _,_,.tup e r,h=>.tup (t _ _ e) (aG.nG t r (by rw[PV.dat]at h;exact h))
 | _,_,.cl e r,h=>by rw[PV.dat]at h;cases h
 | _,_,.dk _ _ _,h=>by rw[PV.dat]at h;cases h
 | _,_,.dt _ _ _,h=>by rw[PV.dat]at h;cases h
 | _,_,.ob _ _ _ _ _,h=>by rw[PV.dat]at h;cases h
 | _,_,.ref e,h=>by rw[PV.dat]at h;cases h
theorem aG.nG{ι:O f8}{H H':Hp}(t:∀p vs,H p=am (.tup vs)->H' p=am (.tup vs)):∀{v:O V}{q:O PV},aG K ι H v q->ya q=true->aG K [] H' v q
 | _,_,.nil,_=>.nil
 | _,_,.cons r s,h=>by
  rw[ya,AI]at h;exact .cons (VR.nG t r h.1) (aG.nG t s h.2)
end
def bor(I:Inv X Z σ H s)(sr:aU K H σ fs)(hs:fs[i]?=am (am t))(hb:t.bw=true):∃a o ob,Inv X Z σ (upd H a (.bN ob o)) s/\aU K (upd H a (.bN ob o)) σ (fs.set i (am (.val t.bv)))/\
  ∀σ' s' H1,Inv X Z σ' H1 s'->de σ (fs.set i (am (.val t.bv))) (upd H a (.bN ob o)) H1->aU K H1 σ (fs.set i (am (.val t.bv)))->Inv X Z σ' (upd H1 a o) s'/\de σ fs H (upd H1 a o)/\aU K (upd H1 a o) σ fs/\(∀p vs,H1 p=am (.tup vs)->upd H1 a o p=am (.tup vs))/\∀p vs,p≠a->H1 p=am (.lst vs)->upd H1 a o p=am (.lst vs):=by
 have ho:=SL.V7 hb;obtain⟨u,e1,⟨v,e,_⟩ | ⟨a,e,oa⟩⟩:=sr.at' i _ hs
 ·subst e;cases hb
 subst e;obtain⟨ob,o,h1,n1,n2,I2,vr⟩:=agq I oa hb;have h0:∀o u,X.H₀ a≠am (.bN o u):=λo u z=>by
  have:=I.base.vV a o u z;rw[h1]at this;exact n2 _ _ (Option.some.inj this)
 refine⟨a,o,ob,I2,sr.agp hs ho e1 h1 n1 n2 vr,λσ' s' H1 J g s1=>?_⟩;have pf:∀φ b,i6 σ (fs.set i (am (.val t.bv))) φ b->i6 σ fs φ b:=λφ b ⟨j,z1,z3⟩=>by
  rcases b9 z1 with⟨_,z⟩ | ⟨n,z1⟩
  ·cases z
  ·exact⟨j,z1,z3⟩
 have npa:∀φ,¬i6 σ fs φ a:=λφ ⟨j,z1,z3⟩=>by
  have:=sr.nd j i _ _ a a a z1 hs rfl ho z3 e1 (.inl rfl) (.inl rfl);subst this;rw[hs]at z1;cases z1;cases hb
 have e2:=g.keep a _ aD λφ p=>npa φ (pf φ a p);have hk:=UZ J.a8 e2;have ow:o.ow=true:=by
  obtain⟨o',z1,_,_,z2⟩:=oa.ex ho (.inl rfl);rw[h1]at z1;cases z1;exact z2
 have ge:de σ fs H (upd H1 a o):=by
  refine⟨λb o z n nt=>?_,λb z=>?_⟩
  ·by_cases c:b=a
   ·subst c;rw[h1]at z;cases z;exact aD
   ·rw[aq c];exact g.keep b o (by rw[aq c];exact z) (λφ p=>n φ (pf φ b p)) nt
  ·by_cases c:b=a
   ·subst c;rw[aD]at z;cases z
   ·rw[aq c]at z;have:=g.there b z;rw[aq c]at this;exact this
 refine⟨J.aaX e2 h0 (hk a _ aD) hk,ge,⟨sr.len,λj t z=>?_,sr.nd,s1.tb.aaX J.a8 e2 ow⟩,λp vs z=>?_,λp vs n z=>by rw[aq n];exact z⟩
 ·obtain⟨u,k1,k2⟩:=sr.at' j t z;refine⟨u,k1,?_⟩;by_cases c:∃φ,t=.oW φ
  ·obtain⟨φ,rfl⟩:=c;have ji:j≠i:=λy=>by subst y;rw[hs]at z;cases z;cases hb
   rcases k2 with⟨v,y,_⟩ | ⟨b,rfl,_⟩
   ·cases y
   ·obtain⟨vs,y1,y2⟩:=s1.ownAt (t:=.oW φ) (i:=j) (by rw[aL ji];exact z) rfl k1;refine .inr ⟨b,rfl,vs,?_,y2⟩;rw[aq (λy=>by subst y;exact npa φ ⟨j,z,k1⟩)];exact y1
  ·refine k2.mono (ge.dM sr) (λx b o eb ow hb zz nt=>ge.keep b o zz (λφ ⟨j',p1,p3⟩=>?_) nt);subst eb;have:=sr.nd j j' t _ x b b z p1 ow rfl k1 p3 hb (.inl rfl);subst this;rw[z]at p1;cases p1;exact c ⟨φ,rfl⟩
 ·rw[aq (λy=>by subst y;rw[e2]at z;cases z)];exact z
def agW(i:Nat)(hs:fs[i]?=am (am t))(h:EF X K (fs.set i (am (.val t.bv))) e w)(hb:‹t.bw=true›):EF X K fs e (.bind w Sm):=⟨λZ s σ H Q I ⟨sr,q⟩=>by
 obtain⟨a,o,ob,I2,s2,Ð⟩:=bor I sr hs hb;refine bV (h.p Z s σ _ (λu H1=>∃v,de σ (fs.set i (am (.val t.bv))) (upd H a (.bN ob o)) H1/\aU K H1 σ (fs.set i (am (.val t.bv)))/\VR K [] H1 u v/\v.dat=true/\∀u H',de σ fs H H'->aU K H' σ fs->VR K [] H' u v->Q u H') I2 ⟨s2,w.mono (λv q1 u H1 g1 s1 v1=>⟨v,g1,s1,v1,q1.1,q1.2⟩) q⟩) λu s1 ⟨x,H1,I1,r1,v,g1,SV,v1,d,q1⟩=>?_;obtain⟨I3,g3,s3,t3,_⟩:=Ð σ s1 H1 I1 g1 SV;exact⟨x,_,I3,r1,q1 x _ g3 s3 (VR.nG t3 v1 d)⟩⟩
def afC(i:Nat)(hs:fs[i]?=am (am t))(h:LF X K (fs.set i (am (.val t.bv))) e wl)(hb:‹t.bw=true›):LF X K fs e (.bind wl Sn):=⟨λZ s σ H Q I ⟨sr,q⟩=>by
 obtain⟨a,o,ob,I2,s2,Ð⟩:=bor I sr hs hb;refine bV (h.p Z s σ _ (λu H1=>∃b vs l',u=.ref b/\de σ (fs.set i (am (.val t.bv))) (upd H a (.bN ob o)) H1/\aU K H1 σ (fs.set i (am (.val t.bv)))/\upd H a (.bN ob o) b=ce/\H1 b=am (.lst vs)/\aG K [] H1 vs l'/\ya l'=true/\∀a vs H',de σ fs H H'->aU K H' σ fs->H a=ce->H' a=am (.lst vs)->aG K [] H' vs l'->Q (.ref a) H') I2 ⟨s2,wl.mono (λl' q1 b vs H1 g1 s1 n e v1=>⟨b,vs,l',rfl,g1,s1,n,e,v1,q1.1,q1.2⟩) q⟩) λu s1 ⟨x,H1,I1,r1,b,vs,l',e,g1,SV,n,eb,v1,d,q1⟩=>?_;subst e;obtain⟨I3,g3,s3,t3,k3⟩:=Ð σ s1 H1 I1 g1 SV;have nb:b≠a:=λy=>by subst y;rw[aD]at n;cases n
 exact⟨_,_,I3,r1,q1 b vs _ g3 s3 (by rw[aq nb]at n;exact n) (k3 b vs nb eb) (aG.nG t3 v1 d)⟩⟩
end
end
end FL
variable{G:O Int->Prop}{SA:O PySem.Stmt}
namespace FL
section
variable[bU]
variable{K:Ab}
def aeK(K:Ab)(m:O PV->O PV->W (PV×O PV)):Sp:=λvs H Q _=>TB H/\∃a IZ ws lo l,vs=.ref a::IZ/\H a=am (.lst ws)/\aG K [] H ws lo/\aG K [] H IZ l/\(m lo l).run λt=>∀u sT H',(∀c o,c≠a->H c=am o->o.nt=true->H' c=am o)->TB H'->(∀b,H' b=ce->H b=ce)->H' a=am (.lst sT)->aG K [] H' sT t.2->VR K [] H' u t.1->Q u H'
section
variable{st:ut}{f:f8}{N:O Str}
def V8(a:f8)(lo l:O PV)(n:Nat):br:=am (.ol (am a) lo)::(l.map λv=>am (SL.val v))++An (n-1-l.length) ce
def aG.slot(r:aG K [] H vs l){s:SL}(h:(l.map λv=>am (SL.val v))[i]?=am (am s)):∃u v,vs[i]?=am u/\s=.val v/\VR K [] H u v:=by
 rw[Ai]at h;cases e:l[i]? with
 | none=>rw[e]at h;cases h
 | some v=>
  rw[e]at h;obtain⟨u,h1,h2⟩:=r.get e;cases h;exact⟨u,v,h1,rfl,h2⟩
theorem fnO{m:O PV->w5 (PV×O PV) n}(Fn:LA K x qual st f fd)(S:c7 N ps (ay st))(hn:n+1=ps.length)
  (Æ:∀(a:f8) (lo l:O PV),l.length=n->∀(cV:db) (A:ww) (outer:O Env) (s:ii) (H:Hp) (E:XK),cI k (A.deeper (Fa qual (ay st) s.heap.objs.size f cV))->SF (qR oM P w K mg base N qual (ay st) f cV A outer s H E).Qy K false (V8 a lo l N.length) (bE st) (kK n (m lo) l) λt=>.ro t.1 a t.2) :
  eG P w K mg base oM (k+1) f fd ps (aeK K λlo l=>kK n (m lo) l):=by
 refine Fn.ok S (λvs H Q E h=>?_) (λcV A outer s H vs Q E hr h=>?_)
 ·obtain⟨_,a,IZ,ws,lo,l,rfl,_,_,r,q⟩:=h;rw[Ap,r.length,gM q];exact hn
 obtain⟨tb,a,IZ,ws,lo,l,rfl,ha,zP,r,q⟩:=h;have hl:=gM q;have Ş:=r.length;have Hk:∀{i:Nat}{s:SL},(V8 a lo l N.length)[i]?=am (am s)->(i=0/\s=.ol (am a) lo)\/∃j u v,i=j+1/\IZ[j]?=am u/\s=.val v/\VR K [] H u v:=λ{i s} e=>by
  unfold V8 at e;cases i with
  | zero=>simp at e;exact .inl ⟨rfl,e.symm⟩
  | succ j=>
   rw[E4,E2]at e;by_cases c:j < l.length
   ·rw[Ax (by simpa using c)]at e;obtain⟨u,v,h1,h2,h3⟩:=aG.slot r e;exact .inr ⟨j,u,v,rfl,h1,h2,h3⟩
   ·rw[Az (by simpa using c),Bi]at e
    split at e <;> cases e
 have sr:aU K H (L2.start N (.ref a::IZ)) (V8 a lo l N.length):=by
  refine⟨?_,λi s e=>?_,λi j s t x y b e1 e2 o1 o2 q1 q2 _ _=>?_,tb⟩
  ·unfold L2.start V8;rw[Al,Ah,Bh,Al,Ap,Ap,Ah,Bh];omega
  ·rcases Hk e with⟨rfl,rfl⟩ | ⟨j,u,v,rfl,h1,rfl,h3⟩
   ·exact⟨.ref a,iC rfl,.inr ⟨a,rfl,λb z=>Option.some.inj z,ws,ha,zP⟩⟩
   ·exact⟨u,iC (by simpa using h1),.inl ⟨v,rfl,h3⟩⟩
  ·rcases Hk e1 with⟨rfl,rfl⟩ | ⟨j1,u,v,rfl,h1,rfl,h3⟩
   ·rcases Hk e2 with⟨rfl,rfl⟩ | ⟨j1,u,v,rfl,h1,rfl,h3⟩
    ·rfl
    ·cases o2
   ·cases o1
 refine⟨_,(Æ a lo l hl cV A outer s H E hr).p,sr,(kK n (m lo) l).mono (λt q1 u σ' bL H' g s' ho rv=>?_) q⟩;obtain⟨i,e⟩:=ho;obtain⟨u',e',r'⟩:=s'.at' i _ e;rcases r' with⟨v,z,_⟩ | ⟨b,rfl,hb,sT,h1,h2⟩
 ·cases z
 have hba:=hb a rfl;subst hba;refine q1 u sT H' (λc o nc e=>(g.keep c o e λz=>?_).1) s'.tb g.there h1 h2 rv;obtain⟨j,t',x,z1,z2,z3,z4⟩:=z;rcases Hk z1 with⟨rfl,rfl⟩ | ⟨j1,u,v,rfl,_,rfl,_⟩
 ·have:=rK z3;simp at this;rcases z4 with rfl | z4
  ·exact nc this.symm
  ·cases z4
 ·cases z2
def mT(G:O Int->Prop):O V->Prop:=λws=>∃ns:O Int,ws=ns.map V.int/\G ns
def abx{m:O PV->O PV->W (PV×O PV)}{mp:O PV->W PV}(F:eG P w K mg base oM k f fd ps (aeK K m))(hm:∀ns l Q,G ns->(mp l).run Q->(m (ns.map PV.int) l).run λt=>Q t.1/\∃yA:O Int,t.2=yA.map PV.int/\G yA) :
  eG P w K mg base oM k f fd ps (xn K (.p (mT G)::An n .v) mp):=F.imp λvs H Q E h=>by
 obtain⟨tb,l,ha,q⟩:=h;cases ha with
 | @p a φ ws vs ks l e r t=>
  obtain⟨ns,rfl,hG⟩:=r;have tv:∀{n:Nat}{vs:O V}{l:O PV},jd K H vs (An n .v) l->aG K [] H vs l:=by
   intro n
   induction n with
   | zero=>intro vs l h;cases h;exact .nil
   | succ n ih=>intro vs l h;cases h with | v r t=>exact .cons r (ih t)
  refine⟨tb,a,vs,ns.map V.int,ns.map PV.int,l,rfl,e,nv _ _ ns,tv t,(m _ _).mono (λt q1 u sT H' sx tb' hth e' r' rv=>?_) (hm ns l _ hG q)⟩;obtain⟨q1,yA,et,hG'⟩:=q1;rw[et]at r';have:=jw r';subst this;refine q1 u H' ⟨λb o eb nb nt=>sx b o (λz=>?_) eb nt,tb',hth,λb φ p=>?_⟩ rv
  ·subst z;exact nb _ ⟨0,rfl,rfl⟩
  ·obtain⟨i,e1,e2⟩:=p;cases i with
   | zero=>simp at e1 e2;subst e1;subst e2;exact⟨_,e',yA,rfl,hG'⟩
   | succ i=>
    simp at e1;rw[Bi]at e1
    split at e1 <;> simp at e1
end
section
variable{T:Type}{w:W T}{out:T->End}{x:Bool}
def ae7(G:O Int->Prop)(l:O PV)(w:W T):W T:=.e6 (∃ns:O Int,l=ns.map PV.int/\G ns) w
def SF.oW(i:Nat)(hs:fs[i]?=am (am (.ol ce l)))(hr:SF X K x (fs.set i (am (.oW (mT G)))) SA w out):SF X K x fs SA (ae7 G l w) out:=⟨λZ s σ H D I ⟨sr,q⟩=>by
 obtain⟨⟨ns,el,hG⟩,q⟩:=q;obtain⟨a,ws,e1,h1,r1⟩:=dN sr hs;subst el;have:=jw r1;subst this;obtain⟨s2,g2⟩:=iM (t':=.oW (mT G)) sr hs rfl (by simp) e1 (λ_ _ _ z=>z:kI a H H) λtk=>⟨_,h1,ns,rfl,hG⟩;exact hr.p Z s σ H D I ⟨s2,w.mono (λt q2=>q2.go g2 sr s2) q⟩⟩
end
end
end FL
variable{f:PL.PV->FL.W PL.PV}{W':FL.W PL.PV}
namespace FL
section
variable[bU]
variable{K:Ab}
abbrev akN(wa wb:W PV):W PV:=.bind wa λx=>Zp x wb
abbrev qE(wl:W (O PV)):W PV:=.bind wl λl=>.ret (.cl l)
abbrev QQ(t:W Bool)(w:W PV):W (Option PV):=.bind t λk=>if k=true then .bind w λv=>.ret (am v) else .ret ce
section
variable{c:r9}{WL:W (O PV)}
def Za{m:O PV->W PV}(G:ZD X.prog X.w X.K X.mg X.base x k ps (xn K ks m))(hr:cI k' X.A)(hk:k<=k')(hg:Gl X x)(ha:AF X K fs (e::es) ks B)(hW:W'=B m)(lA: ~~~(gK x))
  (he:‹fR X e es›) (dg:‹kJ X pos es›):EF X K fs (.Call (.Name x p) (e::es) [] pos) W':=hW▸ac1 G hr hk hg ha lA he dg
def Yp{m:O PV->W (O PV)}{B:(O PV->W (O PV))->W (O PV)}(G:ZD X.prog X.w X.K X.mg X.base x k ps (Jo K ks m))(hr:cI k' X.A)(hk:k<=k')(hg:Gl X x)(ha:AF X K fs (e::es) ks B)(hW:WL=B m)(lA: ~~~(gK x))
  (he:‹fR X e es›) (dg:‹kJ X pos es›):LF X K fs (.Call (.Name x p) (e::es) [] pos) WL:=hW▸ab6 G hr hk hg ha lA he dg
def bj{x1}(h:AF X K fs es (An n .v) B)(hW:W'=B λl=>.ret (.tup l))(hn: ~~~(n<=1000)):EF X K fs (.Tuple es x1 pos) W':=hW▸agQ h hn
def aQ{B:(O PV->W (O PV))->W (O PV)}(h:AF X K fs es (An n .v) B)(hW:WL=B λl=>.ret l)(hn: ~~~(n<=1000)):LF X K fs (.List es pos) WL:=hW▸afz h hn
variable{sc:re}{T2:Type}{wt:PV->W T2}{dh:T2->br}{tf:T2->W Bool}{te:T2->W PV}
def da(hc:X.calm=true)(S:cj X.env.scope X.N sc N' ix)(hi:wM X K fs tg iter wl)(hg:∀cl C s2 H2 fp,PG (jK X sc N' cl C s2 H2 fp) tg (e7 i))(he:∀cl C s2 H2 fp t,EF (jK X sc N' cl C s2 H2 fp) K ((cS ix fs).set i (am (.val t))) Ç (f t))(h0:ix[i]?=am ce)(hs:IJ X iter:=by intro _;rfl) :
  LF X K fs (.ListComp Ç [⟨tg,iter,[],0⟩] sc pos) (.bind wl λl=>aZ l f):=
 have h1:(cS ix fs)[i]?=am ce:=by unfold cS;rw[Ai,h0];rfl
 Z2 hc S hi (λcl C s2 H2 fp=>g_1 (hg cl C s2 H2 fp)) he (λ_=>rfl) (ab1 h1) (λj hj=>by rw[AR]at hj;subst hj;exact h0) hs
def vK{tf:PV->W Bool}{te:PV->W PV}(hc:X.calm=true)(S:cj X.env.scope X.N sc N' ix)(hi:wM X K fs tg iter wl)(hg:∀cl C s2 H2 fp,PG (jK X sc N' cl C s2 H2 fp) tg (e7 i))(hf:∀cl C s2 H2 fp t,TF (jK X sc N' cl C s2 H2 fp) K ((cS ix fs).set i (am (.val t))) c (tf t))(he:∀cl C s2 H2 fp t,EF (jK X sc N' cl C s2 H2 fp) K ((cS ix fs).set i (am (.val t))) Ç (te t))(h0:ix[i]?=am ce)(hs:IJ X iter:=by intro _;rfl) :
  LF X K fs (.ListComp Ç [⟨tg,iter,[c],0⟩] sc pos) (.bind wl λl=>mD l λp=>QQ (tf p) (te p)):=
 have h1:(cS ix fs)[i]?=am ce:=by unfold cS;rw[Ai,h0];rfl
 ab5 (wt:=.ret) (tf:=tf) (te:=te) hc S hi (λcl C s2 H2 fp=>g_1 (hg cl C s2 H2 fp)) (λcl C s2 H2 fp t=>M9 (hf cl C s2 H2 fp t)) he (λ_=>rfl) (ab1 h1) (λj hj=>by rw[AR]at hj;subst hj;exact h0) hs
def Ms(hc:X.calm=true)(S:cj X.env.scope X.N sc N' ix)(hi:wM X K fs tg iter wl)(hg:∀cl C s2 H2 fp,GF (jK X sc N' cl C s2 H2 fp) K (cS ix fs) tg is wt dh)(he:∀cl C s2 H2 fp t,EF (jK X sc N' cl C s2 H2 fp) K (dh t) Ç (te t))
  (hl:yj is (cS ix fs) dh/\∀t,i7 (dh t) (cS ix fs)) (w6:∀j∈is,ix[j]?=am ce) (hs:IJ X iter:=by intro _;rfl) :
  LF X K fs (.ListComp Ç [⟨tg,iter,[],0⟩] sc pos) (.bind wl λl=>aZ l λp=>.bind (wt p) te):=Z2 hc S hi hg he (λ_=>rfl) hl w6 hs
def afA(hc:X.calm=true)(S:cj X.env.scope X.N sc N' ix)(hi:wM X K fs tg iter wl)(hg:∀cl C s2 H2 fp,GF (jK X sc N' cl C s2 H2 fp) K (cS ix fs) tg is wt dh)(hf:∀cl C s2 H2 fp t,TF (jK X sc N' cl C s2 H2 fp) K (dh t) c (tf t))(he:∀cl C s2 H2 fp t,EF (jK X sc N' cl C s2 H2 fp) K (dh t) Ç (te t))
  (hl:yj is (cS ix fs) dh/\∀t,i7 (dh t) (cS ix fs)) (w6:∀j∈is,ix[j]?=am ce) (hs:IJ X iter:=by intro _;rfl) :
  LF X K fs (.ListComp Ç [⟨tg,iter,[c],0⟩] sc pos) (.bind wl λl=>mD l λp=>.bind (wt p) λt=>QQ (tf t) (te t)):=ab5 hc S hi hg (λcl C s2 H2 fp t=>M9 (hf cl C s2 H2 fp t)) he (λ_=>rfl) hl w6 hs
variable{rest:O ut}{T:Type}{out:T->End}{x0:Bool}{kk:O PV->W T}
def Yh{wt:PV->W T2}{te:T2->W PV}:(λl=>aZ l λp=>.bind (wt p) te)=λl=>mD l λp=>.bind (wt p) λt=>.bind (.ret true) λk=>if k=true then .bind (te t) λv=>.ret (am v) else .ret ce:=funext λl=>by
 rw[GC];rfl
def SF.Om(hc:X.calm=true)(hN:X.N.Nodup)(U3:X.N[i]?=am y)(hx:X.env.scope.names.lookup y=am .local)(S:cj X.env.scope X.N sc N' ix)(hi:wM X K fs tg iter wl)(hg:∀cl C s2 H2 fp,GF (jK X sc N' cl C s2 H2 fp) K (cS ix fs) tg is wt dh)(he:∀cl C s2 H2 fp t,EF (jK X sc N' cl C s2 H2 fp) K (dh t) Ç (te t))
  (hl:yj is (cS ix fs) dh/\∀t,i7 (dh t) (cS ix fs)) (w6:∀j∈is,ix[j]?=am ce) (hr:∀l,SF X K x0 (fs.set i (am (.ol ce l))) rest (kk l) out)
  (ur:‹sB (.ListComp Ç [⟨tg,iter,[],0⟩] sc pos) (am (.Name y px)) xl.line X.env=pure true›) (hs:IJ X iter:=by intro _;rfl) :
  SF X K x0 fs (.Assign [.Name y px] (.ListComp Ç [⟨tg,iter,[],0⟩] sc pos) xl::rest) (.bind (.bind wl λl=>aZ l λp=>.bind (wt p) te) kk) out:=by
 rw[Yh];exact SF.ZL (tf:=λ_=>.ret true) hc hN U3 hx S hi hg (λ_ _ _ _ _ _=>Vi) he (λp=>rfl) hl w6 hr ur hs
def SF.kT(hc:X.calm=true)(hN:X.N.Nodup)(U3:X.N[i]?=am y)(hx:X.env.scope.names.lookup y=am .local)(S:cj X.env.scope X.N sc N' ix)(hi:wM X K fs tg iter wl)(hg:∀cl C s2 H2 fp,PG (jK X sc N' cl C s2 H2 fp) tg (e7 j))(he:∀cl C s2 H2 fp t,EF (jK X sc N' cl C s2 H2 fp) K ((cS ix fs).set j (am (.val t))) Ç (f t))(h0:ix[j]?=am ce)(hr:∀l,SF X K x0 (fs.set i (am (.ol ce l))) rest (kk l) out)
  (ur:‹sB (.ListComp Ç [⟨tg,iter,[],0⟩] sc pos) (am (.Name y px)) xl.line X.env=pure true›) (hs:IJ X iter:=by intro _;rfl) :
  SF X K x0 fs (.Assign [.Name y px] (.ListComp Ç [⟨tg,iter,[],0⟩] sc pos) xl::rest) (.bind (.bind wl λl=>aZ l f) kk) out:=
 have h1:(cS ix fs)[j]?=am ce:=by unfold cS;rw[Ai,h0];rfl
 SF.Om (wt:=.ret) hc hN U3 hx S hi (λcl C s2 H2 fp=>g_1 (hg cl C s2 H2 fp)) he (ab1 h1) (λm hj=>by rw[AR]at hj;subst hj;exact h0) hr ur hs
def SF.aa8(hc:X.calm=true)(hN:X.N.Nodup)(U3:X.N[i]?=am y)(hx:X.env.scope.names.lookup y=am .local)(S:cj X.env.scope X.N sc N' ix)(hi:wM X K fs tg iter wl)(hg:∀cl C s2 H2 fp,GF (jK X sc N' cl C s2 H2 fp) K (cS ix fs) tg is wt dh)(hf:∀cl C s2 H2 fp t,TF (jK X sc N' cl C s2 H2 fp) K (dh t) c (tf t))(he:∀cl C s2 H2 fp t,EF (jK X sc N' cl C s2 H2 fp) K (dh t) Ç (te t))
  (hl:yj is (cS ix fs) dh/\∀t,i7 (dh t) (cS ix fs)) (w6:∀j∈is,ix[j]?=am ce) (hr:∀l,SF X K x0 (fs.set i (am (.ol ce l))) rest (kk l) out)
  (ur:‹sB (.ListComp Ç [⟨tg,iter,[c],0⟩] sc pos) (am (.Name y px)) xl.line X.env=pure true›) (hs:IJ X iter:=by intro _;rfl) :
  SF X K x0 fs (.Assign [.Name y px] (.ListComp Ç [⟨tg,iter,[c],0⟩] sc pos) xl::rest) (.bind (.bind wl λl=>mD l λp=>.bind (wt p) λt=>QQ (tf t) (te t)) kk) out:=SF.ZL hc hN U3 hx S hi hg (λcl C s2 H2 fp t=>M9 (hf cl C s2 H2 fp t)) he (λ_=>rfl) hl w6 hr ur hs
end
def agw{f:f8}(h:∀vs H Q E,¬sp vs H Q E):eG P w K mg base oM k f fd ps sp:=⟨λvs H Q E q=>(h _ _ _ _ q).elim,λA outer s H args us vs Q E _ _ _ _ q=>(h _ _ _ _ q).elim⟩
def W6{m:w5 (O PV) n}(h:∀l Q,l.length=n->¬(kK n m l).run Q):∀vs H Q E,¬Jo K ks (kK n m) vs H Q E:=λvs H Q E ⟨_,l,_,q⟩=>h l _ (gM q) q
theorem bF(hr:cI k A):A.units+200 < xz:=by have:=hr.un;omega
end
section
variable[bU]
variable{K:Ab}
mutual
def PV.i8:PV->Bool
 | .tup l=>fm l
 | .cl l=>fm l
 | .ref _=>false
 | .ty _=>false
 | .dv _ _=>false
 | .ob _ _=>false
 | _=>true
def fm:O PV->Bool
 | []=>true
 | x::l=>PV.i8 x&&fm l
end
mutual
def PV.fo:PV->Nat
 | .tup l=>d6 l+1
 | .cl l=>d6 l+1
 | _=>0
def d6:O PV->Nat
 | []=>0
 | x::l=>max (PV.fo x) (d6 l)
end
mutual
def jY:PV->PV->Bool
 | .aJ,.aJ=>true
 | .bl a,.bl b=>a==b
 | .bl a,.int b=>(if a then 1 else 0)==b
 | .int a,.bl b=>a==(if b then 1 else 0)
 | .int a,.int b=>a==b
 | .str a,.str b=>a==b
 | .tup l,.tup m=>gE l m
 | .cl l,.cl m=>gE l m
 | _,_=>false
def gE:O PV->O PV->Bool
 | [],[]=>true
 | x::l,y::m=>jY x y&&gE l m
 | _,_=>false
end
theorem vY:∀{l:O PV}{j:Nat}{x:PV},fm l=true->l[j]?=am x->PV.i8 x=true
 | [],_,_,_,e=>by simp at e
 | y::l,0,x,h,e=>by
  simp at e;subst e;rw[fm,AI]at h;exact h.1
 | y::l,j+1,x,h,e=>by
  rw[fm,AI]at h;exact vY h.2 (by simpa using e)
theorem yU:∀{l:O PV}{j:Nat}{x:PV},l[j]?=am x->PV.fo x<=d6 l
 | [],_,_,e=>by simp at e
 | y::l,0,x,e=>by
  simp at e;subst e;rw[d6];omega
 | y::l,j+1,x,e=>by
  have:=yU (l:=l) (j:=j) (x:=x) (by simpa using e);rw[d6];omega
mutual
theorem Vk:∀(x:PV),PV.i8 x=true->jY x x=true
 | .aJ,_=>by rw[jY]
 | .bl b,_=>by rw[jY];simp
 | .int i,_=>by rw[jY];simp
 | .str i,_=>by rw[jY];simp
 | .tup l,h=>by rw[jY];exact nF l (by rw[PV.i8]at h;exact h)
 | .cl l,h=>by rw[jY];exact nF l (by rw[PV.i8]at h;exact h)
 | .ref _,h=>by rw[PV.i8]at h;cases h
 | .ty _,h=>by rw[PV.i8]at h;cases h
 | .dv _ _,h=>by rw[PV.i8]at h;cases h
 | .ob _ _,h=>by rw[PV.i8]at h;cases h
theorem nF:∀(l:O PV),fm l=true->gE l l=true
 | [],_=>by rw[gE]
 | x::l,h=>by
  rw[fm,AI]at h;rw[gE,Vk x h.1,nF l h.2];rfl
end
def Vx(l m:O PV)(j:Nat):Bool:=match l[j]?,m[j]? with | some x,am y=>jY x y | _,_=>true
theorem qI:∀(l m:O PV),((AD (min l.length m.length)).all (Vx l m)&&l.length==m.length)=gE l m
 | [],[]=>by rw[gE];rfl
 | [],_::_=>by
  rw[gE]
  ·simp
  ·intros;simp_all
  ·intros;simp_all
 | _::_,[]=>by
  rw[gE]
  ·simp
  ·intros;simp_all
  ·intros;simp_all
 | x::l,y::m=>by
  rw[gE,<- qI l m];have e:min (x::l).length (y::m).length=min l.length m.length+1:=by simp only[Ap];omega
  rw[e,List.range_succ_eq_map,List.all_cons,List.all_map];have e2:((x::l).length==(y::m).length)=(l.length==m.length):=by simp
  rw[e2,Bool.and_assoc];rfl
def Vj{m:O PV}(h:l.length≠m.length):gE l m=false:=by
 rw[<- qI];have:(l.length==m.length)=false:=by simpa using h
 rw[this,EA]
section
mutual
theorem VR.O9(I:Inv X Z σ H s):∀{v:V}{x y:PV},VR X.K [] H v x->VR X.K [] H v y->x=y
 | _,_,_,.aJ,h=>by cases h;rfl
 | _,_,_,.bl b,h=>by cases h;rfl
 | _,_,_,.int b,h=>by cases h;rfl
 | _,_,_,.str b,h=>by cases h;rfl
 | _,_,_,.ty b,h=>by cases h;rfl
 | _,_,_,.ref e,h=>by simp at e
 | _,_,_,.tup e r,h=>by
  cases h with
  | tup e' r'=>
   have ee:=I.mY (dJ.of e) (dJ.of e');subst ee;rw[aG.O9 I r r']
  | ref e=>simp at e
  | cl e' r'=>
   obtain⟨au,_,⟨o,n,h1,h2,_⟩,_⟩:=I.list e'.sq;obtain⟨its',_,⟨o',hE,uI,_⟩,_⟩:=I.tuple (dJ.of e);rw[h1]at hE;cases hE;rw[h2]at uI;simp at uI
  | dk e' _ _=>rw[e]at e';cases e'
  | dt e' _ _=>rw[e]at e';cases e'
  | ob e' _ _ _ _=>rw[e]at e';cases e'
 | _,_,_,.ob e c na k r,h=>by
  cases h with
  | ob e' _ _ k' r'=>rw[e]at e';cases e';rw[k,k',aG.O9 I r r']
  | dk e' _ _=>rw[e]at e';cases e'
  | dt e' _ _=>rw[e]at e';cases e'
  | ref e=>simp at e
  | tup e' _=>rw[e]at e';cases e'
  | cl e' r'=>
   obtain⟨au,_,⟨o,n,h1,h2,_⟩,_⟩:=I.list e'.sq;obtain⟨_,_,_,_,hE,_⟩:=I.a8 _ _ e;rw[h1]at hE;cases hE;simp at h2
 | _,_,_,.dk e k r,h=>by
  cases h with
  | dk e' k' r'=>rw[e]at e';cases e';rw[k,k',aG.O9 I r r']
  | dt e' _ _=>rw[e]at e';cases e'
  | ob e' _ _ _ _=>rw[e]at e';cases e'
  | ref e=>simp at e
  | tup e' _=>rw[e]at e';cases e'
  | cl e' r'=>
   obtain⟨au,_,⟨o,n,h1,h2,_⟩,_⟩:=I.list e'.sq;obtain⟨_,_,vs,_,o',_,_,hE,uI,_⟩:=KQ I.a8 (.inr ⟨_,e⟩);rw[h1]at hE;cases hE;have h3:=uI.1;rw[h2]at h3;simp at h3
 | _,_,_,.dt e k r,h=>by
  cases h with
  | dt e' k' r'=>rw[e]at e';cases e';rw[k,k',aG.O9 I r r']
  | ob e' _ _ _ _=>rw[e]at e';cases e'
  | dk e' _ _=>rw[e]at e';cases e'
  | ref e=>simp at e
  | tup e' _=>rw[e]at e';cases e'
  | cl e' r'=>
   obtain⟨au,_,⟨o,n,h1,h2,_⟩,_⟩:=I.list e'.sq;obtain⟨_,_,vs,_,o',_,_,hE,uI,_⟩:=KP I.a8 (.inr ⟨_,e⟩);rw[h1]at hE;cases hE;have h3:=uI.1;rw[h2]at h3;simp at h3
 | _,_,_,.cl e r,h=>by
  cases h with
  | ob e' _ _ _ _=>
   obtain⟨au,_,⟨o,n,h1,h2,_⟩,_⟩:=I.list e.sq;obtain⟨_,_,_,_,hE,_⟩:=I.a8 _ _ e';rw[h1]at hE;cases hE;simp at h2
  | dk e' _ _=>
   obtain⟨au,_,⟨o,n,h1,h2,_⟩,_⟩:=I.list e.sq;obtain⟨_,_,vs,_,o',_,_,hE,uI,_⟩:=KQ I.a8 (.inr ⟨_,e'⟩);rw[h1]at hE;cases hE;have h3:=uI.1;rw[h2]at h3;simp at h3
  | dt e' _ _=>
   obtain⟨au,_,⟨o,n,h1,h2,_⟩,_⟩:=I.list e.sq;obtain⟨_,_,vs,_,o',_,_,hE,uI,_⟩:=KP I.a8 (.inr ⟨_,e'⟩);rw[h1]at hE;cases hE;have h3:=uI.1;rw[h2]at h3;simp at h3
  | cl e' r'=>
   obtain⟨au,k,⟨o,n,h1,h2,h3,h4⟩,_⟩:=I.list e.sq;obtain⟨its',k',⟨o',n',hE,uI,U7,ü⟩,_⟩:=I.list e'.sq;rw[h1]at hE;cases hE;rw[h4]at ü;have:au=its':=by injection ü with a b;simpa using a
   subst this;have ee:=Vals.inj k k';subst ee;rw[aG.O9 I r r']
  | ref e=>simp at e
  | tup e' r'=>
   obtain⟨au,_,⟨o,n,h1,h2,_⟩,_⟩:=I.list e.sq;obtain⟨its',_,⟨o',hE,uI,_⟩,_⟩:=I.tuple (dJ.of e');rw[h1]at hE;cases hE;rw[h2]at uI;simp at uI
theorem aG.O9(I:Inv X Z σ H s):∀{v:O V}{x y:O PV},aG X.K [] H v x->aG X.K [] H v y->x=y
 | _,_,_,.nil,h=>by cases h;rfl
 | _,_,_,.cons r t,h=>by
  cases h with
  | cons r' t'=>rw[VR.O9 I r r',aG.O9 I t t']
end
structure Cmp(A:ww)(s:ii)(w w':db)(b:Bool):Prop where
 rc:SeqAt.RcAt A s w w' b
 ne:SeqAt.RcNeAt A s w w' (!b)
 eq:DR A s w w' b
def agP(I:Inv X Z σ H s){ws:O V}{m:O PV}(r:Vals vs au)(r':Vals ws its')(r1:aG X.K [] H vs l)(r2:aG X.K [] H ws m)
  (ih:∀(j:Nat) (x y:PV) (v v':V) (w w':db),l[j]?=am x->m[j]?=am y->VR X.K [] H v x->VR X.K [] H v' y->RelV v w->RelV v' w'->DR A s w w' (jY x y)) :
  ∀j (g1:j < au.toArray.size) (g2:j < its'.toArray.size),DR A s au.toArray[j] its'.toArray[j] (Vx l m j):=λj g1 g2=>by
 have h1:j < au.length:=by simpa using g1
 have h2:j < its'.length:=by simpa using g2
 have hl:j < l.length:=by rw[<- r1.length,r.length];exact h1
 have hm:j < m.length:=by rw[<- r2.length,r'.length];exact h2
 obtain⟨v,v1,v2⟩:=r1.get (Ad hl);obtain⟨v',å,v2'⟩:=r2.get (Ad hm);obtain⟨u,u1,u2⟩:=r.get v1;obtain⟨u',u1',u2'⟩:=r'.get å;rw[Ad h1]at u1;rw[Ad h2]at u1';cases u1;cases u1';unfold Vx;rw[Ad hl,Ad hm];have:=ih j _ _ v v' _ _ (Ad hl) (Ad hm) v2 v2' u2 u2';simpa using this
inductive Sh(X:Cx)(H:Hp)(s:ii):PV->db->Prop
 | aJ:Sh X H s .aJ .none
 | bl (b:Bool):Sh X H s (.bl b) (.bool b)
 | int (i:Int) (t:Tok):Sh X H s (.int i) (.int i t)
 | str (x:Str) (t:Tok):Sh X H s (.str x) (.str x t)
 | tup {p:f8}{vs:List V}{au:List db}{l:List PV} (e:VR X.K [] H (.ref p) (.tup l)) (k:Vals vs au) (r:aG X.K [] H vs l) (h:s.heap.IsTuple p au.toArray):Sh X H s (.tup l) (.ref p)
 | cl {p:f8}{vs:List V}{au:List db}{l:List PV} (e:VR X.K [] H (.ref p) (.cl l)) (k:Vals vs au) (r:aG X.K [] H vs l) (h:s.heap.IsList p au.toArray):Sh X H s (.cl l) (.ref p)
def Sh.of(I:Inv X Z σ H s){v:V}{x:PV}{w:db}(h:VR X.K [] H v x)(r:RelV v w)(d:PV.i8 x=true):Sh X H s x w:=by
 cases h with
 | ref e=>simp at e
 | aJ=>cases r;exact .aJ
 | bl a=>cases r;exact .bl a
 | int a=>obtain⟨t,rfl⟩:=r;exact .int a t
 | str a=>obtain⟨t,rfl⟩:=r;exact .str a t
 | tup e q=>
  cases r;obtain⟨au,k,ht,_⟩:=I.tuple (dJ.of e);exact .tup (.tup e q) k q ht
 | cl e q=>
  cases r;obtain⟨au,k,pl,_⟩:=I.list e.sq;exact .cl (.cl e q) k q pl.isList
 | _=>rw[PV.i8]at d;cases d
set_option maxHeartbeats 8000000 in
theorem ada(hK:X.K=K)(I:Inv X Z σ H s):∀(n:Nat) (x y:PV) (A:ww) (v v':V) (w w':db),PV.fo x<=n->PV.i8 x=true->PV.i8 y=true->VR K [] H v x->VR K [] H v' y->RelV v w->RelV v' w'->A.units+n+1 < xz->Cmp A s w w' (jY x y):=by
 subst hK;intro n
 induction n using Ct with
 | ind n ih=>
 intro x y A v v' w w' hd dx dy hv UW r1 r2 hu;have a:=Sh.of I hv r1 dx;have b:=Sh.of I UW r2 dy;clear hv UW r1 r2;have el:∀{l m:O PV}{vs ws:O V}{au dr:O db},fm l=true->fm m=true->d6 l < n->Vals vs au->Vals ws dr->aG X.K [] H vs l->aG X.K [] H ws m->au.toArray.size=l.length/\dr.toArray.size=m.length/\∀j (g1:j < au.toArray.size) (g2:j < dr.toArray.size),DR A.in1 s au.toArray[j] dr.toArray[j] (Vx l m j):=λd1 d2 hd k1 k2 r r'=>⟨by rw[Aj,<- k1.length,r.length],by rw[Aj,<- k2.length,r'.length],agP I (A:=A.in1) k1 k2 r r' λj x y v v' w w' hx hy vx vy rx ry=>(ih _ hd x y A.in1 v v' w w' (yU hx) (vY d1 hx) (vY d2 hy) vx vy rx ry (by show A.units+1+_+1 < _;omega)).eq⟩;have fin:∀{pa pb:f8}{l m:O PV},(pa=pb->l=m)->fm l=true->SeqAt.RcAt A s (.ref pa) (.ref pb) (gE l m)->DR A s (.ref pa) (.ref pb) (gE l m):=λ{pa pb l m} h d q=>by
  by_cases w9:pa=pb
  ·rw[h w9,nF _ (h w9▸d),w9];exact Gn _
  ·exact F8 w9 q
 cases a <;> cases b
 case tup.tup pa vs au l e k r ht pb ws dr m e2 k2 r2 MP=>
  rw[PV.fo]at hd;obtain⟨z1,z2,ie⟩:=el dx dy ∅ k k2 r r2;have q1:=Ga ht MP (A:=A) ∅ ie;have q2:=SeqAt.RcNeAt.tuples ht MP (A:=A) ∅ ie;rw[z1,z2,qI]at q1 q2;exact⟨q1,q2,fin (λz=>by subst z;have:=VR.O9 I e e2;injection this) dx q1⟩
 case cl.cl pa vs au l e k r ht pb ws dr m e2 k2 r2 MP=>
  rw[PV.fo]at hd;obtain⟨z1,z2,ie⟩:=el dx dy ∅ k k2 r r2;by_cases hz:l.length=m.length
  ·have q1:=SeqAt.RcAt.lists ht MP (by rw[z1,z2];exact hz) (A:=A) ∅ ie;have q2:=SeqAt.RcNeAt.lists ht MP (by rw[z1,z2];exact hz) (A:=A) ∅ ie;have ef:(AD l.length).all (Vx l m)=gE l m:=by rw[<- qI,hz,Fd,beq_self_eq_true,Bool.and_true]
   rw[z1,ef]at q1 q2;exact⟨q1,q2,fin (λz=>by subst z;have:=VR.O9 I e e2;injection this) dx q1⟩
  ·have q1:=SeqAt.RcAt.lists_lengths (A:=A) ht MP (by rw[z1,z2];simpa using hz) ∅;have q2:=SeqAt.RcNeAt.lists_lengths (A:=A) ht MP (by rw[z1,z2];simpa using hz) ∅;have ef:=Vj hz;rw[<- ef]at q1;have q2:SeqAt.RcNeAt A s (.ref pa) (.ref pb) (!gE l m):=by rw[ef];exact q2
   exact⟨q1,q2,fin (λz=>by subst z;have:=VR.O9 I e e2;injection this) dx q1⟩
 all_goals
  clear ih el fin;rw[jY] <;> try (intros;simp_all;done)
  refine⟨?_,?_,?_⟩ <;> (try simp only[C3,Dc]) <;> first | with_reducible exact .none_none | with_reducible exact .none_bool _ | with_reducible exact .none_int _ _ | with_reducible exact .none_str _ _ | with_reducible exact .none_tuple ‹_› ∅ | with_reducible exact .none_list ‹_› ∅ | with_reducible exact .bool_none _ | with_reducible exact .bool_str _ _ _ | with_reducible exact .bool_tuple _ ‹_› ∅ | with_reducible exact .bool_list _ ‹_› ∅ | with_reducible exact .int_none _ _ | with_reducible exact .int_str _ _ _ _ | with_reducible exact .int_tuple _ _ ‹_› ∅ | with_reducible exact .int_list _ _ ‹_› ∅ | with_reducible exact .str_none _ _ | with_reducible exact .str_bool _ _ _ | with_reducible exact .str_int _ _ _ _ | with_reducible exact .str_tuple _ _ ‹_› ∅ | with_reducible exact .str_list _ _ ‹_› ∅ | with_reducible exact .tuple_none ‹_› ∅ | with_reducible exact .tuple_bool _ ‹_› ∅ | with_reducible exact .tuple_int _ _ ‹_› ∅ | with_reducible exact .tuple_str _ _ ‹_› ∅ | with_reducible exact .tuple_list ‹_› ‹_› ∅ | with_reducible exact .list_none ‹_› ∅ | with_reducible exact .list_bool _ ‹_› ∅ | with_reducible exact .list_int _ _ ‹_› ∅ | with_reducible exact .list_str _ _ ‹_› ∅ | with_reducible exact .list_tuple ‹_› ‹_› ∅ | exact .same _ | exact .bool_bool _ _ | exact .bool_int _ _ _ | exact .int_bool _ _ _ | exact .int_int _ _ _ _ | exact .str_str _ _ _ _
end
end
section
variable[bU]
variable{K:Ab}
mutual
theorem VR.pZ{ι:O f8}{H:Hp}:∀{v:V}{q:PV},VR K ι H v q->PV.i8 q=true->VR K [] H v q
 | _,_,.aJ,_=>.aJ
 | _,_,.bl b,_=>.bl b
 | _,_,.int i,_=>.int i
 | _,_,.str x,_=>.str x
 | _,_,.ty n,h=>by rw[PV.i8]at h;cases h
 | _,_,.dk _ _ _,h=>by rw[PV.i8]at h;cases h
 | _,_,.dt _ _ _,h=>by rw[PV.i8]at h;cases h
 | _,_,.ob _ _ _ _ _,h=>by rw[PV.i8]at h;cases h
 | _,_,.tup e r,h=>.tup e (aG.pZ r (by rw[PV.i8]at h;exact h))
 | _,_,.cl e r,h=>.cl e (aG.pZ r (by rw[PV.i8]at h;exact h))
 | _,_,.ref e,h=>by rw[PV.i8]at h;cases h
theorem aG.pZ{ι:O f8}{H:Hp}:∀{v:O V}{q:O PV},aG K ι H v q->fm q=true->aG K [] H v q
 | _,_,.nil,_=>.nil
 | _,_,.cons r s,h=>by
  rw[fm,AI]at h;exact .cons (VR.pZ r h.1) (aG.pZ s h.2)
end
def Nb(x y:PV):Prop:=PV.i8 x=true/\PV.i8 y=true/\PV.fo x<=150
def iP:M2:=⟨λx y h Q=>Nb x y/\Q (.bl (jY x y)) h,λf q=>⟨q.1,f _ _ q.2⟩⟩
def vg:M2:=⟨λx y h Q=>Nb x y/\Q (.bl (!jY x y)) h,λf q=>⟨q.1,f _ _ q.2⟩⟩
def Xq(K:Ab)(neg:Bool):R2:=λu v H Q=>∃x y,VR K [] H u x/\VR K [] H v y/\Nb x y/\Q (.bl (if neg then !jY x y else jY x y)) H
section
theorem abK(hK:X.K=K)(hu:X.A.units+200 < xz):lN X (v4 .Eq) (Xq K false):=λZ s σ H u v w w' Q I r1 r2 ⟨x,y,h1,h2,⟨o1,o2,o3⟩,q⟩=>by
 exact EqBoolInt.of_rc (ada hK I 150 x y X.A u v w w' o3 o1 o2 h1 h2 r1 r2 ∅).rc ⟨.bl _,H,I,rfl,q⟩
theorem abH(hK:X.K=K)(hu:X.A.units+200 < xz):lN X (v4 .NotEq) (Xq K true):=λZ s σ H u v w w' Q I r1 r2 ⟨x,y,h1,h2,⟨o1,o2,o3⟩,q⟩=>by
 exact EqBoolInt.of_rcne (ada hK I 150 x y X.A u v w w' o3 o1 o2 h1 h2 r1 r2 ∅).ne ⟨.bl _,H,I,rfl,q⟩
def X7:M2.Ok K (Xq K false) iP:=λ{ι H h u v x y Q} hr hu hv q=>⟨x,y,VR.pZ hu q.1.1,VR.pZ hv q.1.2.1,q.1,q.2 ι _ H (Go.refl _ _) hr (.bl _)⟩
def X4:M2.Ok K (Xq K true) vg:=λ{ι H h u v x y Q} hr hu hv q=>⟨x,y,VR.pZ hu q.1.1,VR.pZ hv q.1.2.1,q.1,q.2 ι _ H (Go.refl _ _) hr (.bl _)⟩
def mE(hK:X.K=K)(hu:X.A.units+200 < xz):JC X K .Eq b iP:=⟨⟨_,abK hK hu,X7⟩,mq _⟩
def OV(hK:X.K=K)(hu:X.A.units+200 < xz):JC X K .NotEq b vg:=⟨⟨_,abH hK hu,X4⟩,mq _⟩
end
end
end FL
variable{x:Bc}{b b1:Bool}{t z i1 i2 a1 a2:Bm}{ys:Array Bc}{k1:Nat}
namespace L2
def wL(b:Bool)(h:sw)(it a:f8)(k:Nat):Prop:=match b with
 | true=>h.IsListIter it a k
 | false=>h.IsTupleIter it a k
def j5(b:Bool)(h:sw)(a:f8)(xs:Array db):Prop:=match b with
 | true=>h.IsList a xs
 | false=>h.IsTuple a xs
def wL.move(x:wL b h it a k)(g:∀o,h.get? it=am o->h'.get? it=am o):wL b h' it a k:=by
 cases b with
 | true=>obtain⟨o,e,p⟩:=(show h.IsListIter it a k from x);exact(show h'.IsListIter it a k from⟨o,g o e,p⟩)
 | false=>obtain⟨o,e,p⟩:=(show h.IsTupleIter it a k from x);exact(show h'.IsTupleIter it a k from⟨o,g o e,p⟩)
def j5.move(x:j5 b h a xs)(g:∀o,h.get? a=am o->h'.get? a=am o):j5 b h' a xs:=by
 cases b with
 | true=>obtain⟨o,e,p⟩:=(show h.IsList a xs from x);exact(show h'.IsList a xs from⟨o,g o e,p⟩)
 | false=>obtain⟨o,e,p⟩:=(show h.IsTuple a xs from x);exact(show h'.IsTuple a xs from⟨o,g o e,p⟩)
def wL.obj(x:wL b h it a k):∃o,h.get? it=am o/\∀v,o.data≠.cell v:=by
 cases b with
 | true=>obtain⟨o,e,_,d⟩:=(show h.IsListIter it a k from x);exact⟨o,e,λv z=>by rw[d]at z;cases z⟩
 | false=>obtain⟨o,e,_,d⟩:=(show h.IsTupleIter it a k from x);exact⟨o,e,λv z=>by rw[d]at z;cases z⟩
def j5.lt(x:j5 b h a xs):a < h.objs.size:=by
 cases b with
 | true=>obtain⟨o,e,p⟩:=(show h.IsList a xs from x);exact Aq e
 | false=>obtain⟨o,e,p⟩:=(show h.IsTuple a xs from x);exact Aq e
section
def mw(h:wL b s.heap it t i)(ht:j5 b s.heap t items)(hx:items[i]?=am x)
  (q:∀h':sw,wL b h' it t (i+1)->Cn it s.heap h'->Q x {s with heap:=h'}):im (lc prog w) A (Builtin.SmallTypes.nextOf (.ref it)) Q E s:=by
 cases b with
 | true=>exact wpAny_nextOf_list_item h ht hx λh' a b=>q h' a b
 | false=>exact jo h ht hx q
def vm(hA:A.handled=ce)(h:wL b s.heap it t i)(ht:j5 b s.heap t items)(hx:items[i]?=ce)
  (q:∀(h':sw) (e:f8),Gk it s.heap h'->(∃o,h'.get? e=am o/\o.cls=.type "StopIteration")->E (.ref e) {s with heap:=h'}):im (lc prog w) A (Builtin.SmallTypes.nextOf (.ref it)) Q E s:=by
 cases b with
 | true=>exact wpAny_nextOf_list_end hA h ht hx λh' e a b=>q h' e a b
 | false=>exact kq hA h ht hx q
def Q2:Bool->String
 | true=>"list_iterator"
 | false=>"tuple_iterator"
def yu(h:j5 b s.heap a xs)(q:Q (.ref s.heap.objs.size) {s with heap:=s.heap.push {cls:=.type (Q2 b),data:=.fields #[.ref a,.int 0 0]}}):im (lc prog w) A (pyIter (.ref a)) Q E s:=by
 cases b with
 | true=>exact Dz h q
 | false=>exact Dr h q
def Oe(e:h.get? it=am {cls:=.type (Q2 b),data:=.fields #[.ref a,.int 0 0]}):wL b h it a 0:=by
 cases b with
 | true=>exact(show h.IsListIter it a 0 from⟨_,e,rfl,rfl⟩)
 | false=>exact(show h.IsTupleIter it a 0 from⟨_,e,rfl,rfl⟩)
end
structure lM(b1 b2:Bool)(h:sw)(z TI TO i1 i2 a1 a2:f8)(f0:db)(k1 k2:Nat):Prop where
 zip:IsZip h z TI TO f0
 ti:IsPair h TI (.ref i1) (.ref i2)
 to:∃a b,IsPair h TO a b
 it1:wL b1 h i1 a1 k1
 it2:wL b2 h i2 a2 k2
def uQ{E:db->ii->Prop}{b2:Bool}{TI TO:f8}{y:db}(hA:ZipApart z TI TO i1 i2 a1 a2)
  (hz:lM b1 b2 s.heap z TI TO i1 i2 a1 a2 .none k1 k2) (ß:j5 b1 s.heap a1 xs) (MP:j5 b2 s.heap a2 ys) (hx:xs[k1]?=am x) (hy:ys[k2]?=am y)
  (q:∀h':sw,lM b1 b2 h' z TI TO i1 i2 a1 a2 (sn s.heap.objs.size) (k1+1) (k2+1)->IsPair h' s.heap.objs.size x y->(∀c o,c≠z->c≠TO->c≠i1->c≠i2->s.heap.get? c=am o->h'.get? c=am o)->Q (.ref s.heap.objs.size) {s with heap:=h'}) :
  im (lc prog w) A (BT.«zip.__next__» {pos:=[.ref z]}) (λfin s'=>∃v,fin=FN (Gq v)/\Q v s') E s:=by
 obtain⟨hz,YI,⟨ta,tb,ř⟩,Wx,RY⟩:=hz;show im _ _ (field (.ref z) 2 >>= λr=>_) _ _ s;refine Aa (A7 hz rfl rfl ?_);refine Aa (A7 hz rfl rfl ?_);refine Aa (BK YI rfl ?_);refine Aa ?_;refine Aa (A7 hz rfl rfl ?_);refine Af ?_;refine Aa (C7 ?_);refine Aa (A7 hz rfl rfl ?_);show im _ _ (Fk (.ref z) 0 .ellipsis >>= λr=>_) _ _ s;refine Aa (Br hz (show 0 < 5 by decide) λh1 z1 b1=>?_);show im _ _ ((forIn [(Ay i1,0),(Ay i2,1)] _ _) >>= λr=>_) _ _ _;refine Aa ?_;rw[Cb];have xN:=b1.2;refine Aa ?_;refine Aa (ER ?_);refine Aa (mw (Wx.move λo e=>(xN _ hA.i1z).trans e) (ß.move λo e=>(xN _ hA.l1z).trans e) hx λh2 j2 b2=>Af ?_);have U8:∀b,b≠z->b≠i1->h2.get? b=s.heap.get? b:=λb n1 n2=>(b2.2 b n2).trans (xN b n1);have ď:=(U8 _ hA.TOz hA.TOi1).trans ř;refine Aa (BK ď rfl ?_);refine Aa (D5 ď λh3 t3 b3=>?_);have Ï:∀b,b≠z->b≠i1->b≠TO->h3.get? b=s.heap.get? b:=λb n1 n2 n3=>(b3.2 b n3).trans (U8 b n1 n2);refine Aa (CT (Af ?_));show im _ _ (forIn [(Ay i2,1)] _ _) _ _ _;rw[Cb];refine Aa ?_;refine Aa (ER ?_);refine Aa (mw (RY.move λo e=>(Ï _ hA.i2z hA.i12.symm hA.TOi2.symm).trans e) (MP.move λo e=>(Ï _ hA.l2z hA.l2i1 hA.l2TO).trans e) hy λh4 j4 b4=>Af ?_);have to4:=(b4.2 _ hA.TOi2).trans t3;refine Aa (BK to4 rfl ?_);refine Aa (D5 to4 λh5 t5 b5=>?_);have to5:=t5;refine Aa (CT (Af ?_));refine Af ?_;refine Aa (BK to5 rfl ?_);have ŋ:=b5.1.trans (b4.1.trans (b3.1.trans (b2.1.trans b1.1)));refine Aa (C8 ?_ (by show 2<=sizeLine;decide));have agn:∀b,b≠z->b≠i1->b≠TO->b≠i2->h5.get? b=s.heap.get? b:=λb n1 n2 n3 n4=>(b5.2 b n3).trans ((b4.2 b n4).trans (Ï b n1 n2 n3));have z5:h5.get? z=am {cls:=.type "zip",data:=.fields #[.ellipsis,.bool false,.bool false,.ref TI,.ref TO]}:=(b5.2 _ hA.TOz.symm).trans ((b4.2 _ hA.i2z.symm).trans ((b3.2 _ hA.TOz.symm).trans ((b2.2 _ hA.i1z.symm).trans z1)));have kp:∀b o,h5.get? b=am o->(h5.push {cls:=.type "tuple",data:=.seq #[x,y]}).get? b=am o:=λb o e=>Ag _ e;have ajq:(h5.push {cls:=.type "tuple",data:=.seq #[x,y]}).get? h5.objs.size=am {cls:=.type "tuple",data:=.seq #[x,y]}:=Ao _ rfl;refine Aa ?_;show im _ _ (Fk (.ref z) 0 (sn h5.objs.size) >>= λ_=>Fk (.ref z) 1 (.bool false)) _ _ _;refine Aa (Br (kp _ _ z5) (show 0 < 5 by decide) λh7 z7 b7=>?_);refine Br z7 (show 1 < 5 by decide) λh8 z8 b8=>?_;have Rc:∀b,b≠z->h8.get? b=(h5.push {cls:=.type "tuple",data:=.seq #[x,y]}).get? b:=λb n=>(b8.2 b n).trans (b7.2 b n);have nz:s.heap.objs.size≠z:=λe=>by have:=Aq hz;rw[<- e]at this;exact A5 _ this
 refine Af ⟨.ref h5.objs.size,rfl,?_⟩;rw[ŋ];refine q h8 ⟨?_,?_,?_,?_,?_⟩ ?_ ?_
 ·rw[<- ŋ];exact z8
 ·rw[IsPair,Rc _ hA.TIz];exact kp _ _ ((agn _ hA.TIz hA.TIi1 hA.TITO hA.TIi2).trans YI)
 ·exact⟨x,y,by rw[IsPair,Rc _ hA.TOz];exact kp _ _ to5⟩
 ·refine j2.move λo e=>?_;rw[Rc _ hA.i1z];exact kp _ _ ((b5.2 _ hA.TOi1.symm).trans ((b4.2 _ hA.i12).trans ((b3.2 _ hA.TOi1.symm).trans e)))
 ·refine j4.move λo e=>?_;rw[Rc _ hA.i2z];exact kp _ _ ((b5.2 _ hA.TOi2.symm).trans e)
 ·rw[IsPair,Rc _ nz,<- ŋ];exact ajq
 ·intro c o n1 n2 n3 n4 e;rw[Rc _ n1];exact kp _ _ ((agn _ n1 n3 n2 n4).trans e)
def xb{b2:Bool}{TI TO:f8}{Q:PySem.Fin->ii->Prop}(hh:A.handled=ce)(hA:ZipApart z TI TO i1 i2 a1 a2)
  (hz:lM b1 b2 s.heap z TI TO i1 i2 a1 a2 .none k1 k2) (ß:j5 b1 s.heap a1 xs) (MP:j5 b2 s.heap a2 ys) (hx:xs[k1]?=ce\/ys[k2]?=ce)
  (q:∀(h':sw) (e:f8),(∀c o,c≠z->c≠TO->c≠i1->c≠i2->s.heap.get? c=am o->h'.get? c=am o)->(∃o,h'.get? e=am o/\o.cls=.type "StopIteration")->E (.ref e) {s with heap:=h'}) :
  im (lc prog w) A (BT.«zip.__next__» {pos:=[.ref z]}) Q E s:=by
 obtain⟨hz,YI,⟨ta,tb,ř⟩,Wx,RY⟩:=hz;show im _ _ (field (.ref z) 2 >>= λr=>_) _ _ s;refine Aa (A7 hz rfl rfl ?_);refine Aa (A7 hz rfl rfl ?_);refine Aa (BK YI rfl ?_);refine Aa ?_;refine Aa (A7 hz rfl rfl ?_);refine Af ?_;refine Aa (C7 ?_);refine Aa (A7 hz rfl rfl ?_);show im _ _ (Fk (.ref z) 0 .ellipsis >>= λr=>_) _ _ s;refine Aa (Br hz (show 0 < 5 by decide) λh1 z1 b1'=>?_);show im _ _ ((forIn [(Ay i1,0),(Ay i2,1)] _ _) >>= λr=>_) _ _ _;refine Aa ?_;rw[Cb];have xN:=b1'.2;refine Aa ?_;refine Aa (ER ?_);have fin:∀{h2:sw}{e:f8}{R:db->ii->Prop},h2.get? z=am {cls:=.type "zip",data:=.fields #[.ellipsis,.bool false,.bool false,.ref TI,.ref TO]}->(∃o,h2.get? e=am o/\o.cls=.type "StopIteration")->(∀c o,c≠z->c≠TO->c≠i1->c≠i2->s.heap.get? c=am o->h2.get? c=am o)->im (lc prog w) A (Fk (.ref z) 0 .none) (λ_ s'=>E (.ref e) s') R {s with heap:=h2}:=λ{h2 e R} z2 ex k=>by
  refine Br z2 (show 0 < 5 by decide) λh3 z3 b3=>?_;refine q h3 e (λc o n1 n2 n3 n4 ec=>?_) ?_
  ·rw[b3.2 _ n1];exact k c o n1 n2 n3 n4 ec
  ·obtain⟨o,eo,hc⟩:=ex;by_cases he:e=z
   ·subst he;rw[z2]at eo;cases eo;exact absurd (show CG "zip"=CG "StopIteration" from hc) ⋯
   ·exact⟨o,(b3.2 _ he).trans eo,hc⟩
 cases î:xs[k1]? with
 | none=>
  refine Aa (vm hh (Wx.move λo e=>(xN _ hA.i1z).trans e) (ß.move λo e=>(xN _ hA.l1z).trans e) î λh2 e k ex=>?_);exact fin (k _ _ hA.i1z.symm z1) ex λc o n1 n2 n3 n4 ec=>k _ _ n3 ((xN _ n1).trans ec)
 | some x=>
  have hy:ys[k2]?=ce:=by
   rcases hx with h | h
   ·rw[î]at h;cases h
   ·exact h
  refine Aa (mw (Wx.move λo e=>(xN _ hA.i1z).trans e) (ß.move λo e=>(xN _ hA.l1z).trans e) î λh2 j2 b2'=>Af ?_);have U8:∀b,b≠z->b≠i1->h2.get? b=s.heap.get? b:=λb n1 n2=>(b2'.2 b n2).trans (xN b n1);have ď:=(U8 _ hA.TOz hA.TOi1).trans ř;refine Aa (BK ď rfl ?_);refine Aa (D5 ď λh3 t3 b3=>?_);have Ï:∀b,b≠z->b≠i1->b≠TO->h3.get? b=s.heap.get? b:=λb n1 n2 n3=>(b3.2 b n3).trans (U8 b n1 n2);refine Aa (CT (Af ?_));refine Aa ?_;refine Aa (ER ?_);show im _ _ (Builtin.SmallTypes.nextOf (.ref i2) >>= λv=>pure (am v)) _ _ _;refine Aa (vm hh (RY.move λo e=>(Ï _ hA.i2z hA.i12.symm hA.TOi2.symm).trans e) (MP.move λo e=>(Ï _ hA.l2z hA.l2i1 hA.l2TO).trans e) hy λh4 e k ex=>?_);exact fin (k _ _ hA.i2z.symm ((b3.2 _ hA.TOz.symm).trans ((b2'.2 _ hA.i1z.symm).trans z1))) ex λc o n1 n2 n3 n4 ec=>k _ _ n4 ((Ï _ n1 n3 n2).trans ec)
def rR{b2:Bool}{TI TO:f8}{y:db}{Q:Option db->ii->Prop}(hA:ZipApart z TI TO i1 i2 a1 a2)
  (hz:lM b1 b2 s.heap z TI TO i1 i2 a1 a2 .none k1 k2) (ß:j5 b1 s.heap a1 xs) (MP:j5 b2 s.heap a2 ys) (hx:xs[k1]?=am x) (hy:ys[k2]?=am y)
  (q:∀h':sw,lM b1 b2 h' z TI TO i1 i2 a1 a2 (sn s.heap.objs.size) (k1+1) (k2+1)->IsPair h' s.heap.objs.size x y->(∀c o,c≠z->c≠TO->c≠i1->c≠i2->s.heap.get? c=am o->h'.get? c=am o)->Q (am (.ref s.heap.objs.size)) {s with heap:=h'}) :
  im (lc prog w) A (pyNext (.ref z)) Q E s:=by
 have ty:s.TypeIs (.ref z) "zip":=⟨_,hz.zip,rfl⟩;refine Aa (Dl (A4 ty D7 (Bd D7 ty F.entry_zip_next ?_ (F.args_zip_next_1 _))));exact uQ hA hz ß MP hx hy λh' a b c=>Af (q h' a b c)
def t4{b2:Bool}{TI TO:f8}{Q:Option db->ii->Prop}(hh:A.handled=ce)(hA:ZipApart z TI TO i1 i2 a1 a2)
  (hz:lM b1 b2 s.heap z TI TO i1 i2 a1 a2 .none k1 k2) (ß:j5 b1 s.heap a1 xs) (MP:j5 b2 s.heap a2 ys) (hx:xs[k1]?=ce\/ys[k2]?=ce)
  (q:∀h':sw,(∀c o,c≠z->c≠TO->c≠i1->c≠i2->s.heap.get? c=am o->h'.get? c=am o)->Q ce {s with heap:=h'}) :
  im (lc prog w) A (pyNext (.ref z)) Q E s:=by
 have ty:s.TypeIs (.ref z) "zip":=⟨_,hz.zip,rfl⟩;refine Aa (Dl (A4 ty D7 (Bd D7 ty F.entry_zip_next ?_ (F.args_zip_next_1 _))));refine xb (A:=A.in1) hh hA hz ß MP hx λh' e k ex=>?_;obtain⟨o,eo,hc⟩:=ex;refine Aa (DU (T:="StopIteration") ⟨o,eo,hc⟩ isSubtype_stop ?_);exact Af (q h' k)
def vt(b1 b2:Bool)(a1 a2:f8)(xs ys:Array db):Meets (BT.«zip.__new__» {pos:=[.type "zip",.ref a1,.ref a2]}) (λ_ R s=>j5 b1 s.heap a1 xs/\j5 b2 s.heap a2 ys/\
  ∀h':sw,lM b1 b2 h' (s.heap.objs.size+4) (s.heap.objs.size+2) (s.heap.objs.size+3) s.heap.objs.size (s.heap.objs.size+1) a1 a2 .none 0 0->(∀b o,s.heap.get? b=am o->h'.get? b=am o)->R (.ok (.ret (.ref (s.heap.objs.size+4)))) {s with heap:=h'}):=
 .of_wp λprog w A R s h=>by
  obtain⟨h1,h2,q⟩:=h;refine Aa ?_;refine Aa (CS (a:=true) rfl ?_);refine Aa (CS sub_zip ?_);refine Af ?_;refine Aa ?_;refine Aa ?_;rw[Cb];refine Aa ?_;refine Aa (Bl (yu h1 (Af ?_)));have k1:∀b o,s.heap.get? b=am o->(s.heap.push {cls:=.type (Q2 b1),data:=.fields #[.ref a1,.int 0 0]}).get? b=am o:=λb o e=>Ag _ e;have g1:(s.heap.push {cls:=.type (Q2 b1),data:=.fields #[.ref a1,.int 0 0]}).get? s.heap.objs.size=am {cls:=.type (Q2 b1),data:=.fields #[.ref a1,.int 0 0]}:=Ao _ rfl;have z1:(s.heap.push {cls:=.type (Q2 b1),data:=.fields #[.ref a1,.int 0 0]}).objs.size=s.heap.objs.size+1:=Ce ..;generalize s.heap.push {cls:=.type (Q2 b1),data:=.fields #[.ref a1,.int 0 0]}=Hg at k1 g1 z1 ⊢;show im _ _ (forIn [Ay a2] _ _) _ _ _;rw[Cb];refine Aa ?_;refine Aa (Bl (yu (xs:=ys) (h2.move λo e=>k1 _ _ e) (Af ?_)));show im _ _ (forIn [] _ _) _ _ _;rw[List.forIn_nil];refine Af (Af ?_);have k2:∀b o,Hg.get? b=am o->(Hg.push {cls:=.type (Q2 b2),data:=.fields #[.ref a2,.int 0 0]}).get? b=am o:=λb o e=>Ag _ e;have g2:(Hg.push {cls:=.type (Q2 b2),data:=.fields #[.ref a2,.int 0 0]}).get? Hg.objs.size=am {cls:=.type (Q2 b2),data:=.fields #[.ref a2,.int 0 0]}:=Ao _ rfl;have z2:(Hg.push {cls:=.type (Q2 b2),data:=.fields #[.ref a2,.int 0 0]}).objs.size=Hg.objs.size+1:=Ce ..;show im _ _ (newTuple [.ref s.heap.objs.size,.ref Hg.objs.size] >>= λr=>_) _ _ {s with heap:=Hg.push {cls:=.type (Q2 b2),data:=.fields #[.ref a2,.int 0 0]}};generalize Hg.push {cls:=.type (Q2 b2),data:=.fields #[.ref a2,.int 0 0]}=Hf at k2 g2 z2 ⊢;refine Aa (C8 ?_ (by show 2<=sizeLine;decide));have k3:∀b o,Hf.get? b=am o->(Hf.push {cls:=.type "tuple",data:=.seq [Ay s.heap.objs.size,Ay Hg.objs.size].toArray}).get? b=am o:=λb o e=>Ag _ e;have g3:(Hf.push {cls:=.type "tuple",data:=.seq [Ay s.heap.objs.size,Ay Hg.objs.size].toArray}).get? Hf.objs.size=am {cls:=.type "tuple",data:=.seq #[.ref s.heap.objs.size,.ref Hg.objs.size]}:=Ao _ rfl;have z3:(Hf.push {cls:=.type "tuple",data:=.seq [Ay s.heap.objs.size,Ay Hg.objs.size].toArray}).objs.size=Hf.objs.size+1:=Ce ..;show im _ _ (newTuple [.none,.none] >>= λr=>_) _ _ {s with heap:=Hf.push {cls:=.type "tuple",data:=.seq [Ay s.heap.objs.size,Ay Hg.objs.size].toArray}};generalize Hf.push {cls:=.type "tuple",data:=.seq [Ay s.heap.objs.size,Ay Hg.objs.size].toArray}=Q8 at k3 g3 z3 ⊢;refine Aa (C8 ?_ (by show 2<=sizeLine;decide));have k4:∀b o,Q8.get? b=am o->(Q8.push {cls:=.type "tuple",data:=.seq [AY,AY].toArray}).get? b=am o:=λb o e=>Ag _ e;have g4:(Q8.push {cls:=.type "tuple",data:=.seq [AY,AY].toArray}).get? Q8.objs.size=am {cls:=.type "tuple",data:=.seq #[.none,.none]}:=Ao _ rfl;have z4:(Q8.push {cls:=.type "tuple",data:=.seq [AY,AY].toArray}).objs.size=Q8.objs.size+1:=Ce ..;show im _ _ (newObj (.type "zip") (.fields #[.none,.bool false,.bool false,.ref Hf.objs.size,.ref Q8.objs.size]) >>= λr=>_) _ _ {s with heap:=Q8.push {cls:=.type "tuple",data:=.seq [AY,AY].toArray}};generalize Q8.push {cls:=.type "tuple",data:=.seq [AY,AY].toArray}=hp4 at k4 g4 z4 ⊢;refine Aa (AJ ?_ (by simp[sizeOk];decide));have k5:∀b o,hp4.get? b=am o->(hp4.push {cls:=.type "zip",data:=.fields #[.none,.bool false,.bool false,.ref Hf.objs.size,.ref Q8.objs.size]}).get? b=am o:=λb o e=>Ag _ e;have g5:(hp4.push {cls:=.type "zip",data:=.fields #[.none,.bool false,.bool false,.ref Hf.objs.size,.ref Q8.objs.size]}).get? hp4.objs.size=am {cls:=.type "zip",data:=.fields #[.none,.bool false,.bool false,.ref Hf.objs.size,.ref Q8.objs.size]}:=Ao _ rfl;have e1:=z1;have e2:Hf.objs.size=s.heap.objs.size+2:=by rw[z2,e1]
  have e3:Q8.objs.size=s.heap.objs.size+3:=by rw[z3,e2]
  have e4:hp4.objs.size=s.heap.objs.size+4:=by rw[z4,e3]
  refine Af ⟨.ref hp4.objs.size,rfl,?_⟩;rw[e2,e3]at g5 k5 ⊢;rw[e4]at g5 ⊢;rw[e3]at g4;rw[e1,e2]at g3;rw[e1]at g2;refine q _ ⟨g5,k5 _ _ (k4 _ _ g3),⟨_,_,k5 _ _ g4⟩,Oe (k5 _ _ (k4 _ _ (k3 _ _ (k2 _ _ g1)))),Oe (k5 _ _ (k4 _ _ (k3 _ _ g2)))⟩ λb o e=>k5 _ _ (k4 _ _ (k3 _ _ (k2 _ _ (k1 _ _ e))))
def Ry{b2:Bool}(h1:j5 b1 s.heap a1 xs)(h2:j5 b2 s.heap a2 ys)
  (q:∀h':sw,lM b1 b2 h' (s.heap.objs.size+4) (s.heap.objs.size+2) (s.heap.objs.size+3) s.heap.objs.size (s.heap.objs.size+1) a1 a2 .none 0 0->(∀b o,s.heap.get? b=am o->h'.get? b=am o)->Q (.ref (s.heap.objs.size+4)) {s with heap:=h'}) :
  im (lc prog w) A (call (.type "zip") [.ref a1,.ref a2]) Q E s:=
 callType_new F.called_zip ⋯ (F.typeCall_zip_2 _ _) (F.newCall_zip_2 _ _) (λo=>F.args_object_init_3 o _ _) F.entry_zip_new (vt b1 b2 a1 a2 xs ys) ⟨h1,h2,λh' z k=>⟨⟨_,z.zip,rfl⟩,q h' z k⟩⟩
def R1(b:Bool)(K:Ab)(H:Hp)(a:f8)(xs:O V):Prop:=match b with
 | true=>eI K H a xs
 | false=>dJ K H a xs
def Inv.sqx{xs:O V}(I:Inv X Z σ H s)(h:R1 b X.K H a xs):∃au:O db,Vals xs au/\j5 b s.heap a au.toArray/\xs.length<=sizeLine:=by
 cases b with
 | true=>obtain⟨au,r,p,z⟩:=I.list (show eI X.K H a xs from h);exact⟨au,r,p.isList,z⟩
 | false=>obtain⟨au,r,p,z⟩:=I.tuple (show dJ X.K H a xs from h);exact⟨au,r,p,z⟩
def Inv.Od{xs ys:O V}(I:Inv X Z σ H s)(h:R1 b X.K H a xs)(h':R1 b X.K H a ys):xs=ys:=by
 cases b with
 | true=>
  obtain⟨au,k,⟨o,n,h1,h2,h3,h4⟩,_⟩:=I.list (show eI X.K H a xs from h);obtain⟨its',k',⟨o',n',hE,uI,U7,ü⟩,_⟩:=I.list (show eI X.K H a ys from h');rw[h1]at hE;cases hE;rw[h4]at ü;have:au=its':=by injection ü with a b;simpa using a
  subst this;exact Vals.inj k k'
 | false=>exact I.mY h h'
def ahb(b1 b2:Bool)(K:Ab)(a1 a2:f8):It where
 go:=λi H=>∃xs ys x y,R1 b1 K H a1 xs/\R1 b2 K H a2 ys/\xs[i]?=am x/\ys[i]?=am y
 ZF:=λi H v H'=>∃p x y,v=.ref p/\H p=ce/\H'=upd H p (.tup [x,y])/\(∀xs,R1 b1 K H a1 xs->xs[i]?=am x)/\∀ys,R1 b2 K H a2 ys->ys[i]?=am y
 stop:=λi H=>∃xs ys,R1 b1 K H a1 xs/\R1 b2 K H a2 ys/\(xs.length<=i\/ys.length<=i)
theorem P1{K:Ab}{b2:Bool}{kk:Nat}{TI TO:f8}(hA:ZipApart z TI TO i1 i2 a1 a2):Turn P w K (.Tuple Ñ kk pos) (ahb b1 b2 K a1 a2) [z,TI,TO,i1,i2] z (λi h=>lM b1 b2 h z TI TO i1 i2 a1 a2 .none i i) where
 mem:=by simp
 obj:=λi h st b hb=>by
  simp only[Aw,BA,or_false]at hb;rcases hb with rfl | rfl | rfl | rfl | rfl
  ·exact⟨_,st.zip,λv z=>by cases z⟩
  ·exact⟨_,st.ti,λv z=>by cases z⟩
  ·obtain⟨_,_,e⟩:=st.to;exact⟨_,e,λv z=>by cases z⟩
  ·exact st.it1.obj
  ·exact st.it2.obj
 keep:=λi h h' st k=>⟨k z (by simp) _ st.zip,k TI (by simp) _ st.ti,let ⟨a,b,e⟩:=st.to;⟨a,b,k TO (by simp) _ e⟩,st.it1.move λo e=>k i1 (by simp) _ e,st.it2.move λo e=>k i2 (by simp) _ e⟩
 item:=by
  intro X hP hw hK hc i Z s σ H E I hf st hg;subst hP hw hK;obtain⟨xs,ys,x,y,hx,hy,gx,gy⟩:=hg;obtain⟨au,rx,tx,_⟩:=I.sqx hx;obtain⟨dr,ry,ty,_⟩:=I.sqx hy;obtain⟨u,gu,ru⟩:=pD rx gx;obtain⟨v,gv,rv⟩:=pD ry gy;refine rR hA st tx ty (by simpa using gu) (by simpa using gv) λh' zt np k=>?_;refine⟨_,rfl,?_⟩;refine Aa (F9 zt.zip ?_);show im _ _ (if ((["enumerate","zip","dict_itemiterator","dict_reverseitemiterator","odict_iterator","itertools.zip_longest","itertools.pairwise"].contains "zip"&&(am (sn s.heap.objs.size)==am (sn s.heap.objs.size)))=true) then (do rule "for.unpacks-the-owned-tuple";Fk (.ref z) 0 .none) else pure ()) _ _ _;rw[if_pos (by rw[beq_self_eq_true];decide)];refine Aa (C7 ?_);refine Br zt.zip (show 0 < 5 by decide) λh2 z2 b2=>?_;have lt:∀b∈[z,TI,TO,i1,i2],b < s.heap.objs.size:=λb hb=>by
   simp only[Aw,BA,or_false]at hb;rcases hb with rfl | rfl | rfl | rfl | rfl
   ·exact Aq st.zip
   ·exact Aq st.ti
   ·obtain⟨_,_,e⟩:=st.to;exact Aq e
   ·obtain⟨o,e,_⟩:=st.it1.obj;exact Aq e
   ·obtain⟨o,e,_⟩:=st.it2.obj;exact Aq e
  have nz:s.heap.objs.size≠z:=λe=>A5 _ (by have:=lt z (by simp);rw[<- e]at this;exact this);have ğ:∀b o,b∉[z,TI,TO,i1,i2]->s.heap.get? b=am o->h2.get? b=am o:=λb o hb e=>by
   have Lw:b≠z:=λq=>hb (by simp[q]);rw[b2.2 b Lw];exact k b o Lw (λq=>hb (by simp[q])) (λq=>hb (by simp[q])) (λq=>hb (by simp[q])) e
  have ě:h2.get? s.heap.objs.size=am {cls:=.type "tuple",data:=.seq #[u,v]}:=(b2.2 _ nz).trans np;have Ĩ:=I.a8.fresh (Ak s.heap.objs.size);refine⟨.ref s.heap.objs.size,upd H s.heap.objs.size (.tup [x,y]),I.uX (t':=s.toks) hf ğ (Ak _) ⟨by show 2<=sizeLine;decide,[u,v],.cons ru (.cons rv .nil),⟨_,ě,rfl,_,rfl⟩⟩,rfl,⟨_,x,y,rfl,Ĩ,rfl,λxs' h'=>?_,λys' h'=>?_⟩,⟨z2,(b2.2 _ hA.TIz).trans zt.ti,let ⟨p,q,e⟩:=zt.to;⟨p,q,(b2.2 _ hA.TOz).trans e⟩,zt.it1.move λo e=>(b2.2 _ hA.i1z).trans e,zt.it2.move λo e=>(b2.2 _ hA.i2z).trans e⟩,λb hb=>?_⟩
  ·rw[I.Od h' hx];exact gx
  ·rw[I.Od h' hy];exact gy
  ·rw[aq (AA (lt b hb))];exact(hf b hb).1
 done:=by
  intro X hP hw hK hc i Z s σ H E I hf st hg;subst hP hw hK;obtain⟨xs,ys,hx,hy,hl⟩:=hg;obtain⟨au,rx,tx,_⟩:=I.sqx hx;obtain⟨dr,ry,ty,_⟩:=I.sqx hy;have el:=rx.length;have el2:=ry.length;refine t4 (I.ok.hd hc) hA st tx ty ?_ λh' k=>⟨rfl,I.zE (t':=s.toks) hf λb o hb e=>k b o (λz=>hb (by simp[z])) (λz=>hb (by simp[z])) (λz=>hb (by simp[z])) (λz=>hb (by simp[z])) e⟩;rcases hl with hl | hl
  ·exact .inl (by simp;omega)
  ·exact .inr (by simp;omega)
 self:=λA i s Q E st h=>wpAny_pyIter_zip st.zip h
def afO(K:Ab)(t1 t2:TE):TI:=λσ H R=>t1 σ H λx H1=>t2 σ H1 λy H2=>∃b1 b2 a b,x=.ref a/\y=.ref b/\(∃xs,R1 b1 K H2 a xs)/\(∃ys,R1 b2 K H2 b ys)/\R (ahb b1 b2 K a b) H2
def Xx(K:Ab)(hK:X.K=K){e1 e2:r9}{t2:TE}{kk:Nat}(hg:Gl X "zip")(hm:X.mg "zip"=ce)(h1:PE X e1 t1)(h2:PE X e2 t2)
  (Lx:‹nn [e1,e2] X.env=(false,pr e1 X.env)::nn [e2] X.env›) (sE:‹fR X e2 []›) (dg:‹(Ev p2 (nn [e2] X.env)).any (·.1)=false›) :
  PI X (.Tuple Ñ kk tp) (.Call (.Name "zip" p1) [e1,e2] [] p2) (afO K t1 t2):=by
 subst hK;intro Z s σ H R I h;refine Bf (gB I hg hm boot_zip ?_ ⋯ ⋯);refine A6 ?_ Lx dg;rw[Lx,sE];refine B2 (bV (h1 Z s σ H _ I h) λu1 s1 ⟨x,H1,I1,r1,q1⟩=>?_);refine B2 (bV (h2 Z s1 σ H1 _ I1 q1) λu2 s2 ⟨y,H2,I2,r2,b1,b2,a,b,ex,ey,⟨xs,hx⟩,⟨ys,hy⟩,q⟩=>Cv ?_);subst ex;subst ey;cases r1;cases r2;obtain⟨au,rx,tx,_⟩:=I2.sqx hx;obtain⟨dr,ry,ty,_⟩:=I2.sqx hy;have l1:=tx.lt;have l2:=ty.lt;refine Ry tx ty λh' zt k=>?_;refine wpAny_pyIter_zip zt.zip ?_;have dd:∀i j:Nat,i≠j->s2.heap.objs.size+i≠s2.heap.objs.size+j:=λi j n e=>n (Nat.add_left_cancel e);have na:∀i:Nat,a≠s2.heap.objs.size+i:=λi=>AA (AE l1 (B3 _ _));have nb:∀i:Nat,b≠s2.heap.objs.size+i:=λi=>AA (AE l2 (B3 _ _));have hA:ZipApart (s2.heap.objs.size+4) (s2.heap.objs.size+2) (s2.heap.objs.size+3) s2.heap.objs.size (s2.heap.objs.size+1) a b:=
  ⟨dd 2 4 ⋯,dd 3 4 ⋯,dd 0 4 ⋯,dd 1 4 ⋯,dd 2 3 ⋯,dd 2 0 ⋯,dd 2 1 ⋯,dd 3 0 ⋯,dd 3 1 ⋯,dd 0 1 ⋯,na 4,na 3,na 0,na 1,nb 4,nb 3,nb 0,nb 1⟩
 refine⟨_,_,_,_,H2,rfl,I2.kept (t':=s2.toks) k,P1 hA,zt,λc hc=>?_,q⟩;have Ú:s2.heap.objs.size<=c:=by
  simp only[Aw,BA,or_false]at hc;rcases hc with rfl | rfl | rfl | rfl | rfl
  ·exact B3 _ _
  ·exact B3 _ _
  ·exact B3 _ _
  ·exact Ak _
  ·exact B3 _ _
 exact I2.xT Ú (I2.a8.fresh Ú)
def aeS(K:Ab):V->Option Int->Option Int->Hp->VK->Prop:=λx lo hi H Q=>∃a xs,x=.ref a/\dJ K H a xs/\
 ((HT.d9 xs.length 0 lo=0/\HT.d9 xs.length xs.length hi=xs.length)->Q x H)/\(¬(HT.d9 xs.length 0 lo=0/\HT.d9 xs.length xs.length hi=xs.length)->jR H (.tup (Ig xs lo hi)) Q)
def Xa(K:Ab)(hK:X.K=K):SlR X (aeS K):=by
 subst hK;intro Z s σ H x v vl vu lo hi sl Q I rx hs pl pu h;obtain⟨a,xs,rfl,hT,qw,qn⟩:=h;by_cases c:HT.d9 xs.length 0 lo=0/\HT.d9 xs.length xs.length hi=xs.length
 ·have q:=qw c;cases rx;obtain⟨au,r,ht,hz⟩:=I.tuple hT;have À:au.toArray.size=xs.length:=by rw[Aj];exact r.length.symm
  refine⟨"tuple",_,AV.lookup,ht.typeIs,?_⟩;obtain⟨os,RX,č,YQ⟩:=id hs;have Ĭ:s.TypeIs (.ref sl) "slice":=⟨os,RX,č⟩;unfold Op
  try with_reducible refine Bl ?_
  first | refine Aa (Af ?_) | skip
  refine Aa (EI ht.typeIs ⋯ ?_);refine Aa (A4 (name:=B7 "__getitem__") ht.typeIs AV
   (Bd AV ht.typeIs entry_tuple_getitem ?_ (args_tuple_getitem _ _)))
  show im _ _ (Builtin.Tuple.tupleItemsOf (.ref a) >>= _) _ _ s;refine Aa (tupleItemsOf_ ht ?_);refine Aa (Cw Ĭ ?_);refine Aa (HT.kh hs pl pu ?_);show im _ _ (if (((HT.d9 au.toArray.size 0 lo:Nat):Int)==0&&(1:Int)==1&&(HT.d9 au.toArray.size au.toArray.size hi-HT.d9 au.toArray.size 0 lo)==au.toArray.size)=true then _ else _) _ _ s;rw[if_pos (by rw[À,c.1,c.2];simp)];refine Aa ?_
  first
   | refine Aa (Cw ht.typeIs (Af ?_))
   | refine Cw ht.typeIs (Af ?_)
  first
   | rw[if_pos ⋯]
   | rw[if_pos rfl]
  refine Aa (C7 (Af ⟨_,rfl,?_⟩));exact Af ⟨.ref a,H,I,rfl,q⟩
 ·exact aa6 Z s σ H _ v vl vu lo hi sl Q I rx hs pl pu ⟨a,xs,rfl,hT,c,λp hp=>(qn c).at p hp⟩
def ae4(K:Ab):R2:=λx y H Q=>∃a b xs ys,x=.ref a/\y=.ref b/\dJ K H a xs/\dJ K H b ys/\xs.length+ys.length<=sizeLine/\
 (xs=[]->Q (.ref b) H)/\(xs≠[]->ys=[]->Q (.ref a) H)/\(xs≠[]->ys≠[]->jR H (.tup (xs++ys)) Q)
def XX(K:Ab)(hK:X.K=K):lN X (wn .Add) (ae4 K):=by
 subst hK;intro Z s σ H x y v u Q I rx ry h;obtain⟨a,b,xs,ys,rfl,rfl,ha,hb,hz,q0,q1,q2⟩:=h;by_cases c:xs=[]
 ·cases rx;cases ry;obtain⟨au,r1,p1,_⟩:=I.tuple ha;obtain⟨dr,r2,p2,_⟩:=I.tuple hb;obtain⟨⟨cls,dd,data,sl⟩,ho,hc,n,hd⟩:=id p1;obtain⟨⟨ű,Zg,data2,Wt⟩,Q9,U4,n2,Õ⟩:=id p2;simp only at hc hd U4 Õ;subst hc hd U4 Õ;exact concat_meets ⟨_,ho,rfl⟩ ⟨_,Q9,rfl⟩ noFill_tuple_add seq_tuple_add Dx Ds (Dj _ _)
   (tuple_addW0 a b au.toArray dr.toArray n n2 dd Zg sl Wt (by rw[r1.kX.mpr c];rfl)) ⟨ho,Q9,.ref b,H,I,rfl,q0 c⟩
 ·exact OC Z s σ H _ _ v u Q I rx ry ⟨a,b,xs,ys,rfl,rfl,ha,hb,c,hz,q1 c,λn p hp=>(q2 c n).at p hp⟩
end L2
variable{b:Cd}
namespace FL
section
variable[bU]
variable{K:Ab}
section
variable{a c:r9}{w:W PV}{wm:W (O PV)}
def addW:PV->PV->W PV
 | .int i,.int j=>.ret (.int (i+j))
 | .str a,.str b=>.e6 (a.length+b.length<=sizeLine) (.ret (.str (a++b)))
 | .tup a,.tup b=>.e6 (a.length+b.length<=sizeLine) (.ret (.tup (a++b)))
 | _,_=>.fail
def cG(hK:X.K=K)(ha:EF X K fs a wa)(hb:EF X K fs b wb):EF X K fs (.BinOp a .Add b pos) (.bind wa λx=>.bind wb λy=>addW x y):=
 ⟨PE.imp (Oy ((XZ K hK).or (XX K hK)) ha.p hb.p) λσ H Q ⟨sr,q⟩=>⟨sr,wa.mono (λx q1 u1 H1 g1 s1 v1=>⟨s1,wb.mono (λy q2 u2 H2 g2 s2 v2=>by
  have å:=g2.vr s1 v1;cases å with
  | int i=>
   cases v2 with
   | int j=>exact .inl ⟨_,rfl,q2 _ H2 (g1.trans g2) s2 (.int _)⟩
   | _=>exact q2.elim
  | str i=>
   cases v2 with
   | str j=>exact .inl ⟨_,rfl,q2.1,q2.2 _ H2 (g1.trans g2) s2 (.str _)⟩
   | _=>exact q2.elim
  | @tup p vs l e r=>
   cases v2 with
   | @tup p' IZ l' e' r'=>
    refine .inr ⟨p,p',vs,IZ,rfl,rfl,dJ.of e,dJ.of e',by rw[r.length,r'.length];exact q2.1,λz=>?_,λ_ z=>?_,λ_ _ q H3 s3 h3 n3=>?_⟩
    ·have z':=(PL.aG.kX r).mp z;subst z';exact q2.2 _ H2 (g1.trans g2) s2 (.tup e' r')
    ·have z':=(PL.aG.kX r').mp z;subst z';have q2:=q2.2;rw[B1]at q2;exact q2 _ H2 (g1.trans g2) s2 (.tup e r)
    ·exact q2.2 _ H3 ((g1.trans g2).trans (de.same s3)) (s2.same s3) (.tup h3 (aG.tk s3.eJ (r.append r')))
   | _=>exact q2.elim
  | _=>exact q2.elim) q1⟩) q⟩⟩
theorem gL:∀(l m:O PV),(nT l m).length=min l.length m.length
 | [],m=>by rw[nT];simp;intros;simp_all
 | x::l,[]=>by rw[nT];simp;intros;simp_all
 | x::l,y::m=>by rw[nT,Ap,gL l m];simp only[Ap];omega
def fU(l m:O PV):W (O PV):=.e6 (l.length<=sizeLine) (.ret (nT l m))
def ZK(h:SqI K H u l):∃(b:Bool) (a:f8) (vs:O V),u=.ref a/\aG K [] H vs l/\∀H',a9 K H H'->R1 b K H' a vs:=by
 obtain⟨a,vs,e,h | h,r⟩:=h
 ·exact⟨true,a,vs,e,r,λH' t=>(t.f _ _ h).sq⟩
 ·exact⟨false,a,vs,e,r,λH' t=>dJ.of (t.t _ _ h)⟩
theorem jT(hK:X.K=K){kk:Nat}(hg:Gl X "zip")(hm:X.mg "zip"=ce)(ha:IF X K fs a wl)(hb:IF X K fs b wm)
  (Lx:‹nn [a,b] X.env=(false,pr a X.env)::nn [b] X.env›) (sE:‹fR X b []›) (dg:‹(Ev p2 (nn [b] X.env)).any (·.1)=false›) :
  wM X K fs (.Tuple Ñ kk tp) (.Call (.Name "zip" p1) [a,b] [] p2) (.bind wl λl=>.bind wm λm=>fU l m):=
 ⟨PI.imp (Xx K hK hg hm ha.p hb.p Lx sE dg) λσ H R ⟨sr,q⟩=>⟨sr,wl.mono (λl q1 u1 H1 g1 s1 v1=>⟨s1,wm.mono (λm q2 u2 H2 g2 s2 v2=>by
  obtain⟨b1,a1,vs,rfl,r1,x1⟩:=ZK (v1.tk (g2.dM s1));obtain⟨b2,a2,ws,rfl,r2,x2⟩:=ZK v2;have tr:a9 K H2 H2:=a9.refl H2;refine⟨b1,b2,a1,a2,rfl,rfl,⟨vs,x1 H2 tr⟩,⟨ws,x2 H2 tr⟩,q2.2 _ H2 (g1.trans g2) s2 ⟨by rw[gL];have:=q2.1;omega,λH' t=>⟨λi pp hp=>?_,vs,ws,x1 H' t,x2 H' t,?_⟩⟩⟩
  ·obtain⟨x,y,hx,hy,rfl⟩:=pB hp;obtain⟨v,h3,h4⟩:=(aG.tk t r1).get hx;obtain⟨v',U7,ü⟩:=(aG.tk t r2).get hy;refine⟨⟨vs,ws,v,v',x1 H' t,x2 H' t,h3,U7⟩,λz H3 yl=>?_⟩;obtain⟨p,x',y',rfl,hn,rfl,e1,e2⟩:=yl;have e1:=e1 vs (x1 H' t);have e2:=e2 ws (x2 H' t);rw[h3]at e1;rw[U7]at e2;cases e1;cases e2;have sm:=kj hn (.tup [v,v']);exact⟨sm,.tup aD (.cons (VR.tk sm.eJ h4) (.cons (VR.tk sm.eJ ü) .nil))⟩
  ·rw[gL,r1.length,r2.length];omega) q1⟩) q⟩⟩
variable{el eh:Option r9}{lo:W (Option Int)}
def Xb(x:PV)(i j:Option Int):W PV:=match x with
 | .tup l=>.ret (.tup (sN l i j))
 | _=>.fail
def Rv{i j:Option Int}(h:HT.d9 l.length 0 i=0/\HT.d9 l.length l.length j=l.length):sN l i j=l:=by
 unfold sN;rw[h.1,h.2];simp
def aaw(hK:X.K=K)(he:EF X K fs e w)(hl:OF X K fs el lo)(hh:OF X K fs eh hi):EF X K fs (.Subscript e (.Slice el eh ce p2) pos) (.bind w λx=>.bind lo λi=>.bind hi λj=>Xb x i j):=⟨PE.imp (TC (Xa K hK) he.p hl.p hh.p) λσ H Q ⟨sr,q⟩=>⟨sr,w.mono (λx q1 u1 H1 g1 s1 v1=>⟨s1,lo.mono (λi q2 H2 g2 s2=>⟨s2,hi.mono (λj q3 H3 g3 s3=>by
 have å:=g3.vr s2 (g2.vr s1 v1);have gg:=(g1.trans g2).trans g3;cases å with
 | @tup p vs l e r=>
  have À:=r.length;refine⟨p,vs,rfl,dJ.of e,λc=>?_,λc q H4 s4 h4 n4=>?_⟩
  ·rw[À]at c;have q3:(bn (PV.tup (sN l i j))).run _:=q3;rw[Rv c]at q3;exact q3 _ H3 gg s3 (.tup e r)
  ·exact q3 _ H4 (gg.trans (de.same s4)) (s3.same s4) (.tup h4 (aG.tk s4.eJ (r.cut i j)))
 | _=>exact q3.elim) q2⟩) q1⟩) q⟩⟩
end
end
end FL
namespace L2
def anH:O Int->Int
 | []=>0
 | x::l=>l.foldl max x
def GA:O Int->Int
 | []=>0
 | x::l=>l.foldl min x
theorem HB(l:O Int)(x:Int):l.foldl min x<=x/\(∀y∈l,l.foldl min x<=y)/\(l.foldl min x=x\/l.foldl min x∈l):=by
 induction l generalizing x with
 | nil=>exact⟨CC _,by simp,.inl rfl⟩
 | cons y l ih=>
  obtain⟨h1,h2,h3⟩:=ih (min x y);refine⟨by rw[Dp];omega,λz hz=>?_,?_⟩
  ·rw[Dp];rcases Aw.mp hz with rfl | hz
   ·omega
   ·exact h2 z hz
  ·rw[Dp];rcases h3 with h3 | h3
   ·rw[h3];by_cases c:y<=x
    ·right;rw[Int.min_eq_right c];exact .head _
    ·left;omega
   ·exact .inr (.tail _ h3)
def uE{l:O Int}{x:Int}(h:x∈l):GA l<=x:=by
 cases l with
 | nil=>cases h
 | cons y l=>
  rcases Aw.mp h with rfl | h
  ·exact(HB l _).1
  ·exact(HB l y).2.1 x h
def qc{l:O Int}(h:l≠[]):GA l∈l:=by
 cases l with
 | nil=>exact absurd rfl h
 | cons y l=>
  rcases (HB l y).2.2 with e | e
  ·show l.foldl min y∈_;rw[e];exact .head _
  ·exact .tail _ e
def Tb(K:Ab)(C:O Int->Prop)(g:O Int->Int):O V->Hp->VK->Prop:=λxs H Q=>∃(p:f8) (ns:O Int),xs=[.ref p]/\eI K H p (ns.map V.int)/\C ns/\Q (.int (g ns)) H
section
theorem Yg{xs:Array (Int×Tok)}(MU:ns=xs.toList.map (·.1))(ĉ:ns≠[]):numAt xs (argBest (λi j=>decide (numAt xs i < numAt xs j)) (xs.size-1))=GA ns:=by
 have hsz:0 < xs.size:=by
  have h3:0 < ns.length:=Di.mpr ĉ;rw[MU,Ah,Cm]at h3;exact h3
 obtain⟨h1,h2⟩:=argBest_lt (numAt xs) (xs.size-1);apply Fw
 ·have hm:=qc ĉ;rw[MU]at hm;obtain⟨j,hj,ej⟩:=mem_getD hm;rw[Ah,Cm]at hj;rw[<- MU]at ej;rw[<- ej,MU,<- numAt_eq];exact h2 j ∅
 ·refine uE ?_;rw[MU,numAt_eq];exact getD_mem (by rw[Ah,Cm];omega)
def P6{l:f8}{vs:O db}(hh:A.handled=ce)(hl:s.heap.IsList l vs.toArray)(hi:zn vs ns)
  (h:∀(h':sw) (t:Tok) tk,(∀b o,s.heap.get? b=am o->h'.get? b=am o)->Q (.int ns.sum t) {s with heap:=h',toks:=tk}):im (lc prog w) A (call (.builtin "sum") [.ref l]) Q E s:=by
 obtain⟨xs,e⟩:=hi.allInts.items;have MU:ns=xs.toList.map (·.1):=by rw[<- hi.numsOf,<- nums_intItems,<- e]
 rw[e]at hl;refine sum_intListG hh hl λh' tk t' hk=>?_;have:=h h' t' tk hk;rw[preSum_eq,CV (by simp),<- MU];exact this
end
def RE{b:String}{C:O Int->Prop}{g:O Int->Int}(K:Ab)(hK:X.K=K)(hc:X.calm=true)
  (Ö:∀{s:ii}{l:f8}{vs:O db}{ns:O Int}{Q:db->ii->Prop},X.A.handled=ce->s.heap.IsList l vs.toArray->zn vs ns->C ns->(∀(h':sw) (t:Tok) tk,(∀b o,s.heap.get? b=am o->h'.get? b=am o)->Q (.int (g ns) t) {s with heap:=h',toks:=tk})->im (lc X.prog X.w) X.A (call (.builtin b) [.ref l]) Q X.xe s):cm X (.builtin b) (Tb K C g):=by
 subst hK;intro Z s σ H xs us Q I r h;obtain⟨p,ns,rfl,hq,hC,q⟩:=h;obtain⟨u,rfl,rx⟩:=vals1 r;cases rx;obtain⟨au,r',pl,hz⟩:=I.list hq;exact Ö (I.ok.hd hc) pl.isList (intsAre_of r') hC λh' t tk hk=>⟨.int _,H,I.kept (t':=tk) hk,⟨t,rfl⟩,q⟩
end L2
variable{x:PL.PV}
namespace FL
section
variable[bU]
variable{K:Ab}
section
open Classical in
noncomputable def Ph(K:Ab)(H:Hp)(x:PV)(w:db):Bool:=decide (∃p v,RelV v w/\VR K [] H v p/\jY p x=true)
open Classical in
def Vy(hK:X.K=K)(I:Inv X Z σ H s){x p:PV}{v:V}{w:db}(r:RelV v w)(h:VR K [] H v p):Ph K H x w=jY p x:=by
 subst hK;cases e:jY p x with
 | true=>exact decide_eq_true ⟨p,v,r,h,e⟩
 | false=>
  refine decide_eq_false ?_;rintro⟨p',v',r',h',e'⟩;have:=S4 r r';subst this;rw[VR.O9 I h h',e']at e;cases e
theorem uK(hK:X.K=K)(I:Inv X Z σ H s):∀{vs:O V}{au:O db}{l:O PV},Vals vs au->aG K [] H vs l->au.map (Ph K H x)=l.map λy=>jY y x
 | _,_,_,.nil,.nil=>rfl
 | _,_,_,.cons r t,.cons q z=>by rw[Ar,Ar,Vy hK I r q,uK hK I t z]
def Q7(x:PV)(l:O PV):Prop:=PV.i8 x=true/\fm l=true/\d6 l<=150
theorem sI(hK:X.K=K)(I:Inv X Z σ H s){v:V}{w:db}(hx:VR K [] H v x)(rx:RelV v w)(dx:PV.i8 x=true)(hu:A.units+150+1 < xz) :
  ∀{vs:O V}{au:O db}{l:O PV},Vals vs au->aG K [] H vs l->fm l=true->d6 l<=150->∀u∈au,DR A s u w (Ph K H x u)
 | _,_,_,.nil,.nil,_,_,u,hu=>by cases hu
 | _,_,_,.cons r t,.cons q z,d,dd,u,hm=>by
  rw[fm,AI]at d;rw[d6]at dd;rcases Aw.mp hm with rfl | hm
  ·rw[Vy hK I r q];exact(ada hK I 150 _ x A _ v _ w ∅ d.1 dx q hx r rx hu).eq
  ·exact sI hK I hx rx dx hu t z d.2 ∅ u hm
end
def vS(x:PV)(l:O PV):Bool:=l.any λy=>jY y x
def abn(K:Ab)(neg:Bool):R2:=λx y H Q=>∃p vs l xp,y=.ref p/\(eI K H p vs\/dJ K H p vs)/\aG K [] H vs l/\VR K [] H x xp/\Q7 xp l/\Q (.bl (if neg then !vS xp l else vS xp l)) H
section
theorem any_map'(f:α->Bool):∀l:List α,l.any f=(l.map f).any id
 | []=>rfl
 | x::l=>by rw[CJ,Ar,CJ,any_map' f l];rfl
theorem TZ(K:Ab)(hK:X.K=K)(hu:X.A.units+200 < xz):lN X (v4 .In) (abn K false):=by
 intro Z s σ H x y v u Q I rx ry h;obtain⟨p,vs,l,xp,rfl,hq,hl,hx,ok,q⟩:=h;cases ry;have Þ:X.A.in1.units+150+1 < xz:=by show X.A.units+1+150+1 < _;omega
 have fin:∀{au:O db},Vals vs au->au.toArray.any (Ph K H xp)=vS xp l:=λ{au} r=>by
  rw[show au.toArray.any (Ph K H xp)=au.any (Ph K H xp) by simp,any_map',uK hK I r hl,<- any_map'];rfl
 rcases hq with hq | hq
 ·obtain⟨au,r,pl,hz⟩:=I.list (show eI X.K H p vs by rw[hK];exact hq);refine SeqAt.in_listAt (Ph K H xp) pl.isList (λw hw=>sI hK I hx rx ok.1 Þ r hl ok.2.1 ok.2.2 w (by simpa using hw)) ⟨.bl _,H,I,rfl,?_⟩;rw[fin r];exact q
 ·obtain⟨au,r,pl,hz⟩:=I.tuple (show dJ X.K H p vs by rw[hK];exact hq);refine SeqAt.in_tupleAt (Ph K H xp) pl (λw hw=>sI hK I hx rx ok.1 Þ r hl ok.2.1 ok.2.2 w (by simpa using hw)) ⟨.bl _,H,I,rfl,?_⟩;rw[fin r];exact q
theorem XT(K:Ab)(hK:X.K=K)(hu:X.A.units+200 < xz):lN X (v4 .NotIn) (abn K true):=by
 intro Z s σ H x y v u Q I rx ry h;obtain⟨p,vs,l,xp,rfl,hq,hl,hx,ok,q⟩:=h;cases ry;have Þ:X.A.in1.units+150+1 < xz:=by show X.A.units+1+150+1 < _;omega
 have fin:∀{au:O db},Vals vs au->au.toArray.any (Ph K H xp)=vS xp l:=λ{au} r=>by
  rw[show au.toArray.any (Ph K H xp)=au.any (Ph K H xp) by simp,any_map',uK hK I r hl,<- any_map'];rfl
 rcases hq with hq | hq
 ·obtain⟨au,r,pl,hz⟩:=I.list (show eI X.K H p vs by rw[hK];exact hq);refine SeqAt.notIn_listAt (Ph K H xp) pl.isList (λw hw=>sI hK I hx rx ok.1 Þ r hl ok.2.1 ok.2.2 w (by simpa using hw)) ⟨.bl _,H,I,rfl,?_⟩;rw[fin r];exact q
 ·obtain⟨au,r,pl,hz⟩:=I.tuple (show dJ X.K H p vs by rw[hK];exact hq);refine SeqAt.notIn_tupleAt (Ph K H xp) pl (λw hw=>sI hK I hx rx ok.1 Þ r hl ok.2.1 ok.2.2 w (by simpa using hw)) ⟨.bl _,H,I,rfl,?_⟩;rw[fin r];exact q
def ac9(x:PV)(l:O PV):Nat:=l.countP λy=>jY y x
theorem countP_map(f:α->Bool):∀l:List α,l.countP f=(l.map f).countP id
 | []=>rfl
 | x::l=>by rw[Ar,E3,E3,countP_map f l];rfl
def ae3(K:Ab):V->O V->Hp->VK->Prop:=λx us H Q=>∃p vs l y q,x=.ref p/\us=[y]/\eI K H p vs/\aG K [] H vs l/\VR K [] H y q/\Q7 q l/\Q (.int (ac9 q l)) H
theorem Ye(K:Ab)(hK:X.K=K)(hu:X.A.units+200 < xz):NU X "list.count" (ae3 K):=by
 intro Z s σ H x vs v us Q I rx rv h;obtain⟨p,ws,l,y,q,rfl,rfl,hq,hl,hy,ok,qq⟩:=h;cases rx;obtain⟨u,rfl,ru⟩:=rv.one;have Þ:X.A.in1.units+150+1 < xz:=by show X.A.units+1+150+1 < _;omega
 obtain⟨au,r,⟨⟨cls,dd,data,sl⟩,n,ho,hc,hd,mJ⟩,hz⟩:=I.list (show eI X.K H p ws by rw[hK];exact hq);simp only at hc hd mJ;subst hc hd mJ;refine wT F.slot_list_count ⟨_,ho,rfl⟩ F.entry_list_count (F.args_list_count_2 _ _) (SeqAt.list_countAt p au.toArray n ce sl u (Ph K H q)) ⟨ho,?_,?_⟩
 ·intro w hw;exact sI hK I hy ru ok.1 Þ r hl ok.2.1 ok.2.2 w (by simpa using hw)
 ·refine⟨.int _,H,I.tok _,⟨s.toks,?_⟩,qq⟩;rw[show au.toArray.toList=au from rfl,countP_map,uK hK I r hl,<- countP_map];rfl
end
end
end FL
namespace L2
theorem Jw(xs:O db):∀k≤xs.length,((AD k).filterMap λ(m:Nat)=>xs.toArray[(((xs.length:Int)-1)+(m:Int)*(-1)).toNat]?)=(xs.drop (xs.length-k)).reverse
 | 0,_=>by simp
 | k+1,h=>by
  have ih:=Jw xs k ∅;rw[Fu,List.filterMap_append,ih];have e:(((xs.length:Int)-1)+(k:Int)*(-1)).toNat=xs.length-(k+1):=by omega
  have h1:xs.length-(k+1) < xs.length:=by omega
  simp only[Ba,List.filterMap_nil,e];have e2:xs.toArray[xs.length-(k+1)]?=am xs[xs.length-(k+1)]:=by simp[h1]
  rw[e2];have e3:xs.drop (xs.length-(k+1))=xs[xs.length-(k+1)]::xs.drop (xs.length-k):=by
   rw[Bv h1];congr 2;omega
  rw[e3,C5]
section
variable{st:r9}{tl th ts:TO}{lo hi:Option r9}
def aes(K:Ab)(te:TE)(tl th ts:TO):TE:=λσ H Q=>te σ H λx H1=>tl σ H1 λl H2=>th σ H2 λu H3=>ts σ H3 λs H4=>∃a xs,x=.ref a/\dJ K H4 a xs/\l=ce/\u=ce/\s=am (-1)/\jR H4 (.tup xs.reverse) Q
theorem XD(K:Ab)(hK:X.K=K)(he:PE X e te)(hl:PO X lo tl)(hu:PO X hi th)(hs:PO X (am st) ts):PE X (.Subscript e (.Slice lo hi (am st) p2) pos) (aes K te tl th ts):=by
 subst hK;intro Z s σ H Q I h;refine Subscript_ (bV (he Z s σ H _ I h) λv s1 ⟨x,H1,I1,r1,q1⟩=>?_);refine wpAny_Slice (bV (hl Z s1 σ H1 _ I1 q1) λvl s2 ⟨l,H2,I2,pl,q2⟩=>bV (hu Z s2 σ H2 _ I2 q2) λvu s3 ⟨u,H3,I3,pu,q3⟩=>bV (hs Z s3 σ H3 _ I3 q3) λvs s4 ⟨c,H4,I4,ps,a,xs,ea,hx,el,eu,ec,q⟩=>?_);subst ea;subst el;subst eu;subst ec;cases r1;cases pl;cases pu;cases ps with
 | int i t=>
 have I5:Inv X Z σ H4 {s4 with heap:=s4.heap.push {cls:=.type "slice",data:=.fields #[.none,.none,.int (-1) t]}}:=I4.kept (t':=s4.toks) λb ob q=>Ag _ q;obtain⟨au,r,ht,hz⟩:=I5.tuple hx;have À:=r.length;refine tail_any (ops:=[.ref a,.ref s4.heap.objs.size]) ht.typeIs AV.lookup ?_ (by with_unfolding_all rfl);have hs:FK {s4 with heap:=s4.heap.push {cls:=.type "slice",data:=.fields #[.none,.none,.int (-1) t]}}.heap s4.heap.objs.size .none .none (.int (-1) t):=FK.new ..;generalize {s4 with heap:=s4.heap.push {cls:=.type "slice",data:=.fields #[.none,.none,.int (-1) t]}}=s5 at I5 ht hs;obtain⟨os,RX,č,YQ⟩:=id hs;have Ĭ:s5.TypeIs (.ref s4.heap.objs.size) "slice":=⟨os,RX,č⟩;unfold Op
 try with_reducible refine Bl ?_
 first | refine Aa (Af ?_) | skip
 refine Aa (EI ht.typeIs ⋯ ?_);refine Aa (A4 (name:=B7 "__getitem__") ht.typeIs AV
  (Bd AV ht.typeIs entry_tuple_getitem ?_ (args_tuple_getitem _ _)))
 show im _ _ (Builtin.Tuple.tupleItemsOf (.ref a) >>= _) _ _ s5;refine Aa (tupleItemsOf_ ht ?_);refine Aa (Cw Ĭ ?_);rw[if_pos ⋯];have app:∀{Q:Int×Int×Nat->ii->Prop}{E:db->ii->Prop}{A:ww} (n:Nat),Q ((n:Int)-1,-1,n) s5->im (lc X.prog X.w) A (Builtin.Slice.sliceApplied (.ref s4.heap.objs.size) (pure (n:Int))) Q E s5:=λ{Q E A} n hq=>by
  unfold Builtin.Slice.sliceApplied Builtin.Slice.sliceFields;refine Aa (Aa (A7 RX YQ (x:=.none) rfl (Aa (A7 RX YQ (x:=.none) rfl (Aa (A7 RX YQ (x:=.int (-1) t) rfl (Af ?_)))))));refine Aa (HT.iL (.int (-1) t) ?_);show im _ _ (if (((-1:Int))==0)=true then _ else _) _ _ s5;rw[if_neg ⋯];refine Aa (HT.iL .none (Aa (HT.iL .none (Aa (Af ?_)))));show im _ _ (match Builtin.Slice.sliceAdjust ce ce (-1) (n:Int) with | (lo,hi)=>pure (lo,(-1:Int),Builtin.Slice.slicePlaces lo hi (-1))) _ _ s5;have e1:Builtin.Slice.sliceAdjust ce ce (-1) (n:Int)=((n:Int)-1,-1):=by unfold Builtin.Slice.sliceAdjust;simp
  rw[e1];have e2:Builtin.Slice.slicePlaces ((n:Int)-1) (-1) (-1)=n:=by
   unfold Builtin.Slice.slicePlaces;rw[if_neg ⋯];by_cases h0:(n:Int)-1 > -1
   ·rw[if_pos h0];show(((n:Int)-1 - -1-1) / 1+1).toNat=n;rw[Int.ediv_one];omega
   ·rw[if_neg h0];show(0:Int).toNat=n;omega
  show im _ _ (pure ((n:Int)-1,(-1:Int),Builtin.Slice.slicePlaces ((n:Int)-1) (-1) (-1))) _ _ s5;rw[e2];exact Af hq
 refine Aa (app au.toArray.size ?_);show im _ _ (if (((au.toArray.size:Int)-1)==0&&(-1:Int)==1&&au.toArray.size==au.toArray.size)=true then _ else _) _ _ s5;rw[if_neg (by simp)];have hp:=Jw au au.length (Ak _);rw[Cy,List.drop_zero]at hp;have à:((AD au.toArray.size).filterMap λ(m:Nat)=>au.toArray[(((au.toArray.size:Int)-1)+(m:Int)*(-1)).toNat]?).toArray=au.reverse.toArray:=by
  rw[Aj,hp]
 rw[à];have hsz:sizeOk (.seq au.reverse.toArray):=by
  show au.reverse.toArray.size<=sizeLine;rw[Aj,B8];omega
 have fin:EP X Z σ Q (.ref s5.heap.objs.size) {s5 with heap:=s5.heap.push {cls:=.type "tuple",data:=.seq au.reverse.toArray}}:=
  ⟨.ref s5.heap.objs.size,_,I5.laid (t':=s5.toks) (o:=.tup xs.reverse) (λb ob q=>Ag _ q) (Ak _) ⟨by rw[B8];exact hz,_,r.va,FZ _ _⟩,rfl,q.at _ (I5.a8.fresh (Ak _))⟩
 first
  | exact Aa (m:=Builtin.Tuple.tupleExact _) (AJ (Af ⟨_,rfl,Af fin⟩) hsz)
  | exact Aa (m:=Builtin.Tuple.tupleExact _) (AJ (Aa (Af (Af ⟨_,rfl,Af fin⟩))) hsz)
  | exact Aa (Aa (m:=Builtin.Tuple.tupleExact _) (AJ (Af (Af ⟨_,rfl,Af fin⟩)) hsz))
  | exact Aa (Aa (m:=Builtin.Tuple.tupleExact _) (AJ (Af ⟨_,rfl,Af fin⟩) hsz))
end
end L2
namespace FL
section
variable[bU]
variable{K:Ab}
section
variable{a c:r9}{w:W PV}
def uq(neg:Bool)(x:PV)(l:O PV):W Bool:=.e6 (Q7 x l) (.ret (if neg then !vS x l else vS x l))
def Vm{neg:Bool}:∀σ H Q,fT K fs (.bind wa λx=>.bind wl λl=>uq neg x l) σ H Q->tOp (abn K neg) (fE K fs wa) (fQ K fs wl) σ H λx H'=>∃k,x=.bl k/\Q k H':=λσ H Q ⟨sr,q⟩=>
 ⟨sr,wa.mono (λx q1 u1 H1 g1 s1 v1=>⟨s1,wl.mono (λl q2 u2 H2 g2 s2 v2=>by
  obtain⟨ad,vs,rfl,h,rs⟩:=v2.sq s2;exact⟨ad,vs,l,x,rfl,h,rs,g2.vr s1 v1,q2.1,_,rfl,q2.2 H2 (g1.trans g2) s2⟩) q1⟩) q⟩
def aep(hK:X.K=K)(hu:X.A.units+200 < xz)(ha:EF X K fs a wa)(hb:QF X K fs b wl)(hk:‹xL .In b=false›):TF X K fs (.Compare a [.In] [b] pos) (.bind wa λx=>.bind wl λl=>uq false x l):=⟨PT.imp (uC (TZ K hK hu) ha.p hb.p hk) (Vm (neg:=false))⟩
def zI(hK:X.K=K)(hu:X.A.units+200 < xz)(ha:EF X K fs a wa)(hb:QF X K fs b wl)(hk:‹xL .NotIn b=false›):TF X K fs (.Compare a [.NotIn] [b] pos) (.bind wa λx=>.bind wl λl=>uq true x l):=⟨PT.imp (uC (XT K hK hu) ha.p hb.p hk) (Vm (neg:=true))⟩
abbrev UQ(neg:Bool)(wa:W PV)(wl:W (O PV)):W Bool:=.bind wa λx=>.bind wl λl=>uq neg x l
def sW(l:O PV):W PV:=.bind (qA l) λns=>.ret (.int ns.sum)
def Q5{C:O Int->Prop}{g:O Int->Int}{f:O PV->W PV}(hf:∀{l:O PV}{Q:PV->Prop},(f l).run Q->∃ns:O Int,l=ns.map PV.int/\C ns/\Q (.int (g ns))):∀σ H Q,fE K fs (.bind wl f) σ H Q->tCB (Tb K C g) (ZI (fQL K fs wl) aeu) σ H Q:=λσ H Q ⟨sr,q⟩=>⟨sr,wl.mono (λl q1 u1 H1 g1 s1 _ v1=>by
 obtain⟨ns,el,hC,q2⟩:=hf q1;obtain⟨a,vs,rfl,h1,r1⟩:=v1 H1 .refl s1;rw[el]at r1;have:=jw r1;subst this;exact⟨a,ns,rfl,h1,hC,q2 _ H1 g1 s1 (.int _)⟩) q⟩
def P8{Q:PV->Prop}(h:(sW l).run Q):∃ns:O Int,l=ns.map PV.int/\True/\Q (.int ns.sum):=let ⟨ns,e,q⟩:=iE h;⟨ns,e,trivial,q⟩
def Nd(hK:X.K=K)(hc:X.calm=true)(hg:Gl X "sum")(hm:X.mg "sum"=ce)(ha:R4 X K fs e wl)(he:‹fR X e []›)(dg:‹kJ X pos []›):EF X K fs (.Call (.Name "sum" p) [e] [] pos) (.bind wl sW):=⟨PE.imp (f7 (RE (C:=λ_=>True) (g:=λns=>ns.sum) K hK hc λa b c _ q=>P6 a b c q) hg hm (show sK "sum"=am (.builtin "sum") by rfl) (aX ha.p bW he) ⋯ ⋯ he dg) (Q5 P8)⟩
def sortI(ns:O Int):O Int:=ns.mergeSort (λa b=>decide (a<=b))
theorem Jp(h1:ms.Perm ns)(h2:ms.Pairwise (·<=·)):ms=sortI ns:=by
 have h3:(sortI ns).Perm ns:=CK ns _;have h4:(sortI ns).Pairwise (λa b=>decide (a<=b)=true):=EY (λa b c=>by simp;omega) (λa b=>by simp;omega) ns;exact List.Perm.eq_of_pairwise (le:=λa b=>a<=b) (λa b _ _ h h'=>Fw h h') h2 (h4.imp (by simp)) (h1.trans h3.symm)
def ml(l:O PV):W (O PV):=.bind (qA l) λns=>.e6 (ns.length < 64) (.ret ((sortI ns).map PV.int))
def Yo(hK:X.K=K)(hg:Gl X "sorted")(hm:X.mg "sorted"=ce)(ha:R4 X K fs e wl)(he:‹fR X e []›)(dg:‹kJ X pos []›):LF X K fs (.Call (.Name "sorted" p) [e] [] pos) (.bind wl ml):=⟨PE.imp (f7 (Ny K hK) hg hm boot_sorted (aX ha.p bW he) ⋯ ⋯ he dg) λσ H Q ⟨sr,q⟩=>⟨sr,wl.mono (λl q1 u1 H1 g1 s1 _ v1=>by
 obtain⟨ns,el,hC,q2⟩:=iE (l:=l) q1;obtain⟨a,vs,rfl,h1,r1⟩:=v1 H1 .refl s1;rw[el]at r1;have:=jw r1;subst this;refine⟨a,ns,rfl,h1,hC,λms a2 a3=>?_⟩;rw[Jp a2 a3];exact yC g1 s1 (nv _ _ _) q2) q⟩⟩
def Zi(l:O PV)(x:PV):W PV:=.e6 (Q7 x l) (.ret (.int (ac9 x l)))
def Y9(hK:X.K=K)(hu:X.A.units+200 < xz)(ho:R4 X K fs o wl)(he:EF X K fs e w)
  (dz:‹pc o "count" X.env (pr o X.env)=pr o X.env›)
  (mI:‹Zy X bB [e]›)
  (dw:‹R5 Â bB›) (nA:‹fR X e []›) (du:‹kJ X bB []›) :
  EF X K fs (.Call (.Attribute o "count" Â) [e] [] bB) (.bind wl λl=>.bind w λx=>Zi l x):=
 ⟨PE.imp (oX K hK BI PySem.F.slot_list_count PySem.F.type_list_count (Ye K hK hu) ho.p (aX he.p bW nA) dz mI dw nA du) λσ H Q ⟨sr,q⟩=>⟨sr,wl.mono (λl q1 u1 H1 g1 s1 _ v1=>by
  obtain⟨a,vs,eu,h1,_⟩:=v1 H1 .refl s1;subst eu;refine⟨.inl ⟨rfl,_,h1⟩,s1,w.mono (λx q2 u2 H2 g2 s2 v2=>?_) q1⟩
  ·obtain⟨a',vs,ea,h2,r2⟩:=v1 H2 g2 s2;cases ea;exact⟨a,vs,l,u2,x,rfl,rfl,h2,r2,v2,q2.1,q2.2 _ H2 (g1.trans g2) s2 (.int _)⟩) q⟩⟩
variable{el eh:Option r9}{st:r9}{lo ws:W (Option Int)}
def SO(x:PV)(i j k:Option Int):W PV:=match x with
 | .tup l=>.e6 (i=ce/\j=ce/\k=am (-1)) (.ret (.tup l.reverse))
 | _=>.fail
def acX(hK:X.K=K)(he:EF X K fs e w)(hl:OF X K fs el lo)(hh:OF X K fs eh hi)(hs:OF X K fs (am st) ws):EF X K fs (.Subscript e (.Slice el eh (am st) p2) pos) (.bind w λx=>.bind lo λi=>.bind hi λj=>.bind ws λk=>SO x i j k):=⟨PE.imp (XD K hK he.p hl.p hh.p hs.p) λσ H Q ⟨sr,q⟩=>⟨sr,w.mono (λx q1 u1 H1 g1 s1 v1=>⟨s1,lo.mono (λi q2 H2 g2 s2=>⟨s2,hi.mono (λj q3 H3 g3 s3=>⟨s3,ws.mono (λk q4 H4 g4 s4=>by
 have å:=g4.vr s3 (g3.vr s2 (g2.vr s1 v1));have gg:=((g1.trans g2).trans g3).trans g4;cases å with
 | @tup p vs l e r=>
  have q4:(W.e6 (i=ce/\j=ce/\k=am (-1)) (bn (PV.tup l.reverse))).run _:=q4;exact⟨p,vs,rfl,dJ.of e,q4.1.1,q4.1.2.1,q4.1.2.2,λq H5 s5 h5 n5=>q4.2 _ H5 (gg.trans (de.same s5)) (s4.same s5) (.tup h5 (aG.tk s5.eJ r.reverse))⟩
 | _=>exact q4.elim) q3⟩) q2⟩) q1⟩) q⟩⟩
end
end
section
variable[bU]
variable{K:Ab}
section
variable{rest:O ut}{T:Type}{out:T->End}{x:Bool}
def aoa(l:O PV):PV->W PV
 | .int k=>.e6 (0<=k/\k < 1000) (.OE l[k.toNat]?)
 | _=>.fail
def abg(l:O PV)(v:PV):W (O PV):=match v with
 | .int k=>.bind (qA l) λns=>.e6 (k∈ns) (.ret ((ns.erase k).map PV.int))
 | _=>.fail
theorem SF.remove(i:Nat){k:O PV->W T}(hs:fs[i]?=am (am (.ol q0 l)))(hK:X.K=K)(hN:X.N[i]?=am y)(hv:ye X.env.scope y)(he:EF X K fs e we)(hr:∀l',SF X K x (fs.set i (am (.ol q0 l'))) rest (k l') out)
  (hd: ~~~(gK y)) (g9: ~~~(zk y)) (dz:‹pc (.Name y p) "remove" X.env (pr (.Name y p) X.env)=pr (.Name y p) X.env›)
  (mI:‹Zy X bB [e]›)
  (dw:‹R5 Â bB›) (nA:‹fR X e []›) (du:‹kJ X bB []›)
  (ur:‹sB (.Call (.Attribute (.Name y p) "remove" Â) [e] [] bB) ce pos.line X.env=pure false›) :
  SF X K x fs (.Expr (.Call (.Attribute (.Name y p) "remove" Â) [e] [] bB) pos::rest) (.bind we λv=>.bind (abg l v) k) out:=
 SF.step (pR (oX K hK BI PySem.F.slot_list_remove PySem.F.type_list_remove Md (dm hN hv hd g9) (aX he.p bW nA) dz mI dw nA du) ur) λD σ H ⟨sr,q⟩=>by
  obtain⟨a,ws,e1,h1,r1⟩:=dN sr hs;refine⟨_,e1,.inl ⟨rfl,_,eI.of h1⟩,sr,we.mono (λv q1 u H1 g1 s1 v1=>?_) q⟩;obtain⟨a',sT,xa,hE,Lv⟩:=dN s1 hs;rw[e1]at xa;cases xa;cases v1 with
  | int kk=>
   obtain⟨ns,el,hk,q2⟩:=iE (l:=l) q1;subst el;have:=jw Lv;subst this;refine⟨a,ns,kk,rfl,rfl,hE,hk,λH2 sx h2=>?_⟩;obtain⟨s2,g2⟩:=pT s1 hs e1 sx h2 (nv _ _ (ns.erase kk));exact⟨_,k _,hr _,s2,(k _).mono (λt q3=>q3.go (g1.f.trans g2) sr s2) q2⟩
  | _=>exact q1.elim
end
end
end FL
variable{vs:O (L2.Key×L2.V)}{kvs:O (L2.Key×PL.PV)}{qs:O PL.PV}
namespace FL
section
variable[bU]
variable{K:Ab}
abbrev w2(f:PV->PV->W PV)(wa wb:W PV):W PV:=.bind wa λx=>.bind wb λy=>f x y
def spC(K:Ab)(us:O V)(qs:O PV)(fz:O (f8×Obj))(sp:Sp):Sp:=λvs H Q E=>aG K [] H us qs/\PK H fz/\sp vs H Q E
structure ZC(P:u8)(w:EQ)(K:Ab)(mg:Str->Option db)(base:sw)(f:f8)(us:List V)(qs:List PV)(fz:List (f8×Obj))(k:Nat)(ps:List Str)(sp:Sp) where
 fd:FS
 ok:eG P w K mg base oM k f fd ps (spC K us qs fz sp)
 bi:Binds K fd ps []
 kp:∀h:sw,K.In h->(∀b o,base.get? b=am o->h.get? b=am o)->(∀p∈fz,h.get? p.1=am p.2)->PySem.W.FnAt f h
section
variable{x:Str}{R:Type}{B:(O PV->W R)->W R}{fa:f8}{us:O V}
def Zb{m:O PV->W PV}{B:(O PV->W PV)->W PV}(i:Nat)(G:ZC X.prog X.w X.K X.mg X.base fa us qs fz k ps (xn K ks m))(hK:X.K=K)(hr:cI k' X.A)(hk:k<=k')(hs:fs[i]?=am (am (.adr fa us qs fz)))(ha:AF X K fs (e::es) ks B)(hW:W'=B m)(hN:‹X.N[i]?=am x›)(hv:ye X.env.scope x:=by first | exact CN rfl | exact Cq (CN rfl) | exact Cq (Cq rfl))(hd: ~~~(gK x))(g9: ~~~(zk x))
  (he:‹fR X e es›) (dg:‹kJ X pos es›):EF X K fs (.Call (.Name x p) (e::es) [] pos) W':=by
 subst hW hK;obtain⟨w,hp,hB⟩:=ha.p;rw[hB];refine⟨λZ s σ H Q I ⟨sr,q⟩=>?_⟩;obtain⟨u,e1,r⟩:=sr.at' i _ hs;rcases r with⟨v,e,_⟩ | ⟨a,e,r⟩
 ·cases e
 obtain⟨rfl,rv,rz⟩:a=fa/\aG X.K [] H us qs/\PK H fz:=r;subst e;refine Bf (bV (dm hN hv hd g9 Z s σ H (λy H1=>y=.ref a/\H1=H) I ⟨_,e1,rfl,rfl⟩) λv s1 ⟨y,H1,I1,r1,ey,eH⟩=>?_);subst ey;subst eH;cases r1;have kz:∀{σ':L2.St}{H':Hp}{s':ii},Inv X Z σ' H' s'->PK H' fz->PySem.W.FnAt a s'.heap:=λJ z=>G.kp _ J.o8 J.bk λp hp=>let ⟨u,e⟩:=z p hp;(J.a8 _ _ e).1;refine PySem.W.callWith_F (kz I1 rz) (bV (hp pos Z s1 σ H1 (λvs H2=>PK H2 fz/\spC X.K us qs fz (xn X.K ks m) (vs++[]) H2 Q E0) I1 ⟨sr,w.mono (λl q1 vs H1' g1 SV v1=>?_) q⟩) λı s2 ⟨vs,H2,I2,r,z2,q2⟩=>⟨kz I2 z2,SX (dvs:=[]) (ds:=[]) (E:=E0) G.ok (hr.mono hk) G.bi .nil Oz I2 r q2⟩) he dg;have z1:=rz.tk (g1.dM sr);show PK H1' fz/\spC X.K us qs fz (xn X.K ks m) (vs++[]) H1' Q E0;rw[B1];exact⟨z1,aG.tk (g1.dM sr) rv,z1,SV.tb,l,v1.c SV,(m l).mono (λz q2 u H2 g2 r2=>let ⟨s2,g3⟩:=g2.caller v1 SV;q2 u H2 (g1.trans g3) s2 r2) q1⟩
end
def aki(kvs:O (Key×PV))(k:Key):Bool:=kvs.any λkv=>decide (kv.1=k)
def uv(kvs:O (Key×PV))(k:Key):Option PV:=(kvs.find? λkv=>decide (kv.1=k)).map (·.2)
def j6(K:Ab)(H:Hp)(vs:O (Key×V))(kvs:O (Key×PV)):Prop:=vs.map (·.1)=kvs.map (·.1)/\aG K [] H (vs.map (·.2)) (kvs.map (·.2))
section
def j6.cons_inv{p:Key×V}{q:Key×PV}(h:j6 K H (p::vs) (q::kvs)):p.1=q.1/\VR K [] H p.2 q.2/\j6 K H vs kvs:=by
 obtain⟨h1,h2⟩:=h;injection h1 with a b;cases h2 with
 | cons r t=>exact⟨a,r,b,t⟩
theorem j6.ind{C:O (Key×V)->O (Key×PV)->Prop}(h0:C [] [])(h1:∀p q vs kvs,p.1=q.1->VR K [] H p.2 q.2->j6 K H vs kvs->C vs kvs->C (p::vs) (q::kvs)):∀{vs kvs},j6 K H vs kvs->C vs kvs
 | [],[],_=>h0
 | [],_::_,h=>by simp[j6]at h
 | _::_,[],h=>by simp[j6]at h
 | p::vs,q::kvs,h=>let ⟨a,b,c⟩:=h.cons_inv;h1 p q vs kvs a b c (j6.ind h0 h1 c)
def j6.has(h:j6 K H vs kvs)(k:Key):(j8 vs k).isSome=aki kvs k:=by
 rw[<- Ja];refine j6.ind (C:=λvs kvs=>(vs.any λkv=>decide (kv.1=k))=kvs.any λkv=>decide (kv.1=k)) rfl (λp q vs kvs e _ _ ih=>?_) h;rw[CJ,CJ,ih,e]
def j6.get(h:j6 K H vs kvs)(k:Key)(g:uv kvs k=am v):∃u,j8 vs k=am u/\VR K [] H u v:=by
 refine j6.ind (C:=λvs kvs=>uv kvs k=am v->∃u,j8 vs k=am u/\VR K [] H u v) (λg=>by simp[uv]at g) (λp q vs kvs e r _ ih g=>?_) h g;by_cases c:p.1=k
 ·rw[mf c];have c':=e▸c;have:uv (q::kvs) k=am q.2:=by simp[uv,BZ,c']
  rw[this]at g;cases g;exact⟨_,rfl,r⟩
 ·rw[mh c];have c':=e▸c;have:uv (q::kvs) k=uv kvs k:=by simp[uv,BZ,c']
  exact ih (this▸g)
end
end
end FL
variable{kvs:O (O L2.Key×PL.PV)}
namespace FL
section
variable[bU]
variable{K:Ab}
def rG(K:Ab)(H:Hp)(vs:O (O Key×V))(kvs:O (O Key×PV)):Prop:=vs.map (·.1)=kvs.map (·.1)/\aG K [] H (vs.map (·.2)) (kvs.map (·.2))
def Zz(K:Ab)(H:Hp)(ob:HO)(v:PV):Prop:=(∃vs kvs,ob=.dK vs/\v=dvK kvs/\j6 K H vs kvs)\/∃vs kvs,ob=.dT vs/\v=VN kvs/\rG K H vs kvs
def fDv(K:Ab)(fs:br)(w:W PV):TE:=λσ H Q=>aU K H σ fs/\w.run λv=>∀a ob H',de σ fs H H'->aU K H' σ fs->H a=ce->H' a=am ob->Zz K H' ob v->Q (.ref a) H'
structure DVF(X:Cx)(K:Ab)(fs:br)(e:r9)(w:W PV):Prop where p:PE X e (fDv K fs w)
section
variable{σ:L2.St}{fs:br}{H:Hp}{a:f8}{ob:HO}{v:PV}
def aU.aeL(s:aU K H σ fs)(n:¬dc σ fs a)(e:H a=am ob)(n1:∀vs,ob≠.tup vs)(n2:∀o u,ob≠.bN o u)(n3:ob.nt=true)(o':HO):aU K (upd H a o') σ fs:=⟨s.len,λi t q=>by
 obtain⟨u,h1,h2⟩:=s.at' i t q;exact⟨u,h1,h2.mono (fW o' e n1 n2) (λx b o eb ow hb z _=>by subst eb;rw[aq (λy:b=a=>n ⟨i,t,x,q,ow,h1,y▸hb⟩)];exact z)⟩,s.nd,s.tb.yt (λb o n z=>by rw[aq n];exact z) e n3 n2⟩
def Zz.bN{X:Cx}{Z:O (f8×Obj)}{s:ii}{σ':L2.St}(I:Inv X Z σ' H s)(e:H a=am ob)(d:Zz K H ob v):∃u,Inv X Z σ' (upd H a u) s/\VR K [] (upd H a u) (.ref a) v/\(∀vs,ob≠.tup vs)/\(∀o u,ob≠.bN o u)/\ob.nt=true:=by
 rcases d with⟨vs,kvs,rfl,rfl,d1,d2⟩ | ⟨vs,kvs,rfl,rfl,d1,d2⟩
 ·obtain⟨o,I2⟩:=I.O7 e;exact⟨_,I2,.dk aD (Z5 d1) (aG.tk (fW _ e (by simp) (by simp)) d2),by simp,by simp,rfl⟩
 ·obtain⟨o,I2⟩:=I.freeze e;exact⟨_,I2,.dt aD (Z4 d1) (aG.tk (fW _ e (by simp) (by simp)) d2),by simp,by simp,rfl⟩
end
section
variable{a c:r9}{w:W PV}
def akH(h:DVF X K fs e w):EF X K fs e w:=⟨λZ s σ H Q I ⟨sr,q⟩=>by
 refine bV (h.p Z s σ H (λu H1=>∃a ob v,u=.ref a/\de σ fs H H1/\aU K H1 σ fs/\H a=ce/\H1 a=am ob/\Zz K H1 ob v/\∀u H',de σ fs H H'->aU K H' σ fs->VR K [] H' u v->Q u H') I ⟨sr,w.mono (λv q1 a ob H1 g1 s1 n e d=>⟨a,ob,v,rfl,g1,s1,n,e,d,q1⟩) q⟩) λu s1 ⟨v,H1,I1,r1,a,ob,v',e,g1,SV,n,ea,d,q1⟩=>?_;subst e;obtain⟨o',I2,vr,n1,n2,n3⟩:=d.bN I1 ea;exact⟨.ref a,_,I2,r1,q1 _ _ (g1.side n _) (SV.aeL (λz=>sr.noOwn n z) ea n1 n2 n3 _) vr⟩⟩
def OA(kv:O Key×PV):PV:=.tup [.tup (kv.1.map kP),kv.2]
theorem UJ(H:Hp):∀k:O Key,aG K [] H (k.map kV) (k.map kP)
 | []=>.nil
 | .inl i::k=>.cons (.int i) (UJ H k)
 | .inr i::k=>.cons (.str i) (UJ H k)
theorem OU:∀{k:O Key}{vs:O V},aG K [] H vs (k.map kP)->vs=k.map kV
 | [],_,h=>by cases h;rfl
 | .inl i::k,_,h=>by
  cases h with
  | cons x t=>cases x;rw[OU t];rfl
 | .inr i::k,_,h=>by
  cases h with
  | cons x t=>cases x;rw[OU t];rfl
theorem Jy:∀{kvs:O (O Key×PV)}{vs:O V},aG K [] H vs (kvs.map OA)->∃zs:O Pz,vs=zs.map (λz=>V.ref z.pa)/\(∀z∈zs,z.At H)/\zs.map (·.k)=kvs.map (·.1)/\aG K [] H (zs.map (·.v)) (kvs.map (·.2))
 | [],_,h=>by cases h;exact⟨[],rfl,by simp,rfl,.nil⟩
 | kv::kvs,_,h=>by
  cases h with
  | cons x t=>
  obtain⟨zs,z1,z2,z3,z4⟩:=Jy t;cases x with
  | @tup p ws _ e r=>
  cases r with
  | cons x1 t1=>
  cases t1 with
  | cons x2 t2=>
  cases t2;cases x1 with
  | @tup b us _ e1 r1=>
  have:=OU r1;subst this;refine⟨⟨p,kv.1,b,_⟩::zs,by rw[Ar,z1],λz hz=>?_,by rw[Ar,Ar,z3],.cons x2 z4⟩;rcases Aw.mp hz with rfl | hz
  ·exact⟨e,e1⟩
  ·exact z2 z hz
def Np(l:O PV):W PV:=⟨λQ=>∃kvs:O (O Key×PV),l=kvs.map OA/\(kvs.map (·.1)).Nodup/\kvs.length<=1000/\Q (VN kvs),λf q=>q.imp λkvs h=>⟨h.1,h.2.1,h.2.2.1,f _ h.2.2.2⟩⟩
theorem Zh(hK:X.K=K)(hc:X.calm=true)(hu:X.A.units+200 < xz)(hg:Gl X "dict")(hm:X.mg "dict"=ce)(ha:R4 X K fs e wl)(he:‹fR X e []›)(dg:‹kJ X pos []›) :
  DVF X K fs (.Call (.Name "dict" p) [e] [] pos) (.bind wl Np):=⟨PE.imp (mZ (ND K hK hc ∅) hg hm boot_dict (aX ha.p bW he) ⋯ ⋯ he dg) λσ H Q ⟨sr,q⟩=>⟨sr,wl.mono (λl q1 u H1 g1 s1 v0 v1=>by
  obtain⟨kvs,rfl,nd,hl,q1⟩:=q1;obtain⟨a,vs,rfl,e3,e4⟩:=v1 H1 .refl s1;obtain⟨zs,rfl,z2,z3,z4⟩:=Jy e4;have hzl:zs.length=kvs.length:=by have:=congrArg Ca z3;simpa using this
  refine⟨a,zs,rfl,e3,z2,by rw[z3];exact nd,by omega,λp H2 s2 h2 n2=>?_⟩;exact q1 _ _ H2 (g1.trans (de.same s2)) (s1.same s2) (g1.there _ n2) h2 (.inr ⟨_,_,rfl,rfl,by rw[AG,<- z3];rfl,by rw[AG];exact aG.tk s2.eJ z4⟩)) q⟩⟩
def Rr{Q:PV->Prop}(nd:(kvs.map (·.1)).Nodup)(hl:kvs.length<=1000)(q:Q (VN kvs)):(Np (kvs.map OA)).run Q:=⟨kvs,rfl,nd,hl,q⟩
def nW(kvs:O (O Key×PV))(k:O Key):Option PV:=(kvs.find? λkv=>decide (kv.1=k)).map (·.2)
theorem rG.get{k:O Key}:∀{vs:O (O Key×V)}{kvs:O (O Key×PV)},rG K H vs kvs->(nW kvs k=ce->j8 vs k=ce)/\∀{v},nW kvs k=am v->∃u,j8 vs k=am u/\VR K [] H u v
 | [],[],_=>⟨λ_=>rfl,λg=>by simp[nW]at g⟩
 | [],_::_,h=>by simp[rG]at h
 | _::_,[],h=>by simp[rG]at h
 | p::vs,q::kvs,h=>by
  obtain⟨h1,h2⟩:=h;rw[Ar,Ar]at h1 h2;injection h1 with e b;cases h2 with
  | cons r t=>
  have ih:=rG.get (k:=k) (vs:=vs) (kvs:=kvs) ⟨b,t⟩;by_cases c:p.1=k
  ·rw[mf c];have c':=e▸c;have:nW (q::kvs) k=am q.2:=by simp[nW,BZ,c']
   rw[this];refine⟨λz=>(by cases z),λ{v} z=>?_⟩;cases z;exact⟨_,rfl,r⟩
  ·rw[mh c];have c':=e▸c;have:nW (q::kvs) k=nW kvs k:=by simp[nW,BZ,c']
   rw[this];exact ih
def j6.get'{k:Key}:∀{vs:O (Key×V)}{kvs:O (Key×PV)},j6 K H vs kvs->(uv kvs k=ce->j8 vs k=ce)/\∀{v},uv kvs k=am v->∃u,j8 vs k=am u/\VR K [] H u v:=λ{vs kvs} h=>⟨λz=>by
 have:=h.has k;cases e:j8 vs k with
 | none=>rfl
 | some u=>
  rw[e]at this;have h2:=this.symm;unfold uv at z;rw[Option.map_eq_none_iff,List.find?_eq_none]at z;obtain⟨x,hx,Ģ⟩:=List.any_eq_true.mp h2;exact absurd Ģ (z x hx),λz=>h.get k z⟩
def Z9(k:Key)(l:O PV):kP k≠.tup l:=by cases k <;> exact PV.noConfusion
def ach{a b:Key}(h:kP a=kP b):a=b:=by
 cases a <;> cases b <;> simp[kP]at h <;> rw[h]
theorem G7:∀{a b:O Key},a.map kP=b.map kP->a=b
 | [],[],_=>rfl
 | [],_::_,h=>by simp at h
 | _::_,[],h=>by simp at h
 | x::a,y::b,h=>by
  rw[Ar,Ar]at h;injection h with h1 h2;rw[ach h1,G7 h2]
inductive Lj:PV->PV->Option PV->Prop
 | k (kvs:List (Key×PV)) (k:Key):kvs≠[]->Lj (dvK kvs) (kP k) (uv kvs k)
 | t (kvs:List (List Key×PV)) (k:List Key):kvs≠[]->Lj (VN kvs) (.tup (k.map kP)) (nW kvs k)
def aaQ{kvs:O (Key×PV)}(h0:kvs≠[])(h:VR K [] H u (dvK kvs)):∃a o vs,u=.ref a/\H a=am (.bN o (.dK vs))/\j6 K H vs kvs:=by
 have í:∀{vs:O (Key×V)}{kvs:O (Key×PV)},(kvs.map λkv=>kP kv.1)=(vs.map λkv=>kP kv.1)->vs.map (·.1)=kvs.map (·.1):=λ{vs kvs} e=>by
  have e:(kvs.map (·.1)).map kP=(vs.map (·.1)).map kP:=by rw[AG,AG];exact e
  exact(G7 e).symm
 cases h with
 | @dk a o vs _ _ e k r=>exact⟨a,o,vs,rfl,e,í k,r⟩
 | @dt a o vs _ _ e k r=>
  cases kvs with
  | nil=>exact absurd rfl h0
  | cons x l=>cases vs with
   | nil=>simp at k
   | cons y m=>simp at k;exact absurd k.1 (Z9 _ _)
def Si(h0:kvs≠[])(h:VR K [] H u (VN kvs)):∃a o vs,u=.ref a/\H a=am (.bN o (.dT vs))/\rG K H vs kvs:=by
 have í:∀{vs:O (O Key×V)}{kvs:O (O Key×PV)},(kvs.map λkv=>PV.tup (kv.1.map kP))=(vs.map λkv=>PV.tup (kv.1.map kP))->vs.map (·.1)=kvs.map (·.1):=λ{vs kvs} e=>by
  induction kvs generalizing vs with
  | nil=>cases vs with
   | nil=>rfl
   | cons y m=>simp at e
  | cons x l ih=>cases vs with
   | nil=>simp at e
   | cons y m=>
    injection e with e1 e2;injection e1 with e1;rw[Ar,Ar,G7 e1,ih e2]
 cases h with
 | @dt a o vs _ _ e k r=>exact⟨a,o,vs,rfl,e,í k,r⟩
 | @dk a o vs _ _ e k r=>
  cases kvs with
  | nil=>exact absurd rfl h0
  | cons x l=>cases vs with
   | nil=>simp at k
   | cons y m=>simp at k;exact absurd k.1.symm (Z9 _ _)
def Lj.ok{z:V}{d y:PV}{r:Option PV}(h:Lj d y r)(hu:VR K [] H u d)(hz:VR K [] H z y):∃a o,u=.ref a/\IsD H a/\ZA H a z o/\(r=ce->o=ce)/\∀v,r=am v->∃w,o=am w/\VR K [] H w v:=by
 cases h with
 | k kvs k h0=>
  obtain⟨a,o,vs,rfl,e,d⟩:=aaQ h0 hu;have ez:z=kV k:=by
   cases k with
   | inl i=>cases hz;rfl
   | inr i=>cases hz;rfl
  subst ez;exact⟨a,j8 vs k,rfl,.inl ⟨vs,.inr ⟨o,e⟩⟩,.inl ⟨vs,k,.inr ⟨o,e⟩,rfl,rfl⟩,(j6.get' d).1,λv=>(j6.get' d).2⟩
 | t kvs k h0=>
  obtain⟨a,o,vs,rfl,e,d⟩:=Si h0 hu;cases hz with
  | @tup b us _ e1 r1=>
  have:=OU r1;subst this;exact⟨a,j8 vs k,rfl,.inr ⟨vs,.inr ⟨o,e⟩⟩,.inr ⟨vs,k,b,.inr ⟨o,e⟩,rfl,e1,rfl⟩,(rG.get d).1,λv=>(rG.get d).2⟩
def dgW(d y:PV):W PV:=⟨λQ=>∃v,Lj d y (am v)/\Q v,λf ⟨v,a,q⟩=>⟨v,a,f _ q⟩⟩
def dgB(a b:W PV):W PV:=.bind a λx=>.bind b λy=>dgW x y
theorem VJ(hu:X.A.units+200 < xz)(ha:EF X K fs a wa)(hb:EF X K fs b wb)(hs:ads b):EF X K fs (.Subscript a b pos) (dgB wa wb):=⟨PE.imp (XI ∅ ha.p hb.p hs) λσ H Q ⟨sr,q⟩=>⟨sr,wa.mono (λx q1 u1 H1 g1 s1 v1=>⟨s1,wb.mono (λy q2 u2 H2 g2 s2 v2=>by
 obtain⟨v,g,q2⟩:=q2;obtain⟨a,o,rfl,_,g2',_,h⟩:=g.ok (g2.vr s1 v1) v2;obtain⟨w,rfl,vw⟩:=h v rfl;exact⟨a,w,rfl,g2',q2 _ H2 (g1.trans g2) s2 vw⟩) q1⟩) q⟩⟩
def Pm{k:O Key}{Q:PV->Prop}(h:nW kvs k=am v)(q:Q v):(dgW (VN kvs) (.tup (k.map kP))).run Q:=⟨v,by rw[<- h];exact .t kvs k (λz=>by subst z;simp[nW]at h),q⟩
def Uy(d:PV):W (O PV):=⟨λQ=>∃kvs:O (O Key×PV),d=VN kvs/\kvs≠[]/\kvs.length<=1000/\Q (kvs.map λkv=>.tup (kv.1.map kP)),λf q=>q.imp λkvs h=>⟨h.1,h.2.1,h.2.2.1,f _ h.2.2.2⟩⟩
theorem YD(h:EF X K fs e w):wM X K fs tg e (.bind w Uy):=⟨PI.imp (Tx h.p) λσ H R ⟨sr,q⟩=>⟨sr,w.mono (λx q1 u1 H1 g1 s1 v1=>by
 obtain⟨kvs,rfl,h0,hl,q1⟩:=q1;obtain⟨a,o,vs,rfl,e,d1,d2⟩:=Si h0 v1;have len:vs.length=kvs.length:=by have:=congrArg Ca d1;simpa using this
 refine⟨a,o,vs,rfl,e,q1 _ H1 g1 s1 ⟨bx (by simpa using hl),λH' t=>?_⟩⟩;have e':=t.z _ _ _ e;refine⟨λi p hp=>?_,vs,e',by simp[len]⟩;rw[Ai]at hp;cases z:kvs[i]? with
 | none=>rw[z]at hp;cases hp
 | some kv=>
  rw[z]at hp;have hp:=Option.some.inj hp;subst hp;have hi:=(Am.mp z).1;refine⟨⟨vs,e',by omega⟩,λy H2 yy=>?_⟩;obtain⟨rfl,yy⟩:=yy;obtain⟨b,k,v,rfl,k2,k3⟩:=yy vs e';have ek:k=kv.1:=by
   have h1:(vs.map (·.1))[i]?=am k:=by rw[Ai,k2];rfl
   rw[d1,Ai,z]at h1;exact(Option.some.inj h1).symm
  subst ek;exact⟨i5.refl _,.tup k3 (UJ _ _)⟩) q⟩⟩
def QT{Q:O PV->Prop}(h0:kvs≠[])(hl:kvs.length<=1000)(q:Q (kvs.map λkv=>.tup (kv.1.map kP))):(Uy (VN kvs)).run Q:=⟨kvs,rfl,h0,hl,q⟩
end
end
end FL
variable{κ:PyProof.Rows.SortKind}{vs:O Bc}{p:Array Nat}
namespace L2
def eZ(N:Nat)(P:α->Prop):Eg α->Prop
 | .ret a=>P a
 | .ask i j k=>i < N/\j < N/\∀b,eZ N P (k b)
theorem eZ.mono{N:Nat}{P P':α->Prop}(h:∀a,P a->P' a):∀{t:Eg α},eZ N P t->eZ N P' t
 | .ret a,q=>h a q
 | .ask i j k,q=>⟨q.1,q.2.1,λb=>eZ.mono h (q.2.2 b)⟩
theorem eZ.bind{N:Nat}{P:α->Prop}{P':β->Prop}{f:α->Eg β}(hf:∀a,P a->eZ N P' (f a)):∀{t:Eg α},eZ N P t->eZ N P' (t.bind f)
 | .ret a,q=>hf a q
 | .ask i j k,q=>⟨q.1,q.2.1,λb=>eZ.bind hf (q.2.2 b)⟩
theorem eZ.wp{N:Nat}{P:α->Prop}{cmp:Nat->Nat->(Bool->ii->Prop)->ii->Prop}{Q:α->ii->Prop}(hc:∀i j C,i < N->j < N->(∀b,C b s)->cmp i j C s)(hq:∀a,P a->Q a s):∀{t:Eg α},eZ N P t->t.kasWp cmp Q s
 | .ret a,q=>hq a q
 | .ask i j k,q=>hc i j _ q.1 q.2.1 λb=>eZ.wp hc hq (q.2.2 b)
def c9(N:Nat)(p:Array Nat):Prop:=p.toList.Perm (AD N)
def c9.lt{N:Nat}(h:c9 N p)(h0:0 < N)(k:Nat):p.getD k 0 < N:=by
 by_cases c:k < p.size
 ·have:p.getD k 0=p[k]:=by simp[Array.getD,c]
  rw[this];exact AU.mp (h.mem_iff.mp (by simp))
 ·have:p.getD k 0=0:=by simp[Array.getD,c]
  rw[this];exact h0
def c9.rev{N:Nat}(h:c9 N p)(i j:Nat):c9 N (Fp p i j):=(EB.mp (mirror_perm p i j _)).trans h
def c9.bub{N:Nat}(h:c9 N p)(i j:Nat):c9 N (bubble p i j):=(EB.mp (bubble_perm p i j)).trans h
section
variable{N:Nat}(h0:0 < N)
include h0
theorem UI(h:c9 N p):∀f n,eZ N (λ_=>True) (PySem.W.kas_asc p f n)
 | 0,n=>trivial
 | f+1,n=>⟨h.lt h0 _,h.lt h0 _,λb=>by
  cases b with
  | true=>exact trivial
  | false=>exact UI h f (n+1)⟩
theorem GX:∀f (p:Array Nat) n q,c9 N p->eZ N (λr=>c9 N r.1) (PySem.W.kas_desc f p n q)
 | 0,p,n,q,h=>h
 | f+1,p,n,q,h=>⟨h.lt h0 _,h.lt h0 _,λb=>by
  cases b with
  | true=>
   show eZ N _ (if q > 0 then _ else _)
   split
   ·exact GX f _ _ _ (h.rev _ _)
   ·exact GX f _ _ _ h
  | false=>exact⟨h.lt h0 _,h.lt h0 _,λb=>by
    cases b with
    | true=>exact h
    | false=>exact GX f _ _ _ h⟩⟩
def UA{m:Nat}(h:c9 N p):eZ N (λr=>c9 N r.2) (PySem.W.kas_tail3 n m p):=by
 exact eZ.bind (N:=N) (P:=λ_=>True) (P':=λr:Nat×Array Nat=>c9 N r.2) (f:=λk=>.ret (k,Fp p 0 n)) (λk _=>(show c9 N (Fp p 0 n) from h.rev _ _)) (UI h0 (h.rev _ _) _ _)
def UE{m:Nat}(h:c9 N p):eZ N (λr=>c9 N r.2) (PySem.W.kas_descPart n m p):=eZ.bind (λr hr=>by
 split
 ·exact UA h0 (hr.rev _ _)
 ·exact UA h0 hr) (GX h0 _ _ _ _ h)
def Yy{m:Nat}(h:c9 N p):eZ N (λr=>c9 N r.2) (PySem.W.kas_count m p):=eZ.bind (λn _=>by
 split
 ·exact h
 ·split
  ·exact⟨h.lt h0 _,h.lt h0 _,λb=>by
    cases b with
    | true=>exact h
    | false=>exact UE h0 (h.rev _ _)⟩
  ·exact UE h0 h) (UI h0 h _ _)
theorem GV(h:c9 N p)(k:Nat):∀f l r,eZ N (λ_=>True) (PySem.W.kas_place p k f l r)
 | 0,l,r=>trivial
 | f+1,l,r=>by
  show eZ N _ (if l≥r then _ else _)
  split
  ·exact trivial
  ·exact⟨h.lt h0 _,h.lt h0 _,λb=>by
    cases b with
    | true=>exact GV h k f _ _
    | false=>exact GV h k f _ _⟩
theorem Z7:∀f (p:Array Nat) k,c9 N p->eZ N (c9 N) (PySem.W.kas_bin f p k)
 | 0,p,k,h=>h
 | f+1,p,k,h=>eZ.bind (λl _=>Z7 f _ _ (h.bub _ _)) (GV h0 h k _ _ _)
def acg:eZ N (c9 N) (Gg N):=eZ.bind (λr hr=>by
 split
 ·exact Z7 h0 _ _ _ hr
 ·exact hr) (Yy h0 (List.Perm.refl _))
end
section
theorem Mn{P:PySem.Fin->ii->Prop}(ho:s.heap.get? a=am (wv "list" vs.toArray n))(Ď:vs.length < 64)
  (ţ:2<=vs.length->∀h',(∀b o,b≠a->s.heap.get? b=am o->h'.get? b=am o)->im (lc prog w) A (keyKind' vs.toArray) (λk s'=>k=κ/\s'={s with heap:=h'}) (λ_ _=>False) {s with heap:=h'})
  (gD:∀h',(∀b o,b≠a->s.heap.get? b=am o->h'.get? b=am o)->∀i j,i < vs.length->j < vs.length->∀C:Bool->ii->Prop,(∀b,C b {s with heap:=h'})->im (lc prog w) A (keyLt' κ (vs.getD i AY) (vs.getD j AY)) C (λ_ _=>False) {s with heap:=h'})
  (h:∀out:O db,out.Perm vs->P (.done (.ret .none)) {s with heap:=sortedHeap s.heap a vs out.toArray}) :
  im (lc prog w) A (BT.«list.sort» ⟨[.ref a],[]⟩) P E s:=by
 rw[list_sort_plain];have ha:=Aq ho;refine Aa (listItems_at ho rfl ?_);refine Aa (listUpdate_at ho rfl ?_);obtain⟨e1,ho1⟩:∃e1,(s.heap.update a (Be λ_=>#[])).get? a=am (wv "list" #[] e1):=⟨_,get?_update_seq ho (λ_=>#[])⟩;refine Aa (seqEpoch_at ho1 rfl ?_);refine Aa (C8 ?_);refine Aa (F4 ?_);refine Bl ?_;have ľ:(((s.heap.update a (Be λ_=>#[])).push (wv "tuple" vs.toArray 0)).push (wv "list" #[] 0)).get? a=am (wv "list" #[] e1):=by
  rw[Heap.get?_push_ne _ _ _ (by rw[size_push',EU];exact AA (EK ha)),Heap.get?_push_ne _ _ _ (by rw[EU];exact AA ha)];exact ho1
 have kp:∀b o,b≠a->s.heap.get? b=am o->(((s.heap.update a (Be λ_=>#[])).push (wv "tuple" vs.toArray 0)).push (wv "list" #[] 0)).get? b=am o:=λb o n e=>Ag _ (Ag _ (by rw[F1 _ _ _ _ n];exact e));dsimp only;have hsz:vs.toArray.size=vs.length:=by simp
 by_cases h2:vs.toArray.size < 2
 ·rw[if_pos h2,if_pos h2];refine Aa (Af ?_);refine Aa (Af ?_);dsimp only;refine Aa (seqEpoch_at ľ rfl ?_);refine Aa (listUpdate_at ľ rfl ?_ (hsz2:=by rw[Array.size_map];show(pairsOf vs).size<=_;rw[pairsOf_size,Da];omega));simp only[bne_self_eq_false,Av,if_false];refine Af ?_;have e:(arrOf (SortSt.mk' general' (vs.toArray.zip vs.toArray) #[] 7 ce)).map (·.2)=vs.toArray:=by
   apply Array.toList_inj.mp;simp[List.map_snd_zip]
  show P _ {s with heap:=_};rw[e];exact h vs (List.Perm.refl _)
 ·rw[if_neg h2,if_neg h2];have uI:2<=vs.length:=by omega
  refine Aa (BL (ţ uI _ kp) (λk s0 hk=>?_) λ_ _ x=>x.elim);obtain⟨rfl,rfl⟩:=hk;have hw:(Gg vs.length).kasWp (PySem.W.kas_ask prog w A k vs) (λp s'=>c9 vs.length p/\s'={s with heap:=((s.heap.update a (Be λ_=>#[])).push (wv "tuple" vs.toArray 0)).push (wv "list" #[] 0)}) {s with heap:=((s.heap.update a (Be λ_=>#[])).push (wv "tuple" vs.toArray 0)).push (wv "list" #[] 0)}:=
   eZ.wp (λi j C hi hj hC=>gD _ kp i j hi hj C hC) (λp hp=>⟨hp,rfl⟩) (acg (show 0 < vs.length by omega))
  refine Aa (BL (PySem.W.kat_run (Q:=λuB s'=>∃p:Array Nat,c9 vs.length p/\arrOf uB=p.map (PySem.W.kas_item (vs.toArray.zip vs.toArray))/\failedOf uB=ce/\s'={s with heap:=((s.heap.update a (Be λ_=>#[])).push (wv "tuple" vs.toArray 0)).push (wv "list" #[] 0)})
   rfl uI Ď (λp' uB s' a1 a2 a3 a4=>⟨p',a4.1,a2,a3,a4.2⟩) hw) ?_ λ_ _ e=>e)
  rintro⟨⟨⟩,uB⟩ s' ⟨p,hp,har,hf,rfl⟩;have ajX:=PySem.W.kat_snds rfl har;have aah:(p.toList.map λi=>vs.getD i AY).Perm vs:=by
   have e:(AD vs.length).map (λi=>vs.getD i AY)=vs:=by
    apply CB;intro i;by_cases c:i < vs.length
    ·rw[Ai,BR c,Ad c];show am (vs.getD i AY)=_;rw[Ae,Ad c];rfl
    ·rw[A3 (by simp;omega),A3 ∅]
   have:=hp.map (λi=>vs.getD i AY);rw[e]at this;exact this
  rw[ajX];refine Aa (seqEpoch_at ľ rfl ?_);refine Aa (listUpdate_at ľ rfl ?_ (hsz2:=by rw[Aj,aah.length_eq,Da];omega));rw[hf];simp only[bne_self_eq_false,Av,if_false];exact Af (h _ aah)
def W8{l:f8}(hl:s.heap.IsList l vs.toArray)(Ď:vs.length < 64)
  (ţ:2<=vs.length->∀h',(∀b o,s.heap.get? b=am o->h'.get? b=am o)->im (lc prog w) A.in1.in1 (keyKind' vs.toArray) (λk s'=>k=κ/\s'={s with heap:=h'}) (λ_ _=>False) {s with heap:=h'})
  (gD:∀h',(∀b o,s.heap.get? b=am o->h'.get? b=am o)->∀i j,i < vs.length->j < vs.length->∀C:Bool->ii->Prop,(∀b,C b {s with heap:=h'})->im (lc prog w) A.in1.in1 (keyLt' κ (vs.getD i AY) (vs.getD j AY)) C (λ_ _=>False) {s with heap:=h'})
  (h:∀out:O db,out.Perm vs->Q (.ref (s.heap.objs.size+1)) {s with heap:=sortedAll s.heap vs out.toArray}) :
  im (lc prog w) A (call (.builtin "sorted") [.ref l]) Q E s:=by
 refine EC kind_sorted plain_sorted entry_sorted (args_sorted1 _) ?_;refine Aa (m:=checkCount "sorted" 1 1 _) (Af ?_);refine Aa (collect_list hl ?_);refine Aa (F4 ?_);have hsz:((s.heap.push (wv "list" #[] 0)).update s.heap.objs.size (Be (·++vs.toArray))).objs.size=s.heap.objs.size+1:=by
  rw[EU,size_push']
 have á:(((s.heap.push (wv "list" #[] 0)).update s.heap.objs.size (Be (·++vs.toArray))).push (wv "list" vs.toArray 0)).get? (s.heap.objs.size+1)=am (wv "list" vs.toArray 0):=by
  rw[<- hsz];exact Ao _ rfl
 have kp:∀b o,s.heap.get? b=am o->b≠s.heap.objs.size+1/\(((s.heap.push (wv "list" #[] 0)).update s.heap.objs.size (Be (·++vs.toArray))).push (wv "list" vs.toArray 0)).get? b=am o:=λb o e=>by
  have lt:=Aq e;refine⟨AA (EK lt),Ag _ ?_⟩;rw[F1 _ _ _ _ (AA lt)];exact Ag _ e
 show im _ _ _ _ _ {s with heap:=((s.heap.push (wv "list" #[] 0)).update s.heap.objs.size (Be (·++vs.toArray))).push (wv "list" vs.toArray 0)};rw[hsz];refine Aa (Bl (Bd slot_list_sort ⟨_,á,rfl⟩ entry_list_sort (Mn (κ:=κ) á Ď (λh2 h' k=>?_) (λh' k=>?_) λout hp=>⟨_,rfl,?_⟩) (args_list_sort _)))
 ·exact ţ h2 h' λb o e=>k b o (kp b o e).1 (kp b o e).2
 ·exact gD h' λb o e=>k b o (kp b o e).1 (kp b o e).2
 ·exact Af ⟨_,rfl,h out hp⟩
end
end L2
variable{b:Bm}{t t1:Gi}{p:Co}
namespace FL
section
variable[bU]
variable{K:Ab}
def sC:PV->Bool
 | .tup [.str _,.tup [.int _,.int _]]=>true
 | _=>false
def MM(h:sC x=true):∃s i j,x=.tup [.str s,.tup [.int i,.int j]]:=by
 unfold sC at h
 split at h
 ·exact⟨_,_,_,rfl⟩
 ·cases h
section
def Zf(I:Inv X Z σ H s){v:V}{u:db}(hv:VR X.K [] H v x)(ru:RelV v u)(hx:sC x=true):∃(a b:f8) (st:Str) (i j:Int) (t t1 t2:Tok) (oa ob:Obj) (na nb:Nat),u=.ref a/\s.heap.get? a=am oa/\oa.cls=.type "tuple"/\oa.data=.seq #[.str st t,.ref b] na/\s.heap.get? b=am ob/\ob.cls=.type "tuple"/\ob.data=.seq #[.int i t1,.int j t2] nb:=by
 obtain⟨st,i,j,rfl⟩:=MM hx;cases hv with
 | @tup p vs _ e r=>
 cases ru;cases r with
 | cons r1 r2=>
 cases r1;cases r2 with
 | cons r2 r3=>
 cases r3;cases r2 with
 | @tup b ws _ e2 r4=>
 cases r4 with
 | cons r4 r5=>
 cases r4;cases r5 with
 | cons r5 r6=>
 cases r6;cases r5;obtain⟨au,rv,⟨o,h1,h2,n,h3⟩,_⟩:=I.tuple (dJ.of (K:=X.K) e);obtain⟨dr,rv2,⟨o2,k1,k2,n2,k3⟩,_⟩:=I.tuple (dJ.of (K:=X.K) e2);cases rv with
 | cons q1 q2=>
 cases q2 with
 | cons q2 q3=>
 cases q3;cases rv2 with
 | cons m1 m2=>
 cases m2 with
 | cons m2 m3=>
 cases m3;obtain⟨t,rfl⟩:=q1;cases q2;obtain⟨t1,rfl⟩:=m1;obtain⟨t2,rfl⟩:=m2;exact⟨p,b,st,i,j,t,t1,t2,o,o2,n,n2,rfl,h1,h2,h3,k1,k2,k3⟩
end
theorem Zd{a' b':f8}{st uB:Str}{i j i' j':Int}{t2 t' ē đ:Tok}{oa ob ZV Ě:Obj}{na nb ķ Ć:Nat}(hu:A.units+1 < xz)
  (h1:s.heap.get? a=am oa) (h3:oa.data=.seq #[.str st t,.ref b] na) (k1:s.heap.get? b=am ob) (k2:ob.cls=.type "tuple") (k3:ob.data=.seq #[.int i t1,.int j t2] nb)
  (hE:s.heap.get? a'=am ZV) (U7:ZV.data=.seq #[.str uB t',.ref b'] ķ) (Ŕ:s.heap.get? b'=am Ě) (œ:Ě.cls=.type "tuple") (Œ:Ě.data=.seq #[.int i' ē,.int j' đ] Ć)
  {C:Bool->ii->Prop} (hC:∀b,C b s):im (lc prog w) A (keyLt' (tuples' true) (.ref a) (.ref a')) C (λ_ _=>False) s:=by
 refine PySem.W.kat_lt h1 h3 hE U7 (Gf (DR.str_str st t uB t' prog w _ _ (PySem.W.kat_go (λ_=>PySem.W.kat_yes ?_) λ_=>PySem.W.kat_no ?_)))
 ·refine Gf ?_;have hT:s.heap.IsTuple b #[.int i t1,.int j t2]:=⟨ob,k1,k2,nb,k3⟩;have Ł:s.heap.IsTuple b' #[.int i' ē,.int j' đ]:=⟨Ě,Ŕ,œ,Ć,Œ⟩;have go:∀e,PySem.W.KatGo prog w A true (decide ((#[Bp st t,.ref b]:Array db).size < (#[Bp uB t',.ref b']:Array db).size)) C (.ref b) (.ref b') [] 1 e s:=λe=>PySem.W.kat_go (λ_=>PySem.W.kat_yes (PySem.W.kat_nil (hC _))) λ_=>PySem.W.kat_no (PySem.W.kat_one _ _ (HT.Mj hT Ł (.cons i t1 (.cons j t2 .nil)) (.cons i' ē (.cons j' đ .nil)) ∅ (hC _)));by_cases c:b=b'
  ·subst c;exact Gn (.ref b) prog w _ _ (go _)
  ·refine F8 c (Ga (e:=λk=>if k=0 then i==i' else j==j') hT Ł ∅ λk g1 g2=>?_) prog w _ _ (go _);have:k=0\/k=1:=by simp at g1;omega
   rcases this with rfl | rfl
   ·exact En i t1 i' ē
   ·exact En j t2 j' đ
 ·exact oneLt_str (hC _)
section
def abh(K:Ab):O V->Hp->VK->Prop:=λxs H Q=>∃(p:f8) (vs:O V) (l:O PV),xs=[.ref p]/\eI K H p vs/\aG K [] H vs l/\l.length < 64/\l.all sC=true/\∀m:O PV,m.Perm l->∀ws,aG K [] H ws m->jR H (.lst ws) Q
def Tz{vs:O V}{out:O db}(r:Vals vs us)(v:aG K [] H vs l)(p:out.Perm us):∃ws m,Vals ws out/\aG K [] H ws m/\m.Perm l:=by
 induction p generalizing vs l with
 | nil=>cases r;cases v;exact⟨[],[],.nil,.nil,.refl _⟩
 | cons x p ih=>
  cases r with
  | cons r1 r2=>
  cases v with
  | cons v1 v2=>
  obtain⟨ws,m,a,b,c⟩:=ih r2 v2;exact⟨_::ws,_::m,.cons r1 a,.cons v1 b,.cons _ c⟩
 | swap x y l'=>
  cases r with
  | cons r1 r2=>
  cases r2 with
  | cons r2 r3=>
  cases v with
  | cons v1 v2=>
  cases v2 with
  | cons v2 v3=>exact⟨_::_::_,_::_::_,.cons r2 (.cons r1 r3),.cons v2 (.cons v1 v3),.swap _ _ _⟩
 | trans p1 p2 O2 UR=>
  obtain⟨ws,m,a,b,c⟩:=UR r v;obtain⟨sT,m',a',b',c'⟩:=O2 a b;exact⟨sT,m',a',b',c'.trans c⟩
theorem Nx(hK:X.K=K)(hu:X.A.units+200 < xz):cm X (.builtin "sorted") (abh K):=by
 subst hK;intro Z s σ H xs us Q I r h;obtain⟨p,vs,l,rfl,hq,hv,Ď,hd,q⟩:=h;obtain⟨u,rfl,rx⟩:=vals1 r;cases rx;obtain⟨au,r',pl,hz⟩:=I.list hq;have hl:=r'.length;have U0:=hv.length;have el:∀i,i < au.length->∃(a b:f8) (st:Str) (i1 j1:Int) (t t1 t2:Tok) (oa ob:Obj) (na nb:Nat),au.getD i AY=.ref a/\s.heap.get? a=am oa/\oa.cls=.type "tuple"/\oa.data=.seq #[.str st t,.ref b] na/\s.heap.get? b=am ob/\ob.cls=.type "tuple"/\ob.data=.seq #[.int i1 t1,.int j1 t2] nb:=λi hi=>by
  have e1:vs[i]?=am vs[i]:=Ad ∅;obtain⟨x,ex,vx⟩:=hv.agm e1;have hx:=Df.mp hd x (AM ex);have ru:RelV vs[i] (au.getD i AY):=by
   obtain⟨u,hu1,hu2⟩:=Vals.get r' e1;rw[Ae,hu1];exact hu2
  exact Zf I vx ru hx
 refine W8 (κ:=tuples' true) pl.isList ∅ (λh2 h' kp=>?_) (λh' kp i j hi hj C hC=>?_) λout hp=>?_
 ·have ý:∀l:O db,(∀v∈l,∃(a:f8) (x:db) (st:Str) (t:Tok) (oa:Obj) (na:Nat),v=.ref a/\h'.get? a=am oa/\oa.cls=.type "tuple"/\oa.data=.seq #[.str st t,x] na)->∃fs,PySem.W.KatTups h' l fs/\fs.length=l.length/\∀v∈fs,∃st t,v=Bp st t:=by
   intro l
   induction l with
   | nil=>intro _;exact⟨[],trivial,rfl,by simp⟩
   | cons v l ih=>
    intro hl;obtain⟨fs,f1,f2,f3⟩:=ih λy hy=>hl y (.tail _ hy);obtain⟨a,x,st,t,oa,na,rfl,g1,g2,g3⟩:=hl v (.head _);refine⟨.str st t::fs,PySem.W.KatTups.cons g1 g2 g3 rfl f1,by simp[f2],λy hy=>?_⟩;rcases Aw.mp hy with rfl | hy
    ·exact⟨st,t,rfl⟩
    ·exact f3 y hy
  obtain⟨fs,f1,f2,f3⟩:=ý au λv hv=>by
   obtain⟨i,hi,rfl⟩:=Ee hv;obtain⟨a,b,st,i1,j1,t,t1,t2,oa,ob,na,nb,e,h1,h2,h3,_⟩:=el i hi;rw[Ae,Ad hi]at e;exact⟨a,.ref b,st,t,oa,na,e,kp _ _ h1,h2,h3⟩
  refine PySem.W.kat_kind (T:=.type "str") f1 ∅ (λv hv=>?_) ⋯ ⟨rfl,rfl⟩;obtain⟨st,t,rfl⟩:=f3 v hv;exact PySem.W.Looks.now
 ·obtain⟨a,b,st,i1,j1,t,t1,t2,oa,ob,na,nb,e,h1,h2,h3,k1,k2,k3⟩:=el i hi;obtain⟨a',b',uB,i1',j1',t',ē,đ,ZV,Ě,ķ,Ć,e',hE,uI,U7,Ŕ,œ,Œ⟩:=el j hj;rw[e,e'];exact Zd (s:={s with heap:=h'}) (by show X.A.units+1+1+1 < _;omega) (kp _ _ h1) h3 (kp _ _ k1) k2 k3 (kp _ _ hE) U7 (kp _ _ Ŕ) œ Œ hC
 ·obtain⟨ws,m,a1,a2,a3⟩:=Tz r' hv hp;obtain⟨e,he⟩:=sortedAll_at s.heap au out.toArray;refine⟨.ref (s.heap.objs.size+1),_,I.laid (t':=s.toks) (λ_ _=>sortedAll_old) (Du _) (show bh X.prog X.w _ _ _ (.lst ws) from⟨?_,out,e,a1,he⟩),rfl,(q m a3 ws a2).at _ (I.a8.fresh (Du _))⟩;rw[a2.length,a3.length_eq];rw[<- U0];exact hz
def SK(l:O PV):W (O PV):=.e6 (l.length < 64/\l.all sC=true) (.any λm=>m.Perm l)
def Yn(hK:X.K=K)(hu:X.A.units+200 < xz)(hg:Gl X "sorted")(hm:X.mg "sorted"=ce)(ha:R4 X K fs e wl)(he:‹fR X e []›)(dg:‹kJ X pos []›):LF X K fs (.Call (.Name "sorted" p) [e] [] pos) (.bind wl SK):=
 ⟨PE.imp (f7 (Nx hK hu) hg hm boot_sorted (aX ha.p bW he) ⋯ ⋯ he dg) λσ H Q ⟨sr,q⟩=>⟨sr,wl.mono (λl q1 u1 H1 g1 s1 _ v1=>by
  obtain⟨⟨c1,c2⟩,q2⟩:=q1;obtain⟨a,vs,rfl,h1,r1⟩:=v1 H1 .refl s1;exact⟨a,vs,l,rfl,h1,r1,c1,c2,λm hm ws hw=>yC g1 s1 hw (q2 m hm)⟩) q⟩⟩
end
end
end FL
variable{x z:Bz}{ts:O Bz}{t3:Gi}
namespace FL
section
variable[bU]
variable{K:Ab}
structure NK(K:Ab)(a:f8)(ts:List Str):Prop where
 ex:∃(o:Obj) (au:Array db) (n:Nat),K.lookup a=am o/\o.cls=.type "tuple"/\o.data=.seq au n/\au.size<=sizeLine/\Vals (ts.map V.str) au.toList
 tn:∃o:Obj,K.lookup a=am o/\o.cls=.type "tuple"/\o.dict=ce
def tup3K{t2:Tok}(h:K.lookup a=am ⟨.type "tuple",ce,.seq #[.str x t1,.str y t2,.str z t3] n,Qw⟩):NK K a [x,y,z]:=⟨⟨_,_,_,h,rfl,rfl,bx (by show 3<=_;decide),.cons ⟨_,rfl⟩ (.cons ⟨_,rfl⟩ (.cons ⟨_,rfl⟩ .nil))⟩,_,h,rfl,rfl⟩
section
theorem zK(H:Hp):∀ts:O Str,aG K [] H (ts.map V.str) (ts.map PV.str)
 | []=>.nil
 | t::ts=>.cons (.str t) (zK H ts)
def afM(hK:X.K=K)(hm:X.mg x=am (.ref a))(T:NK K a ts)(hg:‹Gl X x›)(hd: ~~~(gK x)):wM X K fs tg (.Name x pos) (.ret (ts.map PV.str)):=⟨by
 subst hK;intro Z s σ H R I ⟨sr,q⟩;have sq:∀H',dJ X.K H' a (ts.map V.str):=λ_=>.inr T.ex;refine bV (pS hg hm (v:=.ref a) rfl hd Z s σ H (λu H1=>u=.ref a/\H1=H) I ⟨rfl,rfl⟩) λv s1 ⟨x,H1,I1,r1,e1,e2⟩=>?_;subst e1;subst e2;cases r1;obtain⟨au,rv,pl,hz⟩:=I1.tuple (sq _);have jf:JF X.K H1 (Itt X.K a) (ts.map PV.str):=⟨by rw[Ah]at hz ⊢;exact hz,λH' t=>by
  have e2:=zK (K:=X.K) H' ts;refine⟨λi p hp=>?_,_,sq H',by rw[e2.length];exact Ak _⟩;obtain⟨v,h3,h4⟩:=e2.get hp;refine⟨⟨_,v,sq H',h3⟩,λx H3 y=>?_⟩;obtain⟨rfl,y⟩:=y;have:=y _ (sq _);rw[h3]at this;cases this;exact⟨i5.refl _,h4⟩⟩
 refine Dr (show s1.heap.IsTuple a au.toArray from pl) ?_;refine⟨s1.heap.objs.size,[s1.heap.objs.size],_,_,H1,rfl,I1.kept (t':=s1.toks) λb o e=>Ag _ e,uW a _,⟨_,Ao _ rfl,rfl,rfl⟩,λb hb=>?_,q _ H1 .refl sr jf⟩;have e:b=s1.heap.objs.size:=by simpa using hb
 subst e;exact I1.xT (Ak _) (I1.a8.fresh (Ak _))⟩
end
section
variable{a:r9}
def aeo(hK:X.K=K)(hu:X.A.units+200 < xz){ad:f8}(ha:EF X K fs a wa)(hm:X.mg x=am (.ref ad))(T:NK K ad ts)(hg:‹Gl X x›)(hd: ~~~(gK x))(hk:‹xL .In (.Name x p)=false›) :
  TF X K fs (.Compare a [.In] [.Name x p] pos) (.bind wa λv=>uq false v (ts.map PV.str)):=⟨PT.imp (uC (TZ K hK hu) ha.p (pS hg hm (v:=.ref ad) rfl hd) hk) λσ H Q ⟨sr,q⟩=>⟨sr,wa.mono (λv q1 u1 H1 g1 s1 v1=>⟨ad,_,_,v,rfl,.inr (.inr T.ex),zK H1 ts,v1,q1.1,_,rfl,q1.2 H1 g1 s1⟩) q⟩⟩
end
end
section
variable[bU]
variable{K:Ab}
section
variable{rest:O ut}{S T T2:Type}{hd:f8->S->br}{s0:S}{wt:PV->W T2}{dh:f8->S->T2->br}{k:S->W T}{out:T->End}{x:Bool}
def XO(sr:aU K H σ fs)(hs:fs[i]?=am (am (.ol (am a) l))):∃ws,H a=am (.lst ws)/\aG K [] H ws l:=by
 obtain⟨u,_,⟨v,e,_⟩ | ⟨b,_,z,ws,q1,q2⟩⟩:=sr.at' i _ hs
 ·cases e
 ·cases z a rfl;exact⟨ws,q1,q2⟩
theorem SF.akx(i:Nat){f:PV->S->W S}{wb:T2->S->W S}(hs:fs[i]?=am (am (.ol q0 l)))(hK:X.K=K)(hN:X.N[i]?=am y)(hv:ye X.env.scope y)(hp:Db (lc X.prog X.w) X.A X.env X.xe)(hc:X.calm=true)
  (hl:∀a,i7 (fs.set i (am (.ol (am a) l))) (hd a s0)) (ī:∀a s,(hd a s)[i]?=am (am (.ol (am a) l))) (hg:∀a s,GF X K (hd a s) tg is wt (dh a s)) (hf:∀p s,f p s=.bind (wt p) λt=>wb t s)
  (hb:∀a s t,SF X K false (dh a s t) body (wb t s) λs'=>.nc (hd a s')) (hr:∀a s,SF X K x ((hd a s).set i (am (.ol ce l))) rest (k s) out) (ĩ: ~~~(gK y)) (g9: ~~~(zk y)) (ś:∀x,foldedSetIterable (.Name y p) X.env x=pure x:=by intro _;rfl) :
  SF X K x fs (.For tg (.Name y p) body [] pos::rest) (.bind (bS l s0 f) k) out:=by
 refine SF.step (L3 (g:=λv σ H Q=>∃a s,fG K (hd a s) is wt (dh a s) v σ H Q) (tb:=λD σ H=>∃a s t,fS K false (dh a s t) (wb t s) (λs'=>.nc (hd a s')) D σ H) hp hc (Tv (K:=K) (hK:=hK) (dm hN hv ĩ g9)) (λZ s σ H v u Q I r ⟨a,s1,q⟩=>(hg a s1).p Z s σ H v u Q I r q) (λZ s σ H D I ⟨a,s1,t1,q⟩=>(hb a s1 t1).p Z s σ H D I q) ś) λD σ H ⟨sr,q1⟩=>?_;obtain⟨a,ws,e1,h1,r1⟩:=dN sr hs;obtain⟨s1,g1⟩:=iM (t':=.ol (am a) l) sr hs rfl (by simp) e1 (λ_ _ _ h=>h) λ_=>⟨λb z=>Option.some.inj z,ws,h1,r1⟩;refine⟨_,e1,a,rfl,⟨ws,.inl (.inl h1)⟩,?_⟩;refine⟨λi' m σ' H'=>∃s,aU K H' σ' (hd a s)/\c6 σ fs H σ' (hd a s) H'/\m=l.length-i'/\i'<=l.length/\(bS (l.drop i') s f).run λs'=>(k s').run λt=>bZ K x σ fs H D (out t),⟨l.length,s0,s1.le (hl a),g1.trans (c6.le s1 (hl a)),by simp,A9 _,by simpa using q1⟩,?_⟩;rintro i' m σ2 H2 ⟨s,s2,g2,rfl,hi,q2⟩;obtain⟨us,h2,r2⟩:=XO s2 (ī a s);have sq:eI K H2 a us:=.inl (.inl h2);by_cases gD:i' < l.length
 ·obtain⟨v,h3,h4⟩:=r2.get (Ad gD);rw[Bv gD]at q2;refine .inr ⟨⟨us,v,sq,h3⟩,λσ3 H3=>∃s',aU K H3 σ3 (hd a s')/\c6 σ fs H σ3 (hd a s') H3/\(bS (l.drop (i'+1)) s' f).run λs'=>(k s').run λt=>bZ K x σ fs H D (out t),λσ3 H3 ⟨s',a1,a2,a4⟩=>⟨l.length-(i'+1),by omega,s',a1,a2,rfl,gD,a4⟩,λv2 H3 y=>?_⟩;obtain⟨rfl,y⟩:=y;have:=y us sq;rw[h3]at this;cases this;have q2:(f l[i'] s).run λs'=>(bS (l.drop (i'+1)) s' f).run λs'=>(k s').run λt=>bZ K x σ fs H D (out t):=q2;rw[hf]at q2;refine⟨a,s,_,s2,h4,(wt l[i']).mono (λt q4 us g4 s4=>?_) q2⟩;refine⟨a,s,t,s4,(wb t s).mono (λs' q5 σ5 H5 g5 s5=>?_) q4⟩;exact⟨λ_=>⟨s',s5,(g2.trans g4).trans g5,q5⟩,s',s5,(g2.trans g4).trans g5,q5⟩
 ·have e:i'=l.length:=by omega
  subst e;rw[DZ]at q2;obtain⟨a',ı,e2,uI,r2'⟩:=dN s2 (ī a s);obtain⟨s3,g3⟩:=iM (t':=.ol ce l) s2 (ī a s) rfl (by simp) e2 (λ_ _ _ h=>h) λ_=>⟨by simp,ı,uI,r2'⟩;exact .inl ⟨⟨us,sq,by rw[r2.length];exact Ak _⟩,_,k s,hr a s,s3,(k s).mono (λt q3=>q3.go (g2.trans g3) sr s3) q2⟩
def SF.agt(i:Nat){f:PV->S->W S}(hs:fs[i]?=am (am (.ol q0 l)))(hK:X.K=K)(hN:X.N[i]?=am y)(hv:ye X.env.scope y)(hp:Db (lc X.prog X.w) X.A X.env X.xe)(hc:X.calm=true)
  (hl:∀a,i7 (fs.set i (am (.ol (am a) l))) (hd a s0)) (ī:∀a s,(hd a s)[i]?=am (am (.ol (am a) l))) (hg:PG X tg (e7 j))
  (hb:∀a s p,SF X K false ((hd a s).set j (am (.val p))) body (f p s) λs'=>.nc (hd a s')) (hr:∀a s,SF X K x ((hd a s).set i (am (.ol ce l))) rest (k s) out) (ĩ: ~~~(gK y)) (g9: ~~~(zk y)) (ś:∀x,foldedSetIterable (.Name y p) X.env x=pure x:=by intro _;rfl) :
  SF X K x fs (.For tg (.Name y p) body [] pos::rest) (.bind (bS l s0 f) k) out:=SF.akx (wt:=.ret) (wb:=λp s=>f p s) i hs hK hN hv hp hc hl ī (λa s=>g_1 hg) (λ_ _=>rfl) hb hr ĩ g9 ś
end
end
end FL
variable{kp cp:Co}{kc:Nat}
namespace L2
section
variable{R:Result->ii->Prop}{I S:f8}{wr:O f8}{P:Nat->db->Prop}{St:Nat->sw->Prop}
abbrev dfN:O (Str×db):=[(B7 "default",.none)]
abbrev ag6(l:O db)(c:Nat):Obj:={cls:=.type "list",dict:=ce,data:=.seq l.toArray c,slots:=#[]}
def YX{n:Nat}(h:n<=2):n<=sizeLine:=BG h ⋯
theorem QC(W:Walks prog w A.in1 I fp wr n P St)(bt:Nat->Nat->Bool)(akf:CmpOf prog w A.in1 .Lt P bt)(hSf:S∉fp) :
  ∀(k j:Nat) (s:ii) (l:O db) (c:Nat),n-j=k->j<=n->St j s.heap->(j=0/\l=[]\/∃i v,j=i+1/\l=[v,v]/\P (argBest bt i) v)->s.heap.get? S=am (ag6 l c)->
  (∀v h' tk,(n=0/\v=.none\/0 < n/\P (argBest bt (n-1)) v)->(∀b o,b∉wr->b≠S->s.heap.get? b=am o->h'.get? b=am o)->R (.ok (.ret v)) {s with heap:=h',toks:=tk})->
  GT (lc prog w) A (.builtin "min.loop" ⟨[.ref I,.none,.ref S],dfN⟩) R s:=by
 have hSw:S∉wr:=λh=>hSf (W.sub _ h);have hn:(toString "min"++toString ".loop":String)="min.loop":=by decide
 intro k
 induction k with
 | zero=>
  intro j s l c hk hj nA hl hS hR;have e:j=n:=by omega
  subst e;refine wE F.entry_min_loop ?_;rw[Cf CM _];refine Aa (BK hS rfl (Aa (Er (W.done s _ _ nA λh' tk Ww=>?_))));have û:=Ww S _ hSw hS;rcases hl with⟨e0,rfl⟩ | ⟨i,v,rfl,rfl,hv⟩
  ·exact Aa (C7 (Af (hR _ h' tk (.inl ⟨e0,rfl⟩) λb o hb _ z=>Ww b o hb z)))
  ·refine Aa (CY û rfl (Aa (CT (Af ?_))) (YX (Ak _)) (A9 _));exact hR v _ tk (.inr ⟨Nat.succ_pos _,hv⟩) λb o hb U5 z=>(BP _ _ (BU U5)).trans (Ww b o hb z)
 | succ k ih=>
  intro j s l c hk hj nA hl hS hR;have gD:j < n:=by omega
  refine wE F.entry_min_loop ?_;rw[Cf CM _];refine Aa (BK hS rfl (Aa (Er (W.item j s _ _ gD nA λv h' tk hP afY Ww=>?_))));have û:=Ww S _ hSw hS;have Z6:∀(f:Obj->Obj) b o,b∉wr->b≠S->s.heap.get? b=am o->(h'.update S f).get? b=am o:=λf b o hb U5 z=>(BP _ _ (BU U5)).trans (Ww b o hb z);have frU:∀(f:Obj->Obj),St (j+1) (h'.update S f):=λf=>W.frame _ _ _ afY λb hbf o e=>(BP _ _ (λh:S=b=>hSf (by rw[h];exact hbf))).trans e;refine Aa (Af ?_);rcases hl with⟨rfl,rfl⟩ | ⟨i,vb,rfl,rfl,hb⟩
  ·refine Aa (CY û rfl ?_ (A9 _) (Nat.le_succ_of_le (YX (Ak _))));rw[hn];refine Af ⟨wS CM _,ih 1 _ [v,v] _ ∅ gD (frU _) (.inr ⟨0,v,rfl,rfl,hP⟩) (BV _ û rfl) λv' h2 Đ ĭ ñ=>?_⟩;exact hR v' h2 Đ ĭ λb o hb U5 z=>ñ b o hb U5 (Z6 _ b o hb U5 z)
  ·refine Aa (Er (Bl (Aa (akf (i+1) (argBest bt i) v vb _ _ _ hP hb ?_))));refine Aa (Bl (Dy (Aa (CT (Af ?_)))));cases ŀ:bt (i+1) (argBest bt i) with
   | true=>
    refine Aa (CY û rfl (Aa (CT ?_)) (YX (Ak _)) (Nat.le_succ_of_le (YX (Ak _))));rw[hn];refine Af ⟨wS CM _,ih (i+2) _ [v,v] _ ∅ gD (frU _) (.inr ⟨i+1,v,rfl,rfl,by simp only[argBest,ŀ,if_true];exact hP⟩) (BV _ û rfl) λv' h2 Đ ĭ ñ=>?_⟩;exact hR v' h2 Đ ĭ λb o hb U5 z=>ñ b o hb U5 (Z6 _ b o hb U5 z)
   | false=>
    refine Aa (CT ?_);rw[hn];refine Af ⟨wS CM _,ih (i+2) _ [vb,vb] c ∅ gD afY (.inr ⟨i+1,vb,rfl,rfl,by simp only[argBest,ŀ];exact hb⟩) û λv' h2 Đ ĭ ñ=>?_⟩;exact hR v' h2 Đ ĭ λb o hb U5 z=>ñ b o hb U5 (Ww b o hb z)
def RJ(a:db):argsOk "min" ⟨[a],dfN⟩:=by unfold argsOk;kernel_rfl
def Yf(ns:O Int)(t:Tok):db:=if ns=[] then .none else .int (GA ns) t
theorem Mf{l:f8}(hh:A.handled=ce)(hl:s.heap.IsList l vs.toArray)(hi:zn vs ns)
  (h:∀(h':sw) (t:Tok) tk,(∀b o,s.heap.get? b=am o->h'.get? b=am o)->Q (Yf ns t) {s with heap:=h',toks:=tk}):im (lc prog w) A (call (.builtin "min") [.ref l] dfN) Q E s:=by
 obtain⟨xs,e⟩:=hi.allInts.items;have MU:ns=xs.toList.map (·.1):=by rw[<- hi.numsOf,<- nums_intItems,<- e]
 rw[e]at hl;have hn:(toString "min"++toString ".loop":String)="min.loop":=by decide
 refine kmb_tree F.kind_min F.plain_min F.entry_min (RJ _) ?_;refine Aa (CS (show Builtin.Builtins.bindParams "min" ["key","default"] 0 ⟨[],dfN⟩=pure [ce,am .none] from rfl) ?_);refine Aa (Af ?_);refine Aa (iter_intList hl λs₂ e2 st hfp hlI=>?_);subst e2;refine Aa (AJ ?_);rw[hn];have W:=Walks.list (A:=A.in1) (prog:=prog) (w:=w) hh s.heap.objs.size l hlI (intItems xs);have hsz:(intItems xs).size=ns.length:=by rw[MU];simp[intItems]
 refine Af ⟨wS CM _,QC W _ (CmpOf.ints_lt (numAt xs) (λ_ _=>intItems_at)) (λhm=>A5 _ (hfp _ hm)) _ 0 _ [] 0 rfl (A9 _) (W.frame _ _ _ st λb _ o e=>Ag _ e) (.inl ⟨rfl,rfl⟩) (Ao _ rfl) λv h' tk hP hk=>?_⟩;have kp:∀b o,s.heap.get? b=am o->h'.get? b=am o:=λb o z=>by
  have h1:=Aq z;refine hk b o (λy=>AA h1 (AR.mp y)) (λy=>?_) (Ag _ (Ag _ z));rw[y,Ce]at h1;exact absurd h1 (Nat.not_lt_of_le (Du _))
 rcases hP with⟨h0,rfl⟩ | ⟨h0,hP⟩
 ·have e0:ns=[]:=Bj ∅;have:=h h' 0 tk kp;rw[Yf,if_pos e0]at this;exact this
 ·obtain⟨t,rfl⟩:=intItems_at hP;have e0:ns≠[]:=λz=>by rw[hsz,z]at h0;exact A5 _ h0
  have h2:=h h' t tk kp;rw[Yf,if_neg e0,<- Yg MU e0]at h2;have ez:(intItems xs).size=xs.size:=by simp[intItems]
  rw[ez];exact h2
end
def aeX(K:Ab):O V->Hp->VK->Prop:=λxs H Q=>∃(p:f8) (ns:O Int),xs=[.ref p]/\eI K H p (ns.map V.int)/\Q (if ns=[] then .aJ else .int (GA ns)) H
def XE{t:TA}(K:Ab)(hK:X.K=K)(hc:X.calm=true)(hg:Gl X "min")(hm:X.mg "min"=ce)(ha:PA X [e] t)(he:Ev pos (nn [e] X.env)=(false,pr e X.env)::Ev pos (nn [] X.env))(hp:(Ev pos (nn [e] X.env)).any (·.1)=false) :
  PE X (.Call (.Name "min" p) [e] [⟨am (B7 "default"),.Constant .none kc cp,kp⟩] pos) (λσ H Q=>t σ H λvs H'=>aeX K vs H' Q):=by
 subst hK;intro Z s σ H Q I h;refine Bf (gB I hg hm boot_min ?_ ⋯ ⋯);refine callWith_kw (bV (ha pos Z s σ H _ I h) λus s1 ⟨vs,H1,I1,r1,q1⟩=>?_) he hp;refine kws_cons (bV (TH Z s1 σ H1 (λv H2=>v=.aJ/\H2=H1) I1 ⟨rfl,rfl⟩) λv s2 ⟨x,H2,I2,r2,e1,e2⟩=>kws_nil ?_);subst e1 e2;cases r2;obtain⟨a,ns,rfl,hq,q⟩:=q1;obtain⟨u,rfl,rx⟩:=vals1 r1;cases rx;obtain⟨au,r',pl,hz⟩:=I2.list hq;refine Mf (I2.ok.hd hc) pl.isList (intsAre_of r') λh' t tk hk=>?_;unfold Yf;by_cases c:ns=[]
 ·rw[if_pos c]at q ⊢;exact⟨.aJ,_,I2.kept (t':=tk) hk,rfl,q⟩
 ·rw[if_neg c]at q ⊢;exact⟨.int _,_,I2.kept (t':=tk) hk,⟨t,rfl⟩,q⟩
end L2
namespace FL
section
variable[bU]
def OP(l:O PV):W PV:=.bind (qA l) λns=>.ret (if ns=[] then .aJ else .int (GA ns))
def acY{K:Ab}(hK:X.K=K)(hc:X.calm=true)(hg:Gl X "min")(hm:X.mg "min"=ce)(ha:R4 X K fs e wl)(hs:‹fR X e []›)(he:‹Ev pos (nn [e] X.env)=(false,pr e X.env)::Ev pos (nn [] X.env)›)(hp:‹(Ev pos (nn [e] X.env)).any (·.1)=false›) :
  EF X K fs (.Call (.Name "min" p) [e] [⟨am (B7 "default"),.Constant .none kc cp,kp⟩] pos) (.bind wl OP):=⟨PE.imp (XE K hK hc hg hm (aX ha.p bW hs) he hp) λσ H Q ⟨sr,q⟩=>⟨sr,wl.mono (λl q1 u1 H1 g1 s1 _ v1=>by
 obtain⟨ns,el,q2⟩:=iE (l:=l) q1;obtain⟨a,vs,rfl,h1,r1⟩:=v1 H1 .refl s1;rw[el]at r1;have:=jw r1;subst this;refine⟨a,ns,rfl,h1,?_⟩;by_cases c:ns=[]
 ·simp only[if_pos c]at q2 ⊢;exact q2 _ H1 g1 s1 .aJ
 ·simp only[if_neg c]at q2 ⊢;exact q2 _ H1 g1 s1 (.int _)) q⟩⟩
end
end FL
variable{q:Bz}
namespace L2
def ix3(x y z q:Str):Nat:=if x=q then 0 else if y=q then 1 else 2
def rZ{t2:Tok}:Meets (BT.«tuple.index» ⟨[.ref a,.str q t],[]⟩) (λ_ R s=>(∃o,s.heap.get? a=am o/\o.data=.seq #[.str x t1,.str y t2,.str z t3] n)/\q∈[x,y,z]/\∀u,R (.ok (.ret (.int (ix3 x y z q:Nat) u))) {s with toks:=s.toks+1}):=by
 refine .of_wp λprog w A R s ⟨⟨o,ho,hd⟩,hq,h⟩=>?_;refine Aa (Af ?_);refine Aa (Aa (BK ho hd (Af ?_)));refine Aa (Af ?_);refine Aa (Af ?_);refine Aa ?_;rw[Std.Legacy.Range.forIn_eq_forIn_range'];rw[show List.range' [:min #[Bp x t1,Bp y t2,Bp z t3].size #[Bp x t1,Bp y t2,Bp z t3].size].start [:min #[Bp x t1,Bp y t2,Bp z t3].size #[Bp x t1,Bp y t2,Bp z t3].size].size [:min #[Bp x t1,Bp y t2,Bp z t3].size #[Bp x t1,Bp y t2,Bp z t3].size].step=[0,1,2] from by simp only[Std.Legacy.Range.size,Aj,Ap,BN];decide];simp only[Cb,List.forIn_nil];refine Aa (Aa (DV ?_));have Ô:∀k:Nat,ix3 x y z q=k->∃v,FN (.ret (.int (k:Int) s.toks))=FN (.ret v)/\R (.ok (.ret v)) {s with toks:=s.toks+1}:=λk e=>⟨_,rfl,by have:=h s.toks;rw[e]at this;exact this⟩;by_cases c1:x=q
 ·subst c1;rw[decide_eq_true rfl,if_pos rfl];exact Aa (Aa (Aa (wpAny_fresh (Af (Af (Af (Af (Af (Ô 0 (if_pos rfl))))))))))
 ·rw[decide_eq_false c1,if_neg ⋯];refine Af (Aa (Aa (DV ?_)));by_cases c2:y=q
  ·subst c2;rw[decide_eq_true rfl,if_pos rfl];exact Aa (Aa (Aa (wpAny_fresh (Af (Af (Af (Af (Af (Ô 1 (by rw[ix3,if_neg c1,if_pos rfl]))))))))))
  ·rw[decide_eq_false c2,if_neg ⋯];refine Af (Aa (Aa (DV ?_)));have c3:z=q:=by simp at hq;rcases hq with e | e | e <;> first | exact absurd e.symm c1 | exact absurd e.symm c2 | exact e.symm
   subst c3;rw[decide_eq_true rfl,if_pos rfl];exact Aa (Aa (Aa (wpAny_fresh (Af (Af (Af (Af (Af (Ô 2 (by rw[ix3,if_neg c1,if_neg c2]))))))))))
def ae1(K:Ab):V->O V->Hp->VK->Prop:=λv vs H Q=>∃a x y z q,v=.ref a/\vs=[.str q]/\dJ K H a [.str x,.str y,.str z]/\q∈[x,y,z]/\Q (.int (ix3 x y z q:Nat)) H
def Yc(K:Ab)(hK:X.K=K):NU X "tuple.index" (ae1 K):=by
 subst hK;intro Z s σ H v vs u us Q I rx rv h;obtain⟨a,x,y,z,q,rfl,rfl,hq,hm,qq⟩:=h;cases rx;obtain⟨u,rfl,ru⟩:=rv.one;obtain⟨t,rfl⟩:=ru;obtain⟨au,r,pl,hz⟩:=I.tuple hq;obtain⟨o,ho,hc,n,hd⟩:=pl;cases r with
 | cons q1 r=>cases r with
  | cons q2 r=>cases r with
   | cons q3 r=>
    cases r;obtain⟨t1,rfl⟩:=q1;obtain⟨t2,rfl⟩:=q2;obtain⟨t3,rfl⟩:=q3;exact wT F.slot_tuple_index ⟨_,ho,hc⟩ F.entry_tuple_index (F.args_tuple_index_2 _ _) rZ ⟨⟨_,ho,hd⟩,hm,λu=>⟨.int _,H,I.tok _,⟨u,rfl⟩,qq⟩⟩
end L2
namespace FL
section
variable[bU]
def UU(ts:O Str):PV->W PV
 | .str q=>match ts with
  | [x,y,z]=>.e6 (q∈[x,y,z]) (.ret (.int (ix3 x y z q:Nat)))
  | _=>.fail
 | _=>.fail
def ac0{K:Ab}{w:W PV}{n:Str}{ad:f8}(hK:X.K=K)(he:EF X K fs e w)(hm:X.mg n=am (.ref ad))(T:NK K ad ts)(hg:‹Gl X n›)(hd: ~~~(gK n))
  (dz:‹pc (.Name n p) "index" X.env (pr (.Name n p) X.env)=pr (.Name n p) X.env›)
  (mI:‹Zy X bB [e]›)
  (dw:‹R5 Â bB›) (nA:‹fR X e []›) (du:‹kJ X bB []›) :
  EF X K fs (.Call (.Attribute (.Name n p) "index" Â) [e] [] bB) (.bind w (UU ts)):=
 ⟨PE.imp (oX K hK PySem.F.plainAttrs_tuple PySem.F.slot_tuple_index PySem.F.type_tuple_index (Yc K hK) (pS hg hm (v:=.ref ad) rfl hd) (aX he.p bW nA) dz mI dw nA du) λσ H Q ⟨sr,q⟩=>
  ⟨.inr (.inl ⟨rfl,T.tn⟩),sr,w.mono (λx q2 u2 H2 g2 s2 v2=>by
   cases v2 <;> first | exact q2.elim | skip
   match ts,T,q2 with
   | [x,y,z],T,q2=>exact⟨ad,x,y,z,_,rfl,rfl,.inr T.ex,q2.1,q2.2 _ H2 g2 s2 (.int _)⟩
   | [],_,q2=>exact q2.elim
   | [_],_,q2=>exact q2.elim
   | [_,_],_,q2=>exact q2.elim
   | _::_::_::_::_,_,q2=>exact q2.elim) q⟩⟩
end
section
variable[bU]
variable{K:Ab}
def zV(l:O PV):PV->W (O PV×PV)
 | .int k=>.bind (.OE (tB l.length k)) λj=>.bind (.OE l[j]?) λv=>.e6 (l.length<=sizeLine) (.ret (l.eraseIdx j,v))
 | _=>.fail
theorem aG.erase:∀{ws:O V}{l:O PV} (j:Nat),aG K [] H ws l->aG K [] H (ws.eraseIdx j) (l.eraseIdx j)
 | _,_,_,.nil=>by simp only[List.eraseIdx_nil];exact .nil
 | _,_,0,.cons _ t=>t
 | _,_,j+1,.cons r t=>by rw[CP,CP];exact .cons r (aG.erase j t)
section
variable{rest:O ut}{T:Type}{out:T->End}{x:Bool}
theorem SF.aji(i j:Nat){k:O PV×PV->W T}(hs:fs[i]?=am (am (.ol q0 l)))(ħ:j≠i)(hK:X.K=K)(hN:X.N[i]?=am y)(hv:ye X.env.scope y)(Ū:X.N.Nodup)(hj:X.N[j]?=am z)(hx:Loc X.env.scope z)(he:EF X K fs e we)(hr:∀t:O PV×PV,SF X K x ((fs.set i (am (.ol q0 t.1))).set j (am (.val t.2))) rest (k t) out)
  (hd: ~~~(gK y)) (g9: ~~~(zk y)) (dz:‹pc (.Name y p) "pop" X.env (pr (.Name y p) X.env)=pr (.Name y p) X.env›)
  (mI:‹Zy X bB [e]›)
  (dw:‹R5 Â bB›) (nA:‹fR X e []›) (du:‹kJ X bB []›)
  (ur:‹sB (.Call (.Attribute (.Name y p) "pop" Â) [e] [] bB) (am (.Name z p')) pos.line X.env=pure false›) (hf:Wm X z:=by first | exact .inl rfl | exact .inr rfl | assumption) :
  SF X K x fs (.Assign [.Name z p'] (.Call (.Attribute (.Name y p) "pop" Â) [e] [] bB) pos::rest) (.bind we λn=>.bind (zV l n) k) out:=
 SF.step (zR Ū hj hx (oX K hK BI Fz Fy Ue (dm hN hv hd g9) (aX he.p bW nA) dz mI dw nA du) ur hf) λD σ H ⟨sr,q⟩=>by
  obtain⟨a,ws,e1,h1,r1⟩:=dN sr hs;refine⟨_,e1,.inl ⟨rfl,_,eI.of h1⟩,sr,we.mono (λn q1 u H1 g1 s1 v1=>?_) q⟩;obtain⟨a',sT,xa,hE,Lv⟩:=dN s1 hs;rw[e1]at xa;cases xa;cases v1 with
  | int kk=>
   have q1:(ap (.OE (tB l.length kk)) λj=>.bind (.OE l[j]?) λv=>.e6 (l.length<=sizeLine) (.ret (l.eraseIdx j,v))).run λt=>(k t).run λt=>bZ K x σ fs H D (out t):=q1;cases hx:tB l.length kk with
   | none=>rw[hx]at q1;exact q1.elim
   | some m=>
   cases hv:l[m]? with
   | none=>rw[hx]at q1;simp only[GE,nw,hv]at q1;exact q1.elim
   | some v=>
   rw[hx]at q1;simp only[GE,nw,hv]at q1;obtain⟨hz,q1⟩:=q1;obtain⟨uu,hu,ru⟩:=Lv.get hv;obtain⟨h3,h4,h5,h6⟩:=G9 hx;have h9:(sizeLine:Int) < 2 ^ 63:=by decide
   refine⟨a,sT,kk,m,uu,rfl,rfl,hE,by omega,by omega,by rw[Lv.length];exact h3,hu,?_⟩;have sx:kI a H1 (upd H1 a (.lst (sT.eraseIdx m))):=λz o n hz=>by rw[aq n];exact hz
   obtain⟨s2,g2⟩:=iM (t':=.ol q0 (l.eraseIdx m)) s1 hs rfl (by simp) e1 sx λtk=>⟨λb hb=>by
    subst hb;obtain⟨u,e2,⟨v,e,_⟩ | ⟨b',e,z,_⟩⟩:=s1.at' i _ hs
    ·cases e
    ·rw[e2]at e1;cases e1;cases e;exact z b rfl,_,aD,aG.tk tk (aG.erase m Lv)⟩
   have s3:=s2.f6 (g2.vr s1 ru) j;exact⟨_,k _,hr (l.eraseIdx m,v),s3,(k _).mono (λt q2=>q2.go ((g1.f.trans g2).trans (c6.f6 s2 _ _ j)) sr s3) q1⟩
  | _=>exact q1.elim
end
end
section
variable[bU]
def jQ(ns:O Int):Prop:=∃g s c:Int,ns=[g,s,c]/\0<=g/\0<=s/\s < 2305843009213693951/\0<=c
def drawn(m:Int):W PV:=.any λv=>∃d:Int,v=.int d/\0<=d/\d < m
def cf:PV->W PV
 | .int m=>.e6 (0 < m/\m<=2000) (drawn m)
 | _=>.fail
end
section
variable[bU]
def vf{i j:Int}:of2 (aI g) (.int i) (.int j)=.ret (g i j):=Gc λQ=>⟨Dg,λq=>⟨rfl,q⟩⟩
def uD{C:Int->Int->Prop}{i j:Int}:of2 (aIc C g) (.int i) (.int j)=.e6 (C i j) (.ret (g i j)):=Gc λQ=>⟨λq=>⟨q.1,q.2.2⟩,λq=>⟨q.1,rfl,q.2⟩⟩
section
variable(i j:Int)(a:Bool)(x y:PV)(l m:O PV)(s t:Str)
@[simp] theorem v8:of2 Gy (.int i) (.int j)=.ret (.int (i-j)):=vf
@[simp] theorem HD:of2 iO (.int i) (.int j)=.e6 (wP i j) (.ret (.int (i*j))):=uD
@[simp] theorem akF:of2 oDiv (.int i) (.int j)=.e6 (RS i j) (.ret (.int (i / j))):=uD
@[simp] theorem Vt:of2 oMod (.int i) (.int j)=.e6 (0 < j) (.ret (.int (i % j))):=uD
@[simp] theorem Vq:of2 T5 (.int i) (.int j)=.e6 (Wq i j) (.ret (.int (i ^ j.toNat))):=uD
@[simp] theorem Kx:of2 oLt (.int i) (.int j)=.ret (.bl (decide (i < j))):=vf
@[simp] theorem agL:of2 oLe (.int i) (.int j)=.ret (.bl (decide (i<=j))):=vf
@[simp] theorem al7:of2 oGt (.int i) (.int j)=.ret (.bl (decide (j < i))):=vf
@[simp] theorem agM:of2 oGe (.int i) (.int j)=.ret (.bl (decide (j<=i))):=vf
def yV:of2 iP x y=.e6 (Nb x y) (.ret (.bl (jY x y))):=Gc λQ=>⟨λq=>⟨q.1,q.2.2⟩,λq=>⟨q.1,rfl,q.2⟩⟩
def Pg:of2 vg x y=.e6 (Nb x y) (.ret (.bl (!jY x y))):=Gc λQ=>⟨λq=>⟨q.1,q.2.2⟩,λq=>⟨q.1,rfl,q.2⟩⟩
@[simp] theorem mN:of2 pV x .aJ=.ret (.bl x.d4):=Gc λQ=>⟨Dg,λq=>⟨rfl,q⟩⟩
@[simp] theorem ah6:of2 yz x .aJ=.ret (.bl (!x.d4)):=Gc λQ=>⟨Dg,λq=>⟨rfl,q⟩⟩
def acU{c:Nat}(h:dC s.cps.toList i=am c):of2 T7 (.str s) (.int i)=.e6 (s.length<=sizeLine) (.ret (.str ⟨#[c]⟩)):=Gc λQ=>by
 show(s.length<=sizeLine/\match dC s.cps.toList i with | some c=>_/\_ | none=>False)↔_;rw[h];exact⟨λq=>⟨q.1,q.2.2⟩,λq=>⟨q.1,rfl,q.2⟩⟩
@[simp] theorem eV:addW (.int i) (.int j)=.ret (.int (i+j)):=(rfl)
@[simp] theorem Y1:addW (.str s) (.str t)=.e6 (s.length+t.length<=sizeLine) (.ret (.str (s++t))):=(rfl)
@[simp] theorem HH:addW (.tup l) (.tup m)=.e6 (l.length+m.length<=sizeLine) (.ret (.tup (l++m))):=(rfl)
@[simp] theorem pj:mx (.int i)=.ret (.int (-i)):=(rfl)
@[simp] theorem bG:asB (.bl a)=.ret a:=(rfl)
@[simp] theorem ad2(w:W PV):V0 (.bl true) w=w:=(rfl)
@[simp] theorem ad3(w:W PV):V0 (.bl false) w=.ret (.bl false):=(rfl)
@[simp] theorem Y0(w:W PV):Zp (.bl true) w=w:=(rfl)
@[simp] theorem ain(w:W PV):Zp (.bl false) w=.ret (.bl false):=(rfl)
@[simp] theorem fJ:i9 (.bl a)=.ret a:=(rfl)
@[simp] theorem ah5:i9 (.int i)=.ret (i != 0):=(rfl)
@[simp] theorem ah4:i9 .aJ=.ret false:=(rfl)
@[simp] theorem ah3:i9 (.tup l)=.ret (!l.isEmpty):=(rfl)
@[simp] theorem Pe:i9 (.cl l)=.ret (!l.isEmpty):=(rfl)
@[simp] theorem ax:az (.tup l)=.ret l:=(rfl)
@[simp] theorem bD:az (.cl l)=.ret l:=(rfl)
@[simp] theorem jz:GG (.cl l)=.ret l:=(rfl)
@[simp] theorem bQ:G8 l (.int i)=.OE (dC l i):=(rfl)
@[simp] theorem v9:GO l=.ret (.int l.length):=(rfl)
@[simp] theorem gF:fV l=.ret (.tup l):=(rfl)
@[simp] theorem HC:part (.int i)=.ret (am i):=(rfl)
@[simp] theorem fq:oS (.tup [x,y])=.ret (x,y):=(rfl)
@[simp] theorem acR(z u:PV):un4 (.tup [x,y,z,u])=.ret (x,y,z,u):=(rfl)
@[simp] theorem aij(k:Kd):nV k (.int i)=.ret (.bl (k.is (.int i))):=(rfl)
@[simp] theorem HG(k:Kd):nV k (.str s)=.ret (.bl (k.is (.str s))):=(rfl)
@[simp] theorem qL(k:Kd):nV k (.tup l)=.ret (.bl (k.is (.tup l))):=(rfl)
@[simp] theorem aik(k:Kd):nV k (.cl l)=.ret (.bl (k.is (.cl l))):=(rfl)
@[simp] theorem ail(k:Kd):nV k (.bl a)=.ret (.bl (k.is (.bl a))):=(rfl)
@[simp] theorem aii(k:Kd):nV k .aJ=.ret (.bl (k.is .aJ)):=(rfl)
@[simp] theorem hZ:rH fx [.tup l]=.ret (.int l.length):=Gc λQ=>⟨Dg,λq=>⟨rfl,q⟩⟩
@[simp] theorem jA:rH fx [.cl l]=.ret (.int l.length):=Gc λQ=>⟨Dg,λq=>⟨rfl,q⟩⟩
@[simp] theorem ah7:rH fx [.str s]=.e6 (s.length<=sizeLine) (.ret (.int s.length)):=Gc λQ=>⟨λq=>⟨q.1,q.2.2⟩,λq=>⟨q.1,rfl,q.2⟩⟩
@[simp] theorem acV:rH K2 [.int i]=.ret (.int (if i < 0 then -i else i)):=Gc λQ=>⟨Dg,λq=>⟨rfl,q⟩⟩
@[simp] theorem aim:rH NF [.int i]=.ret (.int i):=Gc λQ=>⟨Dg,λq=>⟨rfl,q⟩⟩
@[simp] theorem YZ:rH NF [.bl a]=.ret (.int (if a then 1 else 0)):=Gc λQ=>⟨Dg,λq=>⟨rfl,q⟩⟩
@[simp] theorem acT:rH RI [.int i,.int j]=.ret (.int (if j > i then j else i)):=Gc λQ=>⟨Dg,λq=>⟨rfl,q⟩⟩
@[simp] theorem Vu:rH Ij [.int i,.int j]=.ret (.int (if j < i then j else i)):=Gc λQ=>⟨Dg,λq=>⟨rfl,q⟩⟩
@[simp] theorem Vp(p q:Option Int):Xb (.tup l) p q=.ret (.tup (sN l p q)):=(rfl)
@[simp] theorem YY:SO (.tup l) ce ce (am (-1))=.ret (.tup l.reverse):=tz ⟨rfl,rfl,rfl⟩
@[simp] theorem hV:lO (.int j)=.e6 (okN 0 j) (.ret (gJ 0 j.toNat)):=(rfl)
@[simp] theorem Pf(k:Int):Ot (.int i) (.int j) (.int k)=.e6 (k = -1/\okN j i) (.ret (ox i (i-j).toNat)):=(rfl)
@[simp] theorem Vr:zT (l++[x])=.ret (l,x):=by unfold zT;simp
@[simp] theorem acS:Xk l (.int i)=.e6 (-(2 ^ 63)<=i/\i < 2 ^ 63/\l.length*i.toNat<=sizeLine) (.ret (An i.toNat l).flatten):=(rfl)
@[simp] theorem aid:Kd.is .int (.int i)=true:=(rfl)
@[simp] theorem aie:Kd.is .int (.bl a)=true:=(rfl)
@[simp] theorem aih:Kd.is .bool (.bl a)=true:=(rfl)
@[simp] theorem aif:Kd.is .bool (.int i)=false:=(rfl)
@[simp] theorem HE:Kd.is .str (.str s)=true:=(rfl)
@[simp] theorem qK:Kd.is .str (.tup l)=false:=(rfl)
@[simp] theorem aic:Kd.is .str (.int i)=false:=(rfl)
@[simp] theorem ah8:Kd.is .tup (.tup l)=true:=(rfl)
@[simp] theorem ah9:Kd.is .tup (.str s)=false:=(rfl)
@[simp] theorem aia:Kd.is .tup (.int i)=false:=(rfl)
@[simp] theorem aib:Kd.is .tup (.bl a)=false:=(rfl)
@[simp] theorem di(h0:0 < i)(h1:i<=2000):cf (.int i)=drawn i:=tz ⟨h0,h1⟩
def bJ{m:Int}{Q:PV->Prop}(h:∀d:Int,0<=d->d < m->Q (.int d)):(drawn m).run Q:=λv ⟨d,e,h0,h1⟩=>e▸h d h0 h1
end
namespace W
variable{α β:Type}
def le(a b:W α):Prop:=∀Q,b.run Q->a.run Q
def le.refl(a:W α):a.le a:=λ_ h=>h
def le.of_eq{a b:W α}(h:a=b):a.le b:=h▸le.refl a
def le.ret{a:W α}{v:α}{f:α->W β}{b:W β}(h:a.le (.ret v))(hf:(f v).le b):(a.bind f).le b:=λQ q=>h _ (hf Q q)
def le.use{a:W α}{v:α}{Q:α->Prop}(h:a.le (.ret v))(q:Q v):a.run Q:=h _ q
end W
section
variable{S R:Type}
@[simp] theorem ags(s:S)(f:PV->S->W S):bS [] s f=.ret s:=(rfl)
@[simp] theorem adW(x:PV)(r:O PV)(s:S)(f:PV->S->W S):bS (x::r) s f=.bind (f x s) λs'=>bS r s' f:=(rfl)
theorem vW{f:PV->S->W S}{Q:S->Prop}(I:O PV->S->Prop):∀{l:O PV}{s:S},I l s->(∀x r s,I (x::r) s->(f x s).run (I r))->(∀s,I [] s->Q s)->(bS l s f).run Q
 | [],s,h0,_,he=>he s h0
 | x::r,s,h0,hs,he=>(f x s).mono (λs' h=>vW I h hs he) (hs x r s h0)
theorem Ku{f:PV->S->W (Lp S R)}{Q:Lp S R->Prop}(I:O PV->S->Prop):∀{l:O PV}{s:S},I l s->(∀x r s,I (x::r) s->(f x s).run λo=>match o with | .go s'=>I r s' | .out t=>Q (.out t))->(∀s,I [] s->Q (.go s))->(FL.lB l s f).run Q
 | [],s,h0,_,he=>he s h0
 | x::r,s,h0,hs,he=>(f x s).mono (λo h=>match o,h with
  | .go s',h=>Ku I h hs he
  | .out t,h=>h) (hs x r s h0)
theorem eU{f:PV->S->W S}{Q:S->Prop}(I:Nat->S->Prop){s:S}(h0:I 0 s)(hs:∀(i:Nat) (x:PV) s,l[i]?=am x->I i s->(f x s).run (I (i+1)))(he:∀s,I l.length s->Q s):(bS l s f).run Q:=by
 refine vW (λr s=>∃i,i<=l.length/\r=l.drop i/\I i s) ⟨0,A9 _,rfl,h0⟩ (λx r s ⟨i,hi,e,h⟩=>?_) (λs ⟨i,hi,e,h⟩=>?_)
 ·have gD:i < l.length:=by
   rcases CU i l.length with h | h
   ·exact h
   ·rw[Fi h]at e;cases e
  rw[Bv gD]at e;injection e with e1 e2;subst e1;exact(f _ s).mono (λs' h'=>⟨i+1,gD,e2,h'⟩) (hs i _ s (Ad gD) h)
 ·have:i=l.length:=by
   have:=congrArg Ca e;rw[E1]at this;simp at this;omega
  subst this;exact he s h
theorem YW{f:PV->S->W (Lp S R)}{Q:Lp S R->Prop}(I:Nat->S->Prop){s:S}(h0:I 0 s)(hs:∀(i:Nat) (x:PV) s,l[i]?=am x->I i s->(f x s).run λo=>match o with | .go s'=>I (i+1) s' | .out t=>Q (.out t))(he:∀s,I l.length s->Q (.go s)):(FL.lB l s f).run Q:=by
 refine Ku (λr s=>∃i,i<=l.length/\r=l.drop i/\I i s) ⟨0,A9 _,rfl,h0⟩ (λx r s ⟨i,hi,e,h⟩=>?_) (λs ⟨i,hi,e,h⟩=>?_)
 ·have gD:i < l.length:=by
   rcases CU i l.length with h | h
   ·exact h
   ·rw[Fi h]at e;cases e
  rw[Bv gD]at e;injection e with e1 e2;subst e1;exact(f _ s).mono (λo h'=>match o,h' with
   | .go s',h'=>⟨i+1,gD,e2,h'⟩
   | .out t,h'=>h') (hs i _ s (Ad gD) h)
 ·have:i=l.length:=by
   have:=congrArg Ca e;simp at this;omega
  subst this;exact he s h
def qF{f:PV->S->W S}{Q:S->Prop}(I:Nat->S->Prop){s:S}(h0:I 0 s)(hs:∀(i:Nat) s,i < n->I i s->(f (.int (i:Int)) s).run (I (i+1)))(he:∀s,I n s->Q s):(bS (gJ 0 n) s f).run Q:=
 eU I h0 (λi x s hx h=>by obtain⟨hi,rfl⟩:=sD hx;rw[Ek];exact hs i s hi h) (λs h=>he s (by rw[kC]at h;exact h))
def Ve{f:PV->S->W (Lp S R)}{Q:Lp S R->Prop}(I:Nat->S->Prop){s:S}(h0:I 0 s)(hs:∀(i:Nat) s,i < n->I i s->(f (.int (i:Int)) s).run λo=>match o with | .go s'=>I (i+1) s' | .out t=>Q (.out t))(he:∀s,I n s->Q (.go s)):(FL.lB (gJ 0 n) s f).run Q:=
 YW I h0 (λi x s hx h=>by obtain⟨hi,rfl⟩:=sD hx;rw[Ek];exact hs i s hi h) (λs h=>he s (by rw[kC]at h;exact h))
theorem oO{c:S->W Bool}{b:S->W S}{Q:S->Prop}(I:Nat->S->Prop){s:S}(h0:I n s)(hs:∀n s,I n s->(c s).run λk=>if k=true then (b s).run (λs'=>∃m,m < n/\I m s') else Q s):(uR c b s).run Q:=by
 refine⟨n+1,?_⟩;have:∀k n s,n < k->I n s->(oQ c b k s).run Q:=by
  intro k
  induction k with
  | zero=>intro n s h;omega
  | succ k ih=>
   intro n s hn h;refine(c s).mono (λz q=>?_) (hs n s h);cases z with
   | true=>exact(b s).mono (λs' ⟨m,hm,h'⟩=>ih m s' ∅ h') (show(b s).run _ from q)
   | false=>exact q
 exact this (n+1) n s ∅ h0
theorem GD{g:PV->PV}:∀{l:O PV},(∀x∈l,f x=.ret (g x))->aZ l f=.ret (l.map g)
 | [],_=>rfl
 | x::r,h=>by
  show ap (f x) (λy=>ap (aZ r f) λl=>bn (y::l))=_;rw[h x (.head _),GD λy hy=>h y (.tail _ hy)];rfl
theorem GR{f:PV->W (Option PV)}{g:PV->Option PV}:∀{l:O PV},(∀x∈l,f x=.ret (g x))->mD l f=.ret (l.filterMap g)
 | [],_=>rfl
 | x::r,h=>by
  show ap (f x) (λo=>ap (mD r f) λl=>bn (o.toList++l))=_;rw[h x (.head _),GR λy hy=>h y (.tail _ hy),Ba];cases g x <;> rfl
end
section
variable(i j:Int)(a b:Bool)(x y:PV)(l m:O PV)(s t:Str)
@[simp] theorem aat:jY (.int i) (.int j)=(i==j):=by rw[jY]
@[simp] theorem aas:jY (.str s) (.str t)=(s==t):=by rw[jY]
@[simp] theorem aau:jY (.bl a) (.bl b)=(a==b):=by rw[jY]
@[simp] theorem aar:jY (.tup l) (.tup m)=gE l m:=by rw[jY]
@[simp] theorem al3:jY (.cl l) (.cl m)=gE l m:=by rw[jY]
@[simp] theorem akA:gE [] []=true:=by rw[gE]
@[simp] theorem acO:gE (x::l) (y::m)=(jY x y&&gE l m):=by rw[gE]
@[simp] theorem ah0:PV.i8 (.int i)=true:=by rw[PV.i8] <;> simp
@[simp] theorem akz:PV.i8 (.bl a)=true:=by rw[PV.i8] <;> simp
@[simp] theorem ahY:PV.i8 (.str s)=true:=by rw[PV.i8] <;> simp
@[simp] theorem ahZ:PV.i8 .aJ=true:=by rw[PV.i8] <;> simp
@[simp] theorem ahX:PV.i8 (.tup l)=fm l:=by rw[PV.i8]
@[simp] theorem aky:PV.i8 (.cl l)=fm l:=by rw[PV.i8]
@[simp] theorem agv:fm []=true:=by rw[fm]
@[simp] theorem adX:fm (x::l)=(PV.i8 x&&fm l):=by rw[fm]
@[simp] theorem agK:PV.fo (.int i)=0:=by rw[PV.fo] <;> simp
@[simp] theorem ah2:PV.fo (.bl a)=0:=by rw[PV.fo] <;> simp
@[simp] theorem agI:PV.fo (.str s)=0:=by rw[PV.fo] <;> simp
@[simp] theorem agJ:PV.fo .aJ=0:=by rw[PV.fo] <;> simp
@[simp] theorem agH:PV.fo (.tup l)=d6 l+1:=by rw[PV.fo]
@[simp] theorem ah1:PV.fo (.cl l)=d6 l+1:=by rw[PV.fo]
@[simp] theorem adY:d6 []=0:=by rw[d6]
@[simp] theorem acQ:d6 (x::l)=max (PV.fo x) (d6 l):=by rw[d6]
def Ky:Nb (.int i) (.int j):=⟨by simp,by simp,by simp⟩
@[simp] theorem jZ:of2 iP (.int i) (.int j)=.ret (.bl (i==j)):=by rw[yV,tz (Ky i j),aat]
@[simp] theorem Vs:of2 vg (.int i) (.int j)=.ret (.bl (!(i==j))):=by rw[Pg,tz (Ky i j),aat]
@[simp] theorem akE:of2 iP (.bl a) (.bl b)=.ret (.bl (a==b)):=by rw[yV,tz ⟨by simp,by simp,by simp⟩,aau]
@[simp] theorem akD:of2 vg (.bl a) (.bl b)=.ret (.bl (!(a==b))):=by rw[Pg,tz ⟨by simp,by simp,by simp⟩,aau]
end
theorem gr:∀{l:O PV},fm l=true↔∀x∈l,PV.i8 x=true
 | []=>by simp
 | x::l=>by rw[fm,AI,gr (l:=l)];simp
theorem gs:∀{l:O PV},(∀x∈l,PV.fo x<=n)->d6 l<=n
 | [],_=>by simp
 | x::l,h=>by
  have h1:=h x (.head _);have h2:=gs (l:=l) λy hy=>h y (.tail _ hy);rw[d6];omega
instance (priority:=10) am4:bU:=⟨[]⟩
end
end FL
variable{f:Bm}
namespace FL
section
variable[bU]
structure EV where
 P:u8
 w:EQ
 K:Ab
 mg:Str->Option db
 base:sw
structure DF where
 x:Str
 s:ut
 ps:List Str
 k:Nat
 sp:Ab->Sp
abbrev DF.C(d:DF)(v:EV):=ZD v.P v.w v.K v.mg v.base d.x d.k d.ps (d.sp v.K)
structure DI(v:EV)(d:DF) where
 f:f8
 fd:FS
 fn:LA v.K d.x d.x d.s f fd
 bi:Binds v.K fd d.ps []
 at':v.mg d.x=am (.ref f)
abbrev DI.O{v:EV}{d:DF}(D:DI v d):Prop:=eG v.P v.w v.K v.mg v.base oM d.k D.f D.fd d.ps (d.sp v.K)
def DI.c{v:EV}{d:DF}(D:DI v d)(h:D.O):d.C v:=⟨D.f,D.fd,h,D.bi,D.fn.kp,D.at'⟩
def DI.cN{v:EV}{d:DF}(D:DI v d)(h:eG v.P v.w v.K v.mg v.base oM k D.f D.fd d.ps sp):ZD v.P v.w v.K v.mg v.base d.x k d.ps sp:=⟨D.f,D.fd,h,D.bi,D.fn.kp,D.at'⟩
structure DX(K:Ab)(x:Str)(st:ut):Prop where
 ex:∃f fd,AH K lw x=am (am (.ref f))/\LA K x x st f fd
abbrev dnm(s:ut):Str:=match s with
 | .FunctionDef x _ _ _ _ _ _ _ _ _=>x
 | _=>""
def dx{K:Ab}{st:ut}{kV:db}(a:AH K lw x=am (am (.ref f)))(l:K.lookup f=am ⟨oc,od,.func (BO x x (dG st) (bE st) (ay st) .none kV É pm an cV ct),Qw⟩)
  (c:C6 K cV x=true) (k:B6 K (.ref f)=true):DX K x st:=⟨f,_,a,M6 l c k⟩
def fsc{N P:O Str}{sc:re}(h1:‹sc.kind=.function›)(h2:‹sc.isCoroutine=false›)(h3:‹sc.isGenerator=false›)(h4:N.Nodup:=by decide +kernel)(h5:‹N.take P.length=P›)(h6:∀x∈P,sc.names.lookup x=am .local\/sc.names.lookup x=am .cell:=by decide +kernel)(h7:∀y∈sc.names,y.2≠.free:=by decide +kernel):c7 N P sc:=⟨h1,h2,h3,h4,h5,h6,h7⟩
def lcs{N:O Str}{sc:re}(h1:‹sc.kind=.function›)(h2:∀y∈sc.names,y.2≠.cell:=by decide +kernel)(h3:∀y∈sc.names,y.2=.local->sc.names.lookup y.1=am .local:=by decide +kernel)(h4:∀y∈sc.names,y.2=.free->(Xs.names.lookup y.1=am .cell\/Xs.names.lookup y.1=am .free):=by decide +kernel)(h5:N'.Nodup:=by decide +kernel)(h6:‹ix.length=N'.length›)
  (h7:((ix.zip N').all λp=>match p.1 with | none=>true | some j=>decide (N[j]?=am p.2)&&decide (sc.names.lookup p.2=am .free))=true:=by decide +kernel):cj Xs N sc N' ix:=⟨h1,h2,h3,h4,h5,h6,h7⟩
abbrev lP(l:O (Str×FM)):re:={kind:=.function,names:=(B7 ".0",.local)::l,isGenerator:=false,isCoroutine:=false,more:=[]}
abbrev lo:FM:=.local
abbrev gi:FM:=.globalImplicit
abbrev fr:FM:=.free
def JJ:O AK->Nat
 | []=>0
 | .p _::ks=>JJ ks+1
 | _::ks=>JJ ks
theorem pX:∀{ks:O AK}{i:Nat},ks[i]?=am (.p φ)->JJ ks≠0
 | [],i,h=>by simp at h
 | .p _::_,_,_=>Nat.succ_ne_zero _
 | .v::ks,0,h=>by simp at h
 | .f _ _ _ _::ks,0,h=>by simp at h
 | .v::ks,i+1,h=>pX (ks:=ks) (i:=i) (by simpa using h)
 | .f _ _ _ _::ks,i+1,h=>pX (ks:=ks) (i:=i) (by simpa using h)
theorem ve:∀{ks:O AK},Nat.ble (JJ ks) 1=true->NS ks
 | [],_=>λi j ⟨_,h⟩=>by simp at h
 | .v::ks,h=>λi j ⟨φ,a⟩ ⟨ψ,b⟩=>by
  cases i with | zero=>simp at a | succ i=>cases j with | zero=>simp at b | succ j=>rw[ve (ks:=ks) h i j ⟨φ,by simpa using a⟩ ⟨ψ,by simpa using b⟩]
 | .f _ _ _ _::ks,h=>λi j ⟨φ,a⟩ ⟨ψ,b⟩=>by
  cases i with | zero=>simp at a | succ i=>cases j with | zero=>simp at b | succ j=>rw[ve (ks:=ks) h i j ⟨φ,by simpa using a⟩ ⟨ψ,by simpa using b⟩]
 | .p _::ks,h=>λi j ⟨φ,a⟩ ⟨ψ,b⟩=>by
  have z:JJ ks+1<=1:=A8 h;cases i with | succ i=>exact absurd ∅ (pX (ks:=ks) (i:=i) (by simpa using a)) | zero=>cases j with | succ j=>exact absurd ∅ (pX (ks:=ks) (i:=j) (by simpa using b)) | zero=>rfl
abbrev yB(st:ut):O Str:=((ay st).names.filter λy=>y.2==.local||y.2==.cell).map (·.1)
abbrev IL(st:ut):O Str:=(dG st).args.map (·.arg)
abbrev nml(sc:re):O Str:=((sc.names.tail.filter λy=>y.2==.local)++sc.names.filter λy=>y.2==.free).map (·.1)
abbrev ixl(N:O Str)(sc:re):O (Option Nat):=((sc.names.tail.filter λy=>y.2==.local).map λ_=>ce)++(sc.names.filter λy=>y.2==.free).map λy=>am (N.idxOf y.1)
abbrev LS(st:ut)(sc:re):Prop:=cj (ay st) (yB st) sc (nml sc) (ixl (yB st) sc)
def msk:Nat->br->br
 | _,[]=>[]
 | n,s::l=>(match n % 2 with | 0=>s | _=>ce)::msk (n / 2) l
theorem i7.m:∀(n:Nat) {fs:br},i7 fs (msk n fs)
 | _,[]=>.refl _
 | n,s::l=>by
  unfold msk
  split
  ·exact .keep (i7.m _)
  ·exact .drop (i7.m _)
def Lr:(n:Nat)->(O PV->W R->Prop)->w5 R n->Prop
 | 0,B,m=>B [] m
 | n+1,B,m=>∀x:PV,Lr n (λl w=>B (x::l) w) (m x)
theorem Lr.all:∀{n:Nat}{B:O PV->W R->Prop}{m:w5 R n},Lr n B m->∀l,l.length=n->B l (kK n m l)
 | 0,_,_,h,[],_=>h
 | n+1,_,_,h,x::l,e=>Lr.all (n:=n) (h x) l (Nat.succ.inj e)
section
variable{v:EV}{st:ut}
abbrev BB{T:Type}(v:EV)(x:Str)(st:ut)(k:Nat)(ks:O AK)(f:f8)(n:Nat)(m:w5 T n)(o:T->End):Prop:=∀{cV:db}{A:ww}{outer:O Env}{s:ii}{H:Hp}{E:XK},cI k (A.deeper (Fa x (ay st) s.heap.objs.size f cV))->(yB st).Nodup->Lr n (λl w=>SF (qR oM v.P v.w v.K v.mg v.base (yB st) x (ay st) f cV A outer s H E).Qy v.K false (wG ks l (yB st).length) (bE st) w o) m
def md{m:w5 PV n}(D:DI v ⟨x,st,IL st,k+1,λK=>xn K ks (kK n m)⟩)(Æ:BB v x st k ks D.f n m .rt)(YN:‹ks.length=(IL st).length›)(one:‹Nat.ble (JJ ks) 1=true›)(S:c7 (yB st) (IL st) (ay st):=by exact fsc):D.O:=fnV D.fn S YN (ve one) λl e cV A outer s H E hr=>(Æ hr S.nd).all l e
def OL{m:w5 (O PV) n}(D:DI v ⟨x,st,IL st,k+1,λK=>Jo K ks (kK n m)⟩)(Æ:BB v x st k ks D.f n m .rl)(YN:‹ks.length=(IL st).length›)(one:‹Nat.ble (JJ ks) 1=true›)(S:c7 (yB st) (IL st) (ay st):=by exact fsc):D.O:=fnL D.fn S YN (ve one) λl e cV A outer s H E hr=>(Æ hr S.nd).all l e
end
section
variable{K:Ab}{WL:W (O PV)}
theorem eC{m:O PV->W PV}(G:ZD X.prog X.w X.K X.mg X.base x k ps (xn K ks m))(hr:cI k' X.A)(ha:AF X K fs (e::es) ks B)(hk:k<=k':=by first | exact A8 rfl | exact Ak _ | omega)(hg:‹Gl X x›)(hW:‹W'=B m›)(lA: ~~~(gK x))
  (he:‹fR X e es›) (dg:‹kJ X pos es›):EF X K fs (.Call (.Name x p) (e::es) [] pos) W':=Za G hr hk hg ha hW lA he dg
theorem lC{m:O PV->W (O PV)}{B:(O PV->W (O PV))->W (O PV)}(G:ZD X.prog X.w X.K X.mg X.base x k ps (Jo K ks m))(hr:cI k' X.A)(ha:AF X K fs (e::es) ks B)(hk:k<=k':=by first | exact A8 rfl | exact Ak _ | omega)(hg:‹Gl X x›)(hW:‹WL=B m›)(lA: ~~~(gK x))
  (he:‹fR X e es›) (dg:‹kJ X pos es›):LF X K fs (.Call (.Name x p) (e::es) [] pos) WL:=Yp G hr hk hg ha hW lA he dg
def cF(i:Nat)(hN:X.N.Nodup)(hi:‹X.N[i]?=am x›)(hx:Loc X.env.scope x:=by first | exact .inl rfl | exact .inr rfl)(hf:Wm X x:=by first | exact .inl rfl | exact .inr rfl | assumption):PG X (.Name x pos) (e7 i):=Xz hN hi hx hf
variable{T:Type}{out:T->End}{b:Bool}{rest:O ut}
def sv(i:Nat){k:PV->W T}(hN:X.N.Nodup)(he:EF X K fs e we)(hr:∀v,SF X K b (fs.set i (am (.val v))) rest (k v) out)(hi:‹X.N[i]?=am y›)(hx:Loc X.env.scope y:=by first | exact .inl rfl | exact .inr rfl)(hs:‹sB e (am (.Name y p')) pos.line X.env=pure false›)
  (hf:Wm X y:=by first | exact .inl rfl | exact .inr rfl | assumption):SF X K b fs (.Assign [.Name y p'] e pos::rest) (.bind we k) out:=SF.set hN hi hx he hr hs hf
def sl(i:Nat){k:O PV->W T}(hN:X.N.Nodup)(he:LF X K fs e wl)(hr:∀l,SF X K b (fs.set i (am (.ol ce l))) rest (k l) out)(hi:‹X.N[i]?=am y›)(hx:Loc X.env.scope y:=by first | exact .inl rfl | exact .inr rfl)(hs:‹sB e (am (.Name y p')) pos.line X.env=pure false›)
  (hf:Wm X y:=by first | exact .inl rfl | exact .inr rfl | assumption):SF X K b fs (.Assign [.Name y p'] e pos::rest) (.bind wl k) out:=SF.ai9 hN hi hx he hr hs hf
end
end
end FL
variable{v:FL.EV}{m:PL.PV->FL.W PL.PV}{d:FL.DF}
namespace FL
section
variable[bU]
def ahi:(n:Nat)->(O db->Prop)->Prop
 | 0,P=>P []
 | n+1,P=>∀x,ahi n λl=>P (x::l)
theorem usN:∀{n:Nat}{P:O db->Prop},ahi n P->∀us:O db,us.length=n->P us
 | 0,_,h,[],_=>h
 | n+1,_,h,x::l,e=>usN (n:=n) (h x) l (Nat.succ.inj e)
def DX.f9(D:DX v.K d.x d.s)(X:v.K.In h)(G:h.Ns lw v.mg)
  (hb:∀(kV É pm:db) (an:Option f8) (cV ct:db) (us:O db),us.length=d.ps.length->P3 (BO d.x d.x (dG d.s) (bE d.s) (ay d.s) .none kV É pm an cV ct) ⟨us,[]⟩=pure (d.ps.zip us):=by exact λ_ _ _ _ _ _=>usN (by (repeat intro _);rfl)):Nonempty (DI v d):=by
 obtain⟨f,fd,a,F⟩:=D.ex;exact⟨⟨f,fd,F,F.binds hb,BM X G a⟩⟩
def SI(K:Ab):Sp:=λvs H Q _=>TB H/\∃(a:f8) (ns:O Int),vs=[.ref a]/\WC K H a (ns.map V.int)/\ns.length<=63/\∀H',Q (.bl true) H'
def Ym{K:Ab}(ok:∀ns:O Int,ns.length<=63->(m (.cl (ns.map PV.int))).run (·=.bl true)):∀vs H Q E,SI K vs H Q E->xn K [.v] (kK 1 m) vs H Q E:=λvs H Q E ⟨tb,a,ns,e,fz,hl,q⟩=>by
 subst e;refine⟨tb,[.cl (ns.map PV.int)],.v (.cl fz (nv _ _ ns)) .nil,(m (.cl (ns.map PV.int))).mono (λv e u H' _ r=>?_) (ok ns hl)⟩;subst e;cases r;exact q H'
structure ahj(K:Ab)(mg:Str->Option db)(d:DF):Prop where
 f:∀v:EV,v.K=K->v.mg=mg->∀D:DI v d,D.O
def mkAll{l:PySem.W.OpenLaw}{K:Ab}{fa:f8}{st:ut}(ok:∀ns:O Int,ns.length<=63->(m (.cl (ns.map PV.int))).run (·=.bl true))(X:K.In h)(G:h.Ns lw mg)(hfa:mg "law"=am (.ref fa))(agU:DX K "law" st)
  (hb:∀(kV É pm:db) (an:Option f8) (cV ct:db) (us:O db),us.length=1->P3 (BO "law" "law" (dG st) (bE st) (ay st) .none kV É pm an cV ct) ⟨us,[]⟩=pure (([("_law_script":Str)]:O Str).zip us))
  (F:ahj K mg ⟨"law",st,["_law_script"],k,λK=>xn K [.v] (kK 1 m)⟩) :
  ∃fd:FS,(∀(s:ii) (v:db),BindsTo s fd ⟨[v],[]⟩ [("_law_script",v)])/\∀base:sw,K.In base->base.Ns lw mg->eG l.prog w K mg base oM k fa fd ["_law_script"] (SI K):=by
 obtain⟨f,fd,a,F'⟩:=agU.ex;have e:=hfa.symm.trans (BM X G a);cases e;have fb:=F'.binds (ps:=["_law_script"]) hb;obtain⟨oc,od,kV,É,pm,an,cV,ct,Qw,rfl,_⟩:=id F'.ex;exact⟨BO "law" "law" (dG st) (bE st) (ay st) .none kV É pm an cV ct,λs v=>.of_eq (hb kV É pm an cV ct [v] rfl),λbase _ _=>(F.f ⟨l.prog,w,K,mg,base⟩ rfl rfl ⟨_,_,F',fb,hfa⟩).imp (Ym ok)⟩
section
variable{K:Ab}{R:Type}{B:(O PV->W R)->W R}
def av(i:Nat){v:PV}(hr:AF X K fs es ks B)(hs:‹fs[i]?=am (am (.val v))›)(hN:‹X.N[i]?=am x›)(hv:ye X.env.scope x:=by first | exact CN rfl | exact Cq (CN rfl) | exact Cq (Cq rfl))(hd: ~~~(gK x))(g9: ~~~(zk x))
  (h:‹nn (.Name x pos::es) X.env=(false,pr (.Name x pos) X.env)::nn es X.env›):AF X K fs (.Name x pos::es) (.v::ks) (λk=>.bind (.ret v) λx=>B λl=>k (x::l)):=aj (af i hs hN hv hd g9) hr h
end
end
end FL
variable{t:FL.SL}{ys:O Bz}
namespace FL
section
variable[bU]{K:Ab}
structure Lm where
 q:Str
 ar:Arguments
 bd:r9
 sc:re
abbrev Lm.fn(L:Lm)(cl:O (Str×f8))(pm:db)(cv tJ:db):FS:=PySem.W.kla_fn "<lambda>" L.q L.ar L.bd L.sc cl pm cv tJ
abbrev Lm.ob(L:Lm)(cl:O (Str×f8))(pm:db)(cv tJ:db):Obj:={cls:=.type "function",data:=.func (L.fn cl pm cv tJ)}
def Wn(o:Obj)(q:Str):Prop:=∃vs t,o.data=.fields vs/\vs[1]?=am (.str q t)
def Wl(L:Lm)(ys:O Str)(base:sw)(a:f8)(us:O V)(fz:O (f8×Obj)):Prop:=∃cl pm c tJ co,fz=[(a,L.ob cl pm (.ref c) tJ),(c,co)]/\Wn co L.q/\
 (∀x c,cl.lookup x=am c->∃v,base.IsCell c v)/\(∀x y c,cl.lookup x=am c->cl.lookup y=am c->x=y)/\∀(i:Nat) (y:Str),ys[i]?=am y->∃c v u,cl.lookup y=am c/\us[i]?=am v/\RelV v u/\base.IsCell c (am u)
structure aha(ps ys:List Str)(sc:re):Prop where
 kind:sc.kind=.function
 co:sc.isCoroutine=false
 gen:sc.isGenerator=false
 nd:(ps++ys).Nodup
 par:∀x∈ps,sc.names.lookup x=am .local
 fre:∀y∈ys,sc.names.lookup y=am .free
 noc:∀y∈sc.names,y.2≠.cell
 fin:∀y∈sc.names,y.2=.free->y.1∈ys
def cxL(P:u8)(w:EQ)(K:Ab)(mg:Str->Option db)(base:sw)(N:O Str)(L:Lm)(a:f8)(cl:O (Str×f8))(cv:db)(A:ww)(outer:O Env)(s:ii)(H:Hp):Cx where
 prog:=P
 w:=w
 K:=K
 mg:=mg
 base:=base
 A:=A.deeper (Ef L.q L.sc s.heap.objs.size a cv cl)
 N:=N
 s₀:=s
 H₀:=H
 env:=Ef L.q L.sc s.heap.objs.size a cv cl
 outer:=outer
 stack:=Ef L.q L.sc s.heap.objs.size a cv cl::outer
 ex:=[]
 calm:=true
 fn:=λ_=>false
 pn:=[]
 xe:=λ_ _=>False
theorem yF:∀{l:O (Str×β)}{x:Str}{u:β},(l.map (·.1)).Nodup->(x,u)∈l->l.lookup x=am u
 | (y,v)::l,x,u,nd,h=>by
  rw[Ar,Bx]at nd;rw[A1];by_cases c:x=y
  ·subst c;rcases Aw.mp h with h | h
   ·cases h;simp
   ·exact absurd (Au.mpr ⟨_,h,rfl⟩) nd.1
  ·rw[beq_eq_false_iff_ne.mpr c];rcases Aw.mp h with h | h
   ·cases h;exact absurd rfl c
   ·exact yF nd.2 h
theorem NV:∀(ps:O Str) (us:O db),List.Sublist ((ps.zip us).map (·.1)) ps
 | [],_=>.slnil
 | _::_,[]=>List.nil_sublist _
 | p::ps,_::us=>(NV ps us).cons₂ p
def WE(nd:ps.Nodup){u:db}(h1:ps[i]?=am x)(h2:us[i]?=am u):(ps.zip us).reverse.lookup x=am u:=by
 refine yF ?_ (List.mem_reverse.mpr (AM (i:=i) (by rw[Bn];exact⟨h1,h2⟩)));rw[EZ];refine(List.reverse_perm _).nodup_iff.mpr ?_;exact nd.sublist (NV ps us)
section
variable{L:Lm}{us:O V}
abbrev Us(l:O PV):br:=l.map λv=>am (.val v)
def GS(h:(Us l)[i]?=am (am t)):∃v,l[i]?=am v/\t=.val v:=by
 rw[Ai]at h;cases e:l[i]? with
 | none=>rw[e]at h;cases h
 | some v=>rw[e]at h;cases h;exact⟨v,rfl,rfl⟩
def ab2{vs:O V}(r:aG K [] H vs l)(tb:TB H):aU K H (vs.map am) (Us l):=⟨by rw[Ah,Ah,r.length],λi t e=>by
 obtain⟨v,e1,rfl⟩:=GS e;obtain⟨u,h1,h2⟩:=r.get e1;exact⟨u,by rw[Ai,h1];rfl,.inl ⟨v,rfl,h2⟩⟩,λi j s t x y b e1 e2 o1=>(by
 obtain⟨v,_,rfl⟩:=GS e1;cases o1),tb⟩
theorem zC:∀{n:Nat}{vs:O V}{l:O PV},jd K H vs (An n .v) l->aG K [] H vs l/\l.length=n
 | 0,_,_,h=>by cases h;exact⟨.nil,rfl⟩
 | n+1,_,_,h=>by
  cases h with
  | v r t=>
   obtain⟨h1,h2⟩:=zC t;exact⟨.cons r h1,by rw[Ap,h2]⟩
theorem acL{m:w5 PV n}(I0:Wl L ys base a us fz)(S:aha ps ys L.sc)(hn:n=ps.length)(hq:us.length=qs.length)(hy:qs.length=ys.length)
  (hb:∀(cl:O (Str×f8)) (pm cv tJ:db) (us:O db),us.length=ps.length->P3 (L.fn cl pm cv tJ) ⟨us,[]⟩=pure (ps.zip us))
  (Æ:∀l:O PV,l.length=n->∀(cl:O (Str×f8)) (cv:db) (A:ww) (outer:O Env) (s:ii) (H:Hp),cI k (A.deeper (Ef L.q L.sc s.heap.objs.size a cv cl))->EF (cxL P w K mg base (ps++ys) L a cl cv A outer s H) K (Us (l++qs)) L.bd (kK n m l)) :
  Nonempty (ZC P w K mg base a us qs fz (k+1) ps (xn K (An n .v) (kK n m))):=by
 obtain⟨cl,pm,c,tJ,co,rfl,Ī,Kf,aj8,YR⟩:=I0;refine⟨⟨L.fn cl pm (.ref c) tJ,⟨λvs H Q E h=>?_,λA outer s H args ı vs Q E hr e0 ŀ r UY=>?_⟩,.all (hb cl pm _ tJ),λh _ _ hz=>⟨_,_,_,_,hz (a,_) (Bt ..)⟩⟩⟩
 ·obtain⟨_,_,_,l,h,_⟩:=h;obtain⟨h1,h2⟩:=zC (vs:=vs) (l:=l) h;rw[h1.length,h2,hn]
 obtain⟨rv,z,tb,l,hC,q⟩:=UY;obtain⟨rl,hl⟩:=zC (vs:=vs) (l:=l) hC;obtain⟨_,z1⟩:=z (a,L.ob cl pm (.ref c) tJ) (Bt ..);obtain⟨_,z2⟩:=z (c,co) (by simp);have hg:=(e0.a8 _ _ z1).1;have hc:=(e0.a8 _ _ z2).1;have hlv:vs.length=ps.length:=by rw[rl.length,hl,hn]
 have KX:K.In s.heap:=e0.mod.kin.keeps λb o e=>(e0.bs b o e).1;have Ő:s.heap.NoLimit:=e0.mod.nolimit.keeps λb o e=>(e0.bs b o e).1;obtain⟨cvs,ct,d1,d2⟩:=Ī;refine PySem.W.kla_callFunE hr.depth hg rfl S.co S.gen rfl ⟨c,co,cvs,ct,rfl,hc,d1,d2⟩ (ŀ _ _ _ _ ?_);refine wpAny_newFunctionEnv S.noc (λy hy=>S.par _ (Eb (a:=y.1) (b:=y.2) hy).1) (λh' MU ģ=>?_) S.kind;have hk:∀b o,s.heap.get? b=am o->h'.get? b=am o:=λb o e=>by
  rw[ģ.2 b (AA (Aq e))];exact Ag _ e
 refine⟨Ő.keeps hk,PySem.W.kla_codeExpr ?_⟩;have kc:∀{c:f8}{v:Option db},base.IsCell c v->h'.IsCell c v:=λ⟨o,h1,h2⟩=>⟨o,hk _ _ (e0.bs _ _ h1).1,h2⟩;have I:Inv (cxL P w K mg base (ps++ys) L a cl (.ref c) A outer s H) [] ((vs++us).map am) H {heap:=h',gens:=s.gens,drawn:=s.drawn,toks:=s.toks+(ps.zip ı).length,os:=s.os}:=by
  refine⟨⟨e0.mod,S.kind,rfl,rfl,Ak _,aj8,λx hx=>?_,λ_ _ z=>(by cases z),λ_=>hr.hd,FP e0.frames,.inr ⟨rfl,rfl⟩,λb z=>(nomatch z),e0.bs,e0.WA,λb _ _ z=>(nomatch z),λb z=>(nomatch z),e0.nX,e0.YU⟩,
   rfl,e0.bare,Un.kept hk,⟨_,MU,λi x v h1 h2 h3=>?_⟩,λx c' e=>?_,e0.a8.fresh (Ak _),λx c' e=>?_,λp hp=>(nomatch hp),e0.a8.kept hk,?_⟩
  ·have qB:L.sc.names.lookup x=am .cell\/L.sc.names.lookup x=am .free:=hx;rcases qB with hx | hx
   ·exact absurd rfl (S.noc _ (BC hx))
   ·obtain⟨i,hi⟩:=B4 (S.fin _ (BC hx) rfl);obtain⟨c',_,_,e,_⟩:=YR i _ hi;exact⟨c',e⟩
  ·have h1:(ps++ys)[i]?=am x:=h1;rw[Ai]at h2;cases e:(vs++us)[i]? with
   | none=>rw[e]at h2;cases h2
   | some v'=>
    rw[e]at h2;cases h2;by_cases ci:i < vs.length
    ·rw[Ax ci]at e;rw[Ax ∅]at h1;obtain⟨u,hu,ru⟩:=r.get e;exact⟨u,ru,.inl ⟨S.par x (AM h1),WE (DE.mp S.nd).1 h1 hu⟩⟩
    ·rw[Az ∅]at e h1;obtain⟨c',v',u,e1,e2,ru,IP⟩:=YR _ x h1;rw[<- hlv]at e2;rw[e]at e2;cases e2;exact⟨u,ru,.inr ⟨.inr (S.fre x (AM h1)),c',e1,kc IP⟩⟩
  ·obtain⟨v,hv⟩:=Kf x c' e;exact⟨v,kc hv⟩
  ·obtain⟨v,o,ho,_⟩:=Kf x c' e;exact(e0.bs _ _ ho).2
  ·show((vs++us).map am).length=(ps++ys).length;rw[Ah,Al,Al,hlv,hq,hy]
 have sr:=ab2 (rl.append rv) tb;have np:∀φ b,¬i6 ((vs++us).map am) (Us (l++qs)) φ b:=λφ b ⟨i,p1,_⟩=>by
  obtain⟨v,_,z⟩:=GS p1;cases z
 have na:∀φ b,¬sS vs (An n .v) φ b:=λφ b ⟨i,p1,_⟩=>by
  rw[Bi]at p1
  split at p1 <;> cases p1
 refine BL ((Æ l hl cl (.ref c) A outer s H (hr.deeper _)).p [] _ _ H Q I ⟨sr,(kK n m l).mono (λv q1 u H' g s1 r1=>q1 u H' ⟨λb o e _ nt=>g.keep b o e (λφ=>np φ b) nt,s1.tb,g.there,λb φ p=>absurd p (na φ b)⟩ r1) q⟩) (λu s' h=>?_) λe s' h=>h.elim;obtain⟨v,H',J,ru,q'⟩:=h;exact⟨v,H',J.os,J.bare,J.base,J.a8,ru,q'⟩
end
end
end FL
variable{o:FY}{b0:Fc}
namespace L2
section
variable{σ:St}{cs:O f8}
def tL(b0 h:sw)(cs:O f8):sw:=PySem.W.hideAll h ((AD h.objs.size).filter λb=>!(b0.get? b).isSome&&!cs.contains b)
def zh(e:h.get? b=am o)(c:(∃o,b0.get? b=am o)\/b∈cs):(tL b0 h cs).get? b=am o:=F0 _ e λhm=>by
 have q:=(AO.mp hm).2;rw[AI,DH,DH]at q;rcases c with⟨o',c⟩ | c
 ·rw[c]at q;simp at q
 ·have:=q.2;rw[FE.mpr c]at this;cases this
def JG(e:(tL b0 h cs).get? b=am o):h.get? b=am o/\((∃o,b0.get? b=am o)\/b∈cs):=by
 have e':=F6 _ e;refine⟨e',Classical.byContradiction λn=>?_⟩;have z:(tL b0 h cs).get? b=ce:=FI _ (AO.mpr ⟨AU.mpr (Aq e'),by
  rw[AI,DH,DH];refine⟨?_,?_⟩
  ·cases q:b0.get? b with
   | none=>rfl
   | some o=>exact absurd (.inl ⟨o,q⟩) n
  ·cases q:cs.contains b with
   | false=>rfl
   | true=>exact absurd (.inr (FE.mp q)) n⟩)
 rw[z]at e;cases e
theorem Pa{b1:sw}:∀{l:O Env},h.FunFrames b0 l->(∀L∈M7 l,b1.get? L=ce)->h.FunFrames b1 l
 | [],_,_=>trivial
 | e::l,⟨h1,⟨L,o,h2,h3,h4⟩,h5⟩,n=>⟨h1,⟨L,o,h2,n L (by simp[M7,h2]),h4⟩,Pa h5 λL hL=>n L (by
  unfold M7 at hL ⊢;rw[Ba,h2];exact AN _ hL)⟩
def Inv.akG(I:Inv X Z σ H s)(hc:∀c∈cs,∃x,X.fn x=true/\X.env.cells.lookup x=am c):IK X.prog X.w X.K X.mg (tL X.base s.heap cs) X.A X.stack s H:=by
 have kp:∀b o,X.base.get? b=am o->(tL X.base s.heap cs).get? b=am o:=λb o e=>zh (I.bk b o e) (.inl ⟨o,e⟩);have e0:=I.acW;refine⟨e0.frames,⟨e0.mod.kin.keeps kp,e0.mod.glob.keeps kp,let ⟨mb,h1,h2⟩:=e0.mod.blt;⟨mb,h1.keeps kp,h2⟩,e0.mod.nolimit.keeps kp,let ⟨bm,ob,h1,h2,h3,h4⟩:=e0.mod.bm;⟨bm,ob,h1,h2,kp _ _ h3,h4⟩⟩,λb o e=>?_,Fe (FH _ _),Pa e0.nX λL hL=>?_,e0.YU,e0.a8,e0.bare⟩
 ·obtain⟨h1,⟨o',h2⟩ | h2⟩:=JG e
  ·exact⟨h1,(I.bs b o' h2).2⟩
  ·obtain⟨x,_,hx⟩:=hc b h2;exact⟨h1,I.kD x b hx⟩
 ·cases z:(tL X.base s.heap cs).get? L with
  | none=>rfl
  | some o=>
   obtain⟨h1,⟨o',h2⟩ | h2⟩:=JG z
   ·rw[(e0.nX.mem hL).1]at h2;cases h2
   ·obtain⟨x,hf,hx⟩:=hc L h2;rcases Aw.mp (I.zL L hL) with h | h
    ·exact absurd h (I.cne x L hx)
    ·obtain⟨_,o2,h3,_⟩:=I.ok.nX.mem h;exact absurd (AE (Aq h3) (I.ok.cab x L hf hx)) (A5 _)
def Xf{K1:sw}{CX:WD}{E:XK}{Q:VK}{vs:O V}(F:eG X.prog X.w X.K X.mg K1 CX k f fd ps sp)(e0:IK X.prog X.w X.K X.mg K1 X.A X.stack s H)(hr:cI k X.A)(hb:Binds X.K fd ps [])(hx:Passes CX X E)
  (I:Inv X Z σ H s) (r:Vals vs us) (h:sp vs H Q E):im (lc X.prog X.w) X.A (call (.ref f) us) (EP X Z σ Q) X.xe s:=by
 have hl:(us++[]).length=ps.length:=by rw[B1,<- r.length];exact F.len _ _ _ _ h
 have ú:=hb s us I.o8 hl;rw[B1]at ú;refine wpAny_call (FB (F.run X.A X.stack s H ⟨us,[]⟩ us vs Q E hr e0 ú r h) λr s' hq=>?_);cases r with
 | error e=>exact hx Z σ H s e s' I hq
 | ok fl=>
  cases fl with
  | ret u=>exact I.after hq
  | next=>exact Bb hq
  | brk=>exact Bb hq
  | cont=>exact Bb hq
end
end L2
variable{y:Int}{pl:O Bz}{m:O PL.PV->FL.W PL.PV}
namespace FL
section
variable[bU]{K:Ab}
theorem Jf{x:Int}{c:db}(n:Nat):∀l:O db,l.length<=n->TriplesOk l->TriplesOk (l++[sn x,sn y,c])/\∀pos d,PP pos (l++[sn x,sn y,c])=am d->PP pos l=am d\/d=c:=by
 induction n with
 | zero=>
  intro l hl _;have:l=[]:=Bj ∅;subst this;refine⟨by simp[sn,TriplesOk],λpos d h=>?_⟩;rw[C0]at h;simp only[sn,PP]at h
  split at h
  ·cases h;exact .inr rfl
  ·cases h
 | succ n ih=>
  intro l hl h;by_cases c1:l=[]
  ·subst c1;exact ih [] (A9 _) h
  by_cases c2:∃i t j u e r,l=.int i t::.int j u::e::r
  ·obtain⟨i,t,j,u,e,r,rfl⟩:=c2;rw[Gp]at h;obtain⟨h1,h2⟩:=ih r (by simp at hl;omega) h;refine⟨?_,λpos d hd=>?_⟩
   ·show TriplesOk (.int i t::.int j u::e::(r++_));rw[Gp];exact h1
   ·have hd:PP pos (.int i t::.int j u::e::(r++[sn x,sn y,c]))=am d:=hd;rw[codeAmong.eq_1]at hd ⊢;by_cases z:(i==↑pos.line&&j==↑pos.col)=true
    ·rw[if_pos z]at hd ⊢;exact .inl hd
    ·rw[if_neg z]at hd ⊢;exact h2 pos d hd
  ·rw[TriplesOk.eq_3 l c1 λi t j u e r z=>c2 ⟨i,t,j,u,e,r,z⟩]at h;exact h.elim
def PJ(P:f8)(q:Str):Prop:=(P,q)∈bU.ts/\∀p∈bU.ts,p.1=P->p.2=q
structure RP(K:Ab)(mg:Str->Option db)(cV:db)(P:f8):Prop where
 hd:∃c,cV=.ref c/\∀h:sw,K.In h->PySem.W.CodeHd h c P
def IH(X:Cx)(L:Lm)(a:f8)(fz:O (f8×Obj)):Prop:=∃cl pm c tJ co,fz=[(a,L.ob cl pm (.ref c) tJ),(c,co)]/\Wn co L.q/\(∀x c,cl.lookup x=am c->X.env.cells.lookup x=am c/\(x,.free)∈L.sc.names)/\∀x,(x,.free)∈L.sc.names->∃c,cl.lookup x=am c
section
variable{P:f8}{L:Lm}
def J2{pm tJ:db}{c tk:Nat}{co:Obj}{u0:HO}(I:Inv X Z σ H {s with heap:=h',toks:=tk})(tb:TB H)(hc:H c=am (.bN co u0))(Ī:Wn co L.q)(h1:∀x c,cl.lookup x=am c->X.env.cells.lookup x=am c/\(x,.free)∈L.sc.names)(h2:∀x,(x,.free)∈L.sc.names->∃c,cl.lookup x=am c)
  (h:∀a fz H' s',Inv X Z σ H' s'->IH X L a fz->PK H' fz->TB H'->i5 H H'->Q (.ref a) s'):Q (.ref h'.objs.size) {s with heap:=h'.push (L.ob cl pm (.ref c) tJ),toks:=tk}:=by
 have hn:H h'.objs.size=ce:=I.a8.fresh (Ak _);have I2:=I.laid (a:=h'.objs.size) (o:=.bN (L.ob cl pm (.ref c) tJ) (.own 0)) (t':=tk) (h':=h'.push (L.ob cl pm (.ref c) tJ)) (λb u z=>Ag _ z) (Ak _) ⟨Ao _ rfl,_,Ao _ rfl⟩;have sm:=kj hn (.bN (L.ob cl pm (.ref c) tJ) (.own 0));refine h _ [(h'.objs.size,L.ob cl pm (.ref c) tJ),(c,co)] _ _ I2 ⟨cl,pm,c,tJ,co,rfl,Ī,h1,h2⟩ (λp hp=>?_) (tb.same sm) sm;simp only[Aw,BA,or_false]at hp;rcases hp with rfl | rfl
 ·exact⟨_,aD⟩
 ·exact⟨u0,sm _ _ hc⟩
def ab3(I:Inv X Z σ H s)(tb:TB H)(hK:RP X.K X.mg X.env.code P)(hq:L.q=X.env.qual++"<lambda>")(hP:PJ P L.q)(hd:defaultsOf L.ar X.env=([],[]))(hf:∀y∈L.sc.names,y.2=.free->X.env.kindOf y.1=am .cell\/X.env.kindOf y.1=am .free)
  (h:∀a fz H' s',Inv X Z σ H' s'->IH X L a fz->PK H' fz->TB H'->(∀b o,H b=am o->o.nt=true->H' b=am o)->(∀b,H' b=ce->H b=ce)->Q (.ref a) s'):im (lc X.prog X.w) X.A (pr (.Lambda L.ar L.bd L.sc pos) X.env) Q X.xe s:=by
 obtain⟨ps,eP,tr,ck⟩:=tb _ hP.1;obtain⟨c,hcv,chd⟩:=hK.hd;obtain⟨cl,yO,qC,Hi⟩:=j3 (sc:=L.sc) (env:=X.env) λy hy hk=>I.ok.has y.1 (hf y hy hk);have hg:s.heap.Ns lw X.mg:=I.mod.glob.keeps I.bk;have Ľ:s.heap.get? P=am (El ps):=I.a8 P _ eP;have gne:lw≠P:=λz=>by
  obtain⟨o,es,ep,g1,g2,_⟩:=hg;rw[z,Ľ]at g1;cases g1;cases g2
 have bl:s.heap.BuiltinsAt X.mg P:=by
  obtain⟨bm,ob,b1,b2,b3,b4,b5,b6⟩:=I.mod.bm;have b7:=I.bk _ _ b3;refine⟨bm,ob,b1,b2,λz=>?_,λz=>?_,b7,b4,b5,b6⟩
  ·obtain⟨o,es,ep,g1,g2,_⟩:=hg;rw[z,g1]at b7;cases b7;rw[g2]at b6;cases b6
  ·rw[z,Ľ]at b7;cases b7;cases b4
 refine PySem.W.kla_eval hd ?_;rw[<- hq];cases e:PP pos ps.toList with
 | some cv=>
  obtain⟨ca,co,u,vs,t,rfl,e1,e2,e3⟩:=ck pos cv e;refine PySem.W.kla_makeFunctionHit yO I.ok.glob hg hcv (chd _ I.o8) Ľ tr e bl λtJ h' tk kp hsz=>?_;exact J2 (L:=L) (s:=s) (I.kept (t':=tk) (h':=h') kp) tb e1 ⟨vs,t,e2,e3⟩ qC Hi λa fz H' s' I' n z t' sm=>h a fz H' s' I' n z t' (λb o z _=>sm b o z) λb z=>sm.free z
 | none=>
  refine PySem.W.kla_makeFunction yO I.ok.glob hg hcv (chd _ I.o8) Ľ tr e gne bl λc' tJ h' tk ext h1 h2 cr à=>?_;obtain⟨_,co,vs,t,e0,e1,e2,e3⟩:=cr;cases e0;have hn:H c'=ce:=I.a8.fresh h1;have cP:c'≠P:=λz=>by subst z;rw[hn]at eP;cases eP
  obtain⟨tr',ck'⟩:=Jf (x:=pos.line) (y:=pos.col) (c:=.ref c') _ _ (Ak _) tr;have Ŀ:upd (upd H P (.tZ (ps++#[sn pos.line,sn pos.col,.ref c']))) c' (.bN co (.own 0)) P=am (.tZ (ps++#[sn pos.line,sn pos.col,.ref c'])):=by rw[aq (BU cP)];exact aD
  have ot:∀b u,b≠P->H b=am u->upd (upd H P (.tZ (ps++#[sn pos.line,sn pos.col,.ref c']))) c' (.bN co (.own 0)) b=am u:=λb u n z=>by
   rw[aq (bC z hn),aq n];exact z
  have IP:upd (upd H P (.tZ (ps++#[sn pos.line,sn pos.col,.ref c']))) c' (.bN co (.own 0)) c'=am (.bN co (.own 0)):=aD;have on:∀b,b≠c'->H b=ce->upd (upd H P (.tZ (ps++#[sn pos.line,sn pos.col,.ref c']))) c' (.bN co (.own 0)) b=ce:=λb n z=>by
   rw[aq n,aq (λy=>by subst y;rw[z]at eP;cases eP)];exact z
  have inv:∀b u,upd (upd H P (.tZ (ps++#[sn pos.line,sn pos.col,.ref c']))) c' (.bN co (.own 0)) b=am u->(b=c'/\u=.bN co (.own 0))\/(b=P/\u=.tZ (ps++#[sn pos.line,sn pos.col,.ref c']))\/(b≠P/\H b=am u):=λb u z=>by
   by_cases y1:b=c'
   ·subst y1;rw[aD]at z;cases z;exact .inl ⟨rfl,rfl⟩
   ·rw[aq y1]at z;by_cases y2:b=P
    ·subst y2;rw[aD]at z;cases z;exact .inr (.inl ⟨rfl,rfl⟩)
    ·rw[aq y2]at z;exact .inr (.inr ⟨y2,z⟩)
  generalize upd (upd H P (.tZ (ps++#[sn pos.line,sn pos.col,.ref c']))) c' (.bN co (.own 0))=H1 at Ŀ ot IP on inv;have ą:∀b u,H b=am u->u.nt=true->b≠P:=λb u z nt y=>by subst y;rw[eP]at z;cases z;cases nt
  have ext':∀b o,H b=ce->s.heap.get? b=am o->h'.get? b=am o:=λb o n z=>ext b o (λy=>by subst y;rw[n]at eP;cases eP) z;have lt':∀b o,s.heap.get? b=am o->b≠c':=λb o z=>AA (AE (Aq z) h1);have un:Un X.fs [] H H1 s.heap h':=by
   refine⟨λb o z n _ _=>ext' b o n z,λb o z n _ _=>⟨o.slots,ext' b o n z⟩,λb o z n _=>on b (lt' b o z) n,λb o z _=>?_,λb xs z=>ot b _ (ą b _ z rfl) z,λb o u z=>ot b _ (ą b _ z rfl) z,λb qs z=>?_⟩
   ·by_cases y:b=P
    ·subst y;exact⟨_,à⟩
    ·exact⟨o,ext b o y z⟩
   ·by_cases y:b=P
    ·subst y;rw[eP]at z;cases z;exact⟨_,Ŀ⟩
    ·exact⟨#[],by rw[ot b _ y z];simp⟩
  have a8:mU X.prog X.w H1 h':=λb u z=>by
   rcases inv b u z with⟨rfl,rfl⟩ | ⟨rfl,rfl⟩ | ⟨y,z⟩
   ·exact⟨e1,_,e1⟩
   ·exact à
   ·refine(I.a8 b u z).xk (λd v hd q=>ext d v (λw=>?_) q) (λd q=>ot d _ (ą d _ q rfl) q) λd xs q=>ot d _ (ą d _ q rfl) q;rcases hd with hd | hd
    ·exact y (hd.symm.trans w)
    ·subst w;rw[eP]at hd;cases hd
  have I1:Inv X Z σ H1 {s with heap:=h',toks:=tk}:=I.un (t':=tk) un a8;have ň:TB H1:=λp hp=>by
   obtain⟨qs,k1,k2,k3⟩:=tb p hp;have tr1:∀cv,FzC H cv p.2->FzC H1 cv p.2:=λcv ⟨a,o,u,vs,t,f1,f2,f3,f4⟩=>⟨a,o,u,vs,t,f1,ot a _ (ą a _ f2 rfl) f2,f3,f4⟩;by_cases y:p.1=P
   ·rw[y,eP]at k1;cases k1;refine⟨_,by rw[y];exact Ŀ,by simpa using tr',λË d hd=>?_⟩;rcases ck' Ë d (by simpa using hd) with z | rfl
    ·exact tr1 _ (k3 Ë d z)
    ·rw[hP.2 p hp y];exact⟨c',co,_,vs,t,rfl,IP,e2,e3⟩
   ·exact⟨qs,ot _ _ y k1,k2,λË d z=>tr1 _ (k3 Ë d z)⟩
  exact J2 (L:=L) (s:=s) I1 ň IP ⟨vs,t,e2,e3⟩ qC Hi λa fz H' s' I' n z t' sm=>h a fz H' s' I' n z t' (λb o z nt=>sm b o (ot b o (ą b o z nt) z)) λb z=>by
   have z':=sm.free z;cases y:H b with
   | none=>rfl
   | some u=>
    by_cases w:b=P
    ·subst w;rw[Ŀ]at z';cases z'
    ·rw[ot b u w y]at z';cases z'
end
def Nw(is:O Nat)(σ:L2.St):O V:=is.map λi=>((σ[i]?).join).getD .aJ
def fAL(X:Cx)(K:Ab)(fs:br)(L:Lm)(is:O Nat)(qs:O PV)(k1 k2:O AK)(w:W (O PV)):TA:=λσ H Q=>aU K H σ fs/\w.run λl=>∀vs H' a fz,de σ fs H H'->aU K H' σ fs->IH X L a fz->PK H' fz->eF K σ fs H' vs (k1++.f a (Nw is σ) qs fz::k2) l->Q vs H'
structure AFL(X:Cx)(K:Ab)(fs:br)(es:List r9)(L:Lm)(is:List Nat)(qs:List PV)(k1 k2:List AK){R:Type}(B:(List PV->W R)->W R):Prop where
 p:∃w:W (List PV),PA X es (fAL X K fs L is qs k1 k2 w)/\∀k,B k=ap w k
section
variable{L:Lm}{k1 k2:O AK}{R:Type}{B:(O PV->W R)->W R}{P:f8}
theorem Pr(sr:aU K H σ fs):∀{is:O Nat}{qs:O PV},is.map (λi=>fs[i]?)=qs.map (λq=>am (am (SL.val q)))->aG K [] H (Nw is σ) qs
 | [],[],_=>.nil
 | [],_::_,h=>by simp at h
 | _::_,[],h=>by simp at h
 | i::is,q::qs,h=>by
  injection h with h1 h2;obtain⟨u,e1,r⟩:=sr.at' i _ h1;rcases r with⟨v,e,r⟩ | ⟨a,_,r⟩
  ·cases e;refine .cons ?_ (Pr sr h2);show VR K [] H (((σ[i]?).join).getD .aJ) q;rw[e1];exact r
  ·exact r.elim
def Wo(N:O Str)(so sl:re)(is:O Nat)(ys:O Str):Prop:=is.map (λi=>N[i]?)=ys.map am/\(∀y∈ys,so.names.lookup y=am .cell/\(y,Bk)∈sl.names)/\∀y∈sl.names,y.2=.free->y.1∈ys
instance {N:O Str}{so sl:re}{is:O Nat}{ys:O Str}:Decidable (Wo N so sl is ys):=inferInstanceAs (Decidable (_/\_/\_))
def adj{ar:Arguments}{bd:r9}{sc:re}(q:Str)(ys:O Str)(hK:RP X.K X.mg X.env.code P)(hP:PJ P q)(hN:Wo X.N X.env.scope sc is ys)(hr:AF X K fs es k2 B)(hc:‹is.map (λi=>fs[i]?)=qs.map λq=>am (am (SL.val q))›)(hq:‹q=X.env.qual++"<lambda>"›)(hd:‹defaultsOf ar X.env=([],[])›)
  (nA:‹nn (.Lambda ar bd sc pos::es) X.env=(false,pr (.Lambda ar bd sc pos) X.env)::nn es X.env›):AFL X K fs (.Lambda ar bd sc pos::es) ⟨q,ar,bd,sc⟩ is qs [] k2 B:=by
 obtain⟨w,hp,hB⟩:=hr.p;refine⟨w,λË Z s σ H Q I ⟨sr,q⟩=>?_,hB⟩;rw[nA];refine B2 (ab3 (L:=⟨_,ar,bd,sc⟩) I sr.tb hK hq hP hd (λy hy hk=>.inl (hN.2.1 _ (hN.2.2 y hy hk)).1) λa fz H1 s1 I1 now z1 ň kp th=>?_);have g1:de σ fs H H1:=⟨λb o e _ nt=>kp b o e nt,th⟩;have tk:=g1.dM sr;have Ă:aU K H1 σ fs:=⟨sr.len,λi t e=>let ⟨u,h1,h2⟩:=sr.at' i t e;⟨u,h1,h2.mono tk λx b o _ _ _ z nt=>kp b o z nt⟩,sr.nd,ň⟩;refine bV (hp Ë Z s1 σ H1 (λvs H2=>Q (.ref a::vs) H2) I1 ⟨Ă,w.mono (λl q1 vs H2 g2 s2 r2=>?_) q⟩) λus s2 ⟨vs,H2,I2,r2,q2⟩=>⟨.ref a::vs,H2,I2,.cons rfl r2,q2⟩;have z2:=z1.tk (g2.dM Ă);exact q1 _ H2 a fz (g1.trans g2) s2 now z2 (.f (Pr s2 hc) z2 r2)
def Py{w:W PV}(ha:EF X K fs e w)(hr:AFL X K fs es L is qs k1 k2 B)(nA:‹fR X e es›):AFL X K fs (e::es) L is qs (.v::k1) k2 (λk=>.bind w λx=>B λl=>k (x::l)):=by
 obtain⟨wr,hp,hB⟩:=hr.p;refine⟨.bind w λx=>.bind wr λl=>.ret (x::l),PA.imp (aX ha.p hp nA) λσ H Q ⟨sr,q⟩=>?_,λk=>by simp[hB]⟩;exact⟨sr,w.mono (λx q1 u1 H1 g1 s1 v1=>⟨s1,wr.mono (λl q2 vs H2 a fz g2 s2 n z v2=>q2 _ H2 a fz (g1.trans g2) s2 n z (.v (g2.vr s1 v1) v2)) q1⟩) q⟩
theorem Rq{B:(O PV->W PV)->W PV}(bi:Binds X.K fd ps [])(kp:B6 X.K (.ref f)=true)(hm:X.mg x=am (.ref f))
  (G:∀K1 a us fz,Wl L ys K1 a us fz->us.length=qs.length->eG X.prog X.w X.K X.mg K1 oM k f fd ps (xn K (k1++.f a us qs fz::k2) m)) (YO:∀y,X.fn y=true) (hN:Wo X.N X.env.scope L.sc is ys) (hc:is.map (λi=>fs[i]?)=qs.map λq=>am (am (SL.val q))) (hr:cI k' X.A) (ha:AFL X K fs (e::es) L is qs k1 k2 B) (hk:k<=k':=by first | exact A8 rfl | exact Ak _ | omega) (hW:‹W'=B m›) (hg:‹Gl X x›) (lA: ~~~(gK x))
  (he:‹fR X e es›) (dg:‹kJ X pos es›):EF X K fs (.Call (.Name x p) (e::es) [] pos) W':=by
 subst hW;obtain⟨w,hp,hB⟩:=ha.p;rw[hB];refine⟨λZ s σ H Q I ⟨sr,q⟩=>?_⟩;refine Bf (uG I hg hm ?_ lA);refine Em (h₀:=X.base) I.ok.mod.kin kp (bV (hp pos Z s σ H (λvs H1=>∃a fz l,aU K H1 σ fs/\IH X L a fz/\eF K σ fs H1 vs (k1++.f a (Nw is σ) qs fz::k2) l/\(m l).run λz=>∀u H2,GoC vs (k1++.f a (Nw is σ) qs fz::k2) H1 H2->VR K [] H2 u z->Q u H2) I ⟨sr,w.mono (λl q1 vs H1 a fz g1 s1 n z r=>⟨a,fz,l,s1,n,r,(m l).mono (λz q2 u H2 g2 r2=>let ⟨s2,g3⟩:=g2.caller r s1;q2 u H2 (g1.trans g3) s2 r2) q1⟩) q⟩)
  λus s1 ⟨vs,H1,I1,r,a,fz,l,Ă,⟨cl,pm,c,tJ,co,efz,Ī,h1,h2⟩,ar,q1⟩=>⟨I1.o8,?_⟩) he dg
 obtain⟨hN1,ū,hN3⟩:=hN;have cy:∀x c,cl.lookup x=am c->x∈ys:=λx c z=>hN3 _ (h1 x c z).2 rfl;have cin:∀x c,cl.lookup x=am c->c∈ys.filterMap λy=>cl.lookup y:=λx c z=>CW.mpr ⟨x,cy x c z,z⟩;have e1:=I1.akG (cs:=ys.filterMap λy=>cl.lookup y) λc hc=>by
  obtain⟨y,hy,z⟩:=CW.mp hc;exact⟨y,YO y,(h1 y c z).1⟩
 have bc:∀x c v,cl.lookup x=am c->s1.heap.IsCell c v->(tL X.base s1.heap (ys.filterMap λy=>cl.lookup y)).IsCell c v:=λx c v z ⟨o,z1,z2⟩=>⟨o,zh z1 (.inr (cin x c z)),z2⟩;have À:is.length=qs.length:=by have:=congrArg Ca hc;simpa using this
 have lin:Wl L ys (tL X.base s1.heap (ys.filterMap λy=>cl.lookup y)) a (Nw is σ) fz:=by
  refine⟨cl,pm,c,tJ,co,efz,Ī,λx c z=>?_,λx y c z1 z2=>I.ok.inj x y c (h1 x c z1).1 (h1 y c z2).1,λi y hy=>?_⟩
  ·obtain⟨v,hv⟩:=I1.cell x c (h1 x c z).1;exact⟨v,bc x c v z hv⟩
  ·obtain⟨c',IP⟩:=h2 y (ū y (AM hy)).2;have Wx:(is.map λi=>X.N[i]?)[i]?=am (am y):=by rw[hN1,Ai,hy];rfl
   rw[Ai]at Wx;cases z:is[i]? with
   | none=>rw[z]at Wx;cases Wx
   | some j=>
    rw[z]at Wx;have hj:X.N[j]?=am y:=Option.some.inj Wx;have RY:(is.map λi=>fs[i]?)[i]?=am (fs[j]?):=by rw[Ai,z];rfl
    rw[hc,Ai]at RY;cases zq:qs[i]? with
    | none=>rw[zq]at RY;cases RY
    | some qv=>
     rw[zq]at RY;have hfj:fs[j]?=am (am (.val qv)):=(Option.some.inj RY).symm;obtain⟨v,e2,_⟩:=Ă.at' j _ hfj;obtain⟨mm,_,hl⟩:=I1.loc;obtain⟨u,ru,lk⟩:=hl j y v hj e2 (.inr (.inl (ū y (AM hy)).1));refine⟨c',v,u,IP,?_,ru,?_⟩
     ·unfold Nw;rw[Ai,z];show am (((σ[j]?).join).getD .aJ)=am v;rw[e2];rfl
     ·rcases lk with⟨k0,_⟩ | ⟨_,c2,k1,k2⟩
      ·have k0:X.env.scope.names.lookup y=am .local:=k0;rw[(ū y (AM hy)).1]at k0;cases k0
      ·rw[(h1 y c' IP).1]at k1;cases k1;exact bc y c' _ IP k2
 exact Xf (G _ a _ fz lin (by unfold Nw;rw[Ah];exact À)) e1 (hr.mono hk) bi Oz I1 r ⟨Ă.tb,l,ar.c Ă,q1⟩
structure HF(P:u8)(w:EQ)(K:Ab)(mg:Str->Option db)(n kf:Nat)(x:Str)(k:Nat)(ps:List Str)(sp:f8->List V->List PV->List (f8×Obj)->w5 PV n->Sp) where
 f:f8
 fd:FS
 bi:Binds K fd ps []
 kp:B6 K (.ref f)=true
 at':mg x=am (.ref f)
 ok:∀{pl:List Str}{qs:List PV}{g:w5 PV n} (b:sw) (a:f8) (us:List V) (fz:List (f8×Obj)),Nonempty (ZC P w K mg b a us qs fz kf pl (xn K (An n .v) (kK n g)))->eG P w K mg b oM k f fd ps (sp a us qs fz g)
theorem Zc{k0:Nat}{g:w5 PV n}{m:w5 PV n->O PV->W PV}{B:(O PV->W PV)->W PV}(ha:AFL X K fs (e::es) L is qs k1 k2 B)(hN:Wo X.N X.env.scope L.sc is ys)(E:HF X.prog X.w X.K X.mg n (k0+1) x k ps λa us qs fz g=>xn K (k1++.f a us qs fz::k2) (m g))(hr:cI k' X.A)
  (Æ:∀(b:sw) {a:f8}{cl:O (Str×f8)}{cv:db}{A:ww}{outer:O Env}{s:ii}{H:Hp},cI k0 (A.deeper (Ef L.q L.sc s.heap.objs.size a cv cl))->Lr n (λl w=>EF (cxL X.prog X.w X.K X.mg b (pl++ys) L a cl cv A outer s H) X.K (Us (l++qs)) L.bd w) g)
  (hX:‹X.K=K›) (hb:∀(cl:O (Str×f8)) (pm cv tJ:db) (us:O db),us.length=pl.length->P3 (L.fn cl pm cv tJ) ⟨us,[]⟩=pure (pl.zip us):=by exact λ_ _ _ _=>usN (by (repeat intro _);rfl))
  (S:aha pl ys L.sc:=by exact⟨rfl,rfl,rfl,by decide +kernel,by decide +kernel,by decide +kernel,by decide +kernel,by decide +kernel⟩) (hn:‹n=pl.length›) (hy:‹qs.length=ys.length›) (YO:∀y,X.fn y=true:=by exact λ_=>rfl) (hc:‹is.map (λi=>fs[i]?)=qs.map λq=>am (am (SL.val q))›) (hk:k<=k':=by first | exact A8 rfl | exact Ak _ | omega) (hW:‹W'=B (m g)›) (hg:‹Gl X x›) (lA: ~~~(gK x))
  (he:‹fR X e es›) (dg:‹kJ X pos es›):EF X K fs (.Call (.Name x p) (e::es) [] pos) W':=by
 subst hX;exact Rq E.bi E.kp E.at' (λb a us fz LI hl=>E.ok b a us fz (acL LI S hn hl hy hb λl e cl cv A outer s H hr=>(Æ b hr).all l e)) YO hN hc hr ha hk hW hg lA he dg
end
end
end FL
variable{o:Option L2.HO}{ts:O Bm}
namespace L2
def LA.okc{K:Ab}{st:ut}{N:O Str}(F:LA K x qual st f fd)(S:c7 N ps (ay st))(len:∀vs H Q E,sp vs H Q E->vs.length=ps.length)
  (Kg:∀(cV:db) (A:ww) (outer:O Env) (s:ii) (H:Hp) (vs:O V) (Q:VK) (E:XK),fd.code=cV->cI k (A.deeper (Fa qual (ay st) s.heap.objs.size f cV))->sp vs H Q E->
   ∃t,q9 (qR oM P w K mg base N qual (ay st) f cV A outer s H E).Qy (bE st) t/\t {nx:=λ_ H'=>Q .aJ H',rt:=Q} (start N vs) H):eG P w K mg base oM (k+1) f fd ps sp:=by
 obtain⟨oc,od,kV,É,pm,an,cV,ct,Qw,rfl,lk,g9⟩:=F.ex;refine aaq lk g9 S len λA outer s H vs Q E hr UY=>?_;obtain⟨t,h,q⟩:=Kg cV A outer s H vs Q E rfl hr UY;exact⟨t,h.Qy,q⟩
def LQ(ts:O f8)(a:f8)(o:Option HO):Hp:=λb=>if b∈ts then am (.tZ #[]) else if b=a then o else ce
def Su(h:b∈ts):LQ ts a o b=am (.tZ #[]):=if_pos h
def aaY(h:a∉ts):LQ ts a o a=o:=by unfold LQ;rw[if_neg h,if_pos rfl]
def pH{u:HO}(h:LQ ts a o b=am u):(b∈ts/\u=.tZ #[])\/(b=a/\o=am u):=by
 unfold LQ at h;by_cases c:b∈ts
 ·rw[if_pos c]at h;cases h;exact .inl ⟨c,rfl⟩
 ·rw[if_neg c]at h;by_cases d:b=a
  ·rw[if_pos d]at h;exact .inr ⟨d,h⟩
  ·rw[if_neg d]at h;cases h
def QS{K:Ab}{mb:Str->Option db}{fa:f8}{s₁:ii}
  (KX:K.In s₁.heap) (MU:s₁.heap.Ns lw mg) (hb:s₁.heap.Ns KB mb) (hbb:∀x:Str,x≠"__name__"->mb x=sK x) (aj3:s₁.heap.NoLimit) (hbm:∃bm ob,mg "__builtins__"=am (.ref bm)/\bm≠KB/\s₁.heap.get? bm=am ob/\ob.cls=.type "module"/\ob.dict=am KB/\ob.data=.plain) (hg:s₁.gens=#[])
  (ha:s₁.heap.get? a=am {cls:=.type "list",data:=.seq vs.toArray}) (hi:zn vs ns) (hl:ns.length<=sizeLine) (hr:cI k callerA) (ht:∀P∈ts,s₁.heap.get? P=am (El #[])) (htK:∀P∈ts,K.lookup P=ce) (htC:∀P∈ts,isCodeTable s₁.heap P)
  (F:∀base:sw,K.In base->base.Ns lw mg->eG P w K mg base oM k fa fd [x] sp) (agh:∀(s:ii) (u:db),BindsTo s fd ⟨[u],[]⟩ [(x,u)])
  (UY:∀H:Hp,(∀P∈ts,H P=am (.tZ #[]))->PL.WC K H a (ns.map V.int)->sp [.ref a] H (λv _=>v=.bl true) λ_ _ _=>False) :
  GT (lc P w) callerA (.call (.ref fa) ⟨[.ref a],[]⟩) (λr s'=>r=.ok (.ret (.bool true))/\OldK s₁.heap s'.heap/\s'.os=s₁.os/\Rs s'.gens) s₁:=by
 have rv:=mX hi;have ajt:=hi.length;have Ö:∀H:Hp,(∀P∈ts,H P=am (.tZ #[]))->PL.WC K H a (ns.map V.int)->mU P w H s₁.heap->(∀b o,H b=am o->(b∈ts/\o=.tZ #[])\/(b=a/\K.lookup a=ce/\∃o' u,o=.bN o' u))->
   GT (lc P w) callerA (.call (.ref fa) ⟨[.ref a],[]⟩) (λr s'=>r=.ok (.ret (.bool true))/\OldK s₁.heap s'.heap/\s'.os=s₁.os/\Rs s'.gens) s₁:=by
  intro H hT hS a8 hA;have Ii:∀{b:f8}{o:Obj},s₁.heap.get? b=am o->H b=ce->(Hh s₁.heap H).get? b=am o:=λe n=>U2 e n;have Ĝ:∀{b:f8}{o:Obj}{es:Array DictEntry}{ep:Nat},s₁.heap.get? b=am o->o.data=.dict es ep->H b=ce:=λ{b o es ep} e d=>by
   cases q:H b with
   | none=>rfl
   | some u=>
    rcases hA b u q with⟨z,_⟩ | ⟨z,_⟩
    ·rw[ht b z]at e;cases e;cases d
    ·subst z;rw[ha]at e;cases e;cases d
  have ĵ:∀{b:f8}{m:Str->Option db},s₁.heap.Ns b m->(Hh s₁.heap H).Ns b m:=λ{b m} ⟨o,es,ep,e,d,r⟩=>⟨o,es,ep,Ii e (Ĝ e d),d,r⟩;have hKb:K.In (Hh s₁.heap H):=λb o e=>Ii (KX b o e) (by
   cases q:H b with
   | none=>rfl
   | some u=>
    rcases hA b u q with⟨z,_⟩ | ⟨z,z2,_⟩
    ·rw[htK b z]at e;cases e
    ·subst z;rw[z2]at e;cases e)
  have hM:Mod K mg (Hh s₁.heap H):=⟨hKb,ĵ MU,⟨mb,ĵ hb,hbb⟩,let ⟨mc,h1,h2⟩:=aj3;⟨mc,ĵ h1,h2⟩,let ⟨bm,ob,h1,h2,h3,h4,h5,h6⟩:=hbm;⟨bm,ob,h1,h2,Ii h3 (by
   cases q:H bm with
   | none=>rfl
   | some u=>
    rcases hA bm u q with⟨z,_⟩ | ⟨z,_⟩
    ·rw[ht bm z]at h3;cases h3;cases h6
    ·subst z;rw[ha]at h3;cases h3;cases h6),h4,h5,h6⟩⟩
  have e0:IK P w K mg (Hh s₁.heap H) callerA [] s₁ H:=⟨rfl,hM,λb o e=>X3 e,Fe (Ra _ _),trivial,λb hb=>absurd (show b∈([]:O f8) from hb) (by simp),a8,.of_eq hg⟩;refine FB ((F _ hKb (ĵ MU)).run callerA [] s₁ H ⟨[.ref a],[]⟩ [.ref a] [.ref a] _ _ hr e0 (agh s₁ (.ref a)) (.cons rfl .nil) (UY H hT hS)) λr s' h=>?_;cases r with
  | error e=>exact h.elim
  | ok fl=>
   cases fl with
   | next=>exact Bb h
   | brk=>exact Bb h
   | cont=>exact Bb h
   | ret u=>
    obtain⟨v,H',os,bare,un,af2,r',q⟩:=h;have q':v=.bl true:=q;subst q';obtain rfl:u=E6 true:=r';refine⟨rfl,⟨λb o e=>?_,λb o e=>un.there b o e (by simp)⟩,os,bare⟩;cases q:H b with
    | none=>exact .inl (un.keep b o e q (by intro z;exact absurd (show b∈([]:O f8) from z) (by simp)) (by simp))
    | some u=>
     rcases hA b u q with⟨z,rfl⟩ | ⟨z,_,o',u',rfl⟩
     ·obtain⟨more,h2⟩:=un.xj b _ q;have h3:s'.heap.get? b=am (El (#[]++more)):=af2 b _ h2;rw[ht b z]at e;cases e;exact .inr (.inl ⟨htC b z,rfl,#[],more,rfl,h3⟩)
     ·have z2:=un.vV b _ _ q;obtain⟨e1,_⟩:=a8 b _ q;obtain⟨e2,_⟩:=af2 b _ z2;rw[e]at e1;cases e1;exact .inl e2
 have naT:a∉ts:=λz=>by rw[ht a z]at ha;cases ha
 cases hk:K.lookup a with
 | some o=>
  have e:=KX a o hk;rw[ha]at e;cases e;refine Ö (LQ ts a ce) (λb hb=>Su hb) (.inr ⟨_,vs.toArray,_,hk,rfl,rfl,rfl,by rw[Aj,ajt];exact hl,by simpa using rv⟩) (λb u z=>?_) λb u z=>?_
  ·rcases pH z with⟨y,rfl⟩ | ⟨_,y⟩
   ·exact ht b y
   ·cases y
  ·rcases pH z with⟨y,rfl⟩ | ⟨_,y⟩
   ·exact .inl ⟨y,rfl⟩
   ·cases y
 | none=>
  refine Ö (LQ ts a (am (.bN {cls:=.type "list",data:=.seq vs.toArray} (.lst (ns.map V.int))))) (λb hb=>Su hb) (.inl ⟨{cls:=.type "list",data:=.seq vs.toArray},aaY naT⟩) (λb u z=>?_) λb u z=>?_
  ·rcases pH z with⟨y,rfl⟩ | ⟨rfl,y⟩
   ·exact ht b y
   ·cases y;exact⟨ha,by rw[Ah];exact hl,vs,_,rv,ha⟩
  ·rcases pH z with⟨y,rfl⟩ | ⟨rfl,y⟩
   ·exact .inl ⟨y,rfl⟩
   ·cases y;exact .inr ⟨rfl,hk,_,_,rfl⟩
end L2
variable{P c:Bm}
namespace FL
section
variable[bU]
abbrev EV.at(v:EV)(b:sw):EV:=⟨v.P,v.w,v.K,v.mg,b⟩
def DI.at(D:DI v d)(b:sw):DI (v.at b) d:=⟨D.f,D.fd,D.fn,D.bi,D.at'⟩
def ajs{st:ut}{m:w5 PV n}(D:DI v ⟨x,st,IL st,k+1,λK=>xn K ks (kK n m)⟩)(hc:RP v.K v.mg D.fd.code P)
  (Æ:∀{cV:db}{A:ww}{outer:O Env}{s:ii}{H:Hp}{E:XK},RP v.K v.mg cV P->cI k (A.deeper (Fa x (ay st) s.heap.objs.size D.f cV))->(yB st).Nodup->Lr n (λl w=>SF (qR oM v.P v.w v.K v.mg v.base (yB st) x (ay st) D.f cV A outer s H E).Qy v.K false (wG ks l (yB st).length) (bE st) w .rt) m)
  (YN:‹ks.length=(IL st).length›) (one:‹Nat.ble (JJ ks) 1=true›) (S:c7 (yB st) (IL st) (ay st):=by exact fsc):D.O:=by
 refine D.fn.okc S (λvs H Q E h=>?_) (λcV A outer s H vs Q E ec hr h=>?_)
 ·obtain⟨_,l,h,_⟩:=h;rw[h.len];exact YN
 obtain⟨tb,l,h,q⟩:=h;subst ec;exact⟨_,((Æ hc hr S.nd).all l (gM q)).p,h.beg tb (ve one) (yB st),(kK n m l).mono (λv q1 u σ' bL H' g s' r=>q1 u H' (h.go g s') r) q⟩
def ahg(vs:Array db)(c P:f8):Prop:=∃þ tf Ü tg ŕ æ tt,vs[11]?=am (.ref P)/\vs.getD 11 .none=.ref P/\vs.getD 18 .none=.str þ tf/\vs.getD 7 .none=.int Ü tg/\vs.getD 9 .none=.bool ŕ/\vs.getD 10 .none=.int æ tt/\c≠P
structure DXc(K:Ab)(x:Str)(st:ut)(P:f8):Prop where
 ex:∃f fd,AH K lw x=am (am (.ref f))/\LA K x x st f fd/\∃c,fd.code=.ref c/\(∀h:sw,K.In h->PySem.W.CodeHd h c P)/\∀h:sw,K.In h->isCodeTable h P
def dxc{K:Ab}{st:ut}{cd:Option f8}{sl:Array (Option db)}{kV:db}{vs:Array db}(a:AH K lw x=am (am (.ref f)))(l:K.lookup f=am ⟨oc,od,.func (BO x x (dG st) (bE st) (ay st) .none kV É pm an (.ref c) ct),Qw⟩)
  (h:C6 K (.ref c) x=true) (k:B6 K (.ref f)=true) (e:K.lookup c=am ⟨.type "code",cd,.fields vs,sl⟩) (z:ahg vs c P):DXc K x st P:=
 ⟨f,_,a,M6 l h k,c,rfl,λhp hK=>let ⟨þ,tf,Ü,tg,ŕ,æ,tt,z⟩:=z;⟨_,vs,þ,tf,Ü,tg,ŕ,æ,tt,hK _ _ e,rfl,rfl,z⟩,λhp hK=>let ⟨_,_,_,_,_,_,_,z,_⟩:=z;⟨c,_,vs,hK _ _ e,rfl,rfl,z⟩⟩
def DXc.mk3(D:DXc v.K d.x d.s P)(X:v.K.In h)(G:h.Ns lw v.mg)
  (hb:∀(kV É pm:db) (an:Option f8) (cV ct:db) (us:O db),us.length=d.ps.length->P3 (BO d.x d.x (dG d.s) (bE d.s) (ay d.s) .none kV É pm an cV ct) ⟨us,[]⟩=pure (d.ps.zip us):=by exact λ_ _ _ _ _ _=>usN (by (repeat intro _);rfl)):∃D:DI v d,RP v.K v.mg D.fd.code P:=by
 obtain⟨f,fd,a,F,c,hc,hd,_⟩:=D.ex;exact⟨⟨f,fd,F,F.binds hb,BM X G a⟩,⟨⟨c,hc,hd⟩⟩⟩
def DXc.tab{K:Ab}{st:ut}(D:DXc K x st P)(hK:K.In h):isCodeTable h P:=let ⟨_,_,_,_,_,_,_,z⟩:=D.ex;z h hK
def walkT{l:PySem.W.OpenLaw}{q:u8}{d:DefRec}{K:Params->Ab}(hn:l.most=am 63)(Ũ:d.params.defaults=[])(hr:cI k callerA)
  (hY:∀(w:EQ) (h:sw),YP w h->(K w.params).In h/\∀P∈bU.ts.map (·.1),h.get? P=am (El #[])) (hK:∀w:EQ,∀P∈bU.ts.map (·.1),(K w.params).lookup P=ce) (hC:∀(w:EQ) (h:sw),(K w.params).In h->∀P∈bU.ts.map (·.1),isCodeTable h P)
  (F:∀(w:EQ) (mg:Str->Option db) (fa:f8) (h:sw),(K w.params).In h->h.Ns lw mg->mg d.name=am (.ref fa)->
   ∃fd:FS,(∀(s:ii) (u:db),BindsTo s fd ⟨[u],[]⟩ [("_law_script",u)])/\∀base:sw,(K w.params).In base->base.Ns lw mg->eG l.prog w (K w.params) mg base oM k fa fd ["_law_script"] (SI (K w.params))) :
  PySem.W.WalkO q Ù XP YP l.row.toRowW d [] (λf vs=>PySem.call f vs):=by
 refine Att.K3 hn Ũ λw s₀ s₁ mg mb fa o pm cd É a vs ns G Y ho hd g9 hmg Ų Û À hg=>?_;obtain⟨KX,hT⟩:=hY w _ Y;obtain⟨fd,hb,hF⟩:=F w mg fa _ KX G.T.g hmg;exact QS KX G.T.g G.T.b G.T.builtins G.T.nolimit G.T.bmain hg Ų Û (BG À ⋯) hr hT (hK w) (hC w _ KX) hF hb λH Ł hS=>⟨λp hp=>⟨#[],Ł _ (Au.mpr ⟨p,hp,rfl⟩),trivial,λpos c z=>by simp[PP]at z⟩,a,ns,rfl,hS,À,λ_=>rfl⟩
def forK{K:Ab}(P:Ab->Prop)(_:K.In h)(p:P K):P K:=p
end
end FL
variable{f:Bz}{fd:O (Bz×FL.FD)}{d:FL.FD}
namespace FL
section
variable[bU]
def UO{P:u8}{C dx:f8}{fs:O (Str×V)}(a8:mU P w H h)(e:Rd H a (.ins C dx fs)):∃mA,NT h a dx C mA/\∀f,sR (fs.lookup f) (mA f):=by
 obtain⟨d,z,ne,ob,mA,n,r,q⟩:=(show bh P w H h a (.ins C dx fs) from e.elim (a8 a _) λ⟨_,z⟩=>(a8 a _ z).2);exact⟨mA,⟨ob,n,ne⟩,r⟩
def aey(K:Ab)(ta:TE)(f:Str):TE:=λσ H Q=>ta σ H λx H1=>∃a C dx fs v,x=.ref a/\Rd H1 a (.ins C dx fs)/\RQ K C/\fC K C f/\fs.lookup f=am v/\Q v H1
def XH(he:PE X e ta)(hb:pc e f X.env (pr e X.env)=pr e X.env):PE X (.Attribute e f pos) (aey X.K ta f):=by
 intro Z s σ H Q I h;refine Pw hb (bV (he Z s σ H _ I h) λu s1 ⟨x,H1,I1,rx,a,C,dx,fs,v,ex,ea,c,n,l,q⟩=>?_);subst ex;obtain rfl:u=Ay a:=rx;obtain⟨mA,O_,r⟩:=UO I1.a8 ea;obtain⟨u,hu,ru⟩:=sR.some_of (v:=v) (o:=mA f) (by rw[<- l];exact r f);exact get_map I1.o8 O_ (c.get f) c.hd n hu (yP ru) ⟨v,H1,I1.tok _,ru,q⟩
def qG(f:Str):O Str->O PV->Option PV
 | n::ns,p::ps=>if f==n then am p else qG f ns ps
 | _,_=>ce
def lZ(f:Str):PV->W PV
 | .ob ns l=>.OE (qG f ns l)
 | _=>.fail
theorem Kv{K:Ab}{p:PV}:∀{fs:O (Str×V)}{l:O PV},aG K ι H (fs.map (·.2)) l->qG f (fs.map (·.1)) l=am p->f∈fs.map (·.1)/\∃v,fs.lookup f=am v/\VR K ι H v p
 | [],_,.nil,h=>by cases h
 | (n,v)::fs,q::l,.cons r s,h=>by
  rw[Ar,qG]at h;rw[A1];cases hn:f==n with
  | true=>rw[hn]at h;cases h;exact⟨by simp[eq_of_beq hn],v,rfl,r⟩
  | false=>
   rw[hn]at h;obtain⟨h1,h2⟩:=Kv s h;exact⟨AN _ h1,h2⟩
def KD{K:Ab}{a:r9}(hK:X.K=K)(ha:EF X K fs a wa)(hb:‹pc a f X.env (pr a X.env)=pr a X.env›):EF X K fs (.Attribute a f pos) (.bind wa (lZ f)):=
 ⟨PE.imp (XH ha.p hb) λσ H Q ⟨sr,q⟩=>⟨sr,wa.mono (λx q1 u1 H1 g1 s1 v1=>by
  cases v1 with
  | @ob a C dx o ws ns l e c na en r=>
   cases hp:qG f ns l with
   | none=>rw[lZ,hp]at q1;exact q1.elim
   | some p=>
    rw[lZ,hp]at q1;subst en;obtain⟨h1,v,h2,h3⟩:=Kv r hp;exact⟨a,C,dx,ws,v,rfl,.inr ⟨_,e⟩,hK▸c,hK▸na f h1,h2,q1 _ H1 g1 s1 h3⟩
  | _=>exact q1.elim) q⟩⟩
section
variable{K:Ab}{H0:Hp}
def ma(f:Str):O (Str×FD)->Option FD
 | []=>ce
 | (n,d)::l=>if f==n then am d else ma f l
def oB.look{p:PV}(h:oB K H ws fd)(e:ma f fd=am (.v p)):∃u,ws.lookup f=am u/\VR K [] H u p:=by
 induction h with
 | nil=>cases e
 | @v n u q ws fd r t ih=>
  rw[ma]at e;rw[A1];cases hn:f==n with
  | true=>rw[hn]at e;cases e;exact⟨u,rfl,r⟩
  | false=>rw[hn]at e;exact ih e
 | @o n b vs l ws fd e1 r t ih=>
  rw[ma]at e;rw[A1];cases hn:f==n with
  | true=>rw[hn]at e;cases e
  | false=>rw[hn]at e;exact ih e
def oB.Uk(h:oB K H ws fd)(e:ma f fd=am (.o b l)):ws.lookup f=am (.ref b)/\b∈iH fd/\∃vs,H b=am (.lst vs)/\aG K [] H vs l:=by
 induction h with
 | nil=>cases e
 | @v n u q ws fd r t ih=>
  rw[ma]at e;rw[A1];cases hn:f==n with
  | true=>rw[hn]at e;cases e
  | false=>rw[hn]at e;exact ih e
 | @o n b' vs l' ws fd e1 r t ih=>
  rw[ma]at e;rw[A1];cases hn:f==n with
  | true=>rw[hn]at e;cases e;exact⟨rfl,.head _,vs,e1,r⟩
  | false=>
   rw[hn]at e;obtain⟨h1,h2,h3⟩:=ih e;exact⟨h1,.tail _ h2,h3⟩
theorem v5:∀{fd:O (Str×FD)},ma f fd=am d->(f,d)∈fd
 | [],e=>by cases e
 | (n,d')::l,e=>by
  rw[ma]at e;cases hn:f==n with
  | true=>rw[hn]at e;cases e;rw[eq_of_beq hn];exact .head _
  | false=>rw[hn]at e;exact .tail _ (v5 e)
theorem fH:∀(a b:O (Str×FD)),iH (a++b)=iH a++iH b
 | [],b=>rfl
 | (n,.v p)::a,b=>fH a b
 | (n,.o c l)::a,b=>congrArg (c::·) (fH a b)
def oB.put(h:oB K H ws fd)(n:ma f fd=ce)(h1:oB K H [(f,u)] [(f,d)]):oB K H (jP f u ws) (fd++[(f,d)]):=by
 have nf:∀{m:Str}{d':FD}{fd:O (Str×FD)},ma f ((m,d')::fd)=ce->m≠f/\ma f fd=ce:=λ{m d' fd} e=>by
  rw[ma]at e;cases hn:f==m with
  | true=>rw[hn]at e;cases e
  | false=>rw[hn]at e;exact⟨λz=>(by rw[z,beq_self_eq_true]at hn;cases hn),e⟩
 induction h with
 | nil=>exact h1
 | v r t ih=>rw[jP,if_neg (nf n).1];exact .v r (ih (nf n).2)
 | o e r t ih=>rw[jP,if_neg (nf n).1];exact .o e r (ih (nf n).2)
def oB.length(h:oB K H ws fd):ws.length=fd.length:=by
 induction h with
 | nil=>rfl
 | v r t ih=>rw[Ap,Ap,ih]
 | o e r t ih=>rw[Ap,Ap,ih]
def rX(sr:aU K H σ fs){C a0:f8}(hs:fs[i]?=am (am (.ob a0 C fd))):∃a,σ[i]?=am (am (.ref a))/\jN K H a (.ob a0 C fd):=by
 obtain⟨u,e1,r⟩:=sr.at' i _ hs;rcases r with⟨v,e,_⟩ | ⟨a,e,r⟩
 ·cases e
 ·subst e;exact⟨a,e1,r⟩
def jl(s:aU K H σ fs)(g:c6 σ fs H0 σ fs H){t':SL}(e1:fs[i]?=am (am t))(o:t.own=true)(np:∀φ,t≠.oW φ)(e2:σ[i]?=am (am (.ref a)))(hc:t.has a c)(IP:∃o,H' c=am o)(w6:∀b,t'.has a b->t.has a b\/(¬dc σ fs b/\H0 b=ce))(sx:kI c H H')(ht:a9 K H H'->jN K H' a t'):aU K H' σ (fs.set i (am t'))/\c6 σ fs H0 σ (fs.set i (am t')) H':=by
 have oa:=s.ownAt e1 o e2;obtain⟨ob,q,n1,n2,n3⟩:=oa.ex o hc;have tk:a9 K H H':=⟨λb vs z=>sx b _ (λy=>by subst y;rw[q]at z;cases z;exact n1 _ rfl) z,λb o u z=>sx b _ (λy=>by subst y;rw[q]at z;cases z;exact n2 _ _ rfl) z⟩;have ZV:=ht tk;have Gs:∀b,dc σ (fs.set i (am t')) b->dc σ fs b\/H0 b=ce:=λb z=>by
  obtain⟨j,w,x,z1,z2,z3,z4⟩:=z;rcases b9 z1 with⟨rfl,rfl⟩ | ⟨n,z1⟩
  ·rw[e2]at z3;cases z3;exact(w6 b z4).imp (λz4=>⟨j,t,a,e1,o,e2,z4⟩) λz4=>z4.2
  ·exact .inl ⟨j,w,x,z1,z2,z3,z4⟩
 refine⟨⟨by simp[s.len],λj w e=>?_,λj k w x b1 b2 b z1 z2 o1 o2 q1 q2 y1 y2=>?_,s.tb.yt sx q (TY n3) n2⟩,⟨λb ob e n=>⟨λnt=>sx b ob (λz=>by subst z;exact n ⟨i,t,a,e1,o,e2,hc⟩) ((g.keep b ob e n).1 nt),λz=>(Gs b z).elim n λy=>by rw[e]at y;cases y⟩,λb e=>g.there b ?_,λb φ p=>?_⟩⟩
 ·rcases b9 e with⟨rfl,rfl⟩ | ⟨n,e⟩
  ·exact⟨_,e2,.inr ⟨a,rfl,ZV⟩⟩
  ·obtain⟨u,h1,h2⟩:=s.at' j w e;refine⟨u,h1,h2.mono tk (λx b ob eb ow hb z _=>sx b ob (λy=>?_) z)⟩;subst y;subst eb;exact n (s.nd j i w t x a b e e1 ow o h1 e2 hb hc)
 ·by_cases ji:j=i
  ·by_cases ki:k=i
   ·rw[ji,ki]
   ·subst ji;rw[aL ki]at z2;rw[e2]at q1;cases q1;rcases b9 z1 with⟨_,rfl⟩ | ⟨n,_⟩
    ·rcases w6 b y1 with h | h
     ·exact s.nd j k t x a b2 b e1 z2 o o2 e2 q2 h y2
     ·exact absurd ⟨k,x,b2,z2,o2,q2,y2⟩ h.1
    ·exact absurd rfl n
  ·rw[aL ji]at z1;rcases b9 z2 with⟨rfl,rfl⟩ | ⟨n,z2⟩
   ·rw[e2]at q2;cases q2;rcases w6 b y2 with h | h
    ·exact s.nd j k w t b1 a b z1 e1 o1 o q1 e2 y1 h
    ·exact absurd ⟨j,w,b1,z1,o1,q1,y1⟩ h.1
   ·exact s.nd j k w x b1 b2 b z1 z2 o1 o2 q1 q2 y1 y2
 ·cases z:H b with
  | none=>rfl
  | some ob=>
   by_cases cc:b=c
   ·subst cc;obtain⟨o2,y⟩:=IP;rw[e]at y;cases y
   ·rw[sx b ob cc z]at e;cases e
 ·obtain⟨j,p1,p2⟩:=p;have ji:j≠i:=λz=>by subst z;rw[e1]at p1;cases p1;exact np φ rfl
  exact .inl ⟨j,by rw[aL ji];exact p1,p2⟩
end
end
end FL
namespace L2
def Inv.YV{σ:St}{C dx:f8}{fs:O (Str×V)}(I:Inv X Z σ H s)(e:H a=am (.ins C dx fs)):∃o,Inv X Z σ (upd H a (.bN o (.ins C dx fs))) s:=by
 obtain⟨d,z,ne,h1,q⟩:=(show bh X.prog X.w H s.heap a (.ins C dx fs) from I.a8 a _ e);exact⟨_,I.write (x:=a) (e:=a) (o:=.bN _ (.ins C dx fs)) (h':=s.heap) (t':=s.toks) (by rw[e];exact Cj) (.inl rfl) (λb u _ z=>z) ⟨_,h1⟩ ⟨h1,by rw[aq ne];exact d,z,ne,h1,q⟩⟩
end L2
variable{d':FL.FD}
namespace FL
section
variable[bU]
section
variable{K:Ab}{rest:O ut}{T:Type}{out:T->End}{x:Bool}{w:W T}{y:Str}{C a0:f8}
def VI(i:Nat){v:PV}(hs:‹fs[i]?=am (am (.ob a0 C fd))›)(hf:‹ma f fd=am (.v v)›)(hK:X.K=K:=by first | rfl | assumption)(hN:‹X.N[i]?=am y›)(hv:ye X.env.scope y:=by first | exact CN rfl | exact Cq (CN rfl) | exact Cq (Cq rfl))
  (hb:‹pc (.Name y p) f X.env (pr (.Name y p) X.env)=pr (.Name y p) X.env›) (hd: ~~~(gK y)) (g9: ~~~(zk y)):EF X K fs (.Attribute (.Name y p) f pos) (.ret v):=
 ⟨PE.imp (TJ (dm hN hv hd g9) hb) λσ H Q ⟨sr,q⟩=>by
  obtain⟨a,e1,ae,c,na,_,_,dx,ws,ea,r⟩:=rX sr hs;obtain⟨u,h1,h2⟩:=r.look hf;exact⟨_,e1,a,C,dx,ws,u,rfl,ea,hK▸c,hK▸na _ (v5 hf),h1,q _ H .refl sr h2⟩⟩
def SF.agC(i:Nat){k:PV->W T}(hs:fs[i]?=am (am (.ob a0 C fd)))(hK:X.K=K)(hN:X.N[i]?=am y)(hv:ye X.env.scope y)(he:EF X K fs e we)(hn:fC K C f)(hf:ma f fd=ce)(hl:fd.length < 1000)(hr:∀v,SF X K x (fs.set i (am (.ob a0 C (fd++[(f,.v v)])))) rest (k v) out)
  (ur:‹sB e (am (.Attribute (.Name y p) f Â)) pos.line X.env=pure false›) (hd: ~~~(gK y)) (g9: ~~~(zk y)):SF X K x fs (.Assign [.Attribute (.Name y p) f Â] e pos::rest) (.bind we k) out:=
 SF.step (Tp (dm hN hv hd g9) he.p ur) λD σ H ⟨sr,q⟩=>⟨sr,we.mono (λv q1 u H1 g1 s1 v1=>by
  obtain⟨a,e1,ae,c,na,nb,nd,dx,ws,ea,r⟩:=rX s1 hs;have eb:iH (fd++[(f,.v v)])=iH fd:=by rw[fH];exact B1 _
  have sx:kI a H1 (upd H1 a (.ins C dx (jP f u ws))):=λb o n z=>by rw[aq n];exact z
  obtain⟨s2,g2⟩:=jl (t':=SL.ob a0 C (fd++[(f,FD.v v)])) s1 g1.f hs rfl (by simp) e1 (.inl rfl) ⟨_,aD⟩ (λb hb=>.inl (hb.imp id λz=>(show b∈iH fd from eb▸(show b∈iH (fd++[(f,.v v)]) from z)))) sx λtk=>⟨ae,c,λq hq=>by
   rcases AQ.mp hq with z | z
   ·exact na q z
   ·cases AR.mp z;exact hn,by rw[eb];exact nb,by rw[eb];exact nd,dx,_,aD,((r.put hf (.v v1 .nil)).mono tk λc vs hc z=>by
    rw[eb]at hc;rw[aq (λy:c=a=>nb (y▸hc))];exact z)⟩
  exact⟨_,e1,a,C,dx,ws,rfl,ea,hK▸c,hK▸hn,by rw[r.length];exact hl,_,k v,hr v,s2,(k v).mono (λt q2=>q2.go g2 sr s2) q1⟩) q⟩
def SF.agD(i:Nat){k:O PV->W T}(hs:fs[i]?=am (am (.ob a0 C fd)))(hK:X.K=K)(hN:X.N[i]?=am y)(hv:ye X.env.scope y)(he:LF X K fs e wl)(hn:fC K C f)(hf:ma f fd=ce)(hl:fd.length < 1000)(hr:∀b l,SF X K x (fs.set i (am (.ob a0 C (fd++[(f,.o b l)])))) rest (k l) out)
  (ur:‹sB e (am (.Attribute (.Name y p) f Â)) pos.line X.env=pure false›) (hd: ~~~(gK y)) (g9: ~~~(zk y)):SF X K x fs (.Assign [.Attribute (.Name y p) f Â] e pos::rest) (.bind wl k) out:=
 SF.step (Tp (dm hN hv hd g9) he.p ur) λD σ H ⟨sr,q⟩=>⟨sr,wl.mono (λl q1 b vs H1 g1 s1 n eb v1=>by
  obtain⟨a,e1,ae,c,na,nb,nd,dx,ws,ea,r⟩:=rX s1 hs;have no:=sr.noOwn n;have ef:iH (fd++[(f,.o b l)])=iH fd++[b]:=fH _ _;have ba:b≠a:=λz=>no ⟨i,_,a,hs,rfl,e1,.inl z⟩;have bf:b∉iH fd:=λz=>no ⟨i,_,a,hs,rfl,e1,.inr z⟩;have sx:kI a H1 (upd H1 a (.ins C dx (jP f (.ref b) ws))):=λb o n z=>by rw[aq n];exact z
  obtain⟨s2,g2⟩:=jl (t':=SL.ob a0 C (fd++[(f,FD.o b l)])) s1 g1.f hs rfl (by simp) e1 (.inl rfl) ⟨_,aD⟩ (λc hb=>by
   rcases hb with hb | hb
   ·exact .inl (.inl hb)
   ·have hb:c∈iH fd++[b]:=ef▸hb;rcases AQ.mp hb with z | z
    ·exact .inl (.inr z)
    ·cases AR.mp z;exact .inr ⟨no,n⟩) sx λtk=>⟨ae,c,λq hq=>by
   rcases AQ.mp hq with z | z
   ·exact na q z
   ·cases AR.mp z;exact hn,by rw[ef];exact λz=>(AQ.mp z).elim nb λz=>ba (AR.mp z).symm,by
    rw[ef];exact DE.mpr ⟨nd,by simp,λu hu v hv z=>by cases AR.mp hv;exact bf (z▸hu)⟩,dx,_,aD,((r.put hf (.o eb v1 .nil)).mono tk λc vs hc z=>by
    rw[ef]at hc;rw[aq (λy:c=a=>(AQ.mp hc).elim (λhc=>nb (y▸hc)) λhc=>ba ((AR.mp hc).symm.trans y))];exact z)⟩
  exact⟨_,e1,a,C,dx,ws,rfl,ea,hK▸c,hK▸hn,by rw[r.length];exact hl,_,k l,hr b l,s2,(k l).mono (λt q2=>q2.go g2 sr s2) q1⟩) q⟩
theorem Pb:∀{fd:O (Str×FD)}{j:Nat},fd[j]?=am (f,d)->(∀g:Str,iH [(g,d')]=iH [(g,d)])->iH (fd.set j (f,d'))=iH fd
 | [],_,e,_=>by simp at e
 | (n,q)::fd,0,e,h=>by
  simp at e;obtain⟨rfl,rfl⟩:=e;show iH ([(n,d')]++fd)=iH ([(n,q)]++fd);rw[fH,fH,h]
 | (n,q)::fd,j+1,e,h=>by
  show iH ([(n,q)]++fd.set j (f,d'))=iH ([(n,q)]++fd);rw[fH,fH,Pb (j:=j) (by simpa using e) h]
theorem Pc:∀{fd:O (Str×FD)}{j:Nat},fd[j]?=am (f,d)->∀c∈iH [(f,d)],c∈iH fd
 | [],_,e,_,_=>by simp at e
 | (n,q)::fd,0,e,c,hc=>by
  simp at e;obtain⟨rfl,rfl⟩:=e;show c∈iH ([(n,q)]++fd);rw[fH];exact Bu _ hc
 | (n,q)::fd,j+1,e,c,hc=>by
  show c∈iH ([(n,q)]++fd);rw[fH];exact A2 _ (Pc (j:=j) (by simpa using e) c hc)
theorem oB.set(tk:a9 K H H')(sx:kI b H H')(h1:oB K H' [(f,.ref b)] [(f,d')]):∀{ws:O (Str×V)}{fd:O (Str×FD)}{j:Nat},oB K H ws fd->fd[j]?=am (f,.o b l)->(iH fd).Nodup->oB K H' ws (fd.set j (f,d'))
 | _,_,j,.nil,e,_=>by simp at e
 | _,_,0,.v r t,e,_=>by simp at e
 | _,_,0,.o (n:=n) (b:=b') (fd:=fd) e1 r t,e,nd=>by
  simp at e;obtain⟨rfl,rfl,rfl⟩:=e;have nd:(b'::iH fd).Nodup:=nd;have t2:=t.mono tk λc vs hc z=>sx c _ (λy=>(Bx.mp nd).1 (y▸hc)) z;cases h1 with
  | v r1 _=>exact .v r1 t2
  | o e1 r1 _=>exact .o e1 r1 t2
 | _,_,j+1,.v r t,e,nd=>.v (VR.tk tk r) (oB.set tk sx h1 t (by simpa using e) nd)
 | _,_,j+1,.o (n:=n) (b:=b') (fd:=fd) e1 r t,e,nd=>by
  have nd:(b'::iH fd).Nodup:=nd;have e:fd[j]?=am (f,.o b l):=by simpa using e
  exact .o (sx b' _ (λy=>(Bx.mp nd).1 (y▸Pc e b (.head _))) e1) (aG.tk tk r) (oB.set tk sx h1 t e (Bx.mp nd).2)
def Kw{P:Str->Prop}(h:∀q∈fd,P q.1)(e:fd[j]?=am (f,d)):∀q∈fd.set j (f,d'),P q.1:=λq hq=>by
 rcases List.mem_or_eq_of_mem_set hq with z | z
 ·exact h q z
 ·rw[z];exact h (f,d) (AM e)
def SF.agE(i j:Nat){k:O PV->W T}(hs:fs[i]?=am (am (.ob a0 C fd)))(hj:fd[j]?=am (f,.o b l))(hf:ma f fd=am (.o b l))(hK:X.K=K)(hN:X.N[i]?=am y)(hv:ye X.env.scope y)(he:EF X K fs e we)(hr:∀l',SF X K x (fs.set i (am (.ob a0 C (fd.set j (f,.o b l'))))) rest (k l') out)
  (hd: ~~~(gK y)) (g9: ~~~(zk y)) (hb:‹pc (.Name y p) f X.env (pr (.Name y p) X.env)=pr (.Name y p) X.env›) (dz:‹pc (.Attribute (.Name y p) f p3) "append" X.env (pr (.Attribute (.Name y p) f p3) X.env)=pr (.Attribute (.Name y p) f p3) X.env›)
  (mI:‹Zy X bB [e]›)
  (dw:‹R5 Â bB›) (nA:‹fR X e []›) (du:‹kJ X bB []›)
  (ur:‹sB (.Call (.Attribute (.Attribute (.Name y p) f p3) "append" Â) [e] [] bB) ce pos.line X.env=pure false›) :
  SF X K x fs (.Expr (.Call (.Attribute (.Attribute (.Name y p) f p3) "append" Â) [e] [] bB) pos::rest) (.bind we λv=>.bind (eY l v) k) out:=
 SF.step (pR (oX K hK BI EN EM vq (TJ (dm hN hv hd g9) hb) (aX he.p bW nA) dz mI dw nA du) ur) λD σ H ⟨sr,q⟩=>by
  obtain⟨a,e1,ae,c,na,_,_,dx,ws,ea,r⟩:=rX sr hs;obtain⟨lk,_,vs,eb,_⟩:=r.Uk hf;refine⟨_,e1,a,C,dx,ws,_,rfl,ea,hK▸c,hK▸na _ (v5 hf),lk,.inl ⟨rfl,_,eI.of eb⟩,sr,we.mono (λv q1 u H1 g1 s1 v1=>?_) q⟩;obtain⟨a',xa,ae',c',ķ,Ć,nd',Ņ,sT,ea',r'⟩:=rX s1 hs;rw[e1]at xa;cases xa;obtain⟨lk',mb,IZ,eb',rl⟩:=r'.Uk hf;refine⟨b,IZ,u,rfl,rfl,eb',by rw[rl.length];exact q1.1,λH2 sx h2=>?_⟩;have ef:iH (fd.set j (f,.o b (l++[v])))=iH fd:=Pb hj λ_=>rfl;have ab:a≠b:=λz=>Ć (z▸mb);obtain⟨s2,g2⟩:=jl (t':=SL.ob a0 C (fd.set j (f,FD.o b (l++[v])))) s1 g1.f hs rfl (by simp) e1 (.inr mb) ⟨_,h2⟩ (λb' hb=>.inl (hb.imp id λz=>(show b'∈iH fd from ef▸(show b'∈iH (fd.set j (f,.o b (l++[v]))) from z)))) sx λtk=>⟨ae',c',Kw ķ hj,by rw[ef];exact Ć,by rw[ef];exact nd',Ņ,sT,sx a _ ab ea',oB.set (ws:=sT) tk sx (.o h2 (aG.tk tk (rl.append (.one v1))) .nil) r' hj nd'⟩;exact⟨_,k _,hr _,s2,(k _).mono (λt q2=>q2.go g2 sr s2) q1.2⟩
theorem qJ:∀{fd:O (Str×FD)}{j:Nat}{p:PV}{c:f8},c∈iH (fd.set j (f,.v p))->c∈iH fd
 | [],_,_,_,h=>by simpa using h
 | (n,.v _)::fd,0,p,c,h=>h
 | (n,.o _ _)::fd,0,p,c,h=>.tail _ h
 | (n,.v _)::fd,j+1,p,c,h=>qJ (fd:=fd) (j:=j) h
 | (n,.o b l)::fd,j+1,p,c,h=>by
  rcases Aw.mp (show c∈b::iH (fd.set j (f,.v p)) from h) with rfl | h
  ·exact .head _
  ·exact .tail _ (qJ h)
theorem vZ:∀{fd:O (Str×FD)}{j:Nat}{p:PV},(iH fd).Nodup->(iH (fd.set j (f,.v p))).Nodup
 | [],_,_,h=>by simpa using h
 | (n,.v _)::fd,0,p,h=>h
 | (n,.o _ _)::fd,0,p,h=>(Bx.mp h).2
 | (n,.v _)::fd,j+1,p,h=>vZ (fd:=fd) (j:=j) h
 | (n,.o b l)::fd,j+1,p,h=>by
  have h:(b::iH fd).Nodup:=h;show(b::iH (fd.set j (f,.v p))).Nodup;exact Bx.mpr ⟨λz=>(Bx.mp h).1 (qJ z),vZ (Bx.mp h).2⟩
def SF.agB(i j:Nat)(hs:fs[i]?=am (am (.ob a0 C fd)))(hj:fd[j]?=am (f,.o b l))(hf:ma f fd=am (.o b l))(hr:SF X K x (fs.set i (am (.ob a0 C (fd.set j (f,.v (.cl l)))))) SA w out):SF X K x fs SA w out:=⟨λZ s σ H D I ⟨sr,q⟩=>by
 obtain⟨a,e1,ae,c,na,nb,nd,dx,ws,ea,r⟩:=rX sr hs;obtain⟨_,mb,vs,eb,rl⟩:=r.Uk hf;obtain⟨ob,I2⟩:=I.Hx eb;have ab:a≠b:=λz=>nb (z▸mb);have sx:kI b H (upd H b (.bN ob (.lst vs))):=λb o n z=>by rw[aq n];exact z
 obtain⟨s2,g2⟩:=jl (t':=SL.ob a0 C (fd.set j (f,FD.v (.cl l)))) sr de.refl.f hs rfl (by simp) e1 (.inr mb) ⟨_,aD⟩ (λb' hb=>.inl (hb.imp id λz=>qJ z)) sx λtk=>⟨ae,c,Kw na hj,λz=>nb (qJ z),vZ nd,dx,ws,by rw[aq ab];exact ea,oB.set tk sx (.v (.cl (.inl ⟨ob,aD⟩) (aG.tk tk rl)) .nil) r hj nd⟩;exact hr.p Z s σ _ D I2 ⟨s2,w.mono (λt q3=>q3.go g2 sr s2) q⟩⟩
def fdV:O (Str×FD)->Option (O PV)
 | []=>am []
 | (_,.v p)::l=>(fdV l).map (p::·)
 | (_,.o _ _)::_=>ce
theorem oB.vals(tk:a9 K H H'):∀{ws:O (Str×V)}{fd:O (Str×FD)}{l:O PV},oB K H ws fd->fdV fd=am l->fd.map (·.1)=ws.map (·.1)/\aG K [] H' (ws.map (·.2)) l
 | _,_,_,.nil,e=>by cases e;exact⟨rfl,.nil⟩
 | _,_,l,.v (fd:=fd) r t,e=>by
  rw[fdV]at e;cases h:fdV fd with
  | none=>rw[h]at e;cases e
  | some m=>
   rw[h]at e;cases e;obtain⟨h1,h2⟩:=oB.vals tk t h;exact⟨by rw[Ar,Ar,h1],.cons (VR.tk tk r) h2⟩
 | _,_,_,.o _ _ _,e=>by cases e
end
end
end FL
variable{f:Bm}{fd:PySem.FuncData}
namespace FL
section
variable[bU]
variable{K:Ab}
def W7(K:Ab)(C:f8)(m:O PV->W PV):Sp:=λvs H Q _=>TB H/\∃a dx IZ l,vs=.ref a::IZ/\H a=am (.ins C dx [])/\aG K [] H IZ l/\(m l).run λv=>∀H',(∀c o,c≠a->H c=am o->o.nt=true->H' c=am o)->TB H'->(∀b,H' b=ce->H b=ce)->VR K [] H' (.ref a) v->Q .aJ H'
def fdOf(ns:O Str)(l:O PV):O (Str×FD):=(ns.zip l).map λp=>(p.1,.v p.2)
def Gw(ns:O Str)(l:O PV):PV:=.ob ((fdOf ns l).map (·.1)) ((ns.zip l).map (·.2))
theorem Vl:∀ns l,fdV (fdOf ns l)=am ((ns.zip l).map (·.2))
 | [],_=>rfl
 | _::_,[]=>rfl
 | n::ns,p::l=>by
  show(fdV (fdOf ns l)).map (p::·)=_;rw[Vl];rfl
def RH(a C:f8)(l:O PV)(n:Nat):br:=am (.ob a C [])::(l.map λv=>am (SL.val v))++An (n-1-l.length) ce
def Y3(a C:f8)(fd:O (Str×FD))(n:Nat):br:=am (.ob a C fd)::An (n-1) ce
section
variable{P:u8}{st:ut}{C:f8}{N:O Str}{ns:O Str}
def q9.Y3{t:TS}(h:q9 X SA t):q9 X SA λD σ H=>t {D with nx:=λσ' H'=>∃a dx ws,H' a=am (.ins C dx ws)/\∀ob,D.nx σ' (upd H' a (.bN ob (.ins C dx ws)))} σ H:=λZ s σ H D I q=>bV (h Z s σ H _ I q) λfl s' z=>by
 cases fl with
 | next=>
  obtain⟨σ',H',I',a,dx,ws,e,z⟩:=z;obtain⟨ob,I2⟩:=I'.YV e;exact⟨σ',_,I2,z ob⟩
 | brk=>exact z
 | cont=>exact z
 | ret u=>exact z
theorem O9{m:w5 (O PV) n}(Fn:LA K x qual st f fd)(S:c7 N ps (ay st))(hn:n+1=ps.length)(hc:RQ K C)
  (Æ:∀(a:f8) (l:O PV),l.length=n->∀(cV:db) (A:ww) (outer:O Env) (s:ii) (H:Hp) (E:XK),cI k (A.deeper (Fa qual (ay st) s.heap.objs.size f cV))->SF (qR oM P w K mg base N qual (ay st) f cV A outer s H E).Qy K false (RH a C l N.length) (bE st) (kK n m l) λt=>.nx (Y3 a C (fdOf ns t) N.length)) :
  eG P w K mg base oM (k+1) f fd ps (W7 K C λl=>.bind (kK n m l) λr=>.ret (Gw ns r)):=by
 refine Fn.ok S (λvs H Q E h=>?_) (λcV A outer s H vs Q E hr h=>?_)
 ·obtain⟨_,a,dx,IZ,l,rfl,_,r,q⟩:=h;rw[Ap,r.length,gM q];exact hn
 obtain⟨tb,a,dx,IZ,l,rfl,ha,r,q⟩:=h;have hl:=gM q;have Ş:=r.length;have Hk:∀{i:Nat}{s:SL},(RH a C l N.length)[i]?=am (am s)->(i=0/\s=.ob a C [])\/∃j u v,i=j+1/\IZ[j]?=am u/\s=.val v/\VR K [] H u v:=λ{i s} e=>by
  unfold RH at e;cases i with
  | zero=>simp at e;exact .inl ⟨rfl,e.symm⟩
  | succ j=>
   rw[E4,E2]at e;by_cases c:j < l.length
   ·rw[Ax (by simpa using c)]at e;obtain⟨u,v,h1,h2,h3⟩:=aG.slot r e;exact .inr ⟨j,u,v,rfl,h1,h2,h3⟩
   ·rw[Az (by simpa using c),Bi]at e
    split at e <;> cases e
 have sr:aU K H (L2.start N (.ref a::IZ)) (RH a C l N.length):=by
  refine⟨?_,λi s e=>?_,λi j s t x y b e1 e2 o1 o2 q1 q2 _ _=>?_,tb⟩
  ·unfold L2.start RH;rw[Al,Ah,Bh,Al,Ap,Ap,Ah,Bh];omega
  ·rcases Hk e with⟨rfl,rfl⟩ | ⟨j,u,v,rfl,h1,rfl,h3⟩
   ·exact⟨.ref a,iC rfl,.inr ⟨a,rfl,rfl,hc,by simp,by simp[iH],by simp[iH],dx,[],ha,.nil⟩⟩
   ·exact⟨u,iC (by simpa using h1),.inl ⟨v,rfl,h3⟩⟩
  ·rcases Hk e1 with⟨rfl,rfl⟩ | ⟨j1,u,v,rfl,h1,rfl,h3⟩
   ·rcases Hk e2 with⟨rfl,rfl⟩ | ⟨j1,u,v,rfl,h1,rfl,h3⟩
    ·rfl
    ·cases o2
   ·cases o1
 refine⟨_,q9.Y3 (C:=C) (Æ a l hl cV A outer s H E hr).p,sr,(kK n m l).mono (λt q1 _ σ' H' g s'=>?_) q⟩;obtain⟨u',e',r'⟩:=s'.at' 0 _ rfl;rcases r' with⟨v,z,_⟩ | ⟨b,rfl,rfl,c,na,nb,nd,Ņ,ws,eb,fr⟩
 ·cases z
 refine⟨b,Ņ,ws,eb,λob=>q1 _ (λc o nc e nt=>?_) (s'.tb.yt (a:=b) (λc o nc z=>by rw[aq nc];exact z) eb rfl (by simp)) (λc z=>?_) ?_⟩
 ·rw[aq nc];refine(g.keep c o e λz=>?_).1 nt;obtain⟨j,t',x,z1,z2,z3,z4⟩:=z;rcases Hk z1 with⟨rfl,rfl⟩ | ⟨j1,u,v,rfl,_,rfl,_⟩
  ·have:=rK z3;simp at this;rcases z4 with rfl | z4
   ·exact nc this.symm
   ·cases z4
  ·cases z2
 ·by_cases y:c=b
  ·subst y;rw[aD]at z;cases z
  ·rw[aq y]at z;exact g.there c z
 ·obtain⟨h1,h2⟩:=fr.vals (fW (.bN ob (.ins C Ņ ws)) eb (by simp) (by simp)) (Vl ns t);exact .ob aD c (λf hf=>by
   obtain⟨q,q1,q2⟩:=Au.mp hf;exact q2▸na q q1) h1 h2
end
section
variable{C:f8}
theorem ag8:∀{n:Nat}{vs:O V}{l:O PV},eF K σ fs H vs (An n .v) l->aG K [] H vs l
 | 0,_,_,h=>by cases h;exact .nil
 | n+1,_,_,h=>by
  rw[BD]at h;cases h with | v r t=>exact .cons r (ag8 t)
def acZ(M:Mk X.K C f)(F:eG X.prog X.w X.K X.mg X.base oM k f fd ps (W7 K C m))(hr:cI (k+1) X.A)(hg:Gl X x)(hm:X.mg x=am (.ref C))(hb:Binds X.K fd ps [])(ha:AF X K fs (e::es) (An n .v) B)(hW:W'=B m)(lA: ~~~(gK x))
  (he:‹fR X e es›) (dg:‹kJ X pos es›):EF X K fs (.Call (.Name x p) (e::es) [] pos) W':=by
 subst hW;obtain⟨w,hp,hB⟩:=ha.p;rw[hB];refine⟨PE.imp (XF (dvs:=[]) (ds:=[]) (E:=E0) M F hr hg hm hb .nil Oz hp lA he dg) λσ H Q ⟨sr,q⟩=>⟨sr,w.mono (λl q1 vs H1 g1 s1 v1=>λa dx na ndx ne=>?_) q⟩⟩;have sm:∀c o,H1 c=am o->c≠a/\(upd (upd H1 dx (.own a)) a (.ins C dx [])) c=am o:=λc o z=>by
  have h1:c≠a:=λy=>by subst y;rw[na]at z;cases z
  have h2:c≠dx:=λy=>by subst y;rw[ndx]at z;cases z
  exact⟨h1,by rw[aq h1,aq h2];exact z⟩
 have same:i5 H1 (upd (upd H1 dx (.own a)) a (.ins C dx [])):=λc o z=>(sm c o z).2;refine⟨s1.tb.same same,a,dx,vs,l,by rw[B1],aD,aG.tk ⟨λ_ _ z=>same _ _ z,λ_ _ _ z=>same _ _ z⟩ (ag8 v1),(m l).mono (λv q2 H2 kp tb th r2=>⟨rfl,?_⟩) q1⟩;have gt:∀c,H2 c=ce->H1 c=ce:=λc z=>by
  have:=th c z;cases y:H1 c with
  | none=>rfl
  | some o=>rw[(sm c o y).2]at this;cases this
 have gp:∀c φ,sS vs (An n .v) φ c->∃ws,H2 c=am (.lst ws)/\φ ws:=λc φ ⟨i,z,_⟩=>by
  rw[Bi]at z
  split at z <;> cases z
 have gc:GoC vs (An n .v) H1 H2:=⟨λc o z _ nt=>kp c o (sm c o z).1 (sm c o z).2 nt,tb,gt,gp⟩;obtain⟨s2,g3⟩:=gc.caller v1 s1;exact q2 (.ref a) H2 (g1.trans g3) s2 r2
end
end
section
variable[bU]
def nQ:ut->ut
 | .ClassDef _ _ _ (b::_) _ _ _ _ _ _ _=>b
 | s=>s
structure CF where
 x:Str
 q:Str
 s:ut
 ns:List Str
 ps:List Str
 k:Nat
 m:List PV->W PV
structure CI(v:EV)(d:CF) where
 C:f8
 f:f8
 fd:FS
 fn:LA v.K "__init__" d.q d.s f fd
 mk':Mk v.K C f
 cl:RQ v.K C
 na:∀n∈d.ns,fC v.K C n
 bi:Binds v.K fd d.ps []
 at':v.mg d.x=am (.ref C)
abbrev CI.O{v:EV}{d:CF}(D:CI v d):Prop:=eG v.P v.w v.K v.mg v.base oM d.k D.f D.fd d.ps (W7 v.K D.C d.m)
structure CF.C(d:CF)(v:EV) where
 i:CI v d
 o:i.O
structure CD(K:Ab)(x q:Str)(st:ut)(ns:List Str):Prop where
 ex:∃C f fd,AH K lw x=am (am (.ref C))/\LA K "__init__" q st f fd/\Mk K C f/\RQ K C/\∀n∈ns,fC K C n
section
variable{st:ut}{ns:O Str}
def mkI{m:w5 (O PV) n}(D:CI v ⟨x,q,st,ns,IL st,k+1,λl=>.bind (kK n m l) λr=>.ret (Gw ns r)⟩)
  (Æ:∀{cV:db}{A:ww}{outer:O Env}{s:ii}{H:Hp}{E:XK},cI k (A.deeper (Fa q (ay st) s.heap.objs.size D.f cV))->(yB st).Nodup->∀a:f8,Lr n (λl w=>SF (qR oM v.P v.w v.K v.mg v.base (yB st) q (ay st) D.f cV A outer s H E).Qy v.K false (RH a D.C l (yB st).length) (bE st) w λt=>.nx (Y3 a D.C (fdOf ns t) (yB st).length)) m)
  (hn:‹n+1=(IL st).length›) (S:c7 (yB st) (IL st) (ay st):=by exact fsc):D.O:=O9 D.fn S hn D.cl λa l e cV A outer s H E hr=>(Æ hr S.nd a).all l e
end
section
variable{K:Ab}
theorem eM{C:f8}(F:eG X.prog X.w X.K X.mg X.base oM k f fd ps (W7 K C m))(M:Mk X.K C f)(bi:Binds X.K fd ps [])(hm:X.mg x=am (.ref C))(hr:cI k' X.A)(ha:AF X K fs (e::es) (An n .v) B)(hk:k+1<=k':=by first | exact A8 rfl | exact Ak _ | omega)(hg:‹Gl X x›)(hW:‹W'=B m›)(lA: ~~~(gK x))
  (he:‹fR X e es›) (dg:‹kJ X pos es›):EF X K fs (.Call (.Name x p) (e::es) [] pos) W':=
 acZ M F (hr.mono hk) hg hm bi ha hW lA he dg
end
end
end FL
namespace L2
section
def VY{R:O db->ii->Prop}{o:Obj}(ho:s.heap.get? it=am o)(hc:o.cls=.type "tuple")(hd:o.data=.seq items n)(hn:items.size<=sizeLine)
  (h:∀h':sw,s.heap.objs.size<=h'.objs.size->(∀b o,s.heap.get? b=am o->h'.get? b=am o)->R items.toList {s with heap:=h'}) :
  im (lc prog w) A (collect (.ref it)) R E s:=by
 refine Aa (wpAny_runValue (wE entry_proto_collect' ?_));rw[Cf PySem.F.plain_proto_collect _];refine Aa (AJ ?_);refine Af ⟨wS EW _,wE entry_list_iadd' ?_⟩;rw[Cf EW _];have g1:(s.heap.push {cls:=.type "list",data:=.seq ([]:O db).toArray}).get? s.heap.objs.size=am {cls:=.type "list",data:=.seq #[] 0}:=Ao _ rfl;have kp:∀b u,s.heap.get? b=am u->((s.heap.push {cls:=.type "list",data:=.seq ([]:O db).toArray}).update s.heap.objs.size (Be (·++items))).get? b=am u:=λb u e=>(BP _ _ (Nat.ne_of_gt (Aq e))).trans (Ag _ e);have g2:=BV (Be (·++items)) g1 rfl;have step:=wpAny_extend_seq (prog:=prog) (w:=w) (A:=A) (s:={s with heap:=s.heap.push {cls:=.type "list",data:=.seq ([]:O db).toArray}})
  (R:=λq s'=>q=.ok (.ret (.ref s.heap.objs.size))/\s'={s with heap:=(s.heap.push {cls:=.type "list",data:=.seq ([]:O db).toArray}).update s.heap.objs.size (Be (·++items))})
  s.heap.objs.size it (.ref s.heap.objs.size) 0 (.inr rfl) g1 (Ag _ ho) hc hd ⟨rfl,rfl⟩ hn
 have e0:((#[]:Array db)++items).toList=items.toList:=by simp
 have fin:im (lc prog w) A (load s.heap.objs.size >>= λx=>match x.data with | .seq xs _=>pure xs.toList | _=>unsupported "internal:collect") R E {s with heap:=(s.heap.push {cls:=.type "list",data:=.seq ([]:O db).toArray}).update s.heap.objs.size (Be (·++items))}:=by
  refine Aa (F9 g2 (Af ?_));show R ((#[]:Array db)++items).toList _;rw[e0];exact h _ (DB (Aq g2)) kp
 refine BL step (λfn s' x=>?_) λe s' x=>nomatch x.1;cases fn with
 | done f=>
  obtain⟨e,rfl⟩:=x;cases e;exact fin
 | again c1=>exact⟨x.1,FB x.2 λq s2 ⟨e1,e2⟩=>by
   subst e1 e2;exact fin⟩
end
section
def Xm(K:Ab):O V->Hp->VK->Prop:=λxs H Q=>∃(p:f8) (ns:O Int),xs=[.ref p]/\dJ K H p (ns.map V.int)/\ns.length < 64/\∀ms:O Int,ms.Perm ns->ms.Pairwise (·<=·)->jR H (.lst (ms.map V.int)) Q
theorem K0(K:Ab)(hK:X.K=K):cm X (.builtin "sorted") (Xm K):=by
 subst hK;intro Z s σ H xs us Q I r h;obtain⟨p,ns,rfl,hq,Ď,q⟩:=h;obtain⟨u,rfl,rx⟩:=vals1 r;cases rx;obtain⟨au,r',⟨o,h1,h2,n,h3⟩,hz⟩:=I.tuple hq;have hI:=intsAre_of r';have hl:=r'.length;rw[Ah]at hl hz;refine EC kind_sorted plain_sorted entry_sorted (args_sorted1 _) ?_;unfold BT.«sorted»;refine Aa (m:=checkCount "sorted" 1 1 _) (Af ?_);refine Aa (VY (A:=X.A.in1) h1 h2 h3 (by rw[Aj];omega) λh' Ú kp=>?_);show im _ _ (newList au >>= _) _ _ _;refine Aa (F4 ?_ ∅);have á:(h'.push (wv "list" au.toArray 0)).get? h'.objs.size=am (wv "list" au.toArray 0):=Ao _ rfl;show im _ _ _ _ _ {s with heap:=h'.push (wv "list" au.toArray 0)};refine Aa (Bl (Bd slot_list_sort ⟨_,á,rfl⟩ entry_list_sort (list_sort_tree á hI ∅ λout ms a1 a2 a3=>⟨_,rfl,?_⟩) (args_list_sort _)));refine Af ⟨_,rfl,?_⟩;obtain⟨e,he⟩:=sortedHeap_at (out:=out) á;refine⟨.ref h'.objs.size,_,I.laid (t':=s.toks) (λb o eb=>?_) Ú (show bh X.prog X.w _ _ _ (.lst (ms.map V.int)) from⟨?_,out.toList,e,mX a1,?_⟩),rfl,(q ms a2 a3).at _ (I.a8.fresh Ú)⟩
 ·have lt:=Aq (kp b o eb);rw[sortedHeap_old (AA lt) (by rw[size_push'];exact EK lt)];exact Ag _ (kp b o eb)
 ·rw[Ah,a2.length_eq];exact hz
 ·rw[FV];exact he
end
end L2
namespace FL
section
variable[bU]
variable{K:Ab}
section
variable{w:W PV}
def zN:PV->W (O PV)
 | .tup l=>ml l
 | _=>.fail
def Ut(hK:X.K=K)(hg:Gl X "sorted")(hm:X.mg "sorted"=ce)(ha:EF X K fs e w)(he:‹fR X e []›)(dg:‹kJ X pos []›):LF X K fs (.Call (.Name "sorted" p) [e] [] pos) (.bind w zN):=⟨PE.imp (f7 (K0 K hK) hg hm boot_sorted (aX ha.p bW he) ⋯ ⋯ he dg) λσ H Q ⟨sr,q⟩=>⟨sr,w.mono (λx q1 u1 H1 g1 s1 v1=>by
 cases v1 <;> first | exact q1.elim | skip
 rename_i h1 r1;obtain⟨ns,el,hC,q2⟩:=iE q1;subst el;have:=jw r1;subst this;refine⟨_,ns,rfl,dJ.of h1,hC,λms a2 a3=>?_⟩;rw[Jp a2 a3];exact yC g1 s1 (nv _ _ _) q2) q⟩⟩
@[simp] theorem Rj(l:O PV):zN (.tup l)=ml l:=(rfl)
end
end
end FL
variable{d:FL.CF}
namespace FL
section
variable[bU]
def CD.f9(D:CD v.K d.x d.q d.s d.ns)(X:v.K.In h)(G:h.Ns lw v.mg)
  (hb:∀(kV É pm:db) (an:Option f8) (cV ct:db) (us:O db),us.length=d.ps.length->P3 (BO "__init__" d.q (dG d.s) (bE d.s) (ay d.s) .none kV É pm an cV ct) ⟨us,[]⟩=pure (d.ps.zip us):=by exact λ_ _ _ _ _ _=>usN (by (repeat intro _);rfl)):Nonempty (CI v d):=by
 obtain⟨C,f,fd,a,F,M,c,na⟩:=D.ex;exact⟨⟨C,f,fd,F,M,c,na,F.binds hb,BM X G a⟩⟩
def cdx2{K:Ab}{st:ut}{ns:O Str}{C:f8}{kV:db}(a:AH K lw x=am (am (.ref C)))(m2:BW K (.ref C) "__init__"=am (am (.ref f)))(l:K.lookup f=am ⟨oc,od,.func (BO "__init__" q (dG st) (bE st) (ay st) .none kV É pm an cV ct),Qw⟩)
  (c:C6 K cV q=true) (k:B6 K (.ref f)=true) (m1:Fo K C=true) (m3:PySem.W.isFn K (.ref f)=true) (m4:B6 K (.ref C)=true) (c1:DP K C Str.empty=true) (c2:Dw K C=true) (c3:ED K C=true) (c4:BW K (.ref C) "__setattr__"=am (am (.builtin "object.__setattr__")))
  (na:∀n∈ns,BW K (.ref C) n=am ce):CD K x q st ns:=⟨C,f,_,a,M6 l c k,⟨m1,m2,m3,m4⟩,⟨c1,c2,c3,c4⟩,na⟩
def CI.at(D:CI v d)(b:sw):CI (v.at b) d:=⟨D.C,D.f,D.fd,D.fn,D.mk',D.cl,D.na,D.bi,D.at'⟩
end
end FL
namespace My
def o4(df:PV):W (O PV):=
 []\λeB=>
 ap (df\λx3=>bn [x3]) λff=>
 ap (uR (λs4=>(s4.2\λl5=>bn (!l5.isEmpty))) (λs4=>(
 ap (zT s4.2) λt7=>
 t7.2\λx9=>ap (eY s4.1 x9) λfw=>
 dZ (Jg (ap (ap (bn t7.2) (nV .str)) i9)) (
 ap (ap (bn t7.2) az) λl11=>ap (Vn t7.1 l11) λiI=>
 bn (fw,iI)) (
 bn (fw,t7.1)))) (eB,ff)) λs4=>
 (s4.1\λl12=>bn l12.reverse)
def jr(df:PV):W PV:=
 []\λkN=>
 []\λGJ=>
 ap (df\λx3=>o4 x3) λl30=>ap (bS l30 (kN,GJ) λzY s4=>(
 ap (ap (ap (bn zY) (nV .str)) i9) λb=>ap (if b=true then (
 zY\λPX=>ap (eY s4.1 PX) λN4=>
 bn (N4,s4.2)) else (
 ap (zT s4.2) λt20=>
 ap (zT t20.1) λWV=>
 ap (WV.2\λx24=>t20.2\λWJ=>bn (.tup [x24,WJ])) λx26=>ap (eY s4.1 x26) λN3=>
 bn (N3,WV.1))) λé=>
 ap (b2 Gy (ap (bn é.1) GO) (bn (.int 1))) λx28=>ap (eY é.2 x28) λJT=>
 bn (é.1,JT))) λs4=>
 (ap (bn s4.1) fV)
def cx(dH:PV):W PV:=
 (dZ (ap (ap (bn dH) (nV .str)) i9) (bn (.tup [])) (bn dH))
def iR(df:PV):W PV:=
 ap (df\λx2=>jr x2) λkN=>
 ap (ap (ap (bn kN) az) λl4=>aZ l4 λp5=>(bn .aJ)) λIm=>
 ap (ap (ap (bn kN) az) λl6=>.e6 (l6.length<=sizeLine) (.ret (dI 0 l6))) λl19=>ap (bS l19 Im λp8 s7=>ap (oS p8) λt9=>(
 ap (ap (t9.2\λj7=>cx j7) az) λUw=>ap (bS Uw s7 λO6 ê=>(
 t9.1\λzy=>O6\λxc=>ap (fY ê xc zy) λK5=>
 bn K5)) λê=>
 bn ê)) λs7=>
 (ap (bn s7) fV)
def fi(fF:PV)(mH:PV):W PV:=
 (dZ (ap (ap (bK (ap (bn fF) az) (bn mH)) (nV .str)) i9) (bK (ap (bn fF) az) (bn mH)) (bn mH))
def k8(dP:PV):W (O PV):=
 ap (dP\λx2=>iR x2) λeg=>
 ap (ap (ap (bn eg) az) λl4=>aZ l4 λp5=>(bn (.tup []))) λnj=>
 ap (ap (b2 Gy (c1 fx (bn eg)) (bn (.int 1))) λx6=>ap (ap (bn (.int 1)) mx) λx7=>ap (ap (bn (.int 1)) mx) λx8=>Ot x6 x7 x8) λUw=>ap (bS Uw nj λmG s9=>(
 ap (dZ (t2 pV (bK (ap (bn eg) az) (bn mG)) (bn .aJ)) (bn (.tup [])) (bK (bn s9) (bK (ap (bn eg) az) (bn mG)))) λK7=>
 ap (w2 addW (mG\λxf=>bn (.tup [xf])) (bn K7)) λzy=>mG\λxc=>ap (fY s9 xc zy) λJV=>
 bn JV)) λs9=>
 bn s9
def gX(GL:PV)(mH:PV):W PV:=
 (ap (ap (ap (c1 fx (bn GL)) lO) λl2=>mD l2 λp3=>QQ (Jh (UQ true (bn p3) (ap (bK (ap (bn GL) az) (bn mH)) az)) (UQ true (bn mH) (ap (bK (ap (bn GL) az) (bn p3)) az))) (bn p3)) fV)
def qg(dP:PV):W PV:=
 ap (dP\λx2=>jr x2) λbM=>
 ap (dP\λx4=>k8 x4) λnj=>
 (ap (ap (ap (c1 fx (bn bM)) lO) λl6=>aZ l6 λp7=>(ap (bM\λx8=>p7\λx9=>fi x8 x9) λj7=>(.int 0)\λnU=>ap (ap (bK (ap (bn bM) az) (bn p7)) λpC=>cx pC) λxf=>ap ((.cl nj)\λzy=>p7\λxc=>gX zy xc) λIW=>bn (.tup [j7,nU,xf,IW]))) fV)
def fD(fF:PV)(dQ:PV):W (O PV):=
 (ap (ap (ap (bn fF) az) λl1=>ap (ap (bn dQ) az) λl2=>fU l1 l2) λl3=>mD l3 λp4=>ap (oS p4) λt5=>QQ (Jg (ap (ap (bn t5.1) (nV .str)) i9)) (bn t5.2))
def cT(yr:PV):W PV:=
 (bK (ap (bn yr) az) (ap (c1 fx (bn yr)) λx1=>cf x1))
def k6(dP:PV)(dQ:PV)(lK:PV):W (O PV):=
 ap (dP\λx2=>iR x2) λeg=>
 []\λz0=>
 ap (ap (ap (bn lK) az) λl4=>.e6 (l4.length<=sizeLine) (.ret (dI 0 l4))) λl19=>ap (bS l19 z0 λp6 s5=>ap (oS p6) λt7=>(
 ap (ap (ap (bn dQ) az) λl8=>.e6 (l8.length<=sizeLine) (.ret (dI 0 l8))) λUw=>ap (bS Uw s5 λŏ s9=>ap (oS ŏ) λĒ=>(
 dZ (Jh (t2 oLe (bn Ē.2) (bn t7.2)) (tor (t2 pV (bK (ap (bn eg) az) (bn Ē.1)) (bn .aJ)) (t2 oLt (bn t7.2) (bK (ap (bn dQ) az) (bK (ap (bn eg) az) (bn Ē.1)))))) (
 ap (Ē.1\λxf=>t7.1\λzy=>bn (.tup [xf,zy])) λxc=>ap (eY s9 xc) λJz=>
 bn Jz) (
 bn s9))) λs9=>
 bn s9)) λs5=>
 bn s5
def m7(fF:PV)(dQ:PV)(lK:PV)(pW:PV)(TV:PV):W PV:=
 ap (bK (ap (bn TV) az) (bn (.int 0))) λnB=>
 ap (bK (ap (bn TV) az) (bn (.int 1))) λqu=>
 ap (b2 oLt (bK (ap (bn dQ) az) (bn nB)) (bK (ap (bn lK) az) (bn qu))) λyR=>
 ap (dZ (ap (bn yR) i9) (nB\λx5=>bn (.tup [x5])) (ap (bK (ap (bn fF) az) (bn nB)) λx6=>cx x6)) λbelow_4=>
 ap (ap (ap (ap (bn below_4) az) λl8=>aZ l8 λp9=>(dgB (bn pW) (p9\λj7=>ap (b2 Gy (bn qu) (bn (.int 1))) λnU=>bn (.tup [j7,nU])))) fV) λNZ=>
 ap (ap (ap (ap (bn pW) Uy) λZ3=>mD Z3 λę=>QQ (Jh (t2 iP (bK (ap (bn ę) az) (bn (.int 1))) (bn qu)) (t2 vg (bK (ap (bn ę) az) (bn (.int 0))) (bn nB))) (dgB (bn pW) (bn ę))) fV) λzf=>
 (ap (fF\λxc=>nB\λIW=>fi xc IW) λWK=>qu\λPX=>NZ\λLD=>zf\λLC=>bn (.tup [WK,PX,LD,LC]))
def qh(dP:PV)(dQ:PV):W PV:=
 ap (dP\λx2=>jr x2) λbM=>
 ap (ap ((.int 0)\λx4=>bn [x4]) λl7=>ap (ap (bM\λx5=>dQ\λx6=>fD x5 x6) ml) λl8=>nZ l7 l8) λwF=>
 ap (dP\λj7=>dQ\λnU=>(.cl wF)\λpC=>k6 j7 nU pC) λzZ=>
 ap (ap (ap (ap (ap (bn (.cl zZ)) az) λl14=>.e6 (l14.length<=sizeLine) (.ret (dI 0 l14))) λl15=>aZ l15 λp16=>ap (oS p16) λuY=>(uY.2\λPX=>uY.1\λLD=>bn (.tup [PX,LD]))) Np) λvh=>
 (ap (ap (ap (bn (.cl zZ)) az) λl20=>aZ l20 λp21=>(bM\λR8=>dQ\λR7=>(.cl wF)\λx24=>vh\λWJ=>p21\λx26=>m7 R8 R7 x24 WJ x26)) fV)
def cX(kO:PV)(aY:PV):W PV:=
 (bK (ap (bK (ap (bn kO) az) (bn aY)) az) (bn (.int 2)))
def ju(kO:PV)(aY:PV):W PV:=
 (bK (ap (bK (ap (bn kO) az) (bn aY)) az) (bn (.int 3)))
def ng(kO:PV)(aY:PV)(ZG:PV):W PV:=
 (akN (b2 iP (kO\λx1=>aY\λx2=>cX x1 x2) (bn (.tup []))) (b2 iP (bK (ap (bK (ap (bn kO) az) (bn aY)) az) (bn (.int 0))) (bn ZG)))
def jq(aw:PV)(aY:PV):W (O PV):=
 ap (aw\λx2=>aY\λx3=>cX x2 x3) λpE=>
 (dZ (t2 iP (c1 fx (bn pE)) (bn (.int 2))) (pE\λx4=>ap (ap (bK (ap (bn pE) az) (bn (.int 1))) λx5=>ap (bK (ap (bn pE) az) (bn (.int 0))) λx6=>bn (.tup [x5,x6])) λx7=>bn [x4,x7]) (bn []))
def k7(aw:PV)(aY:PV):W (O PV):=
 ap (aw\λx2=>aY\λx3=>ju x2 x3) λwD=>
 (ap (ap (ap (bn wD) az) λl4=>aZ l4 λp5=>(aY\λx6=>p5\λx7=>bn (.tup [x6,x7]))) λl12=>ap (ap (ap (bn wD) az) λl8=>aZ l8 λp9=>(p9\λj7=>aY\λnU=>bn (.tup [j7,nU]))) λZ3=>nZ l12 Z3)
def eA(aw:PV)(dH:PV)(aY:PV):W (O PV):=
 dZ (ap (ap (bn dH) (nV .str)) i9) (
 (dZ (ap (aw\λx1=>aY\λx2=>dH\λx3=>ng x1 x2 x3) i9) (ap ((.str "found")\λx4=>(.tup [])\λx5=>bn (.tup [x4,x5])) λx6=>bn [x6]) (bn []))) (
 ap (ap (aw\λx8=>aY\λx9=>jq x8 x9) λl10=>aZ l10 λĄ=>((.str "split")\λpC=>Ą\λxf=>bn (.tup [pC,xf]))) λOg=>
 ap (ap (aw\λxc=>aY\λIW=>k7 xc IW) λUw=>aZ Uw λĘ=>((.str "over")\λLD=>Ę\λLC=>bn (.tup [LD,LC]))) λOB=>
 (ap (ap (ap (ap ((.str "doubled")\λPU=>ap (aY\λR8=>aY\λR7=>bn (.tup [R8,R7])) λx24=>bn (.tup [PU,x24])) λWJ=>bn [WJ]) λl26=>ap (ap (bn (.cl Og)) GG) λl27=>nZ l26 l27) λl28=>ap (ap (bn (.cl OB)) GG) λl29=>nZ l28 l29) SK))
def jS(P0:PV):W (O PV):=
 []\λeB=>
 ap (P0\λx3=>bn [x3]) λff=>
 ap (uR (λs4=>(s4.2\λl5=>bn (!l5.isEmpty))) (λs4=>(
 ap (zT s4.2) λt7=>
 t7.2\λx9=>ap (eY s4.1 x9) λfw=>
 ap (ap (t7.2\λxf=>ap (ap (bn (.int 2)) part) λi11=>ce\λj12=>Xb xf i11 j12) az) λl14=>ap (Vn t7.1 l14) λiI=>
 bn (fw,iI))) (eB,ff)) λs4=>
 (s4.1\λl15=>bn l15.reverse)
def m8(aw:PV)(ZU:PV):W PV:=
 (ap (ap (ap (ZU\λx3=>ce\λi1=>ap (ap (ap (bn (.int 1)) mx) part) λj2=>Xb x3 i1 j2) az) λl4=>mD l4 λp5=>QQ (t2 iP (c1 fx (aw\λx6=>p5\λx7=>cX x6 x7)) (bn (.int 2))) (bn p5)) GO)
def nh(aw:PV)(P0:PV):W PV:=
 ap (P0\λx2=>jS x2) λzX=>
 ap (ap (ap (bn (.cl zX)) az) λl4=>aZ l4 λp5=>(bK (ap (bn p5) az) (bn (.int 1)))) λVO=>
 ap (ap (ap (ap (bn (.cl zX)) az) λl7=>aZ l7 λp8=>(aw\λx9=>ap (bK (ap (bn p8) az) (bn (.int 0))) λj7=>m8 x9 j7)) sW) λUj=>
 (ap (ap (ap (bn ([("split":Str),("doubled":Str),("over":Str)].map PV.str)) λl11=>aZ l11 λp12=>(ap (ap (bn (.cl VO)) GG) λZ3=>p12\λzy=>Zi Z3 zy)) λl16=>ap (Uj\λxc=>bn [xc]) λUw=>nZ l16 Uw) fV)
def qf(aF:PV)(VX:PV):W PV:=
 (ap (ap (ap (ap (bn aF) az) λl1=>ap (ap (bn VX) az) λl2=>fU l1 l2) λl3=>aZ l3 λp4=>ap (oS p4) λt5=>(b2 iO (bn t5.1) (bn t5.2))) sW)
def kx(sP:PV):W PV:=
 (dZ (UQ false (bn .aJ) (ap (bn sP) az)) (bn .aJ) (ap (ap (bn sP) GG) sW))
def dq(sP:PV):W PV:=
 (ap (ap (ap (bn sP) az) λl1=>mD l1 λp2=>QQ (t2 yz (bn p2) (bn .aJ)) (bn p2)) OP)
def fh(aF:PV)(wy:PV):W PV:=
 (dZ (wy\λx1=>uq false x1 ([("split":Str),("doubled":Str),("over":Str)].map PV.str)) (bK (ap (bn aF) az) (ap (bn wy) (UU ["split","doubled","over"]))) (bn (.int 0)))
def bO(aF:PV)(kl:PV)(dH:PV)(wy:PV):W PV:=
 ap (ap (ap (ap (dH\λx2=>cx x2) az) λl3=>ap (ap (bK (ap (bn wy) az) (bn (.int 1))) az) λl4=>fU l3 l4) λl5=>aZ l5 λp6=>ap (oS p6) λt7=>(bK (ap (bK (ap (bn kl) az) (bn t7.1)) az) (bn t7.2))) λJE=>
 (ap (qE (ap (ap (aF\λx8=>ap (bK (ap (bn wy) az) (bn (.int 0))) λx9=>fh x8 x9) λj7=>bn [j7]) λl11=>ap (ap (bn (.cl JE)) GG) λl12=>nZ l11 l12)) λxf=>kx xf)
def gW(aw:PV)(aF:PV)(kl:PV)(dH:PV)(aY:PV):W (O PV):=
 (ap (aw\λx1=>dH\λx2=>aY\λx3=>eA x1 x2 x3) λl4=>aZ l4 λp5=>(aF\λx6=>kl\λx7=>dH\λx8=>p5\λx9=>bO x6 x7 x8 x9))
def gh(aw:PV)(aF:PV)(aY:PV):W PV:=
 (dZ (t2 iP (c1 fx (aw\λx1=>aY\λx2=>cX x1 x2)) (bn (.int 2))) (bK (ap (bn aF) az) (bn (.int 3))) (bn (.int 0)))
def gU(aw:PV)(aF:PV)(LZ:PV)(aY:PV):W (O PV):=
 ap (aw\λx2=>aF\λx3=>aY\λx4=>gh x2 x3 x4) λJD=>
 (ap (ap (aw\λx5=>aY\λx6=>cX x5 x6) az) λl7=>aZ l7 λp8=>(ap (qE (JD\λx9=>ap (bK (ap (bn LZ) az) (bn p8)) λj7=>bn [x9,j7])) λnU=>kx nU))
def qe(aw:PV)(aF:PV)(kl:PV)(dH:PV):W PV:=
 []\λS3=>
 ap (ap (c1 fx (bn aw)) lO) λl21=>ap (bS l21 S3 λLU s3=>(
 ap (ap (ap (aw\λx6=>aF\λx7=>kl\λx8=>dH\λx9=>LU\λj7=>gW x6 x7 x8 x9 j7) λl15=>ap (aw\λnU=>aF\λpC=>(.cl s3)\λxf=>LU\λzy=>gU nU pC xf zy) λl16=>nZ l15 l16) Sn) λPo=>
 ap ((.cl Po)\λPX=>dq PX) λLD=>ap (eY s3 LD) λS1=>
 bn S1)) λs3=>
 (ap (bn s3) fV)
def gT(aw:PV)(eK:PV)(aF:PV):W PV:=
 []\λjO=>
 ap (ap (eK\λx2=>jr x2) az) λl12=>ap (bS l12 jO λT9 s3=>(
 ap (ap (aw\λx6=>aF\λx7=>(.cl s3)\λx8=>T9\λx9=>qe x6 x7 x8 x9) Sm) λj7=>ap (eY s3 j7) λSY=>
 bn SY)) λs3=>
 (ap (bn s3) fV)
def jv(jg:PV)(k_:PV):W (O PV):=
 ap (dZ (t2 oLt (bn k_) (c1 fx (bn jg))) (bK (ap (bn jg) az) (bn k_)) (bn (.int 0))) λmQ=>
 ap (b2 iO (c1 K2 (bn mQ)) (c1 NF (b2 oGe (c1 K2 (bn mQ)) (b2 T5 (bn (.int 10)) (bn (.int 18)))))) λhJ=>
 (hJ\λx3=>ap (b2 oMod (b2 iO (w2 addW (w2 addW (b2 oMod (bn mQ) (bn (.int 2147483629))) (b2 iO (b2 iO (bn (.int 7919)) (bn k_)) (bn k_))) (bn (.int 11))) (bn (.int 48271))) (bn (.int 2147483647))) λx4=>(.int 0)\λx5=>bn [x3,x4,x5])
def dX(dA:O PV)(ku:PV):W (PV×O PV):=
 ap (w2 addW (bK (bn dA) (bn (.int 2))) (bn (.int 1))) λx2=>(.int 2)\λx3=>ap (fY dA x3 x2) λaP=>
 dZ (Jh (t2 oGt (bK (bn aP) (bn (.int 0))) (bn (.int 0))) (t2 oLe (bK (bn aP) (bn (.int 2))) (bn (.int 60)))) (
 ap (b2 oMod (bK (bn aP) (bn (.int 0))) (bn ku)) λuN=>
 ap (b2 oDiv (bK (bn aP) (bn (.int 0))) (bn ku)) λx6=>(.int 0)\λx7=>ap (fY aP x7 x6) λgq=>
 uN\λx8=>bn (x8,gq)) (
 ap (b2 oMod (w2 addW (w2 addW (b2 iO (bK (bn aP) (bn (.int 1))) (bn (.int 48271))) (bn (.int 12345))) (bK (bn aP) (bn (.int 2)))) (bn (.int 2147483647))) λj7=>(.int 1)\λnU=>ap (fY aP nU j7) λcA=>
 ap (b2 oMod (b2 oDiv (b2 oMod (b2 iO (bK (bn cA) (bn (.int 1))) (w2 addW (b2 oMod (bK (bn cA) (bn (.int 1))) (bn (.int 40009))) (bn (.int 3)))) (bn (.int 2147483629))) (bn (.int 7))) (bn ku)) λpC=>bn (pC,cA))
def eO(ku:PV):W (O PV):=
 (.str "abcdefghijklmnopqrstuvwxyz")\λyG=>
 ap (ap ((.int 26)\λx2=>cf x2) λx3=>ap (ap (qE ((.int 1)\λx4=>(.int 3)\λx5=>(.int 5)\λx6=>(.int 7)\λx7=>(.int 9)\λx8=>(.int 11)\λx9=>bn [x4,x5,x6,x7,x8,x9])) λj7=>cT j7) λnU=>bn (.tup [x3,nU])) λpC=>ap (oS pC) λt13=>
 ap (ap (qE ((.str "")\λxc=>(.str "")\λIW=>(.str "a")\λWK=>(.str "zq")\λPX=>(.str "mnopqrs")\λLD=>bn [xc,IW,WK,PX,LD])) λLC=>cT LC) λN5=>
 (ap (ap (bn ku) lO) λl22=>aZ l22 λp23=>(w2 addW (b2 T7 (bn yG) (b2 oMod (w2 addW (bn t13.1) (b2 iO (bn t13.2) (bn p23))) (bn (.int 26)))) (bn N5)))
def dY(yr:PV):W PV:=
 ap (ap (bn yr) az) λoU=>
 ap (ap (b2 Gy (ap (bn oU) GO) (bn (.int 1))) lO) λl23=>ap (bS l23 oU λaaV s3=>(
 ap (ap (ap (bn s3) GO) λx6=>cf x6) λx7=>ap (zV s3 x7) λt8=>
 ap (ap (ap (bn t8.1) GO) λj7=>cf j7) λadi=>
 ap (t8.2\λpC=>ap (bK (bn t8.1) (bn adi)) λxf=>bn (.tup [pC,xf])) λz9=>
 ap (dZ (t2 iP ((.int 2)\λxc=>cf xc) (bn (.int 0))) (bn z9) (z9\λIW=>ce\λi17=>ce\λj18=>ap (ap (ap (bn (.int 1)) mx) part) λk19=>SO IW i17 j18 k19)) λLC=>adi\λPU=>ap (fY t8.1 PU LC) λOj=>
 bn Oj)) λs3=>
 (bK (bn s3) (bn (.int 0)))
def eR(JM:PV):W PV:=
 ap (ap (w2 addW (bn (.int 1)) (JM\λx2=>cf x2)) λx3=>eO x3) λkL=>
 (ap ((.cl kL)\λx4=>dY x4) λx5=>(.cl kL)\λx6=>bn (.tup [x5,x6]))
def eQ(sU:PV)(JM:PV):W PV:=
 ap (ap (ap (w2 addW (bn (.int 1)) (JM\λx2=>cf x2)) lO) λl4=>aZ l4 λp5=>(sU\λx6=>cT x6)) λoU=>
 ((.cl oU)\λx7=>dY x7)
def a6:Nat->PV->W (O PV)
 | 0,_=>W.fail
 | n+1,df=>
 dZ (ap (ap (bn df) (nV .str)) i9) (
 (df\λx1=>bn [x1])) (
 ap (qE (ap (bK (ap (bn df) az) (bn (.int 0))) λx2=>a6 n x2)) λtm=>ap (qE (ap (bK (ap (bn df) az) (bn (.int 1))) λx3=>a6 n x3)) λpU=>
 []\λrO=>
 ap (ap (bn pU) az) λl26=>ap (bS l26 rO λvk s7=>(
 ap (Jg (ap (ap (bn vk) (nV .str)) i9)) λb=>ap (if b=true then (
 ap (ap (w2 addW (bK (ap (bn vk) az) (bn (.int 0))) (c1 fx (bn tm))) λzy=>ap (w2 addW (bK (ap (bn vk) az) (bn (.int 1))) (c1 fx (bn tm))) λxc=>bn (.tup [zy,xc])) λOH=>
 bn OH) else (
 bn vk)) λĴ=>
 Ĵ\λWK=>ap (eY s7 WK) λu4=>
 bn u4)) λs7=>
 (ap (ap (ap (bn tm) GG) λl18=>s7\λl19=>nZ l18 l19) λl23=>ap (ap (ap (b2 Gy (c1 fx (bn tm)) (bn (.int 1))) λLC=>ap (b2 Gy (w2 addW (c1 fx (bn tm)) (c1 fx (bn pU))) (bn (.int 1))) λPU=>bn (.tup [LC,PU])) λR8=>bn [R8]) λl24=>nZ l23 l24))
def eS(cB:PV):W PV:=
 ap (cB\λx2=>a6 12 x2) λbM=>
 ap (ap ((.int 0)\λx4=>bn [x4]) λl5=>ap (c1 fx (bn (.cl bM))) λx6=>Xk l5 x6) λHz=>
 (.int 0)\λNu=>
 ap (ap (ap (ap (bn (.cl bM)) az) λl9=>.e6 (l9.length<=sizeLine) (.ret (dI 0 l9))) λl10=>mD l10 λĄ=>ap (oS Ą) λWr=>QQ (Jg (ap (ap (bn Wr.2) (nV .str)) i9)) (bn Wr.1)) λmW=>
 ap (ap (ap (bn mW) GO) lO) λl32=>ap (bS l32 (Hz,Nu,mW) λN2 pN=>(
 []\λHy=>
 ap (bS pN.2.2 Hy λPx ZN=>(
 dZ (Jh (UQ true (bK (ap (bK (ap (bn (.cl bM)) az) (bn Px)) az) (bn (.int 0))) (bn pN.2.2)) (UQ true (bK (ap (bK (ap (bn (.cl bM)) az) (bn Px)) az) (bn (.int 1))) (bn pN.2.2))) (
 Px\λPU=>ap (eY ZN PU) λO8=>
 bn O8) (
 bn ZN))) λZN=>
 ap ((.cl ZN)\λR7=>cT R7) λWa=>
 ap (w2 addW (w2 addW (bn pN.2.1) (bn (.int 1))) ((.int 12)\λWJ=>cf WJ)) λIe=>
 Ie\λx27=>Wa\λx28=>ap (fY pN.1 x28 x27) λKq=>
 Wa\λx30=>ap (abg pN.2.2 x30) λuT=>
 bn (Kq,Ie,uT))) λpN=>
 (ap (bn pN.1) fV)
def gZ(cB:PV):W PV:=
 dZ (t2 iP ((.int 2)\λx1=>cf x1) (bn (.int 0))) (
 (cB\λx2=>qg x2)) (
 (cB\λx3=>ap (cB\λx4=>eS x4) λx5=>qh x3 x5))
def cq:W PV:=
 []\λeT=>
 ap (ap (bn (.int 4)) lO) λl25=>ap (bS l25 eT λk_4 s3=>(
 ap ((.int 0)\λx6=>(.int 1)\λx7=>(.int 2)\λx8=>(.int 3)\λx9=>(.int 10)\λj7=>ap ((.int 10)\λnU=>cf nU) λpC=>ap ((.int 1001)\λxf=>cf xf) λzy=>bn [x6,x7,x8,x9,j7,pC,zy]) λSM=>
 ap (ap (ap (bn (.cl SM)) GG) λl19=>ap ((.int 1000)\λIW=>ap (w2 addW (b2 T5 (bn (.int 10)) (bn (.int 28))) ((.int 1000)\λWK=>cf WK)) λPX=>bn [IW,PX]) λl20=>nZ l19 l20) λOi=>
 ap ((.cl Oi)\λR8=>cT R8) λR7=>ap (eY s3 R7) λKr=>
 bn Kr)) λs3=>
 (ap (bn s3) fV)
def gj(tE:PV)(sY:PV):W PV:=
 ap (tE\λx1=>eR x1) λx2=>ap (oS x2) λt3=>
 ap (t3.1\λx5=>gZ x5) λpK=>
 ap (t3.2\λx7=>sY\λx8=>eQ x7 x8) λkS=>
 (pK\λx9=>kS\λj7=>ap (qE (kS\λnU=>a6 12 nU)) λpC=>ap (cq) λxf=>bn (.tup [x9,j7,pC,xf]))
def m9(aw:PV)(eK:PV)(aF:PV):W PV:=
 (ap (bK (ap (aw\λx1=>eK\λx2=>aF\λx3=>gT x1 x2 x3) az) (ap (bn (.int 1)) mx)) λx4=>dq x4)
def xu(dA:O PV)(oZ:PV):W (PV×O PV):=
 ap (w2 addW (bK (bn dA) (bn (.int 2))) (bn (.int 1))) λx2=>(.int 2)\λx3=>ap (fY dA x3 x2) λaP=>
 dZ (Jh (t2 oGt (bK (bn aP) (bn (.int 0))) (bn (.int 0))) (t2 oLe (bK (bn aP) (bn (.int 2))) (bn (.int 60)))) (
 ap (b2 oMod (bK (bn aP) (bn (.int 0))) (bn oZ)) λuN=>
 ap (b2 oDiv (bK (bn aP) (bn (.int 0))) (bn oZ)) λx6=>(.int 0)\λx7=>ap (fY aP x7 x6) λgq=>
 uN\λx8=>bn (x8,gq)) (
 ap (b2 oMod (w2 addW (w2 addW (b2 iO (bK (bn aP) (bn (.int 1))) (bn (.int 48271))) (bn (.int 12345))) (bK (bn aP) (bn (.int 2)))) (bn (.int 2147483647))) λj7=>(.int 1)\λnU=>ap (fY aP nU j7) λcA=>
 ap (b2 oMod (b2 oDiv (b2 oMod (b2 iO (bK (bn cA) (bn (.int 1))) (w2 addW (b2 oMod (bK (bn cA) (bn (.int 1))) (bn (.int 40009))) (bn (.int 3)))) (bn (.int 2147483629))) (bn (.int 7))) (bn oZ)) λpC=>bn (pC,cA))
def dW(aw:PV)(aF:PV)(kl:PV)(jm:PV)(dH:PV)(aY:PV):W (O PV):=
 ap (bK (ap (bK (ap (bn kl) az) (bn jm)) az) (bn aY)) λHI=>
 dZ (t2 pV (bn HI) (bn .aJ)) (
 (bn [])) (
 (ap (aw\λx2=>dH\λx3=>aY\λx4=>eA x2 x3 x4) λl5=>mD l5 λp6=>QQ (t2 iP (aF\λx7=>kl\λx8=>dH\λx9=>p6\λj7=>bO x7 x8 x9 j7) (bn HI)) (bn p6)))
def dU(aw:PV)(aF:PV)(LZ:PV)(aY:PV):W (O PV):=
 dZ (t2 pV (bK (ap (bn LZ) az) (bn aY)) (bn .aJ)) (
 (bn [])) (
 ap (aw\λx2=>aF\λx3=>aY\λx4=>gh x2 x3 x4) λJD=>
 (ap (ap (aw\λx5=>aY\λx6=>cX x5 x6) zN) λl7=>mD l7 λp8=>QQ (t2 iP (ap (qE (JD\λx9=>ap (bK (ap (bn LZ) az) (bn p8)) λj7=>bn [x9,j7])) λnU=>kx nU) (bK (ap (bn LZ) az) (bn aY))) (bn p8)))
def gk(aw:PV)(eK:PV)(aF:PV):W (O PV):=
 ap (aw\λx2=>eK\λx3=>aF\λx4=>gT x2 x3 x4) λjO=>
 ap (ap (c1 fx (bn aw)) λx6=>abe (.int 0) x6) λpL=>
 ap (eK\λx8=>jr x8) λzF=>
 []\λIc=>
 []\λuZ=>
 ap (ap (ap (bn zF) az) λZ3=>.e6 (Z3.length<=sizeLine) (.ret (dI 0 Z3))) λl41=>ap (bS l41 (Ic,uZ) λp15 pN=>ap (oS p15) λĳ=>(
 ap (qE (ap (ap (bn (.cl pL)) az) λUw=>aZ Uw λĘ=>(qE (aw\λLD=>aF\λLC=>jO\λPU=>ĳ.1\λR8=>ĳ.2\λR7=>Ę\λx24=>dW LD LC PU R8 R7 x24)))) λWJ=>ap (eY pN.1 WJ) λKS=>
 ap (qE (ap (ap (bn (.cl pL)) az) λl27=>aZ l27 λp28=>(qE (aw\λx29=>aF\λx30=>ap (bK (ap (bn jO) az) (bn ĳ.1)) λx31=>p28\λx32=>dU x29 x30 x31 x32)))) λx33=>ap (eY pN.2 x33) λJl=>
 bn (KS,Jl))) λpN=>
 ap (ap (bK (ap (bn jO) az) (ap (bn (.int 1)) mx)) λx36=>dq x36) λPp=>
 ap (qE (ap (ap (bn (.cl pL)) az) λl38=>mD l38 λė=>QQ (Jh (t2 iP (bK (ap (bK (ap (bn jO) az) (ap (bn (.int 1)) mx)) az) (bn ė)) (bn Pp)) (ap (bK (ap (bK (ap (bn (.cl pN.1)) az) (ap (bn (.int 1)) mx)) az) (bn ė)) i9)) (bn ė))) λzg=>
 bn [zF,(.cl pN.1),(.cl pN.2),zg]
def yE(pick_:PV->PV->W PV)(pF:PV)(Ì:PV):W PV:=
 ap (ap (ap (bn pF) az) λl2=>aZ l2 λp3=>(bn .aJ)) λKh=>
 Ì\λx5=>ap (ap (bn (.int 1)) mx) λx6=>ap (fY Kh x6 x5) λvT=>
 ap (ap (ap (bn pF) az) λl8=>aZ l8 λp9=>(bn .aJ)) λzW=>
 ap (ap (b2 Gy (c1 fx (bn pF)) (bn (.int 1))) λj7=>ap (ap (bn (.int 1)) mx) λnU=>ap (ap (bn (.int 1)) mx) λpC=>Ot j7 nU pC) λl48=>ap (bS l48 (vT,zW) λiD Qj=>(
 ap (iD\λIW=>ap (bK (bn Qj.1) (bn iD)) λWK=>pick_ IW WK) λko=>
 ap (ap (bK (ap (bn ko) az) (bn (.int 0))) λLD=>ap (bK (ap (bn ko) az) (bn (.int 1))) λLC=>bn (.tup [LD,LC])) λPU=>iD\λR8=>ap (fY Qj.2 R8 PU) λvd=>
 ap (ap (ap (ap (bK (ap (bn pF) az) (bn iD)) λR7=>cx R7) az) λl24=>ap (ap (bK (ap (bn ko) az) (bn (.int 2))) az) λl25=>fU l24 l25) λl33=>ap (bS l33 Qj.1 λp27 è=>ap (oS p27) λŊ=>(
 Ŋ.2\λx30=>Ŋ.1\λx31=>ap (fY è x31 x30) λyQ=>
 bn yQ)) λè=>
 bn (è,vd))) λQj=>
 []\λzB=>
 ap (ap (ap (bn pF) az) λl35=>ap (ap (bn (.cl Qj.2)) az) λl36=>fU l35 l36) λl46=>ap (bS l46 zB λp38 ZM=>ap (oS p38) λŉ=>(
 ap (w2 addW (bn ŉ.2) (ap (ap (ap (ŉ.1\λx41=>cx x41) az) λl42=>aZ l42 λă=>(bK (bn ZM) (bn ă))) fV)) λx44=>ap (eY ZM x44) λNW=>
 bn NW)) λZM=>
 (bK (bn ZM) (ap (bn (.int 1)) mx))
def gV(IX:PV)(jm:PV)(aY:PV):W PV:=
 ap (aY\λx2=>bn [x2]) λL7=>
 ap (uR (λs3=>(Jg (ap (bK (ap (bK (ap (ap (bn IX) (lZ "deeds")) az) (bn jm)) az) (bK (bn s3) (ap (bn (.int 1)) mx))) i9))) (λs3=>(
 ap (bK (ap (bK (ap (bK (ap (ap (bn IX) (lZ "steps")) az) (bn jm)) az) (bK (bn s3) (ap (bn (.int 1)) mx))) az) (bn (.int 0))) λx5=>ap (eY s3 x5) λTQ=>
 bn TQ)) L7) λs3=>
 ap (bK (ap (bK (ap (bK (ap (ap (bn IX) (lZ "deeds")) az) (bn jm)) az) (bK (bn s3) (ap (bn (.int 1)) mx))) az) (bn (.int 0))) λNq=>
 (ap (ap (bn s3) fV) λx7=>ap (bK (ap (bn Nq) az) (bn (.int 0))) λx8=>ap (bK (ap (bn Nq) az) (bn (.int 1))) λx9=>bn (.tup [x7,x8,x9]))
def jt(aw:PV)(eK:PV)(aF:PV):W PV:=
 ap (aw\λx2=>eK\λx3=>aF\λx4=>ap (gk x2 x3 x4) λr=>bn (Gw ["told","deeds","steps","begins"] r)) λuS=>
 (ap (ap (bn uS) (lZ "told")) λx5=>ap (bK (ap (ap (bn uS) (lZ "begins")) az) (bn (.int 0))) λx6=>yE (λJH SE=>(uS\λx9=>JH\λj7=>SE\λnU=>gV x9 j7 nU)) x5 x6)
def gY(LO:PV)(ku:PV):W PV:=
 []\λeT=>
 ap (ap (bn LO) az) λl9=>ap (bS l9 eT λOo s2=>(
 ap (ap (ap (ap (bn Oo) az) λl5=>aZ l5 λp6=>(dZ (t2 pV (bn p6) (bn .aJ)) (bn .aJ) (b2 iO (bn ku) (bn p6)))) fV) λx7=>ap (eY s2 x7) λuJ=>
 bn uJ)) λs2=>
 (ap (bn s2) fV)
def cQ(Gu:PV)(kW:PV):W PV:=
 ap (ap (ap (bn Gu) az) λl1=>ap (ap (bn kW) az) λl2=>fU l1 l2) λl16=>ap (lB l16 () λp4 s3=>ap (oS p4) λt5=>(
 ap (ap (ap (bn t5.1) az) λl6=>ap (ap (bn t5.2) az) λl7=>fU l6 l7) λl14=>ap (lB l14 () λp9 s8=>ap (oS p9) λā=>(
 dZ (t2 vg (b2 pV (bn ā.1) (bn .aJ)) (b2 pV (bn ā.2) (bn .aJ))) (
 (.bl false)\λnU=>bn (Lp.out nU)) (
 dZ (Jh (t2 yz (bn ā.1) (bn .aJ)) (t2 oGt (bn ā.1) (bn ā.2))) (
 (.bl false)\λpC=>bn (Lp.out pC)) (
 bn (.go ()))))) (R0 (λs8=>
 bn (.go ())) Lp.out))) (R0 (λs3=>
 (bn (.bl true))) id)
def lg(Gu:PV)(kW:PV):W PV:=
 []\λeT=>
 ap (ap (ap (bn Gu) az) λl2=>ap (ap (bn kW) az) λl3=>fU l2 l3) λl20=>ap (bS l20 eT λp5 s4=>ap (oS p5) λt6=>(
 []\λS0=>
 ap (ap (ap (bn t6.1) az) λl8=>ap (ap (bn t6.2) az) λl9=>fU l8 l9) λl18=>ap (bS l18 S0 λĄ ë=>ap (oS Ą) λWr=>(
 ap (dZ (tor (t2 pV (bn Wr.1) (bn .aJ)) (t2 pV (bn Wr.2) (bn .aJ))) (bn .aJ) (w2 addW (bn Wr.1) (bn Wr.2))) λzy=>ap (eY ë zy) λS2=>
 bn S2)) λë=>
 ap (ap (bn ë) fV) λIW=>ap (eY s4 IW) λKs=>
 bn Ks)) λs4=>
 (ap (bn s4) fV)
def vv(jg:PV):W PV:=
 ap (ap ((.int 1)\λx3=>ap ((.int 3)\λx1=>ap (c1 fx (bn jg)) λx2=>rH Ij [x1,x2]) λx4=>rH RI [x3,x4]) lO) λl90=>ap (lB l90 () λk_7 s6=>(
 ap (jg\λx9=>k_7\λj7=>jv x9 j7) λtD=>ae7 jQ tD (
 ap (ap (bK ((.int 5)\λnU=>(.int 8)\λpC=>bn [nU,pC]) ((.int 2)\λxf=>cf xf)) λzy=>(.int 7)\λxc=>gj zy xc) λIW=>ap (un4 IW) λuY=>
 ap (ap (w2 addW (bn (.int 2)) ((.int 8)\λPX=>cf PX)) λLD=>ap (cq) λLC=>bn (.tup [LD,LC])) λPU=>ap (oS PU) λWV=>
 ap (ap (ap (ap (bn uY.2.2.2) az) λl24=>aZ l24 λp25=>((.int 100)\λx26=>p25\λx27=>rH Ij [x26,x27])) fV) λcL=>
 ap (uY.1\λx29=>uY.2.1\λx30=>cL\λx31=>gT x29 x30 x31) λqH=>
 ap (ap (ap (ap (bn cL) az) λl33=>aZ l33 λp34=>(b2 iO (bn WV.1) (bn p34))) fV) λzA=>
 dZ (t2 vg (uY.1\λx35=>uY.2.1\λx36=>zA\λx37=>gT x35 x36 x37) (qH\λx38=>WV.1\λx39=>gY x38 x39)) (
 (.bl false)\λx40=>bn (Lp.out x40)) (
 dZ (t2 vg (uY.1\λx41=>uY.2.1\λx42=>zA\λx43=>m9 x41 x42 x43) (b2 iO (bn WV.1) (uY.1\λx44=>uY.2.1\λx45=>cL\λx46=>m9 x44 x45 x46))) (
 (.bl false)\λx47=>bn (Lp.out x47)) (
 ap (ap (ap (ap (bn WV.2) az) λl49=>aZ l49 λp50=>((.int 900)\λx51=>p50\λx52=>rH Ij [x51,x52])) fV) λmn=>
 ap (ap (ap (ap (ap (bn cL) az) λl54=>ap (ap (bn mn) az) λl55=>fU l54 l55) λl56=>aZ l56 λp57=>ap (oS p57) λĀ=>(w2 addW (bn Ā.1) (bn Ā.2))) fV) λPu=>
 ap (uY.1\λx59=>uY.2.1\λx60=>mn\λx61=>gT x59 x60 x61) λrQ=>ap (uY.1\λx62=>uY.2.1\λx63=>Pu\λx64=>gT x62 x63 x64) λpG=>
 dZ (tor (Jg (ap (qH\λx69=>pG\λx70=>cQ x69 x70) i9)) (Jg (ap (rQ\λx67=>pG\λx68=>cQ x67 x68) i9))) (
 (.bl false)\λx71=>bn (Lp.out x71)) (
 dZ (Jg (ap (ap (qH\λx72=>rQ\λx73=>lg x72 x73) λx74=>pG\λx75=>cQ x74 x75) i9)) (
 (.bl false)\λx76=>bn (Lp.out x76)) (
 ap (uY.1\λx78=>uY.2.1\λx79=>cL\λx80=>jt x78 x79 x80) λSe=>
 dZ (t2 oLt (mn\λx81=>ap (uY.1\λx82=>Se\λx83=>nh x82 x83) λx84=>qf x81 x84) (uY.1\λx85=>uY.2.1\λx86=>mn\λx87=>m9 x85 x86 x87)) (
 (.bl false)\λx88=>bn (Lp.out x88)) (
 bn (.go ()))))))))) (R0 (λs6=>
 (bn (.bl true))) id)
end My
variable{x:PL.PV}{Q:O PL.PV->Prop}{t:My.Tr}{f:PL.PV->FL.W (Option PL.PV)}
namespace My
def Tr.pv:Tr->PV
 | .leaf x=>.str x
 | .node l r=>.tup [l.pv,r.pv]
def Ent.pv:Ent->PV
 | .word x=>.str x
 | .pair a b=>.tup [.int (a:Int),.int (b:Int)]
def Ol{l:List α}(h:l≠[]):∃a x,l=a++[x]:=⟨l.dropLast,l.getLast h,(List.dropLast_concat_getLast h).symm⟩
def SQ{a b:O Tr}(h:cJ a++b=t.post):bH a+b.length=t.size:=by
 have h1:=congrArg Ca h;rw[Al,t.dj]at h1;have h2:∀l:O Tr,(cJ l).length=bH l:=by
  intro l
  induction l with
  | nil=>rfl
  | cons x l ih=>
   have e1:cJ (x::l)=x.post++cJ l:=rfl;have e2:bH (x::l)=x.size+bH l:=rfl;rw[e1,e2,Al,ih,x.dj]
 rw[h2]at h1;exact h1
theorem cH(h:l.length < 1000):eY l x=.ret (l++[x]):=tz (by have:=bx (n:=1000) (Ak _);omega)
theorem TR(t:Tr)(hz:t.size<=900):(o4 t.pv).le (.ret (t.post.map Tr.pv)):=λQ q=>by
 refine oO (λn s=>∃ts bs:O Tr,n=bH ts/\s=(bs.map Tr.pv,ts.map Tr.pv)/\cJ ts++bs.reverse=t.post) ⟨[t],[],rfl,rfl,by rw[rT];simp⟩ ?_;rintro n s ⟨ts,bs,rfl,rfl,hp⟩;have hs:=SQ hp;rw[B8]at hs;by_cases he:ts=[]
 ·subst he;have à:bs.reverse=t.post:=hp;simp;rw[<- EZ,à];exact q
 ·obtain⟨us,u,rfl⟩:=Ol he;have U0:=nk us;rw[gQ,rM]at hs;simp;rw[cH (by rw[Ah];omega)];cases u with
  | leaf x=>
   simp[Tr.pv];refine⟨_,?_,us,rfl,bs++[.leaf x],⟨by simp[Tr.pv],rfl⟩,?_⟩
   ·rw[gQ,rM];show bH us < bH us+1;omega
   ·rw[kU,rT]at hp;rw[Ed,<- hp];simp[Tr.post]
  | node c d=>
   have e1:Vn (us.map Tr.pv) [c.pv,d.pv]=.ret (us.map Tr.pv++[c.pv,d.pv]):=tz (bx (by
    have:(Tr.node c d).size=c.size+d.size+1:=rfl;simp;omega))
   simp[Tr.pv,e1];refine⟨_,?_,us++[c,d],rfl,bs++[.node c d],⟨by simp[Tr.pv],by simp⟩,?_⟩
   ·have e2:bH [Tr.node c d]=c.size+d.size+1:=by rw[rM];rfl
    have e3:bH [c,d]=c.size+d.size:=by simp[bH]
    rw[gQ,gQ,e2,e3];omega
   ·rw[kU,rT]at hp;rw[Ed,<- hp,kU,Qp];simp[Tr.post]
def aH(l:O Nat):O PV:=l.map λ(n:Nat)=>.int (n:Int)
@[simp] theorem eN(l:O Nat):(aH l).length=l.length:=Ah _
@[simp] theorem vo(a b:O Nat):aH (a++b)=aH a++aH b:=AW
@[simp] theorem kr(a:Nat)(l:O Nat):aH (a::l)=.int (a:Int)::aH l:=rfl
@[simp] theorem vn:aH []=[]:=rfl
def ny(n:Nat):gJ 0 n=aH (AD n):=by
 refine BE λi _=>?_;rw[Ek]
theorem Mr{p:Nat->Bool}:∀{l:O Nat},(∀k∈l,f (.int ((k:Nat):Int))=.ret (if p k=true then am (.int ((k:Nat):Int)) else ce))->mD (aH l) f=.ret (aH (l.filter p))
 | [],_=>rfl
 | k::l,h=>by
  show ap (f _) (λo=>ap (mD (aH l) f) λm=>bn (o.toList++m))=_;rw[h k (.head _),Mr λy hy=>h y (.tail _ hy),CO];cases p k <;> rfl
theorem qd{f:PV->W PV}{g:Nat->PV}:∀{l:O Nat},(∀k∈l,f (.int ((k:Nat):Int))=.ret (g k))->aZ (aH l) f=.ret (l.map g)
 | [],_=>rfl
 | k::l,h=>by
  show ap (f _) (λy=>ap (aZ (aH l) f) λm=>bn (y::m))=_;rw[h k (.head _),qd λy hy=>h y (.tail _ hy)];rfl
def afx(g:PV->Option PV)(h:∀x∈l,f x=.ret (g x))(q:Q (l.filterMap g)):(mD l f).run Q:=by rw[GR h];exact q
def Uh{f:PV->W PV}(g:PV->PV)(h:∀x∈l,f x=.ret (g x))(q:Q (l.map g)):(aZ l f).run Q:=by rw[GD h];exact q
def Uq{l:O Nat}(p:Nat->Bool)(h:∀k∈l,f (.int ((k:Nat):Int))=.ret (if p k=true then am (.int ((k:Nat):Int)) else ce))(q:Q (aH (l.filter p))):(mD (aH l) f).run Q:=by rw[Mr h];exact q
def QD{l:O Nat}{f:PV->W PV}(g:Nat->PV)(h:∀k∈l,f (.int ((k:Nat):Int))=.ret (g k))(q:Q (l.map g)):(aZ (aH l) f).run Q:=by rw[qd h];exact q
theorem mr(t:Tr)(hz:t.size<=900):(jr t.pv).le (.ret (.tup ((t.nd 0).map Ent.pv))):=λQ q=>by
 unfold jr;simp only[nw,ga];refine W.le.use (TR t hz) ?_;refine vW (λr s=>∃(k:O Tr) (Á:O Ent) (ls:O Nat),r=k.map Tr.pv/\s=(Á.map Ent.pv,aH ls.reverse)/\run k Á ls=am (t.nd 0,[t.size-1])/\Á.length+k.length<=900/\ls.length<=Á.length) ⟨t.post,[],[],rfl,rfl,Qk t,by simp[t.dj];omega,Ak _⟩ ?_ ?_
 ·rintro x r s ⟨k,Á,ls,e,rfl,h,hl,Ħ⟩;cases k with
  | nil=>cases e
  | cons p k=>
   injection e with e1 e2;subst e1;subst e2;rw[Ap]at hl;cases p with
   | leaf x=>
    have a1:∀y,eY (aH ls.reverse) y=.ret (aH ls.reverse++[y]):=λy=>cH (by simp;omega);simp[Tr.pv,cH (l:=Á.map Ent.pv) (by simp;omega),a1];refine⟨k,rfl,Á++[Ent.word x],Á.length::ls,⟨by simp[Ent.pv],by simp⟩,h,by simp;omega,by simp;omega⟩
   | node c d=>
    match ls,h,Ħ with
    | b::a::ls,h,Ħ=>
     rw[Ap,Ap]at Ħ;have a0:aH (b::a::ls).reverse=(aH ls.reverse++[.int (a:Int)])++[.int (b:Int)]:=by simp
     have a1:∀y,eY (aH ls.reverse) y=.ret (aH ls.reverse++[y]):=λy=>cH (by simp;omega);rw[a0];simp only[Tr.pv,nw,qL,qK,fJ,Av,if_false,Vr];simp[cH (l:=Á.map Ent.pv) (by simp;omega),a1];refine⟨k,rfl,Á++[Ent.pair a b],Á.length::ls,⟨by simp[Ent.pv],by simp⟩,h,by simp;omega,by simp;omega⟩
 ·rintro s ⟨k,Á,ls,e,rfl,h,hl,Ħ⟩;cases k with
  | nil=>
   cases h;simpa using q
  | cons p k=>cases e
end My
variable{a b:Int}
namespace My
theorem mulL(h:-1000000000<=a/\a<=1000000000):wP a b:=ZY ∅ ∅
theorem mulR(h:-1000000000<=b/\b<=1000000000):wP a b:=mul_r ∅ ∅
theorem adm(i:Int):0<=(if i < 0 then -i else i):=by split <;> omega
theorem cO{i j:Int}(h:-1000<=i/\i<=1000/\-1000<=j/\j<=1000)(h2:j-i<=1000):okN i j:=⟨by omega,by omega,by omega,by omega,bx ∅⟩
structure zm(t:Tr):Prop where
 ws:t.Ws
 nd:t.aB.Nodup
 few:t.aB.length<=8
 sg:∃b,b<=1/\(t.aB.map λx=>x.cps[b]?).Nodup
end My
variable{a b:Nat}{v d:Int}{ds:O Int}{left:O Nat}
namespace My
def xM:Ent->Bool
 | .word _=>false
 | .pair _ _=>true
structure Dt(t:Tr)(ds:List Int)(left:List Nat)(d:Int):Prop where
 len:ds.length=t.size
 zero:∀j,j < t.size->(xM (en t 0 j)=false\/j∈left)->ds.getD j 0=0
 up:∀j,j < t.size->j∉left->∀a b,en t 0 j=.pair a b->a∉left/\b∉left/\ds.getD a 0 < ds.getD j 0/\ds.getD b 0 < ds.getD j 0/\1<=ds.getD j 0/\ds.getD j 0<=d
 inj:∀i j,i < t.size->j < t.size->i∉left->j∉left->xM (en t 0 i)=true->xM (en t 0 j)=true->ds.getD i 0=ds.getD j 0->i=j
 pos:0<=d
 lft:∀j∈left,j < t.size/\xM (en t 0 j)=true
 ris:left.Pairwise (· < ·)
def jU{l:O Int}(h:i < l.length):(l.set i v).getD i 0=v:=by rw[Ae,Bw h];rfl
def bP{l:O Int}(h:i≠j):(l.set i v).getD j 0=l.getD j 0:=by rw[Ae,Bq h,<- Ae]
def xt{l:O Nat}(h:l.Pairwise (· < ·)){x y:Nat}:y∈l.erase x↔y∈l/\y≠x:=by
 have nd:l.Nodup:=h.imp (λz=>AA z);rw[nd.mem_erase_iff];exact⟨λz=>⟨z.2,z.1⟩,λz=>⟨z.2,z.1⟩⟩
theorem fu(t:Tr)(h:j < t.size)(e:en t 0 j=.pair a b):a < j/\b < j:=by
 rcases V9 t 0 j h with⟨x,e1,_⟩ | ⟨a',b',e1,e2,e3,_⟩
 ·rw[e1]at e;cases e
 ·rw[e1]at e;injection e with h1 h2;omega
theorem Dt.next{x:Int}(D:Dt t ds left d)(hj:j∈left)(e:en t 0 j=.pair a b)(ha:a∉left)(hb:b∉left)(hx:0<=x):Dt t (ds.set j (d+1+x)) (left.erase j) (d+1+x):=by
 obtain⟨hjs,hjp⟩:=D.lft j hj;obtain⟨haj,hbj⟩:=fu t hjs e;have ċ:j < ds.length:=by rw[D.len];exact hjs
 have hm:∀y,y∈left.erase j↔y∈left/\y≠j:=λy=>xt D.ris;have Ø:∀y,y < t.size->y∉left->ds.getD y 0<=d:=λy hy ĺ=>by
  cases ey:en t 0 y with
  | word w=>rw[D.zero y hy (.inl (by rw[ey];rfl))];exact D.pos
  | pair p q=>exact(D.up y hy ĺ p q ey).2.2.2.2.2
 refine⟨by rw[B9];exact D.len,λy hy hc=>?_,λy hy ĺ p q ey=>?_,λu v hu hv hul hvl pu pv UX=>?_,by have:=D.pos;omega,λy hy=>D.lft y ((hm y).mp hy).1,List.Pairwise.sublist List.erase_sublist D.ris⟩
 ·have Ġ:j≠y:=λz=>by
   subst z;rcases hc with hc | hc
   ·rw[hjp]at hc;cases hc
   ·exact((hm j).mp hc).2 rfl
  rw[bP Ġ];exact D.zero y hy (hc.imp id λz=>((hm y).mp z).1)
 ·by_cases Ġ:j=y
  ·subst Ġ;rw[e]at ey;injection ey with h1 h2;subst h1 h2;have la:=Ø a ∅ ha;have lb:=Ø b ∅ hb;rw[jU ċ,bP ∅,bP ∅];have:=D.pos;exact⟨λz=>ha ((hm a).mp z).1,λz=>hb ((hm b).mp z).1,by omega,by omega,by omega,by omega⟩
  ·have ajI:y∉left:=λz=>ĺ ((hm y).mpr ⟨z,BU Ġ⟩);obtain⟨p1,p2,p3,p4,p5,p6⟩:=D.up y hy ajI p q ey;have np:j≠p:=λz=>p1 (z▸hj);have nq:j≠q:=λz=>p2 (z▸hj);rw[bP Ġ,bP np,bP nq];exact⟨λz=>p1 ((hm p).mp z).1,λz=>p2 ((hm q).mp z).1,p3,p4,p5,by omega⟩
 ·by_cases c1:j=u
  ·by_cases c2:j=v
   ·exact c1.symm.trans c2
   ·exfalso;subst c1;have ų:v∉left:=λz=>hvl ((hm v).mpr ⟨z,BU c2⟩);rw[jU ċ,bP c2]at UX;have:=Ø v hv ų;omega
  ·have afX:u∉left:=λz=>hul ((hm u).mpr ⟨z,BU c1⟩);by_cases c2:j=v
   ·exfalso;subst c2;rw[jU ċ,bP c1]at UX;have:=Ø u hu afX;omega
   ·have ų:v∉left:=λz=>hvl ((hm v).mpr ⟨z,BU c2⟩);rw[bP c1,bP c2]at UX;exact D.inj u v hu hv afX ų pu pv UX
def splits(t:Tr):O Nat:=(AD t.size).filter λj=>xM (en t 0 j)
def Dt.first(t:Tr):Dt t (An t.size 0) (splits t) 0:=by
 have z:∀j,(An t.size (0:Int)).getD j 0=0:=λj=>by
  rw[Ae,Bi]
  split <;> rfl
 have mem:∀j,j∈splits t↔j < t.size/\xM (en t 0 j)=true:=λj=>by unfold splits;rw[AO,AU]
 refine⟨Bh,λj _ _=>z j,λj hj hn a b e=>absurd ((mem j).mpr ⟨hj,by rw[e];rfl⟩) hn,λi j hi hj hni _ pi _ _=>absurd ((mem i).mpr ⟨hi,pi⟩) hni,CC _,λj hj=>(mem j).mp hj,?_⟩;exact List.Pairwise.filter _ DC
theorem Pj(t:Tr):dI 0 ((t.nd 0).map Ent.pv)=(AD t.size).map λj=>PV.tup [.int ((j:Nat):Int),(en t 0 j).pv]:=by
 have hl:(dI 0 ((t.nd 0).map Ent.pv)).length=t.size:=by rw[bT,Ah,t.bp]
 apply CB;intro i;by_cases hi:i < t.size
 ·have h1:(dI 0 ((t.nd 0).map Ent.pv))[i]?=am ((dI 0 ((t.nd 0).map Ent.pv))[i]'∅):=Ad _;obtain⟨y,hy,e⟩:=ft h1;rw[Ai,gI t 0 i hi]at hy;have YH:=Option.some.inj hy;rw[h1,e,<- YH,Ai,BR hi,AL];rfl
 ·rw[A3 ∅,A3 (by rw[Ah,CA];omega)]
def Yj:PV->Option PV
 | .tup [_,.str _]=>ce
 | .tup [k,_]=>am k
 | _=>ce
def ab0(t:Tr):(dI 0 ((t.nd 0).map Ent.pv)).filterMap Yj=aH (splits t):=by
 rw[Pj];unfold splits;generalize AD t.size=l
 induction l with
 | nil=>rfl
 | cons j l ih=>
  rw[Ar,Ba,CO];cases e:en t 0 j with
  | word w=>exact ih
  | pair a b=>
   rw[ih];rfl
def m6(l:O Nat):aH l=(l.map λn=>((n:Nat):Int)).map PV.int:=by unfold aH;rw[AG];rfl
theorem wd(y:Nat):∀l:O Nat,(l.map λn=>((n:Nat):Int)).erase (y:Int)=(l.erase y).map λn=>((n:Nat):Int)
 | []=>rfl
 | a::l=>by
  rw[Ar,List.erase_cons,List.erase_cons,wd y l];by_cases c:a=y
  ·subst c;simp
  ·have c1:(((a:Nat):Int)==(y:Int))=false:=by simp;omega
   have c2:(a==y)=false:=by simpa using c
   rw[c1,c2];simp
theorem Ou:∀(l:O Nat) (k n:Nat),l.Pairwise (· < ·)->(∀x∈l,k<=x/\x < n)->l.length<=n-k
 | [],_,_,_,_=>A9 _
 | a::l,k,n,h,hb=>by
  have h1:=(Ex.mp h);have h2:=hb a Bt;have ih:=Ou l (a+1) n h1.2 λx hx=>⟨h1.1 x hx,(hb x (AN _ hx)).2⟩;rw[Ap];omega
def shf(s:Nat):Ent->Ent
 | .word x=>.word x
 | .pair p q=>.pair (p+s) (q+s)
theorem Mc:∀(t:Tr) (o s:Nat),t.nd (o+s)=(t.nd o).map (shf s)
 | .leaf _,_,_=>rfl
 | .node a b,o,s=>by
  have ha:=a.size_pos;rw[Tr.nd,Tr.nd,Mc a o s,show o+s+a.size=o+a.size+s by omega,Mc b (o+a.size) s,AW,AW];congr 2;congr 1 <;> omega
def gG{m:O PV}(h:l.length+m.length<=1000):nZ l m=.ret (l++m):=tz (bx h)
theorem pick_run(h0:l≠[])(h1:l.length<=1000){Q:PV->Prop}(q:∀x∈l,Q x):(cT (.cl l)).run Q:=by
 unfold cT;have hp:0 < l.length:=Di.mpr h0;simp only[nw,ga,bD,jA,di (l.length:Int) ∅ ∅,o0];refine bJ λd d0 d1=>?_;obtain⟨v,hv,hv2⟩:=Wb (xs:=l) d0 d1;simp only[bQ,hv,GE,o0];exact q v (AM hv2)
theorem UP(k:Nat)(l:O Nat)(b:Bool):uq b (.int (k:Int)) (aH l)=.ret (if b then !decide (k∈l) else decide (k∈l)):=by
 have h1:Q7 (.int (k:Int)) (aH l):=⟨by simp,gr.mpr λx hx=>by
  obtain⟨n,_,rfl⟩:=Au.mp hx;simp,gs λx hx=>by
  obtain⟨n,_,rfl⟩:=Au.mp hx;simp⟩
 have h2:vS (.int (k:Int)) (aH l)=decide (k∈l):=by
  unfold vS aH;rw[List.any_map]
  induction l with
  | nil=>simp
  | cons a l ih=>
   have ih:=ih ⟨by simp,gr.mpr λx hx=>by
    obtain⟨n,_,rfl⟩:=Au.mp hx;simp,gs λx hx=>by
    obtain⟨n,_,rfl⟩:=Au.mp hx;simp⟩
   rw[CJ,ih];by_cases c:a=k
   ·subst c;simp
   ·have c1:(((a:Nat):Int)==(k:Int))=false:=by simp;omega
    have c2:¬k=a:=λz=>c z.symm;simp[c1,c2]
 unfold uq;rw[tz h1,h2]
def a7(ds:O Int):O PV:=ds.map PV.int
@[simp] theorem gn(ds:O Int):(a7 ds).length=ds.length:=Ah _
def UN(ds:O Int)(y:Nat)(v:Int):(a7 ds).set y (.int v)=a7 (ds.set y v):=by unfold a7;rw[Ff]
def RU(t:Tr)(left:O Nat)(j:Nat):Bool:=match en t 0 j with
 | .pair a b=>!decide (a∈left)&&!decide (b∈left)
 | _=>false
theorem OY(h:k < n):tB n (k:Int)=am k:=by
 unfold tB;rw[if_pos ∅,if_pos ∅];simp
def je{v:PV}(h:k < l.length):fY l (.int (k:Int)) v=.ret (l.set k v):=by
 unfold fY;simp[OY h]
def abU(t:Tr)(h:j < t.size):dC ((t.nd 0).map Ent.pv) (j:Int)=am (en t 0 j).pv:=cg (by rw[Ai,gI t 0 j h];rfl)
theorem Dt.aeR(D:Dt t ds left d)(he:left≠[]):aH (left.filter (RU t left))≠[]:=by
 obtain⟨l0,l1,rfl⟩:∃l0 l1,left=l0::l1:=by cases left with | nil=>exact absurd rfl he | cons a l=>exact⟨a,l,rfl⟩
 have Ş:RU t (l0::l1) l0=true:=by
  obtain⟨h1,h2⟩:=D.lft l0 (.head _);unfold RU;cases e:en t 0 l0 with
  | word w=>rw[e]at h2;cases h2
  | pair a b=>
   obtain⟨g1,g2⟩:=fu t h1 e;have Ø:∀y∈l0::l1,l0<=y:=λy hy=>by
    rcases Aw.mp hy with rfl | hy
    ·exact Ak _
    ·exact DB ((Ex.mp D.ris).1 y hy)
   have na:a∉l0::l1:=λz=>by have:=Ø a z;omega
   have nb:b∉l0::l1:=λz=>by have:=Ø b z;omega
   show(!decide _&&!decide _)=true;rw[decide_eq_false na,decide_eq_false nb];rfl
 intro z;have:=congrArg Ca z;rw[eN]at this;have m:=AO.mpr ⟨show l0∈l0::l1 from .head _,Ş⟩;rw[List.length_eq_zero_iff.mp this]at m;cases m
theorem zm.size(g:zm t):t.size<=15:=by have:=t.size_eq;have:=g.few;omega
theorem zm.depth(g:zm t):t.depth < 8:=by have:=t.qN;have:=g.few;omega
def okJ(t:Tr)(ds:O Int)(j:Nat):Bool:=match en t 0 j with
 | .word _=>ds.getD j 0==0
 | .pair a b=>decide (ds.getD a 0 < ds.getD j 0)&&decide (ds.getD b 0 < ds.getD j 0)&&decide (1<=ds.getD j 0)&&decide (ds.getD j 0<=99)
def Qc(t:Tr)(ds:O Int):O Int:=(splits t).map (ds.getD · 0)
def YF(t:Tr)(ds:O Int):Bool:=decide (ds.length=t.size)&&(decide (Qc t ds).Nodup&&(AD t.size).all (okJ t ds))
def int_at(h:j < ds.length):dC (a7 ds) (j:Int)=am (.int (ds.getD j 0)):=cg (by
 unfold a7;rw[Ai,Ad h,Ae,Ad h];rfl)
theorem aaL(t:Tr)(ds:O Int)(h:ds.length=t.size):nT ((t.nd 0).map Ent.pv) (a7 ds)=(AD t.size).map λj=>PV.tup [(en t 0 j).pv,.int (ds.getD j 0)]:=by
 refine CB λj=>?_;by_cases hj:j < t.size
 ·have hl:j < (nT ((t.nd 0).map Ent.pv) (a7 ds)).length:=by rw[gL];simp[t.bp,h];exact hj
  obtain⟨x,y,hx,hy,e⟩:=pB (Ad hl);rw[Ai,gI t 0 j hj]at hx;have qB:=Option.some.inj hx;have ċ:j < ds.length:=by omega
  unfold a7 at hy;rw[Ai,Ad ċ]at hy;have YH:=Option.some.inj hy;rw[Ad hl,e,<- qB,<- YH,Ai,BR hj];show _=am (PV.tup [_,.int (ds.getD j 0)]);rw[Ae,Ad ċ];rfl
 ·rw[A3 (by rw[gL];simp[t.bp,h];omega),A3 (by simp;omega)]
theorem split_le(t:Tr)(ds:O Int)(h:ds.length=t.size)(hz:t.size<=900):fD (.tup ((t.nd 0).map Ent.pv)) (.tup (a7 ds))=.ret (a7 (Qc t ds)):=by
 unfold fD;have c:((t.nd 0).map Ent.pv).length<=sizeLine:=bx (by rw[Ah,t.bp];omega);simp only[nw,ax,fU,tz c,aaL t ds h];rw[GR (g:=λx=>match x with | .tup [.str _,_]=>ce | .tup [_,y]=>am y | _=>ce) λx hx=>?_]
 ·congr 1;unfold Qc splits a7;generalize AD t.size=l
  induction l with
  | nil=>rfl
  | cons j l ih=>
   rw[Ar,Ba,CO,ih];cases e:en t 0 j with
   | word w=>rfl
   | pair a b=>rfl
 ·obtain⟨j,hj,rfl⟩:=Au.mp hx;cases en t 0 j with
  | word w=>simp[Ent.pv]
  | pair a b=>simp[Ent.pv]
end My
variable{e:My.Ent}{es:O My.Ent}{bs:O Int}
namespace My
section
variable{α β:Type}
theorem Ug{c:α->PV}{f:PV->W PV}{g:α->PV}:∀{l:List α},(∀x∈l,(f (c x)).le (.ret (g x)))->(aZ (l.map c) f).le (.ret (l.map g))
 | [],_=>W.le.refl _
 | x::r,h=>W.le.ret (h x (.head _)) (W.le.ret (Ug λy hy=>h y (.tail _ hy)) (W.le.refl _))
theorem ZZ{c:α->PV}{g:α->Option PV}:∀{l:List α},(∀x∈l,(f (c x)).le (.ret (g x)))->(mD (l.map c) f).le (.ret (l.filterMap g))
 | [],_=>W.le.refl _
 | x::r,h=>W.le.ret (h x (.head _)) (W.le.ret (ZZ λy hy=>h y (.tail _ hy)) (W.le.of_eq (by rw[Ba];cases g x <;> rfl)))
def kZ{c:α->PV}{f:PV->W PV}(g:α->PV){l:List α}(h:∀x∈l,(f (c x)).le (.ret (g x)))(q:Q (l.map g)):(aZ (l.map c) f).run Q:=Ug h Q q
def Up{c:α->PV}(g:α->Option PV){l:List α}(h:∀x∈l,(f (c x)).le (.ret (g x)))(q:Q (l.filterMap g)):(mD (l.map c) f).run Q:=ZZ h Q q
theorem Vf{p:α->Bool}{g:α->β}:∀l:List α,l.filterMap (λx=>if p x=true then am (g x) else ce)=(l.filter p).map g
 | []=>rfl
 | x::l=>by
  rw[Ba,CO,Vf l];cases p x <;> rfl
end
def VA(c:α->PV)(l:List α)(k:Nat):dI k (l.map c)=(l.zipIdx k).map λp=>PV.tup [.int ((p.2:Nat):Int),c p.1]:=by
 induction l generalizing k with
 | nil=>rfl
 | cons a l ih=>rw[Ar,dI,ih,List.zipIdx_cons,Ar]
def vp:V->PV
 | .int i=>.int i
 | .str x=>.str x
 | .bl b=>.bl b
 | _=>.aJ
def ahL(t:Tr):O PV:=(ah (t.nd 0) 0 (An t.size V.aJ)).map vp
@[simp] theorem PC(t:Tr):(ahL t).length=t.size:=by unfold ahL;rw[Ah,NH,Bh]
def PF(t:Tr)(h:j < t.size):(ahL t)[j]?=am (vp (kH t 0 j .aJ)):=by unfold ahL;rw[Ai,adk t h];rfl
def bR(t:Tr):((t.nd 0).map Ent.pv).length=t.size:=by rw[Ah,t.bp]
theorem K4(t:Tr)(hz:t.size<=900):(iR t.pv).le (.ret (.tup (ahL t))):=λQ q=>by
 unfold iR;have c:((t.nd 0).map Ent.pv).length<=sizeLine:=bx (by rw[bR];omega);simp only[nw,ga];refine W.le.use (mr t hz) ?_;simp only[ax,o0];refine Uh (λ_=>.aJ) (λx hx=>rfl) ?_;simp only[tz c,o0];have e0:((t.nd 0).map Ent.pv).map (λ_=>PV.aJ)=(ah ((t.nd 0).take 0) 0 (An t.size V.aJ)).map vp:=by
  rw[List.take_zero,ah,List.map_replicate,Fv,bR];rfl
 rw[e0];refine eU (λi s=>s=(ah ((t.nd 0).take i) 0 (An t.size V.aJ)).map vp) rfl (λi x s hx hs=>?_) (λs hs=>?_)
 ·subst hs;have hi:i < t.size:=by have:=(Am.mp hx).1;rw[bT,bR]at this;exact this
  obtain⟨y,hy,rfl⟩:=ft hx;have e:=gI t 0 i hi;rw[Ai,e]at hy;have hy:=Option.some.inj hy;subst hy;have et:(t.nd 0).take (i+1)=(t.nd 0).take i++[en t 0 i]:=by rw[Ew,e];rfl
  have ea:ah ((t.nd 0).take (i+1)) 0 (An t.size V.aJ)=Wf (ah ((t.nd 0).take i) 0 (An t.size V.aJ)) (0+i) (en t 0 i):=by
   rw[et,Io,DW,t.bp];congr 1;omega
  have hal:(ah ((t.nd 0).take i) 0 (An t.size V.aJ)).length=t.size:=by rw[NH,Bh]
  rw[ea];generalize hA:ah ((t.nd 0).take i) 0 (An t.size V.aJ)=A at hal ⊢;unfold cx;cases en':en t 0 i with
  | word w=>simp[Ent.pv,bS,Wf]
  | pair a b=>
   obtain⟨ha,hb⟩:=fu t hi en';have s1:fY (A.map vp) (.int (a:Int)) (.int ((0+i:Nat):Int))=.ret ((A.map vp).set a (.int ((0+i:Nat):Int))):=je (by rw[Ah];omega);have s2:fY ((A.map vp).set a (.int ((0+i:Nat):Int))) (.int (b:Int)) (.int ((0+i:Nat):Int))=.ret (((A.map vp).set a (.int ((0+i:Nat):Int))).set b (.int ((0+i:Nat):Int))):=je (by rw[B9,Ah];omega);simp only[Ent.pv,fq,o0,qL,qK,fJ,ga,Av,if_false,ax,bS,nw,s1,s2];show _=Dn vp ((A.set a _).set b _);rw[Ff,Ff];rfl
 ·subst hs;simp only[bT,Ah];rw[List.take_length];exact q
def OJ(e:Ent)(j:Nat):PV:=match e with | .word x=>.str x | .pair _ _=>.int (j:Int)
def Ls(t:Tr)(ds:O Int)(b:Int)(j:Nat):Bool:=decide (ds.getD j 0<=b)&&(match kH t 0 j .aJ with | .int a=>decide (b < ds.getD a.toNat 0) | _=>true)
def Jn(t:Tr)(ds:O Int)(b:Int)(n j:Nat):O (Nat×Nat):=((AD j).filter (Ls t ds b)).map λk=>(k,n)
def aN(t:Tr)(ds bs:O Int):Nat->O (Nat×Nat)
 | 0=>[]
 | i+1=>aN t ds bs i++Jn t ds (bs.getD i 0) i t.size
def RV(l:O (Nat×Nat)):O PV:=l.map λp=>.tup [.int (p.1:Int),.int (p.2:Int)]
def zM(t:Tr)(ds:O Int)(b:Int)(n j:Nat):(Jn t ds b n j).length<=j:=by
 unfold Jn;rw[Ah];refine BG (BF _ _) ?_;rw[CA];exact Ak _
theorem kR(t:Tr)(ds bs:O Int):∀i,(aN t ds bs i).length<=i*t.size
 | 0=>A9 _
 | i+1=>by
  rw[aN,Al];have h1:=kR t ds bs i;have h2:=zM t ds (bs.getD i 0) i t.size;rw[Ge];omega
def SG(t:Tr)(ds:O Int)(b:Int)(n j:Nat):Jn t ds b n (j+1)=Jn t ds b n j++(if Ls t ds b j then [(j,n)] else []):=by
 unfold Jn;rw[Fu,Ey,AW];congr 1;by_cases c:Ls t ds b j <;> simp[c]
def vL(p:Nat×Nat):O Key:=[.inl (p.1:Int),.inl (p.2:Int)]
theorem J3{p q:Nat×Nat}(h:vL p=vL q):p=q:=by
 obtain⟨a,b⟩:=p;obtain⟨c,d⟩:=q;simp[vL]at h;obtain⟨h1,h2⟩:=h;exact Prod.ext (by show a=c;omega) (by show b=d;omega)
def oY:Nat->O (Nat×Nat)->O (O Key×PV)
 | _,[]=>[]
 | k,p::l=>(vL p,.int (k:Int))::oY (k+1) l
theorem m5:∀(k:Nat) (l:O (Nat×Nat)),(oY k l).map (·.1)=l.map vL
 | _,[]=>rfl
 | k,p::l=>by rw[oY,Ar,Ar,m5 (k+1) l]
def JI(k:Nat)(l:O (Nat×Nat)):(oY k l).length=l.length:=by have:=congrArg Ca (m5 k l);simpa using this
theorem vi:∀(k:Nat) (l:O (Nat×Nat)) (p:Nat×Nat),p∈l->nW (oY k l) (vL p)=am (.int ((k+l.idxOf p:Nat):Int))
 | k,q::l,p,h=>by
  rw[List.idxOf_cons];by_cases c:q=p
  ·subst c;simp[oY,nW]
  ·have hp:p∈l:=(Aw.mp h).elim (λz=>absurd z.symm c) id;have ih:=vi (k+1) l p hp;have c2:vL q≠vL p:=λz=>c (J3 z);have c3:(q==p)=false:=by simpa using c
   have e:nW (oY k (q::l)) (vL p)=nW (oY (k+1) l) (vL p):=by simp[oY,nW,c2]
   rw[e,ih,c3];congr 2;show((k+1+l.idxOf p:Nat):Int)=((k+(l.idxOf p+1):Nat):Int);omega
def Lz(e:Ent)(j:Nat)(d b:Int):O Nat:=if d < b then [j] else match e with | .word _=>[] | .pair x y=>[x,y]
def bsd(l:O (Nat×Nat))(j n:Nat):O Nat:=(l.filter λp=>decide (p.2=n)&&!decide (p.1=j)).map λp=>l.idxOf p
def Pl(e:Ent)(l:O (Nat×Nat))(j n:Nat)(d b:Int):PV:=.tup [OJ e j,.int (n:Int),.tup (aH ((Lz e j d b).map λx=>l.idxOf (x,n-1))),.tup (aH (bsd l j n))]
def OK{f:α->β}(hf:∀x y,f x=f y->x=y){l:List α}(h:l.Nodup):(l.map f).Nodup:=List.Pairwise.map f (λa b n z=>n (hf a b z)) h
def Qa(t:Tr)(ds:O Int)(b:Int)(n j:Nat):(Jn t ds b n j).Nodup:=by
 exact OK (λx y h=>(Prod.mk.inj h).1) (List.Pairwise.filter _ List.nodup_range)
theorem iK:∀{i:Nat}{p:Nat×Nat},p∈aN t ds bs i->p.2 < i/\p.1 < t.size
 | 0,_,h=>by simp[aN]at h
 | i+1,p,h=>by
  rw[aN]at h;rcases AQ.mp h with h | h
  ·have:=iK h;omega
  ·obtain⟨k,hk,rfl⟩:=Au.mp h;have:=AU.mp (AO.mp hk).1;exact⟨De _,this⟩
theorem kQ(t:Tr)(ds bs:O Int):∀i,(aN t ds bs i).Nodup
 | 0=>FR
 | i+1=>by
  rw[aN];refine DE.mpr ⟨kQ t ds bs i,Qa _ _ _ _ _,λa ha b hb z=>?_⟩;subst z;have h1:=(iK ha).1;obtain⟨k,_,rfl⟩:=Au.mp hb;exact A5 _ h1
def cR{v:PV}(h:l[k]?=am v):G8 l (.int (k:Int))=.ret v:=by
 rw[bQ,cg h];rfl
def Kz(ds:O Int)(h:(dI 0 (a7 ds))[i]?=am x):i < ds.length/\x=.tup [.int (i:Int),.int (ds.getD i 0)]:=by
 have hi:i < ds.length:=by have:=(Am.mp h).1;rw[bT,gn]at this;exact this
 obtain⟨y,hy,rfl⟩:=ft h;unfold a7 at hy;rw[Ai,Ad hi]at hy;have hy:=Option.some.inj hy;subst hy;refine⟨hi,?_⟩;rw[AL,Ae,Ad hi];rfl
theorem Jm(t:Tr)(ds bs:O Int)(hd:ds.length=t.size)(hz:t.size<=100)(hb:bs.length*t.size<=900)(hb2:bs.length<=900):(k6 t.pv (.tup (a7 ds)) (.cl (a7 bs))).le (.ret (RV (aN t ds bs bs.length))):=λQ q=>by
 unfold k6;have c1:(a7 bs).length<=sizeLine:=bx (by rw[gn];omega);have c2:(a7 ds).length<=sizeLine:=bx (by rw[gn];omega);simp only[nw,ga];refine W.le.use (K4 t ∅) ?_;simp only[bD,o0,tz c1];refine eU (λi s=>s=RV (aN t ds bs i)) rfl (λi x s hx hs=>?_) (λs hs=>?_)
 ·subst hs;obtain⟨hi,rfl⟩:=Kz bs hx;simp only[fq,o0,ga,ax,tz c2];have hl:=kR t ds bs i;have hm:i*t.size+t.size<=900:=by
   have:(i+1)*t.size<=bs.length*t.size:=Nat.mul_le_mul_right _ hi;rw[Ge]at this;omega
  refine eU (λj s=>s=RV (aN t ds bs i++Jn t ds (bs.getD i 0) i j)) (by simp[Jn]) (λj x s hx hs=>?_) (λs hs=>?_)
  ·subst hs;obtain⟨hj,rfl⟩:=Kz ds hx;have U0:=zM t ds (bs.getD i 0) i j;simp only[fq,o0,ga];rw[SG];have Ċ:j < t.size:=by omega
   have Ň:Ls t ds (bs.getD i 0) j=true->(eY (RV (aN t ds bs i++Jn t ds (bs.getD i 0) i j)) (PV.tup [.int (j:Int),.int (i:Int)])).run λs=>s=RV (aN t ds bs i++(Jn t ds (bs.getD i 0) i j++if Ls t ds (bs.getD i 0) j=true then [(j,i)] else [])):=λc=>by
    rw[cH (by unfold RV;rw[Ah,Al];omega),if_pos c];unfold RV;rw[<- AZ,AW (l₂:=[(j,i)])];rfl
   have no:Ls t ds (bs.getD i 0) j=false->RV (aN t ds bs i++Jn t ds (bs.getD i 0) i j)=RV (aN t ds bs i++(Jn t ds (bs.getD i 0) i j++if Ls t ds (bs.getD i 0) j=true then [(j,i)] else [])):=λc=>by rw[c];simp
   generalize eb:bs.getD i 0=b at Ň no ⊢;generalize ed:ds.getD j 0=d at *;simp only[nw,ga,agL,o0,bG,ax,cR (PF t Ċ)];by_cases c:d<=b
   ·simp only[c,decide_true,if_true,ga,o0];rcases uV t 0 j .aJ [] Ċ with⟨_,e,_⟩ | ⟨a,_,ha,e,_⟩
    ·have sb:Ls t ds b j=true:=by unfold Ls;rw[e,ed];simp[c]
     rw[e];simp only[vp,mN,o0,bG,PV.d4,if_true];exact Ň sb
    ·rw[AL]at e;have sb:Ls t ds b j=decide (b < ds.getD a 0):=by unfold Ls;rw[e,ed];simp[c]
     rw[e];have i2:dC (a7 ds) (a:Int)=am (.int (ds.getD a 0)):=int_at ∅;simp only[vp,mN,o0,bG,PV.d4,Av,if_false,bQ,i2,GE,Kx,nw];by_cases c2:b < ds.getD a 0
     ·rw[decide_eq_true c2]at sb ⊢;exact Ň sb
     ·rw[decide_eq_false c2]at sb ⊢;exact no sb
   ·have sb:Ls t ds b j=false:=by unfold Ls;rw[ed];simp[c]
    simp only[c,decide_false,Av,if_false,o0];exact no sb
  ·subst hs;rw[bT,gn,hd];rfl
 ·subst hs;rw[bT,gn];exact q
def X8{l:O (Nat×Nat)}(h:l≠[])(k:Nat):oY k l≠[]:=by cases l with | nil=>exact absurd rfl h | cons a l=>simp[oY]
def Mb(k:Nat)(l:O (Nat×Nat)):((oY k l).map λkv=>PV.tup (kv.1.map kP))=l.map λp=>PV.tup [.int (p.1:Int),.int (p.2:Int)]:=by
 have:=congrArg (Dn λx:O Key=>PV.tup (x.map kP)) (m5 k l);rw[AG,AG]at this;exact this
theorem WZ{l:O (Nat×Nat)}(h1:es[j]?=am e)(h2:j < ds.length)(h3:n < bs.length)(hl:l.length<=1000)(h0:l≠[])
  (hb:∀x∈Lz e j (ds.getD j 0) (bs.getD n 0),1<=n/\(x,n-1)∈l) :
  (m7 (.tup (es.map Ent.pv)) (.tup (a7 ds)) (.cl (a7 bs)) (VN (oY 0 l)) (.tup [.int (j:Int),.int (n:Int)])).le (.ret (Pl e l j n (ds.getD j 0) (bs.getD n 0))):=λQ q=>by
 unfold m7;have i0:dC [PV.int (j:Int),PV.int (n:Int)] 0=am (.int j):=rfl;have i1:dC [PV.int (j:Int),PV.int (n:Int)] 1=am (.int n):=rfl;have i2:dC (a7 ds) (j:Int)=am (.int (ds.getD j 0)):=int_at h2;have i3:dC (a7 bs) (n:Int)=am (.int (bs.getD n 0)):=int_at h3;have i4:dC (es.map Ent.pv) (j:Int)=am e.pv:=cg (by rw[Ai,h1];rfl);simp only[nw,ga,ax,bD,bQ,i0,i1,i2,i3,i4,GE,o0,Kx,fJ];generalize hdj:ds.getD j 0=d at *;generalize hbn:bs.getD n 0=b at *;have below:∀{R:PV->Prop},R (.tup (aH (Lz e j d b)))->(if decide (d < b)=true then bn (PV.tup [PV.int (j:Int)]) else cx e.pv).run R:=λ{R} r=>by
  unfold Lz at r;unfold cx;by_cases c:d < b
  ·rw[if_pos c]at r;simpa[c]using r
  ·cases e with
   | word w=>simpa[c,Ent.pv]using r
   | pair a b=>simpa[c,Ent.pv]using r
 refine below ?_;refine kZ (λx=>.int ((l.idxOf (x,n-1):Nat):Int)) (λk hk=>?_) ?_
 ·obtain⟨g1,g2⟩:=hb k hk;intro R r;have į:(n:Int)-1=((n-1:Nat):Int):=by omega
  simp only[dgB,nw,ga,v8,o0,į];rw[show PV.tup [.int (k:Int),.int ((n-1:Nat):Int)]=.tup ((vL (k,n-1)).map kP) from rfl];refine Pm (vi 0 l (k,n-1) g2) ?_;rw[AL];exact r
 simp only[ga,gF,o0];refine QT (X8 h0 0) (by rw[JI];exact hl) ?_;rw[Mb];refine Up (λp=>if (decide (p.2=n)&&!decide (p.1=j))=true then am (.int ((l.idxOf p:Nat):Int)) else ce) (λp hp=>?_) ?_
 ·intro R r;obtain⟨u,v⟩:=p;have j0:dC [PV.int (u:Int),PV.int (v:Int)] 0=am (.int u):=rfl;have j1:dC [PV.int (u:Int),PV.int (v:Int)] 1=am (.int v):=rfl;simp only[dgB,nw,ga,ax,bQ,j0,j1,GE,o0,jZ,Vs,bG];have get:∀{R:PV->Prop},R (.int ((l.idxOf (u,v):Nat):Int))->(dgW (VN (oY 0 l)) (PV.tup [.int (u:Int),.int (v:Int)])).run R:=λ{R} r=>by
   refine Pm (vi 0 l (u,v) hp) ?_;rw[AL];exact r
  by_cases c1:v=n
  ·subst c1;by_cases c2:u=j
   ·subst c2;simp only[beq_self_eq_true,C3,if_true,o0,Av,if_false];simpa using r
   ·have c3:((u:Int)==(j:Int))=false:=by simp;omega
    simp only[beq_self_eq_true,c3,Dc,if_true,o0,ga];refine get ?_;simpa[c2]using r
  ·have c3:((v:Int)==(n:Int))=false:=by simp;omega
   simp only[c3,Av,if_false,o0];simpa[c1]using r
 rw[Vf];have nm:∀{R:PV->Prop},R (OJ e j)->(fi (.tup (es.map Ent.pv)) (.int (j:Int))).run R:=λ{R} r=>by
  unfold fi;simp only[nw,ga,ax,bQ,i4,GE,o0];cases e with
  | word w=>simpa[Ent.pv,OJ]using r
  | pair a b=>simpa[Ent.pv,OJ]using r
 refine nm ?_;have e1:(l.filter λp=>decide (p.2=n)&&!decide (p.1=j)).map (λp=>PV.int ((l.idxOf p:Nat):Int))=aH (bsd l j n):=by
  unfold aH bsd;rw[AG];rfl
 have e2:(Lz e j d b).map (λx=>PV.int ((l.idxOf (x,n-1):Nat):Int))=aH ((Lz e j d b).map λx=>l.idxOf (x,n-1)):=by
  unfold aH;rw[AG];rfl
 rw[e1,e2];exact q
def dgL(t:Tr)(ds bs:O Int):O PV:=(aN t ds bs bs.length).map λp=>Pl (en t 0 p.1) (aN t ds bs bs.length) p.1 p.2 (ds.getD p.1 0) (bs.getD p.2 0)
def okD(t:Tr)(ds bs:O Int):Prop:=∀p∈aN t ds bs bs.length,∀x∈Lz (en t 0 p.1) p.1 (ds.getD p.1 0) (bs.getD p.2 0),1<=p.2/\(x,p.2-1)∈aN t ds bs bs.length
theorem vj:∀(k:Nat) (l:O (Nat×Nat)),(l.zipIdx k).map (λp=>PV.tup [PV.tup [.int (p.1.1:Int),.int (p.1.2:Int)],.int ((p.2:Nat):Int)])=(oY k l).map OA
 | _,[]=>rfl
 | k,p::l=>by rw[List.zipIdx_cons,Ar,vj (k+1) l];rfl
def aW(t:Tr)(ds:O Int):O Int:=0::sortI (Qc t ds)
def Oh(t:Tr)(ds:O Int):(Qc t ds).length<=t.size:=by
 unfold Qc splits;rw[Ah];have:=BF (λj=>xM (en t 0 j)) (AD t.size);rw[CA]at this;exact this
def yD{x:Int}{l:O Int}:x∈sortI l↔x∈l:=(CK l _).mem_iff
def rL(l:O Int):(sortI l).length=l.length:=(CK l _).length_eq
theorem VU(t:Tr)(ds:O Int)(hd:ds.length=t.size)(hz:t.size<=25)(h0:aN t ds (aW t ds) (aW t ds).length≠[])(ok:okD t ds (aW t ds)):(qh t.pv (.tup (a7 ds))).le (.ret (.tup (dgL t ds (aW t ds)))):=λQ q=>by
 unfold qh;simp only[nw,ga];refine W.le.use (mr t ∅) ?_;have hs:=Oh t ds;have hl:(aW t ds).length<=t.size+1:=by unfold aW;rw[Ap,rL];omega
 have e2:ml (a7 (Qc t ds))=.ret (a7 (sortI (Qc t ds))):=by
  unfold ml a7;rw[eE];show W.e6 _ _=_;rw[tz ∅]
 have e3:nZ [PV.int 0] (a7 (sortI (Qc t ds)))=.ret (a7 (aW t ds)):=by
  rw[gG (by rw[gn,rL];simp;omega)];rfl
 simp only[split_le t ds hd ∅,o0,e2,e3];have hb:(aW t ds).length*t.size<=900:=by
  have:(aW t ds).length*t.size<=26*25:=Nat.mul_le_mul ∅ hz;omega
 refine W.le.use (Jm t ds (aW t ds) hd ∅ hb ∅) ?_;generalize hL:aN t ds (aW t ds) (aW t ds).length=L at *;have hLl:L.length<=900:=by rw[<- hL];exact BG (kR _ _ _ _) hb
 have hLm:∀p∈L,p.2 < (aW t ds).length/\p.1 < t.size:=λp hp=>iK (hL▸hp);have c:(RV L).length<=sizeLine:=bx (by unfold RV;rw[Ah];omega);simp only[bD,o0,tz c,nw];unfold RV;rw[VA];refine kZ (λp:(Nat×Nat)×Nat=>PV.tup [PV.tup [.int (p.1.1:Int),.int (p.1.2:Int)],.int ((p.2:Nat):Int)]) (λp _ R r=>by simpa using r) ?_;rw[vj];refine Rr ?_ (by rw[JI];omega) ?_
 ·rw[m5];exact OK (λ_ _ h=>J3 h) (hL▸kQ t ds _ _)
 refine kZ (λp:Nat×Nat=>Pl (en t 0 p.1) L p.1 p.2 (ds.getD p.1 0) ((aW t ds).getD p.2 0)) (λp hp=>?_) ?_
 ·obtain⟨g1,g2⟩:=hLm p hp;refine WZ (gI t 0 p.1 g2) ∅ g1 ∅ h0 λx hx=>?_;have:=ok p (by rw[hL];exact hp) x hx;rw[hL]at this;exact this
 ·have:dgL t ds (aW t ds)=L.map λp:Nat×Nat=>Pl (en t 0 p.1) L p.1 p.2 (ds.getD p.1 0) ((aW t ds).getD p.2 0):=by unfold dgL;rw[hL]
  rw[<- this];exact q
theorem fy:∀(t:Tr) (o x:Nat) (p:V),x < t.size->(x=t.size-1/\kH t o x p=p)\/∃a u v,x < a/\a < t.size/\kH t o x p=.int ((o+a:Nat):Int)/\en t o a=.pair u v/\(u=o+x\/v=o+x)
 | .leaf _,o,x,p,h=>.inl ⟨by have:x < 1:=h;show x=0;omega,rfl⟩
 | .node l r,o,x,p,h=>by
  have es:(Tr.node l r).size=l.size+r.size+1:=rfl;have top:en (.node l r) o (l.size+r.size)=.pair (o+l.size-1) (o+l.size+r.size-1):=by rw[en,if_neg ∅,if_neg ∅]
  by_cases c1:x < l.size
  ·rw[show kH (.node l r) o x p=kH l o x (.int (o+l.size+r.size:Nat)) by rw[kH,if_pos c1]];rcases fy l o x (.int (o+l.size+r.size:Nat)) c1 with⟨h1,h2⟩ | ⟨a,u,v,h1,h2,h3,h4,h5⟩
   ·exact .inr ⟨l.size+r.size,_,_,by omega,by omega,by rw[h2,Bs],top,.inl ∅⟩
   ·exact .inr ⟨a,u,v,h1,by omega,h3,by rw[en,if_pos h2];exact h4,h5⟩
  ·by_cases c2:x < l.size+r.size
   ·rw[show kH (.node l r) o x p=kH r (o+l.size) (x-l.size) (.int (o+l.size+r.size:Nat)) by rw[kH,if_neg c1,if_pos c2]];rcases fy r (o+l.size) (x-l.size) (.int (o+l.size+r.size:Nat)) ∅ with⟨h1,h2⟩ | ⟨a,u,v,h1,h2,h3,h4,h5⟩
    ·exact .inr ⟨l.size+r.size,_,_,by omega,by omega,by rw[h2,Bs],top,.inr ∅⟩
    ·refine .inr ⟨l.size+a,u,v,by omega,by omega,by rw[h3,Bs],?_,by omega⟩;rw[en,if_neg ∅,if_pos ∅,Dv];exact h4
   ·exact .inl ⟨by omega,by rw[kH,if_neg c1,if_neg c2]⟩
theorem pq:∀(t:Tr) (o j:Nat) (p:V) (a b:Nat),j < t.size->en t o j=.pair a b->o<=a/\o<=b/\a < o+j/\b < o+j/\a < b/\kH t o (a-o) p=.int ((o+j:Nat):Int)/\kH t o (b-o) p=.int ((o+j:Nat):Int)
 | .leaf _,o,j,p,a,b,h,e=>by rw[en]at e;cases e
 | .node l r,o,j,p,a,b,h,e=>by
  have es:(Tr.node l r).size=l.size+r.size+1:=rfl;have lp:=l.size_pos;have rp:=r.size_pos;by_cases c1:j < l.size
  ·rw[en,if_pos c1]at e;obtain⟨h1,h2,h3,h4,h5,h6,h7⟩:=pq l o j (.int (o+l.size+r.size:Nat)) a b c1 e;refine⟨h1,h2,h3,h4,h5,?_,?_⟩
   ·rw[kH,if_pos ∅];exact h6
   ·rw[kH,if_pos ∅];exact h7
  ·by_cases c2:j < l.size+r.size
   ·rw[en,if_neg c1,if_pos c2]at e;obtain⟨h1,h2,h3,h4,h5,h6,h7⟩:=pq r (o+l.size) (j-l.size) (.int (o+l.size+r.size:Nat)) a b ∅ e;refine⟨by omega,by omega,by omega,by omega,h5,?_,?_⟩
    ·rw[kH,if_neg ∅,if_pos ∅,FQ,h6,show o+l.size+(j-l.size)=o+j by omega]
    ·rw[kH,if_neg ∅,if_pos ∅,FQ,h7,show o+l.size+(j-l.size)=o+j by omega]
   ·rw[en,if_neg c1,if_neg c2]at e;injection e with e1 e2;subst e1;subst e2;have hj:j=l.size+r.size:=by omega
    subst hj;have ĕ:∀(t:Tr) (o:Nat) (p:V),kH t o (t.size-1) p=p:=λt o p=>by
     have tp:=t.size_pos;rcases fy t o (t.size-1) p ∅ with⟨_,h⟩ | ⟨a,_,_,h1,h2,_⟩
     ·exact h
     ·omega
    refine⟨by omega,by omega,by omega,by omega,by omega,?_,?_⟩
    ·rw[kH,if_pos ∅,show o+l.size-1-o=l.size-1 by omega,ĕ,Bs]
    ·rw[kH,if_neg ∅,if_pos ∅,show o+l.size+r.size-1-o-l.size=r.size-1 by omega,ĕ,Bs]
structure DD(t:Tr)(ds:List Int):Prop where
 len:ds.length=t.size
 leaf:∀j w,j < t.size->en t 0 j=.word w->ds.getD j 0=0
 pair:∀j a b,j < t.size->en t 0 j=.pair a b->ds.getD a 0 < ds.getD j 0/\ds.getD b 0 < ds.getD j 0/\1<=ds.getD j 0
 nd:(Qc t ds).Nodup
def DD.of(h:YF t ds=true):DD t ds:=by
 unfold YF at h;rw[AI,AI,decide_eq_true_iff,decide_eq_true_iff]at h;obtain⟨h1,h2,h3⟩:=h;have h4:∀j,j < t.size->okJ t ds j=true:=λj hj=>Df.mp h3 j (AU.mpr hj);refine⟨h1,λj w hj e=>?_,λj a b hj e=>?_,h2⟩
 ·have:=h4 j hj;unfold okJ at this;rw[e]at this;exact eq_of_beq this
 ·have:=h4 j hj;unfold okJ at this;rw[e]at this;rw[AI,AI,AI,decide_eq_true_iff,decide_eq_true_iff,decide_eq_true_iff,decide_eq_true_iff]at this;exact⟨this.1.1.1,this.1.1.2,this.1.2⟩
def DD.mem(D:DD t ds)(hj:j < t.size):ds.getD j 0∈aW t ds:=by
 cases e:en t 0 j with
 | word w=>rw[D.leaf j w hj e];exact .head _
 | pair a b=>
  refine AN _ (yD.mpr ?_);exact Au.mpr ⟨j,AO.mpr ⟨AU.mpr hj,by rw[e];rfl⟩,rfl⟩
theorem SJ(l:O Int):(sortI l).Pairwise (·<=·):=(EY (le:=λa b=>decide (a<=b)) (λa b c=>by simp;omega) (λa b=>by simp;omega) l).imp (by simp)
theorem DD.inc(D:DD t ds):(aW t ds).Pairwise (· < ·):=by
 unfold aW;refine Ex.mpr ⟨λx hx=>?_,?_⟩
 ·have hx:=yD.mp hx;unfold Qc splits at hx;obtain⟨j,hj,rfl⟩:=Au.mp hx;obtain⟨h1,h2⟩:=AO.mp hj;cases e:en t 0 j with
  | word w=>rw[e]at h2;cases h2
  | pair a b=>have:=(D.pair j a b (AU.mp h1) e).2.2;omega
 ·have nd:(sortI (Qc t ds)).Nodup:=(CK _ _).nodup_iff.mpr D.nd;exact(List.Pairwise.and (SJ _) nd).imp λ⟨h1,h2⟩=>Int.lt_iff_le_and_ne.mpr ⟨h1,h2⟩
theorem vP{l:O Int}(h:l.Pairwise (· < ·))(hn:n < l.length){x:Int}(hx:x∈l)(lt:x < l.getD n 0):1<=n/\x<=l.getD (n-1) 0:=by
 obtain⟨i,hi,rfl⟩:=Ee hx;have gd:∀{k} (hk:k < l.length),l.getD k 0=l[k]:=λ{k} hk=>by rw[Ae,Ad hk];rfl
 rw[gd hn]at lt;have c:i < n:=by
  rcases CU i n with c | c
  ·exact c
  ·rcases Eu c with c | c
   ·subst c;omega
   ·have:=Cc.mp h _ _ hn hi c;omega
 refine⟨by omega,?_⟩;rw[gd ∅];rcases Eu (show i<=n-1 by omega) with c2 | c2
 ·subst c2;exact CC _
 ·have:=Cc.mp h _ _ hi ∅ c2;omega
theorem Hd{l:O Int}(h:l.Pairwise (· < ·))(hn:n < l.length)(hi:i < n):l.getD i 0 < l.getD n 0:=by
 have gd:∀{k} (hk:k < l.length),l.getD k 0=l[k]:=λ{k} hk=>by rw[Ae,Ad hk];rfl
 rw[gd hn,gd ∅];exact Cc.mp h _ _ ∅ hn hi
theorem cE{t:Tr}{ds bs:O Int}:∀{m:Nat}{j n:Nat},(j,n)∈aN t ds bs m↔n < m/\j < t.size/\Ls t ds (bs.getD n 0) j=true
 | 0,j,n=>by simp[aN]
 | m+1,j,n=>by
  rw[aN,AQ,cE];unfold Jn;rw[Au]
  constructor
  ·rintro (⟨h1,h2,h3⟩ | ⟨k,hk,e⟩)
   ·exact⟨by omega,h2,h3⟩
   ·obtain⟨h1,h2⟩:=AO.mp hk;injection e with e1 e2;subst e1;subst e2;exact⟨by omega,AU.mp h1,h2⟩
  ·rintro⟨h1,h2,h3⟩;by_cases c:n=m
   ·subst c;exact .inr ⟨j,AO.mpr ⟨AU.mpr h2,h3⟩,rfl⟩
   ·exact .inl ⟨by omega,h2,h3⟩
theorem gP{b:Int}(hj:j < t.size):Ls t ds b j=true↔ds.getD j 0<=b/\∀a,kH t 0 j .aJ=.int ((a:Nat):Int)->b < ds.getD a 0:=by
 unfold Ls;rw[AI,decide_eq_true_iff];rcases fy t 0 j .aJ hj with⟨_,e⟩ | ⟨a,u,v,_,ha,e,_,_⟩
 ·rw[e];exact⟨λh=>⟨h.1,λa z=>by cases z⟩,λh=>⟨h.1,rfl⟩⟩
 ·rw[AL]at e;rw[e];refine⟨λh=>⟨h.1,λa' z=>?_⟩,λh=>⟨h.1,?_⟩⟩
  ·injection z with z;have:a=a':=by omega
   subst this;simpa using h.2
  ·simpa using h.2 a rfl
theorem DD.ok(D:DD t ds):okD t ds (aW t ds):=by
 rintro⟨j,n⟩ hp x hx;obtain⟨hn,hj,hs⟩:=cE.mp hp;obtain⟨Lx,sE⟩:=(gP hj).mp hs;have inc:=D.inc;show 1<=n/\(x,n-1)∈_;unfold Lz at hx;by_cases c:ds.getD j 0 < (aW t ds).getD n 0
 ·rw[if_pos c]at hx;have:x=j:=by simpa using hx
  subst this;obtain⟨g1,g2⟩:=vP inc hn (D.mem hj) c;have lt:=Hd inc hn (show n-1 < n by omega);exact⟨g1,cE.mpr ⟨by omega,hj,(gP hj).mpr ⟨g2,λa e=>by have:=sE a e;omega⟩⟩⟩
 ·rw[if_neg c]at hx;cases e:en t 0 j with
  | word w=>rw[e]at hx;cases hx
  | pair a b=>
   rw[e]at hx;obtain⟨p1,p2,p3⟩:=D.pair j a b hj e;obtain⟨_,_,a1,a2,_,a3,a4⟩:=pq t 0 j .aJ a b hj e;rw[AL,Ej]at *;have hx:x=a\/x=b:=by simpa using hx
   have key:x < t.size/\ds.getD x 0 < ds.getD j 0/\kH t 0 x .aJ=.int ((j:Nat):Int):=by
    rcases hx with rfl | rfl
    ·exact⟨by omega,p1,a3⟩
    ·exact⟨by omega,p2,a4⟩
   obtain⟨k1,k2,k3⟩:=key;obtain⟨g1,g2⟩:=vP inc hn (D.mem k1) ∅;have lt:=Hd inc hn (show n-1 < n by omega);refine⟨g1,cE.mpr ⟨by omega,k1,(gP k1).mpr ⟨g2,λa' e'=>?_⟩⟩⟩;rw[k3]at e';injection e' with e';have:j=a':=by omega
   subst this;omega
theorem Pk:∀(t:Tr) (o:Nat),∃w,en t o 0=.word w
 | .leaf w,o=>⟨w,rfl⟩
 | .node l r,o=>by rw[en,if_pos (show 0 < l.size from l.size_pos)];exact Pk l o
theorem DD.ne(D:DD t ds):aN t ds (aW t ds) (aW t ds).length≠[]:=by
 intro z;have:(0,0)∈aN t ds (aW t ds) (aW t ds).length:=by
  obtain⟨w,e⟩:=Pk t 0;refine cE.mpr ⟨by simp[aW],t.size_pos,(gP t.size_pos).mpr ⟨?_,λa ea=>?_⟩⟩
  ·rw[D.leaf 0 w t.size_pos e];exact CC _
  ·rcases fy t 0 0 .aJ t.size_pos with⟨_,e⟩ | ⟨a',u,v,_,ha,e,ep,_⟩
   ·rw[e]at ea;cases ea
   ·rw[e,AL]at ea;injection ea with ea;have:a'=a:=by omega
    subst this;have:=(D.pair a' u v ha ep).2.2;show(0:Int) < _;omega
 rw[z]at this;cases this
def VT(D:DD t ds)(hz:t.size<=25):(qh t.pv (.tup (a7 ds))).le (.ret (.tup (dgL t ds (aW t ds)))):=VU t ds D.len hz D.ne D.ok
def upL(t:Tr):O PV:=(AD t.size).map λj=>.tup (aH (up t 0 j []))
@[simp] theorem WO(t:Tr):(upL t).length=t.size:=by unfold upL;simp
def NY(t:Tr)(h:j < t.size):(upL t)[j]?=am (.tup (aH (up t 0 j []))):=by unfold upL;simp[h]
theorem aaS(t:Tr):∀(k j:Nat),j+k+1=t.size->(up t 0 j []).length<=k+1:=λk=>by
 induction k using Ct with
 | ind k ih=>
  intro j hj;rcases uV t 0 j .aJ [] ∅ with⟨q1,q2,q3⟩ | ⟨a,q1,q2,q3,q4⟩
  ·rw[q3];show 1<=k+1;omega
  ·rw[q4,Ap];have:=ih (t.size-a-1) ∅ a ∅;omega
theorem aek(t:Tr)(h:j < t.size):(up t 0 j []).length<=t.size:=by
 have:=aaS t (t.size-j-1) j ∅;omega
def LH(t:Tr)(i:Nat):O PV:=(AD t.size).map λj=>if j+i < t.size then .tup [] else .tup (aH (up t 0 j []))
def uz(t:Tr)(i:Nat):(LH t i).length=t.size:=by unfold LH;simp
def NX(t:Tr)(i:Nat)(h:j < t.size)(c:¬j+i < t.size):(LH t i)[j]?=am (.tup (aH (up t 0 j []))):=by unfold LH;simp[h,c]
theorem WM(t:Tr)(i j:Nat)(h:j+i+1=t.size):(LH t i).set j (.tup (aH (up t 0 j [])))=LH t (i+1):=by
 apply CB;intro k;by_cases hk:k < t.size
 ·by_cases e:j=k
  ·subst e;rw[Bw (by rw[uz];exact hk),NX t (i+1) hk ∅]
  ·rw[Bq e];unfold LH;simp only[Ai,BR hk,CZ];by_cases c:k+i < t.size
   ·rw[if_pos c,if_pos ∅]
   ·rw[if_neg c,if_neg ∅]
 ·rw[A3 (by rw[B9,uz];omega),A3 (by rw[uz];omega)]
def ael(t:Tr):LH t 0=An t.size (.tup []):=by
 apply CB;intro k;unfold LH;by_cases hk:k < t.size
 ·simp[hk]
 ·simp[hk]
theorem WN(t:Tr):LH t t.size=upL t:=by
 apply BE;intro j _;rw[if_neg ∅]
theorem Um(t:Tr)(hz:t.size<=900):(k8 t.pv).le (.ret (upL t)):=λQ q=>by
 unfold k8;simp only[nw,ga];refine W.le.use (K4 t hz) ?_;simp only[ax,o0];refine Uh (λ_=>.tup []) (λx hx=>rfl) ?_;have e0:(ahL t).map (λ_=>PV.tup [])=LH t 0:=by rw[Fv,PC,ael]
 have en:(((t.size:Nat):Int)-1 - -1).toNat=t.size:=by omega
 rw[e0];simp only[hZ,PC,nw,v8,o0,pj,Pf,en];refine⟨⟨trivial,cO ∅ ∅⟩,?_⟩;show(bS _ _ _).run _;refine eU (λi s=>s=LH t i) rfl (λi x s hx hs=>?_) (λs hs=>?_)
 ·subst hs;obtain⟨hi,rfl⟩:=sL hx;obtain⟨j,hj⟩:∃j:Nat,j=t.size-1-i:=⟨_,rfl⟩;have ej:(((t.size:Nat):Int)-1-(i:Int))=(j:Int):=by omega
  rw[ej];have Ċ:j < t.size:=by omega
  have fin:∀l:O PV,l.length<=900->.int (j:Int)::l=aH (up t 0 j [])->(ap (addW (.tup [.int (j:Int)]) (.tup l)) λx=>fY (LH t i) (.int (j:Int)) x).run λs=>s=LH t (i+1):=λl hl he=>by
   rw[HH,tz (bx (by simp;omega))];show(fY _ _ (.tup (.int (j:Int)::l))).run _;rw[he,je (by rw[uz];exact Ċ),WM t i j ∅];rfl
  simp only[nw,ga,cR (PF t Ċ),o0];rcases uV t 0 j .aJ [] Ċ with⟨_,e,e2⟩ | ⟨a,ha1,ha,e,e2⟩
  ·rw[e];simp only[vp,mN,PV.d4,bG,o0,if_true];have:=fin [] (by simp) (by rw[e2,AL];rfl);simpa using this
  ·rw[AL]at e;rw[e];have i2:G8 (LH t i) (.int (a:Int))=.ret (.tup (aH (up t 0 a []))):=cR (NX t i ha ∅);simp only[vp,mN,PV.d4,bG,o0,Av,if_false,i2,nw];have ua:=aek t ha;have:=fin (aH (up t 0 a [])) (by rw[eN];omega) (by rw[e2];simp);simpa using this
 ·subst hs;have el:(ox (((t.size:Nat):Int)-1) t.size).length=t.size:=by unfold ox;simp
  rw[el,WN];exact q
def apt(t:Tr)(j:Nat):O Nat:=(AD t.size).filter λk=>!decide (k∈up t 0 j [])&&!decide (j∈up t 0 k [])
theorem Wc(t:Tr)(hz:t.size<=900)(hj:j < t.size):(gX (.cl (upL t)) (.int (j:Int))).le (.ret (.tup (aH (apt t j)))):=λQ q=>by
 unfold gX;simp only[nw,ga,jA,WO,hV,tz (cO (i:=0) (j:=(t.size:Int)) ∅ ∅),o0,BH,ny];refine Uq (λk=>!decide (k∈up t 0 j [])&&!decide (j∈up t 0 k [])) (λk hk=>?_) q;have hk:=AU.mp hk;simp only[nw,bD,cR (NY t hj),cR (NY t hk),ax,UP,if_true];by_cases c1:k∈up t 0 j []
 ·simp[c1]
 ·by_cases c2:j∈up t 0 k []
  ·simp[c1,c2]
  ·simp[c1,c2]
def IM:Ent->O Nat
 | .word _=>[]
 | .pair a b=>[a,b]
def iG(e:Ent):cx e.pv=.ret (.tup (aH (IM e))):=by
 unfold cx;cases e with
 | word w=>simp[Ent.pv,IM]
 | pair a b=>simp[Ent.pv,IM]
def Ya(h:es[j]?=am e):fi (.tup (es.map Ent.pv)) (.int (j:Int))=.ret (OJ e j):=by
 have i1:G8 (es.map Ent.pv) (.int (j:Int))=.ret e.pv:=cR (by rw[Ai,h];rfl);unfold fi;cases e with
 | word w=>simp only[nw,ax,i1];rfl
 | pair a b=>simp only[nw,ax,i1];rfl
def grS(t:Tr)(j:Nat):PV:=.tup [OJ (en t 0 j) j,.int 0,.tup (aH (IM (en t 0 j))),.tup (aH (apt t j))]
def grL(t:Tr):O PV:=(AD t.size).map (grS t)
theorem Rb(t:Tr)(hz:t.size<=900):(qg t.pv).le (.ret (.tup (grL t))):=λQ q=>by
 unfold qg;simp only[nw,ga];refine W.le.use (mr t hz) ?_;refine W.le.use (Um t hz) ?_;simp only[hZ,bR,o0,hV,tz (cO (i:=0) (j:=(t.size:Int)) ∅ ∅),BH,ny];unfold aH;refine kZ (grS t) (λj hj R r=>?_) q;have hj:=AU.mp hj;have i1:G8 ((t.nd 0).map Ent.pv) (.int (j:Int))=.ret (en t 0 j).pv:=cR (by rw[Ai,gI t 0 j hj];rfl);simp only[Ya (gI t 0 j hj),nw,ax,i1,iG,ga,o0];exact W.le.use (Wc t hz hj) r
end My
variable{ws:O Bz}
namespace My
structure Sy where
 nm:PV
 lv:Nat
 un:List Nat
 be:List Nat
def Sy.pv(s:Sy):PV:=.tup [s.nm,.int (s.lv:Int),.tup (aH s.un),.tup (aH s.be)]
def ou(g:O Sy):PV:=.tup (g.map Sy.pv)
def sy(g:O Sy)(i:Nat):Sy:=g.getD i ⟨.aJ,0,[],[]⟩
def aa2{g:O Sy}(h:i < g.length):g[i]?=am (sy g i):=by
 unfold sy;rw[Ae,Ad h];rfl
def acI{g:O Sy}(h:i < g.length):G8 (g.map Sy.pv) (.int (i:Int))=.ret (sy g i).pv:=cR (by rw[Ai,aa2 h];rfl)
def UM(w:Str):PV->Bool
 | .str s=>s==w
 | _=>false
def hm(g:O Sy)(i:Nat)(w:Str):Bool:=(sy g i).un.isEmpty&&UM w (sy g i).nm
inductive R3(g:List Sy):Nat->Nat->Prop
 | refl (i:Nat):R3 g i i
 | step {i u j:Nat}:u∈(sy g i).un->R3 g u j->R3 g i j
structure WG(g:List Sy)(ws:List Str):Prop where
 pos:0 < g.length
 len:g.length<=300
 dn:∀i,i < g.length->∀u∈(sy g i).un,u < i
 oS:∀i,i < g.length->(sy g i).un.length<=2
 be:∀i,i < g.length->∀u∈(sy g i).be,u < g.length
 ag7:∀i,i < g.length->(sy g i).be.length<=30
 nm:∀i,i < g.length->(∃s,(sy g i).nm=.str s)\/∃n,(sy g i).nm=.int n
 ajZ:∀w∈ws,∃i,i < g.length/\R3 g (g.length-1) i/\hm g i w=true
 rch:∀i,i < g.length->R3 g (g.length-1) i
def j9{g:O Sy}(h:i < g.length):cX (ou g) (.int (i:Int))=.ret (.tup (aH (sy g i).un)):=by
 unfold cX ou;simp only[nw,ax,acI h];rfl
def RG{g:O Sy}(h:i < g.length):ju (ou g) (.int (i:Int))=.ret (.tup (aH (sy g i).be)):=by
 unfold ju ou;simp only[nw,ax,acI h];rfl
theorem eq_nil(l:O Nat)(h:l.length<=1000):of2 iP (.tup (aH l)) (.tup [])=.ret (.bl l.isEmpty):=by
 have fk:fm (aH l)=true:=gr.mpr λx hx=>by
  obtain⟨n,_,rfl⟩:=Au.mp hx;simp
 have fd:d6 (aH l)<=1:=gs λx hx=>by
  obtain⟨n,_,rfl⟩:=Au.mp hx;simp
 rw[yV,tz ⟨by simp[fk],by simp,by simp;omega⟩];cases l with
 | nil=>simp
 | cons a l=>simp[gE]
def agN(h:(∃s,x=.str s)\/∃n,x=.int n)(w:Str):of2 iP x (.str w)=.ret (.bl (UM w x)):=by
 rcases h with⟨s,rfl⟩ | ⟨n,rfl⟩
 ·rw[yV,tz ⟨by simp,by simp,by simp⟩,aas];rfl
 ·rw[yV,tz ⟨by simp,by simp,by simp⟩];simp[jY,UM]
theorem O5{g:O Sy}(G:WG g ws)(h:i < g.length)(w:Str):ng (ou g) (.int (i:Int)) (.str w)=.ret (.bl (hm g i w)):=by
 unfold ng;have l2:=G.oS i h;have i0:dC [(sy g i).nm,PV.int ((sy g i).lv:Int),.tup (aH (sy g i).un),.tup (aH (sy g i).be)] 0=am (sy g i).nm:=rfl;simp only[nw,j9 h,eq_nil _ (show(sy g i).un.length<=1000 by omega)];unfold ou hm;cases e:(sy g i).un.isEmpty with
 | false=>simp
 | true=>simp only[Y0,ax,nw,acI h,Sy.pv,bQ,i0,GE,agN (G.nm i h) w,F5]
abbrev Dd:=Str×Nat×Nat
def d2(d:Dd):PV:=.tup [.str d.1,.tup [.int (d.2.1:Int),.int (d.2.2:Int)]]
abbrev dbl(i:Nat):Dd:=("doubled",i,i)
abbrev ovr(i o:Nat):O Dd:=[("over",i,o),("over",o,i)]
def Lu:O Nat->O Dd
 | [a,b]=>[("split",a,b),("split",b,a)]
 | _=>[]
def dds(g:O Sy)(i:Nat):O Dd:=dbl i::(Lu (sy g i).un++(sy g i).be.flatMap (ovr i))
def W0(l:O Nat):(Lu l).length<=2:=by unfold Lu;split <;> simp
theorem ac3{g:O Sy}(G:WG g ws)(h:i < g.length){d:Dd}(hd:d∈dds g i):d.2.1 < g.length/\d.2.2 < g.length:=by
 rcases Aw.mp hd with rfl | hd
 ·exact⟨h,h⟩
 rcases AQ.mp hd with hd | hd
 ·have hu:=G.dn i h;revert hu hd;generalize (sy g i).un=l;intro hd hu
  match l with
  | [a,b]=>
   have h1:=hu a (by simp);have h2:=hu b (by simp);simp[Lu]at hd;rcases hd with rfl | rfl
   ·exact⟨by show a < _;omega,by show b < _;omega⟩
   ·exact⟨by show b < _;omega,by show a < _;omega⟩
  | []=>simp[Lu]at hd
  | [_]=>simp[Lu]at hd
  | _::_::_::_=>simp[Lu]at hd
 ·obtain⟨o,ho,hd⟩:=List.mem_flatMap.mp hd;have:=G.be i h o ho;simp at hd;rcases hd with rfl | rfl
  ·exact⟨h,this⟩
  ·exact⟨this,h⟩
def fa(F:O (O Bool))(j i:Nat):Bool:=(F.getD j []).getD i false
def lD(g:O Sy)(F:O (O Bool))(e:Ent)(i:Nat):O Dd:=match e with
 | .word w=>if hm g i w=true then [("found",i,i)] else []
 | .pair a b=>(dds g i).filter λd=>fa F a d.2.1&&fa F b d.2.2
def Li(n:Nat):Ent->Prop
 | .word _=>True
 | .pair a b=>a < n/\b < n
def sG{l m:List α}{d:α}(h:i < l.length):(l++m).getD i d=l.getD i d:=by
 rw[Ae,Ax h,<- Ae]
def sF{l m:List α}{d:α}(h:l.length<=i):(l++m).getD i d=m.getD (i-l.length) d:=by
 rw[Ae,Az h,<- Ae]
def Wz(es:O Ent)(j:Nat):Ent:=es.getD j (.word "")
end My
variable{u:Nat}{g:O My.Sy}
namespace My
def Ch(g:O Sy):O Nat->Prop
 | []=>False
 | [i]=>i < g.length
 | i::k::r=>i < g.length/\k∈(sy g i).un/\Ch g (k::r)
theorem Ch.snoc(hu:u∈(sy g i).un)(hg:u < g.length):∀{p:O Nat},Ch g (p++[i])->Ch g (p++[i]++[u])
 | [],h=>⟨h,hu,hg⟩
 | [a],h=>⟨h.1,h.2.1,h.2.2,hu,hg⟩
 | a::b::p,h=>⟨h.1,h.2.1,Ch.snoc hu hg (p:=b::p) h.2.2⟩
theorem Ch.last:∀{p:O Nat},Ch g (p++[i])->i < g.length
 | [],h=>h
 | [a],h=>h.2.2
 | a::b::p,h=>Ch.last (p:=b::p) h.2.2
theorem Ch.lt:∀{p:O Nat},Ch g p->∀x∈p,x < g.length
 | [i],h,x,hx=>by rw[AR.mp hx];exact h
 | i::k::r,h,x,hx=>by
  rcases Aw.mp hx with rfl | hx
  ·exact h.1
  ·exact Ch.lt (p:=k::r) h.2.2 x hx
theorem Ch.len(G:WG g ws):∀{p:O Nat}{i:Nat},Ch g (i::p)->p.length<=i
 | [],i,_=>A9 _
 | k::r,i,h=>by
  have h1:=G.dn i h.1 k h.2.1;have h2:=Ch.len G (p:=r) (i:=k) h.2.2;rw[Ap];omega
def ht:Tr->Nat->Nat
 | .leaf _,_=>0
 | .node l r,j=>if j < l.size then ht l j else if j < l.size+r.size then ht r (j-l.size) else (Tr.node l r).depth
theorem O4(t:Tr):ht t (t.size-1)=t.depth:=by
 cases t with
 | leaf _=>rfl
 | node l r=>
  have es:(Tr.node l r).size=l.size+r.size+1:=rfl;rw[ht,if_neg ∅,if_neg ∅]
theorem aaf:∀(t:Tr) (o j a b:Nat),j < t.size->en t o j=.pair a b->ht t (a-o) < ht t j/\ht t (b-o) < ht t j
 | .leaf _,o,j,a,b,h,e=>by rw[en]at e;cases e
 | .node l r,o,j,a,b,h,e=>by
  have es:(Tr.node l r).size=l.size+r.size+1:=rfl;have lp:=l.size_pos;have rp:=r.size_pos;by_cases c1:j < l.size
  ·rw[en,if_pos c1]at e;obtain⟨h1,h2,h3,h4,_⟩:=pq l o j .aJ a b c1 e;have:=aaf l o j a b c1 e;have q1:∀x,x < l.size->ht (.node l r) x=ht l x:=λx hx=>by rw[ht,if_pos hx]
   rw[q1 (a-o) ∅,q1 (b-o) ∅,q1 j c1];exact this
  ·by_cases c2:j < l.size+r.size
   ·rw[en,if_neg c1,if_pos c2]at e;obtain⟨h1,h2,h3,h4,_⟩:=pq r (o+l.size) (j-l.size) .aJ a b ∅ e;have:=aaf r (o+l.size) (j-l.size) a b ∅ e;have q1:∀x,¬x < l.size->x < l.size+r.size->ht (.node l r) x=ht r (x-l.size):=λx h1 h2=>by rw[ht,if_neg h1,if_pos h2]
    rw[q1 (a-o) ∅ ∅,q1 (b-o) ∅ ∅,q1 j c1 c2,FQ,FQ];exact this
   ·rw[en,if_neg c1,if_neg c2]at e;injection e with e1 e2;subst e1;subst e2;have er:(Tr.node l r).depth=max l.depth r.depth+1:=rfl;have ej:ht (.node l r) j=(Tr.node l r).depth:=by rw[ht,if_neg c1,if_neg c2]
    have e3:ht (.node l r) (o+l.size-1-o)=l.depth:=by rw[ht,if_pos ∅,show o+l.size-1-o=l.size-1 by omega,O4]
    have e4:ht (.node l r) (o+l.size+r.size-1-o)=r.depth:=by rw[ht,if_neg ∅,if_pos ∅,show o+l.size+r.size-1-o-l.size=r.size-1 by omega,O4]
    omega
theorem HJ:∀(t:Tr) (o j:Nat) (w:Str),j < t.size->en t o j=.word w->w∈t.aB
 | .leaf x,o,j,w,h,e=>by
  rw[en]at e;injection e with e;subst e;simp[Tr.aB]
 | .node l r,o,j,w,h,e=>by
  have es:(Tr.node l r).size=l.size+r.size+1:=rfl;by_cases c1:j < l.size
  ·rw[en,if_pos c1]at e;exact Bu _ (HJ l o j w c1 e)
  ·by_cases c2:j < l.size+r.size
   ·rw[en,if_neg c1,if_pos c2]at e;exact A2 _ (HJ r _ (j-l.size) w ∅ e)
   ·rw[en,if_neg c1,if_neg c2]at e;cases e
def wo(t:Tr)(h:j < t.size):Li j (en t 0 j):=by
 cases e:en t 0 j with
 | word w=>trivial
 | pair a b=>exact fu t h e
def ac7(l:O PV)(h:a<=l.length):sN l (am (a:Int)) ce=l.drop a:=by
 unfold sN;rw[HT.Jq,HT.Xe,Nat.min_eq_left h,CV (by simp)]
def dl(g:O Sy)(i:Nat):O Dd:=dbl i::(Lu (sy g i).un++((sy g i).be.map (λo=>(("over",i,o):Dd))++(sy g i).be.map (λo=>(("over",o,i):Dd))))
theorem VP(G:WG g ws)(h:i < g.length):(dl g i).length<=63:=by
 unfold dl;simp only[Ap,Al,Ah];have:=W0 (sy g i).un;have:=G.ag7 i h;omega
theorem Ze(d:Dd):sC (d2 d)=true:=rfl
def Q6(p:Nat×Nat):PV:=.tup [.int (p.1:Int),.int (p.2:Int)]
def SH(G:WG g ws)(h:i < g.length):jq (ou g) (.int (i:Int))=.ret ((Lu (sy g i).un).map λd=>Q6 (d.2.1,d.2.2)):=by
 unfold jq;simp only[nw,j9 h];have hu:=G.oS i h;revert hu;generalize (sy g i).un=l;intro hu
 match l,hu with
 | [],_=>simp only[hZ,kr,vn,Ap,BN,jZ,nw,bG];rfl
 | [a],_=>simp only[hZ,kr,vn,Ap,BN,jZ,nw,bG];rfl
 | [a,b],_=>
  have i0:dC [PV.int (a:Int),PV.int (b:Int)] 0=am (.int (a:Int)):=rfl;have i1:dC [PV.int (a:Int),PV.int (b:Int)] 1=am (.int (b:Int)):=rfl;simp only[hZ,kr,vn,Ap,BN,jZ,nw,bG,ax,bQ,i0,i1,GE];rfl
theorem XR(G:WG g ws)(h:i < g.length):k7 (ou g) (.int (i:Int))=.ret ((sy g i).be.map (λo=>Q6 (i,o))++(sy g i).be.map (λo=>Q6 (o,i))):=by
 unfold k7;have l3:=G.ag7 i h;simp only[nw,RG h,ax];rw[qd (g:=λo=>Q6 (i,o)) λk hk=>rfl];rw[qd (g:=λo=>Q6 (o,i)) λk hk=>rfl];simp only[nw];rw[gG (by simp;omega)]
theorem y7(G:WG g ws)(h:i < g.length)(q:∀m:O PV,m.Perm ((dl g i).map d2)->Q m):(eA (ou g) (Ent.pair a b).pv (.int (i:Int))).run Q:=by
 have l63:=VP G h;unfold eA;simp only[Ent.pv,nw,ga,qL,qK,fJ,o0,Av,if_false,SH G h,XR G h];refine kZ (λd:Dd=>.tup [.str "split",Q6 (d.2.1,d.2.2)]) (λd _ R r=>r) ?_;have em:(sy g i).be.map (λo=>Q6 (i,o))++(sy g i).be.map (λo=>Q6 (o,i))=((sy g i).be.map (λo=>((i,o):Nat×Nat))++(sy g i).be.map (λo=>(o,i))).map Q6:=by
  rw[AW,AG,AG];rfl
 rw[em];refine kZ (λp:Nat×Nat=>.tup [.str "over",Q6 p]) (λp _ R r=>r) ?_;simp only[o0,jz,nw];have es:(Lu (sy g i).un).map (λd=>PV.tup [.str "split",Q6 (d.2.1,d.2.2)])=(Lu (sy g i).un).map d2:=by
  refine BE λd hd=>?_;have:d.1=("split":Str):=by
   revert hd;generalize (sy g i).un=l;intro hd;unfold Lu at hd
   split at hd
   ·simp at hd;rcases hd with rfl | rfl <;> rfl
   ·cases hd
  unfold d2 Q6;rw[this]
 have eo:((sy g i).be.map (λo=>((i,o):Nat×Nat))++(sy g i).be.map (λo=>(o,i))).map (λp=>PV.tup [.str "over",Q6 p])=((sy g i).be.map (λo=>(("over",i,o):Dd))++(sy g i).be.map (λo=>(("over",o,i):Dd))).map d2:=by
  simp only[AW,AG];rfl
 rw[es,eo];have ll:(dl g i).length=1+(Lu (sy g i).un).length+((sy g i).be.map (λo=>(("over",i,o):Dd))++(sy g i).be.map (λo=>(("over",o,i):Dd))).length:=by
  unfold dl;simp only[Ap,Al];omega
 rw[gG (by simp only[Ah,Ap,BN];omega)];simp only[o0];rw[gG (by simp only[Ah,Al,Ap,BN]at *;omega)];have e:([PV.tup [.str "doubled",.tup [.int (i:Int),.int (i:Int)]]]++(Lu (sy g i).un).map d2)++((sy g i).be.map (λo=>(("over",i,o):Dd))++(sy g i).be.map (λo=>(("over",o,i):Dd))).map d2=(dl g i).map d2:=by
  unfold dl;simp only[Ar,AW,AZ];rfl
 simp only[o0];rw[e];refine⟨⟨by rw[Ah];omega,Df.mpr λx hx=>?_⟩,λm hm=>q m hm⟩;obtain⟨d,_,rfl⟩:=Au.mp hx;exact Ze d
theorem Dt.isD(D:Dt t ds [] d)(h:d<=99):YF t ds=true:=by
 unfold YF;rw[AI,AI,decide_eq_true_iff,decide_eq_true_iff];refine⟨D.len,?_,Df.mpr λj hj=>?_⟩
 ·unfold Qc;have hp:(splits t).Pairwise (· < ·):=by unfold splits;exact List.Pairwise.filter _ DC
  rw[List.nodup_iff_pairwise_ne,EL];refine List.Pairwise.imp_of_mem (λ{x y} hx hy lt e=>?_) hp;obtain⟨x1,x2⟩:=AO.mp hx;obtain⟨y1,y2⟩:=AO.mp hy;have:=D.inj x y (AU.mp x1) (AU.mp y1) (by simp) (by simp) x2 y2 e;omega
 ·have hj':=AU.mp hj;unfold okJ;cases e:en t 0 j with
  | word w=>
   rw[D.zero j hj' (.inl (by rw[e];rfl))];rfl
  | pair a b=>
   obtain⟨_,_,h1,h2,h3,h4⟩:=D.up j hj' (by simp) a b e;show(decide (ds.getD a 0 < ds.getD j 0)&&decide (ds.getD b 0 < ds.getD j 0)&&decide (1<=ds.getD j 0)&&decide (ds.getD j 0<=99))=true;rw[decide_eq_true h1,decide_eq_true h2,decide_eq_true h3,decide_eq_true ∅];rfl
theorem wz:∀(t:Tr) (o:Nat),(t.nd o).countP xM+1=t.aB.length
 | .leaf _,_=>rfl
 | .node l r,o=>by
  have h1:=wz l o;have h2:=wz r (o+l.size);rw[Tr.nd,Ez,Ez];show _+(List.countP xM [Ent.pair _ _])+1=(l.aB++r.aB).length;simp[xM];omega
theorem abT(t:Tr):t.nd 0=(AD t.size).map (en t 0):=by
 refine CB λj=>?_;by_cases h:j < t.size
 ·rw[gI t 0 j h,Ai,BR h];rfl
 ·rw[A3 (by rw[t.bp];omega),A3 (by simp;omega)]
def LV(t:Tr):(splits t).length+1=t.aB.length:=by
 rw[<- wz t 0,abT t,List.countP_map];unfold splits;rw[<- List.countP_eq_length_filter];rfl
def R3.snoc(r:R3 g i j)(hu:u∈(sy g j).un):R3 g i u:=by
 induction r with
 | refl i=>exact .step hu (.refl _)
 | step h _ ih=>exact .step h (ih hu)
def gS(t:Tr):O Sy:=(AD t.size).map λj=>⟨OJ (en t 0 j) j,0,IM (en t 0 j),apt t j⟩
def tF(t:Tr)(h:j < t.size):sy (gS t) j=⟨OJ (en t 0 j) j,0,IM (en t 0 j),apt t j⟩:=by
 unfold sy gS;rw[Ae,Ai,BR h];rfl
@[simp] theorem jX(t:Tr):(gS t).length=t.size:=by unfold gS;simp
def ago(t:Tr):ou (gS t)=.tup (grL t):=by
 unfold ou gS grL;rw[AG];congr 1
def ZW(e:Ent)(j:Nat):(∃s,OJ e j=.str s)\/∃n,OJ e j=.int n:=by
 cases e with
 | word w=>exact .inl ⟨w,rfl⟩
 | pair a b=>exact .inr ⟨_,rfl⟩
def acq(e:Ent):(IM e).length<=2:=by cases e <;> simp[IM]
theorem uF:∀(s:Tr) (t:Tr) (o:Nat) (w:Str),(∀k,k < s.size->en t 0 (o+k)=en s o k)->o+s.size<=t.size->w∈s.aB->∃i,i < t.size/\R3 (gS t) (o+s.size-1) i/\en t 0 i=.word w
 | .leaf x,t,o,w,hs,hz,hw=>by
  have e0:en t 0 o=.word x:=hs 0 (by show 0 < 1;decide);have hz:o+1<=t.size:=hz;have:w=x:=by simpa[Tr.aB]using hw
  subst this;exact⟨o,by omega,.refl _,e0⟩
 | .node l r,t,o,w,hs,hz,hw=>by
  have es:(Tr.node l r).size=l.size+r.size+1:=rfl;have er:en t 0 (o+(l.size+r.size))=.pair (o+l.size-1) (o+l.size+r.size-1):=by rw[hs _ ∅,en,if_neg ∅,if_neg ∅]
  have ei:o+(Tr.node l r).size-1=o+(l.size+r.size):=by omega
  have hl:∀k,k < l.size->en t 0 (o+k)=en l o k:=λk hk=>by rw[hs k ∅,en,if_pos hk]
  have hr:∀k,k < r.size->en t 0 (o+l.size+k)=en r (o+l.size) k:=λk hk=>by rw[Bs,hs _ ∅,en,if_neg ∅,if_pos ∅,Dv]
  have un:(sy (gS t) (o+(l.size+r.size))).un=[o+l.size-1,o+l.size+r.size-1]:=by rw[tF t ∅,er];rfl
  rw[ei];rcases AQ.mp (show w∈l.aB++r.aB from hw) with hw | hw
  ·obtain⟨i,h1,h2,h3⟩:=uF l t o w hl ∅ hw;exact⟨i,h1,.step (by rw[un];simp) h2,h3⟩
  ·obtain⟨i,h1,h2,h3⟩:=uF r t (o+l.size) w hr ∅ hw;exact⟨i,h1,.step (by rw[un];simp) h2,h3⟩
theorem PZ(hz:t.size<=30):WG (gS t) t.aB:=by
 have tp:=t.size_pos;have Ó:∀k i,i+k+1=t.size->R3 (gS t) (t.size-1) i:=λk=>by
  induction k using Ct with
  | ind k ih=>
   intro i hk;rcases fy t 0 i .aJ ∅ with⟨e,_⟩ | ⟨a,u,v,ia,ha,_,ep,UX⟩
   ·rw[<- e];exact .refl _
   ·refine(ih (t.size-a-1) ∅ a ∅).snoc ?_;rw[tF t ha,ep];rw[AL]at UX;rcases UX with rfl | rfl <;> simp[IM]
 refine⟨by rw[jX];omega,by rw[jX];omega,λi hi u hu=>?_,λi hi=>?_,λi hi u hu=>?_,λi hi=>?_,λi hi=>?_,λw hw=>?_,λi hi=>by rw[jX]at hi ⊢;exact Ó (t.size-i-1) i ∅⟩
 ·rw[jX]at hi;rw[tF t hi]at hu;cases e:en t 0 i with
  | word w=>rw[e]at hu;cases hu
  | pair a b=>
   rw[e]at hu;have:=fu t hi e;have hu:u=a\/u=b:=by simpa[IM]using hu
   omega
 ·rw[jX]at hi;rw[tF t hi];exact acq _
 ·rw[jX]at hi ⊢;rw[tF t hi]at hu;exact AU.mp (AO.mp hu).1
 ·rw[jX]at hi;rw[tF t hi];have:=BF (λk=>!decide (k∈up t 0 i [])&&!decide (i∈up t 0 k [])) (AD t.size);rw[CA]at this;show(apt t i).length<=30;unfold apt;omega
 ·rw[jX]at hi;rw[tF t hi];exact ZW _ _
 ·obtain⟨i,h1,h2,h3⟩:=uF t t 0 w (λk hk=>by rw[AL]) ∅ hw;rw[AL]at h2;refine⟨i,by rw[jX];exact h1,by rw[jX];exact h2,?_⟩;unfold hm;rw[tF t h1,h3];simp[IM,OJ,UM]
def dS(t:Tr)(ds bs:O Int):O Sy:=(aN t ds bs bs.length).map λp=>⟨OJ (en t 0 p.1) p.1,p.2,(Lz (en t 0 p.1) p.1 (ds.getD p.1 0) (bs.getD p.2 0)).map λx=>(aN t ds bs bs.length).idxOf (x,p.2-1),bsd (aN t ds bs bs.length) p.1 p.2⟩
def ag0(t:Tr)(ds bs:O Int):ou (dS t ds bs)=.tup (dgL t ds bs):=by
 unfold ou dS dgL;rw[AG];congr 1
@[simp] theorem ac6(t:Tr)(ds bs:O Int):(dS t ds bs).length=(aN t ds bs bs.length).length:=by unfold dS;rw[Ah]
theorem sX(t:Tr)(ds bs:O Int):∀m,(aN t ds bs m).Pairwise λp q=>p.2<=q.2
 | 0=>.nil
 | m+1=>by
  rw[aN];have Qb:∀p∈Jn t ds (bs.getD m 0) m t.size,p.2=m:=λp hp=>by
   obtain⟨k,_,rfl⟩:=Au.mp hp;rfl
  refine List.pairwise_append.mpr ⟨sX t ds bs m,?_,λa ha b hb=>?_⟩
  ·exact Cc.mpr λi j hi hj _=>by rw[Qb _ (DY hi),Qb _ (DY hj)];exact Ak _
  ·have h1:=(iK ha).1;rw[Qb b hb];omega
theorem yI(t:Tr)(ds bs:O Int)(n:Nat):∀m,((aN t ds bs m).filter λp=>decide (p.2=n)).length<=t.size
 | 0=>A9 _
 | m+1=>by
  rw[aN,Ey,Al];have ih:=yI t ds bs n m;by_cases c:n=m
  ·subst c;have z:(aN t ds bs n).filter (λp=>decide (p.2=n))=[]:=by
    rw[Fh];intro p hp;have:=(iK hp).1;simp;omega
   rw[z];have h1:=BF (λp:Nat×Nat=>decide (p.2=n)) (Jn t ds (bs.getD n 0) n t.size);have h2:=zM t ds (bs.getD n 0) n t.size;simp only[BN];omega
  ·have z:(Jn t ds (bs.getD m 0) m t.size).filter (λp=>decide (p.2=n))=[]:=by
    rw[Fh];intro p hp;obtain⟨k,_,rfl⟩:=Au.mp hp;simp;omega
   rw[z];simpa using ih
section
theorem DD.above(D:DD t ds)(h:(j,n)∈aN t ds (aW t ds) (aW t ds).length)(hn:n+1 < (aW t ds).length):∃a,(a,n+1)∈aN t ds (aW t ds) (aW t ds).length/\j∈Lz (en t 0 a) a (ds.getD a 0) ((aW t ds).getD (n+1) 0):=by
 obtain⟨hnl,hj,hs⟩:=cE.mp h;obtain⟨s1,s2⟩:=(gP hj).mp hs;have inc:=D.inc;have lt:=Hd inc hn (show n < n+1 by omega);have Ý:(∀a,kH t 0 j .aJ=.int ((a:Nat):Int)->(aW t ds).getD (n+1) 0 < ds.getD a 0)->∃a,(a,n+1)∈aN t ds (aW t ds) (aW t ds).length/\j∈Lz (en t 0 a) a (ds.getD a 0) ((aW t ds).getD (n+1) 0):=λhx=>
  ⟨j,cE.mpr ⟨hn,hj,(gP hj).mpr ⟨by omega,hx⟩⟩,by unfold Lz;rw[if_pos ∅];exact .head _⟩
 rcases fy t 0 j .aJ hj with⟨_,e⟩ | ⟨a,u,v,ja,ha,e,ep,UX⟩
 ·exact Ý λa z=>by rw[e]at z;cases z
 ·rw[AL]at e UX;by_cases c:(aW t ds).getD (n+1) 0 < ds.getD a 0
  ·refine Ý λa' z=>?_;rw[e]at z;injection z with z;have:a=a':=by omega
   subst this;exact c
  ·have sa:=s2 a e;have eq:ds.getD a 0=(aW t ds).getD (n+1) 0:=by
    rcases Int.lt_or_eq_of_le (show ds.getD a 0<=(aW t ds).getD (n+1) 0 by omega) with c2 | c2
    ·have:=(vP inc hn (D.mem ha) c2).2;rw[Nat.add_sub_cancel]at this;omega
    ·exact c2
   refine⟨a,cE.mpr ⟨hn,ha,(gP ha).mpr ⟨by omega,λa2 e2=>?_⟩⟩,?_⟩
   ·rcases fy t 0 a .aJ ha with⟨_,e3⟩ | ⟨a3,u3,v3,_,h3,e3,ep3,afW⟩
    ·rw[e3]at e2;cases e2
    ·rw[e3]at e2;injection e2 with e2;rw[AL]at e2 afW;have:a3=a2:=by omega
     subst this;have:=D.pair a3 u3 v3 h3 ep3;rcases afW with rfl | rfl <;> omega
   ·unfold Lz;rw[if_neg ∅,ep];rcases UX with rfl | rfl <;> simp
theorem DD.last(D:DD t ds)(h:(j,n)∈aN t ds (aW t ds) (aW t ds).length)(hn:n+1=(aW t ds).length):j=t.size-1:=by
 obtain⟨hnl,hj,hs⟩:=cE.mp h;obtain⟨s1,s2⟩:=(gP hj).mp hs;rcases fy t 0 j .aJ hj with⟨e,_⟩ | ⟨a,u,v,ja,ha,e,ep,UX⟩
 ·exact e
 ·exfalso;rw[AL]at e;have sa:=s2 a e;have inc:=D.inc;obtain⟨i,hi,ei⟩:=Ee (D.mem ha);have gd:(aW t ds).getD i 0=ds.getD a 0:=by rw[Ae,Ad hi];exact ei
  rcases CU i n with c | c
  ·have:=Hd inc hnl c;omega
  ·have:i=n:=by omega
   subst this;omega
def MN[BEq α][LawfulBEq α]{l:List α}(nd:l.Nodup){x:α}(h:l[i]?=am x):l.idxOf x=i:=by
 obtain⟨hi,e⟩:=Am.mp h;rw[<- e];exact nd.idxOf_getElem i hi
def NG[BEq α][LawfulBEq α]{l:List α}{x:α}(h:x∈l):l[l.idxOf x]?=am x:=by
 have:=B5 h;rw[Ad this,List.getElem_idxOf this]
theorem Sd(D:DD t ds)(hz:t.size<=15)(hb:(aW t ds).length<=16):WG (dS t ds (aW t ds)) t.aB:=by
 have nd:=kQ t ds (aW t ds) (aW t ds).length;have Ō:=sX t ds (aW t ds) (aW t ds).length;have lay:=λn=>yI t ds (aW t ds) n (aW t ds).length;have ok:=D.ok;have ne:=D.ne;have ll:=kR t ds (aW t ds) (aW t ds).length;have above:=λj n=>D.above (j:=j) (n:=n);have last:=λj n=>D.last (j:=j) (n:=n);have Ŗ:=@cE t ds (aW t ds) (aW t ds).length;unfold okD at ok;have hS:∀i p,(aN t ds (aW t ds) (aW t ds).length)[i]?=am p->sy (dS t ds (aW t ds)) i=⟨OJ (en t 0 p.1) p.1,p.2,(Lz (en t 0 p.1) p.1 (ds.getD p.1 0) ((aW t ds).getD p.2 0)).map λx=>(aN t ds (aW t ds) (aW t ds).length).idxOf (x,p.2-1),bsd (aN t ds (aW t ds) (aW t ds).length) p.1 p.2⟩:=λi p hp=>by
  unfold sy dS;rw[Ae,Ai,hp];rfl
 have hL:(dS t ds (aW t ds)).length=(aN t ds (aW t ds) (aW t ds).length).length:=ac6 t ds _;have hmul:=Nat.mul_le_mul hb hz;generalize aN t ds (aW t ds) (aW t ds).length=L at *;have get:∀i,i < (dS t ds (aW t ds)).length->∃p,L[i]?=am p/\p∈L:=λi hi=>by
  rw[hL]at hi;exact⟨L[i],Ad hi,DY hi⟩
 have pos:=Di.mpr ne;have Ø:∀(i a:Nat) (p r:Nat×Nat),L[i]?=am p->L[a]?=am r->r.2 < p.2->a < i:=λi a p r h1 h2 lt=>by
  rcases CU a i with c | c
  ·exact c
  ·exfalso;obtain⟨g1,e1⟩:=Am.mp h1;obtain⟨g2,e2⟩:=Am.mp h2;rcases Eu c with c | c
   ·subst c;rw[h1]at h2;cases h2;omega
   ·have:=Cc.mp Ō i a g1 g2 c;rw[e1,e2]at this;omega
 have Ó:∀k i,i+k+1=L.length->R3 (dS t ds (aW t ds)) (L.length-1) i:=λk=>by
  induction k using Ct with
  | ind k ih=>
   intro i hk;obtain⟨⟨j,n⟩,hp,hm⟩:=get i (by rw[hL];omega);have nl:=(Ŗ.mp hm).1;by_cases c:n+1 < (aW t ds).length
   ·obtain⟨a,ha,hb⟩:=above j n hm c;have ia:=NG ha;have lt:=Ø _ i (a,n+1) (j,n) ia hp (by show n < n+1;omega);have il:=B5 ha;have r:=ih (L.length-L.idxOf (a,n+1)-1) ∅ (L.idxOf (a,n+1)) ∅;refine r.snoc ?_;rw[hS _ _ ia];refine Au.mpr ⟨j,hb,?_⟩;exact MN nd hp
   ·have hj:=last j n hm ∅;have:i=L.length-1:=by
     obtain⟨⟨j2,n2⟩,Hf,Ly⟩:=get (L.length-1) (by rw[hL];omega);have n2l:=(Ŗ.mp Ly).1;rcases CU n2 n with c2 | c2
     ·have:=Ø i (L.length-1) _ _ hp Hf c2;omega
     ·have en2:n2=n:=by omega
      have ò:=last j2 n2 Ly ∅;subst en2;rw[ò,<- hj]at Hf;exact(MN nd hp).symm.trans (MN nd Hf)
    rw[this];exact .refl _
 refine⟨by rw[hL];exact pos,by rw[hL];omega,λi hi u hu=>?_,λi hi=>?_,λi hi u hu=>?_,λi hi=>?_,λi hi=>?_,λw hw=>?_,λi hi=>by rw[hL]at hi ⊢;exact Ó (L.length-i-1) i ∅⟩
 ·obtain⟨p,hp,hm⟩:=get i hi;rw[hS i p hp]at hu;obtain⟨x,hx,rfl⟩:=Au.mp hu;obtain⟨n1,xm⟩:=ok p hm x hx;exact Ø i _ p (x,p.2-1) hp (NG xm) (by show p.2-1 < p.2;omega)
 ·obtain⟨p,hp,hm⟩:=get i hi;rw[hS i p hp];unfold Lz
  split
  ·simp
  ·cases en t 0 p.1 <;> simp
 ·obtain⟨p,hp,hm⟩:=get i hi;rw[hS i p hp]at hu;unfold bsd at hu;obtain⟨x,hx,rfl⟩:=Au.mp hu;rw[hL];exact B5 (AO.mp hx).1
 ·obtain⟨p,hp,hm⟩:=get i hi;rw[hS i p hp];unfold bsd;rw[Ah];have h1:=lay p.2;have h2:(L.filter λq=>decide (q.2=p.2)&&!decide (q.1=p.1)).length<=(L.filter λq=>decide (q.2=p.2)).length:=by
   have e:L.filter (λq=>decide (q.2=p.2)&&!decide (q.1=p.1))=(L.filter λq=>decide (q.2=p.2)).filter λq=>!decide (q.1=p.1):=by
    rw[List.filter_filter];refine congrArg (λf=>L.filter f) (funext λq=>Bool.and_comm _ _)
   rw[e];exact BF _ _
  omega
 ·obtain⟨p,hp,hm⟩:=get i hi;rw[hS i p hp];exact ZW _ _
 ·obtain⟨j,hj,_,ej⟩:=uF t t 0 w (λk hk=>by rw[AL]) ∅ hw;have b0:(aW t ds).getD 0 0=0:=rfl;have mem:(j,0)∈L:=Ŗ.mpr ⟨by simp[aW],hj,(gP hj).mpr ⟨by rw[D.leaf j w hj ej,b0];exact CC _,λa ea=>by
   rcases fy t 0 j .aJ hj with⟨_,e⟩ | ⟨a',u,v,_,ha,e,ep,_⟩
   ·rw[e]at ea;cases ea
   ·rw[e,AL]at ea;injection ea with ea;have:a'=a:=by omega
    subst this;have:=(D.pair a' u v ha ep).2.2;rw[b0];omega⟩⟩
  have il:=B5 mem;refine⟨L.idxOf (j,0),by rw[hL];exact il,by rw[hL];exact Ó (L.length-L.idxOf (j,0)-1) _ ∅,?_⟩;unfold hm;rw[hS _ _ (NG mem)];unfold Lz;rw[b0,D.leaf j w hj ej,if_neg ∅,ej];simp[OJ,UM]
end
end My
variable{f:PL.PV->FL.W PL.PV}
namespace My
theorem JP{S:PV->Prop}:∀{l:O PV},(∀x∈l,∀R:PV->Prop,(∀v,S v->R v)->(f x).run R)->∀{Q:O PV->Prop},(∀m,m.length=l.length->(∀v∈m,S v)->Q m)->(aZ l f).run Q
 | [],_,Q,q=>q [] rfl (λ_ h=>nomatch h)
 | x::l,h,Q,q=>by
  show(ap (f x) λy=>ap (aZ l f) λm=>bn (y::m)).run Q;simp only[ga];refine h x (.head _) _ λv hv=>?_;refine JP (λy hy=>h y (.tail _ hy)) λm hm hs=>?_;exact q (v::m) (by simp[hm]) λu hu=>by
   rcases Aw.mp hu with rfl | hu
   ·exact hv
   ·exact hs u hu
theorem Ob:∀{m:O PV}{ls:O Str},(∀v∈m,∃w∈ls,v=PV.str w)->∃ws:O Str,m=ws.map PV.str/\∀w∈ws,w∈ls
 | [],_,_=>⟨[],rfl,λ_ h=>nomatch h⟩
 | v::m,ls,h=>by
  obtain⟨w,hw,rfl⟩:=h v (.head _);obtain⟨ws,rfl,h2⟩:=Ob (m:=m) (ls:=ls) λu hu=>h u (.tail _ hu);exact⟨w::ws,rfl,λx hx=>by
   rcases Aw.mp hx with rfl | hx
   ·exact hw
   ·exact h2 x hx⟩
inductive WT where
 | lf (p:List Nat) (i:Nat)
 | nd (p:List Nat) (i:Nat) (nm:Str) (a b:WT)
namespace WT
def path:WT->O Nat
 | .lf p i=>p++[i]
 | .nd p i _ _ _=>p++[i]
def at':WT->Nat
 | .lf _ i=>i
 | .nd _ i _ _ _=>i
def sM:WT->Str
 | .lf _ _=>"found"
 | .nd _ _ nm _ _=>nm
def kids:WT->O WT
 | .lf _ _=>[]
 | .nd _ _ _ a b=>[a,b]
def pv:WT->PV
 | .lf p i=>.tup [.tup (aH (p++[i])),.str "found"]
 | .nd p i nm a b=>.tup [.tup (aH (p++[i])),.str nm,a.pv,b.pv]
def size:WT->Nat
 | .lf _ _=>1
 | .nd _ _ _ a b=>a.size+b.size+1
def post:WT->O WT
 | .lf p i=>[.lf p i]
 | .nd p i nm a b=>a.post++b.post++[.nd p i nm a b]
def Ok(g:O Sy):WT->Tr->Prop
 | .lf p i,.leaf w=>Ch g (p++[i])/\hm g i w=true
 | .nd p i nm a b,.node l r=>Ch g (p++[i])/\(∃x y r1 r2,(nm,x,y)∈dds g i/\a.path=x::r1/\b.path=y::r2)/\a.Ok g l/\b.Ok g r
 | _,_=>False
def Ov(u:WT):u.pv=.tup (.tup (aH u.path)::.str u.sM::u.kids.map pv):=by cases u <;> rfl
def size_pos(u:WT):0 < u.size:=by cases u <;> simp[size]
theorem dj:∀u:WT,u.post.length=u.size
 | .lf _ _=>rfl
 | .nd _ _ _ a b=>by simp[post,size,dj a,dj b];omega
def cJ(l:O WT):O WT:=l.flatMap post
def bH(l:O WT):Nat:=(l.map size).sum
def L4(u:WT):u.post=cJ u.kids++[u]:=by cases u <;> simp[post,cJ,kids]
def Qf(u:WT):u.size=bH u.kids+1:=by cases u <;> simp[size,bH,kids]
def Qq(l:O WT):(cJ l).length=bH l:=by
 induction l with
 | nil=>rfl
 | cons x l ih=>
  have e:cJ (x::l)=x.post++cJ l:=rfl;have e2:bH (x::l)=x.size+bH l:=rfl;rw[e,e2,Al,ih,dj]
theorem nk(l:O WT):l.length<=bH l:=by
 induction l with
 | nil=>exact Ak _
 | cons x l ih=>
  have e2:bH (x::l)=x.size+bH l:=rfl;have:=x.size_pos;rw[Ap,e2];omega
def yx(l m:O WT):cJ (l++m)=cJ l++cJ m:=by simp[cJ]
def rN(l m:O WT):bH (l++m)=bH l+bH m:=by simp[bH]
def Ux(u:WT):u.kids.length<=2:=by cases u <;> simp[kids]
def akK(u:WT):sN (.tup (aH u.path)::.str u.sM::u.kids.map pv) (am 2) ce=u.kids.map pv:=by
 have:=ac7 (.tup (aH u.path)::.str u.sM::u.kids.map pv) (a:=2) (by simp);rw[show((2:Nat):Int)=2 from rfl]at this;rw[this];rfl
end WT
def WT.Ok.size:∀{u:WT}{s:Tr},u.Ok g s->u.size=s.size
 | .lf _ _,.leaf _,_=>rfl
 | .nd _ _ _ a b,.node l r,h=>by
  show a.size+b.size+1=l.size+r.size+1;rw[h.2.2.1.size,h.2.2.2.size]
theorem PY(t:WT)(hz:t.size<=900):(jS t.pv).le (.ret (t.post.map WT.pv)):=λQ q=>by
 refine oO (λn s=>∃ts bs:O WT,n=WT.bH ts/\s=(bs.map WT.pv,ts.map WT.pv)/\WT.cJ ts++bs.reverse=t.post) ⟨[t],[],rfl,rfl,by simp[WT.cJ]⟩ ?_;rintro n s ⟨ts,bs,rfl,rfl,hp⟩;have hs:=congrArg Ca hp;rw[Al,WT.Qq,B8,t.dj]at hs;by_cases he:ts=[]
 ·subst he;have à:bs.reverse=t.post:=hp;simp;rw[<- EZ,à];exact q
 ·obtain⟨us,u,rfl⟩:=Ol he;have U0:=WT.nk us;have hk:=u.Ux;have hsu:=u.Qf;have e0:WT.bH [u]=u.size:=by simp[WT.bH]
  rw[WT.rN,e0]at hs;have ea:eY (bs.map WT.pv) u.pv=.ret (bs.map WT.pv++[u.pv]):=cH (by rw[Ah];omega);have ex:Vn (us.map WT.pv) (u.kids.map WT.pv)=.ret (us.map WT.pv++u.kids.map WT.pv):=tz (bx (by simp;omega));have ne:(us.map WT.pv++[u.pv]).isEmpty=false:=by simp
  simp only[nw,o0,AW,Ar,Cz,ne,Dc,if_true,ga,Vr,ea];rw[u.Ov];simp only[HC,nw,Vp,u.akK,ax,o0,ex];refine⟨_,?_,us++u.kids,bs++[u],rfl,?_,?_⟩
  ·rw[WT.rN,WT.rN,e0];omega
  ·rw[<- u.Ov];simp
  ·rw[<- hp,WT.yx,WT.yx,Ed];have e1:WT.cJ [u]=WT.cJ u.kids++[u]:=by rw[<- WT.L4];simp[WT.cJ]
   rw[e1];simp
theorem eD{c:α->PV}{k:α->PV}:∀{l:List α},(∀x∈l,f (c x)=.ret (k x))->aZ (l.map c) f=.ret (l.map k)
 | [],_=>rfl
 | x::r,h=>by
  show ap (f (c x)) (λy=>ap (aZ (r.map c) f) λm=>bn (y::m))=_;rw[h x (.head _),eD λy hy=>h y (.tail _ hy)];rfl
end My
variable{d:My.Dd}
namespace My
namespace WT
def pre:WT->O Nat
 | .lf p _=>p
 | .nd p _ _ _ _=>p
def TL(u:WT):u.path=u.pre++[u.at']:=by cases u <;> rfl
end WT
def zD(g:O Sy)(i:Nat):Bool:=decide ((sy g i).un.length=2)
def uj(g:O Sy)(p:O Nat):Nat:=(p.filter (zD g)).length
def o5(g:O Sy)(l:O WT):Nat:=(l.map λx=>uj g x.pre).sum
def cnt(nm:Str)(l:O WT):Nat:=l.countP λx=>x.sM==nm
def Kn(g:O Sy)(x:WT):Prop:=(x.sM="split"\/x.sM="doubled"\/x.sM="over"\/x.sM="found")/\(∀i∈x.pre,i < g.length)/\x.pre.length<=300
def ac4(h:d∈dds g i):d.1="split"\/d.1="doubled"\/d.1="over":=by
 rcases Aw.mp h with rfl | h
 ·exact .inr (.inl rfl)
 rcases AQ.mp h with h | h
 ·revert h;generalize (sy g i).un=l;intro h;unfold Lu at h
  split at h
  ·simp at h;rcases h with rfl | rfl <;> exact .inl rfl
  ·cases h
 ·obtain⟨o,_,h⟩:=List.mem_flatMap.mp h;simp at h;rcases h with rfl | rfl <;> exact .inr (.inr rfl)
theorem V1(G:WG g ws){p:O Nat}(c:Ch g (p++[i])):(∀i∈p,i < g.length)/\p.length<=300:=by
 refine⟨λj hj=>c.lt j (Bu _ hj),?_⟩;have gl:=G.len;cases p with
 | nil=>simp
 | cons a p=>
  have h1:=Ch.len G (p:=p++[i]) (i:=a) c;have h2:=c.lt a (by simp);simp at h1 ⊢;omega
theorem VW(l:O PV)(x:PV):sN (l++[x]) ce (am (-1))=l:=by
 have e:HT.d9 (l++[x]).length (l++[x]).length (am (-1))=l.length:=by
  simp[HT.d9];try omega
 unfold sN;rw[HT.Jq,e];simp
def TN(u:WT):sN (aH u.path) ce (am (-1))=aH u.pre:=by
 rw[u.TL,vo];exact VW _ _
theorem QN{u:WT}(h:∀i∈u.pre,i < g.length):m8 (ou g) (.tup (aH u.path))=.ret (.int (uj g u.pre)):=by
 unfold m8;simp only[nw,pj,HC,Vp,TN,ax];rw[Mr (p:=zD g) λk hk=>by
  simp only[j9 (h k hk),nw,hZ,eN,jZ,bG];have e:((((sy g k).un.length:Nat):Int)==2)=zD g k:=by
   unfold zD;rw[Bool.eq_iff_iff];simp;omega
  rw[e];cases zD g k <;> rfl]
 simp only[nw,v9,eN];rfl
def ac8(l:O WT)(nm:Str):Zi (l.map λx=>PV.str x.sM) (.str nm)=.ret (.int (cnt nm l)):=by
 unfold Zi;rw[tz ⟨by simp,gr.mpr λx hx=>by obtain⟨y,_,rfl⟩:=Au.mp hx;simp,gs λx hx=>by obtain⟨y,_,rfl⟩:=Au.mp hx;simp⟩];congr 2;unfold ac9 cnt;rw[List.countP_map];congr 1
def agY(g:O Sy)(l:O WT):PV:=.tup [.int (cnt "split" l),.int (cnt "doubled" l),.int (cnt "over" l),.int (o5 g l)]
theorem Sz(l:O Nat):(l.map λ(n:Nat)=>(n:Int)).sum=((l.sum:Nat):Int):=by
 induction l with
 | nil=>rfl
 | cons a l ih=>rw[Ar,Dm,Dm,ih];omega
theorem Nv(u:WT)(hz:u.size<=300)(hk:∀x∈u.post,Kn g x):(nh (ou g) u.pv).le (.ret (agY g u.post)):=λQ q=>by
 have k0:∀(x:PV) (l:O PV),dC (x::l) 0=am x:=λ_ _=>cg (j:=0) rfl;have k1:∀(x y:PV) (l:O PV),dC (x::y::l) 1=am y:=λ_ _ _=>cg (j:=1) rfl;unfold nh;simp only[nw,ga];refine W.le.use (PY u ∅) ?_;simp only[bD,o0];rw[eD (c:=WT.pv) (k:=λx=>.str x.sM) λx _=>by
  rw[x.Ov];simp only[nw,ax,bQ,k1,GE]]
 rw[eD (c:=WT.pv) (k:=λx=>.int (uj g x.pre:Nat)) λx hx=>by
  rw[x.Ov];simp only[nw,ax,bQ,k0,GE,QN (hk x hx).2.1]]
 have e1:u.post.map (λx=>PV.int (uj g x.pre:Nat))=((u.post.map λx=>uj g x.pre).map λ(n:Nat)=>(n:Int)).map PV.int:=by simp
 rw[e1];unfold sW;simp only[o0,ga,eE,Sz];rw[eD (c:=PV.str) (k:=λnm=>.int (cnt nm u.post)) λnm _=>by
  simp only[nw,jz,ac8]]
 simp only[o0];rw[gG (by simp)];exact q
theorem Qo(a b c d:Int){x z w:Int}(hx:0<=x/\x<=1000000000)(hy:0<=y/\y<=1000000000)(hz:0<=z/\z<=1000000000)(hw:0<=w/\w<=1000000000):qf (.tup [.int a,.int b,.int c,.int d]) (.tup [.int x,.int y,.int z,.int w])=.ret (.int (a*x+b*y+c*z+d*w)):=by
 unfold qf;have e:fU [PV.int a,.int b,.int c,.int d] [PV.int x,.int y,.int z,.int w]=.ret [.tup [.int a,.int x],.tup [.int b,.int y],.tup [.int c,.int z],.tup [.int d,.int w]]:=by
  unfold fU;rw[tz (bx (by simp))];simp[nT]
 have m1:wP a x:=mulR ∅;have m2:wP b y:=mulR ∅;have m3:wP c z:=mulR ∅;have m4:wP d w:=mulR ∅;simp only[nw,ax,e];have em:aZ [PV.tup [.int a,.int x],.tup [.int b,.int y],.tup [.int c,.int z],.tup [.int d,.int w]] (λp4=>ap (oS p4) λt5=>of2 iO t5.1 t5.2)=.ret ([a*x,b*y,c*z,d*w].map PV.int):=by
  simp[aZ,tz m1,tz m2,tz m3,tz m4]
 rw[em];unfold sW;simp only[nw,eE];congr 2;simp;omega
def nP(nm:Str)(l m:O WT):cnt nm (l++m)=cnt nm l+cnt nm m:=by unfold cnt;exact Ez
def nN(nm:Str)(x:WT):cnt nm [x]=if x.sM==nm then 1 else 0:=by unfold cnt;simp[E3]
def lo_le(g:O Sy)(p:O Nat):uj g p<=p.length:=BF _ _
theorem OS:∀(l:O WT),(∀x∈l,Kn g x)->o5 g l<=300*l.length
 | [],_=>A9 _
 | x::l,h=>by
  have h1:=OS l λy hy=>h y (.tail _ hy);have h2:=(h x (.head _)).2.2;have h3:=lo_le g x.pre;have e:o5 g (x::l)=uj g x.pre+o5 g l:=by unfold o5;simp
  rw[e,Ap];omega
def pf(f:Nat->Nat):O Nat->Nat->O Nat
 | [],_=>[]
 | x::r,i=>if f x=f (r.headD i) then pf f r i else f x::pf f r i
def wm(f:Nat->Nat):WT->WT
 | .lf p i=>.lf (pf f p i) (f i)
 | .nd p i nm a b=>.nd (pf f p i) (f i) nm (wm f a) (wm f b)
end My
variable{m:Nat}
namespace My
theorem Sq:∀ns l Q,jQ ns->((kK 1 cf) l).run Q->((λlo l=>kK 1 (dX lo) l) (ns.map PV.int) l).run λt=>Q t.1/\∃yA:O Int,t.2=yA.map PV.int/\jQ yA:=by
 rintro ns l Q ⟨g,s,c,rfl,g0,s0,s1,c0⟩ q
 match l,q with
 | [],q=>exact q.elim
 | _::_::_,q=>exact q.elim
 | [x],q=>
  show(dX _ x).run _;have q:=q;cases x with
  | int m=>
   obtain⟨⟨m0,m1⟩,q⟩:=q;have q:∀d:Int,0<=d->d < m->Q (.int d):=λd h0 h1=>q _ ⟨d,rfl,h0,h1⟩;unfold dX;generalize hA:(2147483647:Int)=A;generalize hB:(2147483629:Int)=B;generalize hD:(40009:Int)=D;have A0:0 < A:=by omega
   have B0:0 < B:=by omega
   have D0:0 < D:=by omega
   have e1:wP s 48271:=mulR ∅;have nx:∀N,N=(s*48271+12345+(c+1)) % A->(wP N (N % D+3))/\((Q (PV.int (N*(N % D+3) % B / 7 % m))))/\∃yA:O Int,[PV.int g,PV.int N,PV.int (c+1)]=yA.map PV.int/\jQ yA:=λN hN=>by
    have N0:0<=N:=by rw[hN];exact C2 _ ∅
    have N1:N < A:=by rw[hN];exact Cr _ A0
    exact⟨ZY ∅ ∅,q _ (C2 _ ∅) (Cr _ m0),[g,N,c+1],rfl,_,_,_,rfl,g0,N0,by omega,by omega⟩
   obtain⟨k1,k2,k3⟩:=nx _ rfl;by_cases hg:0 < g
   ·by_cases hc:c+1<=60
    ·simp[dC,tB,hg,hc,m0,fY,RS];refine⟨by omega,q _ (C2 _ ∅) (Cr _ m0),[g / m,s,c+1],rfl,_,_,_,rfl,Int.ediv_nonneg g0 ∅,s0,s1,by omega⟩
    ·simp[dC,tB,hg,hc,m0,fY,e1,A0,B0,D0,RS];exact⟨k1,k2,k3⟩
   ·simp[dC,tB,hg,m0,fY,e1,A0,B0,D0,RS];exact⟨k1,k2,k3⟩
  | _=>exact q.elim
theorem U6{k:Int}(k0:0<=k)(k1:k<=1000)(q:∀l,(∃ms:O Int,l=ms.map PV.int/\jQ ms)->Q l):(jv (.cl (ns.map PV.int)) (.int k)).run Q:=by
 unfold jv;generalize hA:(2147483647:Int)=A;generalize hB:(2147483629:Int)=B;have A0:0 < A:=by omega
 have B0:0 < B:=by omega
 have fin:∀x:Int,((PV.int x)\λmQ=>ap (b2 iO (c1 K2 (bn mQ)) (c1 NF (b2 oGe (c1 K2 (bn mQ)) (b2 T5 (bn (.int 10)) (bn (.int 18)))))) λhJ=>
  (hJ\λx3=>ap (b2 oMod (b2 iO (w2 addW (w2 addW (b2 oMod (bn mQ) (bn (.int B))) (b2 iO (b2 iO (bn (.int 7919)) (bn (.int k))) (bn (.int k)))) (bn (.int 11))) (bn (.int 48271))) (bn (.int A))) λx4=>(.int 0)\λx5=>bn [x3,x4,x5])).run Q:=by
  intro x;have p2:Wq 10 18:=⟨by decide,by decide,by decide⟩;simp only[nw,acV,Vq,tz p2,HD,Vt,agM,YZ,eV,W.VZ,W.Xg,o0,tz (mulL (show -1000000000<=(7919:Int)/\(7919:Int)<=1000000000 by decide)),tz A0,tz B0];refine⟨?_,mulR ∅,mulR ∅,?_⟩
  ·split
   ·exact mulR ∅
   ·exact mulR ∅
  ·refine q _ ⟨[_,_,_],rfl,_,_,_,rfl,Int.mul_nonneg (adm _) ?_,C2 _ ∅,by have:=Cr ((x % B+7919*k*k+11)*48271) A0;omega,CC _⟩
   split <;> split <;> decide
 by_cases gD:k < (ns.length:Int)
 ·obtain⟨v,e,e2⟩:=Wb (xs:=ns.map PV.int) k0 (by rw[Ah];exact gD);rw[Ai]at e2;obtain⟨c,rfl⟩:∃c,v=.int c:=by
   cases z:ns[k.toNat]? with
   | none=>rw[z]at e2;cases e2
   | some c=>rw[z]at e2;exact⟨c,(Option.some.inj e2).symm⟩
  simp only[nw,jA,Kx,Ah,gD,decide_true,bG,if_true,bD,bQ,e,GE];exact fin c
 ·simp only[nw,jA,Kx,Ah,gD,decide_false,bG,Av,if_false];exact fin 0
def afv(h:x∈[PV.str "",PV.str "",PV.str "a",PV.str "zq",PV.str "mnopqrs"]):∃y:Str,x=.str y/\Part y 7:=by
 simp at h;rcases h with rfl | rfl | rfl | rfl
 ·exact⟨"",rfl,by decide +kernel,by decide +kernel⟩
 ·exact⟨"a",rfl,by decide +kernel,by decide +kernel⟩
 ·exact⟨"zq",rfl,by decide +kernel,by decide +kernel⟩
 ·exact⟨"mnopqrs",rfl,by decide +kernel,by decide +kernel⟩
def afw(h:x∈[PV.int 1,PV.int 3,PV.int 5,PV.int 7,PV.int 9,PV.int 11]):∃st:Int,x=.int st/\(st=1\/st=3\/st=5\/st=7\/st=9\/st=11):=by
 simp at h;rcases h with rfl | rfl | rfl | rfl | rfl | rfl <;> exact⟨_,rfl,by decide⟩
theorem R9{y:Str}{c:Nat}(b:Part y 7)(h0:97<=c)(h1:c < 123):Wd ((⟨#[c]⟩:Str)++y):=by
 have hl:((⟨#[c]⟩:Str)++y).length=1+y.length:=by rw[Str.length_append];rfl
 have:=b.1;refine⟨by omega,by omega,λd hd=>?_⟩;have e:((⟨#[c]⟩:Str)++y).cps.toList=c::y.cps.toList:=by
  show((⟨#[c]⟩:Str).cps++y.cps).toList=_;simp
 rw[e]at hd;rcases Aw.mp hd with rfl | hd
 ·exact⟨h0,h1⟩
 ·exact b.2 d hd
theorem LG(m1:m<=26)(q:∀ws:O Str,ws.length=m->(∀x∈ws,Wd x)->ws.Nodup->(ws.map λx=>x.cps[0]?).Nodup->Q (ws.map PV.str)):(eO (.int m)).run Q:=by
 unfold eO;simp only[nw,ga,di 26 ⋯ ⋯];refine bJ λd a b=>?_;refine pick_run (by simp) (by simp) λx hx=>?_;obtain⟨st,rfl,nA⟩:=afw hx;simp only[o0,fq];refine pick_run (by simp) (by simp) λy hy=>?_;obtain⟨tl,rfl,ht⟩:=afv hy;simp only[hV,tz (cO (i:=0) (j:=(m:Int)) ∅ ∅),o0,BH];rw[ny]
 let w:Nat->Str:=λk=>⟨#[97+((d+st*(0+(k:Int))) % 26).toNat]⟩++tl
 refine QD (λk=>.str (w k)) (λk hk=>?_) ?_
 ·have e0:0<=(d+st*(0+(k:Int))) % 26:=C2 _ ⋯;have e1:(d+st*(0+(k:Int))) % 26 < 26:=Cr _ ⋯;have e2:(d+st*(k:Int))=d+st*(0+(k:Int)):=by rw[Ek]
  have c1:wP st (k:Int):=mulL ∅;have c2:("abcdefghijklmnopqrstuvwxyz":Str).length<=sizeLine:=by decide +kernel
  have c3:(⟨#[97+((d+st*(0+(k:Int))) % 26).toNat]⟩:Str).length+tl.length<=sizeLine:=bx (by have:=ht.1;show 1+tl.length<=1000;omega);simp only[nw,HD,tz c1,eV,Vt,tz (show(0:Int) < 26 by decide),e2,acU _ _ (QP e0 e1),tz c2,Y1,tz c3];rfl
 ·have e:(AD m).map (λk=>PV.str (w k))=((AD m).map w).map PV.str:=by rw[AG];rfl
  have nd:(((AD m).map w).map λx=>x.cps[0]?).Nodup:=by
   have:=xD (d:=d) nA m1;rw[AG];have e2:((λx:Str=>x.cps[0]?)∘w)=λk:Nat=>am (97+((d+st*(0+(k:Int))) % 26).toNat):=by
    funext k;show((⟨#[97+((d+st*(0+(k:Int))) % 26).toNat]⟩:Str).cps++tl.cps)[0]?=_;rw[Array.getElem?_append_left (by simp)];rfl
   rw[e2];exact this
  rw[e];refine q _ (by simp) (λx hx=>?_) (Gz (g:=λx:Str=>x.cps[0]?) nd) nd;obtain⟨k,_,rfl⟩:=Au.mp hx;have e0:0<=(d+st*(0+(k:Int))) % 26:=C2 _ ⋯;have e1:(d+st*(0+(k:Int))) % 26 < 26:=Cr _ ⋯;exact R9 ht ∅ ∅
def Tt{v:PV}(h:l[j]?=am v)(hl:l.length<=1000):zV l (.int (j:Int))=.ret (l.eraseIdx j,v):=by
 have hj:=(Am.mp h).1;unfold zV;simp only[OY hj,GE,nw,h,tz (bx hl)]
def Vg{l:O Tr}{x p y:Tr}(h:l[j]?=am y)(hp:p.aB.Perm (x.aB++y.aB)):((l.set j p).flatMap Tr.aB).Perm (x.aB++l.flatMap Tr.aB):=by
 induction l generalizing j with
 | nil=>simp at h
 | cons a l ih=>cases j with
  | zero=>
   simp at h;subst h;simp only[List.set_cons_zero,DG];rw[<- AZ];exact hp.append_right _
  | succ j=>
   simp only[List.set_cons_succ,DG];have:=(ih (j:=j) (by simpa using h)).append_left a.aB;refine this.trans ?_;rw[<- AZ,<- AZ];exact DL.append_right _
def M8{l:O Tr}{x:Tr}(h:l[j]?=am x):(x.aB++(l.eraseIdx j).flatMap Tr.aB).Perm (l.flatMap Tr.aB):=by
 induction l generalizing j with
 | nil=>simp at h
 | cons a l ih=>cases j with
  | zero=>simp at h;subst h;simp
  | succ j=>
   simp only[CP,DG];have:=(ih (j:=j) (by simpa using h)).append_left a.aB;refine List.Perm.trans ?_ this;rw[<- AZ,<- AZ];exact DL.append_right _
def QE{l:O Tr}:(l.map Tr.pv).eraseIdx j=(l.eraseIdx j).map Tr.pv:=by
 induction l generalizing j with
 | nil=>simp
 | cons a l ih=>cases j with
  | zero=>simp
  | succ j=>simp[ih]
theorem vN(hw:ws≠[])(h8:ws.length<=100){Q:PV->Prop}(q:∀t:Tr,t.aB.Perm ws->Q t.pv):(dY (.cl (ws.map PV.str))).run Q:=by
 have hp:0 < ws.length:=Di.mpr hw;unfold dY;simp only[nw,ga,bD,o0,v9,v8,Ah,hV,tz (cO (i:=0) (j:=(ws.length:Int)-1) ∅ ∅)];refine qF (λi s=>∃ts:O Tr,s=ts.map Tr.pv/\ts.length+i=ws.length/\(ts.flatMap Tr.aB).Perm ws) ⟨ws.map Tr.leaf,by simp[Tr.pv],by simp,?_⟩ ?_ ?_
 ·rw[List.flatMap_map];have:ws.flatMap (λx=>(Tr.leaf x).aB)=ws:=by simp[Tr.aB,List.flatMap_singleton']
  rw[this]
 ·rintro i s hi ⟨ts,rfl,hl,hp⟩;have h2:2<=ts.length:=by omega
  simp only[nw,ga,v9,Ah,di (ts.length:Int) ∅ ∅,o0];refine bJ λd d0 d1=>?_;obtain⟨j,rfl⟩:∃j:Nat,d=(j:Int):=⟨d.toNat,by omega⟩;obtain⟨x,hx⟩:∃x,ts[j]?=am x:=⟨_,Ad ∅⟩;have Ŧ:(ts.eraseIdx j).length=ts.length-1:=by rw[FT];simp;omega
  simp only[Tt (l:=ts.map Tr.pv) (v:=x.pv) (by rw[Ai,hx];rfl) (by rw[Ah];omega),o0,QE,v9,Ah,Ŧ,di ((ts.length-1:Nat):Int) ∅ ∅];refine bJ λe e0 e1=>?_;obtain⟨m,rfl⟩:∃m:Nat,e=(m:Int):=⟨e.toNat,by omega⟩;obtain⟨y,hy⟩:∃y,(ts.eraseIdx j)[m]?=am y:=⟨_,Ad ∅⟩;have i0:dC ((ts.eraseIdx j).map Tr.pv) (m:Int)=am y.pv:=cg (by rw[Ai,hy];rfl);have hm:m < ((ts.eraseIdx j).map Tr.pv).length:=by rw[Ah,Ŧ];omega
  simp only[nw,bQ,i0,GE,o0,di 2 ⋯ ⋯];refine bJ λf _ _=>?_;have fin:∀p:Tr,p.aB.Perm (x.aB++y.aB)->(fY ((ts.eraseIdx j).map Tr.pv) (.int (m:Int)) p.pv).run λs=>∃ts:O Tr,s=ts.map Tr.pv/\ts.length+(i+1)=ws.length/\(ts.flatMap Tr.aB).Perm ws:=λp ş=>by
   rw[je hm];exact⟨(ts.eraseIdx j).set m p,by rw[Ff],by rw[B9,Ŧ];omega,(Vg hy ş).trans ((M8 hx).trans hp)⟩
  simp only[jZ,bG,o0];cases c:f==0 with
  | true=>exact fin (.node x y) (List.Perm.refl _)
  | false=>
   simp only[Av,if_false,nw,pj,HC,YY,ga,o0];exact fin (.node y x) DL
 ·rintro s ⟨ts,rfl,hl,hp⟩
  match ts,hl,hp with
  | [],hl,_=>simp at hl;omega
  | [t],_,hp=>
   have:t.aB.Perm ws:=by simpa using hp
   exact q t this
  | _::_::_,hl,_=>simp at hl;omega
end My
variable{Q:PL.PV->Prop}{n:Int}
namespace My
theorem MX(n0:0 < n)(n1:n<=8)(q:∀(t:Tr) (ws:O Str),zm t->t.aB.Perm ws->Q (.tup [t.pv,.cl (ws.map PV.str)])):(eR (.int n)).run Q:=by
 unfold eR;simp only[nw,ga,di n n0 ∅];refine bJ λk k0 k1=>?_;obtain⟨m,hm⟩:∃m:Nat,1+k=(m:Int):=⟨(1+k).toNat,by omega⟩;simp only[eV,o0,hm];refine LG ∅ λws hl hw hd hb=>?_;refine vN (λz=>by rw[z]at hl;simp at hl;omega) ∅ λt ht=>?_;exact q t ws ⟨λx hx=>hw x (ht.mem_iff.mp hx),ht.nodup_iff.mpr hd,by rw[ht.length_eq,hl];omega,0,by decide,(ht.map _).nodup_iff.mpr hb⟩ ht
theorem LX(hw:ws≠[])(h8:ws.length<=100)(n0:0 < n)(n1:n<=10)(q:∀s:Tr,(∀w∈s.aB,w∈ws)->s.aB.length<=n->Q s.pv):(eQ (.cl (ws.map PV.str)) (.int n)).run Q:=by
 unfold eQ;simp only[nw,ga,di n n0 ∅];refine bJ λk k0 k1=>?_;obtain⟨m,hm⟩:∃m:Nat,1+k=(m:Int):=⟨(1+k).toNat,by omega⟩;simp only[eV,o0,hm,hV,tz (cO (i:=0) (j:=(m:Int)) ∅ ∅),BH];refine JP (S:=λv=>∃w∈ws,v=PV.str w) (λx _ R r=>pick_run (by simpa using hw) (by rw[Ah];omega) λv hv=>r v (let ⟨w,h1,h2⟩:=Au.mp hv;⟨w,h1,h2.symm⟩)) λms hl hs=>?_;obtain⟨us,rfl,hu⟩:=Ob hs;rw[kC,Ah]at hl;exact vN (λz=>by rw[z]at hl;simp at hl;omega) ∅ λs hp=>q s (λw h=>hu w (hp.mem_iff.mp h)) (by rw[hp.length_eq];omega)
theorem lh:∀(n:Nat) (t:Tr),t.depth < n->t.size<=400->(a6 n t.pv).le (.ret ((t.nd 0).map Ent.pv))
 | 0,_,h,_=>by omega
 | n+1,.leaf w,_,_=>λQ q=>by
  unfold a6;simp[Tr.pv];exact q
 | n+1,.node a b,h,hz=>λQ q=>by
  have hs:(Tr.node a b).size=a.size+b.size+1:=rfl;have hpa:=a.size_pos;have hpb:=b.size_pos;have hd:a.depth < n/\b.depth < n:=by simp[Tr.depth]at h;omega
  unfold a6;have i0:dC [a.pv,b.pv] 0=am a.pv:=rfl;have i1:dC [a.pv,b.pv] 1=am b.pv:=rfl;simp only[Tr.pv,nw,ga,qL,qK,fJ,Av,if_false,ax,bQ,i0,i1,GE];refine W.le.use (lh n a hd.1 ∅) ?_;simp only[o0];refine W.le.use (lh n b hd.2 ∅) ?_;simp only[o0,bD];refine eU (λi s=>s=(((b.nd 0).take i).map (shf a.size)).map Ent.pv) (by simp) (λi x s hx hs=>?_) (λs hs=>?_)
  ·subst hs;rw[Ai]at hx;cases e:(b.nd 0)[i]? with
   | none=>rw[e]at hx;cases hx
   | some en=>
    rw[e]at hx;have ex:=Option.some.inj hx;subst ex;have hi:i < b.size:=by have:=(Am.mp e).1;rw[b.bp]at this;exact this
    have et:(b.nd 0).take (i+1)=(b.nd 0).take i++[en]:=by rw[Ew,e];rfl
    have al:∀y,eY ((((b.nd 0).take i).map (shf a.size)).map Ent.pv) y=.ret ((((b.nd 0).take i).map (shf a.size)).map Ent.pv++[y]):=λy=>cH (by simp;omega);cases en with
    | word w=>
     simp only[Ent.pv,nw,ga,HG,HE,fJ,al,o0,et,C3,Av,if_false];simp[shf,Ent.pv]
    | pair u v=>
     have j0:dC [PV.int (u:Int),PV.int (v:Int)] 0=am (.int u):=rfl;have j1:dC [PV.int (u:Int),PV.int (v:Int)] 1=am (.int v):=rfl;simp only[Ent.pv,nw,ga,qL,qK,fJ,Dc,if_true,ax,bQ,j0,j1,GE,eV,jA,Ah,a.bp,al,o0,et];simp[shf,Ent.pv]
  ·subst hs;rw[CV (by rw[Ah];exact Ak _)];have es:(b.nd 0).map (shf a.size)=b.nd a.size:=by rw[<- Mc b 0 a.size,AL]
   rw[es];simp only[nw,ga,jz,v8,jA,eV,Ah,a.bp,b.bp,o0,gG (l:=(a.nd 0).map Ent.pv) (m:=(b.nd a.size).map Ent.pv) (by simp[a.bp,b.bp];omega)];rw[gG (by simp[a.bp,b.bp];omega)];have e:(Tr.node a b).nd 0=a.nd 0++b.nd a.size++[.pair (a.size-1) (a.size+b.size-1)]:=by rw[Tr.nd];simp
   rw[e]at q;have e1:((a.size:Int)-1)=((a.size-1:Nat):Int):=by omega
   have e2:((a.size:Int)+(b.size:Int)-1)=((a.size+b.size-1:Nat):Int):=by omega
   rw[e1,e2];simpa[Ent.pv]using q
def Xl(h:j∈left):abg (aH left) (.int (j:Int))=.ret (aH (left.erase j)):=by
 show ap (qA (aH left)) _=_;rw[m6,eE];show W.e6 _ _=_;rw[tz (Au.mpr ⟨j,h,rfl⟩),wd,<- m6]
def Ud{l:O Nat}(h:(aH l)[i]?=am x):∃k,l[i]?=am k/\x=.int (k:Int):=by
 unfold aH at h;rw[Ai]at h;cases e:l[i]? with
 | none=>rw[e]at h;cases h
 | some k=>rw[e]at h;exact⟨k,rfl,(Option.some.inj h).symm⟩
theorem Nt(t:Tr)(hz:t.size<=400)(hd:t.depth < 12)(q:∀ds d,Dt t ds [] d->d<=13*((splits t).length:Int)->Q (.tup (a7 ds))):(eS t.pv).run Q:=by
 unfold eS;have e1:Xk [PV.int 0] (.int ((t.nd 0).map Ent.pv).length)=.ret (a7 (An t.size 0)):=by
  rw[acS,tz ⟨by omega,by rw[Ah,t.bp];omega,bx (by simp[t.bp];omega)⟩];congr 1;rw[Ah,t.bp,BH]
  induction t.size with
  | zero=>rfl
  | succ n ih=>rw[BD,Ci,ih];rfl
 have e3:((t.nd 0).map Ent.pv).length<=sizeLine:=bx (by rw[Ah,t.bp];omega);simp only[nw,ga];refine W.le.use (lh 12 t hd hz) ?_;simp only[nw,jA,e1,bD,tz e3,o0];refine afx Yj (λx hx=>?_) ?_
 ·rw[Pj]at hx;obtain⟨j,hj,rfl⟩:=Au.mp hx;cases en t 0 j with
  | word w=>simp[Ent.pv,Yj]
  | pair u v=>simp[Ent.pv,Yj]
 rw[ab0 t];have hsl:(splits t).length<=t.size:=by
  have:=Ou (splits t) 0 t.size (Dt.first t).ris λx hx=>⟨A9 _,((Dt.first t).lft x hx).1⟩;omega
 simp only[o0,v9,eN,hV,tz (cO (i:=0) (j:=((splits t).length:Int)) ∅ ∅),BH];refine qF (λi s=>∃(ds:O Int) (left:O Nat) (d:Int),s=(a7 ds,PV.int d,aH left)/\left.length+i=(splits t).length/\Dt t ds left d/\d+13*(left.length:Int)<=13*((splits t).length:Int)) ⟨_,_,0,rfl,rfl,Dt.first t,by omega⟩ ?_ ?_
 ·rintro i s hi ⟨ds,left,d,rfl,hl,D,hd⟩;have he:left≠[]:=λz=>by rw[z]at hl;simp at hl;omega
  have Ħ:left.length<=t.size:=by omega
  simp only[nw,ga,o0];refine eU (λi s=>s=aH ((left.take i).filter (RU t left))) (by simp[aH]) (λi x s hx hs=>?_) (λs hs=>?_)
  ·obtain⟨k,hk,rfl⟩:=Ud hx;subst hs;have hkm:=AM hk;have et:left.take (i+1)=left.take i++[k]:=by rw[Ew,hk];rfl
   have RY:=(Am.mp hk).1;have fl:((left.take i).filter (RU t left)).length<=i:=by
    have:=BF (RU t left) (left.take i);have:=List.length_take_le i left;omega
   have al:eY (aH ((left.take i).filter (RU t left))) (.int (k:Int))=.ret (aH ((left.take i).filter (RU t left))++[.int (k:Int)]):=cH (by rw[eN];omega);obtain⟨h1,h2⟩:=D.lft k hkm;cases e:en t 0 k with
   | word w=>rw[e]at h2;cases h2
   | pair a b=>
    have j0:dC [PV.int (a:Int),PV.int (b:Int)] 0=am (.int a):=rfl;have j1:dC [PV.int (a:Int),PV.int (b:Int)] 1=am (.int b):=rfl;have hr:RU t left k=(!decide (a∈left)&&!decide (b∈left)):=by unfold RU;rw[e]
    rw[et,Ey];simp only[nw,bD,bQ,abU t h1,e,Ent.pv,GE,ax,j0,j1,UP,if_true];by_cases ca:a∈left
    ·simp[ca,hr,aH]
    ·by_cases cb:b∈left
     ·simp[ca,cb,hr,aH]
     ·simp[ca,cb,hr,al]
  ·subst hs;rw[eN,List.take_length];have ne:=D.aeR he;refine pick_run ne (by rw[eN];have:=BF (RU t left) left;omega) λx hx=>?_;obtain⟨j,hj,rfl⟩:=Au.mp hx;obtain⟨ó,ò⟩:=AO.mp hj;obtain⟨js,jp⟩:=D.lft j ó;cases ej:en t 0 j with
   | word w=>rw[ej]at jp;cases jp
   | pair a b=>
   unfold RU at ò;rw[ej]at ò;simp at ò;simp only[eV,o0,di 12 ⋯ ⋯,nw];refine bJ λy y0 y1=>?_;simp only[eV,o0,je (l:=a7 ds) (k:=j) (by rw[gn,D.len];exact js),Xl ó,UN,nw];refine⟨_,left.erase j,_,rfl,by rw[ET ó];have:=Fg ó;omega,D.next ó ej ò.1 ò.2 y0,?_⟩;rw[ET ó];have:=Fg ó;omega
 ·rintro s ⟨ds,left,d,rfl,hl,D,hd⟩;have:left=[]:=Bj ∅;subst this;simp;exact q ds d D (by simpa using hd)
theorem P9(g:zm t)(q:∀s,WG s t.aB->Q (ou s)):(gZ t.pv).run Q:=by
 have hz:=g.size;have hdp:=g.depth;unfold gZ;simp only[nw,ga,di 2 ⋯ ⋯];refine bJ λd _ _=>?_;simp only[jZ,bG,o0];cases c:d==0 with
 | true=>
  simp only[if_true];refine Rb t ∅ Q ?_;rw[<- ago];exact q _ (PZ ∅)
 | false=>
  simp only[Av,if_false,ga];refine Nt t ∅ ∅ λds d D ao1=>?_;have UY:(splits t).length<=7:=by have:=LV t;have:=g.few;omega
  have DDt:=DD.of (D.isD ∅);have hb:(aW t ds).length<=16:=by unfold aW;rw[Ap,rL];have:=Oh t ds;omega
  refine VT DDt ∅ Q ?_;rw[<- ag0];exact q _ (Sd DDt hz hb)
theorem sZ(q:∀ps:O Int,ps.length=4->(∀p∈ps,0<=p/\p<=10 ^ 29)->Q (.tup (a7 ps))):cq.run Q:=by
 unfold cq;have p2:Wq 10 28:=⟨by decide,by decide,by decide⟩;simp only[nw,ga,o0,hV,tz (cO (i:=0) (j:=4) ∅ ∅)];refine qF (n:=4) (λi s=>∃ps:O Int,s=a7 ps/\ps.length=i/\∀p∈ps,0<=p/\p<=10 ^ 29) ⟨[],rfl,rfl,by simp⟩ ?_ ?_
 ·rintro i s hi ⟨ps,rfl,hl,hp⟩;simp only[nw,ga,o0,di 10 ⋯ ⋯];refine bJ λa a0 a1=>?_;simp only[di 1001 ⋯ ⋯];refine bJ λb b0 b1=>?_;simp only[jz,o0,Vq,tz p2,di 1000 ⋯ ⋯];refine bJ λc c0 c1=>?_;simp only[eV,o0];rw[gG (by simp)];refine pick_run (by simp) (by simp) λx hx=>?_;have ŏ:(0:Int)<=10 ^ Int.toNat 28/\(10:Int) ^ Int.toNat 28+100000<=10 ^ 29:=by decide +kernel
  obtain⟨v,rfl,hv⟩:∃v:Int,x=.int v/\0<=v/\v<=10 ^ 29:=by
   simp at hx;rcases hx with rfl | rfl | rfl | rfl | rfl | rfl | rfl | rfl | rfl
   all_goals first | exact⟨_,rfl,by omega⟩ | exact⟨_,rfl,by have:=ŏ;simp at this;omega⟩
  rw[cH (by rw[gn];omega)];exact⟨ps++[v],by simp[a7],by simp[hl],λp h=>by rcases AQ.mp h with h | h;exact hp p h;rw[AR.mp h];exact hv⟩
 ·rintro s ⟨ps,rfl,hl,hp⟩;exact q ps hl hp
def Ju(q:∀ps:O Int,ps.length=4->(∀p∈ps,0<=p)->Q (.tup (a7 ps))):cq.run Q:=sZ λps h k=>q ps h λp hp=>(k p hp).1
theorem Rx{m:Int}(n0:0 < n)(n1:n<=8)(m0:0 < m)(m1:m<=10)(q:∀(g:O Sy) (ws:O Str) (t:Tr) (ps:O Int),WG g ws->(∀w∈t.aB,w∈ws)->t.aB.length<=10->ps.length=4->(∀p∈ps,0<=p/\p<=10 ^ 29)->Q (.tup [ou g,t.pv,.cl ((t.nd 0).map Ent.pv),.tup (a7 ps)])):(gj (.int n) (.int m)).run Q:=by
 unfold gj;simp only[nw,ga];refine MX n0 n1 λt ws G hp=>?_;simp only[fq,o0];refine P9 G λg wg=>?_;have hl:=hp.length_eq;have:=G.few;have:=t.lj;refine LX (λz=>by rw[z,BN]at hl;omega) ∅ m0 m1 λs hs hn=>?_;have h1:=s.size_eq;have h2:=s.qN;refine W.le.use (lh 12 s ∅ ∅) ?_;refine sZ λps p4 p0=>?_;exact q g t.aB s ps wg (λw h=>hp.mem_iff.mpr (hs w h)) ∅ p4 p0
def V3{m:Int}(n0:0 < n)(n1:n<=8)(m0:0 < m)(m1:m<=10)(q:∀(g:O Sy) (ws:O Str) (t:Tr) (ps:O Int),WG g ws->(∀w∈t.aB,w∈ws)->t.aB.length<=10->ps.length=4->(∀p∈ps,0<=p)->Q (.tup [ou g,t.pv,.cl ((t.nd 0).map Ent.pv),.tup (a7 ps)])):(gj (.int n) (.int m)).run Q:=Rx n0 n1 m0 m1 λg ws t ps a b c d e=>q g ws t ps a b c d λp hp=>(e p hp).1
end My
variable{ps:O Int}
namespace My
abbrev OI:=Option Int
def oP:OI->PV
 | none=>.aJ
 | some i=>.int i
def Gv(l:O OI):O Int:=l.filterMap id
def gN(l:O OI):OI:=if ce∈l then ce else am (Gv l).sum
def jb(l:O OI):OI:=if Gv l=[] then ce else am (GA (Gv l))
theorem OD:∀{l:O OI},ce∉l->l.map oP=(Gv l).map PV.int
 | [],_=>rfl
 | none::l,h=>absurd (.head _) h
 | some a::l,h=>by
  have:=OD (l:=l) λz=>h (.tail _ z);rw[Ar,this];rfl
def acM(l:O OI):(l.map oP).filterMap (λx=>if x matches .aJ then ce else am x)=(Gv l).map PV.int:=by
 induction l with
 | nil=>rfl
 | cons a l ih=>cases a with
  | none=>rw[Ar,Ba];exact ih
  | some i=>rw[Ar,Ba];exact congrArg _ ih
def ack(l:O OI):uq false .aJ (l.map oP)=.ret (decide (ce∈l)):=by
 have h0:∀x∈l.map oP,PV.i8 x=true/\PV.fo x<=150:=λx hx=>by
  obtain⟨o,_,rfl⟩:=Au.mp hx;cases o <;> simp[oP]
 have h1:Q7 .aJ (l.map oP):=⟨by simp,gr.mpr λx hx=>(h0 x hx).1,gs λx hx=>(h0 x hx).2⟩;have h2:vS .aJ (l.map oP)=decide (ce∈l):=by
  unfold vS;rw[List.any_map];clear h0 h1
  induction l with
  | nil=>rfl
  | cons a l ih=>
   rw[CJ,ih];cases a <;> simp[oP,jY]
 unfold uq;rw[tz h1,h2];simp
def kg(l:O OI):kx (.cl (l.map oP))=.ret (oP (gN l)):=by
 unfold kx gN;simp only[nw,bD,ack];by_cases h:ce∈l
 ·simp[h,oP]
 ·rw[if_neg h];simp only[h,decide_false,Av,if_false,jz,nw,OD h,sW,eE];rfl
def OO(l:O OI):OP ((Gv l).map PV.int)=.ret (oP (jb l)):=by
 unfold OP jb;rw[eE,nw]
 split <;> rfl
def KY(l:O OI):(mD (l.map oP) λp2=>QQ (ap (of2 yz p2 .aJ) asB) (bn p2))=.ret ((Gv l).map PV.int):=by
 rw[<- acM];refine GR λx hx=>?_;obtain⟨o,_,rfl⟩:=Au.mp hx;cases o <;> simp[oP,PV.d4]
def KW(l:O OI):dq (.cl (l.map oP))=.ret (oP (jb l)):=by
 unfold dq;simp only[nw,bD,KY,OO]
def qS(l:O OI):dq (.tup (l.map oP))=.ret (oP (jb l)):=by
 unfold dq;simp only[nw,ax,KY,OO]
def QB{a b:O Int}(h:a.Perm b):GA a=GA b:=by
 by_cases c:a=[]
 ·subst c;rw[List.nil_perm.mp h]
 ·have c2:b≠[]:=λz=>c (by subst z;exact List.perm_nil.mp h);exact Fw (uE (h.mem_iff.mpr (qc c2))) (uE (h.mem_iff.mp (qc c)))
def QA{a b:O OI}(h:a.Perm b):jb a=jb b:=by
 have h2:(Gv a).Perm (Gv b):=h.filterMap _;unfold jb;rw[QB h2];have:(Gv a=[])=(Gv b=[]):=propext ⟨λz=>List.nil_perm.mp (z▸h2),λz=>List.perm_nil.mp (z▸h2)⟩;simp only[this]
def VV(l:O OI):ya (l.map oP)=true:=KU.mpr λx hx=>by
 obtain⟨o,_,rfl⟩:=Au.mp hx;cases o <;> (rw[oP,PV.dat] <;> simp)
def dpl(d:Str):Nat:=if d="split" then 0 else if d="doubled" then 1 else 2
def xr(ps:O Int)(d:Str):Int:=ps.getD (dpl d) 0
theorem ac2(d:Str):dpl d < 3:=by unfold dpl;split;omega;split <;> omega
theorem aaI(h:ps.length=4)(hk:k < 4):dC (a7 ps) (k:Int)=am (.int (ps.getD k 0)):=cg (by
 unfold a7;rw[Ai,Ad ∅,Ae,Ad ∅];rfl)
def YE(d:Str):Prop:=d="split"\/d="doubled"\/d="over"
def O1{d:Str}:uq false (.str d) ([("split":Str),("doubled":Str),("over":Str)].map PV.str)=.ret (decide (d∈[("split":Str),("doubled":Str),("over":Str)])):=by
 unfold uq;rw[tz ⟨by simp,by simp[fm],by simp[d6]⟩];congr 1;simp only[vS,Ar,Cz,CJ,List.any_nil,aas,Bool.or_false,Av,if_false];have e:∀a:Str,(a==d)=decide (d=a):=λa=>by
  by_cases c:a=d
  ·subst c;simp
  ·have c2:¬d=a:=λz=>c z.symm;simp[c,c2]
 simp[e,Aw]
theorem Ts(h:ps.length=4){d:Str}(hd:YE d):fh (.tup (a7 ps)) (.str d)=.ret (.int (xr ps d)):=by
 unfold fh;have hm:d∈[("split":Str),("doubled":Str),("over":Str)]:=by rcases hd with rfl | rfl | rfl <;> simp
 have hi:UU ["split","doubled","over"] (.str d)=.ret (.int ((dpl d:Nat):Int)):=by
  show W.e6 _ _=_;rw[tz hm];rcases hd with rfl | rfl | rfl <;> rfl
 have:=ac2 d;simp only[nw,O1,hm,decide_true,if_true,ax,hi,bQ,aaI h (k:=dpl d) ∅,GE];rfl
def tj:fh (.tup (a7 ps)) (.str "found")=.ret (.int 0):=by
 unfold fh;have hm:("found":Str)∉[("split":Str),("doubled":Str),("over":Str)]:=by decide +kernel
 simp only[nw,O1,hm,decide_false,Av,if_false]
end My
variable{Q:O PL.PV->Prop}{n:Nat}{T:O (O My.OI)}
namespace My
def rg(T:O (O OI))(j i:Nat):OI:=(T.getD j []).getD i ce
def rP(T:O (O OI)):O PV:=T.map λr=>.tup (r.map oP)
def mP(ps:O Int)(R:Nat->Nat->OI)(a b:Nat)(d:Dd):OI:=gN [am (xr ps d.1),R a d.2.1,R b d.2.2]
def Pn(g:O Sy)(ps:O Int)(R:Nat->Nat->OI)(e:Ent)(i:Nat):O OI:=match e with
 | .word w=>if hm g i w=true then [am 0] else []
 | .pair a b=>(dl g i).map (mP ps R a b)
def dE(g:O Sy)(ps:O Int)(i:Nat):Int:=if (sy g i).un.length=2 then ps.getD 3 0 else 0
def SU(g:O Sy)(ps:O Int)(row:O OI)(i:Nat):O OI:=(sy g i).un.map λu=>gN [am (dE g ps i),row.getD u ce]
def fg(g:O Sy)(ps:O Int)(R:Nat->Nat->OI)(e:Ent):Nat->O OI
 | 0=>[]
 | k+1=>fg g ps R e k++[jb (Pn g ps R e k++SU g ps (fg g ps R e k) k)]
def aV(g:O Sy)(ps:O Int)(es:O Ent):Nat->O (O OI)
 | 0=>[]
 | j+1=>aV g ps es j++[fg g ps (rg (aV g ps es j)) (Wz es j) g.length]
theorem km(g:O Sy)(ps:O Int)(R:Nat->Nat->OI)(e:Ent):∀k,(fg g ps R e k).length=k
 | 0=>rfl
 | k+1=>by rw[fg,Al,km g ps R e k];rfl
theorem fX(g:O Sy)(ps:O Int)(es:O Ent):∀j,(aV g ps es j).length=j
 | 0=>rfl
 | j+1=>by rw[aV,Al,fX g ps es j];rfl
structure Wide(g:List Sy)(T:List (List OI))(n:Nat):Prop where
 len:T.length=n
 row:∀j,j < n->(T.getD j []).length=g.length
theorem dD(g:O Sy)(ps:O Int)(es:O Ent):∀j,Wide g (aV g ps es j) j
 | 0=>⟨rfl,λj h=>absurd h (Ft j)⟩
 | j+1=>⟨fX g ps es _,λk hk=>by
  have W:=dD g ps es j;rw[aV];by_cases c:k < j
  ·rw[sG (by rw[W.len];exact c)];exact W.row k c
  ·have:k=j:=by omega
   subst this;rw[sF (by rw[W.len];exact Ak _),W.len,Cy];exact km _ _ _ _ _⟩
def S9(W':Wide g T n)(hj:j < n)(hi:i < g.length):(bK (ap (bK (bn (rP T)) (bn (.int (j:Int)))) az) (bn (.int (i:Int))))=.ret (oP (rg T j i)):=by
 have hl:=W'.row j hj;have h1:dC (rP T) (j:Int)=am (.tup ((T.getD j []).map oP)):=cg (by
  unfold rP;rw[Ai,Ad (by rw[W'.len];exact hj),Ae,Ad (by rw[W'.len];exact hj)];rfl)
 have h2:dC ((T.getD j []).map oP) (i:Int)=am (oP (rg T j i)):=cg (by
  unfold rg;rw[Ai,Ad (by rw[hl];exact hi),Ae (l:=T.getD j []),Ad (by rw[hl];exact hi)];rfl)
 simp only[nw,bQ,h1,GE,ax,h2]
def VQ(h:d∈dl g i):YE d.1:=by
 unfold dl at h;rcases Aw.mp h with rfl | h
 ·exact .inr (.inl rfl)
 rcases AQ.mp h with h | h
 ·unfold Lu at h
  split at h
  ·simp at h;rcases h with rfl | rfl <;> exact .inl rfl
  ·cases h
 ·rcases AQ.mp h with h | h <;> obtain⟨o,_,rfl⟩:=Au.mp h <;> exact .inr (.inr rfl)
def vc{f:α->β}{a b:List β}(h:a.Perm b):∀{l:List α},b=l.map f->∃ds:List α,a=ds.map f/\ds.Perm l:=by
 induction h with
 | nil=>intro l e;exact⟨[],rfl,by rw[F2.mp e.symm]⟩
 | cons x _ ih=>
  intro l e;cases l with
  | nil=>cases e
  | cons y l=>
   injection e with e1 e2;obtain⟨ds,h1,h2⟩:=ih e2;exact⟨y::ds,by rw[Ar,e1,h1],h2.cons y⟩
 | swap x y r=>
  intro l e
  match l,e with
  | u::v::l,e=>
   injection e with e1 e2;injection e2 with e2 e3;exact⟨v::u::l,by rw[Ar,Ar,e1,e2,e3],.swap u v l⟩
 | trans _ _ O2 UR=>
  intro l e;obtain⟨ds,h1,h2⟩:=UR e;obtain⟨es,h3,h4⟩:=O2 h1;exact⟨es,h3,h4.trans h2⟩
theorem yS(f h:α->β):∀l:List α,(l.map f++l.map h).Perm (l.flatMap λo=>[f o,h o])
 | []=>.nil
 | a::l=>by
  rw[Ar,Ar,DG,E4];exact((List.perm_middle).trans ((yS f h l).cons _)).cons _
def uM(g:O Sy)(i:Nat):(dl g i).Perm (dds g i):=((yS (λo=>(("over",i,o):Dd)) (λo=>(("over",o,i):Dd)) (sy g i).be).append_left _).cons _
def y6(G:WG g ws)(h:i < g.length)(hd:d∈dl g i):d.2.1 < g.length/\d.2.2 < g.length:=ac3 G h ((uM g i).mem_iff.mp hd)
theorem y8(p4:ps.length=4)(W':Wide g T n)(ha:a < n)(hb:b < n)(hd:YE d.1)(hx:d.2.1 < g.length)(hy:d.2.2 < g.length):bO (.tup (a7 ps)) (.cl (rP T)) (Ent.pair a b).pv (d2 d)=.ret (oP (mP ps (rg T) a b d)):=by
 unfold bO;have i0:dC [PV.str d.1,PV.tup [.int (d.2.1:Int),.int (d.2.2:Int)]] 0=am (.str d.1):=rfl;have i1:dC [PV.str d.1,PV.tup [.int (d.2.1:Int),.int (d.2.2:Int)]] 1=am (.tup [.int (d.2.1:Int),.int (d.2.2:Int)]):=rfl;have ez:fU [PV.int (a:Int),.int (b:Int)] [.int (d.2.1:Int),.int (d.2.2:Int)]=.ret [.tup [.int (a:Int),.int (d.2.1:Int)],.tup [.int (b:Int),.int (d.2.2:Int)]]:=tz (by simp;exact bx ∅);have ec:nZ [PV.int (xr ps d.1)] [oP (rg T a d.2.1),oP (rg T b d.2.2)]=.ret ([am (xr ps d.1),rg T a d.2.1,rg T b d.2.2].map oP):=by rw[gG (by simp)];rfl
 have em:(aZ [PV.tup [.int (a:Int),.int (d.2.1:Int)],.tup [.int (b:Int),.int (d.2.2:Int)]] λp6=>ap (oS p6) λt7=>(bK (ap (bK (bn (rP T)) (bn t7.1)) az) (bn t7.2)))=.ret [oP (rg T a d.2.1),oP (rg T b d.2.2)]:=by
  simp only[aZ,fq,nw];have h1:=S9 W' ha hx;have h2:=S9 W' hb hy;simp only[nw]at h1 h2;simp only[h1,h2,nw]
 simp only[nw]at em;simp only[d2,nw,iG,IM,aH,Ar,Cz,ax,bQ,i0,i1,GE,ez,em,Ts p4 hd,bD,jz,ec];exact kg [am (xr ps d.1),rg T a d.2.1,rg T b d.2.2]
def Nr(G:WG g ws)(p4:ps.length=4)(W':Wide g T n)(he:Li n e)(hi:i < g.length)(q:∀L:O OI,L.Perm (Pn g ps (rg T) e i)->Q (L.map oP)):(gW (ou g) (.tup (a7 ps)) (.cl (rP T)) e.pv (.int (i:Int))).run Q:=by
 unfold gW;simp only[nw,ga];cases e with
 | word w=>
  unfold eA;simp only[Ent.pv,nw,ga,HG,HE,fJ,o0,if_true,O5 G hi];unfold Pn at q;cases h:hm g i w with
  | false=>
   simp only[h,Av,if_false]at q ⊢;exact q [] (List.Perm.refl _)
  | true=>
   simp only[h,if_true]at q ⊢;have ef:bO (.tup (a7 ps)) (.cl (rP T)) (.str w) (.tup [.str "found",.tup []])=.ret (.int 0):=by
    unfold bO;have i0:dC [PV.str "found",PV.tup []] 0=am (.str "found"):=rfl;have i1:dC [PV.str "found",PV.tup []] 1=am (.tup []):=rfl;have hv:cx (.str w)=.ret (.tup []):=iG (.word w);have ez:fU [] []=.ret []:=tz (by simp);have ec:nZ [PV.int 0] []=.ret ([am (0:Int)].map oP):=by rw[gG (by simp)];rfl
    simp only[nw,hv,ax,bQ,i0,i1,GE,ez,aZ,tj,jz,ec,kg];rfl
   simp only[o0,aZ,nw,ef];exact q [am 0] (List.Perm.refl _)
 | pair a b=>
  refine y7 G hi λm hm=>?_;obtain⟨ds,rfl,hp⟩:∃ds:O Dd,m=ds.map d2/\ds.Perm (dl g i):=vc hm rfl;refine kZ (λd=>oP (mP ps (rg T) a b d)) (λd hd=>?_) ?_
  ·have â:=hp.mem_iff.mp hd;obtain⟨h1,h2⟩:=y6 G hi â;rw[y8 p4 W' he.1 he.2 (VQ â) h1 h2];exact λQ q=>q
  ·have e:ds.map (λd=>oP (mP ps (rg T) a b d))=(ds.map (mP ps (rg T) a b)).map oP:=by rw[AG];rfl
   rw[e];exact q _ (hp.map _)
theorem TX(p4:ps.length=4)(hi:i < g.length):gh (ou g) (.tup (a7 ps)) (.int (i:Int))=.ret (.int (dE g ps i)):=by
 unfold gh dE;simp only[nw,j9 hi,hZ,eN,jZ,bG,ax,bQ];by_cases c:(sy g i).un.length=2
 ·have h3:=aaI p4 (k:=3) ∅;have c2:(((sy g i).un.length:Int)==2)=true:=by simp[c]
  rw[if_pos c,c2];simp only[if_true];rw[show((3:Nat):Int)=3 from rfl]at h3;rw[h3];rfl
 ·have c2:(((sy g i).un.length:Int)==2)=false:=by simp;omega
  rw[if_neg c,c2];rfl
theorem SD(G:WG g ws)(p4:ps.length=4){row:O OI}(hi:i < g.length)(hr:row.length=i):gU (ou g) (.tup (a7 ps)) (.cl (row.map oP)) (.int (i:Int))=.ret ((SU g ps row i).map oP):=by
 unfold gU SU;simp only[nw,TX p4 hi,j9 hi,ax];rw[AG];refine qd λu hu=>?_;have hu:=G.dn i hi u hu;have h1:dC (row.map oP) (u:Int)=am (oP (row.getD u ce)):=cg (by rw[Ai,Ad ∅,Ae,Ad ∅];rfl);have e:[PV.int (dE g ps i),oP (row.getD u ce)]=[am (dE g ps i),row.getD u ce].map oP:=rfl;simp only[nw,bD,bQ,h1,GE,e,kg];rfl
theorem abd(G:WG g ws)(p4:ps.length=4)(W':Wide g T n)(he:Li n e):(qe (ou g) (.tup (a7 ps)) (.cl (rP T)) e.pv).le (.ret (.tup ((fg g ps (rg T) e g.length).map oP))):=λQ q=>by
 unfold qe;have hg:=G.len;have el:rH fx [ou g]=.ret (.int (g.length:Int)):=by simp[ou]
 simp only[nw,ga,o0];simp only[el,o0,hV,tz (cO (i:=0) (j:=(g.length:Int)) ∅ ∅),BH];refine qF (λi s=>s=(fg g ps (rg T) e i).map oP) rfl (λi s hi hs=>?_) (λs hs=>?_)
 ·subst hs;have ŝ:=km g ps (rg T) e i;refine Nr G p4 W' he hi λL hL=>?_;rw[SD G p4 hi ŝ];have h1:L.length<=63:=by
   rw[hL.length_eq];cases e with
   | word w=>show(if hm g i w=true then [am 0] else []).length<=63;split <;> simp
   | pair a b=>show((dl g i).map _).length<=63;rw[Ah];exact VP G hi
  have h2:(SU g ps (fg g ps (rg T) e i) i).length<=2:=by unfold SU;rw[Ah];exact G.oS i hi
  simp only[nw,ga];rw[gG (by rw[Ah,Ah];omega),<- AW];have et:Sn ((L++SU g ps (fg g ps (rg T) e i) i).map oP)=.ret ((L++SU g ps (fg g ps (rg T) e i) i).map oP):=tz (VV _);simp only[o0,et,KW];rw[cH (by rw[Ah];omega)];show _=_;rw[fg,AW,QA (hL.append_right _)];rfl
 ·subst hs;exact q
theorem ka(G:WG g ws)(p4:ps.length=4)(hz:t.size<=400):(gT (ou g) t.pv (.tup (a7 ps))).le (.ret (.tup (rP (aV g ps (t.nd 0) t.size)))):=λQ q=>by
 unfold gT;simp only[nw,ga,o0];refine W.le.use (mr t ∅) ?_;simp only[ax,o0];refine eU (λi s=>s=rP (aV g ps (t.nd 0) i)) rfl (λi x s hx hs=>?_) (λs hs=>?_)
 ·subst hs;have hi:i < t.size:=by have:=(Am.mp hx).1;rw[bR]at this;exact this
  rw[Ai,gI t 0 i hi]at hx;have ex:=(Option.some.inj hx).symm;subst ex;simp only[ga];refine W.le.use (abd G p4 (dD g ps (t.nd 0) i) (wo t hi)) ?_;have ed:Wz (t.nd 0) i=en t 0 i:=by unfold Wz;rw[Ae,gI t 0 i hi];rfl
  have et:Sm (.tup ((fg g ps (rg (aV g ps (t.nd 0) i)) (en t 0 i) g.length).map oP))=.ret (.tup ((fg g ps (rg (aV g ps (t.nd 0) i)) (en t 0 i) g.length).map oP)):=tz (by rw[PV.dat];exact VV _);simp only[et,o0];rw[cH (by unfold rP;rw[Ah,fX];omega)];show _=_;rw[aV,ed];unfold rP;rw[AW];rfl
 ·subst hs;rw[bR];exact q
abbrev kk(j i:Nat):O Key:=[.inl (j:Int),.inl (i:Int)]
def acP(o:OI):jY (oP o) (oP o)=true:=by cases o <;> simp[oP,jY]
def yT(h:∀x∈l,jY x x=true):gE l l=true:=by
 induction l with
 | nil=>simp
 | cons a l ih=>rw[acO,h a (.head _),ih λx hx=>h x (.tail _ hx)];rfl
def Xn(T:O (O OI)):jY (.tup (rP T)) (.tup (rP T))=true:=by
 rw[aar];refine yT λx hx=>?_;obtain⟨r,_,rfl⟩:=Au.mp hx;rw[aar];refine yT λy hy=>?_;obtain⟨o,_,rfl⟩:=Au.mp hy;exact acP o
theorem Xh(r:O OI):PV.i8 (.tup (r.map oP))=true/\PV.fo (.tup (r.map oP))<=1:=by
 have h0:∀x∈r.map oP,PV.i8 x=true/\PV.fo x<=0:=λx hx=>by
  obtain⟨o,_,rfl⟩:=Au.mp hx;cases o <;> simp[oP]
 have h1:=gs (n:=0) λx hx=>(h0 x hx).2;simp only[PV.i8,PV.fo];exact⟨gr.mpr λx hx=>(h0 x hx).1,by omega⟩
theorem L0(T:O (O OI)):PV.i8 (.tup (rP T))=true/\PV.fo (.tup (rP T))<=2:=by
 have h0:∀x∈rP T,PV.i8 x=true/\PV.fo x<=1:=λx hx=>by
  obtain⟨r,_,rfl⟩:=Au.mp hx;exact Xh r
 have h1:=gs λx hx=>(h0 x hx).2;simp only[PV.i8,PV.fo];exact⟨gr.mpr λx hx=>(h0 x hx).1,by omega⟩
theorem aeV(T U:O (O OI)):Nb (.tup (rP T)) (.tup (rP U)):=⟨(L0 T).1,(L0 U).1,by have:=(L0 T).2;omega⟩
def aeW(T:O (O OI)):of2 vg (.tup (rP T)) (.tup (rP T))=.ret (.bl false):=by rw[Pg,tz (aeV T T),Xn];rfl
end My
variable{o:My.OI}{R R':Nat->Nat->My.OI}{c:Int}{l:O My.OI}{qs:O Int}
namespace My
section
theorem pO(R:Nat->Nat->OI)(e:Ent):∀{k:Nat},i < k->(fg g ps R e k).getD i ce=jb (Pn g ps R e i++SU g ps (fg g ps R e i) i)
 | k+1,h=>by
  rw[fg];by_cases c:i < k
  ·rw[sG (by rw[km];exact c)];exact pO R e c
  ·have:i=k:=by omega
   subst this;rw[sF (by rw[km];exact Ak _),km,Cy];rfl
theorem pI:∀{k:Nat},j < k->(aV g ps es k).getD j []=fg g ps (rg (aV g ps es j)) (Wz es j) g.length
 | k+1,h=>by
  rw[aV];by_cases c:j < k
  ·rw[sG (by rw[fX];exact c)];exact pI c
  ·have:j=k:=by omega
   subst this;rw[sF (by rw[fX];exact Ak _),fX,Cy];rfl
theorem abf(h:j<=k){x:Nat}(ha:a < j):rg (aV g ps es j) a x=rg (aV g ps es k) a x:=by
 unfold rg;rw[pI ha,pI (show a < k by omega)]
def Rt(he:Li n e)(h:∀a x,a < n->R a x=R' a x):Pn g ps R e i=Pn g ps R' e i:=by
 cases e with
 | word w=>rfl
 | pair a b=>exact BE λd _=>by unfold mP;rw[h a _ he.1,h b _ he.2]
def stC(g:O Sy)(ps:O Int)(f:Nat->OI)(i:Nat):O OI:=(sy g i).un.map λu=>gN [am (dE g ps i),f u]
theorem aeO(G:WG g ws)(hj:j < n)(hi:i < g.length)(he:Li j (Wz es j)):rg (aV g ps es n) j i=jb (Pn g ps (rg (aV g ps es n)) (Wz es j) i++stC g ps (rg (aV g ps es n) j) i):=by
 have e0:∀x,rg (aV g ps es n) j x=(fg g ps (rg (aV g ps es j)) (Wz es j) g.length).getD x ce:=λx=>by unfold rg;rw[pI hj];rfl
 rw[e0,pO _ _ hi,Rt he λa x ha=>abf (k:=n) ∅ ha];congr 2;refine BE λu hu=>?_;have hu:=G.dn i hi u hu;rw[e0,pO _ _ hu,pO _ _ (show u < g.length by omega)]
end
theorem MJ{P:Nat->Nat->Prop}(h:∀j i,j < n->i < m->(∀a x,a < j->x < m->P a x)->(∀u,u < i->P j u)->P j i):∀j i,j < n->i < m->P j i:=by
 intro j
 induction j using Ct with
 | ind j ihj=>
  intro i
  induction i using Ct with
  | ind i ihi=>exact λhj hi=>h j i hj hi (λa x ha hx=>ihj a ha x ∅ hx) λu hu=>ihi u hu hj ∅
def OQ:v∈Gv l↔am v∈l:=by
 unfold Gv;rw[CW];exact⟨λ⟨o,h1,h2⟩=>by rw[id]at h2;rw[<- h2];exact h1,λh=>⟨_,h,rfl⟩⟩
def gR(h:am v∈l):∃m,jb l=am m/\m<=v:=by
 have h:=OQ.mpr h;unfold jb;rw[if_neg (λz=>by rw[z]at h;cases h)];exact⟨_,rfl,uE h⟩
def iQ{m:Int}(h:jb l=am m):am m∈l:=by
 unfold jb at h
 split at h
 ·cases h
 ·next c=>
  cases h;exact OQ.mp (qc c)
def sum2{a b:Int}:gN [am a,am b]=am (a+b):=by simp[gN,Gv]
def aeI{a b:Int}:gN [am a,am b,am c]=am (a+(b+c)):=by simp[gN,Gv]
def zJ{a:Int}(h:gN [am a,o]=am v):∃b,o=am b/\v=a+b:=by
 cases o with
 | none=>simp[gN]at h
 | some b=>rw[sum2]at h;exact⟨b,rfl,(Option.some.inj h).symm⟩
def Oa{a:Int}{p:OI}(h:gN [am a,o,p]=am v):∃b c,o=am b/\p=am c/\v=a+(b+c):=by
 cases o with
 | none=>simp[gN]at h
 | some b=>cases p with
  | none=>simp[gN]at h
  | some c=>rw[aeI]at h;exact⟨b,c,rfl,rfl,(Option.some.inj h).symm⟩
section
def Vv(h:j < t.size):Wz (t.nd 0) j=en t 0 j:=by unfold Wz;rw[Ae,gI t 0 j h];rfl
def rJ(G:WG g ws)(ps:O Int)(hj:j < t.size)(hi:i < g.length):rg (aV g ps (t.nd 0) t.size) j i=jb (Pn g ps (rg (aV g ps (t.nd 0) t.size)) (en t 0 j) i++stC g ps (rg (aV g ps (t.nd 0) t.size) j) i):=by
 have:=aeO (es:=t.nd 0) (ps:=ps) G hj hi (by rw[Vv hj];exact wo t hj);rw[Vv hj]at this;exact this
def tab_of(G:WG g ws)(hj:j < t.size)(hi:i < g.length)(h:rg (aV g ps (t.nd 0) t.size) j i=am v) :
  (∃w,en t 0 j=.word w/\hm g i w=true/\v=0)\/(∃a b d x y,en t 0 j=.pair a b/\d∈dl g i/\rg (aV g ps (t.nd 0) t.size) a d.2.1=am x/\rg (aV g ps (t.nd 0) t.size) b d.2.2=am y/\v=xr ps d.1+(x+y))\/∃u x,u∈(sy g i).un/\rg (aV g ps (t.nd 0) t.size) j u=am x/\v=dE g ps i+x:=by
 rw[rJ G ps hj hi]at h;rcases AQ.mp (iQ h) with h | h
 ·cases e:en t 0 j with
  | word w=>
   rw[e]at h;have h:am v∈(if hm g i w=true then [am 0] else []):=h
   split at h
   ·next c=>exact .inl ⟨w,rfl,c,Option.some.inj (AR.mp h)⟩
   ·cases h
  | pair a b=>
   rw[e]at h;obtain⟨d,hd,h⟩:=Au.mp h;obtain⟨x,y,h1,h2,h3⟩:=Oa h;exact .inr (.inl ⟨a,b,d,x,y,rfl,hd,h1,h2,h3⟩)
 ·obtain⟨u,hu,h⟩:=Au.mp h;obtain⟨x,h1,h2⟩:=zJ h;exact .inr (.inr ⟨u,x,hu,h1,h2⟩)
def kd(G:WG g ws)(ps:O Int){w:Str}(hj:j < t.size)(hi:i < g.length)(e:en t 0 j=.word w)(h:hm g i w=true):∃m,rg (aV g ps (t.nd 0) t.size) j i=am m/\m<=0:=by
 rw[rJ G ps hj hi,e];refine gR (Bu _ ?_);show am 0∈(if hm g i w=true then [am 0] else []);rw[if_pos h];exact .head _
def ke(G:WG g ws)(ps:O Int){x:Int}(hj:j < t.size)(hi:i < g.length)(e:en t 0 j=.pair a b)(hd:d∈dl g i)(h1:rg (aV g ps (t.nd 0) t.size) a d.2.1=am x)(h2:rg (aV g ps (t.nd 0) t.size) b d.2.2=am y):∃m,rg (aV g ps (t.nd 0) t.size) j i=am m/\m<=xr ps d.1+(x+y):=by
 rw[rJ G ps hj hi,e];refine gR (Bu _ (Au.mpr ⟨d,hd,?_⟩));unfold mP;rw[h1,h2,aeI]
def iJ(G:WG g ws)(ps:O Int){x:Int}(hj:j < t.size)(hi:i < g.length)(hu:u∈(sy g i).un)(h1:rg (aV g ps (t.nd 0) t.size) j u=am x):∃m,rg (aV g ps (t.nd 0) t.size) j i=am m/\m<=dE g ps i+x:=by
 rw[rJ G ps hj hi];refine gR (A2 _ (Au.mpr ⟨u,hu,?_⟩));rw[h1,sum2]
theorem WS(G:WG g ws)(ps:O Int)(hj:j < t.size)(r:R3 g i k):i < g.length->∀{x},rg (aV g ps (t.nd 0) t.size) j k=am x->∃m,rg (aV g ps (t.nd 0) t.size) j i=am m:=by
 induction r with
 | refl=>intro _ x h;exact⟨x,h⟩
 | step hu r ih=>
  intro hi x h;obtain⟨y,hy⟩:=ih (by have:=G.dn _ hi _ hu;omega) h;obtain⟨m,hm,_⟩:=iJ G ps hj hi hu hy;exact⟨m,hm⟩
theorem WR(G:WG g ws)(ps:O Int)(hw:∀w∈t.aB,w∈ws):∀j,j < t.size->∃m,rg (aV g ps (t.nd 0) t.size) j (g.length-1)=am m:=by
 have hp:=G.pos;intro j
 induction j using Ct with
 | ind j ih=>
  intro hj;cases e:en t 0 j with
  | word w=>
   obtain⟨i,hi,hr,hh⟩:=G.ajZ w (hw w (HJ t 0 j w hj e));obtain⟨m,hm,_⟩:=kd G ps hj hi e hh;exact WS G ps hj hr ∅ hm
  | pair a b=>
   obtain⟨h1,h2⟩:=fu t hj e;obtain⟨x,hx⟩:=ih a h1 ∅;obtain⟨y,hy⟩:=ih b h2 ∅;obtain⟨m,hm,_⟩:=ke G ps hj (show g.length-1 < g.length by omega) e (d:=dbl (g.length-1)) (.head _) hx hy;exact⟨m,hm⟩
def Qv(h:∀k,ps.getD k 0<=qs.getD k 0)(i:Nat):dE g ps i<=dE g qs i:=by
 unfold dE
 split
 ·exact h 3
 ·exact CC _
theorem Sr(G:WG g ws)(h:∀k,ps.getD k 0<=qs.getD k 0):∀j i,j < t.size->i < g.length->∀v,rg (aV g qs (t.nd 0) t.size) j i=am v->∃m,rg (aV g ps (t.nd 0) t.size) j i=am m/\m<=v:=MJ λj i hj hi O2 UR v hv=>by
 rcases tab_of G hj hi hv with⟨w,e,hh,rfl⟩ | ⟨a,b,d,x,y,e,hd,h1,h2,rfl⟩ | ⟨u,x,hu,h1,rfl⟩
 ·exact kd G ps hj hi e hh
 ·obtain⟨k1,k2⟩:=fu t hj e;obtain⟨l1,l2⟩:=y6 G hi hd;obtain⟨x',hx,lx⟩:=O2 a _ k1 l1 x h1;obtain⟨y',hy,ly⟩:=O2 b _ k2 l2 y h2;obtain⟨m,hm,lm⟩:=ke G ps hj hi e hd hx hy;exact⟨m,hm,by have:=h (dpl d.1);unfold xr at *;omega⟩
 ·obtain⟨x',hx,lx⟩:=UR u (G.dn i hi u hu) x h1;obtain⟨m,hm,lm⟩:=iJ G ps hj hi hu hx;exact⟨m,hm,by have:=Qv (g:=g) h i;omega⟩
end
def gm(g:O Sy)(ps:O Int)(t:Tr):O OI:=(aV g ps (t.nd 0) t.size).getD (t.size-1) []
section
theorem nr:(gm g ps t).length=g.length:=(dD g ps (t.nd 0) t.size).row _ (by have:=t.size_pos;omega)
theorem vJ(i:Nat):(gm g ps t).getD i ce=rg (aV g ps (t.nd 0) t.size) (t.size-1) i:=rfl
def qx:am v∈gm g ps t↔∃i,i < g.length/\rg (aV g ps (t.nd 0) t.size) (t.size-1) i=am v:=by
 constructor
 ·intro h;obtain⟨i,hi⟩:=B4 h;refine⟨i,by have:=(Am.mp hi).1;rw[nr]at this;exact this,?_⟩;rw[<- vJ,Ae,hi];rfl
 ·rintro⟨i,hi,h⟩;rw[<- vJ,Ae,Ad (by rw[nr];exact hi)]at h;have h:(gm g ps t)[i]'(by rw[nr];exact hi)=am v:=h;rw[<- h];exact DY _
theorem least_le(G:WG g ws)(p4:ps.length=4)(hz:t.size<=400):(m9 (ou g) t.pv (.tup (a7 ps))).le (.ret (oP (jb (gm g ps t)))):=λQ q=>by
 unfold m9;simp only[nw,ga];refine W.le.use (ka G p4 hz) ?_;have hp:=t.size_pos;have hl:=fX g ps (t.nd 0) t.size;have hx:dC (rP (aV g ps (t.nd 0) t.size)) (-1)=am (.tup ((gm g ps t).map oP)):=by
  unfold dC tB;have e:(rP (aV g ps (t.nd 0) t.size)).length=t.size:=by unfold rP;rw[Ah,hl]
  rw[e,if_neg ∅,if_pos ∅];show(rP (aV g ps (t.nd 0) t.size))[(-1+(t.size:Int)).toNat]?=_;rw[show(-1+(t.size:Int)).toNat=t.size-1 by omega];unfold rP gm;rw[Ai,Ad ∅,Ae,Ad ∅];rfl
 simp only[ax,o0,pj,bQ,hx,GE,qS];exact q
theorem o6(G:WG g ws)(hw:∀w∈t.aB,w∈ws):∃m,jb (gm g ps t)=am m:=by
 have hp:=t.size_pos;have hg:=G.pos;obtain⟨v,hv⟩:=WR G ps hw (t.size-1) ∅;obtain⟨m,hm,_⟩:=gR (qx.mpr ⟨g.length-1,by omega,hv⟩);exact⟨m,hm⟩
end
def So:∀ns l Q,jQ ns->((kK 1 cf) l).run Q->((λlo l=>kK 1 (xu lo) l) (ns.map PV.int) l).run λt=>Q t.1/\∃yA:O Int,t.2=yA.map PV.int/\jQ yA:=Sq
def stp(k:Nat):WT->WT
 | .lf p i=>.lf (k::p) i
 | .nd p i nm a b=>.nd (k::p) i nm a b
def wf(g:O Sy):WT->Prop
 | .lf p _=>∀k∈p,k < g.length
 | .nd p _ nm a b=>(∀k∈p,k < g.length)/\YE nm/\wf g a/\wf g b
def cst(g:O Sy)(ps:O Int):WT->Int
 | .lf p _=>(p.map (dE g ps)).sum
 | .nd p _ nm a b=>(p.map (dE g ps)).sum+xr ps nm+cst g ps a+cst g ps b
def WP(g:O Sy)(t:Tr):Nat->WT->Prop
 | j,.lf _ i=>∃w,en t 0 j=.word w/\hm g i w=true
 | j,.nd _ i nm a b=>∃x y k l r1 r2,en t 0 j=.pair x y/\(nm,k,l)∈dds g i/\a.path=k::r1/\b.path=l::r2/\Ch g a.path/\Ch g b.path/\WP g t x a/\WP g t y b
theorem WP.kn(G:WG g ws):∀{w:WT}{j:Nat},WP g t j w->Ch g w.path->∀x∈w.post,Kn g x
 | .lf p i,j,_,c,x,hx=>by
  rw[AR.mp hx];exact⟨.inr (.inr (.inr rfl)),V1 G c⟩
 | .nd p i nm a b,j,⟨_,_,k,l,r1,r2,e,h,p1,p2,c1,c2,w1,w2⟩,c,x,hx=>by
  rcases AQ.mp hx with hx | hx
  ·rcases AQ.mp hx with hx | hx
   ·exact WP.kn G w1 c1 x hx
   ·exact WP.kn G w2 c2 x hx
  ·rw[AR.mp hx];refine⟨?_,V1 G c⟩;rcases ac4 h with h | h | h
   ·exact .inl h
   ·exact .inr (.inl h)
   ·exact .inr (.inr (.inl h))
theorem Gr(g:O Sy)(ps:O Int):∀p:O Nat,(p.map (dE g ps)).sum=ps.getD 3 0*(uj g p:Int)
 | []=>by simp[uj]
 | k::p=>by
  rw[Ar,Dm,Gr g ps p];unfold dE uj;by_cases c:(sy g k).un.length=2
  ·have:zD g k=true:=by unfold zD;simp[c]
   rw[if_pos c,CO,if_pos this,Ap,Int.natCast_add,Gm];simp;omega
  ·have:¬zD g k=true:=by unfold zD;simp[c]
   rw[if_neg c,CO,if_neg this,Ek]
def JS(g:O Sy)(l m:O WT):o5 g (l++m)=o5 g l+o5 g m:=by unfold o5;rw[AW,List.sum_append]
theorem Ia(a b c d:Int):∀w:WT,wf g w->a*(cnt "split" w.post:Int)+b*(cnt "doubled" w.post:Int)+c*(cnt "over" w.post:Int)+d*(o5 g w.post:Int)=cst g [a,b,c,d] w
 | .lf p i,h=>by
  have e:(WT.lf p i).post=[.lf p i]:=rfl;have d1:(WT.lf p i).sM="found":=rfl;rw[e,nN,nN,nN,d1];have e1:(("found":Str)=="split")=false:=by decide
  have e2:(("found":Str)=="doubled")=false:=by decide
  have e3:(("found":Str)=="over")=false:=by decide
  have e4:o5 g [WT.lf p i]=uj g p:=by unfold o5;simp;rfl
  rw[e1,e2,e3,e4];show _=(p.map (dE g [a,b,c,d])).sum;rw[Gr];simp
 | .nd p i nm x y,h=>by
  have O2:=Ia a b c d x h.2.2.1;have UR:=Ia a b c d y h.2.2.2;have e:(WT.nd p i nm x y).post=x.post++y.post++[.nd p i nm x y]:=rfl;have d1:(WT.nd p i nm x y).sM=nm:=rfl;have e4:o5 g [WT.nd p i nm x y]=uj g p:=by unfold o5;simp;rfl
  have ec:cst g [a,b,c,d] (.nd p i nm x y)=(p.map (dE g [a,b,c,d])).sum+xr [a,b,c,d] nm+cst g [a,b,c,d] x+cst g [a,b,c,d] y:=rfl;rw[e,nP,nP,nP,nP,nP,nP,nN,nN,nN,d1,JS,JS,e4,ec,Gr,<- O2,<- UR];have g3:[a,b,c,d].getD 3 0=d:=rfl;rw[g3];simp only[Int.natCast_add,Gm];rcases h.2.1 with rfl | rfl | rfl
  ·have e1:(("split":Str)=="split")=true:=by decide
   have e2:(("split":Str)=="doubled")=false:=by decide
   have e3:(("split":Str)=="over")=false:=by decide
   have ep:xr [a,b,c,d] "split"=a:=rfl;rw[e1,e2,e3,ep];simp;omega
  ·have e1:(("doubled":Str)=="split")=false:=by decide
   have e2:(("doubled":Str)=="doubled")=true:=by decide
   have e3:(("doubled":Str)=="over")=false:=by decide
   have ep:xr [a,b,c,d] "doubled"=b:=rfl;rw[e1,e2,e3,ep];simp;omega
  ·have e1:(("over":Str)=="split")=false:=by decide
   have e2:(("over":Str)=="doubled")=false:=by decide
   have e3:(("over":Str)=="over")=true:=by decide
   have ep:xr [a,b,c,d] "over"=c:=rfl;rw[e1,e2,e3,ep];simp;omega
def sc(c:Int):OI->OI:=Option.map (c*·)
def Kj(c:Int)(ps:O Int)(k:Nat):(ps.map (c*·)).getD k 0=c*ps.getD k 0:=by
 rw[Ae,Ae,Ai];cases ps[k]? with
 | none=>simp
 | some x=>rfl
theorem L9(c:Int):∀l:O OI,Gv (l.map (sc c))=(Gv l).map (c*·)
 | []=>rfl
 | none::l=>by
  have:=L9 c l;unfold Gv at *;simpa[sc]using this
 | some x::l=>by
  have:=L9 c l;unfold Gv at *;simpa[sc]using this
def OG(c:Int)(l:O OI):ce∈l.map (sc c)↔ce∈l:=by
 rw[Au]
 constructor
 ·rintro⟨x,hx,e⟩;cases x with
  | none=>exact hx
  | some v=>cases e
 ·exact λh=>⟨ce,h,rfl⟩
theorem yp(c:Int):∀l:O Int,(l.map (c*·)).sum=c*l.sum
 | []=>by simp
 | x::l=>by rw[Ar,Dm,Dm,yp c l,Gm]
def N9(c:Int)(l:O OI):gN (l.map (sc c))=sc c (gN l):=by
 unfold gN;by_cases h:ce∈l
 ·rw[if_pos h,if_pos ((OG c l).mpr h)];rfl
 ·rw[if_neg h,if_neg λz=>h ((OG c l).mp z),L9,yp];rfl
theorem OM(hc:0<=c)(l:O OI):jb (l.map (sc c))=sc c (jb l):=by
 cases h:jb l with
 | none=>
  cases h2:jb (l.map (sc c)) with
  | none=>rfl
  | some v=>
   obtain⟨x,hx,e⟩:=Au.mp (iQ h2);cases x with
   | none=>cases e
   | some y=>
    obtain⟨m,hm,_⟩:=gR hx;rw[h]at hm;cases hm
 | some v=>
  have hv:=iQ h;obtain⟨m,hm,lm⟩:=gR (Au.mpr ⟨am v,hv,rfl⟩:am (c*v)∈l.map (sc c));obtain⟨x,hx,e⟩:=Au.mp (iQ hm);cases x with
  | none=>cases e
  | some y=>
   have e:c*y=m:=Option.some.inj e;obtain⟨m2,Ly,lm2⟩:=gR hx;rw[h]at Ly;have:v=m2:=Option.some.inj Ly;subst this;have:=Int.mul_le_mul_of_nonneg_left lm2 hc;rw[hm];show am m=am (c*v);congr 1;omega
section
def abv(d:Str):xr (ps.map (c*·)) d=c*xr ps d:=Kj c ps _
def XQ(i:Nat):dE g (ps.map (c*·)) i=c*dE g ps i:=by
 unfold dE
 split
 ·exact Kj c ps 3
 ·simp
def aeN(T:O (O OI))(j i:Nat):rg (T.map λr=>r.map (sc c)) j i=sc c (rg T j i):=by
 unfold rg;rw[Ae (l:=T.map _),Ae (l:=T),Ai];cases T[j]? with
 | none=>rfl
 | some r=>
  show(r.map (sc c)).getD i ce=sc c (r.getD i ce);rw[Ae,Ae,Ai];cases r[i]? <;> rfl
def ac5(h:∀a x,R' a x=sc c (R a x))(e:Ent)(i:Nat):Pn g (ps.map (c*·)) R' e i=(Pn g ps R e i).map (sc c):=by
 unfold Pn;cases e with
 | word w=>
  show(if hm g i w=true then [am 0] else [])=Dn _ (if hm g i w=true then [am 0] else [])
  split
  ·simp[sc]
  ·rfl
 | pair a b=>
  show Dn _ _=Dn _ (Dn _ _);rw[AG];refine BE λd _=>?_;show gN _=sc c (gN _);rw[<- N9,abv,h,h];rfl
theorem Oq(hc:0<=c)(h:∀a x,R' a x=sc c (R a x))(e:Ent):∀k,fg g (ps.map (c*·)) R' e k=(fg g ps R e k).map (sc c)
 | 0=>rfl
 | k+1=>by
  rw[fg,fg,Oq hc h e k,ac5 h,AW];congr 1;have:SU g (ps.map (c*·)) ((fg g ps R e k).map (sc c)) k=(SU g ps (fg g ps R e k) k).map (sc c):=by
   unfold SU;rw[AG];refine BE λu _=>?_;show gN _=sc c (gN _);rw[<- N9,XQ];have:((fg g ps R e k).map (sc c)).getD u ce=sc c ((fg g ps R e k).getD u ce):=by
    rw[Ae,Ae,Ai];cases (fg g ps R e k)[u]? <;> rfl
   rw[this];rfl
  rw[this,<- AW,OM hc];rfl
theorem zH(hc:0<=c)(es:O Ent):∀j,aV g (ps.map (c*·)) es j=(aV g ps es j).map λr=>r.map (sc c)
 | 0=>rfl
 | j+1=>by
  rw[aV,aV,zH hc es j,AW,Oq hc λa x=>aeN _ a x];rfl
def Ur(hc:0<=c)(t:Tr):gm g (ps.map (c*·)) t=(gm g ps t).map (sc c):=by
 unfold gm;rw[zH hc,Ae,Ae,Ai];cases (aV g ps (t.nd 0) t.size)[t.size-1]? <;> rfl
end
section
def yn(G:WG g ws)(ps qs:O Int):∀j i,j < t.size->i < g.length->(∃v,rg (aV g ps (t.nd 0) t.size) j i=am v)->∃v,rg (aV g qs (t.nd 0) t.size) j i=am v:=MJ λj i hj hi O2 UR ⟨v,hv⟩=>by
 rcases tab_of G hj hi hv with⟨w,e,hm,_⟩ | ⟨a,b,d,x,y,e,hd,hx,hy,_⟩ | ⟨u,x,hu,hx,_⟩
 ·obtain⟨m,h,_⟩:=kd G qs hj hi e hm;exact⟨m,h⟩
 ·have w9:=wo t hj;rw[e]at w9;have w9:a < j/\b < j:=w9;obtain⟨l1,l2⟩:=y6 G hi hd;obtain⟨x',qB⟩:=O2 a _ w9.1 l1 ⟨x,hx⟩;obtain⟨y',YH⟩:=O2 b _ w9.2 l2 ⟨y,hy⟩;obtain⟨m,h,_⟩:=ke G qs hj hi e hd qB YH;exact⟨m,h⟩
 ·obtain⟨x',qB⟩:=UR u (G.dn i hi u hu) ⟨x,hx⟩;obtain⟨m,h,_⟩:=iJ G qs hj hi hu qB;exact⟨m,h⟩
theorem Ss(G:WG g ws){rs:O Int}(hs:∀k,rs.getD k 0=ps.getD k 0+qs.getD k 0):∀j i,j < t.size->i < g.length->∀v,rg (aV g rs (t.nd 0) t.size) j i=am v->∃a b,rg (aV g ps (t.nd 0) t.size) j i=am a/\rg (aV g qs (t.nd 0) t.size) j i=am b/\a+b<=v:=MJ λj i hj hi O2 UR v hv=>by
 rcases tab_of G hj hi hv with⟨w,e,hm,rfl⟩ | ⟨a,b,d,x,y,e,hd,hx,hy,rfl⟩ | ⟨u,x,hu,hx,rfl⟩
 ·obtain⟨m,h,l⟩:=kd G ps hj hi e hm;obtain⟨m',h',l'⟩:=kd G qs hj hi e hm;exact⟨m,m',h,h',by omega⟩
 ·have w9:=wo t hj;rw[e]at w9;have w9:a < j/\b < j:=w9;obtain⟨l1,l2⟩:=y6 G hi hd;obtain⟨x1,x2,î,Ģ,lx⟩:=O2 a _ w9.1 l1 x hx;obtain⟨y1,y2,hy1,hy2,ly⟩:=O2 b _ w9.2 l2 y hy;obtain⟨m,h,l⟩:=ke G ps hj hi e hd î hy1;obtain⟨m',h',l'⟩:=ke G qs hj hi e hd Ģ hy2;have:xr rs d.1=xr ps d.1+xr qs d.1:=hs _;exact⟨m,m',h,h',by omega⟩
 ·obtain⟨x1,x2,î,Ģ,lx⟩:=UR u (G.dn i hi u hu) x hx;obtain⟨m,h,l⟩:=iJ G ps hj hi hu î;obtain⟨m',h',l'⟩:=iJ G qs hj hi hu Ģ;have:dE g rs i=dE g ps i+dE g qs i:=by
   unfold dE
   split
   ·exact hs 3
   ·rfl
  exact⟨m,m',h,h',by omega⟩
theorem V2(G:WG g ws)(hj:j < t.size){x:Int}:∀{p:O Nat},Ch g (p++[i])->(∃m,rg (aV g ps (t.nd 0) t.size) j i=am m/\m<=x)->∀{k r},p++[i]=k::r->∃m,rg (aV g ps (t.nd 0) t.size) j k=am m/\m<=(p.map (dE g ps)).sum+x
 | [],_,h,k,r,e=>by
  cases e;simpa using h
 | [a],c,h,k,r,e=>by
  cases e;have c:a < g.length/\i∈(sy g a).un/\_:=c;obtain⟨m,hm,l⟩:=h;obtain⟨m',š,l'⟩:=iJ G ps hj c.1 c.2.1 hm;exact⟨m',š,by simp;omega⟩
 | a::b::p,c,h,k,r,e=>by
  cases e;have c:a < g.length/\b∈(sy g a).un/\Ch g (b::(p++[i])):=c;obtain⟨m,hm,l⟩:=V2 G hj (p:=b::p) c.2.2 h rfl;obtain⟨m',š,l'⟩:=iJ G ps hj c.1 c.2.1 hm;refine⟨m',š,?_⟩;rw[Ar,Dm];omega
theorem LP(G:WG g ws)(ps:O Int):∀(u:WT) {j:Nat},j < t.size->WP g t j u->Ch g u.path->∀{k r},u.path=k::r->∃m,rg (aV g ps (t.nd 0) t.size) j k=am m/\m<=cst g ps u
 | .lf p i,j,hj,⟨w,e,h⟩,c,k,r,hp=>by
  obtain⟨m,hm,l⟩:=V2 G hj c (kd G ps hj c.last e h) hp;exact⟨m,hm,by show m<=(p.map (dE g ps)).sum;omega⟩
 | .nd p i nm a b,j,hj,⟨x,y,k1,l1,r1,r2,e,hd,p1,p2,c1,c2,w1,w2⟩,c,k,r,hp=>by
  have w9:=wo t hj;rw[e]at w9;have w9:x < j/\y < j:=w9;obtain⟨m1,h1,lm1⟩:=LP G ps a ∅ w1 c1 p1;obtain⟨m2,h2,lm2⟩:=LP G ps b ∅ w2 c2 p2;have ø:(nm,k1,l1)∈dl g i:=(uM g i).mem_iff.mpr hd;obtain⟨m,hm,l⟩:=V2 G hj c (ke G ps hj c.last e ø h1 h2) hp;refine⟨m,hm,?_⟩;show m<=(p.map (dE g ps)).sum+xr ps nm+cst g ps a+cst g ps b;have:xr ps nm=xr ps (nm,k1,l1).1:=rfl;omega
theorem WP.ok:∀(s:Tr) (o:Nat),(∀k,k < s.size->en t 0 (o+k)=en s o k)->∀u:WT,WP g t (o+s.size-1) u->Ch g u.path->u.Ok g s
 | .leaf w,o,h,u,hw,c=>by
  have e:=h 0 (Nat.zero_lt_one);rw[show en (.leaf w) o 0=.word w from rfl]at e;have hw:WP g t o u:=hw;cases u with
  | lf p i=>
   obtain⟨w',e',hm⟩:=hw;rw[Nat.add_zero,e']at e;cases e;exact⟨c,hm⟩
  | nd p i nm a b=>
   obtain⟨x,y,_,_,_,_,e',_⟩:=hw;rw[Nat.add_zero,e']at e;cases e
 | .node l r,o,h,u,hw,c=>by
  have es:(Tr.node l r).size=l.size+r.size+1:=rfl;have e:=h (l.size+r.size) ∅;rw[en,if_neg ∅,if_neg ∅]at e;have hw:WP g t (o+(l.size+r.size)) u:=by
   have:o+(Tr.node l r).size-1=o+(l.size+r.size):=by omega
   rw[this]at hw;exact hw
  cases u with
  | lf p i=>
   obtain⟨w',e',hm⟩:=hw;rw[e']at e;cases e
  | nd p i nm a b=>
   obtain⟨x,y,k,l',r1,r2,e',hd,p1,p2,c1,c2,w1,w2⟩:=hw;rw[e']at e;cases e;refine⟨c,⟨k,l',r1,r2,hd,p1,p2⟩,WP.ok l o (λk hk=>?_) a w1 c1,WP.ok r (o+l.size) (λk hk=>?_) b w2 c2⟩
   ·rw[h k ∅,en,if_pos hk]
   ·rw[Bs,h (l.size+k) ∅,en,if_neg ∅,if_pos ∅,Dv]
theorem WP.wf(G:WG g ws):∀(u:WT) {j:Nat},WP g t j u->Ch g u.path->My.wf g u
 | .lf p i,j,_,c=>λk hk=>c.lt k (Bu _ hk)
 | .nd p i nm a b,j,⟨x,y,k,l',r1,r2,e',hd,p1,p2,c1,c2,w1,w2⟩,c=>⟨λk hk=>c.lt k (Bu _ hk),VQ ((uM g i).mem_iff.mpr hd),WP.wf G a w1 c1,WP.wf G b w2 c2⟩
end
abbrev jL(g:O Sy)(ps:O Int)(t:Tr):Nat->Nat->OI:=rg (aV g ps (t.nd 0) t.size)
def DdP(g:O Sy)(ps:O Int)(t:Tr)(j i:Nat)(x:PV):Prop:=match en t 0 j with
 | .word w=>hm g i w=true/\x=.tup [.str "found",.tup []]
 | .pair a b=>∃d∈dl g i,x=d2 d/\(∃v,jL g ps t a d.2.1=am v)/\∃v,jL g ps t b d.2.2=am v
structure DOk(g:List Sy)(ps:List Int)(t:Tr)(j i:Nat)(D:List PV):Prop where
 ok:∀x∈D,DdP g ps t j i x
 ne:∀v,jL g ps t j i=am v->am v∈Pn g ps (jL g ps t) (en t 0 j) i->D≠[]
def Vw(o:OI)(v:Int):of2 iP (oP o) (.int v)=.ret (.bl (decide (o=am v))):=by
 cases o with
 | none=>
  show of2 iP .aJ (.int v)=_;rw[yV,tz ⟨by simp,by simp,by simp⟩];simp[jY]
 | some x=>
  show of2 iP (.int x) (.int v)=_;rw[jZ];congr 2;rw[Bool.eq_iff_iff];simp
def su{c:α->PV}{f:PV->W (Option PV)}(p:α->Bool){l:List α}(h:∀x∈l,f (c x)=.ret (if p x=true then am (c x) else ce))(q:Q ((l.filter p).map c)):(mD (l.map c) f).run Q:=by
 refine Up (λx=>if p x=true then am (c x) else ce) (λx hx R r=>by rw[h x hx];exact r) ?_;rw[Vf];exact q
section
theorem Mq(G:WG g ws)(p4:ps.length=4)(hj:j < t.size)(hi:i < g.length)(q:∀D,DOk g ps t j i D->Q D):(dW (ou g) (.tup (a7 ps)) (.tup (rP (aV g ps (t.nd 0) t.size))) (.int (j:Int)) (en t 0 j).pv (.int (i:Int))).run Q:=by
 have Wd:=dD g ps (t.nd 0) t.size;have h1:=S9 Wd hj hi;simp only[nw]at h1;unfold dW;simp only[nw,ga,ax,h1,o0];cases hv:rg (aV g ps (t.nd 0) t.size) j i with
 | none=>
  simp only[oP,mN,PV.d4,bG,o0,if_true];exact q [] ⟨λx hx=>(nomatch hx),λv h=>by unfold jL at h;rw[hv]at h;cases h⟩
 | some v=>
  simp only[oP,mN,PV.d4,bG,o0,Av,if_false,ga];have gD:=wo t hj;cases e:en t 0 j with
  | word w=>
   unfold eA;simp only[Ent.pv,nw,ga,HG,HE,fJ,o0,if_true,O5 G hi];cases h:hm g i w with
   | false=>
    simp only[Av,if_false];refine q [] ⟨λx hx=>(nomatch hx),λv' _ hd=>?_⟩;rw[e]at hd;have hd:am v'∈(if hm g i w=true then [am 0] else []):=hd;rw[if_neg (by rw[h];simp)]at hd;cases hd
   | true=>
    simp only[if_true];have ef:bO (.tup (a7 ps)) (.tup (rP (aV g ps (t.nd 0) t.size))) (.str w) (.tup [.str "found",.tup []])=.ret (.int 0):=by
     unfold bO;have i0:dC [PV.str "found",PV.tup []] 0=am (.str "found"):=rfl;have i1:dC [PV.str "found",PV.tup []] 1=am (.tup []):=rfl;have hv:cx (.str w)=.ret (.tup []):=iG (.word w);have ez:fU [] []=.ret []:=tz (by simp);have ec:nZ [PV.int 0] []=.ret ([am (0:Int)].map oP):=by rw[gG (by simp)];rfl
     simp only[nw,hv,ax,bQ,i0,i1,GE,ez,aZ,tj,jz,ec,kg];rfl
    simp only[o0,mD,nw,ef,jZ,bG,ga];by_cases c:v=0
    ·subst c;refine q _ ⟨λx hx=>?_,λ_ _ _ z=>by simp at z⟩;unfold DdP;rw[e];simp at hx;exact⟨h,hx⟩
    ·have c2:((0:Int)==v)=false:=by simp;omega
     rw[c2];refine q _ ⟨λx hx=>by simp at hx,λv' h' hd=>?_⟩;unfold jL at h';rw[hv]at h';rw[e]at hd;have hd:am v'∈(if hm g i w=true then [am 0] else []):=hd;rw[if_pos h]at hd;have:v'=0:=Option.some.inj (AR.mp hd);have:v=v':=Option.some.inj h';omega
  | pair a b=>
   rw[e]at gD;have gD:a < j/\b < j:=gD;refine y7 G hi λm hm=>?_;obtain⟨ds,rfl,hp⟩:∃ds:O Dd,m=ds.map d2/\ds.Perm (dl g i):=vc hm rfl;refine su (λd=>decide (mP ps (jL g ps t) a b d=am v)) (λd hd=>?_) ?_
   ·have â:=hp.mem_iff.mp hd;obtain⟨x1,x2⟩:=y6 G hi â;have hc:bO (.tup (a7 ps)) (.tup (rP (aV g ps (t.nd 0) t.size))) (Ent.pair a b).pv (d2 d)=.ret (oP (mP ps (jL g ps t) a b d)):=y8 p4 Wd (show a < t.size by omega) (show b < t.size by omega) (VQ â) x1 x2;simp only[nw,hc,Vw,bG];cases decide (mP ps (jL g ps t) a b d=am v) <;> rfl
   ·refine q _ ⟨λx hx=>?_,λv' h' hd z=>?_⟩
    ·obtain⟨d,hd,rfl⟩:=Au.mp hx;obtain⟨d1,d3⟩:=AO.mp hd;unfold DdP;rw[e];obtain⟨x,y,hx,hy,_⟩:=Oa (of_decide_eq_true d3);exact⟨d,hp.mem_iff.mp d1,rfl,⟨x,hx⟩,⟨y,hy⟩⟩
    ·unfold jL at h';rw[hv]at h';rw[e]at hd;obtain⟨d,hdm,hc⟩:=Au.mp hd;have:v=v':=Option.some.inj h';subst this;have:d∈ds.filter λd=>decide (mP ps (jL g ps t) a b d=am v):=AO.mpr ⟨hp.mem_iff.mpr hdm,decide_eq_true hc⟩;rw[F2.mp z]at this;cases this
structure SOk(g:List Sy)(ps:List Int)(t:Tr)(j i:Nat)(S:List Nat):Prop where
 ok:∀u∈S,u∈(sy g i).un/\∃v,jL g ps t j u=am v
 ne:∀v,jL g ps t j i=am v->am v∈stC g ps (jL g ps t j) i->S≠[]
def Qd(l:O Nat):∃m:O Nat,m.Perm l/\(sortI (l.map λn=>((n:Nat):Int)))=m.map λn=>((n:Nat):Int):=by
 obtain⟨m,hm,hp⟩:=vc (f:=λn:Nat=>(n:Int)) (CK (l.map λn=>((n:Nat):Int)) (λa b=>decide (a<=b))) rfl;exact⟨m,hp,hm⟩
theorem Ml(G:WG g ws)(p4:ps.length=4)(hj:j < t.size)(hi:i < g.length)(q:∀S,SOk g ps t j i S->Q (aH S)):(dU (ou g) (.tup (a7 ps)) (.tup (((aV g ps (t.nd 0) t.size).getD j []).map oP)) (.int (i:Int))).run Q:=by
 have Wd:=dD g ps (t.nd 0) t.size;have hr:=Wd.row j hj;have ix:∀u,u < g.length->G8 (((aV g ps (t.nd 0) t.size).getD j []).map oP) (.int (u:Int))=.ret (oP (jL g ps t j u)):=λu hu=>cR (by
  rw[Ai,Ad ∅];unfold jL rg;rw[Ae (l:=(aV g ps (t.nd 0) t.size).getD j []),Ad ∅];rfl)
 unfold dU;simp only[nw,ga,ax,ix i hi,o0];cases hv:jL g ps t j i with
 | none=>
  simp only[oP,mN,PV.d4,bG,o0,if_true];exact q [] ⟨λx hx=>(nomatch hx),λv h=>by rw[hv]at h;cases h⟩
 | some v=>
  have oS:=G.oS i hi;obtain⟨m,hp,hs⟩:=Qd (sy g i).un;have es:ml (aH (sy g i).un)=.ret (aH m):=by
   unfold ml;rw[m6,eE];show W.e6 _ _=_;rw[tz (by rw[Ah];omega),hs,<- m6]
  simp only[oP,mN,PV.d4,bG,o0,Av,if_false,ga,TX p4 hi,j9 hi,Rj,es,nw];refine su (c:=λn:Nat=>PV.int (n:Int)) (λu=>decide (gN [am (dE g ps i),jL g ps t j u]=am v)) (λu hu=>?_) ?_
  ·have Þ:=G.dn i hi u (hp.mem_iff.mp hu);have e:[PV.int (dE g ps i),oP (jL g ps t j u)]=[am (dE g ps i),jL g ps t j u].map oP:=rfl;have fz:∀l:O PV,qE (bn l)=.ret (.cl l):=λ_=>rfl;simp only[ix u ∅,nw,e,fz,kg,ix i hi,hv];show ap (ap (of2 iP (oP _) (.int v)) asB) _=_;rw[Vw];simp only[nw,bG];cases decide (gN [am (dE g ps i),jL g ps t j u]=am v) <;> rfl
  ·refine q _ ⟨λu hu=>?_,λv' h' hd z=>?_⟩
   ·obtain⟨d1,d3⟩:=AO.mp hu;obtain⟨x,hx,_⟩:=zJ (of_decide_eq_true d3);exact⟨hp.mem_iff.mp d1,x,hx⟩
   ·rw[hv]at h';obtain⟨u,hu,hc⟩:=Au.mp hd;have:v=v':=Option.some.inj h';subst this;have:u∈m.filter λu=>decide (gN [am (dE g ps i),jL g ps t j u]=am v):=AO.mpr ⟨hp.mem_iff.mpr hu,decide_eq_true hc⟩;rw[z]at this;cases this
end
end My
variable{dd ss:O PL.PV}
namespace My
theorem GB{P:Nat->PV->Prop}:∀{l:O Nat}{Q:O PV->Prop},(∀i∈l,∀R:PV->Prop,(∀x,P i x->R x)->(f (.int (i:Int))).run R)->(∀xs:O PV,xs.length=l.length->(∀(m i:Nat),l[m]?=am i->∃x,xs[m]?=am x/\P i x)->Q xs)->(aZ (aH l) f).run Q
 | [],Q,_,q=>q [] rfl λm i h=>by simp at h
 | k::l,Q,h,q=>by
  show(ap (f (.int (k:Int))) λy=>ap (aZ (aH l) f) λm=>bn (y::m)).run Q;rw[ga];refine h k (.head _) _ λx hx=>?_;rw[ga];refine GB (λi hi=>h i (.tail _ hi)) λxs hl ŗ=>?_;refine q (x::xs) (by simp[hl]) λm i hm=>?_;cases m with
  | zero=>
   have:k=i:=by simpa using hm
   subst this;exact⟨x,rfl,hx⟩
  | succ m=>exact ŗ m i (by simpa using hm)
def unC:PV->O PV
 | .cl l=>l
 | _=>[]
section
structure LW(g:List Sy)(ps:List Int)(t:Tr)(k:Nat)(dd ss:List PV):Prop where
 l1:dd.length=k
 l2:ss.length=k
 at':∀j,j < k->∃r r':List PV,dd[j]?=am (.cl r)/\ss[j]?=am (.cl r')/\∀i,i < g.length->∃D S,r[i]?=am (.cl D)/\r'[i]?=am (.cl (aH S))/\DOk g ps t j i D/\SOk g ps t j i S
theorem LW.snoc(h:LW g ps t k dd ss){r r':O PV}(hr:∀i,i < g.length->∃D S,r[i]?=am (.cl D)/\r'[i]?=am (.cl (aH S))/\DOk g ps t k i D/\SOk g ps t k i S):LW g ps t (k+1) (dd++[.cl r]) (ss++[.cl r']):=by
 refine⟨by simp[h.l1],by simp[h.l2],λj hj=>?_⟩;by_cases c:j < k
 ·obtain⟨a,a',h1,h2,h3⟩:=h.at' j c;exact⟨a,a',by rw[Ax (by rw[h.l1];exact c)];exact h1,by rw[Ax (by rw[h.l2];exact c)];exact h2,h3⟩
 ·have:j=k:=by omega
  subst this;refine⟨r,r',?_,?_,hr⟩
  ·rw[Az (by rw[h.l1];exact Ak _),h.l1,Cy];rfl
  ·rw[Az (by rw[h.l2];exact Ak _),h.l2,Cy];rfl
def LN:O Str:=["told","deeds","steps","begins"]
theorem adh(G:WG g ws)(hw:∀w∈t.aB,w∈ws)(p0:∀p∈ps,0<=p)(hc:jb (gm g ps t)=am c):∃i,i < g.length/\jL g ps t (t.size-1) i=am c/\am c∈Pn g ps (jL g ps t) (en t 0 (t.size-1)) i:=by
 have tp:=t.size_pos;obtain⟨i0,Ť,h0⟩:=qx.mp (iQ hc);have key:∀n i,i < n->i < g.length->jL g ps t (t.size-1) i=am c->∃i,i < g.length/\jL g ps t (t.size-1) i=am c/\am c∈Pn g ps (jL g ps t) (en t 0 (t.size-1)) i:=by
  intro n
  induction n with
  | zero=>intro i h;omega
  | succ n ih=>
   intro i w6 hi h;have h':=h;unfold jL at h';rw[rJ G ps ∅ hi]at h';rcases AQ.mp (iQ h') with hm | hm
   ·exact⟨i,hi,h,hm⟩
   ·obtain⟨u,hu,e⟩:=Au.mp hm;obtain⟨x,hx,ex⟩:=zJ e;have hui:=G.dn i hi u hu;have own:0<=dE g ps i:=by
     unfold dE
     split
     ·rw[Ae];cases e3:ps[3]? with
      | none=>exact CC _
      | some v=>exact p0 v (AM e3)
     ·exact CC _
    obtain⟨m,Ly,lm⟩:=gR (qx.mpr ⟨u,by omega,hx⟩:am x∈gm g ps t);rw[hc]at Ly;have:c=m:=Option.some.inj Ly;subst this;have:x=c:=by omega
    subst this;exact ih u ∅ ∅ hx
 exact key (i0+1) i0 ∅ Ť h0
theorem xE(G:WG g ws)(p4:ps.length=4)(p0:∀p∈ps,0<=p)(hz:t.size<=400)(hw:∀w∈t.aB,w∈ws)
  (q:∀dd ss B,LW g ps t t.size dd ss->(∃i r,B=i::r/\i < g.length/\∃v,jL g ps t (t.size-1) i=am v)->Q [.tup ((t.nd 0).map Ent.pv),.cl dd,.cl ss,.cl (aH B)]):(gk (ou g) t.pv (.tup (a7 ps))).run Q:=by
 have tp:=t.size_pos;have Wd:=dD g ps (t.nd 0) t.size;have gl:=G.len;unfold gk;simp only[nw,ga];refine W.le.use (ka G p4 hz) ?_;have e1:rH fx [ou g]=.ret (.int (g.length:Int)):=by unfold ou;rw[hZ,Ah]
 have e2:abe (.int 0) (.int (g.length:Int))=.ret (aH (AD g.length)):=by
  show W.e6 _ _=_;rw[tz ⟨⟨by omega,by omega,by omega,by omega⟩,by have:=bx (n:=g.length) ∅;omega⟩];simp[ny]
 simp only[e1,o0,e2];refine W.le.use (mr t ∅) ?_;simp only[ax,bD,o0,nw];refine⟨bx (by rw[bR];omega),?_⟩;rw[o0];refine eU (λk s=>LW g ps t k s.1 s.2) ⟨rfl,rfl,λj h=>absurd h (Ft _)⟩ (λk x s hx hI=>?_) (λs hI=>?_)
 ·have hk:k < t.size:=by have:=(Am.mp hx).1;rw[bT,bR]at this;exact this
  obtain⟨y,hy,rfl⟩:=ft hx;rw[Ai,gI t 0 k hk]at hy;have hy:(en t 0 k).pv=y:=Option.some.inj hy;subst hy;rw[AL];simp only[fq,o0,ga,nw];have ixr:G8 (rP (aV g ps (t.nd 0) t.size)) (.int (k:Int))=.ret (.tup (((aV g ps (t.nd 0) t.size).getD k []).map oP)):=cR (by
   unfold rP;rw[Ai,Ad (by rw[Wd.len];exact hk),Ae,Ad (by rw[Wd.len];exact hk)];rfl)
  show(ap (aZ _ _) _).run _;rw[ga];refine GB (P:=λi x=>∃D,x=.cl D/\DOk g ps t k i D) (λi hi R r=>?_) λxs hl ŗ=>?_
  ·show(ap (dW _ _ _ _ _ _) _).run _;rw[ga];exact Mq G p4 hk (AU.mp hi) λD hD=>r _ ⟨D,rfl,hD⟩
  have l1:=hI.l1;have l2:=hI.l2;rw[cH ∅,o0];refine GB (P:=λi x=>∃S,x=.cl (aH S)/\SOk g ps t k i S) (λi hi R r=>?_) λys hl' hys=>?_
  ·simp only[ixr,nw];show(ap (dU _ _ _ _) _).run _;rw[ga];exact Ml G p4 hk (AU.mp hi) λS hS=>r _ ⟨S,rfl,hS⟩
  rw[cH ∅,o0];refine hI.snoc λi hi=>?_;obtain⟨x,h1,D,rfl,hD⟩:=ŗ i i (BR hi);obtain⟨y,h2,S,rfl,hS⟩:=hys i i (BR hi);exact⟨D,S,h1,h2,hD,hS⟩
 ·rw[bT,bR]at hI;obtain⟨c,hc⟩:=o6 (ps:=ps) G hw;obtain⟨r,r',h1,h2,h3⟩:=hI.at' (t.size-1) ∅;have afs:∀{l:O PV}{x:PV},l.length=t.size->l[t.size-1]?=am x->G8 l (.int (-1))=.ret x:=λ{l x} hl hx=>by
   rw[bQ];unfold dC tB;rw[hl,if_neg ∅,if_pos ∅];show W.OE (l[(-1+(t.size:Int)).toNat]?)=_;rw[show(-1+(t.size:Int)).toNat=t.size-1 by omega,hx];rfl
  have ŝ:(rP (aV g ps (t.nd 0) t.size)).length=t.size:=by unfold rP;rw[Ah,Wd.len]
  have hrx:(rP (aV g ps (t.nd 0) t.size))[t.size-1]?=am (.tup ((gm g ps t).map oP)):=by
   unfold rP gm;rw[Ai,Ad (by rw[Wd.len];omega),Ae,Ad (by rw[Wd.len];omega)];rfl
  have lx:∀i,i < g.length->G8 ((gm g ps t).map oP) (.int (i:Int))=.ret (oP (jL g ps t (t.size-1) i)):=λi hi=>cR (by
   have:=nr (g:=g) (ps:=ps) (t:=t);rw[Ai,Ad ∅];unfold jL;rw[<- vJ,Ae,Ad ∅];rfl)
  simp only[pj,o0,afs ŝ hrx,afs hI.l1 h1,qS,hc,nw,ax,bD];refine su (c:=λn:Nat=>PV.int (n:Int)) (l:=AD g.length) (λi=>decide (jL g ps t (t.size-1) i=am c)&&!(unC (r.getD i .aJ)).isEmpty) (λi hi=>?_) ?_
  ·have hi:=AU.mp hi;obtain⟨D,S,g1,g2,_,_⟩:=h3 i hi;have gd:r.getD i .aJ=.cl D:=by rw[Ae,g1];rfl
   have e5:of2 iP (oP (jL g ps t (t.size-1) i)) (oP (am c))=.ret (.bl (decide (jL g ps t (t.size-1) i=am c))):=Vw _ c;simp only[lx i hi,nw,e5,bG,cR g1,Pe,gd,unC];cases decide (jL g ps t (t.size-1) i=am c) <;> cases D.isEmpty <;> rfl
  ·refine q _ _ _ hI ?_;obtain⟨i,hi,hv,hd⟩:=adh G hw p0 hc;obtain⟨D,S,g1,g2,hD,_⟩:=h3 i hi;have gd:r.getD i .aJ=.cl D:=by rw[Ae,g1];rfl
   have mem:i∈(AD g.length).filter λi=>decide (jL g ps t (t.size-1) i=am c)&&!(unC (r.getD i .aJ)).isEmpty:=by
    refine AO.mpr ⟨AU.mpr hi,?_⟩;rw[gd,decide_eq_true hv];have:=hD.ne c hv hd;cases D with
    | nil=>exact absurd rfl this
    | cons a l=>rfl
   cases hB:(AD g.length).filter λi=>decide (jL g ps t (t.size-1) i=am c)&&!(unC (r.getD i .aJ)).isEmpty with
   | nil=>rw[hB]at mem;cases mem
   | cons k B=>
    have hk:k∈(AD g.length).filter λi=>decide (jL g ps t (t.size-1) i=am c)&&!(unC (r.getD i .aJ)).isEmpty:=by rw[hB];exact .head _
    obtain⟨k1,k2⟩:=AO.mp hk;rw[AI]at k2;exact⟨k,B,rfl,AU.mp k1,c,of_decide_eq_true k2.1⟩
end
end My
variable{l:O PL.PV}
namespace My
section
theorem YC:G8 (l++[x]) (.int (-1))=.ret x:=by
 rw[bQ];unfold dC tB;have hl:(l++[x]).length=l.length+1:=by simp
 rw[hl,if_neg ∅,if_pos ∅];show W.OE ((l++[x])[(-1+((l.length+1:Nat):Int)).toNat]?)=_;rw[show(-1+((l.length+1:Nat):Int)).toNat=l.length by omega,Az (Ak _),Cy];rfl
abbrev T4(t:Tr)(dd ss:O PV)(B:O Nat):PV:=Gw LN [.tup ((t.nd 0).map Ent.pv),.cl dd,.cl ss,.cl (aH B)]
def agx(dd ss:O PV)(B:O Nat):lZ "told" (T4 t dd ss B)=.ret (.tup ((t.nd 0).map Ent.pv)):=by
 unfold T4 Gw LN lZ;simp[FL.fdOf,qG]
def agz(dd ss:O PV)(B:O Nat):lZ "deeds" (T4 t dd ss B)=.ret (.cl dd):=by
 have n1:(("deeds":Str)=="told")=false:=by decide +kernel
 unfold T4 Gw LN lZ;simp[FL.fdOf,qG,n1]
def agy(dd ss:O PV)(B:O Nat):lZ "steps" (T4 t dd ss B)=.ret (.cl ss):=by
 have n1:(("steps":Str)=="told")=false:=by decide +kernel
 have n2:(("steps":Str)=="deeds")=false:=by decide +kernel
 unfold T4 Gw LN lZ;simp[FL.fdOf,qG,n1,n2]
def agA(dd ss:O PV)(B:O Nat):lZ "begins" (T4 t dd ss B)=.ret (.cl (aH B)):=by
 have n1:(("begins":Str)=="told")=false:=by decide +kernel
 have n2:(("begins":Str)=="deeds")=false:=by decide +kernel
 have n3:(("begins":Str)=="steps")=false:=by decide +kernel
 unfold T4 Gw LN lZ;simp[FL.fdOf,qG,n1,n2,n3]
def VS{l:Nat}(h:DdP g ps t j l x):∃nm ins,x=.tup [nm,ins]:=by
 unfold DdP at h;cases e:en t 0 j with
 | word w=>rw[e]at h;exact⟨_,_,h.2⟩
 | pair a b=>rw[e]at h;obtain⟨d,_,rfl,_⟩:=h;exact⟨_,_,rfl⟩
theorem Qs(G:WG g ws){B:O Nat}(h:LW g ps t t.size dd ss)(hj:j < t.size)(hi:i < g.length)(hv:∃v,jL g ps t j i=am v){R:PV->Prop}
  (r:∀p l nm ins,Ch g (p++[l])->(∃q,p++[l]=i::q)->DdP g ps t j l (.tup [nm,ins])->R (.tup [.tup (aH (p++[l])),nm,ins])):(gV (T4 t dd ss B) (.int (j:Int)) (.int (i:Int))).run R:=by
 obtain⟨rr,rr',h1,h2,h3⟩:=h.at' j hj;have gl:=G.len;have k0:∀(x:PV) (l:O PV),dC (x::l) 0=am x:=λ_ _=>cg (j:=0) rfl;have k1:∀(x y:PV) (l:O PV),dC (x::y::l) 1=am y:=λ_ _ _=>cg (j:=1) rfl;unfold gV;simp only[nw,ga];refine oO (λn s=>∃p l,n=l/\s=aH (p++[l])/\Ch g (p++[l])/\(∃q,p++[l]=i::q)/\∃v,jL g ps t j l=am v) (n:=i) ⟨[],i,rfl,rfl,hi,⟨[],rfl⟩,hv⟩ ?_;rintro n s ⟨p,l,rfl,rfl,ch,hq,v,hv⟩;have hl:n < g.length:=ch.last;obtain⟨D,S,g1,g2,hD,hS⟩:=h3 n hl;have į:aH (p++[n])=aH p++[.int (n:Int)]:=by rw[vo];rfl
 simp only[į,agz,agy,nw,bD,pj,cR h1,cR h2,YC,cR g1,cR g2,Pe,ga,o0];cases D with
 | nil=>
  simp only[List.isEmpty_nil,C3,Dc,if_true];have UW:=hv;unfold jL at UW;rw[rJ G ps hj hl]at UW;cases S with
  | nil=>
   rcases AQ.mp (iQ UW) with hm | hm
   ·exact absurd rfl (hD.ne v hv hm)
   ·exact absurd rfl (hS.ne v hv hm)
  | cons u S'=>
   obtain⟨u1,u2⟩:=hS.ok u (.head _);have hu:=G.dn n hl u u1;obtain⟨q,hq⟩:=hq;have len:p.length+1<=300:=by
    have c2:=ch;rw[hq]at c2;have:=Ch.len G c2;have e:=congrArg Ca hq;simp at e;omega
   simp only[kr,bQ,k0,GE,nw,ga,o0];rw[cH (by simp;omega),o0];refine⟨u,hu,p++[n],u,rfl,by rw[vo,į];rfl,Ch.snoc u1 ∅ ch,⟨q++[u],by rw[hq];rfl⟩,u2⟩
 | cons x D'=>
  simp only[List.isEmpty_cons,Dc,C3,Av,if_false];have hx:=hD.ok x (.head _);obtain⟨nm,ins,rfl⟩:=VS hx;simp only[bQ,k0,k1,GE,nw,bD,ax,o0,gF];rw[<- į];exact r p n nm ins ch hq hx
end
end My
variable{Q:PL.PV->Prop}
namespace My
section
theorem SS{v:PV}(h:l.length=n+1):fY l (.int (-1)) v=.ret (l.set n v):=by
 have e:tB (n+1) (-1)=am n:=by
  unfold tB;rw[if_neg ∅,if_pos ∅];congr 1;omega
 unfold fY;rw[h];simp only[e]
def Rec(g:O Sy)(t:Tr)(H:Nat->Nat)(Ã:O PV)(m:Nat):Prop:=∃p l,Ch g (p++[l])/\(∃q,p++[l]=H m::q)/\match en t 0 m with
 | .word w=>hm g l w=true/\Ã[m]?=am (.tup [.tup (aH (p++[l])),.str "found"])
 | .pair a b=>∃nm,(nm,H a,H b)∈dds g l/\Ã[m]?=am (.tup [.tup (aH (p++[l])),.str nm])
structure LI(g:List Sy)(ps:List Int)(t:Tr)(i:Nat)(H:Nat->Nat)(È Ã:List PV):Prop where
 l1:È.length=t.size
 l2:Ã.length=t.size
 hd:∀m,m < t.size->(m=t.size-1\/∃a,t.size-i<=a/\a < t.size/\kH t 0 m .aJ=.int ((a:Nat):Int))->È[m]?=am (.int ((H m:Nat):Int))/\H m < g.length/\∃v,jL g ps t m (H m)=am v
 rc:∀m,t.size-i<=m->m < t.size->Rec g t H Ã m
def Rec.mono{H H':Nat->Nat}{Ã TU:O PV}(r:Rec g t H Ã m)(h0:H' m=H m)(h1:∀a b,en t 0 m=.pair a b->H' a=H a/\H' b=H b)(h2:TU[m]?=Ã[m]?):Rec g t H' TU m:=by
 obtain⟨p,l,c,⟨q,hq⟩,r⟩:=r;refine⟨p,l,c,⟨q,by rw[h0];exact hq⟩,?_⟩;cases e:en t 0 m with
 | word w=>
  rw[e]at r;exact⟨r.1,by rw[h2];exact r.2⟩
 | pair a b=>
  rw[e]at r;obtain⟨nm,r1,r2⟩:=r;obtain⟨ea,eb⟩:=h1 a b e;exact⟨nm,by rw[ea,eb];exact r1,by rw[h2];exact r2⟩
theorem Yl(G:WG g ws)(hz:t.size<=400){Ė:PV->PV->W PV}{i0:Nat}(Ť:i0 < g.length)(hv0:∃v,jL g ps t (t.size-1) i0=am v)
  (hp:∀j i,j < t.size->i < g.length->(∃v,jL g ps t j i=am v)->∀R:PV->Prop,(∀p l nm ins,Ch g (p++[l])->(∃q,p++[l]=i::q)->DdP g ps t j l (.tup [nm,ins])->R (.tup [.tup (aH (p++[l])),nm,ins]))->(Ė (.int (j:Int)) (.int (i:Int))).run R) (q:∀u:WT,WP g t (t.size-1) u->Ch g u.path->Q u.pv):(yE Ė (.tup ((t.nd 0).map Ent.pv)) (.int (i0:Int))).run Q:=by
 have tp:=t.size_pos;have k0:∀(x:PV) (l:O PV),dC (x::l) 0=am x:=λ_ _=>cg (j:=0) rfl;have k1:∀(x y:PV) (l:O PV),dC (x::y::l) 1=am y:=λ_ _ _=>cg (j:=1) rfl;have k2:∀(x y z:PV) (l:O PV),dC (x::y::z::l) 2=am z:=λ_ _ _ _=>cg (j:=2) rfl;have en0:aZ ((t.nd 0).map Ent.pv) (λ_=>bn PV.aJ)=.ret (An t.size .aJ):=by
  rw[GD (g:=λ_=>PV.aJ) λ_ _=>rfl,AG];show bn (Dn (λ_=>PV.aJ) (t.nd 0))=_;rw[Fv,t.bp]
 unfold yE;simp only[nw,ga,ax,en0,o0,pj];rw[SS (n:=t.size-1) (by simp;omega)];have er:(((t.size:Nat):Int)-1 - -1).toNat=t.size:=by omega
 simp only[o0,hZ,bR,v8,Pf,er];refine⟨⟨trivial,cO ∅ ∅⟩,?_⟩;show(bS _ _ _).run _;refine eU (λi s=>∃H,LI g ps t i H s.1 s.2) ⟨λ_=>i0,?_⟩ (λi x s hx hI=>?_) (λs hI=>?_)
 ·refine⟨by simp,by simp,λm hm h=>?_,λm h1 h2=>by omega⟩;rcases h with rfl | ⟨a,h1,h2,_⟩
  ·refine⟨?_,Ť,hv0⟩;rw[Bw (by simp;omega)]
  ·omega
 ·obtain⟨È,Ã⟩:=s;obtain⟨H,hI⟩:=hI;obtain⟨hi,rfl⟩:=sL hx;obtain⟨m,hm⟩:∃m:Nat,m=t.size-1-i:=⟨_,rfl⟩;have em:(((t.size:Nat):Int)-1-(i:Int))=(m:Int):=by omega
  rw[em];have ĥ:m < t.size:=by omega
  have l1:È.length=t.size:=hI.l1;have l2:Ã.length=t.size:=hI.l2;have ajW:m=t.size-1\/∃a,t.size-i<=a/\a < t.size/\kH t 0 m .aJ=.int ((a:Nat):Int):=by
   rcases fy t 0 m .aJ ĥ with⟨h,_⟩ | ⟨a,u,v,h1,h2,h3,_⟩
   ·exact .inl h
   ·exact .inr ⟨a,by omega,h2,by rw[h3,AL]⟩
  obtain⟨hh,hHm,hv⟩:=hI.hd m ĥ ajW;have ndm:G8 ((t.nd 0).map Ent.pv) (.int (m:Int))=.ret (en t 0 m).pv:=cR (by rw[Ai,gI t 0 m ĥ];rfl);simp only[nw,ga,cR hh,o0];refine hp m (H m) ĥ hHm hv _ λp l nm ins ch hq hd=>?_;simp only[ax,bQ,k0,k1,k2,GE,nw,ga,o0,je (show m < Ã.length by omega)];have aft:=ndm;rw[bQ]at aft;simp only[aft,nw,iG,ax,o0,ga];unfold DdP at hd;have ZP:∀(H':Nat->Nat),(∀x,m<=x->H' x=H x)->(∀m' a b,m < m'->m' < t.size->en t 0 m'=.pair a b->H' a=H a/\H' b=H b)->Rec g t H' (Ã.set m (.tup [.tup (aH (p++[l])),nm])) m->∀m',t.size-(i+1)<=m'->m' < t.size->Rec g t H' (Ã.set m (.tup [.tup (aH (p++[l])),nm])) m':=λH' e1 e2 rm m' h1 h2=>by
   by_cases c:m'=m
   ·subst c;exact rm
   ·exact(hI.rc m' ∅ h2).mono (e1 m' ∅) (λa b e=>e2 m' a b ∅ h2 e) (by rw[Bq ∅])
  have ps':(Ã.set m (.tup [.tup (aH (p++[l])),nm]))[m]?=am (.tup [.tup (aH (p++[l])),nm]):=Bw ∅;cases e:en t 0 m with
  | word w=>
   rw[e]at hd;obtain⟨YM,hx⟩:=hd;injection hx with hx;injection hx with e1 hx;injection hx with e2 _;subst e1 e2;have ez:fU (aH (IM (.word w))) []=.ret []:=tz (by simp[IM]);simp only[ax,o0,ez];show ∃H,LI g ps t (i+1) H È _;refine⟨H,l1,by simp[l2],λm' h1 h2=>?_,ZP H (λ_ _=>rfl) (λ_ _ _ _ _ _=>⟨rfl,rfl⟩) ⟨p,l,ch,hq,by rw[e];exact⟨YM,ps'⟩⟩⟩;refine hI.hd m' h1 ?_;rcases h2 with h2 | ⟨a,h3,h4,h5⟩
   ·exact .inl h2
   ·refine .inr ⟨a,?_,h4,h5⟩;rcases CU a (t.size-i) with c | c
    ·exfalso;have:a=m:=by omega
     subst this;rcases fy t 0 m' .aJ h1 with⟨_,h6⟩ | ⟨a',u,v,_,h7,h6,h8,_⟩
     ·rw[h6]at h5;cases h5
     ·rw[h6,AL]at h5;injection h5 with h5;have:a'=a:=by omega
      subst this;rw[e]at h8;cases h8
    ·exact c
  | pair a b=>
   rw[e]at hd;obtain⟨d,â,hx,hva,hvb⟩:=hd;injection hx with hx;injection hx with e1 hx;injection hx with e2 _;subst e1 e2;obtain⟨_,_,ha,hb,w9,pa,pb⟩:=pq t 0 m .aJ a b ĥ e;rw[AL]at ha hb;rw[Ej,AL]at pa pb;obtain⟨x1,x2⟩:=y6 G ch.last â;have ez:fU (aH (IM (.pair a b))) [PV.int (d.2.1:Int),.int (d.2.2:Int)]=.ret [.tup [.int (a:Int),.int (d.2.1:Int)],.tup [.int (b:Int),.int (d.2.2:Int)]]:=tz (by simp[IM];exact bx ∅);simp only[ax,o0,ez,bS,fq,nw,je (show a < È.length by omega),je (show b < (È.set a (.int (d.2.1:Int))).length by simp;omega)];show ∃H,LI g ps t (i+1) H _ _;refine⟨λk=>if k=a then d.2.1 else if k=b then d.2.2 else H k,by simp[l1],by simp[l2],λm' h1 h2=>?_,ZP _ (λx hx=>by rw[if_neg ∅,if_neg ∅]) (λm' a' b' h1 h2 e'=>?_) ⟨p,l,ch,?_,?_⟩⟩
   ·by_cases ca:m'=a
    ·subst ca;rw[if_pos rfl];refine⟨?_,x1,hva⟩;rw[Bq ∅,Bw ∅]
    ·by_cases cb:m'=b
     ·subst cb;rw[if_neg ca,if_pos rfl];refine⟨?_,x2,hvb⟩;rw[Bw (by simp;omega)]
     ·rw[if_neg ca,if_neg cb,Bq (λz=>cb z.symm),Bq (λz=>ca z.symm)];refine hI.hd m' h1 ?_;rcases h2 with h2 | ⟨a',h3,h4,h5⟩
      ·exact .inl h2
      ·refine .inr ⟨a',?_,h4,h5⟩;rcases CU a' (t.size-i) with c | c
       ·exfalso;have:a'=m:=by omega
        subst this;rcases fy t 0 m' .aJ h1 with⟨_,h6⟩ | ⟨a'',u,v,_,h7,h6,h8,h9⟩
        ·rw[h6]at h5;cases h5
        ·rw[h6,AL]at h5;injection h5 with h5;have:a''=a':=by omega
         subst this;rw[e]at h8;injection h8 with h10 h11;omega
       ·exact c
   ·obtain⟨_,_,_,_,_,qa,qb⟩:=pq t 0 m' .aJ a' b' h2 e';rw[Ej,AL]at qa qb;have ne:∀x y,kH t 0 x .aJ=.int ((m:Nat):Int)->kH t 0 y .aJ=.int ((m':Nat):Int)->y≠x:=λx y h3 h4 z=>by
     subst z;rw[h3]at h4;injection h4 with h4;omega
    rw[if_neg (ne a a' pa qa),if_neg (ne b a' pb qa),if_neg (ne a b' pa qb),if_neg (ne b b' pb qb)];exact⟨rfl,rfl⟩
   ·show ∃q,p++[l]=(if m=a then d.2.1 else if m=b then d.2.2 else H m)::q;rw[if_neg ∅,if_neg ∅];exact hq
   ·rw[e];refine⟨d.1,?_,ps'⟩;show(d.1,(if a=a then d.2.1 else _),(if b=a then _ else if b=b then d.2.2 else _))∈dds g l;rw[if_pos rfl,if_neg ∅,if_pos rfl];exact(uM g l).mem_iff.mp â
 ·obtain⟨È,Ã⟩:=s;obtain⟨H,hI⟩:=hI;have el:(ox (((t.size:Nat):Int)-1) t.size).length=t.size:=by unfold ox;simp
  rw[el]at hI;have l2:Ã.length=t.size:=hI.l2;simp only[nw,ga,bD,o0];refine⟨bx (by rw[bR];omega),?_⟩;rw[o0];refine eU (λk s=>∃U:O WT,s=U.map WT.pv/\U.length=k/\∀m,m < k->∃u,U[m]?=am u/\WP g t m u/\Ch g u.path/\∃q,u.path=H m::q) ⟨[],rfl,rfl,λm h=>absurd h (Ft _)⟩ (λk x s hx hU=>?_) (λs hU=>?_)
  ·obtain⟨U,rfl,ul,hU⟩:=hU;have hk:k < t.size:=by have:=(Am.mp hx).1;rw[gL,bR,l2]at this;omega
   obtain⟨x,y,h1,h2,rfl⟩:=pB hx;rw[Ai,gI t 0 k hk]at h1;have h1:(en t 0 k).pv=x:=Option.some.inj h1;subst h1;obtain⟨p,l,ch,hq,r⟩:=hI.rc k ∅ hk;simp only[fq,nw,ga,o0,iG,ax];have fin:∀u:WT,WP g t k u->u.path=p++[l]->(eY (U.map WT.pv) u.pv).run λs=>∃U:O WT,s=U.map WT.pv/\U.length=k+1/\∀m,m < k+1->∃u,U[m]?=am u/\WP g t m u/\Ch g u.path/\∃q,u.path=H m::q:=λu hw hpu=>by
    rw[cH (by simp;omega),o0];refine⟨U++[u],by simp,by simp[ul],λm hm=>?_⟩;by_cases c:m < k
    ·rw[Ax ∅];exact hU m c
    ·have:m=k:=by omega
     subst this;rw[Az ∅,ul,Cy];exact⟨u,rfl,hw,by rw[hpu];exact ch,by rw[hpu];exact hq⟩
   cases e:en t 0 k with
   | word w=>
    rw[e]at r;obtain⟨r1,r2⟩:=r;rw[r2]at h2;have h2:=Option.some.inj h2;subst h2;have et:aZ (aH (IM (.word w))) (λă=>G8 (U.map WT.pv) ă)=.ret []:=rfl;simp only[et,o0,gF,HH];refine⟨bx (by simp),?_⟩;rw[o0];exact fin (.lf p l) ⟨w,e,r1⟩ rfl
   | pair a b=>
    rw[e]at r;obtain⟨nm,r1,r2⟩:=r;rw[r2]at h2;have h2:=Option.some.inj h2;subst h2;have gD:=wo t hk;rw[e]at gD;have gD:a < k/\b < k:=gD;obtain⟨ua,a1,a2,a3,a4⟩:=hU a gD.1;obtain⟨ub,b1,b2,b3,b4⟩:=hU b gD.2;have ia:G8 (U.map WT.pv) (.int (a:Int))=.ret ua.pv:=cR (by rw[Ai,a1];rfl);have ib:G8 (U.map WT.pv) (.int (b:Int))=.ret ub.pv:=cR (by rw[Ai,b1];rfl);have et:aZ (aH (IM (.pair a b))) (λă=>G8 (U.map WT.pv) ă)=.ret [ua.pv,ub.pv]:=by
     show aZ [PV.int (a:Int),.int (b:Int)] _=_;simp only[aZ,ia,ib,nw]
    simp only[et,o0,gF,HH];refine⟨bx (by simp),?_⟩;rw[o0];obtain⟨q1,p1⟩:=a4;obtain⟨q2,p2⟩:=b4;exact fin (.nd p l nm ua ub) ⟨a,b,H a,H b,q1,q2,e,r1,p1,p2,a3,b3,a2,b2⟩ rfl
  ·obtain⟨U,rfl,ul,hU⟩:=hU;rw[gL,bR,l2,Fd]at ul hU;obtain⟨u,h1,h2,h3,_⟩:=hU (t.size-1) ∅;have hx:G8 (U.map WT.pv) (.int (-1))=.ret u.pv:=by
    rw[bQ];unfold dC tB;rw[Ah,ul,if_neg ∅,if_pos ∅];show W.OE ((U.map WT.pv)[(-1+(t.size:Int)).toNat]?)=_;rw[show(-1+(t.size:Int)).toNat=t.size-1 by omega,Ai,h1];rfl
   simp only[nw,hx,o0];exact q u h2 h3
def GP(G:WG g ws)(p4:ps.length=4)(p0:∀p∈ps,0<=p)(hz:t.size<=400)(hw:∀w∈t.aB,w∈ws)(q:∀u:WT,WP g t (t.size-1) u->Ch g u.path->Q u.pv):(jt (ou g) t.pv (.tup (a7 ps))).run Q:=by
 unfold jt;simp only[nw,ga];refine xE G p4 p0 hz hw λdd ss B hL ⟨i,r,hB,hi,hv⟩=>?_;subst hB;have k0:∀(x:PV) (l:O PV),dC (x::l) 0=am x:=λ_ _=>cg (j:=0) rfl;rw[o0];show(lZ "told" (T4 t dd ss (i::r))).run λa_1=>(lZ "begins" (T4 t dd ss (i::r))).run _;simp only[agx,agA,bD,kr,bQ,k0,GE,o0];exact Yl G hz hi hv (λj k hj hk hv R r'=>Qs (B:=i::r) G hL hj hk hv r') q
end
end My
variable{U:O (O My.OI)}
namespace My
theorem IU(f:α->PV)(h:β->PV):∀(l:List α) (m:List β),nT (l.map f) (m.map h)=(l.zip m).map λp=>PV.tup [f p.1,h p.2]
 | [],m=>by rw[Cz,List.zip_nil_left];apply Bj;rw[gL];simp
 | x::l,[]=>by rw[Cz,List.zip_nil_right];apply Bj;rw[gL];simp
 | x::l,y::m=>by rw[Ar,Ar,nT,IU f h l m];rfl
def me{f:α->PV}{h:β->PV}{l:List α}{m:List β}(hl:l.length<=1000):fU (l.map f) (m.map h)=.ret ((l.zip m).map λp=>PV.tup [f p.1,h p.2]):=by
 unfold fU;rw[tz (bx (by rw[Ah];exact hl)),IU]
theorem nC{c h:α->PV}{f:PV->O PV->W (O PV)}:∀(l:List α) (s:O PV),(∀x∈l,∀s:O PV,s.length < 900->f (c x) s=.ret (s++[h x]))->s.length+l.length<=900->bS (l.map c) s f=.ret (s++l.map h)
 | [],s,_,_=>by rw[Cz,Cz,bS,B1]
 | x::l,s,hf,hl=>by
  rw[Ap]at hl;rw[Ar,bS,hf x (.head _) s ∅,nw,nC l _ (λy hy=>hf y (.tail _ hy)) (by simp;omega)];simp
theorem HA{T:Type}{c:α->PV}{f:PV->Unit->W (Lp Unit T)}:∀(l:List α),(∀x∈l,f (c x) ()=.ret (.go ()))->FL.lB (l.map c) () f=.ret (.go ())
 | [],_=>rfl
 | x::l,hf=>by
  rw[Ar,FL.lB,hf x (.head _),nw];exact HA l λy hy=>hf y (.tail _ hy)
theorem Sl(hc:0<=c/\c<=1000)(hl:T.length<=900):gY (.tup (rP T)) (.int c)=.ret (.tup (rP (T.map λr=>r.map (sc c)))):=by
 unfold gY;simp only[nw,ax];have e:bS (rP T) [] (λOo s2=>ap (ap (ap (az Oo) λl5=>aZ l5 λp6=>dZ (ap (of2 pV p6 .aJ) asB) (bn .aJ) (of2 iO (.int c) p6)) fV) λx7=>ap (eY s2 x7) λuJ=>bn uJ)=.ret ([]++T.map λr=>.tup (r.map λo=>oP (sc c o))):=by
  unfold rP;refine nC T [] (λr _ s hs=>?_) (by simpa using hl);have em:aZ (r.map oP) (λp6=>dZ (ap (of2 pV p6 .aJ) asB) (bn .aJ) (of2 iO (.int c) p6))=.ret (r.map λo=>oP (sc c o)):=eD λo _=>by
   have mo:∀v:Int,wP c v:=λv=>.of_left (Ps ∅ ∅);cases o <;> simp[oP,sc,PV.d4,tz (mo _)]
  simp only[ax,nw,em,gF,cH (show s.length < 1000 by omega)]
 rw[e,nw,gF,C0];unfold rP;rw[AG];congr 2;refine BE λr _=>?_;simp[AG]
def Leq:OI->OI->Prop
 | none,ce=>True
 | some a,am b=>a<=b
 | _,_=>False
theorem rY(W1:Wide g T n)(W2:Wide g U n)(hn:n<=900)(hg:g.length<=900)(h:∀j i,j < n->i < g.length->Leq (rg T j i) (rg U j i)):cQ (.tup (rP T)) (.tup (rP U))=.ret (.bl true):=by
 unfold cQ;simp only[nw,ax];have ez:fU (rP T) (rP U)=.ret ((T.zip U).map λp=>PV.tup [.tup (p.1.map oP),.tup (p.2.map oP)]):=me (by rw[W1.len];omega);rw[ez,nw];rw[HA (T.zip U) λp hp=>?_]
 ·rfl
 obtain⟨j,hj⟩:=B4 hp;obtain⟨h1,h2⟩:T[j]?=am p.1/\U[j]?=am p.2:=by
  rw[Bn]at hj;exact hj
 have jn:j < n:=by have:=(Am.mp h1).1;rw[W1.len]at this;exact this
 have r1:T.getD j []=p.1:=by rw[Ae,h1];rfl
 have r2:U.getD j []=p.2:=by rw[Ae,h2];rfl
 have l1:=W1.row j jn;have l2:=W2.row j jn;rw[r1]at l1;rw[r2]at l2;have Ű:fU (p.1.map oP) (p.2.map oP)=.ret ((p.1.zip p.2).map λq=>PV.tup [oP q.1,oP q.2]):=me ∅;simp only[fq,nw,ax,Ű];rw[HA (p.1.zip p.2) λq hq=>?_]
 ·rfl
 obtain⟨i,hi⟩:=B4 hq;obtain⟨h3,h4⟩:p.1[i]?=am q.1/\p.2[i]?=am q.2:=by
  rw[Bn]at hi;exact hi
 have ig:i < g.length:=by have:=(Am.mp h3).1;omega
 have hh:=h j i jn ig;unfold rg at hh;rw[r1,r2,Ae,Ae,h3,h4]at hh;obtain⟨a,b⟩:=q;have hh:Leq a b:=hh;have bb:∀x y:Bool,of2 vg (.bl x) (.bl y)=.ret (.bl (!(x==y))):=λx y=>by
  rw[Pg,tz ⟨by simp,by simp,by simp⟩];cases x <;> cases y <;> simp[jY]
 cases a with
 | none=>
  cases b with
  | none=>simp[oP,PV.d4,bb]
  | some y=>exact hh.elim
 | some x=>
  cases b with
  | none=>exact hh.elim
  | some y=>
   have hh:x<=y:=hh;have:¬y < x:=by omega
   simp[oP,PV.d4,bb,this]
def K6:OI->OI->OI
 | some a,am b=>am (a+b)
 | _,_=>ce
def LR(T U:O (O OI)):O (O OI):=(T.zip U).map λp=>(p.1.zip p.2).map λq=>K6 q.1 q.2
theorem aa3(W1:Wide g T n)(W2:Wide g U n)(hn:n<=900)(hg:g.length<=800):lg (.tup (rP T)) (.tup (rP U))=.ret (.tup (rP (LR T U))):=by
 unfold lg;simp only[nw,ax];have ez:fU (rP T) (rP U)=.ret ((T.zip U).map λp=>PV.tup [.tup (p.1.map oP),.tup (p.2.map oP)]):=me (by rw[W1.len];omega);rw[ez,nw];rw[nC (h:=λp:O OI×O OI=>.tup ((p.1.zip p.2).map λq=>oP (K6 q.1 q.2))) (T.zip U) [] (λp hp s hs=>?_) (by rw[C1,W1.len,W2.len];simp;omega)]
 ·rw[nw,gF,C0];unfold rP LR;rw[AG];congr 2;refine BE λp _=>?_;simp[AG]
 ·obtain⟨j,hj⟩:=B4 hp;obtain⟨h1,h2⟩:T[j]?=am p.1/\U[j]?=am p.2:=by
   rw[Bn]at hj;exact hj
  have jn:j < n:=by have:=(Am.mp h1).1;rw[W1.len]at this;exact this
  have r1:T.getD j []=p.1:=by rw[Ae,h1];rfl
  have l1:=W1.row j jn;rw[r1]at l1;have Ű:fU (p.1.map oP) (p.2.map oP)=.ret ((p.1.zip p.2).map λq=>PV.tup [oP q.1,oP q.2]):=me ∅;simp only[fq,nw,ax,Ű];rw[nC (h:=λq:OI×OI=>oP (K6 q.1 q.2)) (p.1.zip p.2) [] (λq hq s hs=>?_) (by rw[C1];simp;omega)]
  ·rw[nw,gF,nw,cH ∅,nw,C0]
  ·obtain⟨a,b⟩:=q;cases a with
   | none=>simp[oP,K6,PV.d4,cH (show s.length < 1000 by omega)]
   | some x=>
    cases b with
    | none=>simp[oP,K6,PV.d4,cH (show s.length < 1000 by omega)]
    | some y=>simp[oP,K6,PV.d4,cH (show s.length < 1000 by omega)]
theorem P7(W1:Wide g T n)(W2:Wide g U n):Wide g (LR T U) n/\∀j i,j < n->i < g.length->rg (LR T U) j i=K6 (rg T j i) (rg U j i):=by
 have row:∀j,j < n->(LR T U).getD j []=((T.getD j []).zip (U.getD j [])).map λq=>K6 q.1 q.2:=λj hj=>by
  unfold LR;have e1:T[j]?=am (T.getD j []):=by rw[Ae,Ad (by rw[W1.len];exact hj)];rfl
  have e2:U[j]?=am (U.getD j []):=by rw[Ae,Ad (by rw[W2.len];exact hj)];rfl
  have e3:(T.zip U)[j]?=am (T.getD j [],U.getD j []):=by rw[Bn];exact⟨e1,e2⟩
  rw[Ae (l:=Dn _ _),Ai,e3];rfl
 refine⟨⟨by unfold LR;rw[Ah,C1,W1.len,W2.len,Fd],λj hj=>by rw[row j hj,Ah,C1,W1.row j hj,W2.row j hj,Fd]⟩,λj i hj hi=>?_⟩;unfold rg;rw[row j hj];have l1:=W1.row j hj;have l2:=W2.row j hj;have e1:(T.getD j [])[i]?=am ((T.getD j []).getD i ce):=by rw[Ae (l:=T.getD j []),Ad ∅];rfl
 have e2:(U.getD j [])[i]?=am ((U.getD j []).getD i ce):=by rw[Ae (l:=U.getD j []),Ad ∅];rfl
 have e3:((T.getD j []).zip (U.getD j []))[i]?=am ((T.getD j []).getD i ce,(U.getD j []).getD i ce):=by rw[Bn];exact⟨e1,e2⟩
 rw[Ae (l:=Dn _ _),Ai,e3];rfl
def Pt(k:Int)(ps:O Int):aZ (a7 ps) (λp=>rH Ij [.int k,p])=.ret (a7 (ps.map λp=>if p < k then p else k)):=by
 unfold a7;rw[AG];exact eD λp _=>by rw[Vu];rfl
theorem Sa(hc:0<=c/\c<=1000)(ps:O Int):aZ (a7 ps) (λp=>of2 iO (.int c) p)=.ret (a7 (ps.map (c*·))):=by
 unfold a7;rw[AG];exact eD λp _=>by rw[HD,tz (.of_left (Ps ∅ ∅))];rfl
def Uo(G:WG g ws)(h:∀k,ps.getD k 0<=qs.getD k 0):∀j i,j < t.size->i < g.length->Leq (rg (aV g ps (t.nd 0) t.size) j i) (rg (aV g qs (t.nd 0) t.size) j i):=λj i hj hi=>by
 cases e:rg (aV g qs (t.nd 0) t.size) j i with
 | none=>
  cases e2:rg (aV g ps (t.nd 0) t.size) j i with
  | none=>trivial
  | some v=>
   obtain⟨v',UW⟩:=yn G ps qs j i hj hi ⟨v,e2⟩;rw[e]at UW;cases UW
 | some v=>
  obtain⟨m,hm,l⟩:=Sr G h j i hj hi v e;rw[hm];exact l
def bo(ps qs:O Int):O Int:=(ps.zip qs).map λp=>p.1+p.2
theorem ag4(h:ps.length=qs.length)(k:Nat):(bo ps qs).getD k 0=ps.getD k 0+qs.getD k 0:=by
 unfold bo;rw[Ae,Ae,Ae,Ai];by_cases c:k < ps.length
 ·have e:(ps.zip qs)[k]?=am (ps[k],qs[k]):=by rw[Bn];exact⟨Ad c,Ad ∅⟩
  rw[e,Ad c,Ad (show k < qs.length by omega)];rfl
 ·rw[A3 (by rw[C1];omega),A3 ∅,A3 ∅];rfl
def adf(ps qs:O Int):aZ ((ps.zip qs).map λp=>PV.tup [.int p.1,.int p.2]) (λp57=>ap (oS p57) λĀ=>addW Ā.1 Ā.2)=.ret (a7 (bo ps qs)):=by
 unfold a7 bo;rw[AG];exact eD λp _=>by rw[fq,nw,eV];rfl
def aao(h:∀p∈ps,0<=p)(k:Nat):0<=ps.getD k 0:=by
 rw[Ae];cases e:ps[k]? with
 | none=>exact CC _
 | some v=>exact h v (AM e)
theorem V4{k:Int}(hk:0<=k)(h:∀p∈ps,0<=p):∀p∈ps.map (λp=>if p < k then p else k),0<=p:=λp hp=>by
 obtain⟨q,hq,rfl⟩:=Au.mp hp;have:=h q hq
 split <;> omega
theorem law30_ok:∀ns:O Int,ns.length<=63->(vv (.cl (ns.map PV.int))).run (·=.bl true):=by
 intro ns hn;unfold vv;obtain⟨m,hm,m0,m1⟩:∃m:Nat,(ap ((PV.int 1)\λx3=>ap ((PV.int 3)\λx1=>ap (c1 fx (bn (PV.cl (ns.map PV.int)))) λx2=>rH Ij [x1,x2]) λx4=>rH RI [x3,x4]) lO)=.ret (gJ 0 m)/\1<=m/\m<=3:=by
  simp only[nw,jA,Ah,Vu,acT];generalize hx:(if (if (ns.length:Int) < 3 then (ns.length:Int) else 3) > 1 then (if (ns.length:Int) < 3 then (ns.length:Int) else 3) else 1)=x;have h1:1<=x/\x<=3:=by rw[<- hx];split <;> split <;> omega
  refine⟨x.toNat,?_,by omega,by omega⟩;rw[hV,tz (cO ∅ ∅)]
 rw[hm];simp only[nw,ga];refine Ve (λ_ s=>s=()) rfl (λk s hk hs=>?_) (λs hs=>rfl);refine U6 ∅ ∅ λl hl=>?_;refine⟨hl,?_⟩;simp only[nw,ga,o0,di 2 ⋯ ⋯];refine bJ λd d0 d1=>?_;obtain⟨n,hs,n0,n1⟩:∃n:Int,dC [PV.int 5,.int 8] d=am (.int n)/\0 < n/\n<=8:=by
  have:d=0\/d=1:=by omega
  rcases this with rfl | rfl
  ·exact⟨5,rfl,by decide⟩
  ·exact⟨8,rfl,by decide⟩
 simp only[bQ,hs,GE,o0];refine V3 n0 n1 ⋯ ⋯ λg ws t ps0 G hw tl p40 p00=>?_;have hz:t.size<=400:=by have:=t.size_eq;omega
 have hgl:=G.len;simp only[acR,o0,di 8 ⋯ ⋯];refine bJ λd' d0' d1'=>?_;simp only[eV,o0];refine Ju λqs0 q40 q00=>?_;obtain⟨c,hc⟩:∃c:Int,c=2+d':=⟨_,rfl⟩;rw[<- hc];have ù:0<=c/\c<=1000:=by omega
 simp only[fq,o0,ax,Pt,gF];have p4:(ps0.map λp=>if p < 100 then p else 100).length=4:=by rw[Ah];exact p40
 have p0:=V4 (k:=100) ⋯ p00;have q4:(qs0.map λp=>if p < 900 then p else 900).length=4:=by rw[Ah];exact q40
 have q0:=V4 (k:=900) ⋯ q00;generalize (ps0.map λp=>if p < 100 then p else 100)=ps at *;have w4:(ps.map (c*·)).length=4:=by rw[Ah];exact p4
 refine W.le.use (ka G p4 hz) ?_;simp only[Sa ù,o0,gF];refine W.le.use (ka G w4 hz) ?_;rw[Sl ù (by rw[fX];omega),o0,zH ù.1,aeW];simp only[o0,bG,Av,if_false,ga];refine W.le.use (least_le G w4 hz) ?_;refine W.le.use (least_le G p4 hz) ?_;obtain⟨v,hv⟩:=o6 (ps:=ps) G hw;rw[Ur ù.1,OM ù.1,hv];have e1:oP (sc c (am v))=.int (c*v):=rfl;have e2:oP (am v)=.int v:=rfl;have bq:∀x:Int,(x==x)=true:=λx=>beq_self_eq_true x;rw[e1,e2,HD,tz (.of_left (Ps ∅ ∅))];simp only[o0,Vs,bq,C3,bG,Av,if_false,ga,nw,Pt,ax,gF];generalize (qs0.map λp=>if p < 900 then p else 900)=qs at *;have b4:(bo ps qs).length=4:=by unfold bo;rw[Ah,C1];omega
 have ez:fU (a7 ps) (a7 qs)=.ret ((ps.zip qs).map λp=>PV.tup [.int p.1,.int p.2]):=me ∅;simp only[ez,o0,adf,gF];refine W.le.use (ka G q4 hz) ?_;refine W.le.use (ka G b4 hz) ?_;have W1:=dD g ps (t.nd 0) t.size;have W2:=dD g qs (t.nd 0) t.size;have W3:=dD g (bo ps qs) (t.nd 0) t.size;have gb:=ag4 (ps:=ps) (qs:=qs) ∅;have m1:=rY W1 W3 ∅ ∅ (Uo G λk=>by have:=aao q0 k;rw[gb k];omega);have m2:=rY W2 W3 ∅ ∅ (Uo G λk=>by have:=aao p0 k;rw[gb k];omega);obtain⟨W4,hs4⟩:=P7 W1 W2;have m3:=rY W4 W3 ∅ ∅ λj i hj hi=>by
  rw[hs4 j i hj hi];cases e:rg (aV g (bo ps qs) (t.nd 0) t.size) j i with
  | none=>
   cases e3:rg (aV g ps (t.nd 0) t.size) j i with
   | none=>trivial
   | some x=>
    obtain⟨x',qB⟩:=yn G ps (bo ps qs) j i hj hi ⟨x,e3⟩;rw[e]at qB;cases qB
  | some x=>
   obtain⟨a,b,ha,hb,l⟩:=Ss G gb j i hj hi x e;rw[ha,hb];exact l
 simp only[m1,m2,aa3 W1 W2 ∅ ∅,m3,o0,fJ,C3,Av,if_false,ga];refine GP G p4 p0 hz hw λu wp ch=>?_;have tp:=t.size_pos;have ok:=WP.ok t 0 (λk _=>by rw[AL]) u (by rw[AL];exact wp) ch;have us:=ok.size;have kn:=WP.kn G wp ch;have ts:=t.size_eq;refine W.le.use (Nv u ∅ kn) ?_
 match qs,q4 with
 | [a,b,c',d''],_=>
  have pl:=u.dj;have l1:cnt "split" u.post<=u.post.length:=DM;have l2:cnt "doubled" u.post<=u.post.length:=DM;have l3:cnt "over" u.post<=u.post.length:=DM;have l4:=OS (g:=g) u.post kn;have ep:(PV.tup (a7 [a,b,c',d'']))=.tup [.int a,.int b,.int c',.int d'']:=rfl;have pe:=Qo a b c' d'' (x:=(cnt "split" u.post:Int)) (y:=(cnt "doubled" u.post:Int)) (z:=(cnt "over" u.post:Int)) (w:=(o5 g u.post:Int)) ⟨by omega,by omega⟩ ⟨by omega,by omega⟩ ⟨by omega,by omega⟩ ⟨by omega,by omega⟩;rw[Ia a b c' d'' u (WP.wf G u wp ch)]at pe;unfold agY;rw[<- ep]at pe;rw[pe,o0];refine W.le.use (least_le G rfl hz) ?_;obtain⟨x,hx⟩:=o6 (ps:=[a,b,c',d'']) G hw;rw[hx];obtain⟨kk,rr,hk⟩:∃kk rr,u.path=kk::rr:=by
   cases e:u.path with
   | nil=>rw[e]at ch;exact ch.elim
   | cons kk rr=>exact⟨kk,rr,rfl⟩
  obtain⟨y,hy,ly⟩:=LP G [a,b,c',d''] u ∅ wp ch hk;have hkg:kk < g.length:=ch.lt kk (by rw[hk];exact .head _);obtain⟨z,Lw,lz⟩:=gR (qx.mpr ⟨kk,hkg,hy⟩:am y∈gm g [a,b,c',d''] t);rw[hx]at Lw;have:x=z:=Option.some.inj Lw;subst this;have gD:decide (cst g [a,b,c',d''] u < x)=false:=decide_eq_false ∅;show(of2 oLt (.int _) (.int x)).run _;simp only[Kx,gD,o0,bG,Av,if_false]
end My
variable{N6 Ji Sw N8 N7 Sv yo Sx:Gi}{nS:Bm}
namespace My
section
instance am3:bU:=⟨[(250,"least_way.<locals>.<lambda>")]⟩
def top(i:Nat):ut:=PySem.Challenge.pw_treewithin_k30_whole_prices_changed.main.body.getD i (.Pass ⟨0,0,0,0⟩)
abbrev dV(i k:Nat)(ks:O AK)(n:Nat)(m:w5 PV n):DF:=⟨dnm (top i),top i,IL (top i),k,λK=>xn K ks (kK n m)⟩
abbrev dL(i k:Nat)(ks:O AK)(n:Nat)(m:w5 (O PV) n):DF:=⟨dnm (top i),top i,IL (top i),k,λK=>Jo K ks (kK n m)⟩
abbrev dv(i k n:Nat)(m:w5 PV n):DF:=dV i k (An n .v) n m
abbrev vF:re:=lP [("node",lo)]
def oo:LS (top 4) vF:=lcs
abbrev vB:re:=lP [("house",lo)]
def oe:LS (top 13) vB:=lcs
abbrev sf:re:=lP [("far",lo),("house",fr),("lines",fr)]
def lT:LS (top 14) sf:=lcs
abbrev GI:re:=lP [("house",lo),("name_of",gi),("halves",gi),("apart_from",gi),("houses",fr),("lines",fr)]
def tw:LS (top 15) GI:=lcs
abbrev vA:re:=lP [("far",lo),("stay",fr)]
abbrev vz:re:=lP [("far",lo),("stay",fr)]
def n9:LS (top 23) vA:=lcs
def n8:LS (top 23) vz:=lcs
abbrev vD:re:=lP [("ins",lo),("SPLIT",gi)]
abbrev vC:re:=lP [("ins",lo),("OVER",gi)]
def oj:LS (top 24) vD:=lcs
def og:LS (top 24) vC:=lcs
abbrev vE:re:=lP [("cost",lo)]
def om:LS (top 29) vE:=lcs
abbrev uf:re:=lP [("half",lo),("stay",lo),("rows",fr)]
def iU:LS (top 31) uf:=lcs
abbrev se:re:=lP [("deed",lo),("deed_cost",gi),("node",fr),("prices",fr),("rows",fr)]
def lS:LS (top 32) se:=lcs
abbrev sd:re:=lP [("below",lo),("summed",gi),("own",fr),("row",fr)]
def lR:LS (top 34) sd:=lcs
abbrev qi:re:=lP [("house",lo),("date",lo),("isinstance",gi),("str",gi)]
def fj:LS (top 39) qi:=lcs
abbrev xw:re:=lP [("each",lo),("layer",fr),("numbers",fr)]
abbrev xv:re:=lP [("far",lo),("house",fr),("layer",fr),("numbers",fr)]
def qm:LS (top 41) xw:=lcs
def ql:LS (top 41) xv:=lcs
abbrev JR:re:=lP [("number",lo),("pair",lo)]
abbrev JQ:re:=lP [("pair",lo),("stay_of",gi),("begins",fr),("dates",fr),("houses",fr),("numbers",fr)]
def o7:LS (top 42) JR:=lcs
def vH:LS (top 42) JQ:=lcs
abbrev xx:re:=lP [("stay",lo),("len",gi),("under_at",gi),("ground",fr)]
def qo:LS (top 44) xx:=lcs
abbrev xB:re:=lP [("part",lo)]
abbrev xA:re:=lP [("part",lo),("lost_on",gi),("ground",fr)]
abbrev xy:re:=lP [("deed",lo),("done",fr)]
def qt:LS (top 45) xB:=lcs
def qr:LS (top 45) xA:=lcs
def qp:LS (top 45) xy:=lcs
abbrev GH:re:=lP [("price",lo),("many",lo)]
def my:LS (top 46) GH:=lcs
abbrev qk:re:=lP [("deed",lo),("deed_cost",gi),("entry",fr),("node",fr),("prices",fr),("rows",fr)]
def kB:LS (top 48) qk:=lcs
abbrev qj:re:=lP [("below",lo),("summed",gi),("own",fr),("row",fr),("stay",fr)]
def kA:LS (top 49) qj:=lcs
abbrev ui:re:=lP [("stay",lo),("least_deeds",gi),("ground",fr),("node",fr),("number",fr),("prices",fr),("rows",fr)]
abbrev uh:re:=lP [("stay",lo),("least_steps",gi),("ground",fr),("number",fr),("prices",fr),("rows",fr)]
abbrev ug:re:=lP [("stay",lo),("cost",fr),("rows",fr),("self",fr)]
def mC:LS (nQ (top 50)) ui:=lcs
def mB:LS (nQ (top 50)) uh:=lcs
def mz:LS (nQ (top 50)) ug:=lcs
abbrev QI:re:=lP [("node",lo)]
abbrev QH:re:=lP [("node",lo)]
abbrev QG:re:=lP [("half",lo),("ways",fr)]
def JY:LS (top 51) QI:=lcs
def JX:LS (top 51) QH:=lcs
def JW:LS (top 51) QG:=lcs
def pM:c7 (yB (top 56)) (IL (top 56)) (ay (top 56)):=fsc
abbrev sh:re:=lP [("_law_k",lo),("_law_first",fr),("_law_letters",fr),("_law_tail",fr),("_law_turn",fr)]
def lU:LS (top 58) sh:=lcs
abbrev sj:re:=lP [("_law_k",lo),("_law_pick",gi),("_law_hand_here",fr),("_law_words_here",fr)]
def lW:LS (top 61) sj:=lcs
def dR:c7 (yB (top 62)) (IL (top 62)) (ay (top 62)):=fsc
abbrev sk:re:=lP [("_law_at",lo),("_law_house",lo),("isinstance",gi),("str",gi)]
def gC:LS (top 63) sk:=lcs
abbrev si:re:=lP [("_law_one",lo),("_law_many",fr)]
def lV:LS (top 67) si:=lcs
abbrev QM:re:=lP [("_law_price",lo),("min",gi)]
abbrev QL:re:=lP [("_law_price",lo),("_law_many",fr)]
abbrev QK:re:=lP [("_law_price",lo),("min",gi)]
abbrev QJ:re:=lP [("_law_here",lo),("_law_there",lo)]
def J1:LS (top 70) QM:=lcs
def J0:LS (top 70) QL:=lcs
def JZ:LS (top 70) QK:=lcs
def vG:LS (top 70) QJ:=lcs
structure NB(v:EV):Prop where
 isinstance:v.mg "isinstance"=ce
 str:v.mg "str"=ce
 list:v.mg "list"=ce
 reversed:v.mg "reversed"=ce
 len:v.mg "len"=ce
 tuple:v.mg "tuple"=ce
 enumerate:v.mg "enumerate"=ce
 range:v.mg "range"=ce
 sorted:v.mg "sorted"=ce
 sum:v.mg "sum"=ce
 min:v.mg "min"=ce
 zip:v.mg "zip"=ce
 dict:v.mg "dict"=ce
 abs:v.mg "abs"=ce
 int:v.mg "int"=ce
 max:v.mg "max"=ce
variable{v:EV}
abbrev lG:DF:=dL 1 1 [.v] 1 o4
def Mx(D:DI v lG)(q:NB v):D.O:=
 OL D λhr nd df=>
 (sl 1 nd (aQ (n:=0) ai rfl) λeB=>
 (sl 2 nd (aQ (n:=1) (av 0 ai) rfl) λff=>
 (SF.Sb (hd:=(λ(s4:O PV×O PV)=>([am (.val df),am (.ol ce s4.1),am (.ol ce s4.2),ce]:br))) (s0:=(eB,ff)) AB (.refl _) (λs4=>(ZH rfl (bA 2) (λ_=>rfl))) (λs4=>
 (SF.zU 2 3 rfl ⋯ rfl rfl (.inl rfl) nd rfl (CN rfl) λt7=>
 (SF.append 1 rfl rfl rfl (.inl rfl) (af 3) λfw=>
 (SF.ifT (sV (gH rfl (qM rfl .str rfl q.isinstance (af 3) rfl q.str KF) (λ_=>rfl)))
 (SF.extend 2 rfl rfl rfl (.inl rfl) (aE (af 3)) λiI=>
 (SF.eL rfl (.m 8)))
 (SF.eL rfl (.m 8)))))) λs4=>
 (SF.fZ (Z1 rfl rfl rfl q.list rfl q.reversed (L1 1)) λ_=>rfl))))
abbrev jE:DF:=dv 2 2 1 jr
def Yv(D:DI v jE)(q:NB v)(M1:lG.C v):D.O:=
 md D λhr nd df=>
 (sl 1 nd (aQ (n:=0) ai rfl) λkN=>
 (sl 2 nd (aQ (n:=0) ai rfl) λGJ=>
 (SF.vX (hd:=(λ(s4:O PV×O PV)=>([am (.val df),am (.ol ce s4.1),am (.ol ce s4.2),ce,ce,ce]:br))) (s0:=(kN,GJ)) AB rfl (bg rfl (yN (lC M1 hr (av 0 ai)))) (.refl _) (cF 3 nd) (λs4 zY=>
 (SF.ifS (out1:=λ(é:O PV×O PV)=>.nx ([am (.val df),am (.ol ce é.1),am (.ol ce é.2),am (.val zY),ce,ce]:br)) (gH rfl (qM rfl .str rfl q.isinstance (af 3) rfl q.str KF) (λ_=>rfl))
 (SF.append 1 rfl rfl rfl (.inl rfl) (af 3) λN4=>
 (SF.nil rfl (.refl _)))
 (SF.zU 2 4 rfl ⋯ rfl rfl (.inl rfl) nd rfl (CN rfl) λt20=>
 (SF.zU 2 5 rfl ⋯ rfl rfl (.inl rfl) nd rfl (CN rfl) λWV=>
 (SF.append 1 rfl rfl rfl (.inl rfl) (bj (n:=2) (av 5 (av 4 ai)) rfl) λN3=>
 (SF.nil rfl (.m 48)))))
 λé=>(SF.append 2 rfl rfl rfl (.inl rfl) (wq (sJ rfl rfl q.len (bA 1)) ak) λJT=>
 (SF.eL rfl (.m 8))))) λs4=>
 (SF.c8 (bz rfl rfl q.tuple (bA 1)) λ_=>rfl))))
abbrev gz:DF:=dv 3 1 1 cx
def UG(D:DI v gz)(q:NB v):D.O:=
 md D λhr nd dH=>
 (SF.c8 (wu (gH rfl (qM rfl .str rfl q.isinstance (af 0) rfl q.str KF) (λ_=>rfl)) (bj (n:=0) ai rfl) (af 0)) λ_=>rfl)
abbrev iZ:DF:=dv 4 3 1 iR
def MF(D:DI v iZ)(q:NB v)(hO:jE.C v)(d5:gz.C v):D.O:=
 md D λhr nd df=>
 (sv 1 nd (eC hO hr (av 0 ai)) λkN=>
 (SF.kT (i:=3) rfl nd rfl rfl oo (bg rfl (aR (af 1))) (λ_ _ _ _ _=>(cF 0 oo.nd)) (λ_ _ _ _ _ p5=>fc) rfl λIm=>
 (SF.Kt (hd:=(λ(s7:O PV)=>([am (.val df),am (.val kN),ce,am (.ol ce s7),ce,ce]:br))) (s0:=Im) AB rfl (nu rfl rfl q.enumerate (aR (af 1))) (.refl _) (λ_=>(Hw rfl (cM rfl (aA (cF 4 nd) (aA (cF 2 nd) bI))))) (λs7 t9=>
 (SF.vX (hd:=(λ(ê:O PV)=>([am (.val df),am (.val kN),am (.val t9.2),am (.ol ce ê),am (.val t9.1),ce]:br))) (s0:=s7) AB rfl (bg rfl (aR (eC d5 hr (av 2 ai)))) (.refl _) (cF 5 nd) (λê O6=>
 (SF.xq 3 rfl rfl (.inl rfl) (af 4) (af 5) λK5=>
 (SF.eL rfl (.m 32)))) λê=>
 (SF.eL rfl (.m 20)))) λs7=>
 (SF.c8 (bz rfl rfl q.tuple (bA 3)) λ_=>rfl))))
abbrev cZ:DF:=dv 9 1 2 cX
def Mu(D:DI v cZ)(qT:v.mg "UNDER"=am (.int 2 N6)):D.O:=
 md D λhr nd kO aY=>
 (SF.c8 (aM rfl (aE (aM rfl (aE (af 0)) (af 1))) (HM qT rfl)) λ_=>rfl)
abbrev jG:DF:=dv 10 1 2 ju
def J8(D:DI v jG)(mR:v.mg "BESIDE"=am (.int 3 Ji)):D.O:=
 md D λhr nd kO aY=>
 (SF.c8 (aM rfl (aE (aM rfl (aE (af 0)) (af 1))) (HM mR rfl)) λ_=>rfl)
abbrev nK:DF:=dv 11 2 3 ng
def Q0(D:DI v nK)(wB:v.mg "NAME"=am (.int 0 Sw))(bX:cZ.C v):D.O:=
 md D λhr nd kO aY ZG=>
 (SF.c8 (agX (yY (mE rfl (bF hr)) (eC bX hr (av 0 (av 1 ai))) (bj (n:=0) ai rfl)) (agR (yY (mE rfl (bF hr)) (aM rfl (aE (aM rfl (aE (af 0)) (af 1))) (HM wB rfl)) (af 2)))) λ_=>rfl)
abbrev kF:DF:=dv 12 1 2 fi
def QY(D:DI v kF)(q:NB v):D.O:=
 md D λhr nd fF mH=>
 (SF.c8 (wu (gH rfl (qM rfl .str rfl q.isinstance (aM rfl (aE (af 0)) (af 1)) rfl q.str KF) (λ_=>rfl)) (aM rfl (aE (af 0)) (af 1)) (af 1)) λ_=>rfl)
abbrev lI:DF:=dL 13 4 [.v] 1 k8
def MB(D:DI v lI)(q:NB v)(ph:iZ.C v):D.O:=
 OL D λhr nd dP=>
 (sv 1 nd (eC ph hr (av 0 ai)) λeg=>
 (SF.kT (i:=3) rfl nd rfl rfl oe (bg rfl (aR (af 1))) (λ_ _ _ _ _=>(cF 0 oe.nd)) (λ_ _ _ _ _ p5=>(bj (n:=0) ai rfl)) rfl λnj=>
 (SF.vX (hd:=(λ(s9:O PV)=>([am (.val dP),am (.val eg),ce,am (.ol ce s9),ce]:br))) (s0:=nj) AB rfl (OZ rfl q.range (wq (fe rfl rfl q.len (af 1)) ak) (iX ak) (iX ak)) (.refl _) (cF 2 nd) (λs9 mG=>
 (sv 4 nd (wu (cu lu (aM rfl (aE (af 1)) (af 2)) fc) (bj (n:=0) ai rfl) (aM rfl (bA 3) (aM rfl (aE (af 1)) (af 2)))) λK7=>
 (SF.xq 3 rfl rfl (.inl rfl) (cG rfl (bj (n:=1) (av 2 ai) rfl) (af 4)) (af 2) λJV=>
 (SF.eL rfl (.m 20))))) λs9=>
 (SF.aeP 3 rfl rfl))))
abbrev iq:DF:=dv 14 1 2 gX
def GZ(D:DI v iq)(q:NB v):D.O:=
 md D λhr nd GL mH=>
 (SF.c8 (bz rfl rfl q.tuple (jh (vK rfl lT (g8 rfl q.range (fe rfl rfl q.len (af 0))) (λ_ _ _ _ _=>(cF 0 lT.nd)) (λ_ _ _ _ _ p3=>(IQ.t (oT (zI rfl (bF hr) (af 0) (aE (aM rfl (aE (af 2)) (af 1)))) (kM (zI rfl (bF hr) (af 1) (aE (aM rfl (aE (af 2)) (af 0)))))))) (λ_ _ _ _ _ p3=>(af 0)) rfl))) λ_=>rfl)
abbrev qQ:DF:=dv 15 5 1 qg
def UH(D:DI v qQ)(q:NB v)(hO:jE.C v)(M4:lI.C v)(sH:kF.C v)(d5:gz.C v)(Ho:iq.C v):D.O:=
 md D λhr nd dP=>
 (sv 1 nd (eC hO hr (av 0 ai)) λbM=>
 (sl 2 nd (lC M4 hr (av 0 ai)) λnj=>
 SF.bN 2 rfl (SF.c8 (bz rfl rfl q.tuple (jh (da rfl tw (g8 rfl q.range (fe rfl rfl q.len (af 1))) (λ_ _ _ _ _=>(cF 0 tw.nd)) (λ_ _ _ _ _ p7=>(bj (n:=4) (aj (eC sH hr (av 1 (av 0 ai))) (aj ak (aj (eC d5 hr (aj (aM rfl (aE (af 1)) (af 0)) ai)) (aj (eC Ho hr (av 2 (av 0 ai))) ai)))) rfl)) rfl))) λ_=>rfl)))
abbrev jD:DF:=dL 22 2 [.v,.v] 2 jq
def J5(D:DI v jD)(q:NB v)(bX:cZ.C v):D.O:=
 OL D λhr nd aw aY=>
 (sv 2 nd (eC bX hr (av 0 (av 1 ai))) λpE=>
 (SF.fZ (afB (cu (mE rfl (bF hr)) (fe rfl rfl q.len (af 2)) ak) (aQ (n:=2) (av 2 (aj (bj (n:=2) (aj (aM rfl (aE (af 2)) ak) (aj (aM rfl (aE (af 2)) ak) ai)) rfl) ai)) rfl) (aQ (n:=0) ai rfl)) λ_=>rfl))
abbrev lH:DF:=dL 23 2 [.v,.v] 2 k7
def Mz(D:DI v lH)(Km:jG.C v):D.O:=
 OL D λhr nd aw aY=>
 (sv 2 nd (eC Km hr (av 0 (av 1 ai))) λwD=>
 (SF.fZ (oq rfl (cK (da rfl n9 (bg rfl (aR (af 2))) (λ_ _ _ _ _=>(cF 0 n9.nd)) (λ_ _ _ _ _ p5=>(bj (n:=2) (av 1 (av 0 ai)) rfl)) rfl)) (cK (da rfl n8 (bg rfl (aR (af 2))) (λ_ _ _ _ _=>(cF 0 n8.nd)) (λ_ _ _ _ _ p9=>(bj (n:=2) (av 0 (av 1 ai)) rfl)) rfl))) λ_=>rfl))
abbrev iY:DF:=dL 24 3 [.v,.v,.v] 3 eA
def MC(D:DI v iY)(q:NB v)(qV:v.mg "FOUND"=am (.str "found" N8))(qU:v.mg "SPLIT"=am (.str "split" N7))(wA:v.mg "OVER"=am (.str "over" Sv))(kG:v.mg "DOUBLED"=am (.str "doubled" yo))(Rh:nK.C v)(Kk:jD.C v)(M3:lH.C v):D.O:=
 OL D λhr nd aw dH aY=>
 (SF.US (gH rfl (qM rfl .str rfl q.isinstance (af 1) rfl q.str KF) (λ_=>rfl))
 (SF.fZ (afB (gH rfl (eC Rh hr (av 0 (av 2 (av 1 ai)))) (λ_=>rfl)) (aQ (n:=1) (aj (bj (n:=2) (aj (HL qV rfl) (aj (bj (n:=0) ai rfl) ai)) rfl) ai) rfl) (aQ (n:=0) ai rfl)) λ_=>rfl)
 (SF.kT (i:=3) rfl nd rfl rfl oj (bg rfl (yN (lC Kk hr (av 0 (av 2 ai))))) (λ_ _ _ _ _=>(cF 0 oj.nd)) (λ_ _ _ _ _ Ą=>(bj (n:=2) (aj (HL qU rfl) (av 0 ai)) rfl)) rfl λOg=>
 SF.bN 3 rfl (SF.kT (i:=4) rfl nd rfl rfl og (bg rfl (yN (lC M3 hr (av 0 (av 2 ai))))) (λ_ _ _ _ _=>(cF 0 og.nd)) (λ_ _ _ _ _ Ę=>(bj (n:=2) (aj (HL wA rfl) (av 0 ai)) rfl)) rfl λOB=>
 SF.bN 4 rfl (SF.fZ (Yn rfl (bF hr) rfl q.sorted (cK (oq rfl (cK (oq rfl (cK (aQ (n:=1) (aj (bj (n:=2) (aj (HL kG rfl) (aj (bj (n:=2) (av 2 (av 2 ai)) rfl) ai)) rfl) ai) rfl)) (oV (af 3)))) (oV (af 4))))) λ_=>rfl))))
abbrev fK:DF:=dL 25 1 [.v] 1 jS
def xF(D:DI v fK)(q:NB v):D.O:=
 OL D λhr nd P0=>
 (sl 1 nd (aQ (n:=0) ai rfl) λeB=>
 (sl 2 nd (aQ (n:=1) (av 0 ai) rfl) λff=>
 (SF.Sb (hd:=(λ(s4:O PV×O PV)=>([am (.val P0),am (.ol ce s4.1),am (.ol ce s4.2),ce]:br))) (s0:=(eB,ff)) AB (.refl _) (λs4=>(ZH rfl (bA 2) (λ_=>rfl))) (λs4=>
 (SF.zU 2 3 rfl ⋯ rfl rfl (.inl rfl) nd rfl (CN rfl) λt7=>
 (SF.append 1 rfl rfl rfl (.inl rfl) (af 3) λfw=>
 (SF.extend 2 rfl rfl rfl (.inl rfl) (aE (aaw rfl (af 3) (Ma ak) Gx)) λiI=>
 (SF.eL rfl (.m 8)))))) λs4=>
 (SF.fZ (Z1 rfl rfl rfl q.list rfl q.reversed (L1 1)) λ_=>rfl))))
abbrev kE:DF:=dv 28 1 1 kx
def UB(D:DI v kE)(q:NB v):D.O:=
 md D λhr nd sP=>
 (SF.c8 (wu (aep rfl (bF hr) fc (aE (af 0))) fc (Nd rfl rfl rfl q.sum (oV (af 0)))) λ_=>rfl)
abbrev fv:DF:=dv 29 1 1 dq
def MD(D:DI v fv)(q:NB v):D.O:=
 md D λhr nd sP=>
 (SF.c8 (acY rfl rfl rfl q.min (cK (vK rfl om (bg rfl (aR (af 0))) (λ_ _ _ _ _=>(cF 0 om.nd)) (λ_ _ _ _ _ p2=>(cu OW (af 0) fc)) (λ_ _ _ _ _ p2=>(af 0)) rfl))) λ_=>rfl)
abbrev lF:DF:=dv 30 1 2 fh
def Mw(D:DI v lF)(iB:v.mg "DEEDS"=am (.ref nS))(lq:NK v.K nS ["split","doubled","over"]):D.O:=
 md D λhr nd aF wy=>
 (SF.c8 (wu (aeo rfl (bF hr) (af 1) iB lq) (aM rfl (aE (af 0)) (ac0 rfl (af 1) iB lq)) ak) λ_=>rfl)
abbrev gA:DF:=dv 31 2 4 bO
def J7(D:DI v gA)(q:NB v)(d5:gz.C v)(mK:kE.C v)(M0:lF.C v):D.O:=
 md D λhr nd aF kl dH wy=>
 (SF.Om (i:=4) rfl nd rfl rfl iU (jT rfl rfl q.zip (aR (eC d5 hr (av 2 ai))) (aR (aM rfl (aE (af 3)) ak))) (λ_ _ _ _ _=>(Hw rfl (cM rfl (aA (cF 0 iU.nd) (aA (cF 1 iU.nd) bI))))) (λ_ _ _ _ _ t7=>(aM rfl (aE (aM rfl (aE (af 2)) (af 0))) (af 1))) (QR rfl rfl ⋯) ⋯ λJE=>
 SF.bN 4 rfl (SF.c8 (eC mK hr (aj (jC (oq rfl (cK (aQ (n:=1) (aj (eC M0 hr (av 0 (aj (aM rfl (aE (af 3)) ak) ai))) ai) rfl)) (oV (af 4)))) ai)) λ_=>rfl))
abbrev ip:DF:=dL 32 4 [.v,.v,.v,.v,.v] 5 gW
def GY(D:DI v ip)(pd:iY.C v)(mM:gA.C v):D.O:=
 OL D λhr nd aw aF kl dH aY=>
 (SF.fZ (da rfl lS (bg rfl (yN (lC pd hr (av 0 (av 3 (av 4 ai)))))) (λ_ _ _ _ _=>(cF 0 lS.nd)) (λ_ _ _ _ _ p5=>(eC mM hr (av 2 (av 3 (av 1 (av 0 ai)))))) rfl) λ_=>rfl)
abbrev gw:DF:=dv 33 2 3 gh
def J4(D:DI v gw)(q:NB v)(wC:v.mg "LOST"=am (.int 3 Sx))(bX:cZ.C v):D.O:=
 md D λhr nd aw aF aY=>
 (SF.c8 (wu (cu (mE rfl (bF hr)) (fe rfl rfl q.len (eC bX hr (av 0 (av 2 ai)))) ak) (aM rfl (aE (af 1)) (HM wC rfl)) ak) λ_=>rfl)
abbrev ic:DF:=dL 34 3 [.v,.v,.v,.v] 4 gU
def GU(D:DI v ic)(mL:gw.C v)(bX:cZ.C v)(mK:kE.C v):D.O:=
 OL D λhr nd aw aF LZ aY=>
 (sv 4 nd (eC mL hr (av 0 (av 1 (av 3 ai)))) λJD=>
 (SF.fZ (da rfl lR (bg rfl (aR (eC bX hr (av 0 (av 3 ai))))) (λ_ _ _ _ _=>(cF 0 lR.nd)) (λ_ _ _ _ _ p8=>(eC mK hr (aj (jC (aQ (n:=2) (av 1 (aj (aM rfl (aE (af 2)) (af 0)) ai)) rfl)) ai))) rfl) λ_=>rfl))
abbrev qO:DF:=dv 35 5 4 qe
def UC(D:DI v qO)(q:NB v)(Hn:ip.C v)(Hl:ic.C v)(iV:fv.C v):D.O:=
 md D λhr nd aw aF kl dH=>
 (sl 4 nd (aQ (n:=0) ai rfl) λS3=>
 (SF.vX (hd:=(λ(s3:O PV)=>([am (.val aw),am (.val aF),am (.val kl),am (.val dH),am (.ol ce s3),ce,ce]:br))) (s0:=S3) AB rfl (g8 rfl q.range (fe rfl rfl q.len (af 0))) (.refl _) (cF 5 nd) (λs3 LU=>
 (sl 6 nd (afC 4 rfl (oq rfl (cK (lC Hn hr (av 0 (av 1 (av 2 (av 3 (av 5 ai))))))) (cK (lC Hl hr (av 0 (av 1 (av 4 (av 5 ai)))))))) λPo=>
 SF.bN 6 rfl (SF.append 4 rfl rfl rfl (.inl rfl) (eC iV hr (av 6 ai)) λS1=>
 (SF.eL rfl (.m 96))))) λs3=>
 (SF.c8 (bz rfl rfl q.tuple (bA 4)) λ_=>rfl)))
abbrev nH:DF:=dv 36 6 3 gT
def Yu(D:DI v nH)(q:NB v)(hO:jE.C v)(U9:qO.C v):D.O:=
 md D λhr nd aw eK aF=>
 (sl 3 nd (aQ (n:=0) ai rfl) λjO=>
 (SF.vX (hd:=(λ(s3:O PV)=>([am (.val aw),am (.val eK),am (.val aF),am (.ol ce s3),ce]:br))) (s0:=jO) AB rfl (bg rfl (aR (eC hO hr (av 1 ai)))) (.refl _) (cF 4 nd) (λs3 T9=>
 (SF.append 3 rfl rfl rfl (.inl rfl) (agW 3 rfl (eC U9 hr (av 0 (av 2 (av 3 (av 4 ai)))))) λSY=>
 (SF.eL rfl (.m 16)))) λs3=>
 (SF.c8 (bz rfl rfl q.tuple (bA 3)) λ_=>rfl)))
abbrev uO:DF:=dv 37 7 3 m9
def Yw(D:DI v uO)(iV:fv.C v)(jx:nH.C v):D.O:=
 md D λhr nd aw eK aF=>
 (SF.c8 (eC iV hr (aj (aM rfl (aE (eC jx hr (av 0 (av 1 (av 2 ai))))) (iX ak)) ai)) λ_=>rfl)
abbrev fM:DF:=dL 39 1 [.v,.v] 2 fD
def xG(D:DI v fM)(q:NB v):D.O:=
 OL D λhr nd fF dQ=>
 (SF.fZ (afA rfl fj (jT rfl rfl q.zip (aR (af 0)) (aR (af 1))) (λ_ _ _ _ _=>(Hw rfl (cM rfl (aA (cF 0 fj.nd) (aA (cF 1 fj.nd) bI))))) (λ_ _ _ _ _ t5=>(sV (gH rfl (qM rfl .str rfl q.isinstance (af 0) rfl q.str KF) (λ_=>rfl)))) (λ_ _ _ _ _ t5=>(af 1)) (QR rfl rfl ⋯) ⋯) λ_=>rfl)
abbrev lE:DF:=dL 40 4 [.v,.v,.v] 3 k6
def Mv(D:DI v lE)(q:NB v)(ph:iZ.C v):D.O:=
 OL D λhr nd dP dQ lK=>
 (sv 3 nd (eC ph hr (av 0 ai)) λeg=>
 (sl 4 nd (aQ (n:=0) ai rfl) λz0=>
 (SF.Kt (hd:=(λ(s5:O PV)=>([am (.val dP),am (.val dQ),am (.val lK),am (.val eg),am (.ol ce s5),ce,ce,ce,ce]:br))) (s0:=z0) AB rfl (nu rfl rfl q.enumerate (aR (af 2))) (.refl _) (λ_=>(Hw rfl (cM rfl (aA (cF 5 nd) (aA (cF 6 nd) bI))))) (λs5 t7=>
 (SF.Kt (hd:=(λ(s9:O PV)=>([am (.val dP),am (.val dQ),am (.val lK),am (.val eg),am (.ol ce s9),am (.val t7.1),am (.val t7.2),ce,ce]:br))) (s0:=s5) AB rfl (nu rfl rfl q.enumerate (aR (af 1))) (.refl _) (λ_=>(Hw rfl (cM rfl (aA (cF 7 nd) (aA (cF 8 nd) bI))))) (λs9 Ē=>
 (SF.ifT (IQ.t (oT (cu aaa (af 8) (af 6)) (kM (IQ.t (Sk (cu lu (aM rfl (aE (af 3)) (af 7)) fc) (LJ (cu OX (af 6) (aM rfl (aE (af 1)) (aM rfl (aE (af 3)) (af 7))))))))))
 (SF.append 4 rfl rfl rfl (.inl rfl) (bj (n:=2) (av 7 (av 5 ai)) rfl) λJz=>
 (SF.eL rfl (.m 384)))
 (SF.eL rfl (.m 384)))) λs9=>
 (SF.eL rfl (.m 96)))) λs5=>
 (SF.aeP 4 rfl rfl))))
abbrev nI:DF:=dv 41 2 5 m7
def QX(D:DI v nI)(q:NB v)(d5:gz.C v)(sH:kF.C v):D.O:=
 md D λhr nd fF dQ lK pW TV=>
 (sv 5 nd (aM rfl (aE (af 4)) ak) λnB=>
 (sv 6 nd (aM rfl (aE (af 4)) ak) λqu=>
 (sv 7 nd (yY OX (aM rfl (aE (af 1)) (af 5)) (aM rfl (aE (af 2)) (af 6))) λyR=>
 (sv 8 nd (wu (gH rfl (af 7) (λ_=>rfl)) (bj (n:=1) (av 5 ai) rfl) (eC d5 hr (aj (aM rfl (aE (af 0)) (af 5)) ai))) λbelow_4=>
 (sv 9 nd (bz rfl rfl q.tuple (jh (da rfl qm (bg rfl (aR (af 8))) (λ_ _ _ _ _=>(cF 0 qm.nd)) (λ_ _ _ _ _ p9=>(VJ (bF hr) (af 2) (bj (n:=2) (av 0 (aj (wq (af 1) ak) ai)) rfl) (λ_ _=>rfl))) rfl))) λNZ=>
 (sv 10 nd (bz rfl rfl q.tuple (jh (vK rfl ql (YD (af 3)) (λ_ _ _ _ _=>(cF 0 ql.nd)) (λ_ _ _ _ _ ę=>(IQ.t (oT (cu (mE rfl (bF hr)) (aM rfl (aE (af 0)) ak) (af 2)) (kM (cu (OV rfl (bF hr)) (aM rfl (aE (af 0)) ak) (af 1)))))) (λ_ _ _ _ _ ę=>(VJ (bF hr) (af 3) (af 0) (λ_ _=>rfl))) rfl))) λzf=>
 (SF.c8 (bj (n:=4) (aj (eC sH hr (av 0 (av 5 ai))) (av 6 (av 9 (av 10 ai)))) rfl) λ_=>rfl)))))))
abbrev uP:DF:=dv 42 5 2 qh
def Yx(D:DI v uP)(q:NB v)(hO:jE.C v)(xQ:fM.C v)(MZ:lE.C v)(Rf:nI.C v):D.O:=
 md D λhr nd dP dQ=>
 (sv 2 nd (eC hO hr (av 0 ai)) λbM=>
 (sl 3 nd (oq rfl (cK (aQ (n:=1) (aj ak ai) rfl)) (cK (Yo rfl rfl q.sorted (cK (lC xQ hr (av 2 (av 1 ai))))))) λwF=>
 SF.bN 3 rfl (sl 4 nd (lC MZ hr (av 0 (av 1 (av 3 ai)))) λzZ=>
 SF.bN 4 rfl (sv 5 nd (akH (Zh rfl rfl (bF hr) rfl q.dict (cK (Ms rfl o7 (nu rfl rfl q.enumerate (aR (af 4))) (λ_ _ _ _ _=>(Hw rfl (cM rfl (aA (cF 0 o7.nd) (aA (cF 1 o7.nd) bI))))) (λ_ _ _ _ _ uY=>(bj (n:=2) (av 1 (av 0 ai)) rfl)) (QR rfl rfl ⋯) ⋯)))) λvh=>
 (SF.c8 (bz rfl rfl q.tuple (jh (da rfl vH (bg rfl (aR (af 4))) (λ_ _ _ _ _=>(cF 0 vH.nd)) (λ_ _ _ _ _ p21=>(eC Rf hr (av 3 (av 2 (av 1 (av 4 (av 0 ai))))))) rfl))) λ_=>rfl)))))
abbrev nJ:DF:=dv 44 2 2 m8
def QZ(D:DI v nJ)(q:NB v)(bX:cZ.C v):D.O:=
 md D λhr nd aw ZU=>
 (SF.c8 (sJ rfl rfl q.len (jh (vK rfl qo (bg rfl (aR (aaw rfl (af 1) Gx (Ma (iX ak))))) (λ_ _ _ _ _=>(cF 0 qo.nd)) (λ_ _ _ _ _ p5=>(cu (mE rfl (bF hr)) (fe rfl rfl q.len (eC bX hr (av 1 (av 0 ai)))) ak)) (λ_ _ _ _ _ p5=>(af 0)) rfl))) λ_=>rfl)
abbrev nM:DF:=dv 45 3 2 nh
def Q1(D:DI v nM)(q:NB v)(iB:v.mg "DEEDS"=am (.ref nS))(lq:NK v.K nS ["split","doubled","over"])(xP:fK.C v)(Rg:nJ.C v):D.O:=
 md D λhr nd aw P0=>
 (sl 2 nd (lC xP hr (av 1 ai)) λzX=>
 SF.bN 2 rfl (sl 3 nd (da rfl qt (bg rfl (aR (af 2))) (λ_ _ _ _ _=>(cF 0 qt.nd)) (λ_ _ _ _ _ p5=>(aM rfl (aE (af 0)) ak)) rfl) λVO=>
 SF.bN 3 rfl (sv 4 nd (Nd rfl rfl rfl q.sum (cK (da rfl qr (bg rfl (aR (af 2))) (λ_ _ _ _ _=>(cF 0 qr.nd)) (λ_ _ _ _ _ p8=>(eC Rg hr (av 1 (aj (aM rfl (aE (af 0)) ak) ai)))) rfl))) λUj=>
 (SF.c8 (bz rfl rfl q.tuple (jh (oq rfl (cK (da rfl qp (afM rfl iB lq) (λ_ _ _ _ _=>(cF 0 qp.nd)) (λ_ _ _ _ _ p12=>(Y9 rfl (bF hr) (oV (af 1)) (af 0))) rfl)) (cK (aQ (n:=1) (av 4 ai) rfl))))) λ_=>rfl))))
abbrev qP:DF:=dv 46 1 2 qf
def UD(D:DI v qP)(q:NB v):D.O:=
 md D λhr nd aF VX=>
 (SF.c8 (Nd rfl rfl rfl q.sum (cK (Ms rfl my (jT rfl rfl q.zip (aR (af 0)) (aR (af 1))) (λ_ _ _ _ _=>(Hw rfl (cM rfl (aA (cF 0 my.nd) (aA (cF 1 my.nd) bI))))) (λ_ _ _ _ _ t5=>(mO (af 0) (af 1))) (QR rfl rfl ⋯) ⋯))) λ_=>rfl)
abbrev fP:DF:=dL 48 4 [.v,.v,.v,.v,.v,.v] 6 dW
def xI(D:DI v fP)(pd:iY.C v)(mM:gA.C v):D.O:=
 OL D λhr nd aw aF kl jm dH aY=>
 (sv 6 nd (aM rfl (aE (aM rfl (aE (af 2)) (af 3))) (af 5)) λHI=>
 (SF.US (cu lu (af 6) fc)
 (SF.fZ (aQ (n:=0) ai rfl) λ_=>rfl)
 (SF.fZ (vK rfl kB (bg rfl (yN (lC pd hr (av 0 (av 4 (av 5 ai)))))) (λ_ _ _ _ _=>(cF 0 kB.nd)) (λ_ _ _ _ _ p6=>(cu (mE rfl (bF hr)) (eC mM hr (av 3 (av 4 (av 2 (av 0 ai))))) (af 1))) (λ_ _ _ _ _ p6=>(af 0)) rfl) λ_=>rfl)))
abbrev fN:DF:=dL 49 3 [.v,.v,.v,.v] 4 dU
def xH(D:DI v fN)(q:NB v)(mL:gw.C v)(bX:cZ.C v)(mK:kE.C v):D.O:=
 OL D λhr nd aw aF LZ aY=>
 (SF.US (cu lu (aM rfl (aE (af 2)) (af 3)) fc)
 (SF.fZ (aQ (n:=0) ai rfl) λ_=>rfl)
 (sv 4 nd (eC mL hr (av 0 (av 1 (av 3 ai)))) λJD=>
 (SF.fZ (vK rfl kA (bg rfl (yN (Ut rfl rfl q.sorted (eC bX hr (av 0 (av 3 ai)))))) (λ_ _ _ _ _=>(cF 0 kA.nd)) (λ_ _ _ _ _ p8=>(cu (mE rfl (bF hr)) (eC mK hr (aj (jC (aQ (n:=2) (av 1 (aj (aM rfl (aE (af 2)) (af 0)) ai)) rfl)) ai)) (aM rfl (aE (af 2)) (af 3)))) (λ_ _ _ _ _ p8=>(af 0)) rfl) λ_=>rfl)))
abbrev jJ:CF:=⟨"LeastWays","LeastWays.__init__",nQ (top 50),["told","deeds","steps","begins"],IL (nQ (top 50)),7,λl=>.bind (kK 3 gk l) λr=>.ret (Gw ["told","deeds","steps","begins"] r)⟩
def Ke(D:CI v jJ)(q:NB v)(jx:nH.C v)(hO:jE.C v)(xS:fP.C v)(xR:fN.C v)(iV:fv.C v):D.O:=
 mkI (n:=3) (m:=gk) D λhr nd ad aw eK aF=>
 (sv 4 nd (eC jx hr (av 1 (av 2 (av 3 ai)))) λjO=>
 (sl 5 nd (Uu rfl rfl q.list rfl q.range (fe rfl rfl q.len (af 1))) λpL=>
 SF.bN 5 rfl (SF.agC 0 rfl rfl rfl (.inr (.inl rfl)) (eC hO hr (av 2 ai)) (D.na "told" ⋯) rfl (A8 rfl) λzF=>
 (SF.agD 0 rfl rfl rfl (.inr (.inl rfl)) (aQ (n:=0) ai rfl) (D.na "deeds" ⋯) rfl (A8 rfl) λb10 Ic=>
 (SF.agD 0 rfl rfl rfl (.inr (.inl rfl)) (aQ (n:=0) ai rfl) (D.na "steps" ⋯) rfl (A8 rfl) λb12 uZ=>
 (SF.Kt (hd:=(λ(pN:O PV×O PV)=>([am (.ob ad D.C [("told",.v zF),("deeds",.o b10 pN.1),("steps",.o b12 pN.2)]),am (.val aw),am (.val eK),am (.val aF),am (.val jO),am (.val (.cl pL)),ce,ce,ce]:br))) (s0:=(Ic,uZ)) AB rfl (nu rfl rfl q.enumerate (aR (VI 0))) (.refl _) (λ_=>(Hw rfl (cM rfl (aA (cF 6 nd) (aA (cF 7 nd) bI))))) (λpN ĳ=>
 (SF.agE 0 1 rfl rfl rfl rfl rfl (.inr (.inl rfl)) (jC (da rfl mC (bg rfl (aR (af 5))) (λ_ _ _ _ _=>(cF 0 mC.nd)) (λ_ _ _ _ _ Ę=>(jC (lC xS hr (av 1 (av 4 (av 5 (av 3 (av 2 (av 0 ai))))))))) rfl)) λKS=>
 (SF.agE 0 2 rfl rfl rfl rfl rfl (.inr (.inl rfl)) (jC (da rfl mB (bg rfl (aR (af 5))) (λ_ _ _ _ _=>(cF 0 mB.nd)) (λ_ _ _ _ _ p28=>(jC (lC xR hr (av 1 (av 3 (aj (aM rfl (aE (af 4)) (af 2)) (av 0 ai))))))) rfl)) λJl=>
 (SF.eL rfl (.m 192))))) λpN=>
 (sv 8 nd (eC iV hr (aj (aM rfl (aE (af 4)) (iX ak)) ai)) λPp=>
 (SF.agB 0 1 rfl rfl rfl
 (SF.agC 0 rfl rfl rfl (.inr (.inl rfl)) (jC (vK rfl mz (bg rfl (aR (af 5))) (λ_ _ _ _ _=>(cF 0 mz.nd)) (λ_ _ _ _ _ ė=>(IQ.t (oT (cu (mE rfl (bF hr)) (aM rfl (aE (aM rfl (aE (af 2)) (iX ak))) (af 0)) (af 1)) (kM (gH rfl (aM rfl (aE (aM rfl (aE (VI 3)) (iX ak))) (af 0)) (λ_=>rfl)))))) (λ_ _ _ _ _ ė=>(af 0)) rfl)) (D.na "begins" ⋯) rfl (A8 rfl) λzg=>
 (SF.agB 0 2 rfl rfl rfl (SF.nil rfl (.m 318))))))))))))
abbrev aaB(fa:f8)(us:O V)(qs:O PV)(fz:O (f8×Obj))(pick_:PV->PV->W PV):DF:=⟨"led",top 51,["told","begin","pick"],4,λK=>xn K [.v,.v,.f fa us qs fz] (kK 2 (yE pick_))⟩
theorem afJ{fa:f8}{us:O V}{qs:O PV}{pick_:PV->PV->W PV}(D:DI v (aaB fa us qs fz pick_))(q:NB v)(YS:ZC v.P v.w v.K v.mg v.base fa us qs fz 3 pl (xn v.K (An 2 .v) (kK 2 pick_)))(d5:gz.C v):D.O:=
 md D λhr nd pF Ì=>
 (SF.kT (i:=4) rfl nd rfl rfl JY (bg rfl (aR (af 0))) (λ_ _ _ _ _=>(cF 0 JY.nd)) (λ_ _ _ _ _ p3=>fc) rfl λKh=>
 (SF.xq 4 rfl rfl (.inl rfl) (af 1) (iX ak) λvT=>
 (SF.kT (i:=5) rfl nd rfl rfl JX (bg rfl (aR (af 0))) (λ_ _ _ _ _=>(cF 0 JX.nd)) (λ_ _ _ _ _ p9=>fc) rfl λzW=>
 (SF.vX (hd:=(λ(Qj:O PV×O PV)=>([am (.val pF),am (.val Ì),am (.adr fa us qs fz),ce,am (.ol ce Qj.1),am (.ol ce Qj.2),ce,ce,ce,ce,ce,ce]:br))) (s0:=(vT,zW)) AB rfl (OZ rfl q.range (wq (fe rfl rfl q.len (af 0)) ak) (iX ak) (iX ak)) (.refl _) (cF 6 nd) (λQj iD=>
 (sv 7 nd (Zb 2 YS rfl hr (by first | exact A8 rfl | omega) rfl (av 6 (aj (aM rfl (bA 4) (af 6)) ai)) rfl) λko=>
 (SF.xq 5 rfl rfl (.inl rfl) (bj (n:=2) (aj (aM rfl (aE (af 7)) ak) (aj (aM rfl (aE (af 7)) ak) ai)) rfl) (af 6) λvd=>
 (SF.Kt (hd:=(λ(è:O PV)=>([am (.val pF),am (.val Ì),am (.adr fa us qs fz),ce,am (.ol ce è),am (.ol ce vd),am (.val iD),am (.val ko),ce,ce,ce,ce]:br))) (s0:=Qj.1) AB rfl (jT rfl rfl q.zip (aR (eC d5 hr (aj (aM rfl (aE (af 0)) (af 6)) ai))) (aR (aM rfl (aE (af 7)) ak))) (.refl _) (λ_=>(Hw rfl (cM rfl (aA (cF 8 nd) (aA (cF 9 nd) bI))))) (λè Ŋ=>
 (SF.xq 4 rfl rfl (.inl rfl) (af 9) (af 8) λyQ=>
 (SF.eL rfl (.m 768)))) λè=>
 (SF.eL rfl (.m 192)))))) λQj=>
 (sl 10 nd (aQ (n:=0) ai rfl) λzB=>
 (SF.bN 5 rfl (SF.Kt (hd:=(λ(ZM:O PV)=>([am (.val pF),am (.val Ì),am (.adr fa us qs fz),ce,am (.ol ce Qj.1),am (.val (.cl Qj.2)),ce,ce,ce,ce,am (.ol ce ZM),ce]:br))) (s0:=zB) AB rfl (jT rfl rfl q.zip (aR (af 0)) (aR (af 5))) (.refl _) (λ_=>(Hw rfl (cM rfl (aA (cF 3 nd) (aA (cF 11 nd) bI))))) (λZM ŉ=>
 (SF.append 10 rfl rfl rfl (.inr (.inl rfl)) (cG rfl (af 11) (bz rfl rfl q.tuple (jh (da rfl JW (bg rfl (aR (eC d5 hr (av 3 ai)))) (λ_ _ _ _ _=>(cF 0 JW.nd)) (λ_ _ _ _ _ ă=>(aM rfl (bA 1) (af 0))) rfl)))) λNW=>
 (SF.eL rfl (.m 2056)))) λZM=>
 (SF.c8 (aM rfl (bA 10) (iX ak)) λ_=>rfl))))))))
abbrev ik:DF:=dv 52 1 3 gV
def GW(D:DI v ik)(q:NB v):D.O:=
 md D λhr nd IX jm aY=>
 (sl 3 nd (aQ (n:=1) (av 2 ai) rfl) λL7=>
 (SF.Sb (hd:=(λ(s3:O PV)=>([am (.val IX),am (.val jm),am (.val aY),am (.ol ce s3),ce]:br))) (s0:=L7) AB (.refl _) (λs3=>(sV (gH rfl (aM rfl (aE (aM rfl (aE (KD rfl (af 0))) (af 1))) (aM rfl (bA 3) (iX ak))) (λ_=>rfl)))) (λs3=>
 (SF.append 3 rfl rfl rfl (.inl rfl) (aM rfl (aE (aM rfl (aE (aM rfl (aE (KD rfl (af 0))) (af 1))) (aM rfl (bA 3) (iX ak)))) ak) λTQ=>
 (SF.eL rfl (.refl _)))) λs3=>
 (sv 4 nd (aM rfl (aE (aM rfl (aE (aM rfl (aE (KD rfl (af 0))) (af 1))) (aM rfl (bA 3) (iX ak)))) ak) λNq=>
 (SF.c8 (bj (n:=3) (aj (bz rfl rfl q.tuple (bA 3)) (aj (aM rfl (aE (af 4)) ak) (aj (aM rfl (aE (af 4)) ak) ai))) rfl) λ_=>rfl))))
abbrev ue:re:={kind:=.function,names:=[("number",lo),("stay",lo),("ways",fr),("first_pick",gi)],isGenerator:=false,isCoroutine:=false}
def lQ:Wo (yB (top 53)) (ay (top 53)) ue [3] ["ways"]:=by decide +kernel
abbrev jF:DF:=dv 53 9 3 jt
def J6(D:DI v jF)(hc:RP v.K v.mg D.fd.code P)(hP:PJ P "least_way.<locals>.<lambda>")(agj:HF v.P v.w v.K v.mg 2 3 "led" 4 ["told","begin","pick"] λfa us qs fz g=>xn v.K [.v,.v,.f fa us qs fz] (kK 2 (yE g)))(xO:∀b,ik.C (v.at b))(jy:jJ.C v):D.O:=
 ajs D hc λhL hr nd aw eK aF=>
 (sv 3 nd (eM jy.o jy.i.mk' jy.i.bi jy.i.at' (n:=3) hr (av 0 (av 1 (av 2 ai)))) λuS=>
 (SF.c8 (Zc (pl:=["number","stay"]) (Py (KD rfl (af 3)) (Py (aM rfl (aE (KD rfl (af 3))) ak) (adj (is:=[3]) (qs:=[uS]) "least_way.<locals>.<lambda>" ["ways"] hL hP lQ ai))) lQ agj hr λb=>λhr JH SE=>(eC (xO b) hr (av 2 (av 0 (av 1 ai))))) λ_=>rfl))
abbrev jH:DF:=dL 55 1 [.v,.v] 2 jv
def Kb(D:DI v jH)(q:NB v):D.O:=
 OL D λhr nd jg k_=>
 (sv 2 nd (wu (cu OX (af 1) (fe rfl rfl q.len (af 0))) (aM rfl (aE (af 0)) (af 1)) ak) λmQ=>
 (sv 3 nd (mO (aaz rfl q.abs (af 2)) (Y4 rfl q.int (yY afL (aaz rfl q.abs (af 2)) (aax ak ak)))) λhJ=>
 (SF.fZ (aQ (n:=3) (av 3 (aj (tH (mO (cG rfl (cG rfl (tH (af 2) ak) (mO (mO ak (af 1)) (af 1))) ak) ak) ak) (aj ak ai))) rfl) λ_=>rfl)))
abbrev bu:DF:=dV 56 1 [.p (mT jQ),.v] 1 cf
def J9(D:DI v bu):D.O:=
 abx (n:=1) (fnO (n:=1) (m:=dX) D.fn pM rfl λad dA l hl=>match l,hl with | [ku],_=>λ_ _ _ _ _ _ hr=>show SF _ _ _ [am (.ol (am ad) dA),am (.val ku),ce] _ (dX dA ku) _ from
 (SF.xq 0 rfl rfl (.inl rfl) (cG rfl (aM rfl (bA 0) ak) ak) ak λaP=>
 (SF.US (IQ.t (oT (cu aab (aM rfl (bA 0) ak) ak) (kM (cu aaa (aM rfl (bA 0) ak) ak))))
 (sv 2 pM.nd (tH (aM rfl (bA 0) ak) (af 1)) λuN=>
 (SF.xq 0 rfl rfl (.inl rfl) (aay (aM rfl (bA 0) ak) (af 1)) ak λgq=>
 (SF.aeQ 0 (k:=λx8=>(x8,gq)) rfl (af 2) λ_=>rfl)))
 (SF.xq 0 rfl rfl (.inl rfl) (tH (cG rfl (cG rfl (mO (aM rfl (bA 0) ak) ak) ak) (aM rfl (bA 0) ak)) ak) ak λcA=>
 (SF.aeQ 0 (k:=λpC=>(pC,cA)) rfl (tH (aay (tH (mO (aM rfl (bA 0) ak) (cG rfl (tH (aM rfl (bA 0) ak) ak) ak)) ak) ak) (af 1)) λ_=>rfl))))) So
abbrev dB:DF:=dV 57 2 [.p (mT jQ),.v] 1 cT
def Ka(D:DI v dB)(q:NB v)(aK:bu.C v):D.O:=
 md D λhr nd yr=>
 (SF.c8 (aM rfl (aE (af 1)) (eC aK hr (cC 0 (aj (fe rfl rfl q.len (af 1)) ai)))) λ_=>rfl)
abbrev ir:DF:=dL 58 3 [.p (mT jQ),.v] 1 eO
def G0(D:DI v ir)(q:NB v)(aK:bu.C v)(cU:dB.C v):D.O:=
 OL D λhr nd ku=>
 (sv 2 nd yX λyG=>
 (SF.Xd (bj (n:=2) (aj (eC aK hr (cC 0 (aj ak ai))) (aj (eC cU hr (cC 0 (aj (jC (aQ (n:=6) (aj ak (aj ak (aj ak (aj ak (aj ak (aj ak ai)))))) rfl)) ai))) ai)) rfl) (Hw rfl (cM rfl (aA (cF 3 nd) (aA (cF 4 nd) bI)))) λt13=>
 (sv 5 nd (eC cU hr (cC 0 (aj (jC (aQ (n:=5) (aj yX (aj yX (aj yX (aj yX (aj yX ai))))) rfl)) ai))) λN5=>
 (SF.fZ (da rfl lU (g8 rfl q.range (af 1)) (λ_ _ _ _ _=>(cF 0 lU.nd)) (λ_ _ _ _ _ p23=>(cG rfl (agV (af 2) (tH (cG rfl (af 1) (mO (af 4) (af 0))) ak) (λ_ _=>rfl)) (af 3))) rfl) λ_=>rfl))))
abbrev d8:DF:=dV 59 2 [.p (mT jQ),.v] 1 dY
def xK(D:DI v d8)(q:NB v)(aK:bu.C v):D.O:=
 md D λhr nd yr=>
 (sl 1 nd (ab4 rfl rfl q.list (aE (af 1))) λoU=>
 (SF.vX (hd:=(λ(s3:O PV)=>([am (.oW (mT jQ)),am (.ol ce s3),ce,ce,ce,ce]:br))) (s0:=oU) AB rfl (g8 rfl q.range (wq (sJ rfl rfl q.len (bA 1)) ak)) (.refl _) (cF 2 nd) (λs3 aaV=>
 (SF.aji 1 3 rfl ⋯ rfl rfl (.inl rfl) nd rfl (CN rfl) (eC aK hr (cC 0 (aj (sJ rfl rfl q.len (bA 1)) ai))) λt8=>
 (sv 4 nd (eC aK hr (cC 0 (aj (sJ rfl rfl q.len (bA 1)) ai))) λadi=>
 (sv 5 nd (bj (n:=2) (av 3 (aj (aM rfl (bA 1) (af 4)) ai)) rfl) λz9=>
 (SF.xq 1 rfl rfl (.inl rfl) (wu (cu (mE rfl (bF hr)) (eC aK hr (cC 0 (aj ak ai))) ak) (af 5) (acX rfl (af 5) Gx Gx (Ma (iX ak)))) (af 4) λOj=>
 (SF.eL rfl (.m 60))))))) λs3=>
 (SF.c8 (aM rfl (bA 1) ak) λ_=>rfl)))
abbrev iz:DF:=dV 60 4 [.p (mT jQ),.v] 1 eR
def G5(D:DI v iz)(Hq:ir.C v)(aK:bu.C v)(jW:d8.C v):D.O:=
 md D λhr nd JM=>
 (sl 2 nd (lC Hq hr (cC 0 (aj (cG rfl ak (eC aK hr (cC 0 (av 1 ai)))) ai))) λkL=>
 SF.bN 2 rfl (SF.c8 (bj (n:=2) (aj (eC jW hr (cC 0 (av 2 ai))) (av 2 ai)) rfl) λ_=>rfl))
abbrev iy:DF:=dV 61 3 [.p (mT jQ),.v,.v] 2 eQ
def G4(D:DI v iy)(q:NB v)(aK:bu.C v)(cU:dB.C v)(jW:d8.C v):D.O:=
 md D λhr nd sU JM=>
 (SF.kT (i:=3) rfl nd rfl rfl lW (g8 rfl q.range (cG rfl ak (eC aK hr (cC 0 (av 2 ai))))) (λ_ _ _ _ _=>(cF 0 lW.nd)) (λ_ _ _ _ _ p5=>(eC cU hr (cC 1 (av 2 ai)))) rfl λoU=>
 SF.bN 3 rfl (SF.c8 (eC jW hr (cC 0 (av 3 ai))) λ_=>rfl))
abbrev eW:DF:=dL 62 12 [.v] 1 (a6 12)
theorem qz(D:DI v eW)(q:NB v):∀n,eG v.P v.w v.K v.mg v.base oM (n+0) D.f D.fd (IL (top 62)) (Jo v.K [.v] (kK 1 (a6 n)))
 | 0=>agw (W6 λl Q hl=>match l,hl with | [df],_=>λh=>h.elim)
 | n+1=>have dF:=D.cN (qz D q n)
  fnL (k:=n+0) (n:=1) (m:=a6 (n+1)) D.fn dR rfl (afl X2) λl hl=>match l,hl with | [df],_=>λ_ _ _ _ _ _ hr=>show SF _ _ _ [am (.val df),ce,ce,ce,ce] _ (a6 (n+1) df) _ from
 (SF.US (gH rfl (qM rfl .str rfl q.isinstance (af 0) rfl q.str KF) (λ_=>rfl))
 (SF.fZ (aQ (n:=1) (av 0 ai) rfl) λ_=>rfl)
 (SF.par (i:=1) (j:=2) rfl dR.nd rfl rfl ⋯ rfl rfl (jC (lC dF hr (aj (aM rfl (aE (af 0)) ak) ai))) (jC (lC dF hr (aj (aM rfl (aE (af 0)) ak) ai))) λtm pU=>
 (sl 3 dR.nd (aQ (n:=0) ai rfl) λrO=>
 (SF.vX (hd:=(λ(s7:O PV)=>([am (.val df),am (.val tm),am (.val pU),am (.ol ce s7),ce]:br))) (s0:=rO) AB rfl (bg rfl (aR (af 2))) (.refl _) (cF 4 dR.nd) (λs7 vk=>
 (SF.ifS (out1:=λ(Ĵ:PV)=>.nx ([am (.val df),am (.val tm),am (.val pU),am (.ol ce s7),am (.val Ĵ)]:br)) (sV (gH rfl (qM rfl .str rfl q.isinstance (af 4) rfl q.str KF) (λ_=>rfl)))
 (sv 4 dR.nd (bj (n:=2) (aj (cG rfl (aM rfl (aE (af 4)) ak) (fe rfl rfl q.len (af 1))) (aj (cG rfl (aM rfl (aE (af 4)) ak) (fe rfl rfl q.len (af 1))) ai)) rfl) λOH=>
 (SF.nil rfl (.refl _)))
 (SF.nil rfl (.refl _))
 λĴ=>(SF.append 3 rfl rfl rfl (.inl rfl) (af 4) λu4=>
 (SF.eL rfl (.m 16))))) λs7=>
 (SF.fZ (oq rfl (cK (oq rfl (oV (af 1)) (L1 3))) (cK (aQ (n:=1) (aj (bj (n:=2) (aj (wq (fe rfl rfl q.len (af 1)) ak) (aj (wq (cG rfl (fe rfl rfl q.len (af 1)) (fe rfl rfl q.len (af 2))) ak) ai)) rfl) ai) rfl))) λ_=>rfl)))))
abbrev iA:DF:=dV 63 13 [.p (mT jQ),.v] 1 eS
def G6(D:DI v iA)(q:NB v)(dF:eW.C v)(cU:dB.C v)(aK:bu.C v):D.O:=
 md D λhr nd cB=>
 (sl 2 nd (lC dF hr (av 1 ai)) λbM=>
 SF.bN 2 rfl (sl 3 nd (afy (aQ (n:=1) (aj ak ai) rfl) (fe rfl rfl q.len (af 2))) λHz=>
 (sv 4 nd ak λNu=>
 (SF.aa8 (i:=6) rfl nd rfl rfl gC (nu rfl rfl q.enumerate (aR (af 2))) (λ_ _ _ _ _=>(Hw rfl (cM rfl (aA (cF 0 gC.nd) (aA (cF 1 gC.nd) bI))))) (λ_ _ _ _ _ Wr=>(sV (gH rfl (qM rfl .str rfl q.isinstance (af 1) rfl q.str KF) (λ_=>rfl)))) (λ_ _ _ _ _ Wr=>(af 0)) (QR rfl rfl ⋯) ⋯ λmW=>
 (SF.vX (hd:=(λ(pN:O PV×PV×O PV)=>([am (.oW (mT jQ)),am (.val cB),am (.val (.cl bM)),am (.ol ce pN.1),am (.val pN.2.1),ce,am (.ol ce pN.2.2),ce,ce]:br))) (s0:=(Hz,Nu,mW)) AB rfl (g8 rfl q.range (sJ rfl rfl q.len (bA 6))) (.refl _) (cF 7 nd) (λpN N2=>
 (sl 8 nd (aQ (n:=0) ai rfl) λHy=>
 (SF.agt 6 (hd:=(λadl (ZN:O PV)=>([am (.oW (mT jQ)),am (.val cB),am (.val (.cl bM)),am (.ol ce pN.1),am (.val pN.2.1),ce,am (.ol (am adl) pN.2.2),am (.val N2),am (.ol ce ZN)]:br))) (s0:=Hy) rfl rfl rfl (.inl rfl) AB rfl (λ_=>(.refl _)) (λ_ _=>rfl) (cF 5 nd) (λadl ZN Px=>
 (SF.ifT (IQ.t (oT (zI rfl (bF hr) (aM rfl (aE (aM rfl (aE (af 2)) (af 5))) ak) (bA 6)) (kM (zI rfl (bF hr) (aM rfl (aE (aM rfl (aE (af 2)) (af 5))) ak) (bA 6)))))
 (SF.append 8 rfl rfl rfl (.inl rfl) (af 5) λO8=>
 (SF.eL rfl (.m 32)))
 (SF.eL rfl (.m 32)))) λadl ZN=>
 (SF.bN 8 rfl (sv 5 nd (eC cU hr (cC 0 (av 8 ai))) λWa=>
 (sv 4 nd (cG rfl (cG rfl (af 4) ak) (eC aK hr (cC 0 (aj ak ai)))) λIe=>
 (SF.xq 3 rfl rfl (.inl rfl) (af 4) (af 5) λKq=>
 (SF.remove 6 rfl rfl rfl (.inl rfl) (af 5) λuT=>
 (SF.eL rfl (.m 416)))))))))) λpN=>
 (SF.c8 (bz rfl rfl q.tuple (bA 3)) λ_=>rfl))))))
abbrev iw:DF:=dV 64 14 [.p (mT jQ),.v] 1 gZ
def G3(D:DI v iw)(aK:bu.C v)(Vb:qQ.C v)(YT:uP.C v)(Hv:iA.C v):D.O:=
 md D λhr nd cB=>
 (SF.US (cu (mE rfl (bF hr)) (eC aK hr (cC 0 (aj ak ai))) ak)
 (SF.c8 (eC Vb hr (av 1 ai)) λ_=>rfl)
 (SF.c8 (eC YT hr (av 1 (aj (eC Hv hr (cC 0 (av 1 ai))) ai))) λ_=>rfl))
abbrev d7:DF:=dV 65 3 [.p (mT jQ)] 0 cq
def xJ(D:DI v d7)(q:NB v)(aK:bu.C v)(cU:dB.C v):D.O:=
 md D λhr nd=>
 (sl 1 nd (aQ (n:=0) ai rfl) λeT=>
 (SF.vX (hd:=(λ(s3:O PV)=>([am (.oW (mT jQ)),am (.ol ce s3),ce,ce]:br))) (s0:=eT) AB rfl (g8 rfl q.range ak) (.refl _) (cF 2 nd) (λs3 k_4=>
 (sl 3 nd (aQ (n:=7) (aj ak (aj ak (aj ak (aj ak (aj ak (aj (eC aK hr (cC 0 (aj ak ai))) (aj (eC aK hr (cC 0 (aj ak ai))) ai))))))) rfl) λSM=>
 SF.bN 3 rfl (sl 3 nd (oq rfl (oV (af 3)) (cK (aQ (n:=2) (aj ak (aj (cG rfl (aax ak ak) (eC aK hr (cC 0 (aj ak ai)))) ai)) rfl))) λOi=>
 SF.bN 3 rfl (SF.append 1 rfl rfl rfl (.inl rfl) (eC cU hr (cC 0 (av 3 ai))) λKr=>
 (SF.eL rfl (.m 12)))))) λs3=>
 (SF.c8 (bz rfl rfl q.tuple (bA 1)) λ_=>rfl)))
abbrev jI:DF:=dV 66 15 [.p (mT jQ),.v,.v] 2 gj
def Kc(D:DI v jI)(Hu:iz.C v)(Hs:iw.C v)(Ht:iy.C v)(dF:eW.C v)(jV:d7.C v):D.O:=
 md D λhr nd tE sY=>
 (SF.Xd (eC Hu hr (cC 0 (av 1 ai))) (Hw rfl (cM rfl (aA (cF 3 nd) (aA (cF 4 nd) bI)))) λt3=>
 (sv 5 nd (eC Hs hr (cC 0 (av 3 ai))) λpK=>
 (sv 6 nd (eC Ht hr (cC 0 (av 4 (av 2 ai)))) λkS=>
 (SF.c8 (bj (n:=4) (av 5 (av 6 (aj (jC (lC dF hr (av 6 ai))) (aj (eC jV hr (cC 0 ai)) ai)))) rfl) λ_=>rfl))))
abbrev iu:DF:=dv 67 1 2 gY
def G1(D:DI v iu)(q:NB v):D.O:=
 md D λhr nd LO ku=>
 (sl 2 nd (aQ (n:=0) ai rfl) λeT=>
 (SF.vX (hd:=(λ(s2:O PV)=>([am (.val LO),am (.val ku),am (.ol ce s2),ce]:br))) (s0:=eT) AB rfl (bg rfl (aR (af 0))) (.refl _) (cF 3 nd) (λs2 Oo=>
 (SF.append 2 rfl rfl rfl (.inl rfl) (bz rfl rfl q.tuple (jh (da rfl lV (bg rfl (aR (af 3))) (λ_ _ _ _ _=>(cF 0 lV.nd)) (λ_ _ _ _ _ p6=>(wu (cu lu (af 0) fc) fc (mO (af 1) (af 0)))) rfl))) λuJ=>
 (SF.eL rfl (.m 8)))) λs2=>
 (SF.c8 (bz rfl rfl q.tuple (bA 2)) λ_=>rfl)))
abbrev eX:DF:=dv 68 1 2 cQ
def vM(D:DI v eX)(q:NB v):D.O:=
 md D λhr nd Gu kW=>
 (SF.aap (hd:=(λ(s3:Unit)=>([am (.val Gu),am (.val kW),ce,ce,ce,ce]:br))) (s0:=()) (inj:=id) AB rfl (jT rfl rfl q.zip (aR (af 0)) (aR (af 1))) (.refl _) (λ_=>(Hw rfl (cM rfl (aA (cF 2 nd) (aA (cF 3 nd) bI))))) (λ_=>trivial) (λs3 t5=>
 (SF.aap (hd:=(λ(s8:Unit)=>([am (.val Gu),am (.val kW),am (.val t5.1),am (.val t5.2),ce,ce]:br))) (s0:=()) (inj:=Lp.out) AB rfl (jT rfl rfl q.zip (aR (af 2)) (aR (af 3))) (.refl _) (λ_=>(Hw rfl (cM rfl (aA (cF 4 nd) (aA (cF 5 nd) bI))))) (λ_=>trivial) (λs8 ā=>
 (SF.US (cu (OV rfl (bF hr)) (yY lu (af 4) fc) (yY lu (af 5) fc))
 (SF.ret (k:=λnU=>(Lp.out nU)) HQ λ_=>rfl)
 (SF.ifT (IQ.t (oT (cu OW (af 4) fc) (kM (cu aab (af 4) (af 5)))))
 (SF.ret (k:=λpC=>(Lp.out pC)) HQ λ_=>rfl)
 (SF.eL rfl (.m 48))))) λs8=>
 (SF.eL rfl (.m 12)))) λs3=>
 (SF.c8 HQ λ_=>rfl))
abbrev lJ:DF:=dv 69 1 2 lg
def MH(D:DI v lJ)(q:NB v):D.O:=
 md D λhr nd Gu kW=>
 (sl 2 nd (aQ (n:=0) ai rfl) λeT=>
 (SF.Kt (hd:=(λ(s4:O PV)=>([am (.val Gu),am (.val kW),am (.ol ce s4),ce,ce,ce,ce,ce]:br))) (s0:=eT) AB rfl (jT rfl rfl q.zip (aR (af 0)) (aR (af 1))) (.refl _) (λ_=>(Hw rfl (cM rfl (aA (cF 3 nd) (aA (cF 4 nd) bI))))) (λs4 t6=>
 (sl 5 nd (aQ (n:=0) ai rfl) λS0=>
 (SF.Kt (hd:=(λ(ë:O PV)=>([am (.val Gu),am (.val kW),am (.ol ce s4),am (.val t6.1),am (.val t6.2),am (.ol ce ë),ce,ce]:br))) (s0:=S0) AB rfl (jT rfl rfl q.zip (aR (af 3)) (aR (af 4))) (.refl _) (λ_=>(Hw rfl (cM rfl (aA (cF 6 nd) (aA (cF 7 nd) bI))))) (λë Wr=>
 (SF.append 5 rfl rfl rfl (.inl rfl) (wu (IQ.t (Sk (cu lu (af 6) fc) (LJ (cu lu (af 7) fc)))) fc (cG rfl (af 6) (af 7))) λS2=>
 (SF.eL rfl (.m 192)))) λë=>
 (SF.append 2 rfl rfl rfl (.inl rfl) (bz rfl rfl q.tuple (bA 5)) λKs=>
 (SF.eL rfl (.m 56)))))) λs4=>
 (SF.c8 (bz rfl rfl q.tuple (bA 2)) λ_=>rfl)))
abbrev aaC:DF:=dv 70 16 1 vv
def afK(D:DI v aaC)(q:NB v)(Ko:jH.C v)(Kp:jI.C v)(aK:bu.C v)(jV:d7.C v)(jx:nH.C v)(Hr:iu.C v)(Hm:uO.C v)(iW:eX.C v)(M5:lJ.C v)(Kl:jF.C v)(Va:qP.C v)(Ri:nM.C v):D.O:=
 md D λhr nd jg=>
 (SF.agu (hd:=(λ(s6:Unit)=>([am (.val jg),ce,ce,ce,ce,ce,ce,ce,ce,ce,ce,ce,ce,ce,ce]:br))) (s0:=()) (inj:=id) AB rfl (g8 rfl q.range (agS rfl rfl q.max ak (VF rfl rfl q.min ak (fe rfl rfl q.len (af 0))))) (.refl _) (cF 1 nd) (λ_=>trivial) (λs6 k_7=>
 (sl 2 nd (lC Ko hr (av 0 (av 1 ai))) λtD=>SF.oW 2 rfl
 (SF.Xd (eC Kp hr (cC 2 (aj (aM rfl (jh (aQ (n:=2) (aj ak (aj ak ai)) rfl)) (eC aK hr (cC 2 (aj ak ai)))) (aj ak ai)))) (g_4 rfl (cM rfl (aA (cF 3 nd) (aA (cF 4 nd) (aA (cF 5 nd) (aA (cF 6 nd) bI)))))) λuY=>
 (SF.Xd (bj (n:=2) (aj (cG rfl ak (eC aK hr (cC 2 (aj ak ai)))) (aj (eC jV hr (cC 2 ai)) ai)) rfl) (Hw rfl (cM rfl (aA (cF 7 nd) (aA (cF 8 nd) bI)))) λWV=>
 (sv 6 nd (bz rfl rfl q.tuple (jh (da rfl J1 (bg rfl (aR (af 6))) (λ_ _ _ _ _=>(cF 0 J1.nd)) (λ_ _ _ _ _ p25=>(VF rfl rfl q.min ak (af 0))) rfl))) λcL=>
 (sv 9 nd (eC jx hr (av 3 (av 4 (av 6 ai)))) λqH=>
 (sv 10 nd (bz rfl rfl q.tuple (jh (da rfl J0 (bg rfl (aR (af 6))) (λ_ _ _ _ _=>(cF 0 J0.nd)) (λ_ _ _ _ _ p34=>(mO (af 1) (af 0))) rfl))) λzA=>
 (SF.US (cu (OV rfl (bF hr)) (eC jx hr (av 3 (av 4 (av 10 ai)))) (eC Hr hr (av 9 (av 7 ai))))
 (SF.ret (k:=λx40=>(Lp.out x40)) HQ λ_=>rfl)
 (SF.US (cu (OV rfl (bF hr)) (eC Hm hr (av 3 (av 4 (av 10 ai)))) (mO (af 7) (eC Hm hr (av 3 (av 4 (av 6 ai))))))
 (SF.ret (k:=λx47=>(Lp.out x47)) HQ λ_=>rfl)
 (sv 8 nd (bz rfl rfl q.tuple (jh (da rfl JZ (bg rfl (aR (af 8))) (λ_ _ _ _ _=>(cF 0 JZ.nd)) (λ_ _ _ _ _ p50=>(VF rfl rfl q.min ak (af 0))) rfl))) λmn=>
 (sv 11 nd (bz rfl rfl q.tuple (jh (Ms rfl vG (jT rfl rfl q.zip (aR (af 6)) (aR (af 8))) (λ_ _ _ _ _=>(Hw rfl (cM rfl (aA (cF 0 vG.nd) (aA (cF 1 vG.nd) bI))))) (λ_ _ _ _ _ Ā=>(cG rfl (af 0) (af 1))) (QR rfl rfl ⋯) ⋯))) λPu=>
 (SF.par (i:=12) (j:=13) rfl nd rfl rfl ⋯ rfl rfl (eC jx hr (av 3 (av 4 (av 8 ai)))) (eC jx hr (av 3 (av 4 (av 11 ai)))) λrQ pG=>
 (SF.US (IQ.t (Sk (sV (gH rfl (eC iW hr (av 9 (av 13 ai))) (λ_=>rfl))) (LJ (sV (gH rfl (eC iW hr (av 12 (av 13 ai))) (λ_=>rfl))))))
 (SF.ret (k:=λx71=>(Lp.out x71)) HQ λ_=>rfl)
 (SF.US (sV (gH rfl (eC iW hr (aj (eC M5 hr (av 9 (av 12 ai))) (av 13 ai))) (λ_=>rfl)))
 (SF.ret (k:=λx76=>(Lp.out x76)) HQ λ_=>rfl)
 (sv 14 nd (eC Kl hr (av 3 (av 4 (av 6 ai)))) λSe=>
 (SF.ifT (cu OX (eC Va hr (av 8 (aj (eC Ri hr (av 3 (av 14 ai))) ai))) (eC Hm hr (av 3 (av 4 (av 8 ai)))))
 (SF.ret (k:=λx88=>(Lp.out x88)) HQ λ_=>rfl)
 (SF.eL rfl (.m 32766)))))))))))))))))) λs6=>
 (SF.c8 HQ λ_=>rfl))
end
def all_d{K:Ab}(X:K.In h)(G:h.Ns lw mg)(Nh:DX K "parts_of" (top 1))(Y6:DX K "nodes" (top 2))(VG:DX K "halves" (top 3))(Nm:DX K "ahead_of" (top 4))(Nc:DX K "under_at" (top 9))(KH:DX K "beside_at" (top 10))(Rn:DX K "is_home" (top 11))(Rl:DX K "name_of" (top 12))(Nj:DX K "lines_up" (top 13))(HS:DX K "apart_from" (top 14))(VH:DX K "ground" (top 15))(KC:DX K "split_ins" (top 22))(Ni:DX K "over_ins" (top 23))(Nk:DX K "deeds_at" (top 24))(xU:DX K "ways_within" (top 25))(VB:DX K "summed" (top 28))(Nl:DX K "cheapest" (top 29))(Ng:DX K "price_of" (top 30))(KG:DX K "deed_cost" (top 31))(HP:DX K "deed_costs" (top 32))(KA:DX K "step_cost" (top 33))(HK:DX K "step_costs" (top 34))(VC:DX K "row_of" (top 35))(Y5:DX K "table" (top 36))(Y7:DX K "least" (top 37))(xV:DX K "split_dates" (top 39))(Nf:DX K "standing" (top 40))(Rk:DX K "stay_of" (top 41))(Y8:DX K "dated" (top 42))(Rm:DX K "lost_on" (top 44))(Ro:DX K "counted" (top 45))(VD:DX K "priced" (top 46))(xX:DX K "least_deeds" (top 48))(xW:DX K "least_steps" (top 49))(KO:CD K "LeastWays" "LeastWays.__init__" (nQ (top 50)) ["told","deeds","steps","begins"])(agT:DX K "led" (top 51))(HN:DX K "first_pick" (top 52))(e_least_way:DXc K "least_way" (top 53) 250)(KL:DX K "_law_hand" (top 55))(KI:DX K "_law_take" (top 56))(KJ:DX K "_law_pick" (top 57))(HU:DX K "_law_words" (top 58))(xZ:DX K "_law_joined" (top 59))(HZ:DX K "_law_great" (top 60))(HX:DX K "_law_small" (top 61))(HY:DX K "_law_nodes" (top 62))(H9:DX K "_law_dates" (top 63))(HW:DX K "_law_stays" (top 64))(xY:DX K "_law_prices" (top 65))(KN:DX K "_law_case" (top 66))(HV:DX K "_law_times" (top 67))(wx:DX K "_law_no_more" (top 68))(Nn:DX K "_law_sum" (top 69))(qT:AH K lw "UNDER"=am (am (.int 2 N6)))(mR:AH K lw "BESIDE"=am (am (.int 3 Ji)))(wB:AH K lw "NAME"=am (am (.int 0 Sw)))(qV:AH K lw "FOUND"=am (am (.str "found" N8)))(qU:AH K lw "SPLIT"=am (am (.str "split" N7)))(wA:AH K lw "OVER"=am (am (.str "over" Sv)))(kG:AH K lw "DOUBLED"=am (am (.str "doubled" yo)))(iB:AH K lw "DEEDS"=am (am (.ref nS)))(lq:NK K nS ["split","doubled","over"])(wC:AH K lw "LOST"=am (am (.int 3 Sx)))(zx:AH K lw "isinstance"=am ce)(aec:AH K lw "str"=am ce)(aaM:AH K lw "list"=am ce)(LB:AH K lw "reversed"=am ce)(aef:AH K lw "len"=am ce)(WH:AH K lw "tuple"=am ce)(IV:AH K lw "enumerate"=am ce)(WI:AH K lw "range"=am ce)(R6:AH K lw "sorted"=am ce)(aeb:AH K lw "sum"=am ce)(aed:AH K lw "min"=am ce)(aea:AH K lw "zip"=am ce)(aaN:AH K lw "dict"=am ce)(aeh:AH K lw "abs"=am ce)(aeg:AH K lw "int"=am ce)(aee:AH K lw "max"=am ce):ahj K mg aaC:=by
 constructor
 rintro v rfl rfl D;have q:∀b,NB (v.at b):=λb=>⟨AX X G zx,AX X G aec,AX X G aaM,AX X G LB,AX X G aef,AX X G WH,AX X G IV,AX X G WI,AX X G R6,AX X G aeb,AX X G aed,AX X G aea,AX X G aaN,AX X G aeh,AX X G aeg,AX X G aee⟩;replace qT:=BM X G qT;replace mR:=BM X G mR;replace wB:=BM X G wB;replace qV:=BM X G qV;replace qU:=BM X G qU;replace wA:=BM X G wA;replace kG:=BM X G kG;replace iB:=BM X G iB;replace wC:=BM X G wC;obtain⟨wR⟩:=Nh.f9 (d:=lG) X G;have NN:∀b,lG.C (v.at b):=λb=>(wR.at b).c (Mx (wR.at b) (q b));obtain⟨PN⟩:=Y6.f9 (d:=jE) X G;have qZ:∀b,jE.C (v.at b):=λb=>(PN.at b).c (Yv (PN.at b) (q b) (NN b));obtain⟨Lo⟩:=VG.f9 (d:=gz) X G;have mS:∀b,gz.C (v.at b):=λb=>(Lo.at b).c (UG (Lo.at b) (q b));obtain⟨wY⟩:=Nm.f9 (d:=iZ) X G;have wJ:∀b,iZ.C (v.at b):=λb=>(wY.at b).c (MF (wY.at b) (q b) (qZ b) (mS b));obtain⟨wN⟩:=Nc.f9 (d:=cZ) X G;have fB:∀b,cZ.C (v.at b):=λb=>(wN.at b).c (Mu (wN.at b) qT);obtain⟨tT⟩:=KH.f9 (d:=jG) X G;have Lb:∀b,jG.C (v.at b):=λb=>(tT.at b).c (J8 (tT.at b) mR);obtain⟨zv⟩:=Rn.f9 (d:=nK) X G;have RM:∀b,nK.C (v.at b):=λb=>(zv.at b).c (Q0 (zv.at b) wB (fB b));obtain⟨zr⟩:=Rl.f9 (d:=kF) X G;have zi:∀b,kF.C (v.at b):=λb=>(zr.at b).c (QY (zr.at b) (q b));obtain⟨wV⟩:=Nj.f9 (d:=lI) X G;have NQ:∀b,lI.C (v.at b):=λb=>(wV.at b).c (MB (wV.at b) (q b) (wJ b));obtain⟨rk⟩:=HS.f9 (d:=iq) X G;have Iw:∀b,iq.C (v.at b):=λb=>(rk.at b).c (GZ (rk.at b) (q b));obtain⟨Lq⟩:=VH.f9 (d:=qQ) X G;have Wj:∀b,qQ.C (v.at b):=λb=>(Lq.at b).c (UH (Lq.at b) (q b) (qZ b) (NQ b) (zi b) (mS b) (Iw b));obtain⟨tQ⟩:=KC.f9 (d:=jD) X G;have K9:∀b,jD.C (v.at b):=λb=>(tQ.at b).c (J5 (tQ.at b) (q b) (fB b));obtain⟨wU⟩:=Ni.f9 (d:=lH) X G;have NP:∀b,lH.C (v.at b):=λb=>(wU.at b).c (Mz (wU.at b) (Lb b));obtain⟨wW⟩:=Nk.f9 (d:=iY) X G;have wI:∀b,iY.C (v.at b):=λb=>(wW.at b).c (MC (wW.at b) (q b) qV qU wA kG (RM b) (K9 b) (NP b));obtain⟨oC⟩:=xU.f9 (d:=fK) X G;have yf:∀b,fK.C (v.at b):=λb=>(oC.at b).c (xF (oC.at b) (q b));obtain⟨Lk⟩:=VB.f9 (d:=kE) X G;have wH:∀b,kE.C (v.at b):=λb=>(Lk.at b).c (UB (Lk.at b) (q b));obtain⟨wX⟩:=Nl.f9 (d:=fv) X G;have pz:∀b,fv.C (v.at b):=λb=>(wX.at b).c (MD (wX.at b) (q b));obtain⟨wQ⟩:=Ng.f9 (d:=lF) X G;have NM:∀b,lF.C (v.at b):=λb=>(wQ.at b).c (Mw (wQ.at b) iB lq);obtain⟨tS⟩:=KG.f9 (d:=gA) X G;have tN:∀b,gA.C (v.at b):=λb=>(tS.at b).c (J7 (tS.at b) (q b) (mS b) (wH b) (NM b));obtain⟨rj⟩:=HP.f9 (d:=ip) X G;have Iv:∀b,ip.C (v.at b):=λb=>(rj.at b).c (GY (rj.at b) (wI b) (tN b));obtain⟨tP⟩:=KA.f9 (d:=gw) X G;have tM:∀b,gw.C (v.at b):=λb=>(tP.at b).c (J4 (tP.at b) (q b) wC (fB b));obtain⟨rf⟩:=HK.f9 (d:=ic) X G;have Ir:∀b,ic.C (v.at b):=λb=>(rf.at b).c (GU (rf.at b) (tM b) (fB b) (wH b));obtain⟨Ll⟩:=VC.f9 (d:=qO) X G;have Wh:∀b,qO.C (v.at b):=λb=>(Ll.at b).c (UC (Ll.at b) (q b) (Iv b) (Ir b) (pz b));obtain⟨PM⟩:=Y5.f9 (d:=nH) X G;have Iq:∀b,nH.C (v.at b):=λb=>(PM.at b).c (Yu (PM.at b) (q b) (qZ b) (Wh b));obtain⟨PQ⟩:=Y7.f9 (d:=uO) X G;have Zs:∀b,uO.C (v.at b):=λb=>(PQ.at b).c (Yw (PQ.at b) (pz b) (Iq b));obtain⟨oE⟩:=xV.f9 (d:=fM) X G;have yg:∀b,fM.C (v.at b):=λb=>(oE.at b).c (xG (oE.at b) (q b));obtain⟨wO⟩:=Nf.f9 (d:=lE) X G;have NL:∀b,lE.C (v.at b):=λb=>(wO.at b).c (Mv (wO.at b) (q b) (wJ b));obtain⟨zp⟩:=Rk.f9 (d:=nI) X G;have RK:∀b,nI.C (v.at b):=λb=>(zp.at b).c (QX (zp.at b) (q b) (mS b) (zi b));obtain⟨PR⟩:=Y8.f9 (d:=uP) X G;have Zt:∀b,uP.C (v.at b):=λb=>(PR.at b).c (Yx (PR.at b) (q b) (qZ b) (yg b) (NL b) (RK b));obtain⟨zu⟩:=Rm.f9 (d:=nJ) X G;have RL:∀b,nJ.C (v.at b):=λb=>(zu.at b).c (QZ (zu.at b) (q b) (fB b));obtain⟨zw⟩:=Ro.f9 (d:=nM) X G;have RN:∀b,nM.C (v.at b):=λb=>(zw.at b).c (Q1 (zw.at b) (q b) iB lq (yf b) (RL b));obtain⟨Ln⟩:=VD.f9 (d:=qP) X G;have Wi:∀b,qP.C (v.at b):=λb=>(Ln.at b).c (UD (Ln.at b) (q b));obtain⟨oI⟩:=xX.f9 (d:=fP) X G;have yi:∀b,fP.C (v.at b):=λb=>(oI.at b).c (xI (oI.at b) (wI b) (tN b));obtain⟨oH⟩:=xW.f9 (d:=fN) X G;have yh:∀b,fN.C (v.at b):=λb=>(oH.at b).c (xH (oH.at b) (q b) (tM b) (fB b) (wH b));obtain⟨tY⟩:=KO.f9 (d:=jJ) X G;have Lf:∀b,jJ.C (v.at b):=λb=>⟨tY.at b,Ke (tY.at b) (q b) (Iq b) (qZ b) (yi b) (yh b) (pz b)⟩;obtain⟨oG⟩:=agT.f9 (d:=(aaB 0 [] [] [] λ_ _=>.fail)) X G;have ahf:HF v.P v.w v.K v.mg 2 3 "led" 4 ["told","begin","pick"] λfa us qs fz g=>xn v.K [.v,.v,.f fa us qs fz] (kK 2 (yE g)):=⟨oG.f,oG.fd,oG.bi,oG.fn.kp,oG.at',λ{pl qs g} b fa us fz ⟨A⟩=>afJ (v:=v.at b) (fa:=fa) (us:=us) (qs:=qs) (fz:=fz) (pick_:=g) ⟨oG.f,oG.fd,oG.fn,oG.bi,oG.at'⟩ (q b) A (mS b)⟩;obtain⟨rh⟩:=HN.f9 (d:=ik) X G;have Iu:∀b,ik.C (v.at b):=λb=>(rh.at b).c (GW (rh.at b) (q b));obtain⟨tR,Lh⟩:=e_least_way.mk3 (d:=jF) X G;have Lg:PJ 250 "least_way.<locals>.<lambda>":=⟨by decide +kernel,by decide +kernel⟩;have La:∀b,jF.C (v.at b):=λb=>(tR.at b).c (J6 (tR.at b) Lh Lg ahf Iu (Lf b));obtain⟨tW⟩:=KL.f9 (d:=jH) X G;have Lc:∀b,jH.C (v.at b):=λb=>(tW.at b).c (Kb (tW.at b) (q b));obtain⟨tU⟩:=KI.f9 (d:=bu) X G;have cD:∀b,bu.C (v.at b):=λb=>(tU.at b).c (J9 (tU.at b));obtain⟨tV⟩:=KJ.f9 (d:=dB) X G;have jM:∀b,dB.C (v.at b):=λb=>(tV.at b).c (Ka (tV.at b) (q b) (cD b));obtain⟨rq⟩:=HU.f9 (d:=ir) X G;have Iy:∀b,ir.C (v.at b):=λb=>(rq.at b).c (G0 (rq.at b) (q b) (cD b) (jM b));obtain⟨oK⟩:=xZ.f9 (d:=d8) X G;have oA:∀b,d8.C (v.at b):=λb=>(oK.at b).c (xK (oK.at b) (q b) (cD b));obtain⟨rE⟩:=HZ.f9 (d:=iz) X G;have IC:∀b,iz.C (v.at b):=λb=>(rE.at b).c (G5 (rE.at b) (Iy b) (cD b) (oA b));obtain⟨rC⟩:=HX.f9 (d:=iy) X G;have IB:∀b,iy.C (v.at b):=λb=>(rC.at b).c (G4 (rC.at b) (q b) (cD b) (jM b) (oA b));obtain⟨rD⟩:=HY.f9 (d:=eW) X G;have q8:∀b,eW.C (v.at b):=λb=>(rD.at b).c (qz (rD.at b) (q b) 12);obtain⟨rF⟩:=H9.f9 (d:=iA) X G;have ID:∀b,iA.C (v.at b):=λb=>(rF.at b).c (G6 (rF.at b) (q b) (q8 b) (jM b) (cD b));obtain⟨rB⟩:=HW.f9 (d:=iw) X G;have IA:∀b,iw.C (v.at b):=λb=>(rB.at b).c (G3 (rB.at b) (cD b) (Wj b) (Zt b) (ID b));obtain⟨oJ⟩:=xY.f9 (d:=d7) X G;have oz:∀b,d7.C (v.at b):=λb=>(oJ.at b).c (xJ (oJ.at b) (q b) (cD b) (jM b));obtain⟨tX⟩:=KN.f9 (d:=jI) X G;have Ld:∀b,jI.C (v.at b):=λb=>(tX.at b).c (Kc (tX.at b) (IC b) (IA b) (IB b) (q8 b) (oz b));obtain⟨rA⟩:=HV.f9 (d:=iu) X G;have Iz:∀b,iu.C (v.at b):=λb=>(rA.at b).c (G1 (rA.at b) (q b));obtain⟨mV⟩:=wx.f9 (d:=eX) X G;have wK:∀b,eX.C (v.at b):=λb=>(mV.at b).c (vM (mV.at b) (q b));obtain⟨wZ⟩:=Nn.f9 (d:=lJ) X G;have NR:∀b,lJ.C (v.at b):=λb=>(wZ.at b).c (MH (wZ.at b) (q b));exact afK D (q v.base) (Lc v.base) (Ld v.base) (cD v.base) (oz v.base) (Iq v.base) (Iz v.base) (Zs v.base) (wK v.base) (NR v.base) (La v.base) (Wi v.base) (RN v.base)
end My
end
open PySem PySem.W PyProof.Rows
structure PySem.W.Fast:Prop where(tw4785808428873795428 tw5646334575190004956 tw5853788620853361993 tw2148851283005701802 tw17713507018917055821 tw1495999061650177559 tw7842357201874065354 tw6056313023193699676 tw16489647053677372035 tw10762273223030640293 tw4413342786046662198 tw13272537465396939098 tw8209532989315114367 tw1920324101267883495 tw17668569154145618853 tw11771739190586418715 tw8972838107942318841 tw4520999803487474470 tw12069669121348733715 tw8430418617257576435 tw18145053733266027000 tw10223654417140475780 tw6296261220304927144 tw6115906425450100058 tw13841685821912906569 tw17139306913952715647 tw17367105105734382027 tw14652900705565448084 tw13469022653688455699 tw14486907788483341998 tw10891229148324934720 tw10090148969000449174 tw6293815448844877364 tw4476708702670632771 tw14864074000951053050 tw2067569913220666944 tw4836125924893638624 tw4080414292283657147 tw14190546512994835846 tw14459338174960644799 tw17089756751943684417 tw16712451101089698052 tw8001603157542895051 tw10706264425036025746 tw2155784489427091329 tw3430569697582419013 tw4397106874589984390 tw7060918688666382783 tw7946314184665526466 tw4592451238140231680 tw14063086276931543447 tw15906707700973472378 tw14649820405605541682 tw9904185150419581755 tw11190560728760479129 tw11744265642090846043 tw17934534913034747348 tw746537158153189885 tw10951729288361145494 tw16460308938998748245 tw3922942577915913200 tw417501450635866495 tw12976840047164058235 tw11642533654161378631 tw16010854065246821694 tw2986204305503353957 tw1959539790193577482 tw15072586292959739025 tw5184938223411068593 tw15724246006954128070 tw8819330643421527647 tw9063451259385042568 tw12322850647121027931 tw6746583040839919880 tw7348058649310756839 tw17854564568698340378 tw17671540956354110736 tw16782979348150580482 tw10821268540506307532 tw17350399096701926695 tw13240593668319934115 tw4515211457112017594 tw5126765387719211805 tw9375704438290469548 tw15282189794965815939 tw5650673732653809760 tw16597833051980618342 tw14971092103471598068 tw2996740512214589587 tw700635220134100821 tw18094021678642885047 tw3158839092099504326 tw14551653528550553633 tw12799349196555237083 tw2667038553863766097 tw242116089765568107 tw14087765581753054493 tw5802950112029741284 tw9321072754291751152 tw14019443886120750259 tw14006466480874128377 tw5775493607386772756 tw1722460436241905192 tw8204568453079148198 tw7515857148002536570 tw1661956817858394385 tw3843138532723504541 tw13254178045962429141 tw16771256464470445930 tw10296126346808956673 tw6038996493982602950 tw12652135125442980193 tw1252476785002722431 tw10723489915993750576 tw15106496712298991345 tw5864971731047043974 tw17766934695302101470 tw809043038013533271 tw16806780744859697706 tw5345214091553706136 tw1537679451916441048 tw6322056547141580250 tw14935321702652215608 tw16106770650383453386 tw11420107873730124281 tw11798112387812052978 tw7414692439715507081 tw13349833851403675873 tw15457998423206491501 tw15186119823667432449 tw14965555837604681661 tw7682112591393225401 tw4396738579282279250 tw4281781252927220771 tw16719093425829709041 tw5947890077447073865 tw16416895174385899849 tw12797779505589062543 tw256943494111717861 tw7255552440027442284 tw4479733695220818379 tw5897884937632377648 tw15597672487888874782 tw8335360503523172815 tw3539595136236054629 tw11662956463702035264 tw10505984464240704207 tw5416438856396210737 tw17047125880567511604 tw4445723539150616868 tw982124901537482085 tw12117636077524483583 tw16928541861220349807 tw18041207100854919067 tw5205013561191783821 tw10707951148048329511 tw16631831890362033913 tw1974919386001548868 tw1966470166434530303 tw10686280301537416167 tw14476137878740802530 tw12076756226294686519 tw10659312176953441686 tw6043692454060703614 tw6064939583368738824 tw11478378603220925459 tw13257014479908002277 tw12620245513925523519 tw6752483877514711440 tw18178488976885877409 tw4564751653870550760 tw4998863001489922117 tw12762872625822324941 tw14597764071585020066 tw4138142440888961787 tw5387147356623065868 tw1208901352046205064 tw13288934670023940399 tw12838102423239519815 tw308195058134518499 tw12519987635169295454 tw8510100659693248462 tw10869798809245579024 tw166079362895453535 tw5824001330752331260 tw3262577231154740684 tw9331516435156099865 tw14007550843101540453 tw3556216578574194234 tw15517341297906316424 tw5603690051096556621 tw1355561243424885930 tw725089629798982040 tw4684976136176164102 tw14204569314805390213 tw7375676997104539456 tw6321931765577560654 tw6258818104707364506 tw13782306961384246171 tw16478098479679934073 tw6273076778343193942 tw224121380717299173 tw1538684582944034440 tw2542523648515213925 tw16466976460879512251 tw11865280309919450146 tw13372481360177800120 tw2310513499743874887 tw10132725553499551793 tw16927481182885050332 tw9267445404913938544 tw6010418602501516156 tw16782224740558958930 tw9727887060767316183 tw14169673094220504792 tw17853261887834310818 tw9855167527855595256 tw3264588942547896107 tw7989498971234930821 tw6343460405316723007 tw18112795303914899280 tw4771780285076397867 tw13258278422338633060 tw8332086827787534702 tw3128697730492780540 tw6662747379100357721 tw1134403425506724080 tw11262992940377395842 tw18206870984171655449 tw1558279585037108867 tw2837700514198354585 tw2141034147201742242 tw18201720457227986347 tw14407030912507739359 tw1583162577231399966 tw6931001232077701112 tw10658185437008759488 tw8961198192978522276 tw1150264267713801548 tw5830290960239886841 tw14051374559140479857 tw1576519419603886713 tw2151708604918303904 tw4041091932609760440 tw1307319915454936548 tw15017669982088830608 tw11674862260513791196 tw7822350694356036114 tw4887062291479140260 tw7851156543351345762 tw4455998307254960769 tw825231768820631087 tw16793898499295807679 tw10591182889063731006 tw401345477232042156 tw3741405804158887871 tw10278973909291053402 tw16213164217305469861 tw2435192105873700913 tw14112462592941819316 tw8051034644591954170 tw11508217539792572989 tw16859331635518204477 tw17693696752735617113 tw15449242329504539051 tw6517345361419786282 tw6202560722590286613 tw10920445468761700405 tw7900559728215120248 tw172115340470813321 tw12814752474856157552 tw5080191808863867514 tw10279286031190572616 tw3322905479923237070 tw10174036520930465991 tw8949322630605929279 tw6134006320650028083 tw9516720014013199419 tw6866187880362003550 tw11458946965546693665 tw10977696685735089752 tw17106438151543691765 tw15039824604892452156 tw12113823459172537216 tw8087828842458009157 tw16703101056463993035 tw15392023099864393139 tw2809627884722339064 tw7917581865434237519 tw10174643215903411003 tw3481319419677451483 tw9374430758639889427 tw16779570608759788072 tw6163660771588039926 tw10743561679929230316 tw13489503695606119243 tw407112245763594498 tw7256134968494455663 tw17135953751824265134 tw4492880682943449733 tw2372120301888091888 tw17785448722957578272 tw17982359748054882985 tw2553367328939933537 tw9535087233086687796 tw14783869264944329036 tw10566623840389986960 tw9899433572533411834 tw7469151846505789386 tw2856356147058016079 tw14604418695171134719 tw8787338830479343108 tw9720859026233672169 tw15420441123878862809 tw727309885756431182 tw5242930466486881369:True)
def PySem.W.Fast.tw1145835502492491380:=PySem.Challenge.pw_treewithin_k30_whole_prices_changed
theorem PySem.W.Fast.te1145835502492491380:PySem.Challenge.pw_treewithin_k30_whole_prices_changed=PySem.W.Fast.tw1145835502492491380:=rfl
set_option maxRecDepth 100000 in
set_option maxHeartbeats 0 in
theorem PySem.Challenge.cw_treewithin_k30_whole_prices_changed_holds : PySem.Challenge.rw_treewithin_k30_whole_prices_changed.Holds := by
 w_on;o_law;k_head;(case hw=>w_witness2)
 k_fill
 refine FL.walkT (l:=PySem.Challenge.rw_treewithin_k30_whole_prices_changed) (k:=16) rfl rfl ⟨rfl,by decide,by decide,rfl⟩ (fun w h Y=>⟨PySem.W.km_in_of Y,PySem.W.km_tabs_of Y⟩) ?K ?C ?F
 case K=>
  intro w P hP;have hP:P∈[250]:=hP;simp only[List.mem_cons,List.not_mem_nil,or_false]at hP;rcases hP with rfl
  all_goals first | rfl | k_is
 case C=>
  intro w h hK P hP;have hP:P∈[250]:=hP;simp only[List.mem_cons,List.not_mem_nil,or_false]at hP;rcases hP with rfl
  ·(refine' FL.DXc.tab (x:="least_way") (st:=My.top 53) (FL.dxc ?a ?l ?h ?k ?e ?z) hK;(case a=>k_is);(case l=>k_is);(case h=>k_is);(case k=>k_is);(case e=>k_is);(case z=>exact⟨_,_,_,_,_,_,_,rfl,rfl,rfl,rfl,rfl,rfl,by decide⟩))
 case F=>
  intro w mg fa h KX G hmg;have e8_least_way:=FL.forK (fun K=>FL.DXc K "least_way" (My.top 53) 250) KX (by
   show FL.DXc _ _ _ _;refine' FL.dxc ?a ?l ?h ?k ?e ?z
   case a=>k_is
   case l=>k_is
   case h=>k_is
   case k=>k_is
   case e=>k_is
   case z=>exact⟨_,_,_,_,_,_,_,rfl,rfl,rfl,rfl,rfl,rfl,by decide⟩)
  refine' FL.mkAll (st:=My.top 70) (k:=16) My.law30_ok KX G hmg ?e (fun _ _ _ _ _ _=>FL.usN fun _=>rfl) (My.all_d KX G (e_least_way:=e8_least_way) ..)
  all_goals try first | (refine' FL.dx ?a ?l ?c ?k;(case a=>k_is);(case l=>k_is);(case c=>k_is);(case k=>k_is)) | (refine' FL.tup3K ?a;(case a=>k_is)) | (refine' FL.cdx2 ?a ?m2 ?l ?c ?k ?m1 ?m3 ?m4 ?c1 ?c2 ?c3 ?c4 ?na;(case a=>k_is);(case m2=>k_is);(case l=>k_is);(case c=>k_is);(case k=>k_is);(case m1=>k_is);(case m3=>k_is);(case m4=>k_is);(case c1=>k_is);(case c2=>k_is);(case c3=>k_is);(case c4=>k_is);(case na=>(intro n hn;simp only[List.mem_cons,List.not_mem_nil,or_false]at hn;rcases hn with rfl | rfl | rfl | rfl;all_goals k_is))) | k_is
#print axioms PySem.Challenge.cw_treewithin_k30_whole_prices_changed_holds
