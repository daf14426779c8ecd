import PyProof.Rows.All
import Wide.All
import OpenK.AllK
import Wide.FinOn
import Lean
import PyProof.EqAt
import PyProof.EqKinds
import PyProof.TupleCall
import PyProof.NeKinds
import PyProof.FactsAll.tuple_2
import PyProof.FactsAll.str_0
import PyProof.FactsAll.str_1
import PyProof.FactsAll.str_2
import PyProof.FactsAll.str_3
import PyProof.Rows.MinMaxN
import PyProof.Rows.SumAny
import PyProof.Rows.SetFrom
import PyProof.ReprRoads
import PyProof.Rows.StrKeys3
import PyProof.CallFns
import KE.KSortTup
import KE.KDictSum
import PyProof.Rows.CallKwBuiltin
import KE.KMinBuiltin
import KE.IntBitsLaws
import KE.KDictList
import PySem.Challenge.RW_treewithin_k55_rests_told
open PySem renaming wpAny_bind -> Aa, wpAny_pure -> Af, wpAny_setField_rec -> AM, wpAny_field -> AN, wpAny_callSpecial?_slot -> AY, wpAny_holding -> Bb, Addr -> Bf, Value -> Bg, wpAny_call_entry -> Bj, wpAny_seqItems -> Bp, wpAny_Call_Name_kw -> Br, wpAny_of_eq -> BA, Expr -> BF, mem_of_lookup -> BL, wpAny_mono -> BM, wpAny_newObj_type -> BO, Str -> B4, wpAny_attempt -> Ci, wpAny_typeNameOfWhole_keyiter -> Ck, Pos -> Cn, wpAny_newTuple -> Cu, wpAny_passesOwn -> Cy, wpAny_pyIter_enum -> CC, wpAny_letGo -> CD, wpAny_typeNameOf_keyiter -> CH, wpAny_isInstance -> CM, wpAny_rule -> CV, wpAny_updateSeq -> CY, wpAny_truthy_bool -> C3, wpAny_letOwnedTupleGo_enum -> C6, Shared -> C9, wpAny_tryCatch -> DG, wpAny_pyIter_list -> DH, wpAny_notOrdered_dict -> DW, wpAny_eqBool_str -> D3, wpAny_standAt -> D6, wpAny_updateSeq_pair -> Ec, wpAny_execs_nil -> Eh, wpAny_typeOf -> Ep, wpAny_setField -> EH, wpAny_pyIter_tuple -> EI, wpAny_dictEntries -> EU, wpAny_onRaise -> E1, wpAny_getItem_list_slice -> E2, wpAny_comprehension_free -> E3, wpAny_pyIter_zip -> E8, Heap -> Fm, wpAny_specialOf -> Fz, wpAny_loadPart' -> FA, wpAny_dictEpoch -> FC, Obj -> F3, Fin -> Gq
open PySem.W renaming Frag -> Ab, nsIn -> AU, mg_none_of -> A4, kia_one -> Bo, kitOne -> BG, mg_of -> BX, fnOf -> Cf, KasT -> En, keepIn -> Ex, codeIn -> Ey, methodObj -> EN, kitx_list -> EO, kitx_dict -> ER, cellsFrom_some -> Fi, instObj -> Fv, tabObj -> FR, lookIn -> FU, findIn -> FV, kitx_tuple -> F8, plainGet -> Gm, kas_sort -> Gn
open List renaming getElem?_eq_getElem -> Ad, getD_eq_getElem?_getD -> Ae, getElem?_eq_some_iff -> Ag, getElem?_map -> Ah, length_map -> Ai, length_append -> Ak, size_toArray -> Am, replicate -> Ap, mem_map -> Aq, map_cons -> Ar, getElem?_eq_none -> Au, length_cons -> Ax, mem_cons -> Ay, range -> AB, append_assoc -> AG, filterMap_cons -> AH, map_append -> AI, mem_of_getElem? -> AJ, map_map -> AL, mem_append -> AO, mem_range -> AQ, mem_singleton -> AR, getElem?_range -> AW, getElem?_append_left -> AX, lookup_cons -> AZ, mem_append_right -> A3, mem_cons_of_mem -> A6, map_congr_left -> Ba, getElem?_append_right -> Bd, getElem?_set_ne -> Bq, mem_filter -> Bv, length_set -> Bw, length_range -> Bz, mem_cons_self -> BI, mem_append_left -> BJ, find?_cons -> BK, ext_getElem? -> BQ, perm_append_comm -> BR, forIn_cons -> BW, getElem?_set_self -> B2, length -> B5, pairwise_iff_getElem -> B6, drop_eq_getElem_cons -> B7, length_replicate -> B9, length_filter_le -> Ca, filter_append -> Ce, any_cons -> Cj, eq_nil_of_length_eq_zero -> Cm, nodup_append -> Co, take_of_length_le -> Cq, idxOf_lt_length_of_mem -> Cr, not_mem_nil -> Cs, getElem?_of_mem -> CG, length_reverse -> CI, length_take -> CO, getElem_mem -> CP, getElem?_replicate -> CS, map_nil -> CW, mem_iff_getElem? -> C0, getElem?_toArray -> C1, length_drop -> Dc, filter_cons -> De, all_eq_true -> Df, getElem?_eq_none_iff -> Dg, replicate_succ -> Di, mergeSort_perm -> Dj, map_eq_nil_iff -> Dk, length_pos_iff -> Dl, nodup_cons -> Dr, foldl_cons -> Ds, append_nil -> Du, eraseIdx_cons_succ -> DA, take_sublist -> DK, reverse_cons -> DL, flatMap_cons -> DM, replicate_append_replicate -> DQ, eraseIdxIfInBounds_toArray -> DR, getElem?_reverse -> DY, getElem_inj -> D5, pairwise_append -> Ee, length_eraseIdx -> Ef, length_nil -> Ei, getElem_of_mem -> Ek, flatMap_append -> El, map_set -> Eu, nodup_nil -> EK, mem_filterMap -> EL, getElem?_set -> EX, flatten_cons -> EY, mem_of_mem_eraseIdx -> E4, pairwise_mergeSort -> E9, nodup_range -> Fb, mem_flatMap -> Fc, map_snd_zip -> Fd, map_fst_zip -> Fe, getElem_map -> Ff, drop_length -> Fg, range_succ_eq_map -> Fp, pairwise_lt_range -> Fq, filter_eq_nil_iff -> Fs, drop_of_length_le -> Ft, drop_eq_nil_of_le -> Fu, range_succ -> FG, of_mem_zip -> FH, nil_append -> FI, length_zip -> FJ, take_append_drop -> FP, length_singleton -> FQ, take_succ -> F0, map -> F1, reverse_append -> F5, getD_cons_succ -> F6, map_take -> F7
open PySem.Heap renaming get?_push_of_some -> Aj, get?_push_size -> An, lt_size -> Ao, size_push -> BD, get?_update_other -> BZ, SameBut -> B0, get?_update_self -> B8, size_update -> E6, ExtBut -> FW, get?_update_ne -> F4
open Nat renaming le_refl -> Al, lt_of_lt_of_le -> Az, ne_of_lt -> AA, lt_irrefl -> AE, le_trans -> A0, le_add_right -> A5, zero_add -> A7, add_assoc -> Be, zero_le -> Bh, lt_or_ge -> Bu, le_of_ble_eq_true -> Cv, strongRecOn -> CA, pow_le_pow_right -> CF, add_sub_cancel_left -> CN, lt_succ_of_lt -> C4, mul_le_mul_right -> C7, mul_le_mul_left -> Dh, lt_succ_self -> D4, le_succ -> Ed, sub_zero -> Er, sub_self -> Es, le_of_lt -> Et, eq_or_lt_of_le -> EJ, not_lt_zero -> FE, sub_sub -> FY, mul_le_mul -> FZ, succ_mul -> Gh, le_of_eq -> Gi
open PySem.PassesOwn renaming never -> Av
open PySem.Value renaming ref -> Aw, none -> Bc, str -> Bs, int -> CJ, type -> C5, bool -> Ez
open Bool renaming false_eq_true -> AD, false_ne_true -> AV, and_eq_true -> A9, eq_iff_iff -> Dv, and_false -> DN, true_and -> E5, false_and -> F2
open PyProof.Rows renaming callWith_type1 -> A8
open Int renaming toNat_natCast -> Bk, le_refl -> BC, mul_le_mul_of_nonneg_left -> CT, natCast_add -> FK, le_antisymm -> FN, zero_add -> Gj, mul_add -> Gr
open PySem.Calls renaming spliced_cons -> Bl, spliced_nil -> BN, callWith_builtin -> DE, Name_function_global -> EG, evalArgs_plain -> FX
open PySem.F renaming plainAttrs_list -> Bm, slot_enumerate_next -> BE, slot_dict_keyiterator_next -> BV, slot_zip_next -> Cp, slot_tuple_iterator_next -> Ct, args_enumerate_next_1 -> CK, entry_enumerate_next -> CU, plain_min_loop -> C8, type_list_append -> Dm, slot_list_append -> Dn, args_tuple_add_2 -> Dp, slot_list_getattribute -> Dq, called_enumerate -> Dx, entry_tuple_add -> Dy, slot_zip_getattribute -> Dz, slot_tuple_add -> DB, args_zip_next_1 -> DC, type_list_pop -> DT, slot_list_pop -> DU, slot_dict_get -> DV, entry_zip_next -> D1, args_dict_keyiterator_next_1 -> D2, entry_dict_keyiterator_next -> D8, args_list_extend_2 -> D9, args_tuple_iterator_next_1 -> Eg, entry_list_extend -> Ej, entry_tuple_iterator_next -> Eo, slot_list_extend -> EE, args_dict_get_3 -> E7, entry_dict_get -> Fj
open Ne renaming symm -> Bt
open PySem.NameKind renaming free -> Bx, cell -> CZ
open PySem.Obj renaming mapSeq -> BH, data_mapFields -> Dw, isFreed_of_fields -> FO
open PySem.PyData renaming hasDict -> BS, shownAll -> BU, showableAll -> EC, hasDictAll -> ES, showable -> Fw, depthAll -> Fx, depth -> Gf
open Or renaming inl -> B1, inr -> Cd
open False renaming elim -> B3
open True renaming intro -> Cb
open PySem.AutoSeq1 renaming wpAny_loadPart' -> Cc, sub_list_tuple -> Ea
open PySem.Str renaming ofString -> Cg
open Array renaming getElem?_eq_getElem -> Cw, getElem?_toList -> C2, getElem?_eq_none -> DP, length_toList -> Em, perm_iff_toList_perm -> EM, forIn_toList -> Gd
open Option renaming map_some -> Cz, map_eq_none_iff -> DJ, isSome_map -> EW, map_eq_some_iff -> Fo, isSome_some -> Gb
open ForInStep renaming yield -> CB
open PySem.SeqAt renaming EqAt -> DZ
open PySem.Fin renaming done -> D7
open PySem.Around renaming under_plainId -> Eb
open And renaming right -> Ew
open PySem.SeqAt.RcNeAt renaming lists_lengths -> EA, lists -> F9
open PySem.SeqAt.EqAt renaming int_int -> EB, of_refs -> Ga, same -> Gs
open PySem.Flow renaming ret -> ED
open PySem.EqBoolInt renaming of_rcne -> ET, of_rc -> Fy
open PySem.SeqAt.RcAt renaming lists_lengths -> EZ, tuples -> Ge, lists -> Gp
open Sum renaming inl -> Fh, inr -> Gu
open PySem.Data renaming seq -> Gg
open Except renaming error -> Gk
set_option compiler.extract_closed false
set_option Elab.async false
set_option linter.all false
set_option bootstrap.genMatcherCode false
set_option maxRecDepth 100000
set_option maxHeartbeats 1000000
open Option renaming none→ci
open PyProof.Rows renaming seqObj→Ch,boot_str→Da,IntsAre→EQ,envOfC→KF,AllBare→SB
open PySem renaming Value→cr,Shared→db,Addr→f8,wpAny→gl,starEach→gt,model→im,mainGlobals→lc,Expr→nw,swapsWith→o0,eval→pc,attributeBase→pr,Heap→re,Scope→r9,cLine→sn,compareOp→ss,bootBuiltins→sw,behindInMarks→sB,tupleKind→tz,backTo→t0,Builtin→ul,cellsFrom→ut,sysModules→u8,call_meets→v4,binaryOp→wf,Stmt→wn,rawInt→wv,sliceBounds→ww,plainId_quiet→wE,PassesOwn→wP,NameKind→wS,keywordEach→wT,typeLookup→xz,tupleKind_room_in1→xL,codeAny_builtin→zn,Program→BT,ZipApart→Db,IsPair→Fa,IntMulOk→Fk,Around→FB,World→FM,pyNext→FS,assignEach→Gc,swapsWithSole→GE,swappedStores→GM,holding→GT,codeAny→Ix,backToKw→IR,IsEnum→KM,slicePick→Op,setField→Os,isSubtype_stop→Pi,builtinsNs→Ps,storedH→Pv,assign→PP,relabel→Re,codeAny_mono→Rs,Keyword→Sc,letOwnedTupleGo→SC
set_option genSizeOf false
local macro_rules | `(command|def $i:declId $s:optDeclSig $v:declVal)=>`(command|noncomputable def $i:declId $s:optDeclSig $v:declVal)
local macro_rules | `(command|abbrev $i:declId $s:optDeclSig $v:declVal)=>`(command|noncomputable abbrev $i:declId $s:optDeclSig $v:declVal)
theorem rTq9(h:0=0:=by rfl):0=0:=h
local macro_rules | `(‹$p›)=>`(autoParam $p rTq9._auto_1)
local macro_rules | `(‹_›)=>`(by assumption)
theorem dTq9(h:0=0:=by decide):0=0:=h
local macro_rules | `(~~~$p)=>`(autoParam $p dTq9._auto_1)
local macro_rules | `(∅)=>`(by lia)
local macro_rules | `(⋯)=>`(by decide)
open PySem PySem.Spec PyProof.Rows
abbrev O.{u}(α:Type u):=List α
namespace L2
end L2
namespace My
end My
namespace PL
end PL
namespace FL
end FL
open L2 My PL FL
namespace L2
abbrev Key:=Sum Int Str
def qV:Key->cr->Bool
 |.inl k,v=>Value.isInt k v
 |.inr x,v=>Value.isStrOf x v
def ahY(w:FM):Key->Int
 |.inl k=>hashInt k
 |.inr x=>hashStr w x
def bI:∀{k:Key}{v:cr},qV k v=true->(∃i t,k=Fh i/\v=CJ i t)\/(∃x t,k=Gu x/\v=Bs x t)
 |.inl i,v,h=>by
  obtain⟨t,e⟩:=Value.isInt_shape h;exact .inl ⟨i,t,rfl,e⟩
 |.inr x,v,h=>by
  obtain⟨t,e⟩:=Value.isStrOf_shape (v:=v) h;exact .inr ⟨x,t,rfl,e⟩
def NL(i:Int)(t:Tok):qV (.inl i) (.int i t)=true:=by simp[qV,Value.isInt]
def NJ(x:Str)(t:Tok):qV (.inr x) (.str x t)=true:=by simp[qV,Value.isStrOf]
def Z5(a b:Int):decide ((Fh a:Key)=Fh b)=(a==b):=by
 by_cases e:a=b
 .subst e;simp
 .rw[decide_eq_false (λq=>e (Fh.inj q))];exact(beq_eq_false_iff_ne.mpr e).symm
def Z2(a b:Str):decide ((Gu a:Key)=Gu b)=decide (a=b):=by
 by_cases e:a=b
 .simp
 .rw[decide_eq_false (λq=>e (Gu.inj q)),decide_eq_false e]
def Z4(a:Int)(b:Str):decide ((Fh a:Key)=Gu b)=false:=decide_eq_false (λq=>nomatch q)
def Z3(a:Str)(b:Int):decide ((Gu a:Key)=Fh b)=false:=decide_eq_false (λq=>nomatch q)
def bo(prog:BT)(w:FM):PySem.KeyKind prog w Key where
 is:=qV
 hash:=ahY w
 inj:=λv a b ha hb=>by
  rcases bI ha with⟨i,t,rfl,rfl⟩|⟨x,t,rfl,rfl⟩
  .rcases bI hb with⟨j,u,rfl,e⟩|⟨y,u,rfl,e⟩
   .injection e with e1 _;rw[e1]
   .exact nomatch e
  .rcases bI hb with⟨j,u,rfl,e⟩|⟨y,u,rfl,e⟩
   .exact nomatch e
   .injection e with e1 _;rw[e1]
 byValue:=λk v h=>by
  rcases bI h with⟨i,t,rfl,rfl⟩|⟨x,t,rfl,rfl⟩<;>rfl
 pyHash:=λhv h=>by
  rcases bI hv with⟨i,t,rfl,rfl⟩|⟨x,t,rfl,rfl⟩
  .exact wpAny_pyHash_int h
  .exact wpAny_pyHash_str h
 eqBool:=λhu hv h=>by
  rcases bI hu with⟨i,t,rfl,rfl⟩|⟨x,t,rfl,rfl⟩
  .rcases bI hv with⟨j,u,rfl,rfl⟩|⟨y,u,rfl,rfl⟩
   .rw[Z5]at h;exact wpAny_eqBool_int h
   .rw[Z4]at h;exact DZ.int_str i t y u _ _ _ _ h
  .rcases bI hv with⟨j,u,rfl,rfl⟩|⟨y,u,rfl,rfl⟩
   .rw[Z3]at h;exact DZ.str_int x t j u _ _ _ _ h
   .rw[Z2]at h;exact D3 h
 «strs»:=λk x t v h=>by
  rcases bI h with⟨i,u,rfl,e⟩|⟨y,u,rfl,e⟩
  .exact nomatch e
  .injection e with e1 _;subst e1;cases v<;>rfl
def Hu(prog:BT)(w:FM)(i:Int)(t:Tok):(bo prog w).is (.inl i) (.int i t)=true:=NL i t
def Ht(prog:BT)(w:FM)(x:Str)(t:Tok):(bo prog w).is (.inr x) (.str x t)=true:=NJ x t
end L2
variable{us:O Bg}{u:Bg}{κ α β:Type}{a b e:Bf}{P:PySem.Program}{w:PySem.World}{h h':Fm}{ob:F3}
namespace L2
inductive V where
 |aB|bl (b:Bool)|int (i:Int)|str (x:Str)|OJ (b:Array UInt8)|flt (b:UInt64)|ref (a:f8)|ty (n:String)
 deriving DecidableEq
def RelV:V->cr->Prop
 |.aB,u=>u=Bc
 |.bl b,u=>u=Ez b
 |.int i,u=>∃t,u=CJ i t
 |.str x,u=>∃t,u=Bs x t
 |.OJ b,u=>∃t,u=Value.bytes b t
 |.flt b,u=>∃t,u=Value.float b t
 |.ref a,u=>u=Aw a
 |.ty n,u=>u=C5 n
abbrev Vals:O V->O cr->Prop:=Paired RelV
def Vals.length{xs:O V}(r:Vals xs us):xs.length=us.length:=Paired.length r
theorem Vals.get:∀{xs:O V}{us:O cr}{i:Nat}{x:V},Vals xs us->xs[i]?=some x->∃u,us[i]?=some u/\RelV x u
 |_,_,_,_,.nil,e=>by simp at e
 |_,_,0,_,.cons r _,e=>by simp at e;subst e;exact⟨_,rfl,r⟩
 |_,_,i+1,x,.cons _ t,e=>by
  obtain⟨u,h1,h2⟩:=Vals.get t (by simpa using e);exact⟨u,by simpa using h1,h2⟩
theorem Vals.set{x:V}(r:RelV x u):∀{xs:O V}{us:O cr} (i:Nat),Vals xs us->Vals (xs.set i x) (us.set i u)
 |_,_,_,.nil=>.nil
 |_,_,0,.cons _ t=>.cons r t
 |_,_,i+1,.cons q t=>.cons q (Vals.set r i t)
theorem Vals.append:∀{xs ys:O V}{us ws:O cr},Vals xs us->Vals ys ws->Vals (xs++ys) (us++ws)
 |_,_,_,_,.nil,s=>s
 |_,_,_,_,.cons r t,s=>.cons r (Vals.append t s)
theorem Vals.take:∀{xs:O V}{us:O cr} (n:Nat),Vals xs us->Vals (xs.take n) (us.take n)
 |_,_,0,_=>.nil
 |_,_,_+1,.nil=>.nil
 |_,_,n+1,.cons r t=>.cons r (Vals.take n t)
theorem Vals.drop:∀{xs:O V}{us:O cr} (n:Nat),Vals xs us->Vals (xs.drop n) (us.drop n)
 |_,_,0,r=>r
 |_,_,_+1,.nil=>.nil
 |_,_,n+1,.cons _ t=>Vals.drop n t
theorem Vals.none_of:∀{xs:O V}{us:O cr}{i:Nat},Vals xs us->xs[i]?=ci->us[i]?=ci:=λ{xs us i} r e=>by
 have h1:=r.length;have h2:=Dg.mp e;exact Dg.mpr ∅
def qH:Option V->Option cr->Prop
 |some v,some u=>RelV v u
 |none,ci=>True
 |_,_=>False
def KV:O (κ×V)->O (κ×cr)->Prop:=Paired λ(p:κ×V) (q:κ×cr)=>p.1=q.1/\RelV p.2 q.2
def kV:Key->V
 |.inl i=>.int i
 |.inr x=>.str x
inductive HO where
 |lst (xs:List V)
 |tup (xs:List V)
 |dK (kvs:List (Key×V))|dT (kvs:List (List Key×V))
 |set (S:Int->Bool) (n:Nat)
 |ins (C dx:f8) (fs:List (Str×V))
 |own (x:f8)
 |xd (fs:List (Str×V))
 |met (f x:f8)
 |rng (lo hi:Int)
 |bA (o:Obj) (u:HO)
 |GJ (ps:Array cr)
 |ext (φ:re->Prop)
abbrev Hp:=f8->Option HO
def upd(H:Hp)(a:f8)(o:HO):Hp:=λb=>if b=a then some o else H b
def ay{H:Hp}{o:HO}:upd H a o a=some o:=by unfold upd;rw[if_pos rfl]
def aj{H:Hp}{o:HO}(h:b≠a):upd H a o b=H b:=by unfold upd;rw[if_neg h]
def Hq{H:Hp}{o u:HO}(h:H a=some o)(h':H b=some u)(d:o≠u):a≠b:=by
 intro e;subst e;rw[h]at h';exact d (Option.some.inj h')
def bD{H:Hp}{o:HO}(h:H a=some o)(h':H b=ci):a≠b:=by
 intro e;subst e;rw[h]at h';cases h'
section
variable(P:BT)(w:FM)
def br(H:Hp)(h:re)(a:f8):HO->Prop
 |.lst xs=>xs.length<=sizeLine/\∃(ao:O cr) (n:Nat),Vals xs ao/\h.get? a=some {cls:=.type "list",data:=.seq ao.toArray n}
 |.tup xs=>xs.length<=sizeLine/\∃ao:O cr,Vals xs ao/\IsTup h a ao.toArray/\∃o,h.get? a=some o/\o.dict=ci
 |.dK kvs=>kvs.length<=sizeLine/\(a==u8)=false/\∃vs,KV kvs vs/\h.DictOf (bo P w) a vs
 |.dT kvs=>kvs.length<=sizeLine/\(a==u8)=false/\∃xs:O (O Key×f8×cr),
   Paired (λ(p:O Key×V) (q:O Key×f8×cr)=>p.1=q.1/\H q.2.1=some (.tup (p.1.map kV))/\RelV p.2 q.2.2) kvs xs/\
   ∃o es ep,h.get? a=some o/\o.ExactDict/\o.data=.dict es ep/\es.toList=xs.map (entryOfKey (tz (bo P w)))/\(xs.map (·.1)).Nodup
 |.set S n=>h.SetOf (intKind P w) a S n
 |.ins C dx fs=>H dx=some (.own a)/\fs.length<=1000/\dx≠a/\h.get? a=some (Fv C dx)/\
   ∃mA,h.Ns1 dx mA/\(∀f,qH (fs.lookup f) (mA f))/\PySem.Within mA (fs.map (·.1))
 |.own _=>∃o,h.get? a=some o
 |.xd fs=>∃mA,h.Ns1 a mA/\∀f,qH (fs.lookup f) (mA f)
 |.rng lo hi=>∃t u v,h.get? a=some {cls:=.type "range",data:=.fields #[.int lo t,.int hi u,.int 1 v]}
 |.bA o u=>h.get? a=some o/\br H h a u
 |.GJ ps=>h.get? a=some {cls:=.none,data:=.fields ps}
 |.met f x=>h.get? a=some (EN (.ref f) (.ref x))
 |.ext φ=>φ h/\(∃o,h.get? a=some o)/\∀h1 h2:re,φ h1->(∀o,h1.get? a=some o->h2.get? a=some o)->φ h2
def md(H:Hp)(h:re):Prop:=∀a o,H a=some o->br P w H h a o
end
section
variable{H H':Hp}{o:HO}
def br.lt(x:br P w H h a o):a<h.objs.size:=by
 cases o with
 |lst xs=>obtain⟨_,_,_,_,e⟩:=x;exact Ao e
 |tup xs=>obtain⟨_,_,_,p,_⟩:=x;exact p.lt
 |dK kvs=>obtain⟨_,_,_,_,o,_,_,e,_⟩:=x;exact Ao e
 |dT kvs=>obtain⟨_,_,_,_,o,_,_,e,_⟩:=x;exact Ao e
 |set S n=>obtain⟨o,_,_,_,e,_⟩:=x;exact Ao e
 |ins C dx fs=>obtain⟨_,_,_,e,_⟩:=x;exact Ao e
 |own y=>obtain⟨_,e⟩:=x;exact Ao e
 |xd fs=>obtain⟨_,⟨_,_,_,e,_⟩,_⟩:=x;exact Ao e
 |rng lo hi=>obtain⟨_,_,_,e⟩:=x;exact Ao e
 |bA ob u=>obtain⟨e,_⟩:=x;exact Ao e
 |GJ ps=>exact Ao (x)
 |met f y=>exact Ao (show h.get? a=some _ from x)
 |ext φ=>obtain⟨_,⟨_,e⟩,_⟩:=x;exact Ao e
theorem Paired.ZJ{F G:α->β->Prop}:∀{l₁:List α}{l₂:List β},Paired F l₁ l₂->(∀a b,F a b->G a b)->Paired G l₁ l₂
 |_,_,.nil,_=>.nil
 |_,_,.cons r t,f=>.cons (f _ _ r) (Paired.ZJ t f)
def br.xS(x:br P w H h a o)(k:∀b u,(b=a\/H b=some (.own a))->h.get? b=some u->h'.get? b=some u)(ho:∀b,H b=some (.own a)->H' b=some (.own a))(ht:∀b xs,H b=some (.tup xs)->H' b=some (.tup xs)):br P w H' h' a o:=by
 induction o with
 |lst xs=>obtain⟨z,ao,n,r,e⟩:=x;exact⟨z,ao,n,r,k _ _ (.inl rfl) e⟩
 |tup xs=>obtain⟨z,ao,r,⟨ob,e,c⟩,od,e2,d⟩:=x;exact⟨z,ao,r,⟨ob,k _ _ (.inl rfl) e,c⟩,od,k _ _ (.inl rfl) e2,d⟩
 |dK kvs=>obtain⟨z,y,vs,r,ob,es,ep,e,c⟩:=x;exact⟨z,y,vs,r,ob,es,ep,k _ _ (.inl rfl) e,c⟩
 |dT kvs=>
  obtain⟨z,y,xs,r,ob,es,ep,e,c⟩:=x;exact⟨z,y,xs,Paired.ZJ r λp q z=>⟨z.1,ht _ _ z.2.1,z.2.2⟩,ob,es,ep,k _ _ (.inl rfl) e,c⟩
 |set S n=>obtain⟨ob,es,ep,t,e,c⟩:=x;exact⟨ob,es,ep,t,k _ _ (.inl rfl) e,c⟩
 |ins C dx fs=>
  obtain⟨d,z,ne,e,mA,⟨od,es,ep,e2,c⟩,r⟩:=x;exact⟨ho _ d,z,ne,k _ _ (.inl rfl) e,mA,⟨od,es,ep,k _ _ (.inr d) e2,c⟩,r⟩
 |own y=>obtain⟨ob,e⟩:=x;exact⟨ob,k _ _ (.inl rfl) e⟩
 |xd fs=>obtain⟨mA,⟨od,es,ep,e,c⟩,r⟩:=x;exact⟨mA,⟨od,es,ep,k _ _ (.inl rfl) e,c⟩,r⟩
 |rng lo hi=>obtain⟨t,u,v,e⟩:=x;exact⟨t,u,v,k _ _ (.inl rfl) e⟩
 |bA ob u ih=>obtain⟨e,q⟩:=x;exact⟨k _ _ (.inl rfl) e,ih q⟩
 |GJ ps=>
  have e:h.get? a=some {cls:=.none,data:=.fields ps}:=x;show h'.get? a=some {cls:=.none,data:=.fields ps};exact k a _ (.inl rfl) e
 |met f y=>
  have e:h.get? a=some (EN (.ref f) (.ref y)):=x;show h'.get? a=some (EN (.ref f) (.ref y));exact k a _ (.inl rfl) e
 |ext φ=>obtain⟨p,⟨o,e⟩,st⟩:=x;exact⟨st _ _ p λo q=>k _ _ (.inl rfl) q,⟨o,k _ _ (.inl rfl) e⟩,st⟩
def md.lt(x:md P w H h)(e:H a=some o):a<h.objs.size:=(x a o e).lt
def md.fresh(x:md P w H h)(e:h.objs.size<=a):H a=ci:=by
 cases q:H a with
 |none=>rfl
 |some u=>exact absurd (Az (x.lt q) e) (AE _)
def md.kept(x:md P w H h)(k:∀b u,h.get? b=some u->h'.get? b=some u):md P w H h':=λa o e=>
 (x a o e).xS (λb u _ q=>k b u q) (λ_ q=>q) λ_ _ q=>q
def md.laid(x:md P w H h)(k:∀b u,h.get? b=some u->h'.get? b=some u)(hp:h.objs.size<=a)(new:br P w (upd H a o) h' a o):md P w (upd H a o) h':=λb u e=>by
 have hn:=x.fresh hp;by_cases hb:b=a
 .subst hb;rw[ay]at e;cases e;exact new
 .rw[aj hb]at e;exact(x b u e).xS (λc v _ q=>k c v q) (λc q=>by rw[aj (bD q hn)];exact q) λc xs q=>by rw[aj (bD q hn)];exact q
end
def Rd(H:Hp)(a:f8)(u:HO):Prop:=H a=some u\/∃o,H a=some (.bA o u)
def Rd.ok{H:Hp}{u:HO}(r:Rd H a u)(x:md P w H h):br P w H h a u:=by
 rcases r with r|⟨o,r⟩
 .exact x a u r
 .obtain⟨_,q⟩:=x a _ r;exact q
def Mut:Option HO->Prop
 |some (.lst _)=>True
 |some (.dK _)=>True
 |some (.dT _)=>True
 |some (.set _ _)=>True
 |some (.ins _ _ _)=>True
 |some (.ext _)=>True
 |_=>False
section
variable{H:Hp}{x:f8}{o':HO}
def md.write(ok:md P w H h)(mu:Mut (H x))(he:e=x\/H e=some (.own x))(k:∀b u,b≠e->h.get? b=some u->h'.get? b=some u)(ü:∃u,h'.get? e=some u)(new:br P w (upd H x o') h' x o'):md P w (upd H x o') h':=λb u q=>by
 have JM:∀c y,H c=some (.own y)->c≠x:=λc y r z=>by subst z;rw[r]at mu;exact mu
 have ahz:∀c xs,H c=some (.tup xs)->c≠x:=λc xs r z=>by subst z;rw[r]at mu;exact mu
 by_cases hb:b=x
 .subst hb;rw[ay]at q;cases q;exact new
 .rw[aj hb]at q;by_cases hbe:b=e
  .have q':H b=some (.own x):=by
    rcases he with z|z
    .exact absurd (hbe.trans z) hb
    .rw[hbe];exact z
   rw[q]at q';cases q';obtain⟨v,hv⟩:=ü;exact⟨v,by rw[hbe];exact hv⟩
  .refine(ok b u q).xS (λc v hc r=>k c v ?_ r) (λc r=>by rw[aj (JM c b r)];exact r) λc xs r=>by rw[aj (ahz c xs r)];exact r
   rcases hc with rfl|hc
   .exact hbe
   .rintro rfl;rcases he with z|z
    .exact JM c b hc z
    .rw[hc]at z;cases z;exact hb rfl
end
structure Un(fs ex:List f8)(H H':Hp)(h h':re):Prop where
 keep:∀b o,h.get? b=some o->H b=ci->b∉fs->b∉ex->h'.get? b=some o
 slot:∀b o,h.get? b=some o->H b=ci->b∈fs->b∉ex->∃sl,h'.get? b=some {o with slots:=sl}
 free:∀b o,h.get? b=some o->H b=ci->b∉ex->H' b=ci
 there:∀b o,h.get? b=some o->b∉ex->∃o',h'.get? b=some o'
 cB:∀b xs,H b=some (.tup xs)->H' b=some (.tup xs)
 qw:∀b o u,H b=some (.bA o u)->H' b=some (.bA o u)
 vt:∀b ps,H b=some (.GJ ps)->∃more,H' b=some (.GJ (ps++more))
section
variable{fs ex:O f8}{H H1:Hp}{h1:re}{x:f8}{o:HO}
def Un.any(u:Un fs ex H H1 h h1)(q:h.get? b=some ob)(n:H b=ci)(hx:b∉ex):∃sl,h1.get? b=some {ob with slots:=sl}:=by
 by_cases hb:b∈fs
 .exact u.slot b ob q n hb hx
 .exact⟨ob.slots,u.keep b ob q n hb hx⟩
def Un.kept(k:∀b u,h.get? b=some u->h'.get? b=some u):Un fs ex H H h h':=
 ⟨λb ob q _ _ _=>k b ob q,λb ob q _ _ _=>⟨ob.slots,k b ob q⟩,λ_ _ _ n _=>n,λb ob q _=>⟨ob,k b ob q⟩,λ_ _ q=>q,λ_ _ _ q=>q,λ_ ps q=>⟨#[],by rw[q];simp⟩⟩
def Un.refl:Un fs ex H H h h:=Un.kept λ_ _ q=>q
def Un.laid(k:∀b u,h.get? b=some u->h'.get? b=some u)(hp:h.objs.size<=a)(hn:H a=ci):Un fs ex H (upd H a o) h h' where
 keep:=λb u q _ _ _=>k b u q
 slot:=λb u q _ _ _=>⟨u.slots,k b u q⟩
 free:=λb u q n _=>by rw[aj (AA (Az (Ao q) hp))];exact n
 there:=λb u q _=>⟨u,k b u q⟩
 cB:=λb xs q=>by rw[aj (bD q hn)];exact q
 qw:=λb u xs q=>by rw[aj (bD q hn)];exact q
 vt:=λb ps q=>⟨#[],by rw[aj (bD q hn),q];simp⟩
def Un.write(mu:Mut (H x))(he:e=x\/H e=some (.own x))(k:∀b u,b≠e->h.get? b=some u->h'.get? b=some u)(ü:∃u,h'.get? e=some u):Un fs ex H (upd H x o) h h':=by
 have hx:∀b,H b=ci->b≠x:=λb n z=>by subst z;rw[n]at mu;exact mu
 have hb:∀b,H b=ci->b≠e:=λb n z=>by
  subst z;rcases he with r|r
  .exact hx b n r
  .rw[n]at r;cases r
 have hm:∀b u,H b=some u->¬Mut (some u)->b≠x:=λb u q nm z=>by subst z;rw[q]at mu;exact nm mu
 refine⟨λb u q n _ _=>k b u (hb b n) q,λb u q n _ _=>⟨u.slots,k b u (hb b n) q⟩,λb u q n _=>by rw[aj (hx b n)];exact n,λb u q _=>?_,
  λb xs q=>by rw[aj (hm b _ q λz=>z)];exact q,λb u xs q=>by rw[aj (hm b _ q λz=>z)];exact q,λb ps q=>⟨#[],by rw[aj (hm b _ q λz=>z),q];simp⟩⟩
 by_cases hbe:b=e
 .subst hbe;exact ü
 .exact⟨u,k b u hbe q⟩
end
def trk(h:re)(H:Hp):O f8:=(AB h.objs.size).filter λa=>(H a).isSome
def yX(h:re)(H:Hp):re:=PySem.W.hideAll h (trk h H)
def N2(h:re)(H:Hp):(yX h H).objs.size=h.objs.size:=PySem.W.hideAll_size _ _
def RO{H:Hp}{o:Obj}(e:h.get? b=some o)(n:H b=ci):(yX h H).get? b=some o:=
 PySem.W.hideAll_get _ e λhm=>by
  have q:=(Bv.mp hm).2;rw[n]at q;simp at q
def U4{H:Hp}{o:Obj}(e:(yX h H).get? b=some o):h.get? b=some o/\H b=ci:=by
 have e':=PySem.W.of_hideAll (trk h H) e;refine⟨e',?_⟩;cases q:H b with
 |none=>rfl
 |some x=>
  have z:(yX h H).get? b=ci:=PySem.W.hideAll_none (trk h H) (Bv.mpr ⟨AQ.mpr (Ao e'),by simp[q]⟩);rw[z]at e;cases e
def WC(g h:re)(L:f8):O (f8×Obj):=(AB h.objs.size).filterMap λa=>if a=L\/(g.get? a).isSome=true then ci else (h.get? a).map λo=>(a,o)
def rest(g h:re)(L d:f8):O (f8×Obj):=(WC g h L).filter λp=>decide (p.1≠d)
end L2
variable{H H':L2.Hp}{o:F3}{U:O (Bf×F3)}{g':Array PySem.GenState}{ch:O Bf}{it:Bf}{i j:Nat}{M:PySem.Model}{A:PySem.Around}{E:Bg->C9->Prop}{v:L2.V}{Q:Unit->C9->Prop}{s':C9}
namespace L2
structure Mod(K:Ab)(mg:Str->Option cr)(base:re):Prop where
 kin:K.In base
 glob:base.Ns lc mg
 blt:∃mb,base.Ns Ps mb/\∀x:Str,x≠"__name__"->mb x=sw x
 nolimit:base.NoLimit
 bm:∃bm ob,mg "__builtins__"=some (.ref bm)/\bm≠Ps/\base.get? bm=some ob/\ob.cls=.type "module"/\ob.dict=some Ps/\ob.data=.plain
structure Cx where
 prog:BT
 w:FM
 K:Ab
 mg:Str->Option cr
 base:re
 A:FB
 N:List Str
 s₀:db
 H₀:Hp
 env:Env
 outer:List Env
 stack:List Env
 ex:List f8
 fn:Str->Bool
 calm:Bool
 pn:List (f8×Obj)
 xe:cr->db->Prop
abbrev gZ(x:Str):Prop:=(x==("__debug__":Str))=false
abbrev xF(x:Str):Prop:=(x==("__classdict__":Str))=false
abbrev gb(X:Cx)(e:nw)(es:O nw):Prop:=gt (e::es) X.env=(false,pc e X.env)::gt es X.env
abbrev km(X:Cx)(p:Pos)(es:O nw):Prop:=(t0 p (gt es X.env)).any (·.1)=false
abbrev qJ(X:Cx)(e:nw):Prop:=∀x,foldedSetIterable e X.env x=pure x
abbrev WK(X:Cx)(p:Pos)(l:O nw):Prop:=((t0 p (gt l X.env)).all (λx=>!x.1)&&(IR p (wT [] X.env)).all (λx=>x.1.isSome)&&decide (l.length+([]:O Sc).length+(if ([]:O Sc).isEmpty then 0 else 1)<30))=true
abbrev MR(p q:Pos):Prop:=(p.endLine==q.line)=true
abbrev MP(X:Cx)(y:Str):Prop:=X.fn y=true\/X.env.scope.names.lookup y=some .local
def O4(l:O Env):O f8:=l.filterMap (·.frame)
abbrev Cx.fs(X:Cx):O f8:=O4 X.outer
def v9(sc:r9)(x:Str):Prop:=sc.names.lookup x=some .local\/sc.names.lookup x=some .cell\/sc.names.lookup x=some .free
def Loc(sc:r9)(x:Str):Prop:=sc.names.lookup x=some .local\/sc.names.lookup x=some .cell
def Look(env:Env)(h:re)(m:Str->Option cr)(x:Str)(u:cr):Prop:=
 (env.kindOf x=some .local/\m x=some u)\/((env.kindOf x=some .cell\/env.kindOf x=some .free)/\∃c,env.cells.lookup x=some c/\h.IsCell c (some u))
structure Cx.Ok(X:Cx):Prop where
 mod:Mod X.K X.mg X.base
 kind:X.env.scope.kind=.function
 glob:X.env.globals=lc
 blt:X.env.builtins=Ps
 above:X.s₀.heap.objs.size<=X.env.locals
 inj:∀x y c,X.env.cells.lookup x=some c->X.env.cells.lookup y=some c->x=y
 has:∀x,(X.env.kindOf x=some .cell\/X.env.kindOf x=some .free)->∃c,X.env.cells.lookup x=some c
 cab:∀x c,X.fn x=true->X.env.cells.lookup x=some c->X.s₀.heap.objs.size<=c
 hd:X.calm=true->X.A.handled=ci
 frames:X.A.frames=some X.stack
 stk:X.stack=X.outer\/(X.stack=X.env::X.outer/\X.env.frame=some X.env.locals)
 exf:∀b∈X.ex,b≠X.env.locals/\∀x c,X.env.cells.lookup x=some c->c≠b
 bs:∀b o,X.base.get? b=some o->X.s₀.heap.get? b=some o/\X.H₀ b=ci
 Ye:X.base.objs.size<=X.s₀.heap.objs.size
 Q3:∀b o,X.base.get? b=some o->b∉X.ex
 Sa:∀b∈X.ex,b∉X.fs
 uB:X.s₀.heap.FunFrames X.base X.outer
 frf:∀b∈X.fs,X.H₀ b=ci
structure Inv(X:Cx)(U:List (f8×Obj))(σ:List (Option V))(H:Hp)(s:db):Prop where
 ok:X.Ok
 os:s.os=X.s₀.os
 bare:SB s.gens
 base:Un X.fs X.ex X.H₀ H X.s₀.heap s.heap
 loc:∃m,s.heap.Ns X.env.locals m/\∀(i:Nat) (x:Str) (v:V),X.N[i]?=some x->σ[i]?=some (some v)->v9 X.env.scope x->∃u,RelV v u/\Look X.env s.heap m x u
 cell:∀x c,X.env.cells.lookup x=some c->∃v,s.heap.IsCell c v
 free:H X.env.locals=ci
 ke:∀x c,X.env.cells.lookup x=some c->H c=ci
 pin:∀p∈X.pn++U,s.heap.get? p.1=some p.2/\H p.1=ci/\p.1≠X.env.locals/\p.1∉X.fs/\∀v,p.2.data≠.cell v
 ba:md X.prog X.w H s.heap
 len:σ.length=X.N.length
section
variable{X:Cx}{σ:O (Option V)}{s:db}
def Cx.Ok.ahC(ok:X.Ok)(e:X.base.get? b=some o):b∉X.fs:=λhb=>by
 have:=(ok.uB.mem hb).1;rw[e]at this;cases this
def Inv.bs(I:Inv X U σ H s):∀b o,X.base.get? b=some o->s.heap.get? b=some o/\H b=ci:=λb o e=>
 ⟨I.base.keep b o (I.ok.bs b o e).1 (I.ok.bs b o e).2 (I.ok.ahC e) (I.ok.Q3 b o e),I.base.free b o (I.ok.bs b o e).1 (I.ok.bs b o e).2 (I.ok.Q3 b o e)⟩
def Inv.bk(I:Inv X U σ H s):∀b o,X.base.get? b=some o->s.heap.get? b=some o:=λb o e=>(I.bs b o e).1
def Inv.mod(I:Inv X U σ H s):Mod X.K X.mg X.base:=I.ok.mod
def Inv.w4(I:Inv X U σ H s):X.K.In s.heap:=I.ok.mod.kin.keeps I.bk
def Inv.lt(I:Inv X U σ H s):X.env.locals<s.heap.objs.size:=let ⟨_,hn,_⟩:=I.loc;hn.lt
def Inv.sz(I:Inv X U σ H s):X.s₀.heap.objs.size<=s.heap.objs.size:=A0 I.ok.above (Et I.lt)
def Inv.ahB(I:Inv X U σ H s)(h:s.heap.objs.size<=a):a∉X.fs:=λhb=>by
 obtain⟨_,o,ho,_⟩:=I.ok.uB.mem hb;exact absurd (Az (Ao ho) (A0 I.sz h)) (AE _)
def Inv.cne(I:Inv X U σ H s):∀x c,X.env.cells.lookup x=some c->c≠X.env.locals:=λx c e z=>by
 obtain⟨v,o,ho,hd⟩:=I.cell x c e;obtain⟨m,⟨o',es,ep,å,ř,_⟩,_⟩:=I.loc;rw[z,å]at ho;cases ho;rw[ř]at hd;cases hd
def Inv.uB(I:Inv X U σ H s):s.heap.FunFrames X.base X.outer:=by
 have all:∀l,(∀b∈O4 l,b∈X.fs)->X.s₀.heap.FunFrames X.base l->s.heap.FunFrames X.base l:=by
  intro l
  induction l with
  |nil=>intro _ _;trivial
  |cons env r ih=>
   intro hs hl;obtain⟨hk,⟨L,o,hf,hn,ho,hd⟩,hr⟩:=hl;have hL:=hs L (by unfold O4;rw[AH,hf];exact BI);obtain⟨sl,e⟩:=I.base.slot L o ho (I.ok.frf L hL) hL λz=>I.ok.Sa L z hL;exact⟨hk,⟨L,_,hf,hn,e,hd⟩,ih (λb hb=>hs b (by unfold O4;rw[AH,hf];exact A6 _ hb)) hr⟩
 exact all X.outer (λ_ hb=>hb) I.ok.uB
def Inv.stack(I:Inv X U σ H s):s.heap.FunFrames X.base X.stack:=by
 rcases I.ok.stk with e|⟨e,hf⟩
 .rw[e];exact I.uB
 .rw[e];obtain⟨m,hn,_⟩:=I.loc;refine .cons (by rw[I.ok.kind];decide) hf hn ?_ I.uB;exact Heap.get?_none_of_le (A0 I.ok.Ye I.ok.above)
def Inv.Ju(I:Inv X U σ H s):∀b∈O4 X.stack,b∈X.env.locals::X.fs:=λb hb=>by
 rcases I.ok.stk with e|⟨e,hf⟩
 .rw[e]at hb;exact A6 _ hb
 .rw[e]at hb;unfold O4 at hb;rw[AH,hf]at hb;exact hb
def Inv.LG(I:Inv X U σ H s):∀b∈O4 X.stack,H b=ci:=λb hb=>by
 rcases Ay.mp (I.Ju b hb) with e|hb
 .rw[e];exact I.free
 .obtain⟨_,o,ho,_⟩:=I.ok.uB.mem hb;exact I.base.free b o ho (I.ok.frf b hb) λz=>I.ok.Sa b z hb
def Inv.step{t':Nat}{d':Drawn}(I:Inv X U σ H s)(TC:∀b∈ch,(b∈X.ex\/X.s₀.heap.objs.size<=b)/\b≠X.env.locals/\(∀x c,X.env.cells.lookup x=some c->c≠b)/\∀p∈X.pn++U,p.1≠b)(keep:∀b o,b≠X.env.locals->b∉X.fs->b∉ch->s.heap.get? b=some o->H b=ci->h'.get? b=some o)(slot:∀b o,b≠X.env.locals->b∈X.fs->b∉ch->s.heap.get? b=some o->H b=ci->∃sl,h'.get? b=some {o with slots:=sl})(free:∀b o,b∉ch->s.heap.get? b=some o->H b=ci->H' b=ci)(there:∀b o,b∉ch->s.heap.get? b=some o->∃o',h'.get? b=some o')(cB:∀b xs,H b=some (.tup xs)->H' b=some (.tup xs))(qw:∀b o u,H b=some (.bA o u)->H' b=some (.bA o u))(vt:∀b ps,H b=some (.GJ ps)->∃more,H' b=some (.GJ (ps++more)))(ns:∀m,s.heap.Ns X.env.locals m->h'.Ns X.env.locals m)(ba:md X.prog X.w H' h')(hg:SB g'):Inv X U σ H' {s with heap:=h',gens:=g',drawn:=d',toks:=t'}:=by
 have neL:∀b o,X.s₀.heap.get? b=some o->b≠X.env.locals:=λb o e=>AA (Az (Ao e) I.ok.above);have Ġ:∀b o,X.s₀.heap.get? b=some o->b∉X.ex->b∉ch:=λb o e hx hb=>by
  rcases (TC b hb).1 with z|z
  .exact hx z
  .exact absurd (Az (Ao e) z) (AE _)
 have Û:∀x c,X.env.cells.lookup x=some c->∀v,s.heap.IsCell c v->h'.IsCell c v:=λx c e v ⟨o,ho,hd⟩=>by
  have č:c∉ch:=λz=>(TC c z).2.2.1 x c e rfl;by_cases hc:c∈X.fs
  .obtain⟨sl,q⟩:=slot c o (I.cne x c e) hc č ho (I.ke x c e);exact⟨_,q,hd⟩
  .exact⟨o,keep c o (I.cne x c e) hc č ho (I.ke x c e),hd⟩
 refine⟨I.ok,I.os,hg,⟨λb o e n hb hx=>?_,λb o e n hb hx=>?_,λb o e n hx=>?_,λb o e hx=>?_,λb xs e=>cB b xs (I.base.cB b xs e),λb o xs e=>qw b o xs (I.base.qw b o xs e),λb ps e=>?_⟩,?_,λx c e=>?_,?_,λx c e=>?_,λp hp=>?_,ba,I.len⟩
 .exact keep b o (neL b o e) hb (Ġ b o e hx) (I.base.keep b o e n hb hx) (I.base.free b o e n hx)
 .obtain⟨sl,e1⟩:=I.base.slot b o e n hb hx;obtain⟨sl',e2⟩:=slot b _ (neL b o e) hb (Ġ b o e hx) e1 (I.base.free b o e n hx);exact⟨sl',e2⟩
 .obtain⟨o',e1⟩:=I.base.there b o e hx;exact free b o' (Ġ b o e hx) e1 (I.base.free b o e n hx)
 .obtain⟨o',e1⟩:=I.base.there b o e hx;exact there b o' (Ġ b o e hx) e1
 .obtain⟨m1,e1⟩:=I.base.vt b ps e;obtain⟨m2,e2⟩:=vt b _ e1;exact⟨m1++m2,by rw[e2,Array.append_assoc]⟩
 .obtain⟨m,hn,hl⟩:=I.loc;refine⟨m,ns m hn,λi x v e1 e2 e3=>?_⟩;obtain⟨u,r,l⟩:=hl i x v e1 e2 e3;refine⟨u,r,?_⟩;rcases l with l|⟨k,c,e,z⟩
  .exact .inl l
  .exact .inr ⟨k,c,e,Û x c e _ z⟩
 .obtain⟨v,z⟩:=I.cell x c e;exact⟨v,Û x c e v z⟩
 .obtain⟨m,⟨o,_,_,ho,_⟩,_⟩:=I.loc;exact free _ o (λz=>(TC _ z).2.1 rfl) ho I.free
 .obtain⟨v,o,ho,hd⟩:=I.cell x c e;exact free c o (λz=>(TC c z).2.2.1 x c e rfl) ho (I.ke x c e)
 .obtain⟨e,n,ne,nf,d⟩:=I.pin p hp;have č:p.1∉ch:=λz=>(TC p.1 z).2.2.2 p hp rfl;exact⟨keep p.1 p.2 ne nf č e n,free p.1 p.2 č e n,ne,nf,d⟩
def Inv.un{t':Nat}(I:Inv X U σ H s)(u:Un X.fs [] H H' s.heap h')(ba:md X.prog X.w H' h'):Inv X U σ H' {s with heap:=h',toks:=t'}:=by
 obtain⟨m,⟨o,es,ep,ho,r⟩,_⟩:=id I.loc;obtain⟨sl,hL⟩:=u.any ho I.free (by simp);exact I.step (g':=s.gens) (d':=s.drawn) (ch:=[]) (λ_ z=>nomatch z) (λb o _ hb _ e n=>u.keep b o e n hb (by simp)) (λb o _ hb _ e n=>u.slot b o e n hb (by simp)) (λb o _ e n=>u.free b o e n (by simp)) (λb o _ e=>u.there b o e (by simp)) u.cB u.qw u.vt (λm' hm=>by
  obtain⟨o',Ę,ę,å,r'⟩:=hm;rw[ho]at å;cases å;exact⟨_,Ę,ę,hL,r'⟩) ba I.bare
def Inv.call{t':Nat}{d':Drawn}(I:Inv X U σ H s)(u:Un (O4 X.stack) ch H H' s.heap h')(ba:md X.prog X.w H' h')(hg:SB g')(TC:∀b∈ch,(b∈X.ex\/X.s₀.heap.objs.size<=b)/\b≠X.env.locals/\(∀x c,X.env.cells.lookup x=some c->c≠b)/\∀p∈X.pn++U,p.1≠b):Inv X U σ H' {s with heap:=h',gens:=g',drawn:=d',toks:=t'}:=by
 obtain⟨m,⟨o,es,ep,ho,r⟩,_⟩:=id I.loc;obtain⟨sl,hL⟩:=u.any ho I.free λz=>(TC _ z).2.1 rfl;exact I.step (ch:=ch) TC (λb o hL hb hc e n=>u.keep b o e n (λz=>(Ay.mp (I.Ju b z)).elim hL hb) hc) (λb o _ _ hc e n=>u.any e n hc) (λb o hc e n=>u.free b o e n hc) (λb o hc e=>u.there b o e hc) u.cB u.qw u.vt (λm' hm=>by
  obtain⟨o',Ę,ę,å,r'⟩:=hm;rw[ho]at å;cases å;exact⟨_,Ę,ę,hL,r'⟩) ba hg
def Inv.turned{t':Nat}(I:Inv X U σ H s)(k:∀b o,b≠it->s.heap.get? b=some o->h'.get? b=some o)(hn:H it=ci)(hL:it≠X.env.locals)(h1:it∈X.ex\/X.s₀.heap.objs.size<=it)(h2:∀x c,X.env.cells.lookup x=some c->c≠it)(h3:∀p∈X.pn++U,p.1≠it):Inv X U σ H {s with heap:=h',toks:=t'}:=by
 have Xl:∀b u,H b=some u->b≠it:=λb u e z=>by rw[z,hn]at e;cases e
 refine I.step (g':=s.gens) (d':=s.drawn) (ch:=[it]) (λb hb=>?_) (λb o _ _ hc e _=>k b o (λz=>hc (by simp[z])) e) (λb o _ _ hc e _=>⟨o.slots,k b o (λz=>hc (by simp[z])) e⟩) (λ_ _ _ _ n=>n)
  (λb o hc e=>⟨o,k b o (λz=>hc (by simp[z])) e⟩) (λ_ _ e=>e) (λ_ _ _ e=>e) (λb ps e=>⟨#[],by rw[e];simp⟩) (λm hm=>?_) (λb u e=>?_) I.bare
 .have e:b=it:=by simpa using hb
  subst e;exact⟨h1,hL,h2,h3⟩
 .obtain⟨o,es,ep,ho,r⟩:=hm;exact⟨o,es,ep,k _ o (Bt hL) ho,r⟩
 .refine(I.ba b u e).xS (λc v hc q=>k c v ?_ q) (λ_ q=>q) λ_ _ q=>q;rcases hc with z|z
  .rw[z];exact Xl b u e
  .exact Xl c _ z
def Inv.tok(I:Inv X U σ H s)(t:Nat):Inv X U σ H {s with toks:=t}:=I.un Un.refl I.ba
def Inv.kept{t':Nat}(I:Inv X U σ H s)(k:∀b u,s.heap.get? b=some u->h'.get? b=some u):Inv X U σ H {s with heap:=h',toks:=t'}:=I.un (Un.kept k) (I.ba.kept k)
def Inv.laid{o:HO}{t':Nat}(I:Inv X U σ H s)(k:∀b u,s.heap.get? b=some u->h'.get? b=some u)(hp:s.heap.objs.size<=a)(new:br X.prog X.w (upd H a o) h' a o):Inv X U σ (upd H a o) {s with heap:=h',toks:=t'}:=I.un (Un.laid k hp (I.ba.fresh hp)) (I.ba.laid k hp new)
def Inv.write{x:f8}{o:HO}{t':Nat}(I:Inv X U σ H s)(mu:Mut (H x))(he:e=x\/H e=some (.own x))(k:∀b u,b≠e->s.heap.get? b=some u->h'.get? b=some u)(ü:∃u,h'.get? e=some u)(new:br X.prog X.w (upd H x o) h' x o):Inv X U σ (upd H x o) {s with heap:=h',toks:=t'}:=I.un (Un.write mu he k ü) (I.ba.write mu he k ü new)
def Inv.LX{G9:O (f8×Obj)}(I:Inv X U σ H s)(h:∀p∈G9,s.heap.get? p.1=some p.2/\H p.1=ci/\p.1≠X.env.locals/\p.1∉X.fs/\∀v,p.2.data≠.cell v):Inv X G9 σ H s:=
 ⟨I.ok,I.os,I.bare,I.base,I.loc,I.cell,I.free,I.ke,λp hp=>(AO.mp hp).elim (λz=>I.pin p (BJ _ z)) (h p),I.ba,I.len⟩
def Hm{N:O Str}(hN:N.Nodup){x:Str}(a:N[i]?=some x)(b:N[j]?=some x):i=j:=by
 obtain⟨h1,e1⟩:=Ag.mp a;obtain⟨h2,e2⟩:=Ag.mp b;exact(D5 hN).mp (e1.trans e2.symm)
def wB{x:Str}(I:Inv X U σ H s)(hN:X.N.Nodup)(hi:X.N[i]?=some x)(hx:Loc X.env.scope x)(r:RelV v u)(h:∀s',Inv X U (σ.set i (some v)) H s'->(∃a,B0 a s.heap s'.heap/\(a=X.env.locals\/X.env.cells.lookup x=some a))->Q () s')(hf:MP X x:=by first|exact .inl rfl|exact .inr rfl|assumption):gl M A (storeName X.env x u) Q E s:=by
 obtain⟨m,hn,hl⟩:=id I.loc;have aiG:(X.env.scope.kind==.class||(X.env.scope.kind==.module&&X.env.locals != X.env.globals))=false:=by rw[I.ok.kind];rfl
 have aeb:i < σ.length:=by rw[I.len];exact(Ag.mp hi).1
 have cne:=I.cne;have Ï:∀{a:f8}{h':re},(∃o,s.heap.get? a=some o/\H a=ci)->B0 a s.heap h'->md X.prog X.w H h':=λ{a h'} ha hs b ob e=>by
  obtain⟨_,_,XQ⟩:=ha;refine(I.ba b ob e).xS (λc w' hc q=>(hs.2 c ?_).trans q) (λ_ q=>q) λ_ _ q=>q;rintro rfl;rcases hc with rfl|hc
  .rw[XQ]at e;cases e
  .rw[XQ]at hc;cases hc
 rcases hx with hk|hk
 .refine wpAny_storeName_local hk hn (λh' hn' hs=>?_) aiG;obtain⟨oL,_,_,ħ,_⟩:=id hn;refine h _ ⟨I.ok,I.os,I.bare,⟨λb o e n hb hx=>?_,λb o e n hb hx=>?_,I.base.free,λb o e hx=>?_,I.base.cB,I.base.qw,I.base.vt⟩,⟨_,hn',λj y v' e1 e2 e3=>?_⟩,λy c e=>?_,I.free,I.ke,λp hp=>?_,Ï ⟨oL,ħ,I.free⟩ hs,by simpa using I.len⟩ ⟨_,hs,.inl rfl⟩
  .exact(hs.2 b (AA (Az (Ao e) I.ok.above))).trans (I.base.keep b o e n hb hx)
  .obtain⟨sl,e1⟩:=I.base.slot b o e n hb hx;exact⟨sl,(hs.2 b (AA (Az (Ao e) I.ok.above))).trans e1⟩
  .obtain⟨o',e1⟩:=I.base.there b o e hx;exact⟨o',(hs.2 b (AA (Az (Ao e) I.ok.above))).trans e1⟩
  .by_cases hj:j=i
   .subst hj;rw[hi]at e1;cases e1;rw[B2 aeb]at e2;cases e2;exact⟨u,r,.inl ⟨hk,by simp⟩⟩
   .rw[Bq (Bt hj)]at e2;obtain⟨u',r',q⟩:=hl j y v' e1 e2 e3;refine⟨u',r',?_⟩;rcases q with⟨k,e⟩|⟨k,c,e,z⟩
    .refine .inl ⟨k,?_⟩;have:y≠x:=λe=>hj (Hm hN e1 (e▸hi));simp[this,e]
    .exact .inr ⟨k,c,e,z.sameBut hs (cne y c e)⟩
  .obtain⟨w',z⟩:=I.cell y c e;exact⟨w',z.sameBut hs (cne y c e)⟩
  .obtain⟨e,n,ne,nf,d⟩:=I.pin p hp;exact⟨(hs.2 p.1 ne).trans e,n,ne,nf,d⟩
 .have Ē:X.fn x=true:=by
   rcases hf with z|z
   .exact z
   .rw[z]at hk;cases hk
  obtain⟨c,hc⟩:=I.ok.has x (.inl hk);obtain⟨w',z⟩:=I.cell x c hc;refine wpAny_storeName_cell I.ok.kind hk hc z (λh' ý hs=>?_);obtain⟨oc,hoc,ail⟩:=id z;refine h {s with heap:=h'} ⟨I.ok,I.os,I.bare,⟨λb o e n hb hx=>?_,λb o e n hb hx=>?_,I.base.free,λb o e hx=>?_,I.base.cB,I.base.qw,I.base.vt⟩,⟨m,hn.sameBut hs (Bt (cne x c hc)),λj y v' e1 e2 e3=>?_⟩,λy c' e=>?_,I.free,I.ke,λp hp=>?_,Ï ⟨oc,hoc,I.ke x c hc⟩ hs,by simpa using I.len⟩ ⟨c,hs,.inr hc⟩
  .exact(hs.2 b (AA (Az (Ao e) (I.ok.cab x c Ē hc)))).trans (I.base.keep b o e n hb hx)
  .obtain⟨sl,e1⟩:=I.base.slot b o e n hb hx;exact⟨sl,(hs.2 b (AA (Az (Ao e) (I.ok.cab x c Ē hc)))).trans e1⟩
  .obtain⟨o',e1⟩:=I.base.there b o e hx;exact⟨o',(hs.2 b (AA (Az (Ao e) (I.ok.cab x c Ē hc)))).trans e1⟩
  .by_cases hj:j=i
   .subst hj;rw[hi]at e1;cases e1;rw[B2 aeb]at e2;cases e2;exact⟨u,r,.inr ⟨.inl hk,c,hc,ý⟩⟩
   .rw[Bq (Bt hj)]at e2;obtain⟨u',r',q⟩:=hl j y v' e1 e2 e3;refine⟨u',r',?_⟩;rcases q with q|⟨k,c',e,z'⟩
    .exact .inl q
    .refine .inr ⟨k,c',e,z'.sameBut hs ?_⟩;rintro rfl;exact hj (Hm hN e1 (I.ok.inj _ _ _ e hc▸hi))
  .by_cases è:c'=c
   .subst è;exact⟨_,ý⟩
   .obtain⟨w2,z2⟩:=I.cell y c' e;exact⟨w2,z2.sameBut hs è⟩
  .obtain⟨e,n,ne,nf,d⟩:=I.pin p hp;refine⟨(hs.2 p.1 ?_).trans e,n,ne,nf,d⟩;intro q;rw[q,hoc]at e;have q':oc=p.2:=Option.some.inj e;exact d w' (by rw[<- q'];exact ail)
def nZ{x:Str}(I:Inv X U σ H s)(hN:X.N.Nodup)(hi:X.N[i]?=some x)(hx:Loc X.env.scope x)(r:RelV v u)(h:∀s',Inv X U (σ.set i (some v)) H s'->Q () s')(hf:MP X x:=by first|exact .inl rfl|exact .inr rfl|assumption):gl M A (storeName X.env x u) Q E s:=
 wB I hN hi hx r (λs' I' _=>h s' I') hf
def Inv.ae4(I:Inv X U σ H s)(ho:s'.os=s.os)(u:Un (O4 X.stack) ch H H' s.heap s'.heap)(ba:md X.prog X.w H' s'.heap)(hg:SB s'.gens)(TC:∀b∈ch,(b∈X.ex\/X.s₀.heap.objs.size<=b)/\b≠X.env.locals/\(∀x c,X.env.cells.lookup x=some c->c≠b)/\∀p∈X.pn++U,p.1≠b):Inv X U σ H' s':=by
 obtain⟨h',g',d',t',o'⟩:=s';have e:o'=s.os:=ho;subst e;exact I.call (g':=g') (t':=t') (d':=d') u ba hg TC
end
abbrev XK:=cr->Option f8->Hp->Prop
abbrev St:=O (Option V)
abbrev VK:=V->Hp->Prop
abbrev TE:=St->Hp->VK->Prop
abbrev TT:=St->Hp->(Bool->Hp->Prop)->Prop
abbrev TA:=St->Hp->(O V->Hp->Prop)->Prop
structure Ends where
 nx:St->Hp->Prop
 rt:VK
 bk:St->Hp->Prop:=λ_ _=>False
 ct:St->Hp->Prop:=λ_ _=>False
abbrev TS:=Ends->St->Hp->Prop
def EP(X:Cx)(U:O (f8×Obj))(σ:St)(Q:VK)(u:cr)(s':db):Prop:=∃v H',Inv X U σ H' s'/\RelV v u/\Q v H'
def TP(X:Cx)(U:O (f8×Obj))(σ:St)(Q:Bool->Hp->Prop)(b:Bool)(s':db):Prop:=∃H',Inv X U σ H' s'/\Q b H'
def AP(X:Cx)(U:O (f8×Obj))(σ:St)(Q:O V->Hp->Prop)(us:O cr)(s':db):Prop:=∃vs H',Inv X U σ H' s'/\Vals vs us/\Q vs H'
def SP(X:Cx)(U:O (f8×Obj))(D:Ends)(f:Flow)(s':db):Prop:=
 match f with
 |.next=>∃σ' H',Inv X U σ' H' s'/\D.nx σ' H'
 |.brk=>∃σ' H',Inv X U σ' H' s'/\D.bk σ' H'
 |.cont=>∃σ' H',Inv X U σ' H' s'/\D.ct σ' H'
 |.ret u=>∃v σ' H',Inv X U σ' H' s'/\RelV v u/\D.rt v H'
def PE(X:Cx)(e:nw)(t:TE):Prop:=
 ∀(U:O (f8×Obj)) (s:db) (σ:St) (H:Hp) (Q:VK),Inv X U σ H s->t σ H Q->gl (im X.prog X.w) X.A (pc e X.env) (EP X U σ Q) X.xe s
def PT(X:Cx)(e:nw)(t:TT):Prop:=
 ∀(U:O (f8×Obj)) (s:db) (σ:St) (H:Hp) (Q:Bool->Hp->Prop),Inv X U σ H s->t σ H Q->gl (im X.prog X.w) X.A (isTrue e X.env (pc e X.env)) (TP X U σ Q) X.xe s
def PW(X:Cx)(e:nw)(t:TT):Prop:=
 ∀(Ä:Sem cr) (U:O (f8×Obj)) (s:db) (σ:St) (H:Hp) (Q:Bool->Hp->Prop),Inv X U σ H s->t σ H Q->gl (im X.prog X.w) X.A (isTrue e X.env Ä) (TP X U σ Q) X.xe s
def PW.pt{X:Cx}{e:nw}{t:TT}(h:PW X e t):PT X e t:=h _
def PA(X:Cx)(es:O nw)(t:TA):Prop:=
 ∀(pos:Pos) (U:O (f8×Obj)) (s:db) (σ:St) (H:Hp) (Q:O V->Hp->Prop),Inv X U σ H s->t σ H Q->gl (im X.prog X.w) X.A (spliced (t0 pos (gt es X.env))) (AP X U σ Q) X.xe s
def PS(X:Cx)(st:wn)(t:TS):Prop:=
 ∀(U:O (f8×Obj)) (s:db) (σ:St) (H:Hp) (D:Ends),Inv X U σ H s->t D σ H->gl (im X.prog X.w) X.A (exec st X.env) (SP X U D) X.xe s
def pN(X:Cx)(st:O wn)(t:TS):Prop:=
 ∀(U:O (f8×Obj)) (s:db) (σ:St) (H:Hp) (D:Ends),Inv X U σ H s->t D σ H->gl (im X.prog X.w) X.A (execs st X.env) (SP X U D) X.xe s
def bE{t:Sem α}{Q Q':α->db->Prop}{s:db}(h:gl M A t Q E s)(hQ:∀a s,Q a s->Q' a s):gl M A t Q' E s:=BM h hQ λ_ _ x=>x
end L2
variable{x:B4}{a:BF}{X:L2.Cx}{σ:L2.St}{Q:Bg->C9->Prop}{ta tb:L2.TE}{R:L2.V->L2.V->L2.Hp->Prop}{pos:Cn}{op:PySem.CmpOp}
namespace L2
section
def bin{b:nw}(ha:PE X a ta)(hb:PE X b tb){s:db}(I:Inv X U σ H s)(h:ta σ H λx H1=>tb σ H1 λy H2=>R x y H2){Q:α->db->Prop}{f:cr->cr->Sem α}(hf:∀v u s2 x y H2,Inv X U σ H2 s2->RelV x v->RelV y u->R x y H2->gl (im X.prog X.w) X.A (f v u) Q X.xe s2):gl (im X.prog X.w) X.A (pc a X.env) (λv s₁=>gl (im X.prog X.w) X.A (pc b X.env) (λu s₂=>gl (im X.prog X.w) X.A (f v u) Q X.xe s₂) X.xe s₁) X.xe s:=by
 refine bE (ha U s σ H _ I h) λv s1 ⟨x,H1,I1,r1,q1⟩=>?_;refine bE (hb U s1 σ H1 _ I1 q1) λu s2 ⟨y,H2,I2,r2,q2⟩=>?_;exact hf v u s2 x y H2 I2 r1 r2 q2
def Jt(i:Nat):TE:=λσ H Q=>∃v,σ[i]?=some (some v)/\Q v H
def tC(v:V):TE:=λ_ H Q=>Q v H
def cX(hN:X.N[i]?=some x)(hv:v9 X.env.scope x)(hd: ~~~(gZ x))(gU: ~~~(xF x)):PE X (.Name x pos) (Jt i):=by
 intro U s σ H Q I h;obtain⟨v,e,h⟩:=h;obtain⟨m,hn,hl⟩:=I.loc;obtain⟨u,r,l⟩:=hl i x v hN e hv;have fin:EP X U σ Q u s:=⟨v,H,I,r,h⟩;rcases l with⟨hk,hm⟩|⟨hk,c,hc,XS⟩
 .exact wpAny_Name (wpAny_loadName_local I.ok.kind hk hn hm fin) hd
 .rcases hk with hk|hk
  .exact wpAny_Name (wpAny_loadName_cell I.ok.kind hk hc XS fin) hd
  .exact wpAny_Name (wpAny_loadName_free I.ok.kind hk hc XS fin gU) hd
def bg{i j pos}:PE X (.Constant (.int i) j pos) (tC (.int i)):=λ_ _ _ H _ I h=>wpAny_Constant_int ⟨.int i,H,I.tok _,⟨_,rfl⟩,h⟩
def adi{b j pos}:PE X (.Constant (.bool b) j pos) (tC (.bl b)):=λ_ _ _ H _ I h=>Constant_bool ⟨.bl b,H,I,rfl,h⟩
def QM{j pos}:PE X (.Constant .none j pos) (tC .aB):=λ_ _ _ H _ I h=>Constant_none ⟨.aB,H,I,rfl,h⟩
def Zl{x j pos}:PE X (.Constant (.str x) j pos) (tC (.str x)):=λ_ _ _ H _ I h=>Calls.Constant_str ⟨.str x,H,I.tok _,⟨_,rfl⟩,h⟩
def Gl(X:Cx)(x:Str):Prop:=X.env.kindOf x=some .globalImplicit
def Mb{s:db}(I:Inv X U σ H s)(hg:Gl X x)(hm:X.mg x=some u)(h:Q u s)(hd: ~~~(gZ x)):gl (im X.prog X.w) X.A (pc (.Name x pos) X.env) Q E s:=
 EG I.ok.kind hg (Calls.loadGlobal_global (by rw[I.ok.glob];exact I.mod.glob.keeps I.bk) hm h) hd
def fc{s:db}(I:Inv X U σ H s)(hg:Gl X x)(hm:X.mg x=ci)(hv:sw x=some u)(h:Q u s)(hn: ~~~(x≠"__name__"))(hd: ~~~(gZ x)):gl (im X.prog X.w) X.A (pc (.Name x pos) X.env) Q E s:=by
 obtain⟨mb,h1,h2⟩:=I.mod.blt;exact EG I.ok.kind hg (Calls.loadGlobal_builtin (by rw[I.ok.glob];exact I.mod.glob.keeps I.bk) hm (by rw[I.ok.blt];exact h1.keeps I.bk) ((h2 x hn).trans hv) h) hd
def sA(hg:Gl X x)(hm:X.mg x=some u)(r:RelV v u)(hd: ~~~(gZ x)):PE X (.Name x pos) (tC v):=
 λ_ _ _ H _ I h=>Mb I hg hm ⟨v,H,I,r,h⟩ hd
def UU(hg:Gl X x)(hm:X.mg x=ci)(hv:sw x=some u)(r:RelV v u)(hn: ~~~(x≠"__name__"))(hd: ~~~(gZ x)):PE X (.Name x pos) (tC v):=
 λ_ _ _ H _ I h=>fc I hg hm hv ⟨v,H,I,r,h⟩ hn hd
variable{b:nw}
def PC(X:Cx)(op:CmpOp)(a b:nw)(t:TE):Prop:=
 ∀(U:O (f8×Obj)) (s:db) (σ:St) (H:Hp) (Q:VK),Inv X U σ H s->t σ H Q->
  gl (im X.prog X.w) X.A (pc a X.env) (λv s₁=>gl (im X.prog X.w) X.A (pc b X.env) (λu s₂=>gl (im X.prog X.w) X.A (ss op v u) (EP X U σ Q) X.xe s₂) X.xe s₁) X.xe s
def tB(t:TE):TT:=λσ H Q=>t σ H λx H1=>∃c,x=.bl c/\Q c H1
def Qu{t:TE}(h:PC X op a b t)(h1:sB op b=false:=by first|exact adx _ ⋯ ⋯ | rfl):PT X (.Compare a [op] [b] pos) (tB t):=by
 intro U s σ H Q I hw;refine wpAny_isTrue_Compare1 (bE (h U s σ H _ I hw) λv s1 h1=>bE h1 λu s2 h2=>bE h2 λc s3 ⟨x,H1,I1,r1,q1⟩=>?_) h1;obtain⟨d,rfl,q⟩:=q1;cases r1;exact C3 ⟨H1,I1,q⟩
variable{tA YO:TT}{rest:O nw}
def acF(t u:TT):TT:=λσ H Q=>t σ H λc H1=>if c=true then u σ H1 Q else Q false H1
def tOr(t u:TT):TT:=λσ H Q=>t σ H λc H1=>if c=true then Q true H1 else u σ H1 Q
def agX(t:TT):TT:=λσ H Q=>t σ H λc H1=>Q (!c) H1
def LV(ha:PT X a tA):PW X (.BoolOp .And [a] pos) tA:=by
 intro wh U s σ H Q I h;refine isTrue_and (bE (ha U s σ H Q I h) λc s1 e=>?_);cases c with
 |true=>exact isTrue_and_nil e
 |false=>exact e
def Qn(ha:PT X a tA):PW X (.BoolOp .Or [a] pos) tA:=by
 intro wh U s σ H Q I h;refine isTrue_or (bE (ha U s σ H Q I h) λc s1 e=>?_);cases c with
 |false=>exact isTrue_or_nil e
 |true=>exact e
def Qo(ha:PT X a tA)(hb:PW X (.BoolOp .And (b::rest) pos) YO):PW X (.BoolOp .And (a::b::rest) pos) (acF tA YO):=by
 intro wh U s σ H Q I h;refine isTrue_and (bE (ha U s σ H _ I h) λc s1 ⟨H1,I1,q1⟩=>?_);cases c with
 |true=>exact hb wh U s1 σ H1 Q I1 q1
 |false=>exact⟨H1,I1,q1⟩
def Xd(ha:PT X a tA)(hb:PW X (.BoolOp .Or (b::rest) pos) YO):PW X (.BoolOp .Or (a::b::rest) pos) (tOr tA YO):=by
 intro wh U s σ H Q I h;refine isTrue_or (bE (ha U s σ H _ I h) λc s1 ⟨H1,I1,q1⟩=>?_);cases c with
 |true=>exact⟨H1,I1,q1⟩
 |false=>exact hb wh U s1 σ H1 Q I1 q1
def Zi(ha:PT X a tA):PT X (.UnaryOp .Not a pos) (agX tA):=by
 intro U s σ H Q I h;exact isTrue_not (ha U s σ H (λc H1=>Q (!c) H1) I h)
def acE(ta tb:TE):TE:=λσ H Q=>ta σ H λx H1=>∃c,x=.bl c/\if c=true then tb σ H1 Q else Q (.bl false) H1
def Zm{op}{t:TE}(h:PE X a t):PE X (.BoolOp op [a] pos) t:=λU s σ H Q I hw=>BoolOp_one (h U s σ H Q I hw)
def Zo(ha:PE X a ta)(hb:PE X (.BoolOp .And (b::rest) pos) tb):PE X (.BoolOp .And (a::b::rest) pos) (acE ta tb):=by
 intro U s σ H Q I h;refine BoolOp_and (bE (ha U s σ H _ I h) λv s1 ⟨x,H1,I1,r1,q1⟩=>?_);obtain⟨c,rfl,q1⟩:=q1;cases r1;refine C3 ?_;cases c with
 |true=>exact hb U s1 σ H1 Q I1 q1
 |false=>exact⟨.bl false,H1,I1,rfl,q1⟩
def tIf(t:TT)(ta tb:TE):TE:=λσ H Q=>t σ H λc H1=>if c=true then ta σ H1 Q else tb σ H1 Q
def Hb{c:nw}(hc:PT X c tA)(ha:PE X a ta)(hb:PE X b tb):PE X (.IfExp c a b pos) (tIf tA ta tb):=by
 intro U s σ H Q I h;refine wpAny_IfExp (bE (hc U s σ H _ I h) λd s1 ⟨H1,I1,q1⟩=>?_);cases d with
 |true=>exact ha U s1 σ H1 Q I1 q1
 |false=>exact hb U s1 σ H1 Q I1 q1
end
end L2
variable{xs ys:O L2.V}{e tg:BF}{y:L2.V}{D:L2.Ends}{te to:L2.TE}{es:O BF}{n:Nat}{Ö px py pt:Cn}{body:O PySem.Stmt}
namespace L2
def bM(K:Ab)(H:Hp)(a:f8)(xs:O V):Prop:=
 Rd H a (.lst xs)\/
  ∃(o:Obj) (ao:Array cr) (n:Nat),K.lookup a=some o/\o.cls=.type "list"/\o.dict=ci/\o.data=.seq ao n/\ao.size<=sizeLine/\Vals xs ao.toList
def d6(K:Ab)(H:Hp)(a:f8)(xs:O V):Prop:=
 Rd H a (.tup xs)\/
  ∃(o:Obj) (ao:Array cr) (n:Nat),K.lookup a=some o/\o.cls=.type "tuple"/\o.data=.seq ao n/\ao.size<=sizeLine/\Vals xs ao.toList
def ajc:cr->Option V
 |.none=>some .aB
 |.bool b=>some (.bl b)
 |.int i _=>some (.int i)
 |.str x _=>some (.str x)
 |.bytes b _=>some (.OJ b)
 |.float b _=>some (.flt b)
 |.ref a=>some (.ref a)
 |.type n=>some (.ty n)
 |_=>ci
def RelV.abs{x:V}(r:RelV x u):ajc u=some x:=by
 cases x with
 |aB=>cases r;rfl
 |bl _=>cases r;rfl
 |int _=>obtain⟨t,rfl⟩:=r;rfl
 |str _=>obtain⟨t,rfl⟩:=r;rfl
 |OJ _=>obtain⟨t,rfl⟩:=r;rfl
 |flt _=>obtain⟨t,rfl⟩:=r;rfl
 |ref _=>cases r;rfl
 |ty _=>cases r;rfl
def RelV.inj{x:V}(r:RelV x u)(q:RelV y u):x=y:=Option.some.inj (r.abs.symm.trans q.abs)
theorem Vals.inj:∀{xs ys:O V}{us:O cr},Vals xs us->Vals ys us->xs=ys
 |_,_,_,.nil,.nil=>rfl
 |_,_,_,.cons r t,.cons r' t'=>by rw[r.inj r',Vals.inj t t']
section
variable{s:db}{a:f8}
def bM.of{K:Ab}(h:H a=some (.lst xs)):bM K H a xs:=.inl (.inl h)
def d6.of{K:Ab}(h:H a=some (.tup xs)):d6 K H a xs:=.inl (.inl h)
theorem Inv.list(I:Inv X U σ H s)(h:bM X.K H a xs):∃ao:O cr,Vals xs ao/\PlainL s.heap a ao.toArray/\xs.length<=sizeLine:=by
 rcases h with h|⟨o,ao,n,hk,hc,hd,hs,hz,r⟩
 .obtain⟨z,ao,n,r,e⟩:=h.ok I.ba;exact⟨ao,r,⟨_,n,e,rfl,rfl,rfl⟩,z⟩
 .refine⟨ao.toList,r,⟨o,n,I.w4 a o hk,hc,hd,by simpa using hs⟩,?_⟩;have e:=r.length;simp at e;lia
theorem Inv.tuple(I:Inv X U σ H s)(h:d6 X.K H a xs):∃ao:O cr,Vals xs ao/\IsTup s.heap a ao.toArray/\xs.length<=sizeLine:=by
 rcases h with h|⟨o,ao,n,hk,hc,hs,hz,r⟩
 .obtain⟨z,ao,r,p,_⟩:=h.ok I.ba;exact⟨ao,r,p,z⟩
 .refine⟨ao.toList,r,⟨o,I.w4 a o hk,hc,n,by simpa using hs⟩,?_⟩;have e:=r.length;simp at e;lia
def Inv.uf(I:Inv X U σ H s)(h:bM X.K H a xs)(h':bM X.K H a ys):xs=ys:=by
 obtain⟨ao,r,⟨o,n,e,_,_,d⟩,_⟩:=I.list h;obtain⟨eD,r',⟨o',n',e',_,_,d'⟩,_⟩:=I.list h';rw[e]at e';cases e';rw[d]at d';injection d' with d1 _;have:ao=eD:=by simpa using congrArg Array.toList d1
 subst this;exact r.inj r'
def Inv.lH(I:Inv X U σ H s)(h:d6 X.K H a xs)(h':d6 X.K H a ys):xs=ys:=by
 obtain⟨ao,r,⟨o,e,_,n,d⟩,_⟩:=I.tuple h;obtain⟨eD,r',⟨o',e',_,n',d'⟩,_⟩:=I.tuple h';rw[e]at e';cases e';rw[d]at d';injection d' with d1 _;have:ao=eD:=by simpa using congrArg Array.toList d1
 subst this;exact r.inj r'
end
abbrev Cx.vn(X:Cx)(E:cr->db->Prop):Cx:={X with xe:=E}
abbrev Cx.Xj(X:Cx):Cx:=X.vn λ_ _=>False
def Cx.Ok.vn(ok:X.Ok)(E:cr->db->Prop):(X.vn E).Ok:=
 ⟨ok.mod,ok.kind,ok.glob,ok.blt,ok.above,ok.inj,ok.has,ok.cab,ok.hd,ok.frames,ok.stk,ok.exf,ok.bs,ok.Ye,ok.Q3,ok.Sa,ok.uB,ok.frf⟩
def Cx.Ok.kz(ok:(X.vn E).Ok):X.Ok:=
 ⟨ok.mod,ok.kind,ok.glob,ok.blt,ok.above,ok.inj,ok.has,ok.cab,ok.hd,ok.frames,ok.stk,ok.exf,ok.bs,ok.Ye,ok.Q3,ok.Sa,ok.uB,ok.frf⟩
section
variable{s:db}
def Inv.vn(I:Inv X U σ H s)(E:cr->db->Prop):Inv (X.vn E) U σ H s:=⟨I.ok.vn E,I.os,I.bare,I.base,I.loc,I.cell,I.free,I.ke,I.pin,I.ba,I.len⟩
def Inv.kz(I:Inv (X.vn E) U σ H s):Inv X U σ H s:=⟨I.ok.kz,I.os,I.bare,I.base,I.loc,I.cell,I.free,I.ke,I.pin,I.ba,I.len⟩
def SP.kz{f:Flow}(h:SP (X.vn E) U D f s'):SP X U D f s':=by
 cases f with
 |next=>obtain⟨σ',H',I,q⟩:=h;exact⟨σ',H',I.kz,q⟩
 |brk=>obtain⟨σ',H',I,q⟩:=h;exact⟨σ',H',I.kz,q⟩
 |cont=>obtain⟨σ',H',I,q⟩:=h;exact⟨σ',H',I.kz,q⟩
 |ret u=>obtain⟨v,σ',H',I,r,q⟩:=h;exact⟨v,σ',H',I.kz,r,q⟩
def pN.Xj{st:O wn}{t:TS}(h:pN X.Xj st t):pN X st t:=λU s σ H D I hw=>
 BM (h U s σ H D (I.vn _) hw) (λ_ _ q=>q.kz) λ_ _ z=>B3 z
end
section
variable{st:wn}{rest:O wn}{t u:TS}
def LC:TS:=λD σ H=>D.nx σ H
def acx(t u:TS):TS:=λD σ H=>t {D with nx:=u D} σ H
def oo:pN X [] LC:=λ_ _ σ H _ I h=>Eh ⟨σ,H,I,h⟩
def eA(h1:PS X st t)(h2:pN X rest u):pN X (st::rest) (acx t u):=by
 intro U s σ H D I h;refine wpAny_execs_cons (bE (h1 U s σ H {D with nx:=u D} I h) λf s1 q=>?_);cases f with
 |next=>
  obtain⟨σ',H',I',q⟩:=q;exact h2 U s1 σ' H' D I' q
 |ret v=>exact q
 |brk=>exact q
 |cont=>exact q
def lI(h1:PS X st t):pN X [st] t:=by
 intro U s σ H D I h;refine wpAny_execs_cons (bE (h1 U s σ H D I h) λf s1 q=>?_);cases f with
 |next=>exact Eh q
 |ret v=>exact q
 |brk=>exact q
 |cont=>exact q
def acB:TS:=λD σ H=>D.ct σ H
def G6:PS X (.Continue pos) acB:=λ_ _ σ H _ I h=>wpAny_Continue ⟨σ,H,I,h⟩
def Inv.quiet{s:db}(I:Inv X U σ H s):interactive X.env=false:=by simp[interactive,I.ok.kind]
def WW(te:TE):TS:=λD σ H=>te σ H λ_ H1=>D.nx σ H1
def hU(he:PE X e te)(hs:‹o0 e ci pos.line X.env=pure false›):PS X (.Expr e pos) (WW te):=by
 intro U s σ H D I h;exact wpAny_Expr_any (bE (he U s σ H _ I h) λv s1 ⟨x,H1,I1,r1,q1⟩=>⟨σ,H1,I1,q1⟩) I.quiet hs
def acy(te:TE):TS:=λD σ H=>te σ H D.rt
def tD(he:PE X e te):PS X (.Return (some e) pos) (acy te):=by
 intro U s σ H D I h;exact wpAny_Return_some (bE (he U s σ H _ I h) λv s1 ⟨x,H1,I1,r1,q1⟩=>⟨x,σ,H1,I1,r1,q1⟩)
def YK(c:TT)(t u:TS):TS:=λD σ H=>c σ H λb H1=>if b=true then t D σ H1 else u D σ H1
def G5{c:nw}{a b:O wn}{tc:TT}(hc:PT X c tc)(ha:pN X a t)(hb:pN X b u):PS X (.If c a b pos) (YK tc t u):=by
 intro U s σ H D I h;refine wpAny_If (bE (hc U s σ H _ I h) λd s1 ⟨H1,I1,q1⟩=>?_);cases d with
 |true=>exact ha U s1 σ H1 D I1 q1
 |false=>exact hb U s1 σ H1 D I1 q1
def YJ:TS:=λ_ _ _=>False
end
abbrev TG:=V->St->Hp->(St->Hp->Prop)->Prop
abbrev TGs:=O V->St->Hp->(St->Hp->Prop)->Prop
def PG(X:Cx)(Ê:nw)(t:TG):Prop:=
 ∀(U:O (f8×Obj)) (s:db) (σ:St) (H:Hp) (v:V) (u:cr) (Q:St->Hp->Prop),Inv X U σ H s->RelV v u->t v σ H Q->
  gl (im X.prog X.w) X.A (PP Ê X.env u) (λ_ s'=>∃σ' H',Inv X U σ' H' s'/\Q σ' H') X.xe s
def PGs(X:Cx)(ts:O nw)(t:TGs):Prop:=
 ∀(U:O (f8×Obj)) (s:db) (σ:St) (H:Hp) (vs:O V) (us:O cr) (Q:St->Hp->Prop),Inv X U σ H s->Vals vs us->t vs σ H Q->
  gl (im X.prog X.w) X.A (assignInOrder ((Gc ts X.env).map (·.2)) us) (λ_ s'=>∃σ' H',Inv X U σ' H' s'/\Q σ' H') X.xe s
abbrev OP:=V->V->V->Hp->(Hp->Prop)->Prop
def OQ(X:Cx)(t:OP):Prop:=
 ∀(U:O (f8×Obj)) (s:db) (σ:St) (H:Hp) (o i v:V) (ov iv u:cr) (Q:Hp->Prop),Inv X U σ H s->RelV o ov->RelV i iv->RelV v u->t o i v H Q->
  gl (im X.prog X.w) X.A (setItem ov iv u) (λ_ s'=>∃H',Inv X U σ H' s'/\Q H') X.xe s
section
def di(i:Nat):TG:=λv σ H Q=>Q (σ.set i (some v)) H
def UO(hN:X.N.Nodup)(hi:X.N[i]?=some x)(hx:Loc X.env.scope x)(hf:MP X x:=by first|exact .inl rfl|exact .inr rfl|assumption):PG X (.Name x pos) (di i):=by
 intro U s σ H v u Q I r h;exact wpAny_assign_Name (nZ I hN hi hx r (λs' I'=>⟨_,H,I',h⟩) hf)
def aaM:TGs:=λvs σ H Q=>vs=[]/\Q σ H
def uA(t:TG)(u:TGs):TGs:=λvs σ H Q=>∃v r,vs=v::r/\t v σ H λσ' H'=>u r σ' H' Q
def dc:PGs X [] aaM:=by
 intro U s σ H vs us Q I r h;obtain⟨e,h⟩:=h;subst e;cases r;exact assignInOrder_nil ⟨σ,H,I,h⟩
def aM{t:TG}{u:TGs}(h1:PG X e t)(h2:PGs X es u)(hs:‹(Gc (e::es) X.env).map (·.2)=PP e X.env::(Gc es X.env).map (·.2)›):PGs X (e::es) (uA t u):=by
 intro U s σ H vs us Q I r h;obtain⟨v,vr,e1,h⟩:=h;subst e1;cases r with
 |cons r rr=>
  rw[hs];exact assignInOrder_cons (bE (h1 U s σ H _ _ _ I r h) λ_ s1 ⟨σ1,H1,I1,q1⟩=>h2 U s1 σ1 H1 _ _ Q I1 rr q1)
def aaL(K:Ab)(n:Nat)(t:TGs):TG:=λv σ H Q=>∃a xs,v=.ref a/\d6 K H a xs/\xs.length=n/\t xs σ H Q
def eU{k:Nat}{t:TGs}(hc:X.calm=true)(h:PGs X es t)(hn:‹(Gc es X.env).length=n›)(o5:‹(Gc es X.env).findIdx? (·.1)=ci›):PG X (.Tuple es k pos) (aaL X.K n t):=by
 intro U s σ H v u Q I r hw;obtain⟨a,xs,e1,hq,hl,hw⟩:=hw;subst e1;cases r;obtain⟨ao,rv,ht,hz⟩:=I.tuple hq;exact assign_Tuple_tuple (I.ok.hd hc) ht (by simp[hn,<- hl,rv.length]) o5 λh' hx=>h U _ σ H xs _ Q (I.kept λb o e=>hx b o (AA (Ao e)) e) (by simpa using rv) hw
def aeq(to ti:TE)(t:OP):TG:=λv σ H Q=>to σ H λo H1=>ti σ H1 λi H2=>t o i v H2 λH3=>Q σ H3
def JG{o i:nw}{ti:TE}{t:OP}(ho:PE X o to)(hi:PE X i ti)(hs:OQ X t)(ha:∀v,PP (.Subscript o i pos) X.env v=(do
   let ov <- GT [v] (pc o X.env)
   let iv <- GT [v,ov] (pc i X.env)
   standAt pos
   GT [v,ov,iv] (setItem ov iv v)
   release [v,ov,iv] []):=by intro _;rfl):PG X (.Subscript o i pos) (aeq to ti t):=by
 intro U s σ H v u Q I r h;exact Aa (Bb (bE (ho U s σ H _ I h) λov s1 ⟨x,H1,I1,r1,q1⟩=>Aa (Bb (bE (hi U s1 σ H1 _ I1 q1) λiv s2 ⟨y,H2,I2,r2,q2⟩=>Aa (D6 (Aa (Bb (bE (hs U s2 σ H2 x y v ov iv u _ I2 r1 r2 r q2) λ_ s3 ⟨H3,I3,q3⟩=>wpAny_release ⟨σ,H3,I3,q3⟩))))))))
def Ua(te:TE)(g:TG):TS:=λD σ H=>te σ H λx H1=>g x σ H1 D.nx
def yb{g:TG}(he:PE X e te)(hg:PG X tg g)(hs:‹GE [tg] e pos.line X.env=pure false›)(hw:‹GM [tg] e X.env=pure ci›)(h1:‹(Gc [tg] X.env).map (·.2)=[PP tg X.env]›):PS X (.Assign [tg] e pos) (Ua te g):=by
 intro U s σ H D I h;refine wpAny_Assign_stores (bE (he U s σ H _ I h) λv s1 ⟨x,H1,I1,r1,q1⟩=>?_) hs hw;rw[h1];exact bE (hg U s1 σ H1 x v _ I1 r1 q1) λ_ s2 q=>q
def ir(hN:X.N.Nodup)(hi:X.N[i]?=some x)(hx:Loc X.env.scope x)(he:PE X e te)(hs:‹o0 e (some (.Name x Ö)) pos.line X.env=pure false›)(hf:MP X x:=by first|exact .inl rfl|exact .inr rfl|assumption):PS X (.Assign [.Name x Ö] e pos) (Ua te (di i)):=by
 intro U s σ H D I h;refine wpAny_Assign_Name (bE (he U s σ H _ I h) λv s1 ⟨y,H1,I1,r1,q1⟩=>?_) hs;exact nZ I1 hN hi hx r1 (λs2 I2=>⟨_,H1,I2,q1⟩) hf
def agW(i j:Nat)(ta:TA):TS:=λD σ H=>ta σ H λvs H1=>∃v w,vs=[v,w]/\D.nx ((σ.set i (some v)).set j (some w)) H1
def Qw{y:Str}{b:nw}{ta:TA}{kt k2 Tj}(hc:X.calm=true)(hN:X.N.Nodup)(hi:X.N[i]?=some x)(hj:X.N[j]?=some y)(æ:i≠j)(hx:X.env.scope.names.lookup x=some .local)(hy:X.env.scope.names.lookup y=some .local)(ha:PA X [a,b] ta)(hw:GM [.Tuple [.Name x px,.Name y py] kt pt] (.Tuple [a,b] k2 Tj) X.env=pure (some [x,y]))(hs:‹GE [.Tuple [.Name x px,.Name y py] kt pt] (.Tuple [a,b] k2 Tj) pos.line X.env=pure false›):PS X (.Assign [.Tuple [.Name x px,.Name y py] kt pt] (.Tuple [a,b] k2 Tj) pos) (agW i j ta):=by
 intro U s σ H D I h;refine Aa (D6 ?_);refine Aa (Af ?_);refine Aa (Tuple_ (bE (ha _ U s σ H _ I h) λus s1 ⟨vs,H1,I1,r1,q1⟩=>?_));obtain⟨v,w,e1,q1⟩:=q1;subst e1;obtain⟨u1,u2,rfl,rv,xX⟩:∃u1 u2,us=[u1,u2]/\RelV v u1/\RelV w u2:=by
  cases r1 with
  |cons p q=>
   cases q with
   |cons p' q'=>
    cases q';exact⟨_,_,rfl,p,p'⟩
 refine BO ?_ (by show 2<=sizeLine;decide);rw[hw];refine Aa (Af ?_);refine Aa (CV (Aa (unpackItems_tuple (items:=#[u1,u2]) (I.ok.hd hc) (IsTup.new s1.heap _) λh' uv=>?_)));refine Aa (assignInOrder_cons (wpAny_bindName (nZ ((I1.kept λb o e=>Aj _ e).kept (t':=s1.toks) λb o e=>uv b o (AA (Ao e)) e) hN hj (.inl hy) xX (λs2 I4=>?_) (.inr hy))));refine assignInOrder_cons (wpAny_bindName (nZ I4 hN hi (.inl hx) rv (λs3 I5=>assignInOrder_nil (Af ?_)) (.inr hx)));rw[List.set_comm _ _ (Bt æ)]at I5;exact⟨_,H1,I5,q1⟩
end
section
def YH(c:TT)(tb:TS):TS:=λD σ H=>∃W:Nat->St->Hp->Prop,(∃m,W m σ H)/\∀m σ H,W m σ H->
 c σ H λb H1=>if b=true then ∃N:St->Hp->Prop,(∀σ' H',N σ' H'->∃m',m'<m/\W m' σ' H')/\tb {D with nx:=N,ct:=N,bk:=D.nx} σ H1 else D.nx σ H1
def G4{c:nw}{tc:TT}{tb:TS}(hp:wP (im X.prog X.w) X.A X.env X.xe)(hc:PT X c tc)(hb:pN X body tb):PS X (.While c body [] pos) (YH tc tb):=by
 intro U s σ H D I h;obtain⟨W,⟨m0,w0⟩,turn⟩:=h;refine wpAny_While (codeAny_whileLoop (λn s'=>∃σ' H',Inv X U σ' H' s'/\W n σ' H') ?_ m0 ⟨σ,H,I,w0⟩);rintro n s1 ⟨σ1,H1,I1,w1⟩;refine Cy hp (bE (hc U s1 σ1 H1 _ I1 (turn n σ1 H1 w1)) λb s2 ⟨H2,I2,q2⟩=>?_);cases b with
 |true=>
  obtain⟨N,hN,q2⟩:=q2;refine Cy hp (bE (hb U s2 σ1 H2 _ I2 q2) λf s3 q3=>?_);cases f with
  |next=>
   obtain⟨σ3,H3,I3,n3⟩:=q3;obtain⟨m',hm,w3⟩:=hN σ3 H3 n3;exact⟨m',hm,σ3,H3,I3,w3⟩
  |cont=>
   obtain⟨σ3,H3,I3,n3⟩:=q3;obtain⟨m',hm,w3⟩:=hN σ3 H3 n3;exact⟨m',hm,σ3,H3,I3,w3⟩
  |brk=>exact q3
  |ret v=>exact q3
 |false=>
  exact Eh ⟨σ1,H2,I2,q2⟩
end
structure It where
 go:Nat->Hp->Prop
 TN:Nat->Hp->V->Hp->Prop
 stop:Nat->Hp->Prop
def wq(X:Cx)(U:O (f8×Obj))(H:Hp)(b:f8):Prop:=
 H b=ci/\b≠X.env.locals/\b∉X.fs/\(b∈X.ex\/X.s₀.heap.objs.size<=b)/\(∀x c,X.env.cells.lookup x=some c->c≠b)/\∀p∈X.pn++U,p.1≠b
def Inv.uD{s:db}(I:Inv X U σ H s)(hb:s.heap.objs.size<=b)(hn:H' b=ci):wq X U H' b:=by
 refine⟨hn,Nat.ne_of_gt (Az I.lt hb),I.ahB hb,.inr (A0 I.sz hb),λx c e z=>?_,λp hp z=>?_⟩
 .obtain⟨v,q⟩:=I.cell x c e;exact absurd (Az q.lt (by rw[z];exact hb)) (AE _)
 .exact absurd (Az (Ao (I.pin p hp).1) (by rw[z];exact hb)) (AE _)
structure Turn(P:BT)(w:FM)(K:Ab)(tg:nw)(J:It)(fp:List f8)(it:f8)(tn:Nat->re->Prop):Prop where
 mem:it∈fp
 obj:∀i h,tn i h->∀b∈fp,∃o,h.get? b=some o/\∀v,o.data≠.cell v
 keep:∀i h h',tn i h->(∀b∈fp,∀o,h.get? b=some o->h'.get? b=some o)->tn i h'
 item:∀(X:Cx),X.prog=P->X.w=w->X.K=K->X.calm=true->∀(i:Nat) (U:List (f8×Obj)) (s:db) (σ:St) (H:Hp) (E:cr->db->Prop),Inv X U σ H s->(∀b∈fp,wq X U H b)->tn i s.heap->J.go i H->
  gl (im P w) X.A (FS (.ref it)) (λr s1=>∃u,r=some u/\
   gl (im P w) X.A (SC tg (.ref it) u) (λ_ s2=>∃x H',Inv X U σ H' s2/\RelV x u/\J.TN i H x H'/\tn (i+1) s2.heap/\∀b∈fp,H' b=ci) E s1) E s
 done:∀(X:Cx),X.prog=P->X.w=w->X.K=K->X.calm=true->∀(i:Nat) (U:List (f8×Obj)) (s:db) (σ:St) (H:Hp) (E:cr->db->Prop),Inv X U σ H s->(∀b∈fp,wq X U H b)->tn i s.heap->J.stop i H->
  gl (im P w) X.A (FS (.ref it)) (λr s1=>r=ci/\Inv X U σ H s1) E s
 self:∀(A:FB) (i:Nat) (s:db) (Q:cr->db->Prop) (E:cr->db->Prop),tn i s.heap->Q (.ref it) s->gl (im P w) A (pyIter (.ref it)) Q E s
abbrev TI:=St->Hp->(It->Hp->Prop)->Prop
def PIE(X:Cx)(U:O (f8×Obj))(σ:St)(tg:nw)(R:It->Hp->Prop)(ġ:cr)(s2:db):Prop:=
 ∃(it:f8) (fp:O f8) (tn:Nat->re->Prop) (J:It) (H':Hp),ġ=.ref it/\Inv X U σ H' s2/\Turn X.prog X.w X.K tg J fp it tn/\tn 0 s2.heap/\(∀b∈fp,wq X U H' b)/\R J H'
def PI(X:Cx)(tg iter:nw)(wi:TI):Prop:=
 ∀(U:O (f8×Obj)) (s:db) (σ:St) (H:Hp) (R:It->Hp->Prop),Inv X U σ H s->wi σ H R->
  gl (im X.prog X.w) X.A (pc iter X.env) (λv s1=>gl (im X.prog X.w) X.A (pyIter v) (PIE X U σ tg R) X.xe s1) X.xe s
def xg{s:db}{n:String}{vs:Array cr}{Q:Unit->db->Prop}(ho:s.heap.get? it=some o)(hc:o.cls=.type n)(hd:o.data=.fields vs)(hn:["enumerate","zip","dict_itemiterator","dict_reverseitemiterator","odict_iterator","itertools.zip_longest","itertools.pairwise"].contains n=false)(hQ:Q () s):gl M A (SC tg (.ref it) u) Q E s:=by
 unfold SC;cases tg<;>first
  |exact Af hQ
  |(cases u<;>first
    |exact Af hQ
    |(
      refine Aa (wpAny_load ho ?_);rw[hc,hd];show gl M A (if (["enumerate","zip","dict_itemiterator","dict_reverseitemiterator","odict_iterator","itertools.zip_longest","itertools.pairwise"].contains n&&vs[0]?==some (wv _))=true then _ else _) Q E s;rw[if_neg (by intro h;rw[hn,F2]at h;cases h)];exact Af hQ))
def Itl(K:Ab)(a:f8):It:=
 ⟨λi H=>∃xs x,bM K H a xs/\xs[i]?=some x,λi H x H'=>H'=H/\∀xs,bM K H a xs->xs[i]?=some x,λi H=>∃xs,bM K H a xs/\xs.length<=i⟩
def Itt(K:Ab)(a:f8):It:=
 ⟨λi H=>∃xs x,d6 K H a xs/\xs[i]?=some x,λi H x H'=>H'=H/\∀xs,d6 K H a xs->xs[i]?=some x,λi H=>∃xs,d6 K H a xs/\xs.length<=i⟩
def Itr(lo:Int)(n:Nat):It:=⟨λi _=>i<n,λi H x H'=>H'=H/\x=.int (lo+i),λi _=>n<=i⟩
theorem MX{K:Ab}(a it:f8):Turn P w K tg (Itl K a) [it] it (λi h=>h.IsListIter it a i) where
 mem:=by simp
 obj:=λi h st b hb=>by
  have e:b=it:=by simpa using hb
  subst e;obtain⟨o,e,c,d⟩:=st;exact⟨o,e,λv z=>by rw[d]at z;cases z⟩
 keep:=λi h h' st k=>st.at λo e=>k it (by simp) o e
 item:=by
  intro X hP hw hK hc i U s σ H E I hf st hg;subst hP hw hK;obtain⟨xs,x,hq,hx⟩:=hg;obtain⟨ao,rv,p,hz⟩:=I.list hq;obtain⟨u,hu,ru⟩:=rv.get hx;obtain⟨f0,f1,f2,f3,f4,f5⟩:=hf it (by simp);refine wpAny_pyNext_list_item st p.isList (by simpa using hu) λh' pW sb=>?_;obtain⟨o,e,c,d⟩:=id pW;exact⟨u,rfl,xg e c d ⋯ ⟨x,H,(I.turned (λb o hb e=>(sb.2 b hb).trans e) f0 f1 f3 f4 f5),ru,⟨rfl,λys hy=>by rw[I.uf hy hq];exact hx⟩,pW,λb hb=>(hf b hb).1⟩⟩
 done:=by
  intro X hP hw hK hc i U s σ H E I hf st hg;subst hP hw hK;obtain⟨xs,hq,hx⟩:=hg;obtain⟨ao,rv,p,hz⟩:=I.list hq;obtain⟨f0,f1,f2,f3,f4,f5⟩:=hf it (by simp);have hl:=rv.length;exact wpAny_pyNext_list_end (I.ok.hd hc) st p.isList (by simp;lia) λh' eb=>⟨rfl,I.turned (t':=s.toks) (λb o hb e=>eb b o hb e) f0 f1 f3 f4 f5⟩
 self:=λ_ _ _ _ _ st h=>wpAny_pyIter_listiter st h
theorem Jk{K:Ab}(a it:f8):Turn P w K tg (Itt K a) [it] it (λi h=>h.IsTupleIter it a i) where
 mem:=by simp
 obj:=λi h st b hb=>by
  have e:b=it:=by simpa using hb
  subst e;obtain⟨o,e,c,d⟩:=st;exact⟨o,e,λv z=>by rw[d]at z;cases z⟩
 keep:=λi h h' st k=>st.at λo e=>k it (by simp) o e
 item:=by
  intro X hP hw hK hc i U s σ H E I hf st hg;subst hP hw hK;obtain⟨xs,x,hq,hx⟩:=hg;obtain⟨ao,rv,p,hz⟩:=I.tuple hq;obtain⟨u,hu,ru⟩:=rv.get hx;obtain⟨f0,f1,f2,f3,f4,f5⟩:=hf it (by simp);refine wpAny_pyNext_tuple_item st (p) (by simpa using hu) λh' pW sb=>?_;obtain⟨o,e,c,d⟩:=id pW;exact⟨u,rfl,xg e c d ⋯ ⟨x,H,(I.turned (λb o hb e=>(sb.2 b hb).trans e) f0 f1 f3 f4 f5),ru,⟨rfl,λys hy=>by rw[I.lH hy hq];exact hx⟩,pW,λb hb=>(hf b hb).1⟩⟩
 done:=by
  intro X hP hw hK hc i U s σ H E I hf st hg;subst hP hw hK;obtain⟨xs,hq,hx⟩:=hg;obtain⟨ao,rv,p,hz⟩:=I.tuple hq;obtain⟨f0,f1,f2,f3,f4,f5⟩:=hf it (by simp);have hl:=rv.length;exact wpAny_pyNext_tuple_end (I.ok.hd hc) st (show s.heap.IsTuple a ao.toArray from p) (by simp;lia) λh' eb=>⟨rfl,I.turned (t':=s.toks) (λb o hb e=>eb b o hb e) f0 f1 f3 f4 f5⟩
 self:=λ_ _ _ _ _ st h=>wpAny_pyIter_tupleiter st h
theorem Jl{K:Ab}(it:f8)(lo:Int)(n:Nat):Turn P w K tg (Itr lo n) [it] it (λi h=>IsRangeIter h it (lo+(i:Nat)*1) ((n:Int)-(i:Nat)) 1) where
 mem:=by simp
 obj:=λi h st b hb=>by
  have e:b=it:=by simpa using hb
  subst e;exact⟨_,st,λv z=>by
   have z':=z;cases z'⟩
 keep:=λi h h' st k=>k it (by simp) _ st
 item:=by
  intro X hP hw hK hc i U s σ H E I hf st hg;subst hP hw hK;obtain⟨f0,f1,f2,f3,f4,f5⟩:=hf it (by simp);refine(Walks.range (prog:=X.prog) (I.ok.hd hc) it lo 1 n).item i s _ _ hg st λv h' tk hv pW kk=>?_;obtain⟨t,rfl⟩:=hv;refine⟨_,rfl,xg pW rfl rfl ⋯ ⟨.int (lo+i),H,(I.turned (λb o hb e=>kk b o (by simpa using hb) e) f0 f1 f3 f4 f5),⟨t,?_⟩,⟨rfl,rfl⟩,pW,λb hb=>(hf b hb).1⟩⟩;rw[Int.mul_one]
 done:=by
  intro X hP hw hK hc i U s σ H E I hf st hg;obtain⟨f0,f1,f2,f3,f4,f5⟩:=hf it (by simp);exact wpAny_pyNext_range_end (I.ok.hd hc) st (by have:n<=i:=hg;lia) λh' eb=>⟨rfl,I.turned (λb o hb e=>eb b o hb e) f0 f1 f3 f4 f5⟩
 self:=λ_ _ _ _ _ st h=>wpAny_pyIter_rangeiter st h
end L2
variable{hi:Int}{p:Cn}{fp:O Bf}{iter:BF}{wi:L2.TI}
namespace L2
section
theorem Qf{s:db}{R:It->Hp->Prop}{lo:Int}{t u v:Tok}{tk:Nat}(I:Inv X U σ H s)(h1:-(2 ^ 62)<=lo)(h2:lo < 2 ^ 62)(h3:-(2 ^ 62)<=hi)(h4:hi < 2 ^ 62)(q:R (Itr lo (hi-lo).toNat) H):gl (im X.prog X.w) X.A (pyIter (.ref s.heap.objs.size)) (PIE X U σ tg R) E {s with heap:=s.heap.push {cls:=.type "range",data:=.fields #[.int lo t,.int hi u,.int 1 v]},toks:=tk}:=by
 refine wpAny_pyIter_range (IsRange.new ..) (small_one h1 h2 h3 h4) ?_;have I1:Inv X U σ H {s with heap:=s.heap.push {cls:=.type "range",data:=.fields #[.int lo t,.int hi u,.int 1 v]},toks:=tk}:=I.kept λb o e=>Aj _ e;refine⟨(s.heap.push {cls:=.type "range",data:=.fields #[.int lo t,.int hi u,.int 1 v]}).objs.size,[(s.heap.push {cls:=.type "range",data:=.fields #[.int lo t,.int hi u,.int 1 v]}).objs.size],_,_,H,rfl,
  I1.kept (t':=tk) λb o e=>Aj _ e,Jl _ lo (hi-lo).toNat,?_,λb hb=>?_,q⟩
 .have e1:lo+((0:Nat):Int)*1=lo:=by simp
  have e2:(((hi-lo).toNat:Nat):Int)-((0:Nat):Int)=Builtin.Range.rangeSize lo hi 1:=by rw[rangeSize_one];split<;>lia
  show IsRangeIter _ _ (lo+((0:Nat):Int)*1) ((((hi-lo).toNat:Nat):Int)-((0:Nat):Int)) 1;rw[e1,e2];exact An _ rfl
 .have e:b=(s.heap.push {cls:=.type "range",data:=.fields #[.int lo t,.int hi u,.int 1 v]}).objs.size:=by simpa using hb
  subst e;exact I1.uD (Al _) (I1.ba.fresh (Al _))
def adV(ta:TA):TI:=λσ H R=>ta σ H λvs H1=>∃j:Int,vs=[.int j]/\-(2 ^ 62)<=j/\j<2 ^ 62/\R (Itr 0 j.toNat) H1
theorem Nm{ta:TA}(hg:Gl X "range")(hm:X.mg "range"=ci)(ha:PA X [a] ta)(hs:‹gt [a] X.env=[(false,pc a X.env)]›):PI X tg (.Call (.Name "range" p) [a] [] pos) (adV ta):=by
 intro U s σ H R I h;refine Call_ (fc I hg hm boot_range (A8 (bE (ha pos U s σ H _ I h) λus s1 ⟨vs,H1,I1,r1,q1⟩=>?_) hs rfl));obtain⟨j,e,q1,q2,q⟩:=q1;subst e;cases r1 with
 |cons r rr=>
  cases rr;obtain⟨t,rfl⟩:=r;exact call_range_1 (Qf I1 ∅ ∅ q1 q2 (by simpa using q))
def agZ(wi:TI)(g:TG)(tb:TS):TS:=λD σ H=>wi σ H λJ H1=>∃W:Nat->Nat->St->Hp->Prop,(∃m,W 0 m σ H1)/\∀i m σ H,W i m σ H->
 (J.stop i H/\D.nx σ H)\/(J.go i H/\∃N:St->Hp->Prop,(∀σ' H',N σ' H'->∃m',m'<m/\W (i+1) m' σ' H')/\∀x H',J.TN i H x H'->g x σ H' λσ2 H2=>tb {D with nx:=N,ct:=N,bk:=D.nx} σ2 H2)
def qc(fp:O f8)(h:re):O (f8×Obj):=fp.filterMap λb=>(h.get? b).map λo=>(b,o)
def jA(hb:b∈fp)(e:h.get? b=some o):(b,o)∈qc fp h:=EL.mpr ⟨b,hb,by rw[e];rfl⟩
def Nr{p:f8×Obj}(hp:p∈qc fp h):p.1∈fp/\h.get? p.1=some p.2:=by
 obtain⟨b,hb,e⟩:=EL.mp hp;cases q:h.get? b with
 |none=>rw[q]at e;cases e
 |some o=>
  rw[q]at e;have e':=Option.some.inj e;subst e';exact⟨hb,q⟩
def Inv.pinned{s:db}(I:Inv X U σ H s)(hf:∀b∈fp,wq X U H b)(ho:∀b∈fp,∃o,s.heap.get? b=some o/\∀v,o.data≠.cell v):Inv X (U++qc fp s.heap) σ H s:=
 I.LX λp hp=>(AO.mp hp).elim (λz=>I.pin p (A3 _ z)) λz=>by
  obtain⟨hb,e⟩:=Nr z;obtain⟨f0,f1,f2,_⟩:=hf p.1 hb;obtain⟨o,e',d⟩:=ho p.1 hb;rw[e]at e';cases e';exact⟨e,f0,f1,f2,d⟩
def Inv.kC{pl:O (f8×Obj)}{s:db}(I:Inv X (U++pl) σ H s):Inv X U σ H s:=I.LX λp hp=>I.pin p (A3 _ (BJ _ hp))
def Qx{g:TG}{tb:TS}(hp:wP (im X.prog X.w) X.A X.env X.xe)(hc:X.calm=true)(hi:PI X tg iter wi)(hg:PG X tg g)(hb:pN X body tb)(hs:qJ X iter:=by intro _;rfl):PS X (.For tg iter body [] pos) (agZ wi g tb):=by
 intro U s σ H D I h;refine wpAny_For (bE (hi U s σ H _ I h) λv s1 h1=>bE h1 λġ s2 h2=>?_) hs;obtain⟨it,fp,tn,J,H2,e,I2,T,M8,f2,W,⟨m0,w0⟩,turn⟩:=h2;subst e;have YS:∀{H':Hp},(∀b∈fp,H' b=ci)->∀b∈fp,wq X U H' b:=λhn b hb=>⟨hn b hb,(f2 b hb).2⟩;refine codeAny_forLoop_any (λn s'=>∃i σ' H',Inv X U σ' H' s'/\tn i s'.heap/\(∀b∈fp,H' b=ci)/\W i n σ' H') ?_ m0 ⟨0,σ,H2,I2,M8,λb hb=>(f2 b hb).1,w0⟩;rintro n s3 ⟨i,σ3,H3,I3,ą,ė,w3⟩;rcases turn i n σ3 H3 w3 with⟨stop,qn⟩|⟨go,N,hN,step⟩
 .refine Cy hp (bE (T.done X rfl rfl rfl hc i U s3 σ3 H3 X.xe I3 (YS ė) ą stop) λr s4 ⟨hr,I4⟩=>?_);subst hr;exact Eh ⟨σ3,H3,I4,qn⟩
 .refine Cy hp (bE (T.item X rfl rfl rfl hc i U s3 σ3 H3 X.xe I3 (YS ė) ą go) λr s4 ⟨u,hr,h4⟩=>?_);subst hr;refine Cy hp (bE h4 λ_ s5 ⟨x,H5,I5,r5,y5,YT,ş⟩=>?_);refine Cy hp (bE (hg _ s5 σ3 H5 x u _ (I5.pinned (YS ş) (T.obj _ _ YT)) r5 (step x H5 y5)) λ_ s6 ⟨σ6,H6,I6,q6⟩=>?_);refine Cy hp (bE (hb _ s6 σ6 H6 _ I6 q6) λf s7 q7=>?_);have again:∀{σ7:St}{H7:Hp},Inv X (U++qc fp s5.heap) σ7 H7 s7->N σ7 H7->∃m,m<n/\∃i σ' H',Inv X U σ' H' s7/\tn i s7.heap/\(∀b∈fp,H' b=ci)/\W i m σ' H':=λ{σ7 H7} I7 n7=>by
   obtain⟨m',hm,w7⟩:=hN σ7 H7 n7;refine⟨m',hm,i+1,σ7,H7,I7.kC,T.keep _ _ _ YT λb hb o e=>(I7.pin (b,o) (A3 _ (A3 _ (jA hb e)))).1,λb hb=>?_,w7⟩;obtain⟨o,e,d⟩:=T.obj _ _ YT b hb;exact(I7.pin (b,o) (A3 _ (A3 _ (jA hb e)))).2.1
  cases f with
  |next=>obtain⟨σ7,H7,I7,n7⟩:=q7;exact again I7 n7
  |cont=>obtain⟨σ7,H7,I7,n7⟩:=q7;exact again I7 n7
  |brk=>obtain⟨σ7,H7,I7,q7⟩:=q7;exact⟨σ7,H7,I7.kC,q7⟩
  |ret v=>obtain⟨x7,σ7,H7,I7,r7,q7⟩:=q7;exact⟨x7,σ7,H7,I7.kC,r7,q7⟩
end
end L2
variable{i:Int}{g:Int->Int->Int}{ao:O Bg}
namespace L2
abbrev R2:=V->V->Hp->VK->Prop
def iK(X:Cx)(f:cr->cr->Sem cr)(r:R2):Prop:=
 ∀(U:O (f8×Obj)) (s:db) (σ:St) (H:Hp) (x y:V) (v u:cr) (Q:VK),Inv X U σ H s->RelV x v->RelV y u->r x y H Q->
  gl (im X.prog X.w) X.A (f v u) (EP X U σ Q) X.xe s
def UnR(X:Cx)(f:cr->Sem cr)(r:V->Hp->VK->Prop):Prop:=
 ∀(U:O (f8×Obj)) (s:db) (σ:St) (H:Hp) (x:V) (v:cr) (Q:VK),Inv X U σ H s->RelV x v->r x H Q->
  gl (im X.prog X.w) X.A (f v) (EP X U σ Q) X.xe s
def cz(X:Cx)(f:cr)(r:O V->Hp->VK->Prop):Prop:=
 ∀(U:O (f8×Obj)) (s:db) (σ:St) (H:Hp) (xs:O V) (us:O cr) (Q:VK),Inv X U σ H s->Vals xs us->r xs H Q->
  gl (im X.prog X.w) X.A (call f us) (EP X U σ Q) X.xe s
def aje(X:Cx)(r:V->Hp->(Bool->Hp->Prop)->Prop):Prop:=
 ∀(U:O (f8×Obj)) (s:db) (σ:St) (H:Hp) (x:V) (v:cr) (Q:Bool->Hp->Prop),Inv X U σ H s->RelV x v->r x H Q->
  gl (im X.prog X.w) X.A (truthy v) (TP X U σ Q) X.xe s
def WU(r:R2)(ta tb:TE):TE:=λσ H Q=>ta σ H λx H1=>tb σ H1 λy H2=>r x y H2 Q
def tUn(r:V->Hp->VK->Prop)(ta:TE):TE:=λσ H Q=>ta σ H λx H1=>r x H1 Q
def rI(C:Int->Int->Prop)(g:Int->Int->V):R2:=λx y H Q=>∃i j,x=.int i/\y=.int j/\C i j/\Q (g i j) H
def UG(g:Int->Int->V):R2:=λx y H Q=>∃i j,x=.int i/\y=.int j/\Q (g i j) H
def rU(g:Int->V):V->Hp->VK->Prop:=λx H Q=>∃i,x=.int i/\Q (g i) H
section
variable{b:nw}
def abe(ha:PE X a ta)(hb:PE X b tb){s:db}(I:Inv X U σ H s)(h:ta σ H λx H1=>tb σ H1 λy H2=>R x y H2){f:cr->cr->Sem cr}(hf:∀v u s2 x y H2,Inv X U σ H2 s2->RelV x v->RelV y u->R x y H2->gl (im X.prog X.w) X.A (f v u) Q X.xe s2):gl (im X.prog X.w) X.A (pc a X.env) (λv s₁=>gl (im X.prog X.w) X.A (pc b X.env) (λu s₂=>gl (im X.prog X.w) X.A (f v u) Q X.xe s₂) X.xe s₁) X.xe s:=by
 exact bE (ha U s σ H _ I h) λv s1 ⟨x,H1,I1,r1,q1⟩=>bE (hb U s1 σ H1 _ I1 q1) λu s2 ⟨y,H2,I2,r2,q2⟩=>hf v u s2 x y H2 I2 r1 r2 q2
def dh{op:Operator}{r:R2}(ho:iK X (wf op) r)(ha:PE X a ta)(hb:PE X b tb):PE X (.BinOp a op b pos) (WU r ta tb):=by
 intro U s σ H Q I h;exact wpAny_BinOp (abe ha hb I h λv u s2 x y H2 I2 rx ry q=>ho U s2 σ H2 x y v u Q I2 rx ry q)
def adf{op:UnaryOp}{r:V->Hp->VK->Prop}(ho:UnR X (unaryOp op) r)(ha:PE X a ta):PE X (.UnaryOp op a pos) (tUn r ta):=by
 intro U s σ H Q I h;exact UnaryOp_ (bE (ha U s σ H _ I h) λv s1 ⟨x,H1,I1,r1,q1⟩=>ho U s1 σ H1 x v Q I1 r1 q1)
def opI{f:cr->cr->Sem cr}{C:Int->Int->Prop}(rule:∀(i j:Int) (t u:Tok) (s:db) (Q:cr->db->Prop) (E:cr->db->Prop),C i j->Q (.int (g i j) s.toks) {s with toks:=s.toks+1}->gl (im X.prog X.w) X.A (f (.int i t) (.int j u)) Q E s):iK X f (rI C λi j=>.int (g i j)):=by
 intro U s σ H x y v u Q I rx ry h;obtain⟨i,j,rfl,rfl,hc,q⟩:=h;obtain⟨t,rfl⟩:=rx;obtain⟨t',rfl⟩:=ry;exact rule i j t t' s _ _ hc ⟨.int (g i j),H,I.tok _,⟨_,rfl⟩,q⟩
def ads{f:cr->cr->Sem cr}(rule:∀(i j:Int) (t u:Tok) (s:db) (Q:cr->db->Prop) (E:cr->db->Prop),Q (.int (g i j) s.toks) {s with toks:=s.toks+1}->gl (im X.prog X.w) X.A (f (.int i t) (.int j u)) Q E s):iK X f (UG λi j=>.int (g i j)):=by
 intro U s σ H x y v u Q I rx ry h;obtain⟨i,j,rfl,rfl,q⟩:=h;obtain⟨t,rfl⟩:=rx;obtain⟨t',rfl⟩:=ry;exact rule i j t t' s _ _ ⟨.int (g i j),H,I.tok _,⟨_,rfl⟩,q⟩
def U3{f:cr->cr->Sem cr}{g:Int->Int->Bool}(rule:∀(i j:Int) (t u:Tok) (s:db) (Q:cr->db->Prop) (E:cr->db->Prop),Q (.bool (g i j)) s->gl (im X.prog X.w) X.A (f (.int i t) (.int j u)) Q E s):iK X f (UG λi j=>.bl (g i j)):=by
 intro U s σ H x y v u Q I rx ry h;obtain⟨i,j,rfl,rfl,q⟩:=h;obtain⟨t,rfl⟩:=rx;obtain⟨t',rfl⟩:=ry;exact rule i j t t' s _ _ ⟨.bl (g i j),H,I,rfl,q⟩
def aji(i j:Int):Prop:=0<j/\j<1073741824
def OT(i j:Int):Prop:=0<=j/\j<=1000000/\i.natAbs<2 ^ 64
def WR(i j:Int):Prop:=(-(2 ^ 64)<i/\i<2 ^ 64)\/(-(2 ^ 64)<j/\j<2 ^ 64)
def WR.ok{j:Int}(h:WR i j):Fk i j:=by
 rcases h with⟨h1,h2⟩|⟨h1,h2⟩
 .exact .of_left (intBits_le_64 h1 h2)
 .exact .of_right (intBits_le_64 h1 h2)
def Zy:iK X (wf .Add) (UG λi j=>.int (i+j)):=ads λ_ _ _ _ _ _ _ q=>add_int q
def Zr:iK X (wf .Sub) (UG λi j=>.int (i-j)):=ads λ_ _ _ _ _ _ _ q=>sub_int q
theorem yj:iK X (wf .FloorDiv) (rI aji λi j=>.int (i / j)):=opI λi j _ _ _ _ _ hc q=>by
 have h1:(0:Int)<j:=hc.1;have h2:j<1073741824:=hc.2;exact floordiv_int ∅ (by rw[Int.fdiv_eq_ediv_of_nonneg i ∅];exact q) (.inl (PyProof.noPylong_small ∅))
theorem qd:iK X (wf .Mod) (rI (λ_ j=>0<j) λi j=>.int (i % j)):=opI λi j _ _ _ _ _ hc q=>by
 have h1:(0:Int)<j:=hc;exact mod_int' ∅ (by rw[Int.fmod_eq_emod_of_nonneg i ∅];exact q)
def Zt:iK X (wf .Pow) (rI OT λi j=>.int (i ^ j.toNat)):=opI λ_ _ _ _ _ _ _ hc q=>pow_int_small hc.1 hc.2.1 hc.2.2 q
def unI{f:cr->Sem cr}{g:Int->Int}(rule:∀(i:Int) (t:Tok) (s:db) (Q:cr->db->Prop) (E:cr->db->Prop),Q (.int (g i) s.toks) {s with toks:=s.toks+1}->gl (im X.prog X.w) X.A (f (.int i t)) Q E s):UnR X f (rU λi=>.int (g i)):=by
 intro U s σ H x v Q I rx h;obtain⟨i,rfl,q⟩:=h;obtain⟨t,rfl⟩:=rx;exact rule i t s _ _ ⟨.int (g i),H,I.tok _,⟨_,rfl⟩,q⟩
def Yz:UnR X (unaryOp .USub) (rU λi=>.int (-i)):=unI λ_ _ _ _ _ q=>neg_int q
end
def ag9:V->V->Bool
 |.aB,.aB=>true|.aB,.int _=>true|.int _,.aB=>true|.aB,.bl _=>true|.bl _,.aB=>true|.aB,.str _=>true|.str _,.aB=>true
 |.int _,.int _=>true|.bl _,.bl _=>true|.str _,.str _=>true|.OJ _,.OJ _=>true
 |.int _,.str _=>true|.str _,.int _=>true|.bl _,.str _=>true|.str _,.bl _=>true
 |_,_=>false
def rEq:R2:=λx y H Q=>ag9 x y=true/\Q (.bl (decide (x=y))) H
def Mz{j:Int}:decide (V.int i=V.int j)=(i==j):=by
 rw[Dv];simp
def aa7{i j:Bool}:decide (V.bl i=V.bl j)=(i==j):=by
 rw[Dv];simp
def Wl{i j:Str}:decide (V.str i=V.str j)=(i==j):=by
 rw[Dv];simp
def Wm{i j:Array UInt8}:decide (V.OJ i=V.OJ j)=(i.toList==j.toList):=by
 rw[Dv];cases i;cases j;simp
section
variable{b c:nw}
def c8{s:db}{Q:VK}{k k':Bool}(I:Inv X U σ H s)(q:Q (.bl k) H)(e:k=k'):EP X U σ Q (.bool k') s:=by
 subst e;exact⟨.bl k,H,I,rfl,q⟩
def adq:iK X (ss .Eq) rEq:=by
 intro U s σ H x y v u Q I rx ry h;obtain⟨hs,q⟩:=h;cases x with
 |aB=>
  cases rx;cases y with
  |aB=>cases ry;exact PySem.EqNone.eq_none_none (c8 I q (by simp))
  |bl j=>cases ry;exact PySem.EqNone.eq_none_bool (c8 I q (by simp))
  |int j=>obtain⟨t',rfl⟩:=ry;exact PySem.EqNone.eq_none_int (c8 I q (by simp))
  |str j=>obtain⟨t',rfl⟩:=ry;exact PySem.EqNone.eq_none_str (c8 I q (by simp))
  |_=>exact absurd (hs) AV
 |bl i=>
  cases rx;cases y with
  |aB=>cases ry;exact PySem.EqNone.eq_bool_none (c8 I q (by simp))
  |bl j=>cases ry;exact eq_bool (c8 I q aa7)
  |str j=>obtain⟨t',rfl⟩:=ry;exact PySem.EqMixed.eq_bool_str (c8 I q (by simp))
  |_=>exact absurd (show false=true from hs) AV
 |int i=>
  obtain⟨t,rfl⟩:=rx;cases y with
  |aB=>cases ry;exact PySem.EqNone.eq_int_none (c8 I q (by simp))
  |int j=>obtain⟨t',rfl⟩:=ry;exact eq_int (c8 I q Mz)
  |str j=>obtain⟨t',rfl⟩:=ry;exact PySem.EqMixed.eq_int_str (c8 I q (by simp))
  |_=>exact absurd (show false=true from hs) AV
 |str i=>
  obtain⟨t,rfl⟩:=rx;cases y with
  |aB=>cases ry;exact PySem.EqNone.eq_str_none (c8 I q (by simp))
  |bl j=>cases ry;exact PySem.EqMixed.eq_str_bool (c8 I q (by simp))
  |int j=>obtain⟨t',rfl⟩:=ry;exact PySem.EqMixed.eq_str_int (c8 I q (by simp))
  |str j=>obtain⟨t',rfl⟩:=ry;exact eq_str (c8 I q Wl)
  |_=>exact absurd (show false=true from hs) AV
 |OJ i=>
  obtain⟨t,rfl⟩:=rx;cases y with
  |OJ j=>obtain⟨t',rfl⟩:=ry;exact PySem.W.eq_bytes (c8 I q Wm)
  |_=>exact absurd (show false=true from hs) AV
 |_=>cases y<;>exact absurd (show false=true from hs) AV
def Xf:iK X (ss .Lt) (UG λi j=>.bl (decide (i<j))):=U3 λ_ _ _ _ _ _ _ q=>lt_int q
def adn:iK X (ss .LtE) (UG λi j=>.bl (decide (i<=j))):=U3 λ_ _ _ _ _ _ _ q=>le_int q
def ado:iK X (ss .Gt) (UG λi j=>.bl (decide (j<i))):=U3 λ_ _ _ _ _ _ _ q=>gt_int q
def adp:iK X (ss .GtE) (UG λi j=>.bl (decide (j<=i))):=U3 λ_ _ _ _ _ _ _ q=>ge_int q
def Zv:iK X (ss .Is) (λx y H Q=>y=.aB/\Q (.bl (decide (x=.aB))) H):=by
 intro U s σ H x y v u Q I rx ry h;obtain⟨rfl,q⟩:=h;cases ry;refine is_none_gen (c8 I q ?_);cases x<;>first
  |(cases rx;rfl)
  |(obtain⟨t,rfl⟩:=rx;rfl)
def UY:iK X (ss .IsNot) (λx y H Q=>y=.aB/\Q (.bl (!decide (x=.aB))) H):=by
 intro U s σ H x y v u Q I rx ry h;obtain⟨rfl,q⟩:=h;cases ry;refine isnot_none_gen (c8 I q ?_);cases x<;>first
  |(cases rx;rfl)
  |(obtain⟨t,rfl⟩:=rx;rfl)
def iK.or{f:cr->cr->Sem cr}{r r':R2}(h:iK X f r)(h':iK X f r'):iK X f (λx y H Q=>r x y H Q\/r' x y H Q):=by
 intro U s σ H x y v u Q I rx ry q;rcases q with q|q
 .exact h U s σ H x y v u Q I rx ry q
 .exact h' U s σ H x y v u Q I rx ry q
def fV(b:nw)(h: ~~~(op≠.In))(h2: ~~~(op≠.NotIn)):sB op b=false:=by
 have e1:(op==CmpOp.In)=false:=by cases op<;>first|rfl|exact absurd rfl h
 have e2:(op==CmpOp.NotIn)=false:=by cases op<;>first|rfl|exact absurd rfl h2
 cases b<;>simp[sB,e1,e2]
def LZ{r:R2}(ho:iK X (ss op) r)(ha:PE X a ta)(hb:PE X b tb)(hm:sB op b=false):PE X (.Compare a [op] [b] pos) (WU r ta tb):=by
 intro U s σ H Q I h;exact wpAny_Compare1 (abe ha hb I h λv u s2 x y H2 I2 rx ry q=>ho U s2 σ H2 x y v u Q I2 rx ry q) hm
def Pt(t:TE):TT:=λσ H Q=>t σ H λx H'=>∃k,x=.bl k/\Q k H'
def gp{r:R2}(ho:iK X (ss op) r)(ha:PE X a ta)(hb:PE X b tb)(hm:sB op b=false):PT X (.Compare a [op] [b] pos) (Pt (WU r ta tb)):=by
 intro U s σ H Q I h;refine wpAny_isTrue_Compare1 (bE (ha U s σ H _ I h) λv s1 ⟨x,H1,I1,r1,q1⟩=>bE (hb U s1 σ H1 _ I1 q1) λu s2 ⟨y,H2,I2,r2,q2⟩=>
  bE (ho U s2 σ H2 x y v u _ I2 r1 r2 q2) λc s3 ⟨z,H3,I3,r3,k,e,q3⟩=>?_) hm
 subst e;cases r3;exact C3 ⟨H3,I3,q3⟩
def abh(K:Ab)(x:V)(H:Hp)(k:Bool):Prop:=
 match x with
 |.aB=>k=false
 |.bl b=>k=b
 |.int i=>k=(i != 0)
 |.str y=>y.length<=sizeLine/\k=((y.length:Int) != 0)
 |.OJ y=>y.size<=sizeLine/\k=((y.size:Int) != 0)
 |.ref p=>(∃xs,bM K H p xs/\k=!xs.isEmpty)\/(∃xs,d6 K H p xs/\k=!xs.isEmpty)\/∃kvs,H p=some (.dK kvs)/\k=!kvs.isEmpty
 |_=>False
def Kg{kvs:O (κ×V)}{vs:O (κ×cr)}(r:KV kvs vs):(!vs.isEmpty)=!kvs.isEmpty:=by
 cases r<;>rfl
def uq(r:Vals xs ao):(!ao.toArray.isEmpty)=!xs.isEmpty:=by
 cases r<;>simp
def yE:(sizeLine:Nat)<2 ^ 63:=by rw[sizeLine_eq];decide
theorem YE:aje X (λx H Q=>∃k,abh X.K x H k/\Q k H):=by
 intro U s σ H x v Q I rx h;obtain⟨k,e,q⟩:=h;have hs:=sizeLine_eq;cases x with
 |aB=>
  cases rx;have e':=e;subst e';exact truthy_none ⟨H,I,q⟩
 |bl b=>
  cases rx;have e':=e;subst e';exact C3 ⟨H,I,q⟩
 |int i=>
  obtain⟨t,rfl⟩:=rx;have e':=e;subst e';exact PySem.P.truthy_int ⟨H,I,q⟩
 |str y=>
  obtain⟨t,rfl⟩:=rx;obtain⟨hy,e'⟩:y.length<=sizeLine/\k=((y.length:Int) != 0):=e;subst e';exact PySem.P.truthy_str ∅ ⟨H,I.tok _,q⟩
 |OJ y=>
  obtain⟨t,rfl⟩:=rx;obtain⟨hy,e'⟩:y.size<=sizeLine/\k=((y.size:Int) != 0):=e;subst e';exact PySem.W.truthy_bytes ∅ ⟨H,I.tok _,q⟩
 |ref p=>
  cases rx;have e':=e;rcases e' with⟨xs,hx,e'⟩|⟨xs,hx,e'⟩|⟨kvs,hx,e'⟩
  .subst e';obtain⟨ao,r,pl,hz⟩:=I.list hx;have Á:=r.length;exact wpAny_truthy_list pl.isList (by simp;lia) ⟨H,I.tok _,by rw[uq r];exact q⟩
  .subst e';obtain⟨ao,r,pl,hz⟩:=I.tuple hx;have Á:=r.length;exact truthy_tuple pl (by simp only[Am];lia) ⟨H,I.tok _,by rw[uq r];exact q⟩
  .subst e';obtain⟨hz,hS,vs,r,m⟩:kvs.length<=sizeLine/\(p==u8)=false/\∃vs,KV kvs vs/\s.heap.DictOf (bo X.prog X.w) p vs:=I.ba p _ hx;have Á:=Paired.length r;exact wpAny_truthy_dict hS m ∅ ⟨H,I.tok _,by rw[Kg r];exact q⟩
 |_=>exact(e).elim
def Qt(ha:PE X a ta)(he:∀Ä,isTrue a X.env Ä=(do let v <- Ä;standAt a.pos;GT [v] (truthy v))):PT X a (λσ H Q=>ta σ H λx H'=>∃k,abh X.K x H' k/\Q k H'):=by
 intro U s σ H Q I h;exact isTrue_plain (bE (ha U s σ H _ I h) λv s1 ⟨x,H1,I1,r1,q1⟩=>YE U s1 σ H1 x v Q I1 r1 q1) (he _)
def JJ:iK X (wf .Add) (λx y H Q=>∃i j,x=.str i/\y=.str j/\i.length+j.length<=sizeLine/\Q (.str (i++j)) H):=by
 intro U s σ H x y v u Q I rx ry h;obtain⟨i,j,rfl,rfl,hz,q⟩:=h;obtain⟨t,rfl⟩:=rx;obtain⟨t',rfl⟩:=ry;exact add_str (λt' tk=>⟨.str (i++j),H,I.tok _,⟨_,rfl⟩,q⟩) hz
def vals1{x:V}(r:Vals [x] us):∃u,us=[u]/\RelV x u:=by
 cases r with
 |cons r1 r2=>cases r2;exact⟨_,rfl,r1⟩
def vals2{x:V}(r:Vals [x,y] us):∃u w',us=[u,w']/\RelV x u/\RelV y w':=by
 cases r with
 |cons r1 r2=>
  cases r2 with
  |cons r3 r4=>cases r4;exact⟨_,_,rfl,r1,r3⟩
def OH:cz X (.type "int") (λxs H Q=>(∃i,xs=[.int i]/\Q (.int i) H)\/∃k,xs=[.bl k]/\Q (.int (if k then 1 else 0)) H):=by
 intro U s σ H xs us Q I r h;rcases h with⟨i,rfl,q⟩|⟨k,rfl,q⟩
 .obtain⟨u,rfl,t,rfl⟩:=vals1 r;exact call_int_int ⟨.int i,H,I,⟨_,rfl⟩,q⟩
 .obtain⟨u,rfl,r1⟩:=vals1 r;cases r1;exact call_int_bool ⟨.int (if k then 1 else 0),H,I.tok _,⟨_,rfl⟩,q⟩
def afd(K:Ab)(x:V)(H:Hp)(n:Nat):Prop:=
 match x with
 |.str y=>y.length<=sizeLine/\n=y.length
 |.OJ y=>y.size<=sizeLine/\n=y.size
 |.ref p=>(∃xs,bM K H p xs/\n=xs.length)\/∃xs,d6 K H p xs/\n=xs.length
 |_=>False
theorem SX:cz X (.builtin "len") (λxs H Q=>∃x n,xs=[x]/\afd X.K x H n/\Q (.int n) H):=by
 intro U s σ H xs us Q I r h;obtain⟨x,n,rfl,e,q⟩:=h;obtain⟨u,rfl,rx⟩:=vals1 r;have hs:=sizeLine_eq;cases x with
 |str y=>
  obtain⟨t,rfl⟩:=rx;obtain⟨hy,e'⟩:y.length<=sizeLine/\n=y.length:=e;subst e';exact len_str ∅ ⟨.int _,H,I.tok _,⟨_,rfl⟩,q⟩
 |OJ y=>
  obtain⟨t,rfl⟩:=rx;obtain⟨hy,e'⟩:y.size<=sizeLine/\n=y.size:=e;subst e';exact PySem.W.len_bytes ∅ ⟨.int _,H,I.tok _,⟨_,rfl⟩,q⟩
 |ref p=>
  cases rx;have e':=e;rcases e' with⟨xs,hx,e'⟩|⟨xs,hx,e'⟩
  .subst e';obtain⟨ao,r',pl,hz⟩:=I.list hx;have Á:=r'.length;exact Calls.call_len_list pl.isList (by simp;lia) ⟨.int xs.length,H,I.tok _,⟨_,by simp only[Am];rw[Á]⟩,q⟩
  .subst e';obtain⟨ao,r',pl,hz⟩:=I.tuple hx;have Á:=r'.length;exact len_tuple pl (by simp only[Am];lia) ⟨.int xs.length,H,I.tok _,⟨_,by simp only[Am];rw[Á]⟩,q⟩
 |_=>exact(e).elim
end
end L2
variable{a:Bf}{mA:B4->Option Bg}
namespace L2
structure abl(h:re)(x dx C:f8)(mA:Str->Option cr):Prop where
 obj:h.get? x=some (Fv C dx)
 ns:h.Ns1 dx mA
 ne:dx≠x
def NC{dx:f8}(n:h.Ns1 dx mA):∃od,h.get? dx=some od/\∀name,FU name od=some (mA name):=by
 obtain⟨o,es,ep,ho,hd,hk,_,hm⟩:=n;refine⟨o,ho,λname=>?_⟩;have e:=hm name;unfold nsFind findBy at e;rw[<- Array.find?_toList]at e;unfold FU;rw[hd];dsimp only
 split
 .rename_i y q;rw[q]at e;exact congrArg some e
 .rename_i q;rw[q]at e;have a:es.toList.any (·.refKey)=false:=by
   rw[List.any_eq_false];intro y hy;obtain⟨z,t,ait⟩:=hk y (Array.mem_toList_iff.mp hy);simp[DictEntry.refKey,ait]
  have a':¬es.toList.any (·.refKey)=true:=by rw[a];exact AV
  rw[if_neg a'];exact congrArg some e
def abl.look{x dx C:f8}(I:abl h x dx C mA):∃od,PySem.W.InstAt h x (Fv C dx) C (some od)/\∀name,FU name od=some (mA name):=
 let ⟨od,ho,hl⟩:=NC I.ns
 ⟨od,⟨I.obj,rfl,rfl,ho⟩,hl⟩
def qH.some_of{o:Option cr}(r:qH (some v) o):∃u,o=some u/\RelV v u:=by
 cases o with
 |none=>exact(r).elim
 |some u=>exact⟨u,rfl,r⟩
section
variable{C dx:f8}{fs:O (Str×V)}
def VJ(ba:md P w H h)(e:H a=some (.ins C dx fs)):∃mA,abl h a dx C mA/\(∀f,qH (fs.lookup f) (mA f))/\PySem.Within mA (fs.map (·.1))/\fs.length<=1000/\H dx=some (.own a):=by
 obtain⟨d,z,ne,ob,mA,n,r,q⟩:=(ba a _ e);exact⟨mA,⟨ob,n,ne⟩,r,q,z,d⟩
end
structure Cls(K:Ab)(C:f8):Prop where
 pg:Gm K C Str.empty=true
 hd:PySem.W.hasDictIn K C=true
 po:PySem.W.plainOver K C=true
 sa:FV K (.ref C) "__setattr__"=some (some (.builtin "object.__setattr__"))
def Cls.get{K:Ab}{C:f8}(c:Cls K C)(f:Str):Gm K C f=true:=c.pg
def Td(K:Ab)(C:f8)(f:Str):Prop:=FV K (.ref C) f=some ci
section
variable{s:db}{c:cr}{b:Bool}
inductive my(K:Ab)(H:Hp):V->cr->Prop where
 |aB:my K H .aB (.type "NoneType")
 |bl (x:Bool):my K H (.bl x) (.type "bool")
 |int (i:Int):my K H (.int i) (.type "int")
 |str (x:Str):my K H (.str x) (.type "str")
 |flt (x:UInt64):my K H (.flt x) (.type "float")
 |lst {a:f8}{xs:List V} (e:H a=some (.lst xs)):my K H (.ref a) (.type "list")
 |bA {a:f8}{o:Obj}{xs:List V} (e:H a=some (.bA o (.lst xs))):my K H (.ref a) (.type "list")
 |tup {a:f8}{xs:List V} (e:H a=some (.tup xs)):my K H (.ref a) (.type "tuple")
 |dK {a:f8}{kvs:List (Key×V)} (e:H a=some (.dK kvs)):my K H (.ref a) (.type "dict")
 |dT {a:f8}{kvs:List (List Key×V)} (e:H a=some (.dT kvs)):my K H (.ref a) (.type "dict")
 |ins {a C dx:f8}{fs:List (Str×V)} (e:H a=some (.ins C dx fs)) (cl:Cls K C) (ha:FV K (.ref C) "__class__"=some (some (.builtin "object.__class__")))
   (hn:PySem.W.specialIn K (.builtin "object.__class__") "__get__"=some (some (.builtin "getset_descriptor.__get__"))) (htk:PySem.W.takesIn K (.builtin "object.__class__")=some true)
   (hm:PySem.W.mroIn K C (.type "object")=some true):my K H (.ref a) (.ref C)
def NS{x:V}{t:cr}(I:Inv X U σ H s)(rx:RelV x u)(ty:my X.K H x t)(e:BG X.K t c=some b)(h:∀tk,Q (.bool b) {s with toks:=tk}):gl (im X.prog X.w) A (call (.builtin "isinstance") [u,c]) Q E s:=by
 cases ty with
 |aB=>cases (show u=Bc from rx);exact Bo PySem.W.kitx_none I.w4 Cb e (λz=>nomatch z) h
 |bl y=>cases (show u=Ez y from rx);exact Bo PySem.W.kitx_bool I.w4 Cb e (λz=>nomatch z) h
 |int i=>obtain⟨t,q⟩:=(show ∃t,u=CJ i t from rx);cases q;exact Bo PySem.W.kitx_int I.w4 Cb e (λz=>nomatch z) h
 |str y=>obtain⟨t,q⟩:=(show ∃t,u=Bs y t from rx);cases q;exact Bo PySem.W.kitx_str I.w4 Cb e (λz=>nomatch z) h
 |flt y=>obtain⟨t,q⟩:=(show ∃t,u=Value.float y t from rx);cases q;exact Bo PySem.W.kitx_float I.w4 Cb e (λz=>nomatch z) h
 | @lst a xs ea=>
  cases (show u=Aw a from rx);obtain⟨_,_,n,_,h1⟩:=(show br X.prog X.w H s.heap a (.lst xs) from I.ba a _ ea);exact Bo EO I.w4 ⟨_,h1,rfl⟩ e (λz=>nomatch z) h
 | @bA a ob xs ea=>
  cases (show u=Aw a from rx);obtain⟨_,_,_,n,_,h1⟩:=(show br X.prog X.w H s.heap a (.bA ob (.lst xs)) from I.ba a _ ea);exact Bo EO I.w4 ⟨_,h1,rfl⟩ e (λz=>nomatch z) h
 | @tup a xs ea=>
  cases (show u=Aw a from rx);obtain⟨_,_,_,p,_⟩:=(show br X.prog X.w H s.heap a (.tup xs) from I.ba a _ ea);obtain⟨o,h1,h2,_⟩:=p;exact Bo F8 I.w4 ⟨o,h1,h2⟩ e (λz=>nomatch z) h
 | @dK a kvs ea=>
  cases (show u=Aw a from rx);obtain⟨_,_,vs,_,p⟩:=(show br X.prog X.w H s.heap a (.dK kvs) from I.ba a _ ea);obtain⟨o,es,ep,h1,h2,_⟩:=p;exact Bo ER I.w4 ⟨o,h1,h2.1⟩ e (λz=>nomatch z) h
 | @dT a kvs ea=>
  cases (show u=Aw a from rx);obtain⟨_,_,xs,_,o,es,ep,h1,h2,_⟩:=(show br X.prog X.w H s.heap a (.dT kvs) from I.ba a _ ea);exact Bo ER I.w4 ⟨o,h1,h2.1⟩ e (λz=>nomatch z) h
 | @ins a C dx fs ea cl ha hn htk hm=>
  cases (show u=Aw a from rx);obtain⟨mA,O_,_⟩:=VJ I.ba ea;obtain⟨od,J,_⟩:=O_.look;exact Bo (PySem.W.kitx_own (cl.get _) cl.hd ha hn htk hm) I.w4 J e (λz=>nomatch z) h
end
end L2
variable{v Ç pm fi ct oc:Bg}{vs:O L2.V}{mg:B4->Option Bg}{base:Fm}{fd:PySem.FuncData}{ps:O B4}{À:Cn}{qual:B4}{scope:PySem.Scope}{an od:Option Bf}{Tq:Array (Option Bg)}
namespace L2
structure dG(k:Nat)(A:FB):Prop where
 hd:A.handled=ci
 dp:A.depth+3*k+5<recursionLimit
 un:A.units+16*k+200<sn
 gd:A.guards=some []
theorem dG.mono{k:Nat}(r:dG k A)(h:j<=k):dG j A:=⟨r.hd,by have:=r.dp;lia,by have:=r.un;lia,r.gd⟩
theorem dG.deeper{k:Nat}(r:dG (k+1) A)(env:Env):dG k (A.deeper env):=
 ⟨r.hd,by have:=r.dp;show A.depth+1+3*k+5<_;lia,by have:=r.un;show A.units+3+16*k+200<_;lia,r.gd⟩
theorem dG.depth{k:Nat}(r:dG k A):A.depth<recursionLimit:=by have:=r.dp;lia
theorem dG.Pg{k:Nat}(r:dG k A):A.units<sn:=by have:=r.un;lia
def YI:TA:=λ_ H Q=>Q [] H
def Pu(ta:TE)(tr:TA):TA:=λσ H Q=>ta σ H λx H1=>tr σ H1 λxs H2=>Q (x::xs) H2
section
variable{t:TA}
def bj:PA X [] YI:=λ_ _ _ _ H Q I h=>BN ⟨[],H,I,.nil,h⟩
def aJ(ha:PE X e te)(hr:PA X es t)(hs:‹gb X e es›):PA X (e::es) (Pu te t):=by
 intro pos U s σ H Q I h;rw[hs];exact Bl (bE (ha U s σ H _ I h) λu s1 ⟨x,H1,I1,r1,q1⟩=>bE (hr pos U s1 σ H1 _ I1 q1) λus s2 ⟨xs,H2,I2,r2,q2⟩=>⟨x::xs,H2,I2,.cons r1 r2,q2⟩)
end
abbrev Sp:=O V->Hp->VK->XK->Prop
abbrev WQ:=O Env->Hp->db->XK->cr->db->Prop
structure WN(P:BT)(w:FM)(K:Ab)(mg:Str->Option cr)(base:re)(A:FB)(outer:List Env)(s:db)(H:Hp):Prop where
 frames:A.frames=some outer
 mod:Mod K mg base
 bs:∀b o,base.get? b=some o->s.heap.get? b=some o/\H b=ci
 Ye:base.objs.size<=s.heap.objs.size
 uB:s.heap.FunFrames base outer
 frf:∀b∈O4 outer,H b=ci
 ba:md P w H s.heap
 bare:SB s.gens
def CE(outer:O Env)(P:BT)(w:FM)(H:Hp)(s:db)(Q:VK)(u:cr)(s':db):Prop:=
 ∃v H',s'.os=s.os/\SB s'.gens/\Un (O4 outer) [] H H' s.heap s'.heap/\md P w H' s'.heap/\RelV v u/\Q v H'
def CR(CX:WQ)(outer:O Env)(P:BT)(w:FM)(H:Hp)(s:db)(Q:VK)(E:XK)(r:Result)(s':db):Prop:=
 match r with
 |.ok (.ret u)=>CE outer P w H s Q u s'
 |.ok _=>False
 |.error e=>CX outer H s E e s'
structure mz(P:BT)(w:FM)(K:Ab)(mg:Str->Option cr)(base:re)(CX:WQ)(k:Nat)(f:f8)(fd:FuncData)(ps:List Str)(sp:Sp):Prop where
 len:∀vs H Q E,sp vs H Q E->vs.length=ps.length
 run:∀(A:FB) (outer:List Env) (s:db) (H:Hp) (args:Args) (us:List cr) (vs:List V) (Q:VK) (E:XK),dG k A->WN P w K mg base A outer s H->BindsTo s fd args (ps.zip us)->Vals vs us->sp vs H Q E->
  Ix (im P w) A (.call (.ref f) args) (CR CX outer P w H s Q E) s
def mz.imp{K:Ab}{CX:WQ}{k:Nat}{f:f8}{sp sp':Sp}(F:mz P w K mg base CX k f fd ps sp)(h:∀vs H Q E,sp' vs H Q E->sp vs H Q E):mz P w K mg base CX k f fd ps sp':=
 ⟨λvs H Q E q=>F.len vs H Q E (h _ _ _ _ q),λA outer s H args us vs Q E hr he hb hv hs=>F.run A outer s H args us vs Q E hr he hb hv (h _ _ _ _ hs)⟩
section
variable{s:db}
def Inv.ai4(I:Inv X U σ H s):WN X.prog X.w X.K X.mg X.base X.A X.stack s H:=
 ⟨I.ok.frames,I.ok.mod,I.bs,A0 I.ok.Ye I.sz,I.stack,I.LG,I.ba,I.bare⟩
def Inv.after{Q:VK}(I:Inv X U σ H s)(h:CE X.stack X.prog X.w H s Q u s'):EP X U σ Q u s':=by
 obtain⟨v,H',os,bare,un,ba,r,q⟩:=h;obtain⟨hh,g,d,t,os'⟩:=s';obtain rfl:os'=s.os:=os;exact⟨v,H',I.call (h':=hh) (g':=g) (d':=d) (t':=t) (ch:=[]) un ba bare (λb z=>absurd z (by simp)),r,q⟩
end
def Binds(K:Ab)(fd:FuncData)(ps:O Str)(ds:O cr):Prop:=
 ∀(s:db) (us:O cr),K.In s.heap->(us++ds).length=ps.length->BindsTo s fd ⟨us,[]⟩ (ps.zip (us++ds))
def Binds.all{K:Ab}(h:∀us:O cr,us.length=ps.length->bindArgs fd ⟨us,[]⟩=pure (ps.zip us)):Binds K fd ps []:=λs us _ hl=>by
 rw[Du]at hl ⊢;exact .of_eq (h us hl)
def Passes(CX:WQ)(X:Cx)(E:XK):Prop:=∀(U:O (f8×Obj)) (σ:St) (H:Hp) (s:db) (e:cr) (s':db),Inv X U σ H s->CX X.stack H s E e s'->X.xe e s'
section
variable{CX:WQ}{k:Nat}{f:f8}{sp:Sp}{Į:O V}{ds:O cr}{E:XK}
def YZ{s:db}{Q:VK}(F:mz X.prog X.w X.K X.mg X.base CX k f fd ps sp)(hr:dG k X.A)(hb:Binds X.K fd ps ds)(hd:Vals Į ds)(hx:Passes CX X E)(I:Inv X U σ H s)(r:Vals vs us)(h:sp (vs++Į) H Q E):gl (im X.prog X.w) X.A (call (.ref f) us) (EP X U σ Q) X.xe s:=by
 have r2:Vals (vs++Į) (us++ds):=r.append hd;have hl:(us++ds).length=ps.length:=by rw[<- r2.length];exact F.len _ _ _ _ h
 refine wpAny_call (Rs (F.run X.A X.stack s H ⟨us,[]⟩ (us++ds) (vs++Į) Q E hr I.ai4 (hb s us I.w4 hl) r2 h) λr s' hq=>?_);cases r with
 |error e=>exact hx U σ H s e s' I hq
 |ok fl=>
  cases fl with
  |ret u=>exact I.after hq
  |next=>exact B3 hq
  |brk=>exact B3 hq
  |cont=>exact B3 hq
end
structure fu(N P:List Str)(sc:r9):Prop where
 kind:sc.kind=.function
 co:sc.isCoroutine=false
 gen:sc.isGenerator=false
 nd:N.Nodup
 pre:N.take P.length=P
 par:∀x∈P,sc.names.lookup x=some .local\/sc.names.lookup x=some .cell
 ZA:∀y∈sc.names,y.2≠.free
theorem xy{kindOf:Str->Option wS}:∀{binds:O (Str×cr)}{m:Str->Option cr},(∀v,(x,v)∉binds)->bindL kindOf binds m x=m x
 |[],_,_=>rfl
 |(n,v)::r,m,h=>by
  unfold bindL;rw[xy λw hw=>h w (A6 _ hw)]
  split
  .have:x≠n:=by rintro rfl;exact h v BI
   simp[this]
  .rfl
theorem xB{kindOf:Str->Option wS}:∀{binds:O (Str×cr)}{m:Str->Option cr},(∀v,(x,v)∉binds)->bindC kindOf binds m x=m x
 |[],_,_=>rfl
 |(n,v)::r,m,h=>by
  unfold bindC;rw[xB λw hw=>h w (A6 _ hw)]
  split
  .rfl
  .have:x≠n:=by rintro rfl;exact h v BI
   simp[this]
theorem xA{kindOf:Str->Option wS}:∀{P:O Str}{vs:O cr}{i:Nat}{m:Str->Option cr},P.Nodup->P[i]?=some x->vs[i]?=some v->kindOf x=some .local->bindL kindOf (P.zip vs) m x=some v
 |[],_,_,_,_,h,_,_=>by simp at h
 |_::_,[],_,_,_,_,h,_=>by simp at h
 |p::P,w::vs,0,m,nd,h1,h2,hk=>by
  simp at h1 h2;subst h1;subst h2;show bindL kindOf ((p,w)::P.zip vs) m p=_;unfold bindL;rw[xy λv hv=>(Dr.mp nd).1 (FH hv).1,if_pos hk];simp
 |p::P,w::vs,i+1,m,nd,h1,h2,hk=>by
  unfold bindL;exact xA (Dr.mp nd).2 (by simpa using h1) (by simpa using h2) hk
theorem xC{kindOf:Str->Option wS}:∀{P:O Str}{vs:O cr}{i:Nat}{m:Str->Option cr},P.Nodup->P[i]?=some x->vs[i]?=some v->kindOf x≠some .local->bindC kindOf (P.zip vs) m x=some v
 |[],_,_,_,_,h,_,_=>by simp at h
 |_::_,[],_,_,_,_,h,_=>by simp at h
 |p::P,w::vs,0,m,nd,h1,h2,hk=>by
  simp at h1 h2;subst h1;subst h2;show bindC kindOf ((p,w)::P.zip vs) m p=_;unfold bindC;rw[xB λv hv=>(Dr.mp nd).1 (FH hv).1,if_neg hk];simp
 |p::P,w::vs,i+1,m,nd,h1,h2,hk=>by
  unfold bindC;exact xC (Dr.mp nd).2 (by simpa using h1) (by simpa using h2) hk
def start(N:O Str)(vs:O V):St:=vs.map some++Ap (N.length-vs.length) ci
def vY(CX:WQ)(P:BT)(w:FM)(K:Ab)(mg:Str->Option cr)(base:re)(N:O Str)(qual:Str)(scope:r9)(f:f8)(cd:cr)(A:FB)(outer:O Env)(s:db)(H:Hp)(E:XK):Cx where
 prog:=P
 w:=w
 K:=K
 mg:=mg
 base:=base
 A:=A.deeper (KF qual scope s.heap.objs.size f cd)
 N:=N
 s₀:=s
 H₀:=H
 env:=KF qual scope s.heap.objs.size f cd
 outer:=outer
 stack:=KF qual scope s.heap.objs.size f cd::outer
 ex:=[]
 calm:=true
 fn:=λ_=>true
 pn:=[]
 xe:=λe s'=>gl (im P w) (A.deeper (KF qual scope s.heap.objs.size f cd)) (leaving (KF qual scope s.heap.objs.size f cd) e) (λ_ ć=>CX outer H s E e ć) (λe' ć=>CX outer H s E e' ć) s'
def IA{sc:r9}(h:sc.names.lookup x=some .cell):∃c,(ut n sc.names []).lookup x=some c:=by
 exact Option.isSome_iff_exists.mp (Fi sc.names n [] (.inl h))
theorem NT{CX:WQ}{K:Ab}{N:O Str}{f:f8}{cd:cr}{outer:O Env}{s s1:db}{E:XK}(S:fu N ps scope)(hd:A.handled=ci)(e0:WN P w K mg base A outer s H)(hl:vs.length=ps.length)(r:Vals vs us)(x:InCallC s s.heap.objs.size (bindL (KF qual scope s.heap.objs.size f cd).kindOf (ps.zip us) λ_=>ci) (ut (s.heap.objs.size+1) scope.names []) (bindC (KF qual scope s.heap.objs.size f cd).kindOf (ps.zip us) λ_=>ci) s1):Inv (vY CX P w K mg base N qual scope f cd A outer s H E) [] (start N vs) H s1:=by
 have du:ps.length<=N.length:=by have:=congrArg B5 S.pre;rw[CO]at this;lia
 obtain⟨h1,tk,rfl,hk⟩:=x.done;have Č:∀b:f8,b∉(vY CX P w K mg base N qual scope f cd A outer s H E).ex:=λb z=>absurd (show b∈([]) from z) (by simp);refine⟨⟨e0.mod,S.kind,rfl,rfl,Al _,λy z c h1 h2=>?_,λy hy=>?_,λy c _ h=>?_,λ_=>hd,Around.frames_deeper e0.frames,.inr ⟨rfl,rfl⟩,λb z=>absurd z (Č b),e0.bs,e0.Ye,λb _ _=>Č b,λb z=>absurd z (Č b),e0.uB,e0.frf⟩,
  rfl,e0.bare,Un.kept hk,⟨_,x.toInCall.ns,λi y v h1 h2 h3=>?_⟩,λy c h=>⟨_,x.cell y c h⟩,e0.ba.fresh (Al _),λy c h=>?_,λp hp=>absurd (show p∈([]) from hp) (by simp),e0.ba.kept hk,?_⟩
 .exact name_of_addr x.apart (BL h1) (BL h2)
 .rcases hy with hy|hy
  .exact IA hy
  .exact absurd rfl (S.ZA _ (BL hy))
 .exact Et (x.above y c (BL h))
 .have hi:i<vs.length:=by
   unfold start at h2;by_cases hi:i<vs.length
   .exact hi
   .rw[Bd (by simpa using hi)]at h2;rw[CS]at h2
    split at h2<;>cases h2
  have ha:vs[i]?=some v:=by
   unfold start at h2;rw[AX (by simpa using hi),Ah]at h2;cases e:vs[i]? with
   |none=>rw[e]at h2;cases h2
   |some a=>rw[e]at h2;cases h2;rfl
  obtain⟨u,hu,rv⟩:=r.get ha;have hp:ps[i]?=some y:=by
   rw[<- S.pre,List.getElem?_take_of_lt ∅];exact h1
  have ndP:ps.Nodup:=by rw[<- S.pre];exact S.nd.sublist (DK _ _)
  refine⟨u,rv,?_⟩;rcases S.par y (AJ hp) with k|k
  .exact .inl ⟨k,xA ndP hp hu k⟩
  .obtain⟨c,e⟩:=IA k;refine .inr ⟨.inl k,c,e,?_⟩;have q:=x.cell y c e;rw[xC ndP hp hu (by show scope.names.lookup y≠_;rw[k];decide)]at q;exact q
 .exact e0.ba.fresh (Et (x.above y c (BL h)))
 .unfold start;show _=N.length;rw[Ak,Ai,B9];lia
def aez{CX:WQ}{K:Ab}{k:Nat}{f:f8}{name:Str}{params:Arguments}{dV kV:cr}{N:O Str}{sp:Sp}(lk:K.lookup f=some ⟨oc,od,.func (Cf name qual params body scope dV kV Ç pm an fi ct),Tq⟩)(gU:Ey K fi qual=true)(S:fu N ps scope)(len:∀vs H Q E,sp vs H Q E->vs.length=ps.length)(RS:∀(A:FB) (outer:O Env) (s:db) (H:Hp) (vs:O V) (Q:VK) (E:XK),dG k (A.deeper (KF qual scope s.heap.objs.size f fi))->sp vs H Q E->
   ∃t,pN (vY CX P w K mg base N qual scope f fi A outer s H E) body t/\t {nx:=λ_ H'=>Q .aB H',rt:=Q} (start N vs) H):mz P w K mg base CX (k+1) f (Cf name qual params body scope dV kV Ç pm an fi ct) ps sp:=by
 refine⟨len,λA outer s H args us vs Q E hr e0 hb r á=>?_⟩;have hl:=len _ _ _ _ á;have KX:K.In s.heap:=e0.mod.kin.keeps λb o e=>(e0.bs b o e).1;have lim:s.heap.NoLimit:=e0.mod.nolimit.keeps λb o e=>(e0.bs b o e).1;have ad9:∀y∈ps.zip us,scope.names.lookup y.1=some .local\/(scope.names.lookup y.1=some .cell/\((ut (s.heap.objs.size+1) scope.names []).lookup y.1).isSome=true):=λ⟨n,v⟩ hy=>by
  rcases S.par n (FH hy).1 with q|q
  .exact .inl q
  .exact .inr ⟨q,Fi _ _ _ (.inl q)⟩
 refine codeAny_call_function hr.depth (KX _ _ lk) rfl S.co S.gen rfl (PySem.W.codeRec_of KX gU) (hb _ _ _ _ ?_);refine wpAny_newFunctionEnv_cells S.kind ad9 λenv he s1 x=>?_;subst he;refine⟨lim.keeps x.toInCall.keep,codeAny_func ?_⟩;obtain⟨t,ht,hq⟩:=RS A outer s H vs Q E (hr.deeper _) á;have I:Inv (vY CX P w K mg base N qual scope f fi A outer s H E) [] (start N vs) H s1:=NT S hr.hd e0 hl r x;refine BM (ht [] s1 (start N vs) H _ I hq) (λfl s' hs=>?_) λe s' hs=>hs;have fin:∀{σ':St}{H':Hp}{v:V}{u:cr},Inv (vY CX P w K mg base N qual scope f fi A outer s H E) [] σ' H' s'->RelV v u->Q v H'->CE outer P w H s Q u s':=
  λ{σ' H' v u} J rv q=>⟨v,H',J.os,J.bare,J.base,J.ba,rv,q⟩
 cases fl with
 |ret u=>
  obtain⟨v,σ',H',J,rv,q⟩:=hs;exact fin J rv q
 |next=>
  obtain⟨σ',H',J,q⟩:=hs;exact fin (v:=V.aB) (u:=Bc) J rfl q
 |brk=>
  obtain⟨_,_,_,q⟩:=hs;exact B3 q
 |cont=>
  obtain⟨_,_,_,q⟩:=hs;exact B3 q
end L2
variable{T:String}
namespace L2
section
variable{t:TA}{id:String}{r:O V->Hp->VK->Prop}
def tCB(r:O V->Hp->VK->Prop)(t:TA):TE:=λσ H Q=>t σ H λvs H1=>r vs H1 Q
def fD(hc:cz X (.builtin id) r)(hg:Gl X x)(hm:X.mg x=ci)(hv:sw x=some (.builtin id))(ha:PA X (e::es) t)(hn: ~~~(x≠"__name__"))(kU: ~~~(gZ x))(he:‹gb X e es›)(du:‹km X pos es›):PE X (.Call (.Name x p) (e::es) [] pos) (tCB r t):=by
 intro U s σ H Q I h;refine Br (fc I hg hm hv ?_ hn kU);exact PyProof.Rows.callWith_builtin1 (bE (ha pos U s σ H _ I h) λus s1 ⟨vs,H1,I1,r1,q1⟩=>hc U s1 σ H1 vs us Q I1 r1 q1) he du
def lJ(hc:cz X (.type T) r)(hg:Gl X x)(hm:X.mg x=ci)(hv:sw x=some (.type T))(ha:PA X (e::es) t)(hn: ~~~(x≠"__name__"))(kU: ~~~(gZ x))(he:‹gb X e es›)(du:‹km X pos es›):PE X (.Call (.Name x p) (e::es) [] pos) (tCB r t):=by
 intro U s σ H Q I h;refine Br (fc I hg hm hv ?_ hn kU);exact A8 (bE (ha pos U s σ H _ I h) λus s1 ⟨vs,H1,I1,r1,q1⟩=>hc U s1 σ H1 vs us Q I1 r1 q1) he du
end
end L2
variable{prog:PySem.Program}{items:Array Bg}{ns ms:O Int}
namespace HT
open PySem PyProof.Rows
def lexLt:O Int->O Int->Bool
 |[],[]=>false
 |[],_::_=>true
 |_::_,[]=>false
 |x::xs,y::ys=>if x=y then lexLt xs ys else decide (x<y)
theorem JY(x y:Int)(xs ys:O Int):lexLt (x::xs) (y::ys)=if x=y then lexLt xs ys else decide (x<y):=rfl
def Sk(A:FB)(s:db)(a:Int)(t:Tok)(c:Int)(u:Tok):∃e,DZ A s (.int a t) (.int c u) e/\(e=true↔a=c):=
 ⟨(a==c),EB a t c u,by simp⟩
def Qe(A:FB)(s:db)(a:Int)(t:Tok)(c:Int)(u:Tok)(prog:BT)(w:FM)(E:cr->db->Prop)(Q:cr->db->Prop)(h:Q (.bool (decide (a<c))) s):gl (im prog w) A (richCompare .Lt (.int a t) (.int c u)) Q E s:=
 (PyProof.Rows.lt_int h)
section
open PySem.SeqAt
open PySem.AutoSeq1 (wpAny_loadPart')
open PySem.MeetsSeq PySem.MeetsSeq2 PySem.MeetsSeq3
theorem vq(l b:f8)(items cu:Array cr)(n n2:Nat)(dd Wn:Option f8)(sl Ti:Array (Option cr))(ns ms:O Int)(hi:EQ items.toList ns)(hj:EQ cu.toList ms):Meets (ul.«tuple.__lt__» ⟨[.ref l,.ref b],[]⟩) (λ_ R s=>s.heap.get? l=some {cls:=.type "tuple",dict:=dd,data:=.seq items n,slots:=sl}/\s.heap.get? b=some {cls:=.type "tuple",dict:=Wn,data:=.seq cu n2,slots:=Ti}/\
    R (.ok (.ret (.bool (lexLt ns ms)))) s):=
 .of_wp λprog w A R s h=>by
  obtain⟨hp,g,d,tk,os⟩:=s;obtain⟨hl,hb,h⟩:=h;have f2:=AutoSeq1.sub_tuple_tuple;have z1:items.size=ns.length:=by rw[<- hi.length];simp
  have z2:cu.size=ms.length:=by rw[<- hj.length];simp
  wp_walk using FA hl,FA hb,wpAny_forIn_list _ (λrest b s'=>b.1=ci/\s'=⟨hp,g,d,tk,os⟩/\∃(vs ws:O cr) (Ts ñ:O Int),rest=vs.zip ws/\
   EQ vs Ts/\EQ ws ñ/\Ts.length+cu.size=ñ.length+items.size/\R (.ok (.ret (.bool (lexLt Ts ñ)))) ⟨hp,g,d,tk,os⟩) _
  case turn=>
   rintro⟨y,x⟩ rest b s' ⟨hb',rfl,vs,ws,Ts,ñ,hz,hvi,hwi,Á,hR⟩;cases hvi with
   |nil=>rw[List.zip_nil_left]at hz;cases hz
   |cons a t ah9=>
    cases hwi with
    |nil=>rw[List.zip_nil_right]at hz;cases hz
    |cons c u ah8=>
     rw[List.zip_cons_cons]at hz;injection hz with hyx ad4;injection hyx with hy hx;subst hy hx;rw[JY]at hR;simp at Á;obtain⟨e,he,aed⟩:=Sk A.in1 ⟨hp,g,d,tk,os⟩ a t c u;refine Aa (he prog w _ _ ?_);cases e with
     |true=>
      rw[if_pos (aed.mp rfl)]at hR
      wp_walk
      exact⟨rfl,rfl,_,_,_,_,ad4,ah9,ah8,by lia,hR⟩
     |false=>
      rw[if_neg (λq=>absurd (aed.mpr q) AV)]at hR;have hri:=Qe A.in1 ⟨hp,g,d,tk,os⟩ a t c u prog w
      wp_walk using hri
      exact⟨_,rfl,by simpa using hR⟩
  case fin=>
   rintro⟨b1,b2⟩ s' ⟨hb',rfl,vs,ws,Ts,ñ,hz,hvi,hwi,Á,hR⟩;subst hb';have hv:lexLt Ts ñ=decide (items.size<cu.size):=by
    cases hvi with
    |nil=>
     cases hwi with
     |nil=>
      exact(decide_eq_false ∅).symm
     |cons c u hw=>
      simp at Á;exact(decide_eq_true ∅).symm
    |cons a t hv=>
     cases hwi with
     |nil=>
      simp only[Ei]at Á;exact(decide_eq_false ∅).symm
     |cons c u hw=>
      cases hz
   rw[hv]at hR
   wp_walk
   exact⟨_,rfl,by simpa[Builtin.Tuple.tupleCompareSizes]using hR⟩
  case h=>
   exact⟨rfl,rfl,items.toList,cu.toList,ns,ms,rfl,hi,hj,by lia,h⟩
end
section
variable{s:db}
def JU{l:f8}{cu:Array cr}(hl:IsTup s.heap l items)(hb:IsTup s.heap b cu)(hi:EQ items.toList ns)(hj:EQ cu.toList ms)(hu:A.units<sn)(h:Q (.bool (lexLt ns ms)) s):gl (im prog w) A (ss .Lt (.ref l) (.ref b)) Q E s:=by
 obtain⟨⟨cls,dd,data,sl⟩,ho,hc,n,hd⟩:=id hl;obtain⟨⟨Ť,Wn,data2,Ti⟩,N0,XT,n2,Ò⟩:=id hb;subst hc hd XT Ò;exact richCompare_meets_room (op:=.Lt) ⟨_,ho,rfl⟩ ⟨_,N0,rfl⟩ PySem.F.slot_tuple_lt PySem.F.entry_tuple_lt (PySem.F.args_tuple_lt_2 _ _) (vq l b items cu n n2 dd Wn sl Ti ns ms hi hj)
  ⟨ho,N0,show Ez (lexLt ns ms)≠Value.notImplemented/\Q (.bool (lexLt ns ms)) s from⟨(λx=>nomatch x),h⟩⟩ hu
def Wu{t:f8}{vs ws:O cr}(ht:IsTup s.heap t vs.toArray)(hb:IsTup s.heap b ws.toArray)(hv:vs≠[])(h1:ws=[]->Q (.ref t) s)(h2:ws≠[]->Q (.ref s.heap.objs.size) {s with heap:=s.heap.push {cls:=.type "tuple",data:=.seq (vs++ws).toArray}})(hsz:vs.length+ws.length<=sizeLine):gl (im prog w) A (wf .Add (.ref t) (.ref b)) Q E s:=by
 obtain⟨⟨cls,dd,data,sl⟩,ho,hc,n,hd⟩:=id ht;obtain⟨⟨Ť,Wn,data2,Ti⟩,N0,XT,n2,Ò⟩:=id hb;simp only at hc hd XT Ò;subst hc hd XT Ò;have e:vs.toArray++ws.toArray=(vs++ws).toArray:=by simp
 by_cases hw:ws=[]
 .exact concat_meets ⟨_,ho,rfl⟩ ⟨_,N0,rfl⟩ noFill_tuple_add seq_tuple_add DB Dy (Dp _ _)
   (tuple_addW1 t b vs.toArray ws.toArray n n2 dd Wn sl Ti (by simpa using hv) (by simp[hw])) ⟨ho,N0,h1 hw⟩
 .refine concat_meets ⟨_,ho,rfl⟩ ⟨_,N0,rfl⟩ noFill_tuple_add seq_tuple_add DB Dy (Dp _ _)
   (tuple_addW2 t b vs.toArray ws.toArray n n2 dd Wn sl Ti (by simpa using hv) (by simpa using hw) (by rw[Am,Am];exact hsz)) ⟨ho,N0,?_⟩
  rw[e];exact h2 hw
def vA(n d:Nat):Option Int->Nat
 |none=>d
 |some v=>if v<0 then (v+(n:Int)).toNat else min v.toNat n
end
end HT
namespace L2
abbrev TO:=St->Hp->(Option Int->Hp->Prop)->Prop
def PO(X:Cx)(e:Option nw)(t:TO):Prop:=
 ∀(U:O (f8×Obj)) (s:db) (σ:St) (H:Hp) (Q:Option Int->Hp->Prop),Inv X U σ H s->t σ H Q->
  gl (im X.prog X.w) X.A (evalPart e X.env) (λu s'=>∃o H',Inv X U σ H' s'/\IsPart u o/\Q o H') X.xe s
def T8:TO:=λ_ H Q=>Q ci H
def acz(t:TE):TO:=λσ H Q=>t σ H λx H1=>∃i,x=.int i/\Q (some i) H1
def intsAre_of:∀{us:O cr},Vals (ns.map V.int) us->EQ us ns:=by
 induction ns with
 |nil=>intro us r;rw[CW]at r;cases r;exact .nil
 |cons n ns ih=>
  intro us r;cases r with
  |cons r1 r2=>
   obtain⟨t,e⟩:=r1;subst e;exact .cons n t (ih r2)
section
variable{lo hi:Option nw}{tl th:TO}{p2:Pos}
def UM:PO X ci T8:=by
 intro U s σ H Q I h;exact Af ⟨ci,H,I,.none,h⟩
def UL(h:PE X e te):PO X (some e) (acz te):=by
 intro U s σ H Q I hw;refine bE (h U s σ H _ I hw) λu s1 ⟨x,H1,I1,r1,q1⟩=>?_;obtain⟨i,rfl,q⟩:=q1;obtain⟨t,rfl⟩:=r1;exact⟨some i,H1,I1,.int i t,q⟩
def SlR(X:Cx)(r:V->Option Int->Option Int->Hp->VK->Prop):Prop:=
 ∀(U:O (f8×Obj)) (s:db) (σ:St) (H:Hp) (x:V) (v vl vu:cr) (lo hi:Option Int) (sl:f8) (Q:VK),Inv X U σ H s->RelV x v->s.heap.IsSliceOf sl vl vu .none->IsPart vl lo->IsPart vu hi->r x lo hi H Q->
  ∃T id,xz (.type T) "__getitem__"=pure (some (.builtin id))/\s.TypeIs v T/\gl (im X.prog X.w) X.A (getItem v (.ref sl)) (EP X U σ Q) X.xe s
def tSl(r:V->Option Int->Option Int->Hp->VK->Prop)(te:TE)(tl th:TO):TE:=λσ H Q=>te σ H λx H1=>tl σ H1 λl H2=>th σ H2 λu H3=>r x l u H3 Q
def QL{r:V->Option Int->Option Int->Hp->VK->Prop}(hr:SlR X r)(he:PE X e te)(hl:PO X lo tl)(hu:PO X hi th):PE X (.Subscript e (.Slice lo hi ci p2) pos) (tSl r te tl th):=by
 intro U s σ H Q I h;refine Subscript_ (bE (he U s σ H _ I h) λv s1 ⟨x,H1,I1,r1,q1⟩=>?_);refine wpAny_Slice (bE (hl U s1 σ H1 _ I1 q1) λvl s2 ⟨l,H2,I2,pl,q2⟩=>bE (hu U s2 σ H2 _ I2 q2) λvu s3 ⟨u,H3,I3,pu,q3⟩=>?_);rw[evalPart_none];refine Af ?_;have I4:Inv X U σ H3 {s3 with heap:=s3.heap.push {cls:=.type "slice",data:=.fields #[vl,vu,.none]}}:=I3.kept (t':=s3.toks) λb ob q=>Aj _ q;obtain⟨T,id,hT,ht,hg⟩:=hr U {s3 with heap:=s3.heap.push {cls:=.type "slice",data:=.fields #[vl,vu,.none]}} σ H3 x v vl vu l u s3.heap.objs.size Q I4 r1 (Heap.IsSliceOf.new ..) pl pu q3;show gl (im X.prog X.w) X.A (subscriptTail e (.Slice lo hi ci p2) v (.ref s3.heap.objs.size)) (EP X U σ Q) X.xe {s3 with heap:=s3.heap.push {cls:=.type "slice",data:=.fields #[vl,vu,.none]}};exact tail_any (ops:=[.ref s3.heap.objs.size,v]) ht hT hg (by with_unfolding_all rfl)
def OB(xs:O V)(lo hi:Option Int):O V:=(xs.drop (HT.vA xs.length 0 lo)).take (HT.vA xs.length xs.length hi-HT.vA xs.length 0 lo)
theorem Iz(xs:O V)(lo hi:Option Int):(OB xs lo hi).length<=xs.length:=by
 unfold OB;rw[CO,Dc];lia
def Xc(K:Ab):R2:=λx y H Q=>∃a b xs ys,x=.ref a/\y=.ref b/\d6 K H a xs/\d6 K H b ys/\xs≠[]/\xs.length+ys.length<=sizeLine/\
 (ys=[]->Q (.ref a) H)/\(ys≠[]->∀p,H p=ci->Q (.ref p) (upd H p (.tup (xs++ys))))
def Vals.jz(r:Vals xs us):us=[]↔xs=[]:=by
 cases r with
 |nil=>simp
 |cons _ _=>simp
def L3:iK X (wf .Add) (Xc X.K):=by
 intro U s σ H x y v u Q I rx ry h;obtain⟨a,b,xs,ys,rfl,rfl,ha,hb,hx,hz,q1,q2⟩:=h;cases rx;cases ry;obtain⟨ao,r1,p1,_⟩:=I.tuple ha;obtain⟨cq,r2,p2,_⟩:=I.tuple hb;refine HT.Wu p1 p2 (λz=>hx (r1.jz.mp z)) (λz=>⟨.ref a,H,I,rfl,q1 (r2.jz.mp z)⟩) (λz=>?_) (by rw[<- r1.length,<- r2.length];exact hz);refine⟨.ref s.heap.objs.size,_,I.laid (λb ob q=>Aj _ q) (Al _) ?_,rfl,q2 (λw=>z (r2.jz.mpr w)) _ (I.ba.fresh (Al _))⟩;exact⟨by rw[Ak];exact hz,_,r1.append r2,IsTup.new _ _,_,An _ rfl,rfl⟩
end
end L2
variable{p:Bf}{eD:O Bg}
namespace L2
def nQ(n:Nat)(i:Int):Option Nat:=if 0<=i then (if i<n then some i.toNat else ci) else if -(n:Int)<=i then some (i+n).toNat else ci
def d5(xs:List α)(i:Int):Option α:=(nQ xs.length i).bind λj=>xs[j]?
theorem oW(h:nQ n i=some j):seqIndex? i n=some j/\j<n/\-(n:Int)<=i/\i<n:=by
 unfold nQ at h;by_cases h0:0<=i
 .rw[if_pos h0]at h;by_cases h1:i<n
  .rw[if_pos h1]at h;have e:=Option.some.inj h;exact⟨by rw[seqIndex_of h0 h1,e],by lia,by lia,h1⟩
  .rw[if_neg h1]at h;cases h
 .rw[if_neg h0]at h;by_cases h1:-n<=i
  .rw[if_pos h1]at h;have e:=Option.some.inj h;exact⟨by rw[seqIndex_neg ∅ h1,e],by lia,h1,by lia⟩
  .rw[if_neg h1]at h;cases h
def zQ{xs:List α}{v:α}(h:d5 xs i=some v):∃j,seqIndex? i xs.length=some j/\xs[j]?=some v/\j<xs.length/\-(xs.length:Int)<=i/\i<xs.length:=by
 unfold d5 at h;cases e:nQ xs.length i with
 |none=>rw[e]at h;cases h
 |some j=>
  rw[e]at h;obtain⟨h1,h2,h3,h4⟩:=oW e;exact⟨j,h1,h,h2,h3,h4⟩
theorem dP{xs:List α}{v:α}(h:xs[j]?=some v):d5 xs (j:Int)=some v:=by
 have hj:=(Ag.mp h).1;have e:nQ xs.length j=some j:=by
  unfold nQ;rw[if_pos ∅,if_pos ∅];simp
 unfold d5;rw[e];exact h
def z9(b:nw):Prop:=∀o i,subscripted b false o i=operate [o,i] (getItem o i)
def TH(X:Cx)(r:R2):Prop:=
 ∀(Ã Å:nw) (U:O (f8×Obj)) (s:db) (σ:St) (H:Hp) (x y:V) (v u:cr) (Q:VK),Inv X U σ H s->RelV x v->RelV y u->r x y H Q->
  subscripted Å false v u=operate [v,u] (getItem v u)->gl (im X.prog X.w) X.A (subscriptTail Ã Å v u) (EP X U σ Q) X.xe s
def MtR(X:Cx)(id:String)(r:V->O V->Hp->VK->Prop):Prop:=
 ∀(U:O (f8×Obj)) (s:db) (σ:St) (H:Hp) (x:V) (xs:O V) (v:cr) (us:O cr) (Q:VK),Inv X U σ H s->RelV x v->Vals xs us->r x xs H Q->
  gl (im X.prog X.w) X.A (call (.builtin id) (v::us)) (EP X U σ Q) X.xe s
section
variable{X:Cx}{a b:nw}{ta tb:TE}{pos:Pos}
def TH.or{r r':R2}(h:TH X r)(h':TH X r'):TH X (λx y H Q=>r x y H Q\/r' x y H Q):=by
 intro Ã Å U s σ H x y v u Q I rx ry q hs;rcases q with q|q
 .exact h Ã Å U s σ H x y v u Q I rx ry q hs
 .exact h' Ã Å U s σ H x y v u Q I rx ry q hs
def fB{r:R2}(hr:TH X r)(ha:PE X a ta)(hb:PE X b tb)(hs:z9 b):PE X (.Subscript a b pos) (WU r ta tb):=by
 intro U s σ H Q I h;exact Subscript_ (abe ha hb I h λv u s2 x y H2 I2 rx ry q=>hr a b U s2 σ H2 x y v u Q I2 rx ry q (hs _ _))
def ac5(K:Ab):R2:=λx y H Q=>∃p xs i v,x=.ref p/\y=.int i/\bM K H p xs/\d5 xs i=some v/\Q v H
def ac3(K:Ab):R2:=λx y H Q=>∃p xs i v,x=.ref p/\y=.int i/\d6 K H p xs/\d5 xs i=some v/\Q v H
def ac4:R2:=λx y H Q=>∃z i c,x=.str z/\y=.int i/\z.length<=sizeLine/\d5 z.cps.toList i=some c/\Q (.str ⟨#[c]⟩) H
theorem VF:TH X (ac5 X.K):=by
 intro Ã Å U s σ H x y v u Q I rx ry h hs;obtain⟨p,xs,i,z,rfl,rfl,hq,he,q⟩:=h;cases rx;obtain⟨t,rfl⟩:=ry;obtain⟨ao,r,pl,hz⟩:=I.list hq;obtain⟨j,h1,h2,h3,h4,h5⟩:=zQ he;obtain⟨w,ew,xX⟩:=r.get h2;have hl:=r.length;have hn:=yE;have fin:EP X U σ Q w s:=⟨z,H,I,xX,q⟩;by_cases h0:0<=i
 .have hj:i.toNat=j:=by
   rw[seqIndex_of h0 h5]at h1;exact Option.some.inj h1
  exact item_listR pl.isList h0 ∅ (by rw[hj];simpa using ew) fin hs
 .have hj:(i+ao.toArray.size).toNat=j:=by
   rw[seqIndex_neg ∅ h4]at h1;rw[Am,<- hl];exact Option.some.inj h1
  exact subscriptTail_builtinR pl.isList.typeIs slot_list_getitem.lookup
   (wpAny_getItem_list_neg pl.isList ∅ (by rw[Am]<;>lia) ∅ (by rw[hj];simpa using ew) ⟨rfl,fin⟩) hs
theorem Z9:TH X (ac3 X.K):=by
 intro Ã Å U s σ H x y v u Q I rx ry h hs;obtain⟨p,xs,i,z,rfl,rfl,hq,he,q⟩:=h;cases rx;obtain⟨t,rfl⟩:=ry;obtain⟨ao,r,pl,hz⟩:=I.tuple hq;obtain⟨j,h1,h2,h3,h4,h5⟩:=zQ he;obtain⟨w,ew,xX⟩:=r.get h2;have hn:=yE;have fin:EP X U σ Q w s:=⟨z,H,I,xX,q⟩;exact subscriptTail_builtinR pl.typeIs slot_tuple_getitem.lookup
  (getItem_tuple pl ∅ ∅ (by rw[Am,<- r.length];exact h1) (by simpa using ew) ⟨rfl,fin⟩) hs
theorem aaa:TH X ac4:=by
 intro Ã Å U s σ H x y v u Q I rx ry h hs;obtain⟨z,i,c,rfl,rfl,hz,he,q⟩:=h;obtain⟨t,rfl⟩:=rx;obtain⟨t',rfl⟩:=ry;obtain⟨j,h1,h2,h3,h4,h5⟩:=zQ he;have hl:z.cps.toList.length=z.length:=by simp[Str.length]
 rw[hl]at h1 h4 h5;have hn:=yE;exact tail_any (typeIs_str s z t) slot_str_getitem.lookup (getItem_str (by
  rw[(decide_eq_false ∅),(decide_eq_false ∅),Bool.or_false]) (by rw[h1];simpa using h2) ⟨.str ⟨#[c]⟩,H,I.tok _,⟨_,rfl⟩,q⟩) hs
def rIx(K:Ab):R2:=λx y H Q=>ac5 K x y H Q\/ac3 K x y H Q\/ac4 x y H Q
def aab:TH X (rIx X.K):=VF.or (Z9.or aaa)
def JS(ao:O cr)(n j:Nat)(u:cr):BH (·.setIfInBounds j u) {cls:=.type "list",data:=.seq ao.toArray n}={cls:=.type "list",data:=.seq (ao.set j u).toArray n}:=by
 simp[BH]
def Inv.lst{U:O (f8×Obj)}{σ:St}{H:Hp}{s:db}{p:f8}{xs:O V}(I:Inv X U σ H s)(h:H p=some (.lst xs)):∃(ao:O cr) (n:Nat),Vals xs ao/\s.heap.get? p=some {cls:=.type "list",data:=.seq ao.toArray n}/\xs.length<=sizeLine:=by
 obtain⟨z,ao,n,r,e⟩:=I.ba p _ h;exact⟨ao,n,r,e,z⟩
def Inv.ZL{s:db}{n':Nat}{f:Obj->Obj}(I:Inv X U σ H s)(h:H p=some (.lst xs))(ho:s.heap.get? p=some {cls:=.type "list",data:=.seq ao.toArray n})(hf:f {cls:=.type "list",data:=.seq ao.toArray n}={cls:=.type "list",data:=.seq eD.toArray n'})(r:Vals ys eD)(hz:ys.length<=sizeLine)(t:Nat):Inv X U σ (upd H p (.lst ys)) {s with heap:=s.heap.update p f,toks:=t}:=by
 have e:(s.heap.update p f).get? p=some {cls:=.type "list",data:=.seq eD.toArray n'}:=by
  rw[B8 f ho (by rw[hf]<;>rfl),hf]
 refine I.write (x:=p) (e:=p) (by rw[h];trivial) (.inl rfl) (λb u hb q=>(BZ _ _ (Bt hb)).trans q) ⟨_,e⟩ ?_;exact⟨hz,eD,n',r,e⟩
def ac0:V->V->V->Hp->(Hp->Prop)->Prop:=λo i v H Q=>∃p xs k j,o=.ref p/\i=.int k/\H p=some (.lst xs)/\nQ xs.length k=some j/\Q (upd H p (.lst (xs.set j v)))
theorem set_list:OQ X ac0:=by
 intro U s σ H o i v ov iv u Q I ro ri rv h;obtain⟨p,xs,k,j,rfl,rfl,hp,hj,q⟩:=h;cases ro;obtain⟨t,rfl⟩:=ri;obtain⟨ao,n,r,ho,hz⟩:=I.lst hp;obtain⟨h1,h2,h3,h4⟩:=oW hj;have hl:=r.length;have hn:=yE;have I':=
  I.ZL hp ho (JS ao n j u) (r.set rv j) (by rw[Bw];exact hz) s.toks
 by_cases h0:0<=k
 .have hk:k.toNat=j:=by
   rw[seqIndex_of h0 h4]at h1;exact Option.some.inj h1
  exact PySem.W.ki_setAt ho h0 ∅ (by rw[Am,<- hl];exact h4) (by rw[hk];exact⟨_,I',q⟩)
 .have hk:(k+ao.toArray.size).toNat=j:=by
   rw[seqIndex_neg ∅ h3]at h1;rw[Am,<- hl];exact Option.some.inj h1
  exact PySem.W.ki_setBack ho ∅ (by rw[Am,<- hl];exact h3) ∅ (by rw[hk];exact⟨_,I',q⟩)
theorem xV(lo hi:Option Int)(n:Nat):(ww lo hi ci n).1=((HT.vA n 0 lo:Nat):Int)/\(ww lo hi ci n).2.1=((HT.vA n n hi:Nat):Int)/\(ww lo hi ci n).2.2=1:=by
 refine⟨?_,?_,rfl⟩
 .cases lo with
  |none=>simp[ww,HT.vA]
  |some i=>
   simp only[ww,HT.vA,Option.getD_none];by_cases h:i<0
   .simp only[h,if_true]<;>lia
   .simp only[h,if_false]<;>lia
 .cases hi with
  |none=>simp[ww,HT.vA]
  |some i=>
   simp only[ww,HT.vA,Option.getD_none,if_true];by_cases h:i<0
   .simp only[h,if_true]<;>lia
   .simp only[h,if_false]<;>lia
def vz(ao:O cr)(lo hi:Option Int):Op ao.toArray lo hi ci=((ao.drop (HT.vA ao.length 0 lo)).take (HT.vA ao.length ao.length hi-HT.vA ao.length 0 lo)).toArray:=by
 obtain⟨h1,h2,h3⟩:=xV lo hi ao.toArray.size;unfold Op;rw[h1,h2,h3];simp only[sliceRange_one,pick_run]<;>rfl
def ahr(K:Ab):V->Option Int->Option Int->Hp->VK->Prop:=λx lo hi H Q=>∃a xs,x=.ref a/\bM K H a xs/\∀p,H p=ci->Q (.ref p) (upd H p (.lst (OB xs lo hi)))
theorem Uo:SlR X (ahr X.K):=by
 intro U s σ H x v vl vu lo hi sl Q I rx hs pl pu h;obtain⟨a,xs,rfl,hx,q⟩:=h;cases rx;obtain⟨ao,r,ht,hz⟩:=I.list hx;have Á:=r.length;refine⟨"list",_,slot_list_getitem.lookup,ht.isList.typeIs,?_⟩;refine E2 ht.isList hs pl pu .none (by simp) ?_ (by rw[Am] <;> lia);rw[vz,<- Á];refine⟨.ref s.heap.objs.size,_,I.laid (λb ob q=>Aj _ q) (Al _) ?_,rfl,q _ (I.ba.fresh (Al _))⟩;exact⟨A0 (Iz xs lo hi) hz,_,0,(r.drop (HT.vA xs.length 0 lo)).take (HT.vA xs.length xs.length hi-HT.vA xs.length 0 lo),An _ rfl⟩
theorem zM:cz X (.type "list") (λxs H Q=>∃p ys,xs=[.ref p]/\(bM X.K H p ys\/d6 X.K H p ys)/\∀l,H l=ci->Q (.ref l) (upd H l (.lst ys))):=by
 intro U s σ H xs us Q I r h;obtain⟨p,ys,rfl,hq,q⟩:=h;obtain⟨u,rfl,rx⟩:=vals1 r;cases rx;have fin:∀ao,Vals ys ao->ys.length<=sizeLine->∀(h':re) c',(∀b o',s.heap.get? b=some o'->h'.get? b=some o')->
   h'.get? s.heap.objs.size=some {cls:=.type "list",dict:=ci,data:=.seq ao.toArray c',slots:=#[]}->EP X U σ Q (.ref s.heap.objs.size) {s with heap:=h'}:=λao r' hz h' c' kp e=>
  ⟨.ref s.heap.objs.size,_,I.laid (t':=s.toks) kp (Al _) (show br X.prog X.w _ h' _ (.lst ys) from⟨hz,ao,c',r',e⟩),rfl,q _ (I.ba.fresh (Al _))⟩
 rcases hq with hq|hq
 .obtain⟨ao,r',pl,hz⟩:=I.list hq;have Á:=r'.length;obtain⟨o,ho,hc,n,hd⟩:=pl.isList;exact call_list_seq p (.inl rfl) ho hc hd (λh' c' kp e=>fin ao r' hz h' c' kp e) (by simp only[Am]<;>lia)
 .obtain⟨ao,r',pl,hz⟩:=I.tuple hq;have Á:=r'.length;obtain⟨o,ho,hc,n,hd⟩:=pl;exact call_list_seq p (.inr rfl) ho hc hd (λh' c' kp e=>fin ao r' hz h' c' kp e) (by simp only[Am]<;>lia)
theorem vZ:cz X (.type "tuple") (λxs H Q=>∃p ys,xs=[.ref p]/\((bM X.K H p ys/\∀l,H l=ci->Q (.ref l) (upd H l (.tup ys)))\/(d6 X.K H p ys/\Q (.ref p) H))):=by
 intro U s σ H xs us Q I r h;obtain⟨p,ys,rfl,h⟩:=h;obtain⟨u,rfl,rx⟩:=vals1 r;cases rx;rcases h with⟨hq,q⟩|⟨hq,q⟩
 .obtain⟨ao,r',pl,hz⟩:=I.list hq;have Á:=r'.length;refine call_tuple_list pl.isList (λh' kp=>?_) (by simp<;>lia);have I1:=I.kept (t':=s.toks) kp;have I2:=
   I1.laid (t':=s.toks) (λb o e=>Aj _ e) (Al _) (show br X.prog X.w _ _ _ (.tup ys) from⟨hz,ao,r',IsTup.new _ _,_,An _ rfl,rfl⟩)
  exact⟨.ref h'.objs.size,_,I2,rfl,q _ (I1.ba.fresh (Al _))⟩
 .obtain⟨ao,r',pl,hz⟩:=I.tuple hq;exact call_tuple_same pl ⟨.ref p,H,I,rfl,q⟩
def tyV(K:Ab)(T:String)(x:V)(H:Hp):Prop:=match x with
 |.str _=>T="str"
 |.int _=>T="int"
 |.ref p=>(T="list"/\∃xs,bM K H p xs)\/(T="tuple"/\∃o,K.lookup p=some o/\o.cls=.type "tuple"/\o.dict=ci)\/
   (T="dict"/\((∃kvs,H p=some (.dK kvs))\/∃kvs,H p=some (.dT kvs)))\/(T="set"/\∃S n,H p=some (.set S n))
 |_=>False
def Pj{s:db}{x:V}(I:Inv X U σ H s)(r:RelV x v)(ty:tyV X.K T x H):s.TypeIs v T/\∀a,v=.ref a->∃ob,s.heap.get? a=some ob/\ob.dict=ci:=by
 cases x with
 |str z=>
  obtain⟨t,rfl⟩:=r;cases (ty);exact⟨typeIs_str s z t,λ_ e=>nomatch e⟩
 |int i=>
  obtain⟨t,rfl⟩:=r;cases (ty);exact⟨typeIs_int s i t,λ_ e=>nomatch e⟩
 |ref p=>
  cases r;rcases ty with⟨rfl,xs,hq⟩|⟨rfl,o,hk,hc,hd⟩|⟨rfl,hk⟩|⟨rfl,S,n,hk⟩
  .obtain⟨ao,_,pl,_⟩:=I.list hq;refine⟨pl.isList.typeIs,λa e=>?_⟩;cases e;obtain⟨o,n,e,c,hd,_⟩:=pl;exact⟨o,e,hd⟩
  .refine⟨⟨o,I.w4 p o hk,hc⟩,λa e=>?_⟩;cases e;exact⟨o,I.w4 _ o hk,hd⟩
  .have z:∃o,s.heap.get? p=some o/\o.ExactDict:=by
    rcases hk with⟨kvs,hk⟩|⟨kvs,hk⟩
    .obtain⟨_,_,_,_,o,_,_,e,ex,_⟩:=I.ba p _ hk;exact⟨o,e,ex⟩
    .obtain⟨_,_,_,_,o,_,_,e,ex,_⟩:=I.ba p _ hk;exact⟨o,e,ex⟩
   obtain⟨o,e,ex⟩:=z;refine⟨⟨o,e,ex.1⟩,λa e2=>?_⟩;cases e2;exact⟨o,e,ex.2.1⟩
  .obtain⟨o,_,_,_,e,ex,_⟩:=I.ba p _ hk;refine⟨⟨o,e,ex.1⟩,λa e2=>?_⟩;cases e2;exact⟨o,e,ex.2.1⟩
 |_=>exact B3 ty
def acD(K:Ab)(T:String)(r:V->O V->Hp->VK->Prop)(to:TE):TE:=λσ H Q=>to σ H λx H1=>tyV K T x H1/\r x [] H1 Q
def tBM(K:Ab)(T:String)(r:V->O V->Hp->VK->Prop)(to:TE)(t:TA):TE:=λσ H Q=>to σ H λx H1=>tyV K T x H1/\t σ H1 λxs H2=>r x xs H2 Q
variable{o e:nw}{es:O nw}{to:TE}{t:TA}{name:Str}{À a9:Pos}{T id:String}{r:V->O V->Hp->VK->Prop}
def Zn(pa:PlainAttrs T)(slot:Slot T name id)(à:typeOf (.builtin id)=pure (.type "method_descriptor"))(hm:MtR X id r)(ho:PE X o to)(cH:‹pr o name X.env (pc o X.env)=pc o X.env›)(cG:‹MR À a9›):PE X (.Call (.Attribute o name À) [] [] a9) (acD X.K T r to):=by
 intro U s σ H Q I h;refine wpAny_Call_method0_late cH cG (bE (ho U s σ H _ I h) λv s1 ⟨x,H1,I1,r1,ty,q1⟩=>?_);obtain⟨h1,h2⟩:=Pj I1 r1 ty;exact⟨T,id,pa,slot,à,h1,h2,DE rfl (PySem.evalArgs_none (hm U s1 σ H1 x [] v [] Q I1 r1 .nil q1))⟩
def adh(pa:PlainAttrs T)(slot:Slot T name id)(à:typeOf (.builtin id)=pure (.type "method_descriptor"))(hm:MtR X id r)(ho:PE X o to)(ha:PA X (e::es) t)(cH:‹pr o name X.env (pc o X.env)=pc o X.env›)(jH:‹WK X a9 (e::es)›)(cG:‹MR À a9›)(hs:‹gb X e es›)(cg:‹km X a9 es›):PE X (.Call (.Attribute o name À) (e::es) [] a9) (tBM X.K T r to t):=by
 intro U s σ H Q I h;refine wpAny_Call_method_late cH jH cG rfl (bE (ho U s σ H _ I h) λv s1 ⟨x,H1,I1,r1,ty,q1⟩=>?_);obtain⟨h1,h2⟩:=Pj I1 r1 ty;refine⟨T,id,pa,slot,à,h1,h2,?_⟩;have hA:=ha a9 U s1 σ H1 _ I1 q1;rw[hs]at hA ⊢;exact DE (by show(false||(t0 a9 (gt es X.env)).any (·.1))=false;rw[cg]<;>rfl) (FX (bE hA λus s2 ⟨vs,H2,I2,r2,q2⟩=>hm U s2 σ H2 x vs v us Q I2 r1 r2 q2))
end
def Lj(X:Cx)(id:String)(r:V->O V->Hp->VK->Prop):Prop:=
 ∀(U:O (f8×Obj)) (s:db) (σ:St) (H:Hp) (x:V) (xs:O V) (v:cr) (us:O cr) (Q:VK),Inv X U σ H s->RelV x v->Vals xs us->r x xs H Q->
  gl (im X.prog X.w) X.A (call (.builtin id) (v::us)) (EP X U σ Q) X.xe s
def Vals.one:∀{x:V}{us:O cr},Vals [x] us->∃u,us=[u]/\RelV x u
 |_,_,.cons r .nil=>⟨_,rfl,r⟩
def Vals.zero:∀{us:O cr},Vals [] us->us=[]
 |_,.nil=>rfl
def Vals.dropLast(h:Vals xs us):Vals xs.dropLast us.dropLast:=by
 induction h with
 |nil=>exact .nil
 |cons r t ih=>
  cases t with
  |nil=>exact .nil
  |cons q t'=>exact .cons r ih
theorem Vals.eraseIdx:∀{xs:O V}{us:O cr} (i:Nat),Vals xs us->Vals (xs.eraseIdx i) (us.eraseIdx i)
 |_,_,_,.nil=>.nil
 |_,_,0,.cons _ t=>t
 |_,_,i+1,.cons r t=>.cons r (Vals.eraseIdx i t)
theorem Vals.rep(h:Vals xs us):∀k:Nat,Vals (Ap k xs).flatten (Ap k us).flatten
 |0=>.nil
 |k+1=>by
  exact Vals.append h (Vals.rep h k)
theorem Ky(l:List α):l.eraseIdx (l.length-1)=l.dropLast:=by
 induction l with
 |nil=>rfl
 |cons a r ih=>
  cases r with
  |nil=>rfl
  |cons b r=>
   have e:(a::b::r).length-1=((b::r).length-1)+1:=by
    have h1:(a::b::r).length=r.length+2:=rfl;have h2:(b::r).length=r.length+1:=rfl;lia
   rw[e,DA,ih]
   all_goals rfl
theorem wY:∀(l:List α) (i:Nat),(l.eraseIdx i).length<=l.length
 |[],_=>Al _
 |_::_,0=>Ed _
 |_::r,i+1=>Nat.succ_le_succ (wY r i)
theorem foldl_rep(ao:O cr):∀(k:Nat) (acc:O cr),List.foldl (λx1 x2=>x1++x2) acc.toArray (Ap k ao.toArray)=(acc++(Ap k ao).flatten).toArray
 |0,acc=>by simp
 |k+1,acc=>by
  have e:acc.toArray++ao.toArray=(acc++ao).toArray:=by simp
  have e2:(acc++ao)++(Ap k ao).flatten=acc++(Ap (k+1) ao).flatten:=by
   rw[Di,EY,AG]
  rw[<- e2,<- foldl_rep ao k (acc++ao),<- e,Di,Ds]
section
variable{s:db}{l:f8}
def Inv.JV{f:Array cr->Array cr}{t':Nat}(I:Inv X U σ H s)(hH:H l=some (.lst xs))(e:s.heap.get? l=some {cls:=.type "list",data:=.seq ao.toArray n})(hf:f ao.toArray=eD.toArray)(hv:Vals ys eD)(hz:ys.length<=sizeLine):Inv X U σ (upd H l (.lst ys)) {s with heap:=s.heap.update l (BH f),toks:=t'}:=by
 have q:=PySem.IsL.update e f;rw[hf]at q;refine I.write (by rw[hH];exact trivial) (.inl rfl) (λb' u hb hu=>(BZ s.heap (BH f) (Bt hb)).trans hu) ⟨_,q⟩ ?_;exact⟨hz,eD,_,hv,q⟩
def Inv.ZO{t':Nat}(I:Inv X U σ H s)(hv:Vals ys ao)(hz:ys.length<=sizeLine):Inv X U σ (upd H s.heap.objs.size (.lst ys)) {s with heap:=s.heap.push {cls:=.type "list",data:=.seq ao.toArray},toks:=t'}:=
 I.laid (λ_ _ q=>Aj _ q) (Al _) ⟨hz,ao,0,hv,An _ rfl⟩
def Inv.fresh(I:Inv X U σ H s):H s.heap.objs.size=ci:=I.ba.fresh (Al _)
def Inv.rH(I:Inv X U σ H s)(hH:H l=some (.lst xs)):xs.length<=sizeLine/\∃(ao:O cr) (n:Nat),Vals xs ao/\xs.length=ao.length/\s.heap.get? l=some {cls:=.type "list",data:=.seq ao.toArray n}:=by
 obtain⟨z,ao,n,r,e⟩:=I.ba l _ hH;exact⟨z,ao,n,r,r.length,e⟩
theorem oB(h:n<=sizeLine):Builtin.List.listTooLong n=false:=by
 exact decide_eq_false ∅
end
section
def UJ:V->O V->Hp->VK->Prop:=λx vs H Q=>∃l xs y,x=.ref l/\vs=[y]/\H l=some (.lst xs)/\xs.length<sizeLine/\Q .aB (upd H l (.lst (xs++[y])))
theorem Nw:Lj X "list.append" UJ:=by
 intro U s σ H x vs v us Q I rx rv h;obtain⟨l,xs,y,rfl,rfl,hH,hz,q⟩:=h;cases rx;obtain⟨u,rfl,ru⟩:=rv.one;obtain⟨z,ao,n,r,hl,e⟩:=I.rH hH;refine v4 F.slot_list_append ⟨_,e,rfl⟩ F.entry_list_append (F.args_list_append_2 _ _) (PySem.list_append l ao.toArray n u (by rw[Am];lia)) ⟨e,?_⟩;refine⟨.aB,_,I.JV hH e (by simp) (r.append (.cons ru .nil)) ?_,rfl,q⟩;rw[Ak,FQ];lia
def UH:V->O V->Hp->VK->Prop:=λx vs H Q=>∃l b xs zs,x=.ref l/\vs=[.ref b]/\H l=some (.lst xs)/\H b=some (.lst zs)/\xs.length+zs.length<=sizeLine/\Q .aB (upd H l (.lst (xs++zs)))
theorem abz:Lj X "list.extend" UH:=by
 intro U s σ H x vs v us Q I rx rv h;obtain⟨l,b,xs,zs,rfl,rfl,hH,hB,hz,q⟩:=h;cases rx;obtain⟨u,rfl,ru⟩:=rv.one;cases ru;obtain⟨z,ao,n,r,hl,e⟩:=I.rH hH;obtain⟨z2,cq,n2,r2,Tv,e2⟩:=I.rH hB;have hsz:ao.toArray.size+cq.toArray.size<=sizeLine:=by rw[Am,Am];lia
 have uw:¬(!ao.toArray.isEmpty&&Builtin.List.listTooLong (ao.toArray.size+cq.toArray.size))=true:=by
  rw[oB hsz,DN];exact AV
 refine v4 EE ⟨_,e,rfl⟩ Ej (D9 _ _)
  (AutoSeq1.list_extend_list_list_0 l ao.toArray n b cq.toArray n2 uw (by rw[Am];lia) ∅) ⟨e,e2,?_⟩
 refine⟨.aB,_,I.JV hH e (by simp) (r.append r2) ?_,rfl,q⟩;rw[Ak];lia
def ahu:V->O V->Hp->VK->Prop:=λx vs H Q=>∃l xs y,x=.ref l/\vs=[]/\H l=some (.lst xs)/\xs[xs.length-1]?=some y/\Q y (upd H l (.lst xs.dropLast))
theorem ZI:Lj X "list.pop" ahu:=by
 intro U s σ H x vs v us Q I rx rv h;obtain⟨l,xs,y,rfl,rfl,hH,hy,q⟩:=h;cases rx;have hus:=rv.zero;subst hus;obtain⟨z,ao,n,r,hl,e⟩:=I.rH hH;obtain⟨u,hu,ru⟩:=r.get hy;have hy':ao.toArray[ao.toArray.size-1]?=some u:=by
  show ao.toArray[ao.length-1]?=some u;rw[<- C2,<- hl];exact hu
 refine v4 F.slot_list_pop ⟨_,e,rfl⟩ F.entry_list_pop (F.args_list_pop_1 _) (MeetsSeq.list_pop_last l ao.toArray n u hy' (by rw[Am];lia)) ⟨e,?_⟩;refine⟨y,_,I.JV hH e ?_ r.dropLast ?_,ru,q⟩
 .rw[Am,DR,Ky]
 .rw[List.length_dropLast];lia
def Zc:V->O V->Hp->VK->Prop:=λx vs H Q=>∃l xs i k y,x=.ref l/\vs=[.int i]/\H l=some (.lst xs)/\-(2 ^ 63)<=i/\i<2 ^ 63/\seqIndex? i xs.length=some k/\xs[k]?=some y/\Q y (upd H l (.lst (xs.eraseIdx k)))
theorem Hr:Lj X "list.pop" Zc:=by
 intro U s σ H x vs v us Q I rx rv h;obtain⟨l,xs,i,k,y,rfl,rfl,hH,h1,h2,hk,hy,q⟩:=h;cases rx;obtain⟨u,rfl,ru⟩:=rv.one;obtain⟨t,rfl⟩:=ru;obtain⟨z,ao,n,r,hl,e⟩:=I.rH hH;obtain⟨w,hw,xX⟩:=r.get hy;refine v4 F.slot_list_pop ⟨_,e,rfl⟩ F.entry_list_pop (F.args_list_pop_2 _ _)
  (MeetsSeq.list_pop_at l ao.toArray n i t k w (fitsIndex_both h1 h2) (by rw[Am,<- hl];exact hk) (by rw[<- C2];exact hw) (by rw[Am];lia)) ⟨e,?_⟩
 refine⟨y,_,I.JV hH e ?_ (r.eraseIdx k) ?_,xX,q⟩
 .rw[DR]
 .have:=wY xs k;lia
def ahw:R2:=λx y H Q=>∃l b xs zs,x=.ref l/\y=.ref b/\H l=some (.lst xs)/\H b=some (.lst zs)/\xs.length+zs.length<=sizeLine/\∀p,H p=ci->Q (.ref p) (upd H p (.lst (xs++zs)))
theorem Zx:iK X (wf .Add) ahw:=by
 intro U s σ H x y v u Q I rx ry h;obtain⟨l,b,xs,zs,rfl,rfl,hH,hB,hz,q⟩:=h;cases rx;cases ry;obtain⟨z,ao,n,r,hl,e⟩:=I.rH hH;obtain⟨z2,cq,n2,r2,Tv,e2⟩:=I.rH hB;refine PySem.P.add_list e e2 ?_ (by rw[Am,Am];lia);have ea:ao.toArray++cq.toArray=(ao++cq).toArray:=by simp
 rw[ea];exact⟨.ref _,_,I.ZO (r.append r2) (by rw[Ak];lia),rfl,q _ I.fresh⟩
def aht:R2:=λx y H Q=>∃l k xs,x=.ref l/\y=.int k/\H l=some (.lst xs)/\-(2 ^ 63)<=k/\k<2 ^ 63/\xs.length*k.toNat<=sizeLine/\
 ∀p,H p=ci->Q (.ref p) (upd H p (.lst (Ap k.toNat xs).flatten))
def len_rep(xs:List α)(k:Nat):(Ap k xs).flatten.length=k*xs.length:=by
 induction k with
 |zero=>simp
 |succ k ih=>rw[Di,EY,Ak,ih,Gh,Nat.add_comm]
theorem Zs:iK X (wf .Mult) aht:=by
 intro U s σ H x y v u Q I rx ry h;obtain⟨l,k,xs,rfl,rfl,hH,h1,h2,hz,q⟩:=h;cases rx;obtain⟨t,rfl⟩:=ry;obtain⟨z,ao,n,r,hl,e⟩:=I.rH hH;have Á:ao.toArray.size*k.toNat<=sizeLine:=by rw[Am,<- hl];exact hz
 have aiH:¬ao.toArray.size*k.toNat > (2 ^ 63-1) / 8:=by
  have:(sizeLine:Nat)<=(2 ^ 63-1) / 8:=by decide
  lia
 have aiA:¬(!Builtin.List.listFitsIndex k)=true:=by
  rw[fitsIndex_both h1 h2];exact AV
 have uw:¬Builtin.List.listTooLong (ao.toArray.size*k.toNat)=true:=by
  rw[oB Á];exact AV
 have HQ:List.foldl (λx1 x2=>x1++x2) #[] (Ap (if ao.toArray.isEmpty=true then 0 else k.toNat) ao.toArray)=(Ap k.toNat ao).flatten.toArray:=by
  have f0:∀m:Nat,List.foldl (λx1 x2=>x1++x2) #[] (Ap m ao.toArray)=(Ap m ao).flatten.toArray:=λm=>by
   have:=foldl_rep ao m [];exact this
  rw[f0];cases ao with
  |nil=>simp
  |cons a r'=>rw[if_neg (by simp)]
 refine wpAny_binaryOp_repeat_ref (T:="list") ⋯ ⟨_,e,rfl⟩ (λs'=>typeIs_int s' k t) noFill_list_mul F.fills_int_mul F.slot_int_rmul repeat_list F.slot_int_index.lookup
  (v4 F.slot_int_rmul (typeIs_int s k t) F.entry_int_rmul (F.args_int_rmul_2 _ _) (int___rmul___int_list k t l ao.toArray n)
   ⟨e,rfl,⟨_,e,rfl⟩,v4 F.slot_list_mul ⟨_,e,rfl⟩ F.entry_list_mul (F.args_list_mul_2 _ _) (AutoListH.list___mul___list_int_3 l ao.toArray n k t aiA aiH uw) ⟨e,?_⟩⟩)
 rw[HQ];exact⟨.ref _,_,I.ZO (r.rep k.toNat) (by rw[len_rep,Nat.mul_comm];exact hz),rfl,q _ I.fresh⟩
end
end L2
variable{xs:O (O L2.Key×Bf×Bg)}{o:Option L2.V}{v d:L2.V}{kvs:O (O L2.Key×L2.V)}{env:PySem.Env}{Ã:BF}{xO a9:Cn}
namespace L2
section
variable{κ:Type}[DecidableEq κ]
def iq(kvs:O (κ×V))(k:κ):Option V:=(kvs.find? λkv=>decide (kv.1=k)).map (·.2)
def putK(kvs:O (κ×V))(k:κ)(v:V):O (κ×V):=
 if (kvs.any λkv=>decide (kv.1=k))=true then kvs.map (λkv=>if kv.1=k then (kv.1,v) else kv) else kvs++[(k,v)]
def ku{p:κ×V}{r:O (κ×V)}{k:κ}(e:p.1=k):iq (p::r) k=some p.2:=by simp[iq,e]
def kx{p:κ×V}{r:O (κ×V)}{k:κ}(e:¬p.1=k):iq (p::r) k=iq r k:=by simp[iq,e]
theorem nU(k:κ):∀kvs:O (κ×V),(kvs.any λkv=>decide (kv.1=k))=(iq kvs k).isSome
 |[]=>rfl
 |p::r=>by
  rw[Cj];by_cases e:p.1=k
  .simp only[ku e,decide_eq_true e,Bool.true_or,Gb]
  .rw[kx e,decide_eq_false e,Bool.false_or];exact nU k r
theorem qP(kvs:O (κ×V))(k:κ)(v:V):(putK kvs k v).length<=kvs.length+1:=by
 unfold putK
 split
 .rw[Ai];lia
 .rw[Ak,Ax,Ei];lia
def qH.iZ{u:Option cr}(r:qH o u):o.isSome=u.isSome:=by
 cases o with
 |none=>cases u with
  |none=>rfl
  |some _=>exact(r).elim
 |some _=>cases u with
  |none=>exact(show False from r).elim
  |some _=>rfl
def qH.getD{u:Option cr}{d':cr}(r:qH o u)(rd:RelV d d'):RelV (o.getD d) (u.getD d'):=by
 cases o with
 |none=>cases u with
  |none=>exact rd
  |some _=>exact(r).elim
 |some _=>cases u with
  |none=>exact(show False from r).elim
  |some _=>exact r
def KV.val{kvs:O (κ×V)}{vs:O (κ×cr)}(r:KV kvs vs)(k:κ):qH (iq kvs k) (valueAt vs k):=by
 unfold KV at r
 induction r with
 |nil=>exact Cb
 | @cons p q ps qs h t ih=>
  obtain⟨h1,h2⟩:=h;by_cases e:p.1=k
  .have e':q.1=k:=h1.symm.trans e;have b:valueAt (q::qs) k=some q.2:=by simp[valueAt,BK,e']
   rw[ku e,b];exact h2
  .have e':¬q.1=k:=λz=>e (h1.trans z);have b:valueAt (q::qs) k=valueAt qs k:=by simp[valueAt,BK,e']
   rw[kx e,b];exact ih
def KV.any{kvs:O (κ×V)}{vs:O (κ×cr)}(r:KV kvs vs)(k:κ):(kvs.any λkv=>decide (kv.1=k))=vs.any λkv=>decide (kv.1=k):=by
 induction r with
 |nil=>rfl
 |cons h t ih=>rw[Cj,Cj,ih,h.1]
def KV.Y0{kvs:O (κ×V)}{vs:O (κ×cr)}(r:KV kvs vs)(k:κ)(ry:RelV y u):KV (kvs.map λkv=>if kv.1=k then (kv.1,y) else kv) (vs.map λkv=>if kv.1=k then (kv.1,u) else kv):=by
 induction r with
 |nil=>exact .nil
 | @cons p q ps qs h t ih=>
  rw[Ar,Ar];refine .cons ?_ ih;obtain⟨h1,h2⟩:=h;by_cases e:p.1=k
  .rw[if_pos e,if_pos (h1.symm.trans e)];exact⟨h1,ry⟩
  .rw[if_neg e,if_neg (λz=>e (h1.trans z))];exact⟨h1,h2⟩
def KV.put{kvs:O (κ×V)}{vs:O (κ×cr)}(r:KV kvs vs)(k:κ)(ry:RelV y u):KV (putK kvs k y) (stored vs k u):=by
 unfold putK stored;rw[r.any k];by_cases e:(vs.any λkv=>decide (kv.1=k))=true
 .rw[if_pos e,if_pos e];exact r.Y0 k ry
 .rw[if_neg e,if_neg e];exact Paired.snoc r ⟨rfl,ry⟩
def KV.length{kvs:O (κ×V)}{vs:O (κ×cr)}(r:KV kvs vs):kvs.length=vs.length:=Paired.length r
end
def um{k:Key}(r:RelV (kV k) u):(bo P w).is k u=true:=by
 cases k with
 |inl i=>obtain⟨t,e⟩:=(r);subst e;exact Hu P w i t
 |inr x=>obtain⟨t,e⟩:=(r);subst e;exact Ht P w x t
theorem w5:∀{ks:O Key}{us:O cr},Vals (ks.map kV) us->ItemsAre (bo P w) ks us
 |[],_,r=>by rw[CW]at r;cases r;exact .nil
 |k::ks,_,r=>by
  cases r with
  |cons h t=>exact .cons (um h) (w5 t)
abbrev KT(H:Hp):O (O Key×V)->O (O Key×f8×cr)->Prop:=Paired λp q=>p.1=q.1/\H q.2.1=some (.tup (p.1.map kV))/\RelV p.2 q.2.2
def KT.val(r:KT H kvs xs)(k:O Key):qH (iq kvs k) ((atKey xs k).map (·.2)):=by
 induction r with
 |nil=>exact Cb
 | @cons p q ps qs h t ih=>
  obtain⟨h1,_,h2⟩:=h;by_cases e:p.1=k
  .have e':=h1.symm.trans e;have b:atKey (q::qs) k=some q.2:=by simp[atKey,BK,e']
   rw[ku e,b];exact h2
  .have e':¬q.1=k:=λz=>e (h1.trans z);have b:atKey (q::qs) k=atKey qs k:=by simp[atKey,BK,e']
   rw[kx e,b];exact ih
def KT.Y0(r:KT H kvs xs)(k:O Key)(ry:RelV y u):KT H (kvs.map λkv=>if kv.1=k then (kv.1,y) else kv) (xs.map (putAt k u)):=by
 induction r with
 |nil=>exact .nil
 | @cons p q ps qs h t ih=>
  rw[Ar,Ar];refine .cons ?_ ih;obtain⟨h1,h2,h3⟩:=h;unfold putAt;by_cases e:p.1=k
  .rw[if_pos e,if_pos (h1.symm.trans e)];exact⟨h1,h2,ry⟩
  .rw[if_neg e,if_neg (λz=>e (h1.trans z))];exact⟨h1,h2,h3⟩
def KT.put(r:KT H kvs xs)(k:O Key)(hb:H b=some (.tup (k.map kV)))(ry:RelV y u):KT H (putK kvs k y) (Pv xs k b u):=by
 have e:(kvs.any λkv=>decide (kv.1=k))=(atKey xs k).isSome:=by
  rw[nU,(r.val k).iZ,EW]
 unfold putK Pv;rw[e];by_cases q:(atKey xs k).isSome=true
 .rw[if_pos q,if_pos q];exact r.Y0 k ry
 .rw[if_neg q,if_neg q];exact Paired.snoc r ⟨rfl,hb,ry⟩
def KT.keeps(r:KT H kvs xs)(ht:∀b ys,H b=some (.tup ys)->H' b=some (.tup ys)):KT H' kvs xs:=
 Paired.ZJ r λ_ _ z=>⟨z.1,ht _ _ z.2.1,z.2.2⟩
section
def W9{u:HO}(ok:md P w H h)(e:Rd H a u):br P w H h a u:=e.ok ok
def mM{kvs:O (Key×V)}(ok:md P w H h)(e:Rd H a (.dK kvs)):kvs.length<=sizeLine/\(a==u8)=false/\∃vs,KV kvs vs/\h.DictOf (bo P w) a vs:=
 show br P w H h a (.dK kvs) from W9 ok e
def aeX{kvs:O (Key×V)}(ok:md P w H h)(e:H a=some (.dK kvs)):kvs.length<=sizeLine/\(a==u8)=false/\∃vs,KV kvs vs/\h.DictOf (bo P w) a vs:=mM ok (.inl e)
def nj{ks:O Key}(ok:md P w H h)(e:H a=some (.tup (ks.map kV))):(tz (bo P w)).is h ks a:=by
 obtain⟨_,ao,r,⟨o,h1,h2,n,h3⟩,_⟩:=(show br P w H h a (.tup (ks.map kV)) from ok a _ e);exact⟨o,ao.toArray,n,h1,h2,h3,by simpa using w5 r⟩
def mL(ok:md P w H h)(e:Rd H a (.dT kvs)):kvs.length<=sizeLine/\(a==u8)=false/\ ∃xs,KT H kvs xs/\h.DictOfH (tz (bo P w)) a xs:=by
 obtain⟨z,y,xs,r,o,es,ep,h1,h2,h3,h4,h5⟩:=(W9 ok e);refine⟨z,y,xs,r,o,es,ep,h1,h2,h3,h4,λx hx=>?_,h5⟩;have all:∀{l:O (O Key×V)}{m:O (O Key×f8×cr)},KT H l m->∀x∈m,(tz (bo P w)).is h x.1 x.2.1:=by
  intro l m q
  induction q with
  |nil=>intro x hx;exact nomatch hx
  | @cons p q ps qs hq t ih=>
   intro x hx;rcases Ay.mp hx with e|hx
   .subst e;exact nj ok (by rw[<- hq.1];exact hq.2.1)
   .exact ih x hx
 exact all r x hx
def aeW(ok:md P w H h)(e:H a=some (.dT kvs)):kvs.length<=sizeLine/\(a==u8)=false/\ ∃xs,KT H kvs xs/\h.DictOfH (tz (bo P w)) a xs:=mL ok (.inl e)
end
def lF(H:Hp)(a:f8)(y:V)(r:Option V):Prop:=
 (∃kvs k,Rd H a (.dK kvs)/\y=kV k/\r=iq kvs k)\/∃kvs k b,Rd H a (.dT kvs)/\y=.ref b/\H b=some (.tup (k.map kV))/\r=iq kvs k
def OS(H:Hp)(a:f8)(y v:V)(H':Hp):Prop:=
 (∃kvs k,H a=some (.dK kvs)/\y=kV k/\kvs.length<sizeLine/\H'=upd H a (.dK (putK kvs k v)))\/
 ∃kvs k b,H a=some (.dT kvs)/\y=.ref b/\H b=some (.tup (k.map kV))/\kvs.length<sizeLine/\H'=upd H a (.dT (putK kvs k v))
theorem lF.k{kvs:O (Key×V)}{k:Key}(e:H a=some (.dK kvs)):lF H a (kV k) (iq kvs k):=.inl ⟨kvs,k,.inl e,rfl,rfl⟩
theorem OS.k{kvs:O (Key×V)}{k:Key}(e:H a=some (.dK kvs))(hl:kvs.length<sizeLine):OS H a (kV k) v (upd H a (.dK (putK kvs k v))):=.inl ⟨kvs,k,e,rfl,hl,rfl⟩
section
variable{s:db}{r:cr}
def Inv.big(I:Inv X U σ H s):u8<s.heap.objs.size:=by
 exact Nat.lt_trans ⋯ ((I.mod.glob.keeps I.bk).lt)
def OA(hu:A.units+1<sn)(I:Inv X U σ H s)(g:lF H a y (some v))(ry:RelV y u)(h:∀w' s',Inv X U σ H s'->RelV v w'->Q w' s'):gl (im X.prog X.w) A (getItem (.ref a) u) Q E s:=by
 rcases g with⟨kvs,k,e,ey,l⟩|⟨kvs,k,b,e,ey,eb,l⟩
 .subst ey;obtain⟨z,hd,vs,rel,dd⟩:=mM I.ba e;obtain⟨w',hw,xX⟩:=qH.some_of (v:=v) (o:=valueAt vs k) (by rw[l];exact rel.val k);exact wpAny_getItem_of (um ry) dd.mapOf hw (h w' _ (I.tok _) xX)
 .subst ey;cases (show u=Aw b from ry);obtain⟨z,hd,xs,rel,dd⟩:=mL I.ba e;obtain⟨w',hw,xX⟩:=qH.some_of (v:=v) (o:=(atKey xs k).map (·.2)) (by rw[l];exact rel.val k);obtain⟨p,hp,vM⟩:=Fo.mp hw;refine wpAny_getItem_heap (xL hu) (nj I.ba eb) dd hp ?_;rw[vM];exact h w' _ (I.tok _) xX
def ai9(hu:A.units+1<sn)(I:Inv X U σ H s)(g:lF H a y o)(ry:RelV y u)(h:∀s',Inv X U σ H s'->Q (.bool o.isSome) s'):gl (im X.prog X.w) A (ss .In u (.ref a)) Q E s:=by
 rcases g with⟨kvs,k,e,ey,l⟩|⟨kvs,k,b,e,ey,eb,l⟩
 .subst ey;obtain⟨z,hd,vs,rel,dd⟩:=mM I.ba e;refine wpAny_in_of (um ry) hd dd.mapOf ?_;rw[<- (rel.val k).iZ,<- l];exact h _ (I.tok _)
 .subst ey;cases (show u=Aw b from ry);obtain⟨z,hd,xs,rel,dd⟩:=mL I.ba e;refine wpAny_in_heap (xL hu) (nj I.ba eb) hd dd ?_;have q:=(rel.val k).iZ;rw[EW]at q;rw[<- q,<- l];exact h _ (I.tok _)
def Wo(hu:A.units+1<sn)(I:Inv X U σ H s)(g:lF H a y o)(ry:RelV y u)(h:∀s',Inv X U σ H s'->Q (.bool (!o.isSome)) s'):gl (im X.prog X.w) A (ss .NotIn u (.ref a)) Q E s:=by
 rcases g with⟨kvs,k,e,ey,l⟩|⟨kvs,k,b,e,ey,eb,l⟩
 .subst ey;obtain⟨z,hd,vs,rel,dd⟩:=mM I.ba e;refine wpAny_notIn_of (um ry) hd dd.mapOf ?_;rw[<- (rel.val k).iZ,<- l];exact h _ (I.tok _)
 .subst ey;cases (ry);obtain⟨z,hd,xs,rel,dd⟩:=mL I.ba e;refine wpAny_notIn_heap (xL hu) (nj I.ba eb) hd dd ?_;have q:=(rel.val k).iZ;rw[EW]at q;rw[<- q,<- l];exact h _ (I.tok _)
def MB{t':Nat}{ob:HO}(I:Inv X U σ H s)(mu:Mut (H a))(hs:B0 a s.heap h')(he:∃q,h'.get? a=some q)(new:br X.prog X.w (upd H a ob) h' a ob):Inv X U σ (upd H a ob) {s with heap:=h',toks:=t'}:=
 I.write (x:=a) (e:=a) mu (.inl rfl) (λb q hb z=>(hs.2 b hb).trans z) he new
def aa5{kvs:O (Key×V)}{vs:O (Key×cr)}(z:kvs.length<=sizeLine)(hd:(a==u8)=false)(rel:KV kvs vs)(dd:h'.DictOf (bo P w) a vs):br P w H' h' a (.dK kvs):=⟨z,hd,vs,rel,dd⟩
theorem Oz{Q:Unit->db->Prop}(hu:A.units+1<sn)(I:Inv X U σ H s)(g:OS H a y v H')(ry:RelV y u)(rv:RelV v r)(h:∀s',Inv X U σ H' s'->Q () s'):gl (im X.prog X.w) A (setItem (.ref a) u r) Q E s:=by
 rcases g with⟨kvs,k,e,ey,l,eH⟩|⟨kvs,k,b,e,ey,eb,l,eH⟩
 .subst ey eH;obtain⟨z,hd,vs,rel,dd⟩:=aeX I.ba e;have hz:vs.length<=sizeLine:=by rw[<- rel.length];exact z
  have hl:(putK kvs k v).length<=sizeLine:=by have:=qP kvs k v;lia
  refine wpAny_setItem_pairs (hsz:=hz) (um ry) dd λh' į hs=>h _ ?_;have he:∃q,h'.get? a=some q:=let ⟨q,_,_,hq,_⟩:=į;⟨q,hq⟩;exact MB I (by rw[e];exact Cb) hs he (aa5 hl hd (rel.put k rv) į)
 .subst ey eH;cases (show u=Aw b from ry);obtain⟨z,hd,xs,rel,dd⟩:=aeW I.ba e;have hz:xs.length<=sizeLine:=by rw[<- Paired.length rel];exact z
  have hl:(putK kvs k v).length<=sizeLine:=by have:=qP kvs k v;lia
  refine wpAny_setItem_heap (hsz:=hz) (xL hu) (nj I.ba eb) dd λh' į hs=>h _ ?_;obtain⟨q,es,ep,hq,h2,h3,h4,_,h5⟩:=į;refine MB I (by rw[e];exact Cb) hs ⟨q,hq⟩ ⟨hl,hd,_,(rel.put k eb rv).keeps λc ys ec=>?_,q,es,ep,hq,h2,h3,h4,h5⟩;rw[aj (Hq ec e (λz=>nomatch z))];exact ec
end
def abm(i:nw):Prop:=∀ov iv,subscripted i false ov iv=operate [ov,iv] (getItem ov iv)
def Uc{s:db}{Å:nw}{id:String}(hl:xz (.type T) "__getitem__"=pure (some (.builtin id)))(hs:abm Å)(h:gl (im prog w) A (pc Ã env) (λo s₁=>gl (im prog w) A (pc Å env) (λi s₂=>s₂.TypeIs o T/\gl (im prog w) A (getItem o i) Q E s₂) E s₁) E s):gl (im prog w) A (pc (.Subscript Ã Å pos) env) Q E s:=by
 refine Subscript_ (BM h (λo s₁ h₁=>BM h₁ (λi s₂ h₂=>?_) λ_ _ x=>x) λ_ _ x=>x);obtain⟨hT,h₂⟩:=h₂;refine Aa ?_;refine Aa (Fz hT hl ?_);have fin:gl (im prog w) A (subscripted Å false o i) (λr s₃=>gl (im prog w) A (letTemporaryGo Ã o r >>= λ_=>pure r) Q E s₃) E s₂:=by
  rw[hs o i];exact wpAny_operating (BM h₂ (λr s₃ h₃=>Aa (wpAny_letTemporaryGo (Af h₃))) λ_ _ x=>x)
 first
  |exact Af (Aa fin)
  |exact Aa (Af (Aa fin))
  |exact Aa fin
def Iy{s:db}(I:Inv X U σ H s)(g:lF H a y o):s.TypeIs (.ref a) "dict":=by
 rcases g with⟨kvs,k,e,_,_⟩|⟨kvs,k,b,e,_,_,_⟩
 .obtain⟨_,_,vs,_,dd⟩:=mM I.ba e;exact dd.typeIs
 .obtain⟨_,_,xs,_,dd⟩:=mL I.ba e;exact dd.typeIs
def acA(td ty:TE):TE:=λσ H Q=>td σ H λx H1=>ty σ H1 λy H2=>∃a v,x=.ref a/\lF H2 a y (some v)/\Q v H2
def ag0(ty td:TE):TE:=λσ H Q=>ty σ H λy H1=>td σ H1 λx H2=>∃a o,x=.ref a/\lF H2 a y o/\Q (.bl o.isSome) H2
def T9(ty td:TE):TE:=λσ H Q=>ty σ H λy H1=>td σ H1 λx H2=>∃a o,x=.ref a/\lF H2 a y o/\Q (.bl (!o.isSome)) H2
def W2(td ty tv:TE):TS:=λD σ H=>tv σ H λv H1=>td σ H1 λx H2=>ty σ H2 λy H3=>∃a H4,x=.ref a/\OS H3 a y v H4/\D.nx σ H4
section
variable{o i:nw}{td ty tv:TE}
def LY(hu:X.A.units+1<sn)(ho:PE X o td)(hi:PE X i ty)(hs:abm i):PE X (.Subscript o i pos) (acA td ty):=by
 intro U s σ H Q I h;refine Uc PySem.F.slot_dict_getitem.lookup hs (bE (ho U s σ H _ I h) λu s1 ⟨x,H1,I1,rx,q1⟩=>bE (hi U s1 σ H1 _ I1 q1) λiv s2 ⟨y,H2,I2,ry,a,v,ex,g,q2⟩=>?_);subst ex;obtain rfl:u=Aw a:=rx;exact⟨Iy I2 g,OA hu I2 g ry λw' s3 I3 xX=>⟨v,H2,I3,xX,q2⟩⟩
def Zp(hu:X.A.units+1<sn)(hi:PE X i ty)(ho:PE X o td):PC X .In i o (ag0 ty td):=by
 intro U s σ H Q I h;refine bE (hi U s σ H _ I h) λiv s1 ⟨y,H1,I1,ry,q1⟩=>bE (ho U s1 σ H1 _ I1 q1) λu s2 ⟨x,H2,I2,rx,a,ov,ex,g,q2⟩=>?_;subst ex;obtain rfl:u=Aw a:=rx;exact ai9 hu I2 g ry λs3 I3=>⟨.bl ov.isSome,H2,I3,rfl,q2⟩
def Np(hu:X.A.units+1<sn)(hi:PE X i ty)(ho:PE X o td):PC X .NotIn i o (T9 ty td):=by
 intro U s σ H Q I h;refine bE (hi U s σ H _ I h) λiv s1 ⟨y,H1,I1,ry,q1⟩=>bE (ho U s1 σ H1 _ I1 q1) λu s2 ⟨x,H2,I2,rx,a,ov,ex,g,q2⟩=>?_;subst ex;obtain rfl:u=Aw a:=rx;exact Wo hu I2 g ry λs3 I3=>⟨.bl (!ov.isSome),H2,I3,rfl,q2⟩
def LW(hu:X.A.units+1<sn)(ho:PE X o td)(hi:PE X i ty)(hv:PE X Ã tv)(hs:o0 Ã (some (.Subscript o i Ö)) pos.line X.env=pure false):PS X (.Assign [.Subscript o i Ö] Ã pos) (W2 td ty tv):=by
 intro U s σ H D I h;refine wpAny_Assign_Subscript (bE (hv U s σ H _ I h) λr s1 ⟨v,H1,I1,rv,q1⟩=>bE (ho U s1 σ H1 _ I1 q1) λu s2 ⟨x,H2,I2,rx,q2⟩=>bE (hi U s2 σ H2 _ I2 q2) λiv s3 ⟨y,H3,I3,ry,a,H4,ex,g,q3⟩=>?_) hs;subst ex;obtain rfl:u=Aw a:=rx;exact Oz hu I3 g ry rv λs4 I4=>⟨σ,H4,I4,q3⟩
end
def SM(h:re)(hb:u8 < h.objs.size):br P w H (h.push {cls:=.type "dict",data:=.dict #[]}) h.objs.size (.dK []):=
 ⟨Bh _,beq_eq_false_iff_ne.mpr (Bt (AA hb)),[],.nil,Heap.DictOf.new h⟩
def YM:TE:=λ_ H Q=>∀p,H p=ci->Q (.ref p) (upd H p (.dK []))
section
def QN:PE X (.Dict [] [] pos) YM:=λU s σ H Q I h=>
 wpAny_Dict_empty ⟨.ref s.heap.objs.size,_,I.laid (λ_ _ q=>Aj _ q) (Al _) (SM s.heap I.big),rfl,h _ (I.ba.fresh (Al _))⟩
end
def fW(kvs more:O (Key×V)):O (Key×V):=more.foldl (λacc kv=>putK acc kv.1 kv.2) kvs
def KV.merge:∀{more:O (Key×V)}{rs:O (Key×cr)}{kvs:O (Key×V)}{vs:O (Key×cr)},KV more rs->KV kvs vs->KV (fW kvs more) (merged vs rs):=by
 intro more rs kvs vs r
 induction r generalizing kvs vs with
 |nil=>intro q;exact q
 | @cons p q ps qs h t ih=>
  intro r0;have e:KV (putK kvs p.1 p.2) (stored vs q.1 q.2):=by
   have:=r0.put p.1 h.2;rw[<- h.1];exact this
  exact ih e
structure M2(X:Cx)(o:nw)(m:Str)(À:Pos)(e f:nw)(a9:Pos):Prop where
 base:pr o m X.env (pc o X.env)=pc o X.env
 few:((t0 a9 (gt [e,f] X.env)).all (λx=>!x.1)&&(IR a9 (wT [] X.env)).all (λx=>x.1.isSome)
  && decide (([e,f]:List nw).length+([]:List Sc).length+(if ([]:List Sc).isEmpty then 0 else 1)<30))=true
 line:(À.endLine==a9.line)=true
 trees:t0 a9 (gt [e,f] X.env)=[(false,pc e X.env),(false,pc f X.env)]
def IsD(H:Hp)(a:f8):Prop:=(∃kvs,Rd H a (.dK kvs))\/∃kvs,Rd H a (.dT kvs)
def aae{s:db}(I:Inv X U σ H s)(d:IsD H a):s.TypeIs (.ref a) "dict"/\(∀b,Aw a=.ref b->∃ob,s.heap.get? b=some ob/\ob.dict=ci)/\(a==u8)=false:=by
 rcases d with⟨kvs,e⟩|⟨kvs,e⟩
 .obtain⟨_,hd,vs,_,dd⟩:=mM I.ba e;refine⟨dd.typeIs,λb q=>?_,hd⟩;cases q;obtain⟨ob,_,_,h1,h2,_⟩:=dd;exact⟨ob,h1,h2.2.1⟩
 .obtain⟨_,hd,xs,_,dd⟩:=mL I.ba e;refine⟨dd.typeIs,λb q=>?_,hd⟩;cases q;obtain⟨ob,_,_,h1,h2,_⟩:=dd;exact⟨ob,h1,h2.2.1⟩
section
variable{s:db}{r:cr}
def aa9(hu:A.units+1 < sn)(I:Inv X U σ H s)(g:lF H a y o)(ry:RelV y u)(rd:RelV d r)(h:∀w' s',Inv X U σ H s'->RelV (o.getD d) w'->Q w' s'):gl (im X.prog X.w) A (call (.builtin "dict.get") [.ref a,u,r]) Q E s:=by
 rcases g with⟨kvs,k,e,ey,l⟩|⟨kvs,k,b,e,ey,eb,l⟩
 .subst ey;obtain⟨z,hd,vs,rel,dd⟩:=mM I.ba e;refine call_meetsIn DV dd.typeIs Fj (E7 _ _ _) (meets_dict_get_default (bo X.prog X.w) a (um ry) hd r) ⟨_,dd.mapOf,h _ _ (I.tok _) ?_⟩;rw[l];exact(rel.val k).getD rd
 .subst ey;cases (show u=Aw b from ry);obtain⟨z,hd,xs,rel,dd⟩:=mL I.ba e;refine call_meetsIn DV dd.typeIs Fj (E7 _ _ _) (meetsH_dict_get_default (tz (bo X.prog X.w)) a b hd r) ⟨xL hu,k,xs,nj I.ba eb,dd,h _ _ (I.tok _) ?_⟩;rw[l];exact(rel.val k).getD rd
end
def YN(td ty tx:TE):TE:=λσ H Q=>td σ H λx H1=>∃a,x=.ref a/\IsD H1 a/\ty σ H1 λy H2=>tx σ H2 λz H3=>∃o,lF H3 a y o/\Q (o.getD z) H3
section
variable{o f:nw}{td ty tx:TE}
def QQ(hu:X.A.units+1 < sn)(ho:PE X o td)(he:PE X e ty)(hf:PE X f tx)(m:M2 X o "get" À e f a9):PE X (.Call (.Attribute o "get" À) [e,f] [] a9) (YN td ty tx):=by
 intro U s σ H Q I h;refine wpAny_Call_method m.base m.few m.line PySem.F.plainAttrs_dict DV PySem.F.type_dict_get (bE (ho U s σ H _ I h) λu s1 ⟨x,H1,I1,rx,a,ex,d,q1⟩=>?_);subst ex;obtain rfl:u=Aw a:=rx;obtain⟨t1,t2,_⟩:=aae I1 d;refine⟨t1,t2,?_⟩;rw[m.trees];refine DE rfl (FX (Bl (bE (he U s1 σ H1 _ I1 q1) λiv s2 ⟨y,H2,I2,ry,q2⟩=>
  Bl (bE (hf U s2 σ H2 _ I2 q2) λfv s3 ⟨z,H3,I3,rz,ov,g,q3⟩=>BN ?_))))
 exact aa9 hu I3 g ry rz λw' s4 I4 xX=>⟨_,H3,I4,xX,q3⟩
end
end L2
variable{Ó:O B4}{XP:(B4->Option Bg)->Fm->Prop}{YP:PySem.World->Fm->Prop}
namespace Att
open PySem PySem.W PySem.Calls PyProof.Rows
def rN{P:Params}:∀(ns:O Int) (vs:O cr),WellAll P h vs (ns.map WData.int)->EQ vs ns:=by
 intro ns
 induction ns with
 |nil=>
  intro vs w;cases w;exact .nil
 |cons n ns ih=>
  intro vs w;cases w with
  |cons a b=>
   cases a;exact .cons _ _ (ih _ b)
theorem Nb{l:OpenLaw}(hn:l.most=some n){P:Params}{args:O WData}{Ü:O cr}(VP:l.row.toRowW.claim.pre args=true)(ņ:WellAll P h Ü args):∃a vs ns,Ü=[Aw a]/\args=[WData.list (ns.map WData.int)]/\h.get? a=some {cls:=.type "list",data:=.seq vs.toArray}/\EQ vs ns/\ns.length<=n:=by
 have hc:l.pre.holds [] {args:=args}=true:=(pre_splitW VP).2;obtain⟨d,r,rfl,h1,h2⟩:=hasAllW_cons ((pre_splitW VP).1);obtain rfl:=hasAllW_nil h2;obtain⟨xs,rfl,h3⟩:=hasW_list h1;obtain⟨ns,rfl⟩:=items_int h3;have Á:ns.length<=n:=by
  unfold OpenLaw.pre at hc;have h4:(WTm.not (.lt (.lit (.int (n:Int))) (.len (.arg 0)))).holds [] {args:=[.list (ns.map .int)]}=true:=by
   have h4:=(holds_andW hc).1;rw[hn]at h4;exact h4
  have h5:=condW_of h4 (w_not (w_lt w_lit (w_len_list (w_arg rfl))));refine Nat.le_of_not_lt λq=>?_
  first
   |(rw[decide_eq_true q']at h5;exact absurd h5 ⋯)
   |(simp at h5;lia)
 cases ņ with
 |cons w1 w2=>
  cases w2;cases w1 with
  |list ho ũ=>exact⟨_,_,ns,rfl,rfl,ho,rN ns _ ũ,Á⟩
def Nj(l:OpenLaw)(args:O WData):l.row.toRowW.claim.post args (.bool true) args=true:=
 postW_of
  (show WShape.has [] (.bool true) .bool=true by first|rfl|decide|simp[WShape.has,WShape.arms])
  (w_eq_bool (w_res rfl) w_lit) rfl
def IE{l:OpenLaw}{q:PySem.Program}{d:DefRec}(hn:l.most=some n)(Ř:d.params.defaults=[])(call:∀(w:FM) (s₀ s₁:db) (mg mb:Str->Option cr) (fa:f8) (o:Obj) (pm cd Ç:cr) (a:f8) (vs:O cr) (ns:O Int),
   Ground q Ó [] XP w s₀ mg mb s₁.heap->YP w s₁.heap->
   s₁.heap.get? fa=some o->o.data=.func (docDef d.name d.params d.body d.scope pm cd Ç)->s₁.heap.CodeRec cd d.name->mg d.name=some (.ref fa)->
   s₁.heap.get? a=some {cls:=.type "list",data:=.seq vs.toArray}->EQ vs ns->ns.length<=n->s₁.gens=#[]->
   Ix (im l.prog w) callerA (.call (.ref fa) ⟨[.ref a],[]⟩) (λr s'=>r=.ok (.ret (.bool true))/\OldK s₁.heap s'.heap/\s'.os=s₁.os/\SB s'.gens) s₁):WalkO q Ó XP YP l.row.toRowW d [] (λf vs=>PySem.call f vs):=by
 intro w s₀ s₁ mg mb G Y fa o pm cd Ç dV kV ho hd gU hD hmg hg args Ü as VP amv hrd ņ hlo;obtain rfl:dV=.none:=Dflts.none hD Ř;obtain rfl:kV=.none:=Dflts.noKw hD;obtain⟨a,vs,ns,rfl,rfl,ť,Ô,Á⟩:=Nb hn VP ņ;refine enter_call (Rs (call w s₀ s₁ mg mb fa o pm cd Ç a vs ns G Y ho (fd_plain hd) gU hmg ť Ô Á hg) λr s' hq=>?_);obtain⟨rfl,h2,h3,h4⟩:=hq;exact⟨.inl ⟨.bool true,.bool true,[],rfl,λ_=>rfl,.bool true,Nj l _,λ_=>⟨List.Pairwise.nil,λ_ hm=>(nomatch hm)⟩⟩,h2,h3,h4⟩
end Att
namespace L2
theorem pV:∀{vs:O cr}{ns:O Int},EQ vs ns->Vals (ns.map V.int) vs
 |_,_,.nil=>.nil
 |_,_,.cons n t h=>.cons ⟨t,rfl⟩ (pV h)
end L2
variable{k:Nat}{sp:L2.Sp}{B:Prop}
namespace L2
def fq(s:wn):Arguments:=match s with
 |.FunctionDef _ a _ _ _ _ _ _ _ _=>a
 |_=>{posonlyargs:=[],args:=[],vararg:=ci,kwonlyargs:=[],kw_defaults:=[],kwarg:=ci,defaults:=[]}
def cR(s:wn):O wn:=match s with
 |.FunctionDef _ _ b _ _ _ _ _ _ _=>b
 |_=>[]
def aK(s:wn):r9:=match s with
 |.FunctionDef _ _ _ _ _ _ sc _ _ _=>sc
 |_=>{kind:=.function,names:=[],isGenerator:=false,isCoroutine:=false}
abbrev I0:WQ:=λ_ _ _ _ _ _=>False
abbrev E0:XK:=λ_ _ _=>False
def adj:Passes I0 X E0:=λ_ _ _ _ _ _ _ h=>h.elim
structure WM(K:Ab)(x qual:Str)(st:wn)(f:f8)(fd:FuncData):Prop where
 ex:∃(oc:cr) (od:Option f8) (kV Ç pm:cr) (an:Option f8) (fi ct:cr) (Tq:Array (Option cr)),
  fd=Cf x qual (fq st) (cR st) (aK st) .none kV Ç pm an fi ct/\K.lookup f=some ⟨oc,od,.func fd,Tq⟩/\Ey K fi qual=true
 kp:Ex K (.ref f)=true
section
variable{K:Ab}
def WM.ok{st:wn}{f:f8}{N:O Str}(F:WM K x qual st f fd)(S:fu N ps (aK st))(len:∀vs H Q E,sp vs H Q E->vs.length=ps.length)(RS:∀(fi:cr) (A:FB) (outer:O Env) (s:db) (H:Hp) (vs:O V) (Q:VK) (E:XK),dG k (A.deeper (KF qual (aK st) s.heap.objs.size f fi))->sp vs H Q E->
   ∃t,pN (vY I0 P w K mg base N qual (aK st) f fi A outer s H E).Xj (cR st) t/\t {nx:=λ_ H'=>Q .aB H',rt:=Q} (start N vs) H):mz P w K mg base I0 (k+1) f fd ps sp:=by
 obtain⟨oc,od,kV,Ç,pm,an,fi,ct,Tq,rfl,lk,gU⟩:=F.ex;refine aez lk gU S len λA outer s H vs Q E hr á=>?_;obtain⟨t,h,q⟩:=RS fi A outer s H vs Q E hr á;exact⟨t,h.Xj,q⟩
def WM.binds{st:wn}{f:f8}(F:WM K x qual st f fd)(h:∀(kV Ç pm:cr) (an:Option f8) (fi ct:cr) (us:O cr),us.length=ps.length->bindArgs (Cf x qual (fq st) (cR st) (aK st) .none kV Ç pm an fi ct) ⟨us,[]⟩=pure (ps.zip us)):Binds K fd ps []:=by
 obtain⟨oc,od,kV,Ç,pm,an,fi,ct,Tq,rfl,lk,gU⟩:=F.ex;exact .all (h kV Ç pm an fi ct)
def aaN{st:wn}{f:f8}{kV:cr}(l:K.lookup f=some ⟨oc,od,.func (Cf x qual (fq st) (cR st) (aK st) .none kV Ç pm an fi ct),Tq⟩)(c:Ey K fi qual=true)(k:Ex K (.ref f)=true):WM K x qual st f (Cf x qual (fq st) (cR st) (aK st) .none kV Ç pm an fi ct):=⟨⟨oc,od,kV,Ç,pm,an,fi,ct,Tq,rfl,l,c⟩,k⟩
end
def Na(h:n<=1000):n<sizeLine:=Nat.lt_of_le_of_lt h ⋯
section
def pv(i:Nat)(hN:‹X.N[i]?=some x›)(hv:v9 X.env.scope x:=by first|exact B1 rfl|exact Cd (B1 rfl)|exact Cd (Cd rfl))(hd: ~~~(gZ x))(gU: ~~~(xF x)):PE X (.Name x pos) (Jt i):=cX hN hv hd gU
end
def yS{A:Prop}(h:B):if false=true then A else B:=by
 exact h
def yR{A:Prop}(h:A):if true=true then A else B:=by
 exact h
def jr(H H':Hp):Prop:=∀b o,H b=some o->H' b=some o
def jr.refl(H:Hp):jr H H:=λ_ _ h=>h
end L2
variable{b:Nat}{H2:L2.Hp}{R:PySem.Result->C9->Prop}{Xs:PySem.Scope}{N':O B4}{ix:O (Option Nat)}{cl:O (B4×Bf)}{Â:BF}{Æ:O BF}{n6:Cn}
namespace L2
def lsz{o:Obj}(e:h.get? b=some o):b<h.objs.size:=Ao e
def neN{a:Nat}(h:a≠b):a≠b:=h
def ltN{a:Nat}(h:a<b):a<b:=h
def Yc{c:Nat}{v:Option cr}(q:h.IsCell c v):c<h.objs.size:=q.lt
structure aX(Xs:r9)(N:List Str)(sc:r9)(N':List Str)(ix:List (Option Nat)):Prop where
 kind:sc.kind=.function
 nc:∀y∈sc.names,y.2=.cell->sc.names.lookup y.1=some .cell
 loc:∀y∈sc.names,y.2=.local->sc.names.lookup y.1=some .local
 fr:∀y∈sc.names,y.2=.free->(Xs.names.lookup y.1=some .cell\/Xs.names.lookup y.1=some .free)
 nd:N'.Nodup
 len:ix.length=N'.length
 map:((ix.zip N').all λp=>match p.1 with|none=>true|some j=>decide (N[j]?=some p.2)&&decide (sc.names.lookup p.2=some .free))=true
def aX.at{N:O Str}{sc:r9}(S:aX Xs N sc N' ix){i:Nat}(h1:ix[i]?=some (some j))(h2:N'[i]?=some x):N[j]?=some x/\sc.names.lookup x=some .free:=by
 have hm:((some j,x):Option Nat×Str)∈ix.zip N':=by
  refine AJ (i:=i) ?_;rw[List.getElem?_zip_eq_some];exact⟨h1,h2⟩
 have q:=Df.mp S.map _ hm;simp at q;exact q
def pF(ix:O (Option Nat))(σ:St):St:=ix.map λo=>match o with|some j=>(σ[j]?).getD ci|none=>ci
def eK(X:Cx)(sc:r9)(N':O Str)(cl:O (Str×f8))(C:f8)(s2:db)(H2:Hp)(fp:O f8):Cx where
 prog:=X.prog
 w:=X.w
 K:=X.K
 mg:=X.mg
 base:=X.base
 A:=X.A
 N:=N'
 s₀:=s2
 H₀:=H2
 env:=compEnvC sc cl C X.env
 outer:=X.stack
 stack:=X.stack
 ex:=fp
 calm:=X.calm
 fn:=λx=>sc.names.lookup x==some .cell
 pn:=[]
 xe:=λ_ _=>False
theorem nK:∀(names:O (Str×wS)) (cs:O (Str×f8)),(∀y∈names,y.2=.free->∃c,env.cells.lookup y.1=some c)->
  ∃cl,(forIn names cs λ(x:Str×wS) (c:O (Str×f8))=>(match x with|(name,kind)=>do
    let c <- if (kind==Bx)=true then do let a <- cellOf env name;pure ((name,a)::c) else pure c
    pure (CB c):Sem (ForInStep (O (Str×f8)))))=pure cl/\(∀x c,cl.lookup x=some c->cs.lookup x=some c\/(env.cells.lookup x=some c/\(x,Bx)∈names))/\(∀x,((x,Bx)∈names\/(∃c,cs.lookup x=some c))->∃c,cl.lookup x=some c)
 |[],cs,_=>⟨cs,rfl,λ_ _ h=>.inl h,λx h=>h.elim (λz=>nomatch z) λz=>z⟩
 |(n,k)::r,cs,h=>by
  by_cases hk:k=.free
  .subst hk;obtain⟨c,hc⟩:=h (n,.free) BI rfl;obtain⟨cl,e,h1,h2⟩:=nK r ((n,c)::cs) λy hy=>h y (A6 _ hy);refine⟨cl,?_,λx d hd=>?_,λx hx=>?_⟩
   .rw[BW,<- e];simp only[beq_self_eq_true,if_true,cellOf,hc,pure_bind]
   .rcases h1 x d hd with z|⟨z1,z2⟩
    .rw[AZ]at z;by_cases hx:(x==n)=true
     .rw[hx]at z;have uv:x=n:=eq_of_beq hx;subst uv;cases z;exact .inr ⟨hc,BI⟩
     .have uv:(x==n)=false:=by simpa using hx
      rw[uv]at z;exact .inl z
    .exact .inr ⟨z1,A6 _ z2⟩
   .refine h2 x ?_;rcases hx with hx|⟨d,hd⟩
    .rcases Ay.mp hx with z|z
     .injection z with z1 _;subst z1;exact .inr ⟨c,by rw[AZ];simp⟩
     .exact .inl z
    .by_cases hx:(x==n)=true
     .exact .inr ⟨c,by rw[AZ,hx]⟩
     .have uv:(x==n)=false:=by simpa using hx
      exact .inr ⟨d,by rw[AZ,uv];exact hd⟩
  .obtain⟨cl,e,h1,h2⟩:=nK r cs λy hy=>h y (A6 _ hy);refine⟨cl,?_,λx d hd=>?_,λx hx=>?_⟩
   .have hb:(k==Bx)=false:=by simpa using hk
    rw[BW,<- e];simp only[hb,AD,if_false,pure_bind]
   .rcases h1 x d hd with z|⟨z1,z2⟩
    .exact .inl z
    .exact .inr ⟨z1,A6 _ z2⟩
   .refine h2 x ?_;rcases hx with hx|hx
    .rcases Ay.mp hx with z|z
     .injection z with _ z2;exact absurd z2.symm hk
     .exact .inl z
    .exact .inr hx
def mO{sc:r9}(h:∀y∈sc.names,y.2=.free->∃c,env.cells.lookup y.1=some c):∃cl,closureFor sc env=pure cl/\(∀x c,cl.lookup x=some c->env.cells.lookup x=some c/\(x,Bx)∈sc.names)/\(∀x,(x,Bx)∈sc.names->∃c,cl.lookup x=some c):=by
 obtain⟨cl,e,h1,h2⟩:=nK sc.names [] h;refine⟨cl,?_,λx c hc=>(h1 x c hc).resolve_left (λz=>nomatch z),λx hx=>h2 x (.inl hx)⟩;unfold closureFor;have e':(forIn sc.names ([]) λx r=>(match x with|(name,kind)=>if (kind==Bx)=true then do let a <- cellOf env name;pure (CB ((name,a)::r)) else pure (CB r):Sem (ForInStep (O (Str×f8)))))=pure cl:=by
  rw[<- e]
  first
   |rfl
   |(
     congr 1;funext x r;by_cases hk)
   |simp
 simpa using e'
theorem zK:∀(names:O (Str×wS)) (n:Nat) (acc:O (Str×f8)) (x:Str) (c:f8),(ut n names acc).lookup x=some c->(acc.lookup x=some c/\(x,CZ)∉names)\/((x,CZ)∈names/\n<=c)
 |[],_,_,_,_,e=>.inl ⟨e,λh=>nomatch h⟩
 |(y,k)::r,n,acc,x,c,e=>by
  unfold ut at e
  split at e
  .rename_i hk;have RM:k=.cell:=eq_of_beq hk;subst RM;rcases zK r _ _ x c e with⟨a,b⟩|⟨a,b⟩
   .rw[AZ]at a;cases hx:x==y with
    |true=>
     rw[hx]at a;cases a;exact .inr ⟨by rw[eq_of_beq hx];exact BI,Al _⟩
    |false=>
     rw[hx]at a;refine .inl ⟨a,λh=>?_⟩;rcases Ay.mp h with z|z
     .cases z;simp at hx
     .exact b z
   .exact .inr ⟨A6 _ a,Nat.le_of_succ_le b⟩
  .rename_i hk;rcases zK r _ _ x c e with⟨a,b⟩|⟨a,b⟩
   .refine .inl ⟨a,λh=>?_⟩;rcases Ay.mp h with z|z
    .cases z;simp at hk
    .exact b z
   .exact .inr ⟨A6 _ a,b⟩
theorem K0:∀(names:O (Str×wS)) (n:Nat) (acc:O (Str×f8)) (x:Str),((x,CZ)∈names\/∃c,acc.lookup x=some c)->∃c,(ut n names acc).lookup x=some c
 |[],_,_,_,h=>h.elim (λz=>nomatch z) id
 |(y,k)::r,n,acc,x,h=>by
  unfold ut
  split
  .refine K0 r _ _ x ?_;cases hx:x==y with
   |true=>exact .inr ⟨n,by rw[AZ,hx]⟩
   |false=>
    rcases h with h|⟨c,h⟩
    .rcases Ay.mp h with z|z
     .cases z;simp at hx
     .exact .inl z
    .exact .inr ⟨c,by rw[AZ,hx];exact h⟩
  .rename_i hk;refine K0 r _ _ x ?_;rcases h with h|h
   .rcases Ay.mp h with z|z
    .cases z;simp at hk
    .exact .inl z
   .exact .inr h
theorem KZ:∀(names:O (Str×wS)) (n:Nat) (acc:O (Str×f8)),(∀x y c,acc.lookup x=some c->acc.lookup y=some c->x=y)->(∀x c,acc.lookup x=some c->c<n)->∀x y c,(ut n names acc).lookup x=some c->(ut n names acc).lookup y=some c->x=y
 |[],_,_,h,_=>h
 |(z,k)::r,n,acc,h,hl=>by
  unfold ut
  split
  .refine KZ r _ _ (λx y c e1 e2=>?_) λx c e=>?_
   .rw[AZ]at e1 e2;cases hx:x==z<;>cases hy:y==z<;>rw[hx]at e1<;>rw[hy]at e2
    .exact h x y c e1 e2
    .cases e2;exact absurd (hl _ _ e1) (AE _)
    .cases e1;exact absurd (hl _ _ e2) (AE _)
    .rw[eq_of_beq hx,eq_of_beq hy]
   .rw[AZ]at e;cases hx:x==z<;>rw[hx]at e
    .exact C4 (hl _ _ e)
    .cases e;exact D4 _
  .exact KZ r _ _ h hl
theorem zL:∀(names:O (Str×wS)) (h:re) (acc:O (Str×f8)) (x:Str) (c:f8),(ut h.objs.size names acc).lookup x=some c->acc.lookup x=some c\/(pushCells h names).IsCell c ci
 |[],_,_,_,_,e=>.inl e
 |(y,k)::r,h,acc,x,c,e=>by
  unfold ut at e;unfold pushCells
  split at e
  .rename_i hk;rw[if_pos hk];rw[<- BD h {cls:=.type "cell",data:=.cell ci}]at e;rcases zL r _ _ x c e with a | a
   .rw[AZ]at a;cases hx:x==y<;>rw[hx]at a
    .exact .inl a
    .cases a;exact .inr ⟨_,pushCells_keeps _ _ _ _ (by rw[BD]at *;exact An _ rfl),rfl⟩
   .exact .inr a
  .rename_i hk;rw[if_neg hk];exact zL r h acc x c e
def sU{s:db}{sc:r9}{globals:f8}{builtins:f8}{Q:Env->db->Prop}(hQ:∀h',h'.Ns s.heap.objs.size (λ_=>ci)->(∀b o,s.heap.get? b=some o->h'.get? b=some o)->(∀x c,(ut (s.heap.objs.size+1) sc.names cl).lookup x=some c->cl.lookup x=some c\/h'.IsCell c ci)->
   Q (newEnv sc s.heap.objs.size globals (ut (s.heap.objs.size+1) sc.names cl) qual ci .none (some env) builtins) {s with heap:=h'}):gl M A (newFunctionEnv sc globals cl [] qual ci .none (some env) builtins) Q E s:=by
 simp only[newFunctionEnv,Gb,if_true];refine Aa (wpAny_alloc ?_);refine Aa (wpAny_layCells _ (λname kind cells=>by cases hkc:kind==CZ <;> simp[hkc]) _ _ _ _ ?_);rw[List.forIn_nil,show({s with heap:=s.heap.push {cls:=.type "dict",data:=.dict #[]}}:db).heap.objs.size=s.heap.objs.size+1 from BD ..];refine Aa (Af (Af (hQ _ ((Heap.Ns.new s.heap (.type "dict")).keeps (pushCells_keeps _ _)) (λb o e=>pushCells_keeps _ _ b o (Aj _ e)) λx c e=>?_)));rw[<- BD s.heap {cls:=.type "dict",data:=.dict #[]}]at e;exact zL _ _ _ _ _ e
theorem eB{env:Env}:∀{names:O (Str×wS)}{x:Str},(names.map λ(n,k)=>if (k==Bx&&env.scope.kind==.function&&env.kindOf n==some .cell) then (n,CZ) else (n,k)).lookup x = (names.lookup x).map λk=>if (k==Bx&&env.scope.kind==.function&&env.kindOf x==some .cell) then CZ else k
 |[],_=>rfl
 |(n,k)::r,x=>by
  have ih:=@eB env r x;show List.lookup x ((if (k==Bx&&env.scope.kind==.function&&env.kindOf n==some .cell)=true then (n,CZ) else (n,k))::_)=_;cases hx:x==n with
  |true=>
   have e:=eq_of_beq hx;subst e;by_cases hc:(k==Bx&&env.scope.kind==.function&&env.kindOf x==some .cell)=true
   .rw[if_pos hc,AZ,AZ,hx];simp only[Cz,hc,if_true]
   .rw[if_neg hc,AZ,AZ,hx];simp only[Cz,hc];simp
  |false=>
   by_cases hc:(k==Bx&&env.scope.kind==.function&&env.kindOf n==some .cell)=true
   .rw[if_pos hc,AZ,AZ,hx];exact ih
   .rw[if_neg hc,AZ,AZ,hx];exact ih
def PFs(X:Cx)(Æ:O nw)(t:TT):Prop:=
 ∀(U:O (f8×Obj)) (s:db) (σ:St) (H:Hp) (Q:Bool->Hp->Prop),Inv X U σ H s->t σ H Q->
  gl (im X.prog X.w) X.A (forIn Æ true λc r=>if r=true then do let ok <- isTrue c X.env (pc c X.env);pure (CB ok) else pure (CB r)) (TP X U σ Q) X.xe s
def ag3:TT:=λ_ H Q=>Q true H
def UQ:PFs X [] ag3:=λU s σ H Q I h=>by
 exact Af ⟨H,I,h⟩
def UP{c:nw}{t:TT}(hc:PT X c t):PFs X [c] t:=λU s σ H Q I h=>by
 rw[BW];simp only[if_true,bind_assoc];exact Aa (bE (hc U s σ H Q I h) λb s1 q=>Af q)
def tLc(ix:O (Option Nat))(wi:TI)(g:TG)(tf:TT)(te:TE):TE:=λσ H Q=>wi σ H λJ H1=>∀D,H1 D=ci->∃W:Nat->Nat->St->O V->Hp->Prop,
 (∃m,W 0 m (pF ix σ) [] (upd H1 D (.lst [])))/\∀i m σ' ys H,W i m σ' ys H->H D=some (.lst ys)/\
  ((J.stop i H/\Q (.ref D) H)\/(J.go i H/\∀x H',J.TN i H x H'->g x σ' H' λσ2 H2=>tf σ2 H2 λb H3=>
   if b=true then te σ2 H3 λy H4=>H4 D=some (.lst ys)/\ys.length+1<=sizeLine/\∃m',m'<m/\W (i+1) m' σ2 (ys++[y]) (upd H4 D (.lst (ys++[y]))) else ∃m',m'<m/\W (i+1) m' σ2 ys H3))
def mw{s:db}{Ê:nw}{it acc:cr}(I:Nat->db->Prop)(turn:∀n s,I n s->gl (im prog w) A (FS it) (λr s₁=>match r with
   |none=>R (.ok .next) s₁
   |some v=>gl (im prog w) A (SC Ê it v) (λ_ WX=>gl (im prog w) A (PP Ê env v) (λ_ s₂=>
     gl (im prog w) A (forIn Æ true λc r=>if r=true then do let ok <- isTrue c env (pc c env);pure (CB ok) else pure (CB r)) (λok s₃=>
      if ok=true then gl (im prog w) A (pc Â env) (λx s₄=>
       gl (im prog w) A (call (.builtin "list.append") [acc,x]) (λ_ s₅=>∃m,m < n/\I m s₅) (λ_ _=>False) s₄) (λ_ _=>False) s₃
      else ∃m,m<n/\I m s₃) (λ_ _=>False) s₂) (λ_ _=>False) WX) (λ_ _=>False) s₁) (λ_ _=>False) s) n(h:I n s):Ix (im prog w) A (.compLoop (.ListComp Â [⟨Ê,iter,Æ,0⟩] scope pos) 0 it acc env) R s:=by
 refine codeAny_loop rfl I (λn s hI=>?_) n h;refine wpAny_noted ?_;refine Aa (D6 (Aa (BM (turn n s hI) (λr s₁ h₁=>?_) λ_ _ h'=>h'.elim)));cases r with
 |none=>exact Af h₁
 |some v=>
  refine Aa (BM h₁ (λ_ WX adW=>?_) λ_ _ h'=>h'.elim);refine Aa (BM adW (λ_ s₂ h₂=>Aa (BM h₂ (λok s₃ h₃=>?_) λ_ _ h'=>h'.elim)) λ_ _ h'=>h'.elim);cases ok with
  |false=>exact Af ⟨rfl,h₃⟩
  |true=>
   exact Aa (Aa (BM h₃ (λx s₄ h₄=>Aa (BM h₄ (λ_ s₅ h₅=>Af (Af ⟨rfl,h₅⟩)) λ_ _ h'=>h'.elim)) λ_ _ h'=>h'.elim))
section
variable{sc:r9}{g:TG}{tf:TT}
structure afj(X:Cx)(U:List (f8×Obj))(H:Hp)(C:f8):Prop where
 hn:H C=ci
 hL:C≠X.env.locals
 ab:X.s₀.heap.objs.size<=C
 cl:∀x c,X.env.cells.lookup x=some c->c≠C
 pn:∀p∈X.pn++U,p.1≠C
theorem Md(hc:X.calm=true)(S:aX X.env.scope X.N sc N' ix)(hg:∀cl C s2 H2 fp,PG (eK X sc N' cl C s2 H2 fp) tg g)(hf:∀cl C s2 H2 fp,PFs (eK X sc N' cl C s2 H2 fp) Æ tf)(he:∀cl C s2 H2 fp,PE (eK X sc N' cl C s2 H2 fp) Â te){s2:db}(vN:∀x c,cl.lookup x=some c->X.env.cells.lookup x=some c/\(x,Bx)∈sc.names)(N4:∀x,(x,Bx)∈sc.names->∃c,cl.lookup x=some c){tn:Nat->re->Prop}{J:It}{Q:VK}(I2:Inv X U σ H2 s2)(T:Turn X.prog X.w X.K tg J fp it tn)(M8:tn 0 s2.heap)(f2:∀b∈fp,wq X U H2 b)(hW:∀D,H2 D=ci->∃W:Nat->Nat->St->O V->Hp->Prop,
   (∃m,W 0 m (pF ix σ) [] (upd H2 D (.lst [])))/\∀i m σ' ys H,W i m σ' ys H->H D=some (.lst ys)/\
    ((J.stop i H/\Q (.ref D) H)\/(J.go i H/\∀x H',J.TN i H x H'->g x σ' H' λσ2 H2=>tf σ2 H2 λb H3=>
     if b=true then te σ2 H3 λy H4=>H4 D=some (.lst ys)/\ys.length+1<=sizeLine/\∃m',m'<m/\W (i+1) m' σ2 (ys++[y]) (upd H4 D (.lst (ys++[y]))) else ∃m',m'<m/\W (i+1) m' σ2 ys H3))){RR:cr->f8->Result->db->Prop}{E:cr->db->Prop}(hRR:∀D C m s' H',Inv X U σ H' s'->Q (.ref D) H'->s'.heap.Ns C m->afj X U H' C->RR (.ref D) C (.ok .next) s'):gl (im X.prog X.w) X.A (newList []) (λacc s₃=>gl (im X.prog X.w) X.A (newFunctionEnv sc X.env.globals cl [] X.env.qual ci .none (some X.env)) (λae3 s₄=>
   Ix (im X.prog X.w) X.A (.compStart (.ListComp Â [⟨tg,iter,Æ,0⟩] sc pos) 0 (.ref it) acc {ae3 with scope:=Re sc X.env}) (RR acc ae3.locals) s₄) E s₃) E s2:=by
 refine BO (sU λh₁ Kk yV è=>?_);generalize hH2:s2.heap.push {cls:=.type "list",dict:=ci,data:=.seq ([]).toArray}=G2 at Kk yV è ⊢;have hC:G2.objs.size=s2.heap.objs.size+1:=by rw[<- hH2,BD]
 obtain⟨D,hD⟩:∃D:Nat,s2.heap.objs.size=D:=⟨_,rfl⟩;obtain⟨C,hCC⟩:∃C:Nat,G2.objs.size=C:=⟨_,rfl⟩;simp only[hD,hCC]at Kk yV è hC ⊢;have hDC:D≠C:=by lia
 have k1:=zK sc.names (C+1) cl;have k2:=K0 sc.names (C+1) cl;have k3:=KZ sc.names (C+1) cl;generalize ut (C+1) sc.names cl=SS at è k1 k2 k3 ⊢;have È:∀b o,s2.heap.get? b=some o->h₁.get? b=some o:=λb o e=>yV b o (hH2▸Aj _ e);have ael:h₁.get? D=some {cls:=.type "list",data:=.seq ([]:O cr).toArray}:=by
  refine yV D _ ?_;rw[<- hH2,<- hD];exact An _ rfl
 have hD2:H2 D=ci:=I2.ba.fresh ∅;obtain⟨W,⟨m0,w0⟩,turn⟩:=hW D hD2;have Yb:∀x c,cl.lookup x=some c->∃v,s2.heap.IsCell c v:=λx c e=>I2.cell x c (vN x c e).1;have ae0:∀x c,cl.lookup x=some c->c<D:=λx c e=>by
  obtain⟨v,q⟩:=Yb x c e;have:=Yc q;exact ltN ∅
 have Ĭ:∀b∈fp,b<D:=λb hb=>by
  obtain⟨o,e,_⟩:=T.obj 0 _ M8 b hb;have:=lsz e;exact ltN ∅
 have fpC:∀b∈fp,∀x c,SS.lookup x=some c->c≠b:=λb hb x c e=>by
  rcases k1 x c e with⟨z,_⟩|⟨_,z⟩
  .exact(f2 b hb).2.2.2.2.1 x c (vN x c z).1
  .have:=ltN (Ĭ b hb);exact neN (a:=c) (b:=b) ∅
 have Yok:(eK X sc N' SS C s2 H2 fp).Ok:=by
  refine⟨I2.ok.mod,S.kind,I2.ok.glob,I2.ok.blt,?_,?_,?_,?_,I2.ok.hd,I2.ok.frames,.inl rfl,?_,I2.bs,?_,?_,?_,I2.stack,I2.LG⟩
  .show s2.heap.objs.size<=C;lia
  .exact k3 (λx y c e1 e2=>I2.ok.inj x y c (vN x c e1).1 (vN y c e2).1) λx c e=>by
    have h1:C=D+1:=by lia
    exact h1▸C4 (C4 (ae0 x c e))
  .intro x hx;have uv:(Re sc X.env).names.lookup x=some .cell\/(Re sc X.env).names.lookup x=some .free:=hx;unfold Re at uv;rw[eB]at uv;cases q:sc.names.lookup x with
   |none=>rw[q]at uv;simp at uv
   |some k=>
    have hm:=BL q;refine k2 x ?_;by_cases hk:k=.free
    .subst hk;exact .inr (N4 x hm)
    .rw[q]at uv;have hb:(k==Bx)=false:=by simpa using hk
     simp only[Cz,hb,F2,AD,if_false]at uv;rcases uv with z|z
     .rw[Option.some.inj z]at hm;exact .inl hm
     .exact absurd (Option.some.inj z) hk
  .intro x c Ē e;have aiz:sc.names.lookup x=some .cell:=eq_of_beq Ē;rcases k1 x c e with⟨_,z⟩|⟨_,z⟩
   .exact absurd (BL aiz) z
   .show s2.heap.objs.size<=c;lia
  .intro b hb;refine⟨?_,λx c e z=>fpC b hb x c e z⟩;show b≠C;have:=ltN (Ĭ b hb);exact neN ∅
  .exact A0 I2.ok.Ye I2.sz
  .intro b o e hb;rcases (f2 b hb).2.2.2.1 with z|z
   .exact I2.ok.Q3 b o e z
   .have h1:=lsz (h:=X.base) e;have h2:=I2.ok.Ye;lia
  .intro b hb z;rcases Ay.mp (I2.Ju b z) with q|q
   .exact(f2 b hb).2.1 q
   .exact(f2 b hb).2.2.1 q
 have un0:Un (O4 X.stack) fp H2 (upd H2 D (.lst [])) s2.heap h₁:=Un.laid È ∅ hD2;have IY:∀tk,Inv (eK X sc N' SS C s2 H2 fp) [] (pF ix σ) (upd H2 D (.lst [])) {s2 with heap:=h₁,toks:=tk}:=λtk=>by
  refine⟨Yok,rfl,I2.bare,un0,⟨_,Kk,λi x v e1 e2 e3=>?_⟩,λx c e=>?_,?_,λx c e=>?_,λp hp=>absurd (show p∈([]) from hp) (by simp),(I2.ba.laid È ∅ ⟨Bh _,[],0,.nil,ael⟩),?_⟩
  .have k7:=e1;unfold pF at e2;rw[Ah]at e2;cases q:ix[i]? with
   |none=>rw[q]at e2;cases e2
   |some o=>
    cases o with
    |none=>rw[q]at e2;cases e2
    |some j=>
     rw[q]at e2;have ì:(σ[j]?).getD ci=some v:=Option.some.inj e2;have e4:σ[j]?=some (some v):=by
      cases z:σ[j]? with
      |none=>rw[z]at ì;cases ì
      |some y=>rw[z]at ì;exact congrArg some ì
     obtain⟨a1,a2⟩:=S.at q k7;have ad8:=BL a2;have hk:=S.fr _ ad8 rfl;obtain⟨m,_,hl⟩:=I2.loc;obtain⟨u,r,l⟩:=hl j x v a1 e4 (.inr hk);refine⟨u,r,.inr ⟨?_,?_⟩⟩
     .show(Re sc X.env).names.lookup x=some .cell\/(Re sc X.env).names.lookup x=some .free;unfold Re;rw[eB,a2];by_cases hb:(X.env.scope.kind==.function&&X.env.kindOf x==some .cell)=true
      .left
       simp only[Cz,beq_self_eq_true,E5,hb,if_true]
      .right
       simp only[Cz,beq_self_eq_true,E5,hb,if_false,AD]
     .obtain⟨c,Ś⟩:=N4 x ad8;have hcy:SS.lookup x=some c:=by
       obtain⟨c',q'⟩:=k2 x (.inr ⟨c,Ś⟩);rcases k1 x c' q' with⟨z,_⟩|⟨z,_⟩
       .rw[Ś]at z;cases z;exact q'
       .rw[S.nc _ z rfl]at a2;cases a2
      refine⟨c,hcy,?_⟩;rcases l with⟨k,_⟩|⟨k,c',e',z⟩
      .have k':X.env.scope.names.lookup x=some .local:=k;rcases hk with y|y<;>rw[k']at y<;>cases y
      .rw[((vN x c Ś).1)]at e';cases e';obtain⟨o,ho,hd⟩:=z;exact⟨o,È _ _ ho,hd⟩
  .rcases è x c e with z|z
   .obtain⟨v,o,ho,hd⟩:=Yb x c z;exact⟨v,o,È _ _ ho,hd⟩
   .exact⟨_,z⟩
  .show upd H2 D (.lst []) C=ci;rw[aj (Bt hDC)];exact(I2.ba.fresh ∅)
  .rcases k1 x c e with⟨z,_⟩|⟨_,z⟩
   .have kT:=ltN (ae0 x c z);rw[aj (neN ∅)];exact I2.ke x c (vN x c z).1
   .rw[aj (neN (a:=c) (b:=D) ∅)];exact I2.ba.fresh ∅
  .unfold pF;rw[Ai];exact S.len
 have Š:∀{G9:O (f8×Obj)}{H':Hp},(∀b∈fp,H' b=ci)->(∀p∈G9,p.1∉fp)->∀b∈fp,wq (eK X sc N' SS C s2 H2 fp) G9 H' b:=λhn hp b hb=>by
  refine⟨hn b hb,?_,?_,.inl hb,λx c e z=>fpC b hb x c e z,λp ö z=>?_⟩
  .show b≠C;have:=ltN (Ĭ b hb);exact neN ∅
  .exact Yok.Sa b hb
  .exact hp p ö (z▸hb)
 have Ď:∀s₃:db,s₃={s2 with heap:=h₁}->
   Ix (im X.prog X.w) X.A (.compLoop (.ListComp Â [⟨tg,iter,Æ,0⟩] sc pos) 0 (.ref it) (.ref D) (compEnvC sc SS C X.env)) (RR (.ref D) C) s₃:=by
  rintro s₃ rfl;refine mw (λn s'=>∃i σ' ys H',Inv (eK X sc N' SS C s2 H2 fp) [] σ' H' s'/\tn i s'.heap/\(∀b∈fp,H' b=ci)/\W i n σ' ys H') ?_ m0
   ⟨0,_,[],_,IY _,T.keep _ _ _ M8 (λb _ o e=>È b o e),λb hb=>by rw[aj (AA (Ĭ b hb))];exact(f2 b hb).1,w0⟩
  rintro n s3 ⟨i,σ3,ys,H3,I3,ą,ė,w3⟩;obtain⟨hDl,w3⟩:=turn i n σ3 ys H3 w3;rcases w3 with⟨stop,qn⟩|⟨go,step⟩
  .refine bE (T.done (eK X sc N' SS C s2 H2 fp) rfl rfl rfl hc i [] s3 σ3 H3 _ I3 (Š ė (by simp)) ą stop) λr s4 ⟨hr,I4⟩=>?_;subst hr;obtain⟨m,hn,_⟩:=I4.loc;refine hRR D C m s4 H3 (I2.ae4 I4.os I4.base I4.ba I4.bare λb hb=>?_) qn hn ?_
   .obtain⟨a0,a1,a2,a3,a4,a5⟩:=f2 b hb;exact⟨a3,a1,a4,a5⟩
   .refine⟨I4.free,?_,?_,λx c e z=>?_,λp hp z=>?_⟩
    .have:=ltN I2.lt;exact neN ∅
    .have:=I2.sz;lia
    .obtain⟨v,q⟩:=I2.cell x c e;have:=Yc q;exact neN (a:=c) (b:=C) ∅ z
    .have:=lsz (I2.pin p hp).1;exact neN (b:=C) ∅ z
  .refine bE (T.item (eK X sc N' SS C s2 H2 fp) rfl rfl rfl hc i [] s3 σ3 H3 (λ_ _=>False) I3 (Š ė (by simp)) ą go) λr s4 ⟨u,hr,h4⟩=>?_;subst hr;refine bE h4 λ_ s5 ⟨x,H5,I5,r5,y5,YT,ş⟩=>?_;refine bE (hg _ _ _ _ _ _ s5 σ3 H5 x u _ (I5.pinned (Š ş (by simp)) (T.obj _ _ YT)) r5 (step x H5 y5)) λ_ s6 ⟨σ6,H6,I6,q6⟩=>?_;refine bE (hf _ _ _ _ _ _ s6 σ6 H6 _ I6 q6) λb s7 ⟨H7,I7,q7⟩=>?_;have Rp:∀{s8:db}{σ8:St}{H8:Hp},Inv (eK X sc N' SS C s2 H2 fp) ([]++qc fp s5.heap) σ8 H8 s8->tn (i+1) s8.heap/\∀b∈fp,H8 b=ci:=λ{s8 σ8 H8} I8=>by
    refine⟨T.keep _ _ _ YT λb hb o e=>(I8.pin (b,o) (A3 _ (A3 _ (jA hb e)))).1,λb hb=>?_⟩;obtain⟨o,e,d⟩:=T.obj _ _ YT b hb;exact(I8.pin (b,o) (A3 _ (A3 _ (jA hb e)))).2.1
   cases b with
   |false=>
    obtain⟨m',hm,w7⟩:=q7;obtain⟨t7,fr7⟩:=Rp I7;exact⟨m',hm,i+1,σ6,ys,H7,I7.kC,t7,fr7,w7⟩
   |true=>
    refine bE (he _ _ _ _ _ _ s7 σ6 H7 _ I7 q7) λyv s8 ⟨y,H8,I8,r8,hD8,hz8,m',hm,w8⟩=>?_;obtain⟨z,ao,k,rv,hl8,e8⟩:=I8.rH hD8;obtain⟨t8,fr8⟩:=Rp I8;refine wpAny_list_append_plain (s:=s8) ⟨_,e8⟩ λh9 hl9 hs9=>?_;obtain⟨k9,e9⟩:=hl9;have I9:Inv (eK X sc N' SS C s2 H2 fp) ([]++qc fp s5.heap) σ6 (upd H8 D (.lst (ys++[y]))) {s8 with heap:=h9,toks:=s8.toks}:=by
     refine I8.write (x:=D) (e:=D) (by rw[hD8];exact trivial) (.inl rfl) (λb u hb hu=>(hs9.2 b hb).trans hu) ⟨_,e9⟩ ?_;refine⟨by rw[Ak,FQ];exact hz8,ao++[yv],k9,(Vals.append rv (.cons r8 .nil)),?_⟩;rw[e9];simp
    obtain⟨t9,fr9⟩:=Rp I9;exact⟨m',hm,i+1,σ6,_,_,I9.kC,t9,fr9,w8⟩
 exact codeAny_compStart_list (Ď _ rfl) (T.self _ 0 _ _ _ (T.keep _ _ _ M8 λb _ o e=>È b o e) (Ď _ rfl))
def adg(hc:X.calm=true)(S:aX X.env.scope X.N sc N' ix)(hi:PI X tg iter wi)(hg:∀cl C s2 H2 fp,PG (eK X sc N' cl C s2 H2 fp) tg g)(hf:∀cl C s2 H2 fp,PFs (eK X sc N' cl C s2 H2 fp) Æ tf)(he:∀cl C s2 H2 fp,PE (eK X sc N' cl C s2 H2 fp) Â te)(hs:qJ X iter:=by intro _;rfl):PE X (.ListComp Â [⟨tg,iter,Æ,0⟩] sc pos) (tLc ix wi g tf te):=by
 intro U s σ H Q I h;obtain⟨cl,RQ,vN,N4⟩:=mO (λy hy hk=>I.ok.has y.1 (S.fr y hy hk));refine E3 rfl hs RQ S.kind S.loc (bE (hi U s σ H _ I h) λv s1 h1=>bE h1 λġ s2 h2=>?_);obtain⟨it,fp,tn,J,H2,rfl,I2,T,M8,f2,hW⟩:=h2;exact Md hc S hg hf he vN N4 I2 T M8 f2 hW λD C m s' H' I' q hn F=>⟨m,hn,λh' Ŋ=>⟨.ref D,H',I'.turned (λb o hb e=>(Ŋ.2 b hb).trans e) F.hn F.hL (.inr F.ab) F.cl F.pn,rfl,q⟩⟩
def Qv{i:Nat}(hc:X.calm=true)(hN:X.N.Nodup)(HU:X.N[i]?=some x)(hx:X.env.scope.names.lookup x=some .local)(S:aX X.env.scope X.N sc N' ix)(hi:PI X tg iter wi)(hg:∀cl C s2 H2 fp,PG (eK X sc N' cl C s2 H2 fp) tg g)(hf:∀cl C s2 H2 fp,PFs (eK X sc N' cl C s2 H2 fp) Æ tf)(he:∀cl C s2 H2 fp,PE (eK X sc N' cl C s2 H2 fp) Â te)(mn:‹o0 (.ListComp Â [⟨tg,iter,Æ,0⟩] sc pos) (some (.Name x px)) n6.line X.env=pure true›)(hs:qJ X iter:=by intro _;rfl):PS X (.Assign [.Name x px] (.ListComp Â [⟨tg,iter,Æ,0⟩] sc pos) n6) (Ua (tLc ix wi g tf te) (di i)):=by
 intro U s σ H D0 I h;rw[exec_Assign_Name_used _ _ _ _ mn];refine Aa (D6 (Aa ?_));show gl _ X.A (do let _ <- comprehension (.ListComp Â [⟨tg,iter,Æ,0⟩] sc pos) sc X.env _ (newList []) false (pc iter X.env) (some (PP (.Name x px) X.env))) _ _ s;have aaD:∀y∈sc.names,y.2=.free->∃c,X.env.cells.lookup y.1=some c:=λy hy hk=>I.ok.has y.1 (S.fr y hy hk);obtain⟨cl,RQ,vN,N4⟩:=mO aaD;refine Aa (BM (E3 (use:=some (PP (.Name x px) X.env)) (Q:=λ_ s'=>SP X U D0 .next s') rfl hs RQ S.kind S.loc (bE (hi U s σ H _ I h) λv s1 h1=>bE h1 λġ s2 h2=>?_)) (λ_ s' hq=>Af (Af hq)) λ_ _ e=>e);obtain⟨it,fp,tn,J,H2,rfl,I2,T,M8,f2,hW⟩:=h2;refine Md (RR:=λacc C=>compPost (im X.prog X.w) X.A X.xe (some (PP (.Name x px) X.env)) (λ_ s'=>SP X U D0 .next s') acc C) (Q:=λx H1=>di i x σ H1 D0.nx) hc S hg hf he vN N4 I2 T M8 f2 hW λD C m s' H' I' q hn F=>?_;show gl _ X.A (PP (.Name x px) X.env (.ref D)) _ _ _;refine wpAny_assign_Name (wB (v:=.ref D) I' hN HU (.inl hx) rfl (λć I'' ň=>?_) (.inr hx));obtain⟨a,ň,ha⟩:=ň;have haC:C≠a:=by
  rcases ha with z|z
  .rw[z];exact F.hL
  .exact Bt (F.cl _ _ z)
 refine⟨m,hn.sameBut ň haC,λh' Ŋ=>⟨_,H',?_,q⟩⟩;exact I''.turned (it:=C) (t':=ć.toks) (λb o hb e=>(Ŋ.2 b hb).trans e) F.hn F.hL (.inr F.ab) F.cl F.pn
end
section
variable{b:nw}
def rB:cz X (.builtin "isinstance") (λxs H Q=>∃x c t b,xs=[x,.ty c]/\my X.K H x t/\BG X.K t (.type c)=some b/\Q (.bl b) H):=by
 intro U s σ H xs us Q I r h;obtain⟨x,c,t,b,rfl,ty,hk,q⟩:=h;obtain⟨u,w',rfl,ru,xX⟩:=vals2 r;cases (xX);exact NS I ru ty hk λtk=>⟨.bl b,H,I.tok _,rfl,q⟩
def Nq(hu:X.A.units<sn):iK X (ss .NotEq) (λx y H Q=>∃p q xs,x=.ref p/\y=.ref q/\bM X.K H p xs/\bM X.K H q []/\Q (.bl (!xs.isEmpty)) H):=by
 intro U s σ H x y v u Q I rx ry h;obtain⟨p,q,xs,rfl,rfl,hp,hq,k⟩:=h;cases rx;cases ry;obtain⟨ao,r,pl,hz⟩:=I.list hp;obtain⟨cq,r2,ĉ,Ņ⟩:=I.list hq;cases r2;cases xs with
 |nil=>
  cases r;exact ET (F9 (e:=λ_=>true) pl.isList ĉ.isList rfl hu λj h1=>absurd h1 (by simp)) ⟨.bl false,H,I,rfl,k⟩
 |cons y ys=>
  have hl:=r.length;exact ET (EA pl.isList ĉ.isList (by simp at hl ⊢;intro z;subst z;simp at hl) hu) ⟨.bl true,H,I,rfl,k⟩
def rK(l:f8)(items:Array cr)(n:Nat)(b:f8)(cu:Array cr)(n2:Nat)(dd:Option f8)(sl:Array (Option cr))(hs0:¬(!items.isEmpty&&Builtin.List.listTooLong (items.size+cu.size))=true)(mq:items.size<=sizeLine)(q8:items.size+cu.size<=sizeLine+1):Meets (ul.«list.extend» ⟨[.ref l,.ref b],[]⟩) (λ_ R s=>s.heap.get? l=some {cls:=.type "list",dict:=ci,data:=.seq items n,slots:=#[]}/\s.heap.get? b=some {cls:=.type "tuple",dict:=dd,data:=.seq cu n2,slots:=sl}/\R (.ok (.ret Bc)) {s with heap:=s.heap.update l (BH λx=>x++cu),toks:=s.toks}):=
 .of_wp λprog w A R s h=>by
  obtain⟨hp,g,d,tk,os⟩:=s;obtain⟨hl,hb,h⟩:=h;have f5:=Ea;
  wp_walk using (CY hl rfl),Cc hl,Cc hb;exact⟨_,rfl,h⟩
def Ql(K:Ab):V->O V->Hp->VK->Prop:=λx vs H Q=>∃l b xs zs,x=.ref l/\vs=[.ref b]/\H l=some (.lst xs)/\d6 K H b zs/\xs.length+zs.length<=sizeLine/\Q .aB (upd H l (.lst (xs++zs)))
theorem JQ:Lj X "list.extend" (Ql X.K):=by
 intro U s σ H x vs v us Q I rx rv h;obtain⟨l,b,xs,zs,rfl,rfl,hH,hB,hz,q⟩:=h;cases rx;obtain⟨u,rfl,ru⟩:=rv.one;cases ru;obtain⟨z,ao,n,r,hl,e⟩:=I.rH hH;obtain⟨cq,r2,⟨⟨cls,dd,data,sl⟩,e2,hc,n2,hd⟩,z2⟩:=I.tuple hB;subst hc hd;have Tv:=r2.length;have hsz:ao.toArray.size+cq.toArray.size<=sizeLine:=by rw[Am,Am];lia
 have uw:¬(!ao.toArray.isEmpty&&Builtin.List.listTooLong (ao.toArray.size+cq.toArray.size))=true:=by
  rw[oB hsz,DN];exact AV
 refine v4 EE ⟨_,e,rfl⟩ Ej (D9 _ _)
  (rK l ao.toArray n b cq.toArray n2 dd sl uw (by rw[Am];lia) ∅) ⟨e,e2,?_⟩
 refine⟨.aB,_,I.JV hH e (by simp) (r.append r2) ?_,rfl,q⟩;rw[Ak];lia
end
end L2
variable{xs:O L2.V}{o:L2.HO}{b:Int}{k':Nat}{tl:L2.TE}
namespace L2
def jq(l:f8)(H H':Hp):Prop:=∀b u,b≠l->H b=some u->H' b=some u
def iO(h:H p=ci)(o:HO):jr H (upd H p o):=λb u q=>by rw[aj (bD q h)];exact q
def wD(o:HO):jq p H (upd H p o):=λb u n q=>by rw[aj n];exact q
def iW(H:Hp)(o:HO)(Q:VK):Prop:=∀p H',jr H H'->H' p=some o->H p=ci->Q (.ref p) H'
def iW.at{Q:VK}(h:iW H o Q)(p:f8)(hp:H p=ci):Q (.ref p) (upd H p o):=h p _ (iO hp o) ay hp
def GG(H:Hp)(l:f8)(o:HO)(Q:Hp->Prop):Prop:=∀H',jq l H H'->H' l=some o->Q H'
def GG.at{l:f8}{Q:Hp->Prop}(h:GG H l o Q):Q (upd H l o):=h _ (wD o) ay
def iK.mono{f:cr->cr->Sem cr}{r r':R2}(h:iK X f r)(hr:∀x y H Q,r' x y H Q->r x y H Q):iK X f r':=λU s σ H x y v u Q I rx ry q=>h U s σ H x y v u Q I rx ry (hr _ _ _ _ q)
def cz.mono{f:cr}{r r':O V->Hp->VK->Prop}(h:cz X f r)(hr:∀xs H Q,r' xs H Q->r xs H Q):cz X f r':=λU s σ H xs us Q I rx q=>h U s σ H xs us Q I rx (hr _ _ _ q)
def Lj.mono{id:String}{r r':V->O V->Hp->VK->Prop}(h:Lj X id r)(hr:∀x xs H Q,r' x xs H Q->r x xs H Q):Lj X id r':=λU s σ H x xs v us Q I rx rv q=>h U s σ H x xs v us Q I rx rv (hr _ _ _ _ q)
def OQ.mono{r r':OP}(h:OQ X r)(hr:∀o i v H Q,r' o i v H Q->r o i v H Q):OQ X r':=λU s σ H o i v ov iv u Q I ro ri rv q=>h U s σ H o i v ov iv u Q I ro ri rv (hr _ _ _ _ _ q)
def SlR.mono{r r':V->Option Int->Option Int->Hp->VK->Prop}(h:SlR X r)(hr:∀x lo hi H Q,r' x lo hi H Q->r x lo hi H Q):SlR X r':=λU s σ H x v vl vu lo hi sl Q I rx hs pl pu q=>h U s σ H x v vl vu lo hi sl Q I rx hs pl pu (hr _ _ _ _ _ q)
section
variable{o:nw}{t:TA}
def acw(t:TA):TE:=λσ H Q=>t σ H λxs H1=>xs.length<=sizeLine/\iW H1 (.tup xs) Q
def WV(t:TA):TE:=λσ H Q=>t σ H λxs H1=>xs.length<=sizeLine/\iW H1 (.lst xs) Q
def UR{x1}(h:PA X es t):PE X (.Tuple es x1 pos) (acw t):=by
 intro U s σ H Q I hq;refine wpAny_Tuple_spliced (bE (h pos U s σ H _ I hq) λus s1 ⟨xs,H1,I1,r,z,q⟩=>⟨by rw[<- r.length];exact z,?_⟩);have hf:=I1.ba.fresh (Al _);refine⟨.ref s1.heap.objs.size,upd H1 s1.heap.objs.size (.tup xs),I1.laid (λb u e=>Aj _ e) (Al _) ?_,rfl,q.at _ hf⟩;exact⟨z,us,r,⟨_,An _ rfl,rfl,_,rfl⟩,_,An _ rfl,rfl⟩
def su(h:PA X es t):PE X (.List es pos) (WV t):=by
 intro U s σ H Q I hq;refine wpAny_List_spliced (bE (h pos U s σ H _ I hq) λus s1 ⟨xs,H1,I1,r,z,q⟩=>⟨by rw[<- r.length];exact z,?_⟩);have hf:=I1.ba.fresh (Al _);refine⟨.ref s1.heap.objs.size,upd H1 s1.heap.objs.size (.lst xs),I1.laid (λb u e=>Aj _ e) (Al _) ?_,rfl,q.at _ hf⟩;exact⟨z,us,0,r,An _ rfl⟩
def YL:TE:=λ_ H Q=>iW H (.dK []) Q
def QP:PE X (.Dict [] [] pos) YL:=λU s σ H Q I h=>QN U s σ H Q I λp hp=>h.at p hp
def Qi(K:Ab):R2:=λx y H Q=>match x with
 |.int i=>∃j,y=.int j/\Q (.int (i+j)) H
 |.str i=>∃j,y=.str j/\i.length+j.length<=sizeLine/\Q (.str (i++j)) H
 |.ref a=>(∃b xs zs,y=.ref b/\H a=some (.lst xs)/\H b=some (.lst zs)/\xs.length+zs.length<=sizeLine/\iW H (.lst (xs++zs)) Q)\/Xc K x y H Q
 |_=>False
def U2:iK X (wf .Add) (Qi X.K):=by
 refine((Zy.or JJ).or (Zx.or L3)).mono λx y H Q h=>?_;cases x with
 |int i=>obtain⟨j,rfl,q⟩:=h;exact .inl (.inl ⟨i,j,rfl,rfl,q⟩)
 |str i=>obtain⟨j,rfl,hl,q⟩:=h;exact .inl (.inr ⟨i,j,rfl,rfl,hl,q⟩)
 |ref a=>
  rcases h with⟨b,xs,zs,rfl,h1,h2,hz,q⟩|h
  .exact .inr (.inl ⟨a,b,xs,zs,rfl,rfl,h1,h2,hz,λp hp=>q.at p hp⟩)
  .exact .inr (.inr h)
 |_=>exact h.elim
def lK:iK X (wf .Mult) (rI Fk λi j=>.int (i*j)):=opI λ_ _ _ _ _ _ _ hc q=>mul_int q hc
def Xa(K:Ab):V->Option Int->Option Int->Hp->VK->Prop:=λx lo hi H Q=>∃a xs,x=.ref a/\bM K H a xs/\iW H (.lst (OB xs lo hi)) Q
def PU:SlR X (Xa X.K):=Uo.mono λx lo hi H Q ⟨a,xs,e,h,q⟩=>⟨a,xs,e,h,λp hp=>q.at p hp⟩
def K5:cz X (.type "list") (λxs H Q=>∃p ys,xs=[.ref p]/\(bM X.K H p ys\/d6 X.K H p ys)/\iW H (.lst ys) Q):=zM.mono λxs H Q ⟨p,ys,e,h,q⟩=>⟨p,ys,e,h,λl hl=>q.at l hl⟩
def Qm:V->O V->Hp->VK->Prop:=λx vs H Q=>∃l xs y,x=.ref l/\vs=[y]/\H l=some (.lst xs)/\xs.length<sizeLine/\GG H l (.lst (xs++[y])) (Q .aB)
def m7:Lj X "list.append" Qm:=Nw.mono λx xs H Q ⟨l,ys,y,e1,e2,h,hz,q⟩=>⟨l,ys,y,e1,e2,h,hz,q.at⟩
def Ng(K:Ab):V->O V->Hp->VK->Prop:=λx vs H Q=>∃l b xs zs,x=.ref l/\vs=[.ref b]/\H l=some (.lst xs)/\d6 K H b zs/\xs.length+zs.length<=sizeLine/\GG H l (.lst (xs++zs)) (Q .aB)
def Hs:Lj X "list.extend" (Ng X.K):=JQ.mono λx xs H Q ⟨l,b,ys,zs,e1,e2,h1,h2,hz,q⟩=>⟨l,b,ys,zs,e1,e2,h1,h2,hz,q.at⟩
def ac1:V->O V->Hp->VK->Prop:=λx vs H Q=>∃l xs y,x=.ref l/\vs=[]/\H l=some (.lst (xs++[y]))/\GG H l (.lst xs) (Q y)
def Vd:Lj X "list.pop" ac1:=ZI.mono λx xs H Q ⟨l,ys,y,e1,e2,h,q⟩=>⟨l,ys++[y],y,e1,e2,h,by simp,by rw[List.dropLast_concat];exact q.at⟩
def Qh:OP:=λo i v H Q=>∃p xs k j,o=.ref p/\i=.int k/\H p=some (.lst xs)/\nQ xs.length k=some j/\GG H p (.lst (xs.set j v)) Q
def pZ:OQ X Qh:=set_list.mono λo i v H Q ⟨p,xs,k,j,e1,e2,h,hj,q⟩=>⟨p,xs,k,j,e1,e2,h,hj,q.at⟩
end
section
variable(K:Ab)(hK:X.K=K){a o:nw}{t:TA}{name:Str}{ô:String}{r:V->O V->Hp->VK->Prop}
include hK
def bW:TH X (rIx K):=hK▸aab
def lL:iK X (wf .Add) (Qi K):=hK▸U2
def PR:SlR X (Xa K):=hK▸PU
def Ze(K:Ab):O V->Hp->VK->Prop:=λxs H Q=>∃x n,xs=[x]/\afd K x H n/\Q (.int n) H
def xw:cz X (.builtin "len") (Ze K):=hK▸SX
def Qj(K:Ab):O V->Hp->VK->Prop:=λxs H Q=>∃p ys,xs=[.ref p]/\(bM K H p ys\/d6 K H p ys)/\iW H (.lst ys) Q
def K4:cz X (.type "list") (Qj K):=hK▸K5
def Zd(K:Ab):R2:=λx y H Q=>∃p q xs,x=.ref p/\y=.ref q/\bM K H p xs/\bM K H q []/\Q (.bl (!xs.isEmpty)) H
def mX(hu:X.A.units<sn):iK X (ss .NotEq) (Zd K):=hK▸Nq hu
def agU(K:Ab)(ta:TE):TT:=λσ H Q=>ta σ H λx H'=>∃k,abh K x H' k/\Q k H'
def wK(ha:PE X a ta)(he:∀Ä,isTrue a X.env Ä=(do let v <- Ä;standAt a.pos;GT [v] (truthy v))):PT X a (agU K ta):=hK▸Qt ha he
def UT(pa:PlainAttrs T)(slot:Slot T name ô)(à:typeOf (.builtin ô)=pure (.type "method_descriptor"))(hm:MtR X ô r)(ho:PE X o to)(cH:‹pr o name X.env (pc o X.env)=pc o X.env›)(cG:‹MR À a9›):PE X (.Call (.Attribute o name À) [] [] a9) (acD K T r to):=hK▸Zn pa slot à hm ho cH cG
def jy(pa:PlainAttrs T)(slot:Slot T name ô)(à:typeOf (.builtin ô)=pure (.type "method_descriptor"))(hm:MtR X ô r)(ho:PE X o to)(ha:PA X (e::es) t)(cH:‹pr o name X.env (pc o X.env)=pc o X.env›)(jH:‹WK X a9 (e::es)›)(cG:‹MR À a9›)(hs:‹gb X e es›)(cg:‹km X a9 es›):PE X (.Call (.Attribute o name À) (e::es) [] a9) (tBM K T r to t):=hK▸adh pa slot à hm ho ha cH jH cG hs cg
omit hK
end
structure O9(P:BT)(w:FM)(K:Ab)(mg:Str->Option cr)(base:re)(x:Str)(k:Nat)(ps:List Str)(sp:Sp) where
 f:f8
 fd:FuncData
 ok:mz P w K mg base I0 k f fd ps sp
 bi:Binds K fd ps []
 kp:Ex K (.ref f)=true
 at':mg x=some (.ref f)
section
variable{p:Pos}{t:TA}
def acC(sp:Sp)(t:TA):TE:=λσ H Q=>t σ H λvs H1=>sp vs H1 Q E0
def ye(G:O9 X.prog X.w X.K X.mg X.base x k ps sp)(hr:dG k' X.A)(hk:k<=k')(hg:Gl X x)(ha:PA X (e::es) t)(kU: ~~~(gZ x))(he:‹gb X e es›)(du:‹km X pos es›):PE X (.Call (.Name x p) (e::es) [] pos) (acC sp t):=by
 intro U s σ H Q I h;refine Br (Mb I hg G.at' ?_ kU);refine PySem.W.callWith_K I.ok.mod.kin G.kp (bE (ha pos U s σ H _ I h) λus s1 ⟨vs,H1,I1,r,q⟩=>⟨I1.w4,?_⟩) he du;refine YZ G.ok (hr.mono hk) G.bi .nil adj I1 r ?_;rw[Du];exact q
end
section
variable{t u:TS}{tA YO:TT}{g:TG}{Q:VK}{QT:Bool->Hp->Prop}{QA:O V->Hp->Prop}{QS:St->Hp->Prop}{i:Nat}{ts:TA}
def Y3(h:t {D with nx:=u D} σ H):acx t u D σ H:=h
def Uz(h:D.nx σ H):LC D σ H:=h
def Y8(h:te σ H λx H1=>g x σ H1 D.nx):Ua te g D σ H:=h
def UA(h:QS (σ.set i (some v)) H):di i v σ H QS:=h
def Qd(e:σ[i]?=some (some v))(h:Q v H):Jt i σ H Q:=⟨v,e,h⟩
def ahn(h:Q v H):tC v σ H Q:=h
def W8{r:R2}(h:ta σ H λx H1=>tb σ H1 λy H2=>r x y H2 Q):WU r ta tb σ H Q:=h
def ahq{C:Int->Int->Prop}{f:Int->Int->V}{a:Int}(c:C a b)(h:Q (f a b) H):rI C f (.int a) (.int b) H Q:=⟨a,b,rfl,rfl,c,h⟩
def Y4(h:te σ H D.rt):acy te D σ H:=h
def UB(h:te σ H λ_ H1=>D.nx σ H1):WW te D σ H:=h
def Y7(h:tA σ H λb H1=>if b=true then t D σ H1 else u D σ H1):YK tA t u D σ H:=h
def LR(h:te σ H λx H'=>∃k,x=.bl k/\QT k H'):Pt te σ H QT:=h
def Y9(h:tA σ H λc H1=>if c=true then YO σ H1 QT else QT false H1):acF tA YO σ H QT:=h
def Y5(h:QA [] H):YI σ H QA:=h
def UC(h:ta σ H λx H1=>ts σ H1 λxs H2=>QA (x::xs) H2):Pu ta ts σ H QA:=h
def Y6(h:ts σ H λxs H1=>xs.length<=sizeLine/\iW H1 (.lst xs) Q):WV ts σ H Q:=h
def acY{k:Bool}{R:Bool->Prop}(h:R k):∃c,V.bl k=.bl c/\R c:=⟨k,rfl,h⟩
def acX{K:Ab}{r:V->O V->Hp->VK->Prop}(h:te σ H λx H1=>tyV K T x H1/\ts σ H1 λxs H2=>r x xs H2 Q):tBM K T r te ts σ H Q:=h
def Y2{ti:TE}{tt:OP}(h:to σ H λo H1=>ti σ H1 λi H2=>tt o i v H2 λH3=>QS σ H3):aeq to ti tt v σ H QS:=h
def UD{K:Ab}{a:Int}(h:Q (.int (a+b)) H):Qi K (.int a) (.int b) H Q:=⟨b,rfl,h⟩
def dq{K:Ab}{n:Int}(h1:bM K H a xs)(h2:d5 xs n=some v)(h:Q v H):rIx K (.ref a) (.int n) H Q:=.inl ⟨a,xs,n,v,rfl,rfl,h1,h2,h⟩
end
section
def LU{k:Int}{QH:Hp->Prop}(h1:H p=some (.lst xs))(hj:nQ xs.length k=some j)(h:∀H',jq p H H'->H' p=some (.lst (xs.set j v))->QH H'):Qh (.ref p) (.int k) v H QH:=⟨p,xs,k,j,rfl,rfl,h1,hj,h⟩
def Y1{K:Ab}{l:f8}(h:H l=some (.lst xs)):tyV K "list" (.ref l) H:=.inl ⟨rfl,_,bM.of h⟩
def Xm{j:Int}(h1:-18446744073709551616<i)(h2:i<18446744073709551616):Fk i j:=WR.ok (.inl ⟨h1,h2⟩)
def mul_r{j:Int}(h1:-18446744073709551616<j)(h2:j<18446744073709551616):Fk i j:=WR.ok (.inr ⟨h1,h2⟩)
end
def b9(h:n<=1000):n<=sizeLine:=Et (Na h)
section
variable(K:Ab)(hK:X.K=K)
include hK
def Zg(K:Ab):R2:=λx y H Q=>∃p q xs,x=.ref p/\y=.ref q/\bM K H p xs/\bM K H q []/\Q (.bl xs.isEmpty) H
def JI(hu:X.A.units<sn):iK X (ss .Eq) (Zg K):=by
 subst hK;intro U s σ H x y v u Q I rx ry h;obtain⟨p,q,xs,rfl,rfl,hp,hq,k⟩:=h;cases rx;cases ry;obtain⟨ao,r,pl,hz⟩:=I.list hp;obtain⟨cq,r2,ĉ,Ņ⟩:=I.list hq;cases r2;cases xs with
 |nil=>
  cases r;refine Fy (Gp (e:=λ_=>true) pl.isList ĉ.isList rfl hu λj h1=>absurd h1 (by simp)) ?_;exact⟨.bl true,H,I,rfl,k⟩
 |cons y ys=>
  have hl:=r.length;refine Fy (EZ pl.isList ĉ.isList (by simp at hl ⊢;intro z;subst z;simp at hl) hu) ?_;exact⟨.bl false,H,I,rfl,k⟩
omit hK
end
end L2
variable{p1:Cn}
namespace L2
theorem Vals.GX:∀{xs:O V}{us:O cr},Vals xs us->Vals xs.reverse us.reverse
 |_,_,.nil=>.nil
 |_,_,.cons h t=>by rw[DL,DL];exact(Vals.GX t).append (.cons h .nil)
def ZP:xz (.type "list_reverseiterator") (Cg "__len__")=pure ci:=by kernel_rfl
def Vm:xz (.type "list_reverseiterator") (Cg "__length_hint__")=pure (some (.builtin "list_reverseiterator.__length_hint__")):=by kernel_rfl
def Uh:splitId "list_reverseiterator.__length_hint__"=some ("list_reverseiterator","__length_hint__"):=by kernel_rfl
def Ub:isSubtype (.type "list_reverseiterator") (.type "list_reverseiterator")=pure true:=by kernel_rfl
def RN{s:db}{r l:f8}{Q:Bool->db->Prop}(h:s.heap.IsRevIter r l i)(q:Q false s):gl (im prog w) A (Builtin.List.listLengthHint (Aw r)) Q E s:=by
 refine Aa (Fz h.typeIs ZP ?_);refine Aa (Fz h.typeIs Vm ?_);dsimp only;rw[Uh];dsimp only;exact Aa (CM h.typeIs Ub (Af q))
def vF{s:db}{r l S:f8}(hA:A.handled=ci)(h:s.heap.IsRevIter r l (items.size-1))(hl:s.heap.IsList l items)(yW:l≠r)(Ŝ:S≠r)(hSl:S≠l)(hz:items.size<=sizeLine)(hS:s.heap.get? S=some {cls:=C5 "list",data:=Gg #[]})(q:∀(h':re) (tk:Nat) (acc:Array cr) (c:Nat),(∀b o,b≠S->b≠r->s.heap.get? b=some o->h'.get? b=some o)->h'.get? S=some {cls:=C5 "list",data:=Gg acc c}->ItemsOf (λi v=>items[items.size-1-i]?=some v) acc items.size->R (.ok (.ret .none)) {s with heap:=h',toks:=tk}):
  gl (im prog w) A.in1 (ul.«list.__init__» {pos:=[Aw S,Aw r]})
   (λfin s'=>match fin with|D7 f=>R (Except.ok f) s'|Fin.again c'=>c'.quiet=true/\Ix (im prog w) A c' R s') (λe s'=>R (Gk e) s') s:=by
 unfold ul.«list.__init__»;refine Aa (wpAny_listItems hS rfl ?_);refine Aa ?_;refine CY hS rfl ?_ (by simp) (by simp);refine Aa (CD ?_);have k1:∀b o,b≠S->s.heap.get? b=some o->(s.heap.update S (BH λ_=>#[])).get? b=some o:=λb o hb e=>by rw[BZ _ _ (Bt hb)];exact e
 have hS1:=B8 (BH λ_=>#[]) hS rfl;generalize s.heap.update S (BH λ_=>#[])=h1 at k1 hS1 ⊢;have ĥ:h1.IsRevIter r l (items.size-1):=let ⟨o,e,p⟩:=h;⟨o,k1 _ _ (Bt Ŝ) e,p⟩;have Ő:h1.IsList l items:=let ⟨o,e,p⟩:=hl;⟨o,k1 _ _ (Bt hSl) e,p⟩;unfold Builtin.List.listExtendWith;refine Aa (Ep ĥ.typeIs ?_);rw[if_neg (by
  have e1:Builtin.List.listSameRef (Aw S) (Aw r)=false:=by
   unfold Builtin.List.listSameRef;simpa using Ŝ
  rw[e1];decide)]
 refine Aa (wpAny_pyIter_revIter ĥ ?_);refine Aa (Bb (RN ĥ ?_));refine Af ⟨wE F.plain_extend_loop _,?_⟩;refine codeAny_extend_loopS (Walks.toS (Walks.listRev (A:=A.in1) hA r l yW items)) hz S (by simp[Ŝ,hSl]) .none items.size 0 _ #[] _ (Er _) (Bh _) ⟨Bh _,by simpa using ĥ,Ő⟩ hS1 (ItemsOf.nil _) ?_;intro s' acc c mv e io;rw[mv.eq_with];exact q s'.heap s'.toks acc c (λb o n1 n2 e'=>mv.heap b o (by simp[n1,n2]) (k1 b o n1 e')) e io
def v5{s:db}{r l:f8}(hA:A.handled=ci)(h:s.heap.IsRevIter r l (items.size-1))(hl:s.heap.IsList l items)(yW:l≠r)(hz:items.size<=sizeLine)(q:∀(h':re) (tk:Nat) (acc:Array cr) (c:Nat),(∀b o,b≠r->s.heap.get? b=some o->h'.get? b=some o)->h'.get? s.heap.objs.size=some {cls:=C5 "list",data:=Gg acc c}->ItemsOf (λi v=>items[items.size-1-i]?=some v) acc items.size->Q (.ref s.heap.objs.size) {s with heap:=h',toks:=tk}):gl (im prog w) A (call (C5 "list") [Aw r]) Q E s:=by
 have lr:=let ⟨_,e,_⟩:=h;Ao e;have ll:=let ⟨_,e,_⟩:=hl;Ao e;refine callType_codes F.called_list (F.typeCall_list_1 _) F.entry_list_init (code_list_new (Q₁:=λv s₁=>v=.ref s.heap.objs.size/\s₁={s with heap:=s.heap.push {cls:=C5 "list",data:=Gg #[]}}) _ ⟨rfl,rfl⟩) ?_;rintro obj s₁ ⟨rfl,rfl⟩;refine⟨⟨_,An _ rfl,rfl⟩,F.args_list_init_2 _ _,?_⟩;have kp:∀b o,s.heap.get? b=some o->(s.heap.push {cls:=C5 "list",data:=Gg #[]}).get? b=some o:=λb o e=>Aj _ e;refine vF hA (let ⟨o,e,p⟩:=h;⟨o,kp _ _ e,p⟩) (let ⟨o,e,p⟩:=hl;⟨o,kp _ _ e,p⟩) yW (λz=>by rw[z]at lr;exact AE _ lr) (λz=>by rw[z]at ll;exact AE _ ll) hz (An _ rfl) ?_;intro h' tk acc c k e io;exact⟨rfl,q h' tk acc c (λb o n e'=>k b o (λz=>by rw[z]at e';exact AE _ (Ao e')) n (kp b o e')) e io⟩
def tLR(K:Ab)(te:TE):TE:=λσ H Q=>te σ H λx H1=>∃p ys,x=.ref p/\bM K H1 p ys/\iW H1 (.lst ys.reverse) Q
section
variable(K:Ab)(hK:X.K=K){p2 q1 q2:Pos}
include hK
theorem JH(hc:X.calm=true)(Ŗ:Gl X "list")(ŏ:X.mg "list"=ci)(ŕ:Gl X "reversed")(ø:X.mg "reversed"=ci)(he:PE X e te)(mq:‹gt [.Call (.Name "reversed" q1) [e] [] q2] X.env=(false,pc (.Call (.Name "reversed" q1) [e] [] q2) X.env)::gt [] X.env›)(q8:‹gb X e []›):PE X (.Call (.Name "list" p1) [.Call (.Name "reversed" q1) [e] [] q2] [] p2) (tLR K te):=by
 intro U s σ H Q I h;subst hK;refine Br (fc I Ŗ ŏ boot_list ?_ ⋯ ⋯);refine A8 ?_ mq rfl;refine Bl ?_;refine Br (fc I ŕ ø boot_reversed ?_ ⋯ ⋯);refine A8 ?_ q8 rfl;rw[q8];refine Bl (bE (he U s σ H _ I h) λu s1 ⟨x,H1,I1,r1,pa,ys,ex,hS,q⟩=>BN ?_);subst ex;cases r1;obtain⟨ao,rv,pl,hz⟩:=I1.list hS;have Á:=rv.length;have lp:=let ⟨_,e,_⟩:=pl.isList;Ao e;refine call_reversed_list pl.isList ?_;refine BN ?_;have kp:∀b o,s1.heap.get? b=some o->(s1.heap.push (revObj pa (ao.toArray.size-1))).get? b=some o:=λb o e=>Aj _ e;refine v5 (I1.ok.hd hc) ⟨_,An _ rfl,rfl,rfl⟩ (let ⟨o,e,p⟩:=pl.isList;⟨o,kp _ _ e,p⟩) (λz=>by rw[z]at lp;exact AE _ lp) (by rw[Am];lia) ?_;intro h' tk acc c k e io;have ea:acc=ao.reverse.toArray:=by
  obtain⟨z1,z2⟩:=io;apply Array.ext
  .rw[z1,Am,Am,CI]
  .intro j h1 h2;have:=z2 j acc[j] (Cw h1);rw[Am]at this;have hj:j<ao.length:=by rw[z1,Am]at h1;exact h1
   rw[C1]at this;have e3:ao.reverse[j]?=some acc[j]:=by rw[DY hj];exact this
   rw[List.getElem_toArray];exact(Option.some.inj (((Ad (by rw[CI];exact hj)).symm.trans e3))).symm
 subst ea;have q8:s1.heap.objs.size<=(s1.heap.push (revObj pa (ao.toArray.size-1))).objs.size:=by simp
 exact⟨.ref _,upd H1 _ (.lst ys.reverse),I1.laid (λb o eb=>k b o (λz=>by rw[z]at eb;exact AE _ (Ao eb)) (kp b o eb)) q8 ⟨by rw[CI];exact hz,ao.reverse,c,rv.GX,e⟩,rfl,q.at _ (I1.ba.fresh q8)⟩
end
end L2
namespace My
inductive Tr where
 |leaf (x:Str)
 |node (l r:Tr)
def Tr.ak:Tr->O Str
 |.leaf x=>[x]
 |.node l r=>l.ak++r.ak
def Tr.size:Tr->Nat
 |.leaf _=>1
 |.node l r=>l.size+r.size+1
def Tr.depth:Tr->Nat
 |.leaf _=>0
 |.node l r=>max l.depth r.depth+1
theorem Tr.eZ:∀t:Tr,1<=t.ak.length
 |.leaf _=>Al _
 |.node l r=>by have:=l.eZ;show 1<=(l.ak++r.ak).length;rw[Ak];lia
theorem Tr.pj:∀t:Tr,t.depth<t.ak.length
 |.leaf _=>D4 0
 |.node l r=>by
  have h1:=l.pj;have h2:=r.pj;have h4:=r.eZ;show max l.depth r.depth+1<(l.ak++r.ak).length;rw[Ak];lia
theorem Tr.size_eq:∀t:Tr,t.size+1=2*t.ak.length
 |.leaf _=>rfl
 |.node l r=>by
  have h1:=l.size_eq;have h2:=r.size_eq;show l.size+r.size+1+1=2*(l.ak++r.ak).length;rw[Ak];lia
def eO(ts:O Tr):Nat:=(ts.map Tr.size).sum
def gn(a b:O Tr):eO (a++b)=eO a+eO b:=by unfold eO;rw[AI,List.sum_append]
def pY(t:Tr):eO [t]=t.size:=by simp[eO]
theorem Tr.size_pos:∀t:Tr,1<=t.size
 |.leaf _=>Al _
 |.node l r=>by show 1<=l.size+r.size+1;lia
theorem wX:∀ts:O Tr,ts.length<=eO ts
 |[]=>Al _
 |t::r=>by have:=wX r;have:=t.size_pos;show r.length+1<=t.size+eO r;lia
end My
variable{x:Bg}{σ:L2.St}{i:Nat}
namespace L2
def hV{s:db}{t:f8}(h:s.heap.IsTupleIter it t i)(ht:s.heap.IsTuple t items)(hx:items[i]?=some x)(q:∀h':re,h'.IsTupleIter it t (i+1)->B0 it s.heap h'->Q x {s with heap:=h'}):gl (im prog w) A (Builtin.SmallTypes.nextOf (.ref it)) Q E s:=by
 unfold Builtin.SmallTypes.nextOf;refine Aa (AY h.typeIs Ct (Bj Ct h.typeIs Eo ?_ (Eg _)));obtain⟨o,ho,hc,hd⟩:=id h;obtain⟨ot,Ō,htc,n,Ň⟩:=id ht;show gl _ _ (field (.ref it) 0 >>= λseq=>_) _ _ s;refine Aa (AN ho hd rfl ?_);refine Aa (AN ho hd rfl ?_);refine Aa (Bp Ō Ň ?_);show gl _ _ (match items[i]? with|some x=>(do Os (.ref it) 1 (wv (i+1));ret x)|none=>_) _ _ s;rw[hx];refine Aa (EH ho hd (show 1<2 by decide) ?_);refine Af ⟨x,rfl,Af (q _ ⟨_,B8 _ ho (by rw[FO (Dw hd _)]),by rw[Obj.cls_mapFields];exact hc,by rw[Dw hd];rfl⟩ (B0.update ..))⟩
def Ud{s:db}{Q:α->db->Prop}(hA:A.handled=ci)(q:∀(h':re) (e:f8),(∀b o,s.heap.get? b=some o->h'.get? b=some o)->(∃o,h'.get? e=some o/\o.cls=.type "StopIteration")->E (.ref e) {s with heap:=h'}):gl (im prog w) A (Builtin.SmallTypes.stopIteration (α:=α)) Q E s:=by
 refine Aa ?_;refine Aa (Cu ?_ ⋯);refine Aa (BA rfl ?_);refine BO ?_ (sizeOk_excFields ..);unfold raiseNew;refine Aa (wpAny_handled ?_);rw[hA];refine wpAny_throw (q _ _ (λb o e=>Aj _ (Aj _ e)) ⟨_,An _ rfl,rfl⟩)
def iV{s:db}{t:f8}(hA:A.handled=ci)(h:s.heap.IsTupleIter it t i)(ht:s.heap.IsTuple t items)(hx:items[i]?=ci)(q:∀(h':re) (e:f8),FW it s.heap h'->(∃o,h'.get? e=some o/\o.cls=.type "StopIteration")->E (.ref e) {s with heap:=h'}):gl (im prog w) A (Builtin.SmallTypes.nextOf (.ref it)) Q E s:=by
 unfold Builtin.SmallTypes.nextOf;refine Aa (AY h.typeIs Ct (Bj Ct h.typeIs Eo ?_ (Eg _)));obtain⟨o,ho,hc,hd⟩:=id h;obtain⟨ot,Ō,htc,n,Ň⟩:=id ht;show gl _ _ (field (.ref it) 0 >>= λseq=>_) _ _ s;refine Aa (AN ho hd rfl ?_);refine Aa (AN ho hd rfl ?_);refine Aa (Bp Ō Ň ?_);show gl _ _ (match items[i]? with|some x=>(do Os (.ref it) 1 (wv (i+1));ret x)|none=>(do rule _;Os (.ref it) 0 .none;Builtin.SmallTypes.stopIteration)) _ _ s;rw[hx];refine Aa (CV ?_);refine Aa (EH ho hd (show 0<2 by decide) ?_);refine Ud hA λh' e k ex=>q h' e (λb o n eb=>k b o ?_) ex;rw[(B0.update _ _ _).2 b n];exact eb
def Inv.nX{s:db}{t':Nat}(I:Inv X U σ H s)(hf:∀b∈ch,wq X U H b)(k:∀b u,b∉ch->s.heap.get? b=some u->h'.get? b=some u)(hp:s.heap.objs.size<=a)(new:br X.prog X.w (upd H a o) h' a o):Inv X U σ (upd H a o) {s with heap:=h',toks:=t'}:=by
 have hn:=I.ba.fresh hp;have Xl:∀b u,H b=some u->b∉ch:=λb u e z=>by rw[(hf b z).1]at e;cases e
 refine I.step (λb hb=>⟨(hf b hb).2.2.2.1,(hf b hb).2.1,(hf b hb).2.2.2.2.1,(hf b hb).2.2.2.2.2⟩) (λb u _ _ hc e _=>k b u hc e) (λb u _ _ hc e _=>⟨u.slots,k b u hc e⟩)
  (λb u _ e n=>by rw[aj (AA (Az (Ao e) hp))];exact n) (λb u hc e=>⟨u,k b u hc e⟩) (λb xs e=>by rw[aj (bD e hn)];exact e) (λb u xs e=>by rw[aj (bD e hn)];exact e)
  (λb ps e=>⟨#[],by rw[aj (bD e hn),e];simp⟩) (λm hm=>?_) (λb u e=>?_) I.bare
 .obtain⟨o',es,ep,ho,r⟩:=hm;exact⟨o',es,ep,k _ o' (λz=>(hf _ z).2.1 rfl) ho,r⟩
 .by_cases hb:b=a
  .subst hb;rw[ay]at e;cases e;exact new
  .rw[aj hb]at e;refine(I.ba b u e).xS (λc v hc q=>k c v ?_ q) (λc q=>by rw[aj (bD q hn)];exact q) λc xs q=>by rw[aj (bD q hn)];exact q
   rcases hc with z|z
   .rw[z];exact Xl b u e
   .exact Xl c _ z
def Inv.rZ{s:db}{t':Nat}(I:Inv X U σ H s)(hf:∀b∈ch,wq X U H b)(k:∀b u,b∉ch->s.heap.get? b=some u->h'.get? b=some u):Inv X U σ H {s with heap:=h',toks:=t'}:=by
 have Xl:∀b u,H b=some u->b∉ch:=λb u e z=>by rw[(hf b z).1]at e;cases e
 refine I.step (λb hb=>⟨(hf b hb).2.2.2.1,(hf b hb).2.1,(hf b hb).2.2.2.2.1,(hf b hb).2.2.2.2.2⟩) (λb u _ _ hc e _=>k b u hc e) (λb u _ _ hc e _=>⟨u.slots,k b u hc e⟩)
  (λ_ _ _ _ n=>n) (λb u hc e=>⟨u,k b u hc e⟩) (λ_ _ e=>e) (λ_ _ _ e=>e) (λb ps e=>⟨#[],by rw[e];simp⟩) (λm hm=>?_) (λb u e=>?_) I.bare
 .obtain⟨o',es,ep,ho,r⟩:=hm;exact⟨o',es,ep,k _ o' (λz=>(hf _ z).2.1 rfl) ho,r⟩
 .refine(I.ba b u e).xS (λc v hc q=>k c v ?_ q) (λ_ q=>q) λ_ _ q=>q;rcases hc with z|z
  .rw[z];exact Xl b u e
  .exact Xl c _ z
def kr(h:Vals xs us):∀{i:Nat}{x:V},xs[i]?=some x->∃u,us[i]?=some u/\RelV x u:=by
 induction h with
 |nil=>intro i x e;simp at e
 |cons r t ih=>
  intro i x e;cases i with
  |zero=>simp at e;subst e;exact⟨_,rfl,r⟩
  |succ i=>exact ih (by simpa using e)
end L2
variable{e:Bf}{È:Bg}{Ë:O BF}
namespace L2
def rQ{E:cr->db->Prop}{s:db}{t:f8}(vi:e≠it)(Ĥ:t≠e)(Mf:t≠it)(hz:KM s.heap e it i È)(hi:s.heap.IsTupleIter it t i)(ht:s.heap.IsTuple t items)(hx:items[i]?=some x)(q:∀(h':re) (tk:Nat),IsEnumOut h' e it (i+1:Nat) x s.heap.objs.size->h'.IsTupleIter it t (i+1)->Fa h' s.heap.objs.size (.int i s.toks) x->(∀c o,c≠e->c≠it->s.heap.get? c=some o->h'.get? c=some o)->Q (.ref s.heap.objs.size) {s with heap:=h',toks:=tk}):gl (im prog w) A (ul.«enumerate.__next__» {pos:=[.ref e]}) (λfin s'=>∃v,fin=D7 (ED v)/\Q v s') E s:=by
 show gl _ _ (field (.ref e) 2 >>= λr=>_) _ _ s;refine Aa (AN hz rfl rfl ?_);refine Aa (hV hi ht hx λh1 j1 b1=>?_);have z1:=(b1.2 _ vi).trans hz;refine Aa (AN z1 rfl rfl ?_);refine Aa (AN z1 rfl rfl ?_);refine Aa (wpAny_mkInt ?_);refine Aa (AM z1 (show 3 < 6 by decide) λh2 z2 b2=>?_);refine Aa (AM z2 (show 4 < 6 by decide) λh3 z3 b3=>?_);refine Aa (Cu ?_ (by show 2<=sizeLine;decide));have kp:∀b o,h3.get? b=some o->(h3.push {cls:=.type "tuple",data:=.seq [CJ i s.toks,x].toArray}).get? b=some o:=λb o e=>Aj _ e;have vB:(h3.push {cls:=.type "tuple",data:=.seq [CJ i s.toks,x].toArray}).get? h3.objs.size=some {cls:=.type "tuple",data:=.seq #[.int i s.toks,x]}:=An _ rfl;generalize h3.push {cls:=.type "tuple",data:=.seq [CJ i s.toks,x].toArray}=h4 at kp vB ⊢;have z4:=kp _ _ z3;refine Aa ?_;refine Aa (AN z4 rfl rfl ?_);refine Af ?_;refine Aa (CV ?_);refine Aa (AN z4 rfl rfl ?_);refine Aa (AM z4 (show 5 < 6 by decide) λh5 z5 b5=>?_);refine Aa ?_;refine Aa (AM z5 (show 0 < 6 by decide) λh6 z6 b6=>?_);refine AM z6 (show 1 < 6 by decide) λh7 z7 b7=>?_;refine Aa (CD ?_);have Kl:∀b,b≠e->h7.get? b=h4.get? b:=λb n=>(b7.2 b n).trans ((b6.2 b n).trans (b5.2 b n));have ne:s.heap.objs.size≠e:=λz=>by have:=Ao hz;rw[<- z]at this;exact AE _ this
 refine Af ⟨.ref h3.objs.size,rfl,?_⟩;rw[(b3.1.trans (b2.1.trans b1.1))]at z7 vB ⊢;refine q h7 _ ?_ ?_ ?_ ?_
 .exact z7
 .obtain⟨o,eo,p⟩:=j1;refine⟨o,?_,p⟩;rw[Kl _ (Bt vi)];exact kp _ _ ((b3.2 _ (Bt vi)).trans ((b2.2 _ (Bt vi)).trans eo))
 .rw[Fa,Kl _ ne];exact vB
 .intro c o n1 n2 ec;rw[Kl _ n1];exact kp _ _ (((λb n1 n2=>(b3.2 b n1).trans ((b2.2 b n1).trans (b1.2 b n2))) _ n1 n2).trans ec)
def uL{s:db}{t:f8}{Q:Gq->db->Prop}(hA:A.handled=ci)(hz:KM s.heap e it i È)(hi:s.heap.IsTupleIter it t i)(ht:s.heap.IsTuple t items)(hx:items[i]?=ci)(q:∀(h':re) (x:f8),(∀c o,c≠it->s.heap.get? c=some o->h'.get? c=some o)->(∃o,h'.get? x=some o/\o.cls=.type "StopIteration")->E (.ref x) {s with heap:=h'}):gl (im prog w) A (ul.«enumerate.__next__» {pos:=[.ref e]}) Q E s:=by
 show gl _ _ (field (.ref e) 2 >>= λr=>_) _ _ s;exact Aa (AN hz rfl rfl (Aa (iV hA hi ht hx λh' x k ex=>q h' x (λc o n e'=>k c o n e') ex)))
def oj{s:db}{t:f8}{Q:Option cr->db->Prop}(vi:e≠it)(Ĥ:t≠e)(Mf:t≠it)(hz:KM s.heap e it i È)(hi:s.heap.IsTupleIter it t i)(ht:s.heap.IsTuple t items)(hx:items[i]?=some x)(q:∀(h':re) (tk:Nat),IsEnumOut h' e it (i+1:Nat) x s.heap.objs.size->h'.IsTupleIter it t (i+1)->Fa h' s.heap.objs.size (.int i s.toks) x->(∀c o,c≠e->c≠it->s.heap.get? c=some o->h'.get? c=some o)->Q (some (.ref s.heap.objs.size)) {s with heap:=h',toks:=tk}):gl (im prog w) A (FS (.ref e)) Q E s:=by
 have ty:s.TypeIs (.ref e) "enumerate":=⟨_,hz,rfl⟩;refine Aa (Ci (AY ty BE (Bj BE ty CU ?_ (CK _))));exact rQ vi Ĥ Mf hz hi ht hx λh' tk a b c d=>Af (q h' tk a b c d)
def p0{s:db}{t:f8}{Q:Option cr->db->Prop}(hA:A.handled=ci)(hz:KM s.heap e it i È)(hi:s.heap.IsTupleIter it t i)(ht:s.heap.IsTuple t items)(hx:items[i]?=ci)(q:∀h':re,(∀c o,c≠it->s.heap.get? c=some o->h'.get? c=some o)->Q ci {s with heap:=h'}):gl (im prog w) A (FS (.ref e)) Q E s:=by
 have ty:s.TypeIs (.ref e) "enumerate":=⟨_,hz,rfl⟩;refine Aa (Ci (AY ty BE (Bj BE ty CU ?_ (CK _))));refine uL hA hz hi ht hx λh' x k ex=>?_;obtain⟨o,eo,hc⟩:=ex;exact Aa (CM ⟨o,eo,hc⟩ Pi (Af (q h' k)))
def rG(t:f8)(items:Array cr):Meets (ul.«enumerate.__new__» {pos:=[.type "enumerate",.ref t]}) (λ_ R s=>s.heap.IsTuple t items/\
  ∀h':re,KM h' (s.heap.objs.size+1) s.heap.objs.size (0:Nat) .none->h'.IsTupleIter s.heap.objs.size t 0->(∀b o,s.heap.get? b=some o->h'.get? b=some o)->R (.ok (.ret (.ref (s.heap.objs.size+1)))) {s with heap:=h'}):=
 .of_wp λprog w A R s h=>by
  obtain⟨h1,q⟩:=h;refine Aa ?_;refine Aa (BA rfl ?_);refine Aa (BA sub_enumerate ?_);refine Af ?_;refine Aa ?_;refine Aa (wpAny_stack_any λst=>Af ?_);have fin:gl (im prog w) A.in1 (pyIter (.ref t) >>= λit=>(Builtin.SmallTypes.newRecord (.type "enumerate") (Builtin.SmallTypes.ownedTupleFields++[it,wv 0,.none,.none]) >>= λr=>ret r)) (λfin s'=>∃v,fin=D7 (ED v)/\R (Except.ok (ED v)) s') (λe s'=>R (Gk e) s') s:=by
   refine Aa (EI h1 ?_);have k1:∀b o,s.heap.get? b=some o->(s.heap.push {cls:=.type "tuple_iterator",data:=.fields #[.ref t,.int 0 0]}).get? b=some o:=λb o e=>Aj _ e;have g1:(s.heap.push {cls:=.type "tuple_iterator",data:=.fields #[.ref t,.int 0 0]}).get? s.heap.objs.size=some {cls:=.type "tuple_iterator",data:=.fields #[.ref t,.int 0 0]}:=An _ rfl;have z1:(s.heap.push {cls:=.type "tuple_iterator",data:=.fields #[.ref t,.int 0 0]}).objs.size=s.heap.objs.size+1:=BD ..;generalize s.heap.push {cls:=.type "tuple_iterator",data:=.fields #[.ref t,.int 0 0]}=xc at k1 g1 z1 ⊢;show gl _ _ (newObj (.type "enumerate") (.fields #[.none,.bool false,.ref s.heap.objs.size,wv 0,.none,.none]) >>= λr=>ret r) _ _ _;refine Aa (BO ?_ (by simp[sizeOk];decide));have g2:(xc.push {cls:=.type "enumerate",data:=.fields #[.none,.bool false,.ref s.heap.objs.size,wv 0,.none,.none]}).get? xc.objs.size=some {cls:=.type "enumerate",data:=.fields #[.none,.bool false,.ref s.heap.objs.size,wv 0,.none,.none]}:=An _ rfl;refine Af ⟨.ref xc.objs.size,rfl,?_⟩;rw[z1]at g2 ⊢;exact q _ g2 ⟨_,Aj _ g1,rfl,rfl⟩ λb o e=>Aj _ (k1 _ _ e)
  refine wpAny_ite_split (λ_=>?_) (λ_=>?_)
  .exact Aa (BA rfl fin)
  .exact Aa (BA rfl fin)
def K6{s:db}{t:f8}(h1:s.heap.IsTuple t items)(q:∀h':re,KM h' (s.heap.objs.size+1) s.heap.objs.size (0:Nat) .none->h'.IsTupleIter s.heap.objs.size t 0->(∀b o,s.heap.get? b=some o->h'.get? b=some o)->Q (.ref (s.heap.objs.size+1)) {s with heap:=h'}):gl (im prog w) A (call (.type "enumerate") [.ref t]) Q E s:=
 callType_new Dx ⋯ (F.typeCall_enumerate_1 _) (F.newCall_enumerate_1 _) (λo=>F.args_object_init_2 o _) F.entry_enumerate_new (rG t items) ⟨h1,λh' z i k=>⟨⟨_,z,rfl⟩,q h' z i k⟩⟩
def Ite(K:Ab)(a:f8):It where
 go:=λi H=>∃xs x,d6 K H a xs/\xs[i]?=some x
 TN:=λi H v H'=>∃p x,v=.ref p/\H p=ci/\H'=upd H p (.tup [.int i,x])/\∀xs,d6 K H a xs->xs[i]?=some x
 stop:=λi H=>∃xs,d6 K H a xs/\xs.length<=i
theorem MY{K:Ab}{kk:Nat}{t:f8}(vi:e≠it)(Ĥ:t≠e)(Mf:t≠it):Turn P w K (.Tuple Ë kk pos) (Ite K t) [e,it] e (λi h=>(∃È,KM h e it (i:Nat) È)/\h.IsTupleIter it t i) where
 mem:=by simp
 obj:=λi h st b hb=>by
  simp at hb;rcases hb with rfl|rfl
  .obtain⟨⟨_,e⟩,_⟩:=st;exact⟨_,e,λv z=>by cases z⟩
  .obtain⟨_,⟨o,e,_,d⟩⟩:=st;exact⟨o,e,λv z=>by rw[d]at z;cases z⟩
 keep:=λi h h' st k=>⟨let ⟨o,e'⟩:=st.1;⟨o,k e (by simp) _ e'⟩,let ⟨o,e',p⟩:=st.2;⟨o,k it (by simp) _ e',p⟩⟩
 item:=by
  intro X hP hw hK hc i U s σ H E I hf st hg;subst hP hw hK;obtain⟨xs,x,hx,gx⟩:=hg;obtain⟨ao,rx,tx,_⟩:=I.tuple hx;obtain⟨u,gu,ru⟩:=kr rx gx;obtain⟨⟨È,hz⟩,hi⟩:=st;refine oj vi Ĥ Mf hz hi tx (by simpa using gu) λh' tk zo j np k=>?_;refine⟨_,rfl,?_⟩;refine C6 zo λh2 z2 b2=>?_;have le:=Ao hz;have li:=let ⟨_,e',_⟩:=hi;Ao e';have lt:∀b∈[e,it],b<s.heap.objs.size:=λb hb=>by
   simp at hb;rcases hb with rfl|rfl
   .exact le
   .exact li
  have Z0:∀b o,b∉[e,it]->s.heap.get? b=some o->h2.get? b=some o:=λb o hb e'=>by
   have RK:b≠e:=λq=>hb (by simp[q]);rw[b2.2 b RK];exact k b o RK (λq=>hb (by simp[q])) e'
  refine⟨.ref s.heap.objs.size,upd H s.heap.objs.size (.tup [.int i,x]),I.nX hf Z0 (Al _) ⟨by show 2<=sizeLine;decide,[.int i s.toks,u],.cons ⟨_,rfl⟩ (.cons ru .nil),⟨_,((b2.2 _ (λz=>AE _ (by have:=le;rw[<- z]at this;exact this))).trans np),rfl,_,rfl⟩,_,((b2.2 _ (λz=>AE _ (by have:=le;rw[<- z]at this;exact this))).trans np),rfl⟩,rfl,⟨_,x,rfl,(I.ba.fresh (Al s.heap.objs.size)),rfl,λxs' h'=>by rw[I.lH h' hx];exact gx⟩,⟨⟨_,z2⟩,let ⟨o,e',p⟩:=j;⟨o,(b2.2 _ (Bt vi)).trans e',p⟩⟩,λb hb=>?_⟩;rw[aj (AA (lt b hb))];exact(hf b hb).1
 done:=by
  intro X hP hw hK hc i U s σ H E I hf st hg;subst hP hw hK;obtain⟨xs,hx,hl⟩:=hg;obtain⟨ao,rx,tx,_⟩:=I.tuple hx;have el:=rx.length;obtain⟨⟨È,hz⟩,hi⟩:=st;refine p0 (I.ok.hd hc) hz hi tx (by simp;lia) λh' k=>⟨rfl,I.rZ hf λb o hb e'=>k b o (λz=>hb (by simp[z])) e'⟩
 self:=λA i s Q E st h=>let ⟨_,e'⟩:=st.1;CC e' h
end L2
namespace My
def Tr.post:Tr->O Tr
 |.leaf x=>[.leaf x]
 |.node l r=>l.post++r.post++[.node l r]
def Tr.kH:∀t:Tr,t.post.length=t.size
 |.leaf _=>rfl
 |.node l r=>by show(l.post++r.post++[_]).length=l.size+r.size+1;rw[Ak,Ak,l.kH,r.kH];rfl
def iT(ts:O Tr):O Tr:=(ts.map Tr.post).flatten
def jx(a b:O Tr):iT (a++b)=iT a++iT b:=by unfold iT;rw[AI,List.flatten_append]
def qa(t:Tr):iT [t]=t.post:=by simp[iT]
def Ni(t u:Tr):iT [t,u]=t.post++u.post:=by simp[iT]
inductive Ent where
 |word (x:Str)
 |pair (a b:Nat)
def Tr.nd:Tr->Nat->O Ent
 |.leaf x,_=>[.word x]
 |.node l r,o=>l.nd o++r.nd (o+l.size)++[.pair (o+l.size-1) (o+l.size+r.size-1)]
def Tr.bH:∀(t:Tr) (o:Nat),(t.nd o).length=t.size
 |.leaf _,_=>rfl
 |.node l r,o=>by show(l.nd o++r.nd (o+l.size)++[_]).length=l.size+r.size+1;rw[Ak,Ak,l.bH,r.bH];rfl
def run:O Tr->O Ent->O Nat->Option (O Ent×O Nat)
 |[],Z,ls=>some (Z,ls)
 |.leaf x::k,Z,ls=>run k (Z++[.word x]) (Z.length::ls)
 |.node _ _::k,Z,b::a::ls=>run k (Z++[.pair a b]) (Z.length::ls)
 |.node _ _::_,_,_=>ci
theorem tu:∀(t:Tr) (k:O Tr) (Z:O Ent) (ls:O Nat),run (t.post++k) Z ls=run k (Z++t.nd Z.length) ((Z.length+t.size-1)::ls)
 |.leaf x,k,Z,ls=>rfl
 |.node l r,k,Z,ls=>by
  have e1:(Tr.node l r).post++k=l.post++(r.post++(Tr.node l r::k)):=by show l.post++r.post++[_]++k=_;simp
  rw[e1,tu l,tu r];have e2:(Z++l.nd Z.length).length=Z.length+l.size:=by rw[Ak,l.bH]
  rw[e2];show run k _ _=run k _ _;have e3:(Z++l.nd Z.length++r.nd (Z.length+l.size)).length=Z.length+(Tr.node l r).size-1:=by
   rw[Ak,Ak,l.bH,r.bH];show _=Z.length+(l.size+r.size+1)-1;lia
  rw[e3];have e4:Z++(Tr.node l r).nd Z.length=Z++l.nd Z.length++r.nd (Z.length+l.size)++[.pair (Z.length+l.size-1) (Z.length+l.size+r.size-1)]:=by
   show Z++(l.nd Z.length++r.nd (Z.length+l.size)++[_])=_;simp
  rw[e4]
def Nc(t:Tr):run t.post [] []=some (t.nd 0,[t.size-1]):=by
 have:=tu t [] [] [];rw[Du]at this;rw[this];show some ([]++t.nd 0,[0+t.size-1])=_;simp
def S8(l:O V)(i:Nat):Ent->O V
 |.word _=>l
 |.pair a b=>(l.set a (.int i)).set b (.int i)
def ah:O Ent->Nat->O V->O V
 |[],_,l=>l
 |e::es,i,l=>ah es (i+1) (S8 l i e)
theorem zT:∀(es:O Ent) (e:Ent) (i:Nat) (l:O V),ah (es++[e]) i l=S8 (ah es i l) (i+es.length) e
 |[],e,i,l=>rfl
 |x::es,e,i,l=>by
  show ah (es++[e]) (i+1) (S8 l i x)=S8 (ah es (i+1) (S8 l i x)) (i+(es.length+1)) e;rw[zT es e];congr 1;lia
def WD(l:O V)(i:Nat)(e:Ent):(S8 l i e).length=l.length:=by cases e with
 |word=>rfl
 |pair=>show((l.set _ _).set _ _).length=_;rw[Bw,Bw]
theorem K8:∀(es:O Ent) (i:Nat) (l:O V),(ah es i l).length=l.length
 |[],_,_=>rfl
 |e::es,i,l=>by show(ah es (i+1) (S8 l i e)).length=_;rw[K8 es,WD]
end My
variable{b:BF}{p:Cn}
namespace L2
def Itd(lo:Int)(n:Nat):It:=⟨λi _=>i<n,λi H x H'=>H'=H/\x=.int (lo-i),λi _=>n<=i⟩
theorem GI{K:Ab}(it:f8)(lo:Int)(n:Nat):Turn P w K tg (Itd lo n) [it] it (λi h=>IsRangeIter h it (lo+(i:Nat)*(-1)) ((n:Int)-(i:Nat)) (-1)) where
 mem:=by simp
 obj:=λi h st b hb=>by
  have e:b=it:=by simpa using hb
  subst e;exact⟨_,st,λv z=>by
   have z':=z;cases z'⟩
 keep:=λi h h' st k=>k it (by simp) _ st
 item:=by
  intro X hP hw hK hc i U s σ H E I hf st hg;subst hP hw hK;obtain⟨f0,f1,f2,f3,f4,f5⟩:=hf it (by simp);refine(Walks.range (prog:=X.prog) (I.ok.hd hc) it lo (-1) n).item i s _ _ hg st λv h' tk hv pW kk=>?_;obtain⟨t,rfl⟩:=hv;refine⟨_,rfl,xg pW rfl rfl ⋯ ⟨.int (lo-i),H,(I.turned (λb o hb e=>kk b o (by simpa using hb) e) f0 f1 f3 f4 f5),⟨t,?_⟩,⟨rfl,rfl⟩,pW,λb hb=>(hf b hb).1⟩⟩;rw[show lo+i*(-1)=lo-i by lia]
 done:=by
  intro X hP hw hK hc i U s σ H E I hf st hg;obtain⟨f0,f1,f2,f3,f4,f5⟩:=hf it (by simp);exact wpAny_pyNext_range_end (I.ok.hd hc) st (by have:n<=i:=hg;lia) λh' eb=>⟨rfl,I.turned (λb o hb e=>eb b o hb e) f0 f1 f3 f4 f5⟩
 self:=λ_ _ _ _ _ st h=>wpAny_pyIter_rangeiter st h
section
theorem Nf{σ:St}{s:db}{R:It->Hp->Prop}{lo:Int}{t u v:Tok}{tk:Nat}(I:Inv X U σ H s)(h1:-(2 ^ 62)<=lo)(h2:lo < 2 ^ 62)(h3:-(2 ^ 62)<=hi)(h4:hi < 2 ^ 62)(q:R (Itd lo (lo-hi).toNat) H):gl (im X.prog X.w) X.A (pyIter (.ref s.heap.objs.size)) (PIE X U σ tg R) E {s with heap:=s.heap.push {cls:=.type "range",data:=.fields #[.int lo t,.int hi u,.int (-1) v]},toks:=tk}:=by
 refine wpAny_pyIter_range (IsRange.new ..) (PySem.W.small_down h1 h2 h3 h4) ?_;have I1:Inv X U σ H {s with heap:=s.heap.push {cls:=.type "range",data:=.fields #[.int lo t,.int hi u,.int (-1) v]},toks:=tk}:=I.kept λb o e=>Aj _ e;refine⟨(s.heap.push {cls:=.type "range",data:=.fields #[.int lo t,.int hi u,.int (-1) v]}).objs.size,[(s.heap.push {cls:=.type "range",data:=.fields #[.int lo t,.int hi u,.int (-1) v]}).objs.size],_,_,H,rfl,
  I1.kept λb o e=>Aj _ e,GI _ lo (lo-hi).toNat,?_,λb hb=>?_,q⟩
 .have e1:lo+((0:Nat))*(-1)=lo:=by simp
  have e2:(((lo-hi).toNat))-((0:Nat):Int)=Builtin.Range.rangeSize lo hi (-1):=by rw[PySem.W.rangeSize_down];split<;>lia
  rw[e1,e2];exact An _ rfl
 .have e:b=(s.heap.push {cls:=.type "range",data:=.fields #[.int lo t,.int hi u,.int (-1) v]}).objs.size:=by simpa using hb
  subst e;exact I1.uD (Al _) (I1.ba.fresh (Al _))
def adU(ta:TA):TI:=λσ H R=>ta σ H λvs H1=>∃i j:Int,vs=[.int i,.int j,.int (-1)]/\(-(2 ^ 62)<=i/\i<2 ^ 62/\-(2 ^ 62)<=j/\j<2 ^ 62)/\R (Itd i (i-j).toNat) H1
def Nl{a c:nw}{ta:TA}(hg:Gl X "range")(hm:X.mg "range"=ci)(ha:PA X [a,b,c] ta)(hs:‹gt [a,b,c] X.env=[(false,pc a X.env),(false,pc b X.env),(false,pc c X.env)]›)(q8:‹gt [b,c] X.env=[(false,pc b X.env),(false,pc c X.env)]›):PI X tg (.Call (.Name "range" p) [a,b,c] [] pos) (adU ta):=by
 intro U s σ H R I h;refine Call_ (fc I hg hm boot_range (A8 (bE (ha pos U s σ H _ I h) λus s1 ⟨vs,H1,I1,r1,q1⟩=>?_) (by show gt _ _=_;rw[hs,q8]) (by rw[q8];rfl)));obtain⟨i,j,e,⟨q1,q2,q3,q4⟩,q⟩:=q1;subst e;cases r1 with
 |cons r rr=>
  cases rr with
  |cons r' rr=>
   cases rr with
   |cons r'' rr=>
    cases rr;obtain⟨t,rfl⟩:=r;obtain⟨t',rfl⟩:=r';obtain⟨t'',rfl⟩:=r'';refine call_range_3 ⋯ (Nf I1 q1 q2 q3 q4 q) (.inl ?_);unfold Builtin.divisionGoesByPylong;have e1:decide ((if ((-1)==0)=true then 0 else (-1:Int).natAbs.log2 / 30+1) > 300)=false:=by decide
    simp only[e1,F2]
end
def aff(K:Ab)(a:f8):It where
 go:=λi H=>∃xs x,bM K H a xs/\xs[i]?=some x
 TN:=λi H v H'=>∃p x,v=.ref p/\H p=ci/\H'=upd H p (.tup [.int i,x])/\∀xs,bM K H a xs->xs[i]?=some x
 stop:=λi H=>∃xs,bM K H a xs/\xs.length<=i
theorem Jn{K:Ab}{kk:Nat}{t:f8}(vi:e≠it):Turn P w K (.Tuple Ë kk pos) (aff K t) [e,it] e (λi h=>(∃È,KM h e it (i:Nat) È)/\h.IsListIter it t i) where
 mem:=by simp
 obj:=λi h st b hb=>by
  simp at hb;rcases hb with rfl|rfl
  .obtain⟨⟨_,e⟩,_⟩:=st;exact⟨_,e,λv z=>by cases z⟩
  .obtain⟨_,⟨o,e,_,d⟩⟩:=st;exact⟨o,e,λv z=>by rw[d]at z;cases z⟩
 keep:=λi h h' st k=>⟨let ⟨o,e'⟩:=st.1;⟨o,k e (by simp) _ e'⟩,let ⟨o,e',p⟩:=st.2;⟨o,k it (by simp) _ e',p⟩⟩
 item:=by
  intro X hP hw hK hc i U s σ H E I hf st hg;subst hP hw hK;obtain⟨xs,x,hx,gx⟩:=hg;obtain⟨ao,rx,tx,_⟩:=I.list hx;obtain⟨u,gu,ru⟩:=kr rx gx;obtain⟨⟨È,hz⟩,hi⟩:=st;refine wpAny_pyNext_enum_item hz hi tx.isList (by simpa using gu) vi λh' zo j np _ k=>?_;refine⟨_,rfl,?_⟩;refine C6 zo λh2 z2 b2=>?_;have le:=Ao hz;have li:=let ⟨_,e',_⟩:=hi;Ao e';have lt:∀b∈[e,it],b<s.heap.objs.size:=λb hb=>by
   simp only[Ay,Cs,or_false]at hb;rcases hb with rfl|rfl
   .exact le
   .exact li
  have Z0:∀b o,b∉[e,it]->s.heap.get? b=some o->h2.get? b=some o:=λb o hb e'=>by
   have RK:b≠e:=λq=>hb (by simp[q]);rw[b2.2 b RK];exact k b o RK (λq=>hb (by simp[q])) e'
  refine⟨.ref s.heap.objs.size,upd H s.heap.objs.size (.tup [.int i,x]),I.nX hf Z0 (Al _) ⟨by show 2<=sizeLine;decide,[.int i s.toks,u],.cons ⟨_,rfl⟩ (.cons ru .nil),⟨_,((b2.2 _ (λz=>AE _ (by have:=le;rw[<- z]at this;exact this))).trans np),rfl,_,rfl⟩,_,((b2.2 _ (λz=>AE _ (by have:=le;rw[<- z]at this;exact this))).trans np),rfl⟩,rfl,⟨_,x,rfl,(I.ba.fresh (Al s.heap.objs.size)),rfl,λxs' h'=>by rw[I.uf h' hx];exact gx⟩,⟨⟨_,z2⟩,let ⟨o,e',p⟩:=j;⟨o,(b2.2 _ (Bt vi)).trans e',p⟩⟩,λb hb=>?_⟩;rw[aj (AA (lt b hb))];exact(hf b hb).1
 done:=by
  intro X hP hw hK hc i U s σ H E I hf st hg;subst hP hw hK;obtain⟨xs,hx,hl⟩:=hg;obtain⟨ao,rx,tx,_⟩:=I.list hx;have el:=rx.length;obtain⟨⟨È,hz⟩,hi⟩:=st;refine wpAny_pyNext_enum_end (I.ok.hd hc) hz hi tx.isList (by simp;lia) λh' k=>⟨rfl,I.rZ hf λb o hb e'=>k b o (λz=>hb (by simp[z])) e'⟩
 self:=λA i s Q E st h=>let ⟨_,e'⟩:=st.1;CC e' h
def aX.rel{so:r9}{N:O Str}{sc:r9}(S:aX so N sc N' ix):aX (Re so env) N sc N' ix:=by
 refine⟨S.kind,S.nc,S.loc,λy hy hk=>?_,S.nd,S.len,S.map⟩;unfold Re;rw[eB];rcases S.fr y hy hk with h|h
 .rw[h];left;rfl
 .rw[h];by_cases c:(env.scope.kind==.function&&env.kindOf y.1==some .cell)=true
  .left;simpa using c
  .right;simp at c ⊢;exact c
end L2
namespace My
def en:Tr->Nat->Nat->Ent
 |.leaf x,_,_=>.word x
 |.node l r,o,j=>if j<l.size then en l o j else if j<l.size+r.size then en r (o+l.size) (j-l.size) else .pair (o+l.size-1) (o+l.size+r.size-1)
def up:Tr->Nat->Nat->O Nat->O Nat
 |.leaf _,o,_,ab=>o::ab
 |.node l r,o,j,ab=>if j<l.size then up l o j ((o+l.size+r.size)::ab) else if j<l.size+r.size then up r (o+l.size) (j-l.size) ((o+l.size+r.size)::ab) else (o+l.size+r.size)::ab
def kl:Tr->Nat->Nat->V->V
 |.leaf _,_,_,p=>p
 |.node l r,o,j,p=>if j<l.size then kl l o j (.int (o+l.size+r.size:Nat)) else if j<l.size+r.size then kl r (o+l.size) (j-l.size) (.int (o+l.size+r.size:Nat)) else p
def be:Tr->Nat->Nat->O Nat
 |.leaf _,o,_=>[o]
 |.node l r,o,j=>if j<l.size then be l o j else if j<l.size+r.size then be r (o+l.size) (j-l.size) else be l o (l.size-1)++be r (o+l.size) (r.size-1)
theorem kL:∀(t:Tr) (o j:Nat),j<t.size->(t.nd o)[j]?=some (en t o j)
 |.leaf x,o,j,h=>by
  have:j=0:=by have:j<1:=h;lia
  subst this;rfl
 |.node l r,o,j,h=>by
  have es:(Tr.node l r).size=l.size+r.size+1:=rfl;have hn:(Tr.node l r).nd o=l.nd o++r.nd (o+l.size)++[.pair (o+l.size-1) (o+l.size+r.size-1)]:=rfl;have ln:=l.bH o;have rn:=r.bH (o+l.size);unfold en;by_cases c1:j<l.size
  .rw[if_pos c1,hn,AG,AX ∅];exact kL l o j c1
  .rw[if_neg c1];by_cases c2:j<l.size+r.size
   .rw[if_pos c2,hn,AG,Bd ∅,AX ∅,ln];exact kL r _ _ ∅
   .rw[if_neg c2,hn,Bd (by rw[Ak];lia),Ak,ln,rn];have:j-(l.size+r.size)=0:=by lia
    rw[this];rfl
theorem S1:∀(t:Tr) (o j:Nat),j<t.size->(∃x,en t o j=.word x/\be t o j=[o+j])\/∃a b,en t o j=.pair (o+a) (o+b)/\a<j/\b<j/\be t o j=be t o a++be t o b
 |.leaf x,o,j,h=>by
  have:j=0:=by have:j<1:=h;lia
  subst this;exact .inl ⟨x,rfl,rfl⟩
 |.node l r,o,j,h=>by
  have es:(Tr.node l r).size=l.size+r.size+1:=rfl;have lp:=l.size_pos;have rp:=r.size_pos;by_cases c1:j<l.size
  .have e1:en (.node l r) o j=en l o j:=by rw[en,if_pos c1]
   have e2:∀k,k<l.size->be (.node l r) o k=be l o k:=λk hk=>by rw[be,if_pos hk]
   rw[e1];rcases S1 l o j c1 with⟨x,q1,q2⟩|⟨a,b,q1,q2,q3,q4⟩
   .exact .inl ⟨x,q1,by rw[e2 j c1];exact q2⟩
   .exact .inr ⟨a,b,q1,q2,q3,by rw[e2 j c1,e2 a ∅,e2 b ∅];exact q4⟩
  .by_cases c2:j<l.size+r.size
   .have e1:en (.node l r) o j=en r (o+l.size) (j-l.size):=by rw[en,if_neg c1,if_pos c2]
    have e2:∀k,k<r.size->be (.node l r) o (l.size+k)=be r (o+l.size) k:=λk hk=>by
     rw[be,if_neg ∅,if_pos ∅];congr 1;lia
    have ej:j=l.size+(j-l.size):=by lia
    rw[e1];rcases S1 r (o+l.size) (j-l.size) ∅ with⟨x,q1,q2⟩|⟨a,b,q1,q2,q3,q4⟩
    .refine .inl ⟨x,q1,?_⟩;rw[ej,e2 _ ∅,q2];congr 1;lia
    .refine .inr ⟨l.size+a,l.size+b,?_,by lia,by lia,?_⟩
     .rw[q1,Be,Be]
     .rw[e2 a ∅,e2 b ∅,ej,e2 _ ∅,q4]
   .have ej:j=l.size+r.size:=by lia
    refine .inr ⟨l.size-1,l.size+r.size-1,?_,by lia,by lia,?_⟩
    .rw[en,if_neg c1,if_neg c2];congr 1<;>lia
    .rw[be,if_neg c1,if_neg c2,be,if_pos ∅,be,if_neg ∅,if_pos ∅];congr 2;lia
theorem sZ:∀(t:Tr) (o j:Nat) (p:V) (ab:O Nat),j<t.size->(j=t.size-1/\kl t o j p=p/\up t o j ab=(o+j)::ab)\/∃a,j<a/\a<t.size/\kl t o j p=.int (o+a:Nat)/\up t o j ab=(o+j)::up t o a ab
 |.leaf x,o,j,p,ab,h=>by
  have:j=0:=by have:j<1:=h;lia
  subst this;exact .inl ⟨rfl,rfl,rfl⟩
 |.node l r,o,j,p,ab,h=>by
  have es:(Tr.node l r).size=l.size+r.size+1:=rfl;have lp:=l.size_pos;have rp:=r.size_pos;have er:up (.node l r) o (l.size+r.size) ab=(o+l.size+r.size)::ab:=by rw[up,if_neg ∅,if_neg ∅]
  by_cases c1:j<l.size
  .have e1:kl (.node l r) o j p=kl l o j (.int (o+l.size+r.size:Nat)):=by rw[kl,if_pos c1]
   have e2:∀k,k<l.size->up (.node l r) o k ab=up l o k ((o+l.size+r.size)::ab):=λk hk=>by rw[up,if_pos hk]
   rw[e1,e2 j c1];rcases sZ l o j (.int (o+l.size+r.size:Nat)) ((o+l.size+r.size)::ab) c1 with⟨q1,q2,q3⟩|⟨a,q1,q2,q3,q4⟩
   .refine .inr ⟨l.size+r.size,by lia,by lia,by rw[q2,Be],by rw[q3,er]⟩
   .exact .inr ⟨a,q1,by lia,q3,by rw[q4,e2 a q2]⟩
  .by_cases c2:j<l.size+r.size
   .have e1:kl (.node l r) o j p=kl r (o+l.size) (j-l.size) (.int (o+l.size+r.size:Nat)):=by rw[kl,if_neg c1,if_pos c2]
    have e2:∀k,k<r.size->up (.node l r) o (l.size+k) ab=up r (o+l.size) k ((o+l.size+r.size)::ab):=λk hk=>by
     rw[up,if_neg ∅,if_pos ∅];congr 1;lia
    obtain⟨i,rfl⟩:∃i,j=l.size+i:=⟨j-l.size,by lia⟩;have ei:l.size+i-l.size=i:=by lia
    rw[e1,e2 i ∅,ei];rcases sZ r (o+l.size) i (.int (o+l.size+r.size:Nat)) ((o+l.size+r.size)::ab) ∅ with⟨q1,q2,q3⟩|⟨a,q1,q2,q3,q4⟩
    .refine .inr ⟨l.size+r.size,by lia,by lia,by rw[q2,Be],by rw[q3,er,Be]⟩
    .exact .inr ⟨l.size+a,by lia,by lia,by rw[q3,Be],by rw[q4,e2 a q2,Be]⟩
   .have ej:j=l.size+r.size:=by lia
    refine .inl ⟨by lia,by rw[kl,if_neg c1,if_neg c2],?_⟩;rw[ej,er,Be]
def mP:Tr->Nat->V->O V
 |.leaf _,_,p=>[p]
 |.node l r,o,p=>mP l o (.int (o+l.size+r.size:Nat))++mP r (o+l.size) (.int (o+l.size+r.size:Nat))++[p]
theorem jV:∀(t:Tr) (o:Nat) (p:V),(mP t o p).length=t.size
 |.leaf _,_,_=>rfl
 |.node l r,o,p=>by
  unfold mP;rw[Ak,Ak,jV l,jV r];rfl
theorem MD(t:Tr)(o:Nat)(p q:V)(A B:O V):(A++mP t o p++B).set (A.length+t.size-1) q=A++mP t o q++B:=by
 have key:∃I,mP t o p=I++[p]/\mP t o q=I++[q]:=by
  cases t with
  |leaf _=>exact⟨[],rfl,rfl⟩
  |node l r=>exact⟨_,rfl,rfl⟩
 obtain⟨I,e1,e2⟩:=key;have h1:=jV t o p;rw[e1,Ak]at h1;have ff:I.length+1=t.size:=h1;rw[e1,e2];have ei:A.length+t.size-1=(A++I).length:=by rw[Ak];lia
 rw[ei,show A++(I++[p])++B=(A++I)++p::B by simp,List.set_append_right _ _ (Al _),Es];simp
theorem S7:∀(es fs:O Ent) (i:Nat) (l:O V),ah (es++fs) i l=ah fs (i+es.length) (ah es i l)
 |[],fs,i,l=>rfl
 |e::es,fs,i,l=>by
  show ah (es++fs) (i+1) (S8 l i e)=ah fs (i+(es.length+1)) (ah es (i+1) (S8 l i e));rw[S7 es fs];congr 1;lia
theorem K9:∀(t:Tr) (A B:O V),ah (t.nd A.length) A.length (A++Ap t.size .aB++B)=A++mP t A.length .aB++B
 |.leaf x,A,B=>rfl
 |.node l r,A,B=>by
  have es:(Tr.node l r).size=l.size+r.size+1:=rfl;have hn:(Tr.node l r).nd A.length=l.nd A.length++r.nd (A.length+l.size)++[.pair (A.length+l.size-1) (A.length+l.size+r.size-1)]:=rfl;have ln:=l.bH A.length;have h1:=K9 l A (Ap r.size .aB++([V.aB]++B));have e0:A++Ap (Tr.node l r).size V.aB++B=A++Ap l.size .aB++(Ap r.size .aB++([V.aB]++B)):=by
   rw[es,<- DQ,<- DQ];simp only[AG];rfl
  rw[hn,zT,S7,e0,h1,ln];have la:(A++mP l A.length V.aB).length=A.length+l.size:=by rw[Ak,jV]
  have h2:=K9 r (A++mP l A.length V.aB) ([V.aB]++B);rw[la]at h2;have e1:A++mP l A.length V.aB++(Ap r.size V.aB++([V.aB]++B))=A++mP l A.length V.aB++Ap r.size V.aB++([V.aB]++B):=by simp[AG]
  rw[e1,h2,Ak,ln,(r.bH (A.length+l.size))];show((_:O V).set (A.length+l.size-1) _).set (A.length+l.size+r.size-1) _=_;have e2:A++mP l A.length V.aB++mP r (A.length+l.size) V.aB++([V.aB]++B)=A++mP l A.length V.aB++(mP r (A.length+l.size) V.aB++([V.aB]++B)):=by simp[AG]
  rw[e2,(MD l A.length .aB (.int (A.length+(l.size+r.size):Nat)) A (mP r (A.length+l.size) V.aB++([V.aB]++B)))];have lb:(A++mP l A.length (V.int (A.length+(l.size+r.size):Nat))).length=A.length+l.size:=by rw[Ak,jV]
  have s2:=MD r (A.length+l.size) .aB (.int (A.length+(l.size+r.size):Nat)) (A++mP l A.length (V.int (A.length+(l.size+r.size):Nat))) ([V.aB]++B);rw[lb]at s2;have e3:A++mP l A.length (V.int (A.length+(l.size+r.size):Nat))++(mP r (A.length+l.size) V.aB++([V.aB]++B))=A++mP l A.length (V.int (A.length+(l.size+r.size):Nat))++mP r (A.length+l.size) V.aB++([V.aB]++B):=by simp[AG]
  rw[e3,s2];have e4:mP (.node l r) A.length .aB=mP l A.length (.int (A.length+l.size+r.size:Nat))++mP r (A.length+l.size) (.int (A.length+l.size+r.size:Nat))++[.aB]:=rfl;rw[e4,Be A.length l.size r.size];simp[AG]
theorem zR:∀(t:Tr) (o j:Nat) (p:V),j<t.size->(mP t o p)[j]?=some (kl t o j p)
 |.leaf x,o,j,p,h=>by
  have:j=0:=by have:j<1:=h;lia
  subst this;rfl
 |.node l r,o,j,p,h=>by
  have es:(Tr.node l r).size=l.size+r.size+1:=rfl;have ln:=jV l o (.int (o+l.size+r.size:Nat));have rn:=jV r (o+l.size) (.int (o+l.size+r.size:Nat));unfold mP kl;by_cases c1:j<l.size
  .rw[if_pos c1,AG,AX ∅];exact zR l _ _ _ c1
  .rw[if_neg c1];by_cases c2:j<l.size+r.size
   .rw[if_pos c2,AG,Bd ∅,AX ∅,ln];exact zR r _ _ _ ∅
   .rw[if_neg c2,Bd (by rw[Ak];lia),Ak,ln,rn];have:j-(l.size+r.size)=0:=by lia
    rw[this];rfl
def abg(t:Tr)(h:j<t.size):(ah (t.nd 0) 0 (Ap t.size .aB))[j]?=some (kl t 0 j .aB):=by
 have q:=K9 t [] [];have e:([]:O V)++Ap t.size .aB++[]=Ap t.size .aB:=by simp
 have e2:([]:O V)++mP t ([]:O V).length .aB++[]=mP t 0 .aB:=by simp
 rw[e,e2]at q;have q':ah (t.nd 0) 0 (Ap t.size .aB)=mP t 0 .aB:=q;rw[q'];exact zR t 0 j .aB h
end My
variable{H1:L2.Hp}{ι:O Bf}
namespace PL
section
variable{K:Ab}
def Lk(K:Ab)(H:Hp)(a:f8)(xs:O V):Prop:=(∃o,H a=some (.bA o (.lst xs)))\/
  ∃(o:Obj) (ao:Array cr) (n:Nat),K.lookup a=some o/\o.cls=.type "list"/\o.dict=ci/\o.data=.seq ao n/\ao.size<=sizeLine/\Vals xs ao.toList
def Lk.sq(h:Lk K H a xs):bM K H a xs:=h.elim (λh=>.inl (.inr h)) .inr
def IX(b:f8)(h:re):Prop:=∃(ns:O Int) (ao:O cr) (n:Nat),ns.length<=sizeLine/\Vals (ns.map V.int) ao/\h.get? b=some {cls:=.type "list",data:=.seq ao.toArray n}
def dH(H:Hp)(b:f8):Prop:=H b=some (.ext (IX b))
def xk(h:∀p φ,H p=some (.ext φ)->H' p=some (.ext φ)):∀b,dH H b->dH H' b:=λ_ e=>h _ _ e
structure bb(K:Ab)(H H':Hp):Prop where
 t:∀p vs,H p=some (.tup vs)->H' p=some (.tup vs)
 z:∀p o u,H p=some (.bA o u)->H' p=some (.bA o u)
 x:∀b,dH H b->dH H' b
def bb.f{H H':Hp}(t:bb K H H')(p:f8)(vs:O V)(h:Lk K H p vs):Lk K H' p vs:=h.elim (λ⟨o,h⟩=>.inl ⟨o,t.z _ _ _ h⟩) .inr
def bb.refl(H:Hp):bb K H H:=⟨λ_ _ h=>h,λ_ _ _ h=>h,λ_ h=>h⟩
def bb.trans(a:bb K H H1)(b:bb K H1 H2):bb K H H2:=⟨λp vs h=>b.t p vs (a.t p vs h),λp o w h=>b.z p o w (a.z p o w h),λp h=>b.x p (a.x p h)⟩
def _root_.L2.jr.d7(s:jr H H'):bb K H H':=⟨λp vs h=>s _ _ h,λp o u h=>s _ _ h,xk λp φ h=>s _ _ h⟩
inductive PV where
 |aB|bl (b:Bool)|int (i:Int)|str (x:Str)|tup (l:List PV)|ref (n:Nat)|ty (n:String)|cl (l:List PV)|dv (ks vs:List PV)|ob (ns:List Str) (l:List PV)|hand
def kP:Key->PV
 |.inl i=>.int i
 |.inr x=>.str x
inductive PO where
 |lst (xs:List PV)|dk (kvs:List (Key×PV))|dt (kvs:List (List Key×PV))|opq (φ:List V->Prop)
abbrev PH:=O PO
abbrev Gz:=O (Option PV)
mutual
inductive VR(K:Ab)(ι:List f8)(H:Hp):V->PV->Prop
 |aB:VR K ι H .aB .aB
 |bl (b:Bool):VR K ι H (.bl b) (.bl b)
 |int (i:Int):VR K ι H (.int i) (.int i)
 |str (x:Str):VR K ι H (.str x) (.str x)
 |ty (n:String):VR K ι H (.ty n) (.ty n)
 |tup {p:f8}{vs:List V}{l:List PV} (h:H p=some (.tup vs)) (r:ax K ι H vs l):VR K ι H (.ref p) (.tup l)
 |ref {n:Nat}{a:f8} (h:ι[n]?=some a):VR K ι H (.ref a) (.ref n)
 |cl {a:f8}{vs:List V}{l:List PV} (h:Lk K H a vs) (r:ax K ι H vs l):VR K ι H (.ref a) (.cl l)
 |dk {a:f8}{o:Obj}{kvs:List (Key×V)}{ks l:List PV} (h:H a=some (.bA o (.dK kvs))) (e:ks=kvs.map λkv=>kP kv.1) (r:ax K ι H (kvs.map (·.2)) l):VR K ι H (.ref a) (.dv ks l)
 |dt {a:f8}{o:Obj}{kvs:List (List Key×V)}{ks l:List PV} (h:H a=some (.bA o (.dT kvs))) (e:ks=kvs.map λkv=>.tup (kv.1.map kP)) (r:ax K ι H (kvs.map (·.2)) l):VR K ι H (.ref a) (.dv ks l)
 |ob {a C dx:f8}{o:Obj}{fs:List (Str×V)}{ns:List Str}{l:List PV} (h:H a=some (.bA o (.ins C dx fs))) (c:Cls K C) (na:∀f∈ns,Td K C f) (e:ns=fs.map (·.1)) (r:ax K ι H (fs.map (·.2)) l):VR K ι H (.ref a) (.ob ns l)
 |hand {a:f8} (h:dH H a):VR K ι H (.ref a) .hand
inductive ax(K:Ab)(ι:List f8)(H:Hp):List V->List PV->Prop
 |nil:ax K ι H [] []
 |cons {v:V}{p:PV}{vs:List V}{ps:List PV} (r:VR K ι H v p) (t:ax K ι H vs ps):ax K ι H (v::vs) (p::ps)
end
section
variable{ι':O f8}
mutual
theorem VR.mono(ht:bb K H H')(hi:∀(n:Nat) (a:f8),ι[n]?=some a->ι'[n]?=some a):∀{v:V}{p:PV},VR K ι H v p->VR K ι' H' v p
 |_,_,.aB=>.aB
 |_,_,.bl b=>.bl b
 |_,_,.int i=>.int i
 |_,_,.str x=>.str x
 |_,_,.ty n=>.ty n
 |_,_,.tup h r=>.tup (ht.t _ _ h) (ax.mono ht hi r)
 |_,_,.cl h r=>.cl (ht.f _ _ h) (ax.mono ht hi r)
 |_,_,.dk h e r=>.dk (ht.z _ _ _ h) e (ax.mono ht hi r)
 |_,_,.dt h e r=>.dt (ht.z _ _ _ h) e (ax.mono ht hi r)
 |_,_,.ob h c na e r=>.ob (ht.z _ _ _ h) c na e (ax.mono ht hi r)
 |_,_,.ref h=>.ref (hi _ _ h)
 |_,_,.hand h=>.hand (ht.x _ h)
theorem ax.mono(ht:bb K H H')(hi:∀(n:Nat) (a:f8),ι[n]?=some a->ι'[n]?=some a):∀{vs:O V}{ps:O PV},ax K ι H vs ps->ax K ι' H' vs ps
 |_,_,.nil=>.nil
 |_,_,.cons r t=>.cons (VR.mono ht hi r) (ax.mono ht hi t)
end
theorem ax.length:∀{vs:O V}{ps:O PV},ax K ι H vs ps->vs.length=ps.length
 |_,_,.nil=>rfl
 |_,_,.cons _ t=>by rw[Ax,Ax,ax.length t]
theorem ax.get:∀{vs:O V}{ps:O PV}{i:Nat}{p:PV},ax K ι H vs ps->ps[i]?=some p->∃v,vs[i]?=some v/\VR K ι H v p
 |_,_,_,_,.nil,e=>by simp at e
 |_,_,0,_,.cons r _,e=>by simp at e;subst e;exact⟨_,rfl,r⟩
 |_,_,i+1,p,.cons _ t,e=>by
  obtain⟨v,h1,h2⟩:=ax.get t (by simpa using e);exact⟨v,by simpa using h1,h2⟩
theorem ax.aeo:∀{vs:O V}{ps:O PV}{i:Nat}{v:V},ax K ι H vs ps->vs[i]?=some v->∃p,ps[i]?=some p/\VR K ι H v p
 |_,_,_,_,.nil,e=>by simp at e
 |_,_,0,_,.cons r _,e=>by simp at e;subst e;exact⟨_,rfl,r⟩
 |_,_,i+1,p,.cons _ t,e=>by
  obtain⟨v,h1,h2⟩:=ax.aeo t (by simpa using e);exact⟨v,by simpa using h1,h2⟩
theorem ax.set{p:PV}(r:VR K ι H v p):∀{vs:O V}{ps:O PV} (i:Nat),ax K ι H vs ps->ax K ι H (vs.set i v) (ps.set i p)
 |_,_,_,.nil=>.nil
 |_,_,0,.cons _ t=>.cons r t
 |_,_,i+1,.cons q t=>.cons q (ax.set r i t)
theorem ax.append:∀{xs ys:O V}{us ws:O PV},ax K ι H xs us->ax K ι H ys ws->ax K ι H (xs++ys) (us++ws)
 |_,_,_,_,.nil,s=>s
 |_,_,_,_,.cons r t,s=>.cons r (ax.append t s)
theorem ax.take:∀{xs:O V}{us:O PV} (n:Nat),ax K ι H xs us->ax K ι H (xs.take n) (us.take n)
 |_,_,0,_=>.nil
 |_,_,_+1,.nil=>.nil
 |_,_,n+1,.cons r t=>.cons r (ax.take n t)
theorem ax.drop:∀{xs:O V}{us:O PV} (n:Nat),ax K ι H xs us->ax K ι H (xs.drop n) (us.drop n)
 |_,_,0,r=>r
 |_,_,_+1,.nil=>.nil
 |_,_,n+1,.cons _ t=>ax.drop n t
theorem ax.reverse:∀{xs:O V}{us:O PV},ax K ι H xs us->ax K ι H xs.reverse us.reverse
 |_,_,.nil=>.nil
 |_,_,.cons r t=>by rw[DL,DL];exact(ax.reverse t).append (.cons r .nil)
def ax.one{p:PV}(r:VR K ι H v p):ax K ι H [v] [p]:=.cons r .nil
end
structure Go(ι ι':List f8)(H H':Hp):Prop where
 ext:∃m,ι'=ι++m
 new:∀a,a∈ι'->a∉ι->H a=ci
 keep:∀a o,a∉ι->H a=some o->H' a=some o
def Go.refl(ι:O f8)(H:Hp):Go ι ι H H:=⟨⟨[],by simp⟩,λa h n=>absurd h n,λ_ _ _ h=>h⟩
def OR(K:Ab)(ι:O f8)(H:Hp)(a:f8):PO->Prop
 |.lst xs=>∃vs,H a=some (.lst vs)/\ax K ι H vs xs
 |.dk kvs=>∃vs:O (Key×V),H a=some (.dK vs)/\vs.map (·.1)=kvs.map (·.1)/\ax K ι H (vs.map (·.2)) (kvs.map (·.2))
 |.dt kvs=>∃vs:O (O Key×V),H a=some (.dT vs)/\vs.map (·.1)=kvs.map (·.1)/\ax K ι H (vs.map (·.2)) (kvs.map (·.2))
 |.opq φ=>∃vs,H a=some (.lst vs)/\φ vs
structure HR(K:Ab)(ι:List f8)(H:Hp)(h:PH):Prop where
 nd:ι.Nodup
 len:ι.length=h.length
 obj:∀(n:Nat) (a:f8) (o:PO),ι[n]?=some a->h[n]?=some o->OR K ι H a o
theorem iy{l:List α}{x y:α}(h:(l++[x])[n]?=some y):l[n]?=some y\/(n=l.length/\y=x):=by
 by_cases hn:n<l.length
 .rw[AX hn]at h;exact .inl h
 .rw[Bd ∅]at h;obtain⟨k,hk⟩:∃k,k=n-l.length:=⟨_,rfl⟩;rw[<- hk]at h;cases k with
  |zero=>simp at h;exact .inr ⟨by lia,h.symm⟩
  |succ k=>simp at h
end
end PL
variable{a e:BF}
namespace PL
section
variable{K:Ab}
abbrev QV:=PV->PH->Prop
structure ME where
 run:Gz->PH->QV->Prop
 mono:∀{ps h}{Q Q':QV},(∀v h',Q v h'->Q' v h')->run ps h Q->run ps h Q'
structure MT where
 run:Gz->PH->(Bool->PH->Prop)->Prop
 mono:∀{ps h}{Q Q':Bool->PH->Prop},(∀v h',Q v h'->Q' v h')->run ps h Q->run ps h Q'
structure MA where
 run:Gz->PH->(List PV->PH->Prop)->Prop
 mono:∀{ps h}{Q Q':List PV->PH->Prop},(∀v h',Q v h'->Q' v h')->run ps h Q->run ps h Q'
structure ML where
 run:Gz->PH->(List PV->PH->Prop)->Prop
 mono:∀{ps h}{Q Q':List PV->PH->Prop},(∀v h',Q v h'->Q' v h')->run ps h Q->run ps h Q'
structure Src where
 items:List PV
 ok:PH->Prop
 fz:Bool
structure MI where
 run:Gz->PH->(Src->PH->Prop)->Prop
 mono:∀{ps h}{Q Q':Src->PH->Prop},(∀v h',Q v h'->Q' v h')->run ps h Q->run ps h Q'
structure PD where
 nx:Gz->PH->Prop
 rt:QV
 bk:Gz->PH->Prop
 ct:Gz->PH->Prop
structure PD.Le(D D':PD):Prop where
 nx:∀ps h,D.nx ps h->D'.nx ps h
 rt:∀v h,D.rt v h->D'.rt v h
 bk:∀ps h,D.bk ps h->D'.bk ps h
 ct:∀ps h,D.ct ps h->D'.ct ps h
structure MS where
 run:PD->Gz->PH->Prop
 mono:∀{D D' ps h},PD.Le D D'->run D ps h->run D' ps h
structure MG where
 run:PV->Gz->PH->(Gz->PH->Prop)->Prop
 mono:∀{v ps h}{Q Q':Gz->PH->Prop},(∀ps h,Q ps h->Q' ps h)->run v ps h Q->run v ps h Q'
def pQ(K:Ab)(ι:O f8)(H:Hp)(Q:VK):QV:=λp h'=>∀ι' v H',Go ι ι' H H'->HR K ι' H' h'->VR K ι' H' v p->Q v H'
def PE.imp{t t':TE}(h:PE X e t)(f:∀σ H Q,t' σ H Q->t σ H Q):PE X e t':=λU s σ H Q I q=>h U s σ H Q I (f _ _ _ q)
def PT.imp{t t':TT}(h:PT X e t)(f:∀σ H Q,t' σ H Q->t σ H Q):PT X e t':=λU s σ H Q I q=>h U s σ H Q I (f _ _ _ q)
def PW.imp{t t':TT}(h:PW X e t)(f:∀σ H Q,t' σ H Q->t σ H Q):PW X e t':=λw U s σ H Q I q=>h w U s σ H Q I (f _ _ _ q)
def PA.imp{e:O nw}{t t':TA}(h:PA X e t)(f:∀σ H Q,t' σ H Q->t σ H Q):PA X e t':=λpos U s σ H Q I q=>h pos U s σ H Q I (f _ _ _ q)
def PS.imp{e:wn}{t t':TS}(h:PS X e t)(f:∀D σ H,t' D σ H->t D σ H):PS X e t':=λU s σ H D I q=>h U s σ H D I (f _ _ _ q)
def pN.imp{e:O wn}{t t':TS}(h:pN X e t)(f:∀D σ H,t' D σ H->t D σ H):pN X e t':=λU s σ H D I q=>h U s σ H D I (f _ _ _ q)
def PG.imp{t t':TG}(h:PG X e t)(f:∀v σ H Q,t' v σ H Q->t v σ H Q):PG X e t':=λU s σ H v u Q I r q=>h U s σ H v u Q I r (f _ _ _ _ q)
def PI.imp{t t':TI}(h:PI X tg e t)(f:∀σ H Q,t' σ H Q->t σ H Q):PI X tg e t':=λU s σ H R I q=>h U s σ H R I (f _ _ _ q)
section
abbrev P2:=PV->PV->PH->QV->Prop
structure M2 where
 f:P2
 mono:∀{x y h}{Q Q':QV},(∀v h',Q v h'->Q' v h')->f x y h Q->f x y h Q'
def M2.Ok(K:Ab)(r:R2)(m:M2):Prop:=∀{ι H h u v x y Q},HR K ι H h->VR K ι H u x->VR K ι H v y->m.f x y h (pQ K ι H Q)->r u v H Q
end
end
section
variable{K:Ab}
section
def kQ:∀{vs:O V}{l:O PV},ax K ι H vs l->(!l.isEmpty)=!vs.isEmpty
 |_,_,.nil=>rfl
 |_,_,.cons _ _=>rfl
structure MQ where
 run:Gz->PH->(Src->PH->Prop)->Prop
 mono:∀{ps h}{Q Q':Src->PH->Prop},(∀v h',Q v h'->Q' v h')->run ps h Q->run ps h Q'
end
end
section
structure MGs where
 run:List PV->Gz->PH->(Gz->PH->Prop)->Prop
 mono:∀{v ps h}{Q Q':Gz->PH->Prop},(∀ps h,Q ps h->Q' ps h)->run v ps h Q->run v ps h Q'
end
section
variable{K:Ab}
section
structure MN where
 f:List PV->PH->QV->Prop
 mono:∀{l h}{Q Q':QV},(∀v h',Q v h'->Q' v h')->f l h Q->f l h Q'
def MN.Ok(K:Ab)(r:O V->Hp->VK->Prop)(m:MN):Prop:=∀{ι H h vs l Q},HR K ι H h->ax K ι H vs l->m.f l h (pQ K ι H Q)->r vs H Q
end
end
end PL
variable{g':Int->Int->L2.V}{g:Int->Int->PL.PV}
namespace PL
section
variable{K:Ab}
def aI(g:Int->Int->PV):M2:=⟨λx y h Q=>match x,y with|.int i,.int j=>Q (g i j) h|_,_=>False,λf q=>by
 revert q
 split
 .exact f _ _
 .exact λz=>z⟩
def aIc(C:Int->Int->Prop)(g:Int->Int->PV):M2:=⟨λx y h Q=>match x,y with|.int i,.int j=>C i j/\Q (g i j) h|_,_=>False,λf q=>by
 revert q
 split
 .exact λq=>⟨q.1,f _ _ q.2⟩
 .exact λz=>z⟩
def IK(hg:∀ι H i j,VR K ι H (g' i j) (g i j)):M2.Ok K (UG g') (aI g):=by
 intro ι H h u v x y Q hr hu hv q;unfold aI at q;dsimp only at q;revert q
 split
 .intro q;cases hu;cases hv;exact⟨_,_,rfl,rfl,q ι _ H (Go.refl _ _) hr (hg _ _ _ _)⟩
 .exact B3
def La{C:Int->Int->Prop}(hg:∀ι H i j,VR K ι H (g' i j) (g i j)):M2.Ok K (rI C g') (aIc C g):=by
 intro ι H h u v x y Q hr hu hv q;unfold aIc at q;dsimp only at q;revert q
 split
 .intro q;cases hu;cases hv;exact⟨_,_,rfl,rfl,q.1,q.2 ι _ H (Go.refl _ _) hr (hg _ _ _ _)⟩
 .exact B3
def yp:=aI λi j=>.int (i-j)
def U7:=aIc Fk λi j=>.int (i*j)
def oMod:=aIc (λ_ j=>0<j) λi j=>.int (i % j)
def Q1:=aIc OT λi j=>.int (i ^ j.toNat)
def oLt:=aI λi j=>.bl (decide (i<j))
def oLe:=aI λi j=>.bl (decide (i<=j))
def oGt:=aI λi j=>.bl (decide (j<i))
def oGe:=aI λi j=>.bl (decide (j<=i))
section
def ax.jz:∀{vs:O V}{l:O PV},ax K ι H vs l->(vs=[]↔l=[])
 |_,_,.nil=>by simp
 |_,_,.cons _ _=>by simp
end
end
section
variable{K:Ab}
section
def PV.ka:PV->Bool
 |.aB=>true
 |_=>false
def Nu:M2:=⟨λx y h Q=>match y with|.aB=>Q (.bl x.ka) h|_=>False,λf q=>by
 revert q
 split
 .exact f _ _
 .exact λz=>z⟩
def Hi:M2:=⟨λx y h Q=>match y with|.aB=>Q (.bl (!x.ka)) h|_=>False,λf q=>by
 revert q
 split
 .exact f _ _
 .exact λz=>z⟩
def w6{x:PV}(h:VR K ι H v x):decide (v=.aB)=x.ka:=by cases h<;>simp[PV.ka]
def U8:M2.Ok K (λx y H Q=>y=.aB/\Q (.bl (decide (x=.aB))) H) Nu:=by
 intro ι H h u v x y Q hr hu hv q;cases hv with
 |aB=>exact⟨rfl,q ι _ H (Go.refl _ _) hr (by rw[w6 hu];exact .bl _)⟩
 |_=>exact q.elim
def Q2:M2.Ok K (λx y H Q=>y=.aB/\Q (.bl (!decide (x=.aB))) H) Hi:=by
 intro ι H h u v x y Q hr hu hv q;cases hv with
 |aB=>exact⟨rfl,q ι _ H (Go.refl _ _) hr (by rw[w6 hu];exact .bl _)⟩
 |_=>exact q.elim
end
end
section
variable{K:Ab}
section
def Qc{v':V}{w:cr}(h:RelV v w)(h':RelV v' w):v=v':=Option.some.inj (h.abs.symm.trans h'.abs)
end
section
variable{c:nw}
def mIx(a:MQ)(b:ME):ME:=⟨λps h Q=>a.run ps h λS h1=>b.run ps h1 λy h2=>match y with
 |.int k=>S.ok h2/\match d5 S.items k with|some v=>Q v h2|none=>False
 |_=>False,λf q=>a.mono (λ_ _ q=>b.mono (λ_ _ q=>by
  revert q
  split
  .rintro⟨q0,q⟩;refine⟨q0,?_⟩;revert q
   split
   .exact f _ _
   .exact λz=>z
  .exact λz=>z) q) q⟩
def ax.d5{l:O PV}(r:ax K ι H vs l){k:Int}{p:PV}(e:L2.d5 l k=some p):∃v,L2.d5 vs k=some v/\VR K ι H v p:=by
 unfold L2.d5 at e ⊢;rw[r.length];cases z:nQ l.length k with
 |none=>rw[z]at e;cases e
 |some j=>
  rw[z]at e;exact r.get e
def als:M2:=⟨λx y h Q=>match x,y with
 |.str z,.int k=>z.length<=sizeLine/\match L2.d5 z.cps.toList k with|some c=>Q (.str ⟨#[c]⟩) h|none=>False
 |_,_=>False,λf q=>by
  revert q
  split
  .rintro⟨q0,q⟩;refine⟨q0,?_⟩;revert q
   split
   .exact f _ _
   .exact λz=>z
  .exact λz=>z⟩
def df:MN:=⟨λl h Q=>match l with
 |[.str y]=>y.length<=sizeLine/\Q (.int y.length) h
 |[.tup l]=>Q (.int l.length) h
 |[.cl l]=>Q (.int l.length) h
 |[.ref n]=>match h[n]? with
  |some (.lst xs)=>Q (.int xs.length) h
  |_=>False
 |_=>False,λf q=>by
  revert q
  split
  .exact λq=>⟨q.1,f _ _ q.2⟩
  .exact f _ _
  .exact f _ _
  .split
   .exact f _ _
   .exact λz=>z
  .exact λz=>z⟩
def Wy(K:Ab):MN.Ok K (Ze K) df:=by
 intro ι H h vs l Q hr hv q;unfold df at q;dsimp only at q;revert q
 split
 .intro q;cases hv with
  |cons x t=>cases t;cases x;exact⟨_,_,rfl,⟨q.1,rfl⟩,q.2 ι _ H (Go.refl _ _) hr (.int _)⟩
 .intro q;cases hv with
  |cons x t=>
   cases t;cases x with
   |tup e r=>exact⟨_,_,rfl,.inr ⟨_,d6.of e,r.length.symm⟩,q ι _ H (Go.refl _ _) hr (.int _)⟩
 .intro q;cases hv with
  |cons x t=>
   cases t;cases x with
   |cl e r=>exact⟨_,_,rfl,.inl ⟨_,e.sq,r.length.symm⟩,q ι _ H (Go.refl _ _) hr (.int _)⟩
 .rename_i n;cases hv with
  |cons x t=>
   cases t;cases x with
   | @ref _ a e=>
   split
   .rename_i xs hn;intro q;obtain⟨ws,e1,e2⟩:=hr.obj n a _ e hn;exact⟨_,_,rfl,.inl ⟨ws,bM.of e1,e2.length.symm⟩,q ι _ H (Go.refl _ _) hr (.int _)⟩
   .exact B3
 .exact B3
inductive Kd where
 |str|tup|int|bool
def Kd.name:Kd->String
 |.str=>"str" | .tup=>"tuple" | .int=>"int" | .bool=>"bool"
def Kd.is:Kd->PV->Bool
 |.str,.str _=>true
 |.tup,.tup _=>true
 |.int,.int _=>true
 |.int,.bl _=>true
 |.bool,.bl _=>true
 |_,_=>false
def ac6(K:Ab):O V->Hp->VK->Prop:=λxs H Q=>∃x c t b,xs=[x,.ty c]/\(my K H x t\/(t=.type "tuple"/\∃a vs,x=.ref a/\d6 K H a vs))/\BG K t (.type c)=some b/\Q (.bl b) H
def OD(K:Ab)(hK:X.K=K):cz X (.builtin "isinstance") (ac6 K):=by
 subst hK;intro U s σ H xs us Q I r h;obtain⟨x,c,t,b,rfl,ty|⟨rfl,a,vs,rfl,hT⟩,e,q⟩:=h
 .exact rB U s σ H _ us Q I r ⟨x,c,t,b,rfl,ty,e,q⟩
 .obtain⟨u,w,rfl,r1,r2⟩:=vals2 r;cases r1;cases r2;obtain⟨ao,_,⟨o,h1,h2,_⟩,_⟩:=I.tuple hT;exact Bo F8 I.w4 ⟨o,h1,h2⟩ e (λz=>nomatch z) λtk=>⟨.bl b,H,I.tok _,rfl,q⟩
def sF(K:Ab):(∀k:Kd,BG K (.type "NoneType") (.type k.name)=some false)/\(∀k:Kd,BG K (.type "list") (.type k.name)=some false)/\(∀k:Kd,BG K (.type "dict") (.type k.name)=some false):=
 ⟨λk=>by cases k<;>kernel_rfl,λk=>by cases k<;>kernel_rfl,λk=>by cases k<;>kernel_rfl⟩
def Z1(K:Ab)(b:Bool)(k:Kd):BG K (.type "bool") (.type k.name)=some (k.is (.bl b)):=by cases k <;> kernel_rfl
def Vy(K:Ab)(b:Int)(k:Kd):BG K (.type "int") (.type k.name)=some (k.is (.int b)):=by cases k <;> kernel_rfl
def Vx(K:Ab)(b:Str)(k:Kd):BG K (.type "str") (.type k.name)=some (k.is (.str b)):=by cases k <;> kernel_rfl
def Vw(K:Ab)(b:O PV)(k:Kd):BG K (.type "tuple") (.type k.name)=some (k.is (.tup b)):=by cases k <;> kernel_rfl
def ID:MN:=⟨λl h Q=>match l with|[.int i]=>Q (.int i) h|[.bl k]=>Q (.int (if k then 1 else 0)) h|_=>False,λf q=>by
 revert q
 split
 .exact f _ _
 .exact f _ _
 .exact λz=>z⟩
def Wz:MN.Ok K (λxs H Q=>(∃i,xs=[.int i]/\Q (.int i) H)\/∃k,xs=[.bl k]/\Q (.int (if k then 1 else 0)) H) ID:=by
 intro ι H h vs l Q hr hv q;unfold ID at q;dsimp only at q;revert q
 split
 .intro q;cases hv with
  |cons x t=>cases t;cases x;exact .inl ⟨_,rfl,q ι _ H (Go.refl _ _) hr (.int _)⟩
 .intro q;cases hv with
  |cons x t=>cases t;cases x;exact .inr ⟨_,rfl,q ι _ H (Go.refl _ _) hr (.int _)⟩
 .exact B3
end
end
end PL
variable{o:BF}
namespace PL
section
variable{K:Ab}
section
def Qg(K:Ab):O V->Hp->VK->Prop:=λxs H Q=>∃p ys,xs=[.ref p]/\((bM K H p ys/\iW H (.tup ys) Q)\/(d6 K H p ys/\Q (.ref p) H))
def OC(K:Ab)(hK:X.K=K):cz X (.type "tuple") (Qg K):=by
 subst hK;exact vZ.mono λxs H Q ⟨p,ys,e,h⟩=>⟨p,ys,e,h.imp (λ⟨h1,h2⟩=>⟨h1,λl hl=>h2.at l hl⟩) λz=>z⟩
structure MQL where
 run:Gz->PH->(Src->PH->Prop)->Prop
 mono:∀{ps h}{Q Q':Src->PH->Prop},(∀v h',Q v h'->Q' v h')->run ps h Q->run ps h Q'
structure MO where
 run:Gz->PH->(Option Int->PH->Prop)->Prop
 mono:∀{ps h}{Q Q':Option Int->PH->Prop},(∀v h',Q v h'->Q' v h')->run ps h Q->run ps h Q'
def PO.imp{e:Option nw}{t t':TO}(h:L2.PO X e t)(f:∀σ H Q,t' σ H Q->t σ H Q):L2.PO X e t':=λU s σ H Q I q=>h U s σ H Q I (f _ _ _ q)
def uS(xs:O PV)(lo hi:Option Int):O PV:=(xs.drop (HT.vA xs.length 0 lo)).take (HT.vA xs.length xs.length hi-HT.vA xs.length 0 lo)
def ax.cut{l:O PV}(r:ax K ι H vs l)(lo hi:Option Int):ax K ι H (OB vs lo hi) (uS l lo hi):=by
 unfold OB uS;rw[r.length];exact(r.drop _).take _
end
end
end PL
variable{e1:BF}{t1:L2.TE}{tp:Cn}
namespace PL
section
variable{K:Ab}
section
variable{c:nw}
def kd(lo:Int)(n:Nat):O PV:=(AB n).map λ(i:Nat)=>.int (lo+(i:Int))
def i7(lo:Int)(n:Nat):(kd lo n).length=n:=by unfold kd;simp
def qp{lo:Int}{p:PV}(h:(kd lo n)[i]?=some p):i<n/\p=.int (lo+i):=by
 unfold kd at h;rw[Ah]at h;cases z:(AB n)[i]? with
 |none=>rw[z]at h;cases h
 |some k=>
  rw[z]at h;obtain⟨h1,h2⟩:=Ag.mp z;simp at h1 h2;subst h2;exact⟨h1,(Option.some.inj h).symm⟩
def rm(lo:Int)(n:Nat):O PV:=(AB n).map λ(i:Nat)=>.int (lo-(i:Int))
def xq(lo:Int)(n:Nat):(rm lo n).length=n:=by unfold rm;simp
def xr{lo:Int}{p:PV}(h:(rm lo n)[i]?=some p):i<n/\p=.int (lo-i):=by
 unfold rm at h;rw[Ah]at h;cases z:(AB n)[i]? with
 |none=>rw[z]at h;cases h
 |some k=>
  rw[z]at h;obtain⟨h1,h2⟩:=Ag.mp z;simp at h1 h2;subst h2;exact⟨h1,(Option.some.inj h).symm⟩
def Um(i:Int):Prop:=-(2 ^ 62)<=i/\i<2 ^ 62
def afI(m:MA):MI:=⟨λps h Q=>m.run ps h λl h1=>match l with|[.int j]=>Um j/\Q ⟨kd 0 j.toNat,λ_=>True,false⟩ h1|_=>False,λf q=>m.mono (λl h1 q=>by
 revert q
 split
 .exact λq=>⟨q.1,f _ _ q.2⟩
 .exact λz=>z) q⟩
def eR(k:Nat):O PV->O PV
 |[]=>[]
 |x::l=>.tup [.int (k:Int),x]::eR (k+1) l
theorem bC:∀(k:Nat) (l:O PV),(eR k l).length=l.length
 |_,[]=>rfl
 |k,x::l=>by rw[eR,Ax,Ax,bC]
theorem dY:∀{k:Nat}{l:O PV}{i:Nat}{p:PV},(eR k l)[i]?=some p->∃x,l[i]?=some x/\p=.tup [.int ((k+i:Nat):Int),x]
 |_,[],_,_,h=>by simp[eR]at h
 |k,x::l,0,p,h=>by simp[eR]at h;subst h;exact⟨x,rfl,by simp⟩
 |k,x::l,i+1,p,h=>by
  obtain⟨y,h1,h2⟩:=dY (by simpa[eR]using h);exact⟨y,by simpa using h1,by rw[h2,show k+1+i=k+(i+1) by lia]⟩
def aap(K:Ab)(t1:TE):TI:=λσ H R=>t1 σ H λx H1=>∃a,x=.ref a/\(((∃xs,bM K H1 a xs)/\R (aff K a) H1)\/((∃xs,d6 K H1 a xs)/\R (Ite K a) H1))
def QE{X:Cx}(K:Ab)(hK:X.K=K){kk:Nat}{p2:Pos}(hg:Gl X "enumerate")(hm:X.mg "enumerate"=ci)(h1:PE X e1 t1)(mq:‹gb X e1 []›):PI X (.Tuple Ë kk tp) (.Call (.Name "enumerate" p1) [e1] [] p2) (aap K t1):=by
 subst hK;intro U s σ H R I h;refine Br (fc I hg hm boot_enumerate ?_ ⋯ ⋯);refine A8 ?_ mq rfl;rw[mq];refine Bl (bE (h1 U s σ H _ I h) λu1 s1 ⟨x,H1,I1,r1,a,ex,hh⟩=>BN ?_);subst ex;cases r1;have d1:s1.heap.objs.size+1≠s1.heap.objs.size:=Nat.succ_ne_self _;rcases hh with⟨⟨xs,hx⟩,q⟩|⟨⟨xs,hx⟩,q⟩
 .obtain⟨ao,rx,tx,_⟩:=I1.list hx;refine call_enumerate_list tx.isList λh' ze hi _ k=>?_;refine CC ze ?_;refine⟨_,_,_,_,H1,rfl,I1.kept k,Jn d1,⟨⟨_,ze⟩,hi⟩,λc hc=>?_,q⟩;have Î:s1.heap.objs.size<=c:=by
   simp at hc;rcases hc with rfl|rfl
   .exact A5 _ _
   .exact Al _
  exact I1.uD Î (I1.ba.fresh Î)
 .obtain⟨ao,rx,tx,_⟩:=I1.tuple hx;have l1:=let ⟨_,e,_⟩:=tx;Ao e;refine K6 tx λh' ze hi k=>?_;refine CC ze ?_;refine⟨_,_,_,_,H1,rfl,I1.kept k,MY d1 (AA (Az l1 (A5 _ 1))) (AA l1),⟨⟨_,ze⟩,hi⟩,λc hc=>?_,q⟩;have Î:s1.heap.objs.size<=c:=by
   simp at hc;rcases hc with rfl|rfl
   .exact A5 _ _
   .exact Al _
  exact I1.uD Î (I1.ba.fresh Î)
def pR:O PV->O PV->O PV
 |x::l,y::m=>.tup [x,y]::pR l m
 |_,_=>[]
theorem sR:∀{l m:O PV}{i:Nat}{p:PV},(pR l m)[i]?=some p->∃x y,l[i]?=some x/\m[i]?=some y/\p=.tup [x,y]
 |[],m,i,p,h=>by simp[pR]at h
 |x::l,[],i,p,h=>by simp[pR]at h
 |x::l,y::m,0,p,h=>by simp[pR]at h;subst h;exact⟨x,y,rfl,rfl,rfl⟩
 |x::l,y::m,i+1,p,h=>by
  obtain⟨u,w,h1,h2,h3⟩:=sR (by simpa[pR]using h);exact⟨u,w,by simpa using h1,by simpa using h2,h3⟩
end
end
end PL
variable{p3 p4:Cn}
namespace PL
section
variable{K:Ab}
section
structure JC(X:Cx)(K:Ab)(op:CmpOp)(b:nw)(m:M2):Prop where
 p:∃r,iK X (ss op) r/\M2.Ok K r m
 k:sB op b=false
def XI:JC X K .Lt b oLt:=⟨⟨_,Xf,IK λ_ _ _ _=>.bl _⟩,fV _⟩
def adP:JC X K .LtE b oLe:=⟨⟨_,adn,IK λ_ _ _ _=>.bl _⟩,fV _⟩
def adQ:JC X K .Gt b oGt:=⟨⟨_,ado,IK λ_ _ _ _=>.bl _⟩,fV _⟩
def adR:JC X K .GtE b oGe:=⟨⟨_,adp,IK λ_ _ _ _=>.bl _⟩,fV _⟩
def Kf:JC X K .Is b Nu:=⟨⟨_,Zv,U8⟩,fV _⟩
def VE:JC X K .IsNot b Hi:=⟨⟨_,UY,Q2⟩,fV _⟩
end
end
end PL
namespace L2
def kJ(xs:List α)(lo hi st:Option Int):List α:=(sliceRange (ww lo hi st xs.length).1 (ww lo hi st xs.length).2.1 (ww lo hi st xs.length).2.2).filterMap (xs[·]?)
def wL(r:Vals xs ao)(lo hi st:Option Int):Vals (kJ xs lo hi st) (Op ao.toArray lo hi st).toList:=by
 unfold kJ Op;rw[Am,r.length];generalize sliceRange _ _ _=l
 induction l with
 |nil=>exact .nil
 |cons k l ih=>
  rw[AH,AH];cases e:xs[k]? with
  |none=>
   have e2:=r.none_of e;have e3:ao.toArray[k]?=ci:=by simpa using e2
   rw[e3];exact ih
  |some x=>
   obtain⟨u,hu,ru⟩:=r.get e;have e3:ao.toArray[k]?=some u:=by simpa using hu
   rw[e3];exact .cons ru ih
section
variable{st:nw}{lo hi:Option nw}{tl th ts:TO}{p2:Pos}
def agV(K:Ab)(te:TE)(tl th ts:TO):TE:=λσ H Q=>te σ H λx H1=>tl σ H1 λl H2=>th σ H2 λu H3=>ts σ H3 λs H4=>∃a xs,x=.ref a/\bM K H4 a xs/\s≠some 0/\iW H4 (.lst (kJ xs l u s)) Q
theorem Nn(K:Ab)(hK:X.K=K)(he:PE X e te)(hl:PO X lo tl)(hu:PO X hi th)(hs:PO X (some st) ts):PE X (.Subscript e (.Slice lo hi (some st) p2) pos) (agV K te tl th ts):=by
 subst hK;intro U s σ H Q I h;refine Subscript_ (bE (he U s σ H _ I h) λv s1 ⟨x,H1,I1,r1,q1⟩=>?_);refine wpAny_Slice (bE (hl U s1 σ H1 _ I1 q1) λvl s2 ⟨l,H2,I2,pl,q2⟩=>bE (hu U s2 σ H2 _ I2 q2) λvu s3 ⟨u,H3,I3,pu,q3⟩=>bE (hs U s3 σ H3 _ I3 q3) λvs s4 ⟨c,H4,I4,ps,a,xs,ea,hx,c0,q⟩=>?_);subst ea;cases r1;have I5:Inv X U σ H4 {s4 with heap:=s4.heap.push {cls:=.type "slice",data:=.fields #[vl,vu,vs]}}:=I4.kept λb ob q=>Aj _ q;obtain⟨ao,r,pL,hz⟩:=I5.list hx;have Á:=r.length;refine tail_any pL.isList.typeIs list_getitem_lookup ?_ (by with_unfolding_all rfl);refine E2 pL.isList (Heap.IsSliceOf.new ..) pl pu ps c0 ?_ (by simp;lia);have Ņ:(kJ xs l u c).length<=sizeLine:=by
  have h1:=(wL r l u c).length;have h2:=slicePick_size_le ao.toArray l u c;have h3:(Op ao.toArray l u c).toList.length=(Op ao.toArray l u c).size:=by simp
  have h4:ao.toArray.size=ao.length:=by simp
  lia
 refine⟨.ref _,upd H4 _ (.lst (kJ xs l u c)),I5.laid (t':=s4.toks) (λb ob q=>Aj _ q) (Al _) ?_,rfl,q.at _ (I5.ba.fresh (Al _))⟩;exact⟨Ņ,_,0,wL r l u c,by rw[show(Op ao.toArray l u c).toList.toArray=Op ao.toArray l u c by simp];exact An _ rfl⟩
end
end L2
namespace PL
section
variable{K:Ab}
section
variable{st:nw}
def ax.pick{l:O PV}(r:ax K ι H vs l)(lo hi st:Option Int):ax K ι H (kJ vs lo hi st) (kJ l lo hi st):=by
 unfold kJ;rw[r.length];generalize sliceRange _ _ _=ks
 induction ks with
 |nil=>exact .nil
 |cons k ks ih=>
  rw[AH,AH];cases e:l[k]? with
  |none=>
   have e2:vs[k]?=ci:=by
    rw[Dg]at e ⊢;rw[r.length];exact e
   rw[e2];exact ih
  |some x=>
   obtain⟨u,hu,ru⟩:=r.get e;rw[hu];exact .cons ru ih
end
end
section
variable{K:Ab}
section
def Sm{l:O PV}(h:ax K ι H vs l):vs.isEmpty=l.isEmpty:=by cases h<;>rfl
def ax.rep{l:O PV}(h:ax K ι H vs l):∀k:Nat,ax K ι H (Ap k vs).flatten (Ap k l).flatten
 |0=>.nil
 |k+1=>by
  exact h.append (h.rep k)
theorem oZ:∀{ns:O Int}{vs:O V},ax K ι H vs (ns.map PV.int)->vs=ns.map V.int
 |[],_,h=>by cases h;rfl
 |b::bs,_,h=>by
  cases h with
  |cons x t=>cases x;rw[oZ t];rfl
theorem yT(ι:O f8)(H:Hp):∀ns:O Int,ax K ι H (ns.map V.int) (ns.map PV.int)
 |[]=>.nil
 |n::ns=>.cons (.int n) (yT ι H ns)
def Zb(K:Ab):O V->Hp->VK->Prop:=λxs H Q=>∃(p:f8) (ns:O Int),xs=[.ref p]/\bM K H p (ns.map V.int)/\ns.length<64/\∀ms:O Int,ms.Perm ns->ms.Pairwise (·<=·)->iW H (.lst (ms.map V.int)) Q
theorem K2(K:Ab)(hK:X.K=K):cz X (.builtin "sorted") (Zb K):=by
 subst hK;intro U s σ H xs us Q I r h;obtain⟨p,ns,rfl,hq,Ė,q⟩:=h;obtain⟨u,rfl,rx⟩:=vals1 r;cases rx;obtain⟨ao,r',pl,hz⟩:=I.list hq;have hl:=r'.length;rw[Ai]at hl hz;refine PyProof.Rows.sorted_ints pl.isList (intsAre_of r') ∅ λout ms a1 a2 a3=>?_;obtain⟨e,he⟩:=sortedAll_at s.heap ao out;refine⟨.ref (s.heap.objs.size+1),_,I.laid (λ_ _=>sortedAll_old) (Ed _) (show br X.prog X.w _ _ _ (.lst (ms.map V.int)) from⟨?_,out.toList,e,pV a1,?_⟩),rfl,(q ms a2 a3).at _ (I.ba.fresh (Ed _))⟩
 .rw[Ai,a2.length_eq];exact hz
 .exact he
end
end
end PL
variable{xs:Array Bg}{a:Bf}{o:F3}{name:B4}
namespace L2
def nu{s:db}{Q:Option cr->db->Prop}(hx:s.heap.get? a=some o)(hc:o.cls=.type "list")(nr:o.data=.seq xs k)(hd:o.dict=ci)(Mh:xz (.type "list") name=pure ci)(HS:(["__module__","__name__","__qualname__","__doc__","__annotations__"]:O Str).contains name=false)(hA:A.handled=ci)(h:∀h' tk e,Heap.NewExcOf s.heap h' e "AttributeError"->Q ci {s with heap:=h',toks:=tk})(hsz:name.length+100<=sizeLine:=by size_fits):gl (im prog w) A (getAttr? (.ref a) name) Q E s:=by
 obtain⟨c,İ,dat,sl⟩:=o;simp only at hc nr hd;subst hc nr hd;obtain⟨hp,g,d,tk,os⟩:=s;have hT:∀T6,(⟨hp,g,d,T6,os⟩:db).TypeIs (.ref a) "list":=λ_=>⟨_,hx,rfl⟩;have f1:=sub_AttributeError;have f3:=Dq.lookup;have f4:=Dq.bind (.ref a);have f5:=am_list_getattr_none
 repeat (any_goals (first | assumption | exact hT _ | ((with_reducible show gl _ _ (call (Value.builtin "list.__getattribute__") _ _) _ _ _);refine v4 Dq (hT _) am_entry_list_getattribute (F.args_list_getattribute_2 _ _) (meets_getattribute_miss_list a xs k sl name _ Mh HS hsz) ⟨hx,hA,λh' T6 e uv=>?_⟩) | wp_step))
 obtain⟨t',u',he⟩:=uv.there;unfold getattributeRaised
 repeat (any_goals (first|assumption|wp_step))
 exact h _ _ _ uv.of
end L2
variable{b d:Bf}{v:Bg}
namespace L2
def cO:entryFor table "dict.update.loop"=some ul.«dict.update.loop»:=entryFor_of_fast (by kernel_rfl)
def bB:plainId "dict.update.loop"=true:=by decide +kernel
section
variable{K:Type}[DecidableEq K]{knd:KeyKind prog w K}
def Fl(knd:KeyKind prog w K)(h:re)(it d:f8)(v:cr)(x:O K×f8×cr):Prop:=
 ∃pa o n,v=.ref pa/\pa≠it/\pa≠d/\x.2.1≠it/\x.2.1≠d/\h.get? pa=some o/\o.cls=.type "tuple"/\o.data=.seq #[.ref x.2.1,x.2.2] n/\(tz knd).is h x.1 x.2.1
def xQ{k:O K}(x:(tz knd).is h k b)(kp:∀o,h.get? b=some o->h'.get? b=some o):(tz knd).is h' k b:=by
 obtain⟨o,ao,n,h1,h2⟩:=x;exact⟨o,ao,n,kp _ h1,h2⟩
def Fl.keep{x:O K×f8×cr}(p:Fl knd h it d v x)(kp:∀b o,b≠it->b≠d->h.get? b=some o->h'.get? b=some o):Fl knd h' it d v x:=by
 obtain⟨pa,o,n,e,n1,n2,n3,n4,h1,h2,h3,h4⟩:=p;exact⟨pa,o,n,e,n1,n2,n3,n4,kp _ _ n1 n2 h1,h2,h3,xQ h4 λo q=>kp _ _ n3 n4 q⟩
def zE{xs:O (O K×f8×cr)}(m:h.DictOfH (tz knd) d xs)(hd:d≠it)(hx:∀x∈xs,x.2.1≠it)(kp:∀b o,b≠it->h.get? b=some o->h'.get? b=some o):h'.DictOfH (tz knd) d xs:=by
 obtain⟨o,es,ep,ho,hc,ř,he,Tw,hn⟩:=m;exact⟨o,es,ep,kp _ _ hd ho,hc,ř,he,λx q=>xQ (Tw x q) λo z=>kp _ _ (hx x q) z,hn⟩
def GN{xs:O (O K×f8×cr)}{k:O K}(hx:∀x∈xs,x.2.1≠it)(hb:b≠it):∀x∈Pv xs k b v,x.2.1≠it:=by
 intro x q;unfold Pv at q
 split at q
 .obtain⟨y,hy,rfl⟩:=Aq.mp q;have e:(putAt k v y).2.1=y.2.1:=by unfold putAt;split<;>rfl
  rw[e];exact hx y hy
 .rcases AO.mp q with q|q
  .exact hx x q
  .rw[AR.mp q];exact hb
def GO{xs:O (O K×f8×cr)}{k:O K}:(Pv xs k b v).length<=xs.length+1:=by
 unfold Pv
 split<;>simp
theorem GD(hA:A.handled=ci)(hu:A.units+1 < sn){l:f8}(hz:items.size+items.size<=sizeLine)(ŗ:d≠it)(hli:l≠it)(hld:l≠d):∀(k i:Nat) (ys xs:O (O K×f8×cr)) (s:db),items.size-i=k->i<=items.size->ys.length=items.size-i->xs.length<=i->s.heap.IsListIter it l i->s.heap.IsList l items->s.heap.DictOfH (tz knd) d xs->(∀x∈xs,x.2.1≠it)->(∀j x,ys[j]?=some x->∃v,items[i+j]?=some v/\Fl knd s.heap it d v x)->(∀h' tk,h'.DictOfH (tz knd) d (ys.foldl (λa y=>Pv a y.1 y.2.1 y.2.2) xs)->(∀b o,b≠it->b≠d->s.heap.get? b=some o->h'.get? b=some o)->R (.ok (.ret .none)) {s with heap:=h',toks:=tk})->Ix (im prog w) A (.builtin "dict.update.loop" ⟨[.ref d,.ref it,wv i,.none],[]⟩) R s:=by
 intro k
 induction k with
 |zero=>
  intro i ys xs s hk hi hy hxl Ñ hl hd hx hp q;have e0:ys=[]:=Cm ∅;subst e0;refine zn cO ?_;refine Aa (wpAny_pyNext_list_end hA Ñ hl (by rw[DP];lia) λh' ex=>?_);have kp:=ex;exact Aa (Af (Af (q h' s.toks (zE hd ŗ hx kp) λb o n1 _ e=>kp b o n1 e)))
 |succ k ih=>
  intro i ys xs s hk hi hy hxl Ñ hl hd hx hp q
  match ys,hy,hp,q with
  |[],hy,_,_=>exact absurd hy (by simp;lia)
  |y::ys,hy,hp,q=>
  obtain⟨v,hv,pa⟩:=hp 0 y rfl;refine zn cO ?_;refine Aa (wpAny_pyNext_list_item Ñ hl (by simpa using hv) λh1 aiu sb=>?_);have yH:∀b o,b≠it->s.heap.get? b=some o->h1.get? b=some o:=λb o hb e=>(sb.2 b hb).trans e;have Ő:h1.IsList l items:=let ⟨o,e,p⟩:=hl;⟨o,yH _ _ hli e,p⟩;obtain⟨p,o,n,rfl,n1,n2,n3,n4,g1,g2,g3,g4⟩:=(pa.keep λb o n1 _ e=>yH b o n1 e);refine Aa (Bb (Aa (DG ?_)));refine Aa (Ep ⟨_,g1,g2⟩ ?_);refine Aa (Bp g1 g3 (Af ?_));refine Bb (wpAny_dictSet_heap (xL hu) g4 (zE hd ŗ hx yH) (λh2 Ò ĺ=>?_) ∅);have Xz:∀b o,b≠d->h1.get? b=some o->h2.get? b=some o:=λb o hb e=>(ĺ.2 b hb).trans e;refine Af ⟨wE bB _,?_⟩;have kp:∀b o,b≠it->b≠d->s.heap.get? b=some o->h2.get? b=some o:=λb o a1 a2 e=>Xz _ _ a2 (yH _ _ a1 e);refine ih (i+1) ys (Pv xs y.1 y.2.1 y.2.2) _ ∅ ∅ (by rw[Ax]at hy;lia) (A0 GO ∅) ?_ ?_ Ò (GN hx n3) (λj x hj=>?_) (λh' tk dd k3=>?_)
  .obtain⟨o',e1,e2⟩:=aiu;exact⟨o',Xz _ _ (Bt ŗ) e1,e2⟩
  .obtain⟨o',e1,e2⟩:=Ő;exact⟨o',Xz _ _ hld e1,e2⟩
  .obtain⟨v',h3,h4⟩:=hp (j+1) x hj;exact⟨v',by rw[show i+1+j=i+(j+1) by lia];exact h3,h4.keep kp⟩
  .exact q h' tk dd λb o a1 a2 e=>k3 b o a1 a2 (kp b o a1 a2 e)
end
def yC:xz (.type "list") (Cg "keys")=pure ci:=am_miss_of_fast (by decide +kernel)
section
variable{K:Type}[DecidableEq K]{knd:KeyKind prog w K}{s:db}
theorem rT{l:f8}{ys:O (O K×f8×cr)}(hA:A.handled=ci)(hu:A.units+2 < sn)(ho:s.heap.get? l=some o)(hc:o.cls=.type "list")(nr:o.data=.seq items n)(hd:o.dict=ci)(hz:items.size+items.size<=sizeLine)(hy:ys.length=items.size)(hp:∀(j:Nat) (x:O K×f8×cr),ys[j]?=some x->∃(pa:f8) (op:Obj) (m:Nat),items[j]?=some (Aw pa)/\s.heap.get? pa=some op/\op.cls=.type "tuple"/\op.data=.seq #[Aw x.2.1,x.2.2] m/\(tz knd).is s.heap x.1 x.2.1)(q:∀h' tk,(∀b o,s.heap.get? b=some o->h'.get? b=some o)->h'.DictOfH (tz knd) s.heap.objs.size (ys.foldl (λa y=>Pv a y.1 y.2.1 y.2.2) [])->Q (.ref s.heap.objs.size) {s with heap:=h',toks:=tk}):gl (im prog w) A (call (.type "dict") [.ref l]) Q E s:=by
 refine callType_codes (Q₁:=λobj s₁=>obj=.ref s.heap.objs.size/\s₁={s with heap:=s.heap.push {cls:=.type "dict",data:=.dict #[]}}) F.kt_called_dict (F.kt_typeCall_dict_1 _) F.entry_dict_init (kt_code_dict_new _ ⟨rfl,rfl⟩) ?_;rintro obj s₁ ⟨rfl,rfl⟩;have XA:∀b o,s.heap.get? b=some o->(s.heap.push {cls:=.type "dict",data:=.dict #[]}).get? b=some o:=λb o e=>Aj _ e;have HQ:(s.heap.push {cls:=.type "dict",data:=.dict #[]}).DictOf knd s.heap.objs.size []:=Heap.DictOf.new s.heap;have ls:∀b o,s.heap.get? b=some o->b≠s.heap.objs.size:=λb o e z=>by subst z;exact AE _ (Ao e)
 refine⟨HQ.typeIs,F.args_dict_init_2 _ _,?_⟩;refine Aa ?_;refine Aa (DW HQ.typeIs ?_);refine Af ?_;refine Aa (Ep ⟨_,XA _ _ ho,hc⟩ ?_);refine Aa (nu (XA _ _ ho) hc nr hd yC (by decide +kernel) hA (λh1 tk e nx=>?_) ⋯);refine Aa (CV (Aa ?_));refine DH ⟨_,nx.keeps _ _ (XA _ _ ho),hc,n,nr⟩ ?_;have hsz:=Ao (nx.keeps _ _ (An s.heap rfl));have yH:∀b o,s.heap.get? b=some o->(h1.push {cls:=.type "list_iterator",data:=.fields #[.ref l,.int 0 0]}).get? b=some o:=λb o e=>Aj _ (nx.keeps _ _ (XA _ _ e));have ni:∀b o,s.heap.get? b=some o->b≠h1.objs.size:=λb o e z=>by
  subst z;exact AE _ (Nat.lt_trans (Ao e) hsz)
 refine Af ⟨wE bB _,?_⟩;refine GD (A:=A.in1) (knd:=knd) hA (by show A.units+1+1<_;lia) (items:=items) (l:=l) hz (AA hsz) (ni _ _ ho) (ls _ _ ho) items.size 0 ys [] _ (Er _) (Bh _) (by rw[hy];rfl) (Al _)
  ⟨_,An _ rfl,rfl,rfl⟩ ⟨_,yH _ _ ho,hc,n,nr⟩ ?_ (λx hx=>nomatch hx) (λj x hj=>?_) (λh' T6 dd kp=>?_)
 .refine zE (it:=h1.objs.size) (⟨_,#[],0,An _ rfl,⟨rfl,rfl,rfl⟩,rfl,rfl,λx hx=>absurd hx (Cs),EK⟩) (AA hsz) (λx hx=>nomatch hx) λb o _ e=>Aj _ (nx.keeps _ _ e)
 .obtain⟨pa,op,m,e1,e2,e3,e4,e5⟩:=hp j x hj;have kb:∃ob,s.heap.get? x.2.1=some ob:=let ⟨ob,_,_,z,_⟩:=e5;⟨ob,z⟩;obtain⟨ob,eb⟩:=kb;exact⟨.ref pa,by rw[A7];exact e1,pa,op,m,rfl,ni _ _ e2,ls _ _ e2,ni _ _ eb,ls _ _ eb,yH _ _ e2,e3,e4,xQ e5 λo z=>yH _ _ z⟩
 .exact⟨rfl,q h' T6 (λb o e=>kp b o (ni _ _ e) (ls _ _ e) (yH _ _ e)) dd⟩
end
structure Pz where
 pa:f8
 k:List Key
 b:f8
 v:V
def Pz.At(H:Hp)(z:Pz):Prop:=H z.pa=some (.tup [.ref z.b,z.v])/\H z.b=some (.tup (z.k.map kV))
def Zh(K:Ab):O V->Hp->VK->Prop:=λxs H Q=>∃(p:f8) (zs:O Pz),xs=[.ref p]/\bM K H p (zs.map λz=>.ref z.pa)/\(∀z∈zs,z.At H)/\(zs.map (·.k)).Nodup/\zs.length<=1000/\iW H (.dT (zs.map λz=>(z.k,z.v))) Q
theorem rh{K:Type}[DecidableEq K]:∀(ys xs:O (K×f8×cr)),((xs++ys).map (·.1)).Nodup->ys.foldl (λa y=>Pv a y.1 y.2.1 y.2.2) xs=xs++ys
 |[],xs,_=>by simp
 |y::ys,xs,h=>by
  have hn:atKey xs y.1=ci:=by
   cases e:atKey xs y.1 with
   |none=>rfl
   |some p=>
    exfalso;rw[AI,Ar]at h;have hm:y.1∈xs.map (·.1):=by
     by_cases hc:y.1∈xs.map (·.1)
     .exact hc
     .rw[atKey_none_of_get (λj q hj=>?_)]at e
      .cases e
      .exact hc (Aq.mpr ⟨_,AJ hj,rfl⟩)
    exact((Co.mp h).2.2) _ hm _ BI rfl
  rw[Ds,storedH_new hn,rh ys (xs++[(y.1,y.2.1,y.2.2)]) (by simpa using h)];simp
section
theorem K7(K:Ab)(hK:X.K=K)(hc:X.calm=true)(hu:X.A.units+2 < sn):cz X (.type "dict") (Zh K):=by
 subst hK;intro U s σ H xs us Q I r h;obtain⟨p,zs,rfl,hq,hz,hn,hl,q⟩:=h;obtain⟨u,rfl,rx⟩:=vals1 r;cases rx;obtain⟨ao,rv,pl,hsz⟩:=I.list hq;obtain⟨o,n,ho,ý,hd,nr⟩:=pl;have Õ:∀(zs:O Pz) ao,(∀z∈zs,z.At H)->Vals (zs.map λz=>V.ref z.pa) ao->∃ys:O (O Key×f8×cr),ys.map (·.1)=zs.map (·.k)/\KT H (zs.map λz=>(z.k,z.v)) ys/\
   ∀(j:Nat) x,ys[j]?=some x->∃(pa:f8) (op:Obj) (m:Nat),ao[j]?=some (Aw pa)/\s.heap.get? pa=some op/\op.cls=.type "tuple"/\op.data=.seq #[Aw x.2.1,x.2.2] m/\(tz (bo X.prog X.w)).is s.heap x.1 x.2.1:=by
  intro zs
  induction zs with
  |nil=>intro ao _ _;exact⟨[],rfl,.nil,λj x h=>by simp at h⟩
  |cons z zs ih=>
   intro ao ha hv;cases hv with
   | @cons _ u _ us ru rus=>
   cases ru;obtain⟨ys,e1,e2,e3⟩:=ih us (λy hy=>ha y (A6 _ hy)) rus;obtain⟨a1,a2⟩:=ha z BI;obtain⟨_,eD,r',⟨op,h1,h2,m,h3⟩,_⟩:=(I.ba _ _ a1);obtain⟨w,rfl,xX⟩:∃w,eD=[Aw z.b,w]/\RelV z.v w:=by
    cases r' with
    |cons q1 q2=>cases q1;cases q2 with
     |cons q3 q4=>cases q4;exact⟨_,rfl,q3⟩
   refine⟨(z.k,z.b,w)::ys,by rw[Ar,Ar,e1],.cons ⟨rfl,a2,xX⟩ e2,λj x hj=>?_⟩;cases j with
   |zero=>
    cases hj;exact⟨z.pa,op,m,rfl,h1,h2,h3,nj I.ba a2⟩
   |succ j=>exact e3 j x hj
 obtain⟨ys,e1,e2,e3⟩:=Õ zs ao hz rv;have Á:=rv.length;rw[Ai]at Á;have Ģ:ys.length=zs.length:=by have:=congrArg B5 e1;simpa using this
 have hs:1000+1000<=sizeLine:=by decide
 refine rT (knd:=bo X.prog X.w) (ys:=ys) (I.ok.hd hc) hu ho ý nr hd (by rw[Am];lia) (by rw[Am];lia) (λj x hj=>?_) (λh' tk kp dd=>?_)
 .obtain⟨pa,op,m,g1,g2⟩:=e3 j x hj;exact⟨pa,op,m,by rw[C1];exact g1,g2⟩
 .rw[rh ys [] (by rw[FI,e1];exact hn),FI]at dd;obtain⟨od,es,ep,ä,h2,h3,h4,_,h5⟩:=dd;have fr:=I.ba.fresh (Al s.heap.objs.size);refine⟨.ref s.heap.objs.size,_,I.laid kp (Al _) (show br X.prog X.w (upd H s.heap.objs.size (.dT (zs.map λz=>(z.k,z.v)))) h' _ (.dT _) from⟨?_,(beq_eq_false_iff_ne.mpr (Bt (AA I.big))),ys,?_,od,es,ep,ä,h2,h3,h4,h5⟩),rfl,q.at _ fr⟩
  .rw[Ai];exact A0 hl ⋯
  .refine e2.keeps λc xs ec=>?_;rw[aj (λz=>by subst z;rw[fr]at ec;cases ec)];exact ec
end
end L2
variable{es:Array PySem.DictEntry}{ep:Nat}
namespace L2
section
variable{s:db}
def Tc(h:re)(d:f8)(es:Array DictEntry)(ep:Nat):Prop:=∃o,h.get? d=some o/\o.ExactDict/\o.data=.dict es ep
def Ho{Q:Option cr->db->Prop}(Ñ:s.heap.IsKeyIter it d i es.size ep)(hm:Tc s.heap d es ep)(hi:i<es.size)(q:∀h',h'.IsKeyIter it d (i+1) es.size ep->B0 it s.heap h'->Q (some es[i].key) {s with heap:=h'}):gl (im prog w) A (FS (.ref it)) Q E s:=by
 have ty:=Ñ.typeIs;obtain⟨o,ho,hc,hd⟩:=id Ñ;obtain⟨od,NZ,-,Tz⟩:=hm;have aec:(s.heap.update it (Obj.mapFields (·.setIfInBounds 1 (wv (i+1))))).IsKeyIter it d (i+1) es.size ep:=⟨_,B8 _ ho (FO (Dw hd _)),(Obj.cls_mapFields ..).trans hc,by rw[Dw hd];simp[wv]⟩;refine Aa (Ci (AY ty BV (Bj BV ty D8 ?_ (D2 _))));refine Aa (Af (Aa (Aa ?_)))
 first|refine Aa (Ck ty (Af ?_))|refine Aa (CH ty (Af ?_))
 refine Aa (wpAny_fieldsOf ho hd ?_);show gl _ _ (if (Aw d==Bc)=true then _ else _) _ _ s;refine Aa (Af (Aa (EU NZ Tz ?_)));rw[if_neg (by simp)];refine Aa (Af (Aa (FC NZ Tz ?_)));rw[if_neg (by simp)];refine Af ?_;simp only[if_false,Bk,Cw hi];refine Aa ?_
 first|refine Aa (Ck ty (Af ?_))|refine Aa (CH ty (Af ?_))
 refine Aa (wpAny_isOneOf_keyiter ty ?_);show gl _ _ (Os (.ref it) 1 (wv ((i:Int)+1)) >>= _) _ _ s;exact Aa (EH ho hd (by simp) (Aa (Bb (Aa (wpAny_isOneOf_keyiter aec.typeIs (Af (Af ⟨_,rfl,Af (q _ aec (B0.update ..))⟩)))))))
def Mr{Q:Option cr->db->Prop}(hh:A.handled=ci)(Ñ:s.heap.IsKeyIter it d i es.size ep)(hm:Tc s.heap d es ep)(hi:es.size<=i)(q:∀h',FW it s.heap h'->Q ci {s with heap:=h'}):gl (im prog w) A (FS (.ref it)) Q E s:=by
 have ty:=Ñ.typeIs;obtain⟨o,ho,hc,hd⟩:=id Ñ;obtain⟨od,NZ,-,Tz⟩:=hm;refine Aa (Ci (AY ty BV (Bj BV ty D8 ?_ (D2 _))));refine Aa (Af (Aa (Aa ?_)))
 first|refine Aa (Ck ty (Af ?_))|refine Aa (CH ty (Af ?_))
 refine Aa (wpAny_fieldsOf ho hd ?_);show gl _ _ (if (Aw d==Bc)=true then _ else _) _ _ s;refine Aa (Af (Aa (EU NZ Tz ?_)));rw[if_neg (by simp)];refine Aa (Af (Aa (FC NZ Tz ?_)));rw[if_neg (by simp)];refine Af ?_;simp only[if_false,Bk,DP hi];refine Aa ?_
 first|refine Aa (Ck ty (Af ?_))|refine Aa (CH ty (Af ?_))
 show gl _ _ (Os (.ref it) 0 .none >>= _) _ _ s;refine Aa (EH ho hd (by simp) ?_);refine Aa ?_;refine Aa (BO (Aa (BA (by first|rfl|(simp;rfl)) (BO ?_ (by size_fits)))) (by size_fits));unfold raiseNew;refine Aa (wpAny_handled ?_);rw[show A.in1.handled=ci from hh];refine Aa (Af (wpAny_throw ?_));refine Aa (CM ⟨_,An _ rfl,rfl⟩ Pi ?_);exact Af (q _ (((B0.update ..).extBut.push _).push _))
def uo(hs:(d==u8)=false)(hm:Tc s.heap d es ep)(q:Q (.ref s.heap.objs.size) {s with heap:=s.heap.push {cls:=.type "dict_keyiterator",data:=.fields #[.ref d,.int 0 0,.int es.size 0,.int ep 0]}}):gl (im prog w) A (pyIter (.ref d)) Q E s:=by
 obtain⟨od,NZ,hx,Tz⟩:=hm;have ty:s.TypeIs (.ref d) "dict":=⟨_,NZ,hx.1⟩;refine wpAny_pyIter_slot ty F.slot_dict_iter (Bj F.slot_dict_iter ty F.entry_dict_iter ?_ (F.args_dict_iter_1 _));refine Aa ?_;refine Aa (DW ty ?_);refine Af ?_;show gl _ _ (Builtin.Dict.showsAll d >>= _) _ _ s;unfold Builtin.Dict.showsAll;rw[if_neg (by rw[hs];exact AV)];exact Aa (Af (Aa (EU NZ Tz (Aa (FC NZ Tz (Aa (BO (Af ⟨_,rfl,"dict_keyiterator",_,⟨_,An _ rfl,rfl⟩,BV.lookup,q⟩))))))))
end
end L2
variable{u:L2.HO}
namespace L2
section
variable{σ:St}{s:db}
def Inv.freeze(I:Inv X U σ H s)(e:H a=some (.dT kvs)):∃o,Inv X U σ (upd H a (.bA o (.dT kvs))) s:=by
 obtain⟨z,hs,xs,r,o,es,ep,h1,h2,h3,h4,h5⟩:=(show br X.prog X.w H s.heap a (.dT kvs) from I.ba a _ e);refine⟨o,?_⟩;have q:=I.write (x:=a) (e:=a) (o:=.bA o (.dT kvs)) (h':=s.heap) (t':=s.toks) (by rw[e];exact Cb) (.inl rfl) (λb u _ z=>z) ⟨o,h1⟩
  ⟨h1,z,hs,xs,KT.keeps r λb ys eb=>by rw[aj (Hq eb e (λz=>nomatch z))];exact eb,o,es,ep,h1,h2,h3,h4,h5⟩
 exact q
def Inv.T7(I:Inv X U σ H s)(e:H a=some (.bA o u))(h0:∀o u,X.H₀ a≠some (.bA o u))(hu:br X.prog X.w (upd H a u) s.heap a u)(ba:md X.prog X.w (upd H a u) s.heap):Inv X U σ (upd H a u) s:=by
 have ne:∀b v,H b=v->v≠some (.bA o u)->b≠a:=λb v q n z=>by subst z;exact n (q.symm.trans e)
 refine⟨I.ok,I.os,I.bare,⟨I.base.keep,I.base.slot,λb ob q n hx=>?_,I.base.there,λb xs q=>?_,λb ob xs q=>?_,λb ps q=>?_⟩,I.loc,I.cell,?_,λx c q=>?_,λp hp=>?_,ba,I.len⟩
 .have:=I.base.free b ob q n hx;rw[aj (ne b _ this (by simp))];exact this
 .have:=I.base.cB b xs q;rw[aj (ne b _ this (by simp))];exact this
 .have:=I.base.qw b ob xs q;have hb:b≠a:=λz=>by subst z;exact h0 _ _ q
  rw[aj hb];exact this
 .obtain⟨m,this⟩:=I.base.vt b ps q;exact⟨m,by rw[aj (ne b _ this (by simp))];exact this⟩
 .rw[aj (ne _ _ I.free (by simp))];exact I.free
 .rw[aj (ne _ _ (I.ke x c q) (by simp))];exact I.ke x c q
 .obtain⟨p1,p2,p3⟩:=I.pin p hp;exact⟨p1,by rw[aj (ne _ _ p2 (by simp))];exact p2,p3⟩
def HP(ok:md P w H h)(e:H a=some (.bA o u)):md P w (upd H a u) h:=λb u' q=>by
 have ne:∀c v,H c=some v->v≠.bA o u->upd H a u c=some v:=λc v z n=>by
  rw[aj (λy=>by subst y;rw[e]at z;cases z;exact n rfl)];exact z
 by_cases hb:b=a
 .subst hb;rw[ay]at q;cases q;exact br.xS (ok b _ e).2 (λ_ _ _ z=>z) (λc z=>ne c _ z (by simp)) λc xs z=>ne c _ z (by simp)
 .rw[aj hb]at q;exact br.xS (ok b _ q) (λ_ _ _ z=>z) (λc z=>ne c _ z (by simp)) λc xs z=>ne c _ z (by simp)
end
def abq(a:f8)(o:Obj):It:=
 ⟨λi H=>∃kvs,H a=some (.bA o (.dT kvs))/\i<kvs.length,λi H x H'=>H'=H/\∀kvs,H a=some (.bA o (.dT kvs))->∃b k v,x=.ref b/\kvs[i]?=some (k,v)/\H b=some (.tup (k.map kV)),λi H=>∃kvs,H a=some (.bA o (.dT kvs))/\kvs.length<=i⟩
theorem RY(x:br P w H h a (.bA o (.dT kvs)))(hd:o.data=.dict es ep):Tc h a es ep/\es.size=kvs.length/\∀(i:Nat) (hi:i<es.size),∃b k v,es[i].key=.ref b/\kvs[i]?=some (k,v)/\H b=some (.tup (k.map kV)):=by
 obtain⟨e,z,hs,xs,r,o',Ę,ę,h1,h2,h3,h4,h5⟩:=x;rw[e]at h1;cases h1;rw[hd]at h3;cases h3;have hl:es.size=xs.length:=by have:=congrArg B5 h4;simpa using this
 refine⟨⟨o,e,h2,hd⟩,hl.trans (Paired.length r).symm,λi hi=>?_⟩;have hx:xs[i]?=some (xs[i]'∅):=Ad _;have pg:∀{l:O (O Key×V)}{m:O (O Key×f8×cr)}{i:Nat}{q:O Key×f8×cr},KT H l m->m[i]?=some q->∃v,l[i]?=some (q.1,v)/\H q.2.1=some (.tup (q.1.map kV)):=by
  intro l m i q t
  induction t generalizing i with
  |nil=>intro h;simp at h
  | @cons p q' ps qs hq t ih=>
   intro h;cases i with
   |zero=>
    cases h;obtain⟨p1,p2⟩:=p;have e1:=hq.1;subst e1;exact⟨p2,rfl,hq.2.1⟩
   |succ i=>exact ih (by simpa using h)
 obtain⟨v,g1,g2⟩:=pg r hx;refine⟨_,_,v,?_,g1,g2⟩;have:es[i]=entryOfKey (tz (bo P w)) (xs[i]'∅):=by
  have h6:es.toList[i]?=some (entryOfKey (tz (bo P w)) (xs[i]'∅)):=by rw[h4,Ah,hx];rfl
  rw[C2,Cw hi]at h6;exact Option.some.inj h6
 rw[this];rfl
theorem wx{K:Ab}(a it:f8)(o:Obj)(hd:o.data=.dict es ep):Turn P w K tg (abq a o) [it] it (λi h=>h.IsKeyIter it a i es.size ep) where
 mem:=by simp
 obj:=λi h st b hb=>by
  have e:b=it:=by simpa using hb
  subst e;obtain⟨o,e,c,d⟩:=st;exact⟨o,e,λv z=>by rw[d]at z;cases z⟩
 keep:=λi h h' st k=>st.at λo e=>k it (by simp) o e
 item:=by
  intro X hP hw hK hc i U s σ H E I hf st hg;obtain⟨kvs,hq,hx⟩:=hg;obtain⟨Ý,hl,ky⟩:=RY (I.ba a _ hq) hd;obtain⟨b,k,v,k1,k2,k3⟩:=ky i ∅;obtain⟨f0,f1,f2,f3,f4,f5⟩:=hf it (by simp);refine Ho st Ý ∅ λh' pW sb=>?_;obtain⟨oi,e,c,d⟩:=id pW;refine⟨_,rfl,xg e c d ⋯ ⟨.ref b,H,(I.turned (λb o hb e=>(sb.2 b hb).trans e) f0 f1 f3 f4 f5),k1,⟨rfl,λVv ä=>?_⟩,pW,λb hb=>(hf b hb).1⟩⟩;rw[hq]at ä;cases ä;exact⟨b,k,v,rfl,k2,k3⟩
 done:=by
  intro X hP hw hK hc i U s σ H E I hf st hg;obtain⟨kvs,hq,hx⟩:=hg;obtain⟨Ý,hl,ky⟩:=RY (I.ba a _ hq) hd;obtain⟨f0,f1,f2,f3,f4,f5⟩:=hf it (by simp);exact Mr (I.ok.hd hc) st Ý ∅ λh' eb=>⟨rfl,I.turned (t':=s.toks) (λb o hb e=>eb b o hb e) f0 f1 f3 f4 f5⟩
 self:=λ_ _ _ _ _ st h=>wpAny_pyIter_keyiter st h
def aaq(tl:TE):TI:=λσ H R=>tl σ H λx H1=>∃a o kvs,x=.ref a/\H1 a=some (.bA o (.dT kvs))/\R (abq a o) H1
def QG{l:nw}(hl:PE X l tl):PI X tg l (aaq tl):=by
 intro U s σ H R I h;refine bE (hl U s σ H _ I h) λv s1 ⟨x,H1,I1,r1,q1⟩=>?_;obtain⟨a,o,kvs,e,hq,q⟩:=q1;subst e;cases r1;obtain⟨eo,z,hs,xs,r,o',es,ep,h1,h2,h3,h4,h5⟩:=(I1.ba a _ hq);rw[eo]at h1;cases h1;refine uo hs ⟨o,eo,h2,h3⟩ ?_;refine⟨s1.heap.objs.size,[s1.heap.objs.size],_,_,H1,rfl,I1.kept λb o e=>Aj _ e,wx a _ o h3,⟨_,An _ rfl,rfl,rfl⟩,λb hb=>?_,q⟩;have e:b=s1.heap.objs.size:=by simpa using hb
 subst e;exact I1.uD (Al _) (I1.ba.fresh (Al _))
end L2
variable{x:Bf}{o:L2.HO}{v:PL.PV}{ws:O (B4×L2.V)}{fz:O (Bf×F3)}{ψ:Nat->O L2.V->Prop}{φ:Fm->Prop}
noncomputable section
namespace FL
section
variable{K:Ab}
structure W(α:Type) where
 run:(α->Prop)->Prop
 mono:∀{Q Q':α->Prop},(∀a,Q a->Q' a)->run Q->run Q'
namespace W
variable{α β γ:Type}
def ext'{a b:W α}(h:∀Q,a.run Q↔b.run Q):a=b:=by
 cases a;cases b;congr;funext Q;exact propext (h Q)
noncomputable def ret(a:α):W α:=⟨λQ=>Q a,λh q=>h _ q⟩
noncomputable def bind(w:W α)(k:α->W β):W β:=⟨λQ=>w.run λa=>(k a).run Q,λh q=>w.mono (λa q=>(k a).mono h q) q⟩
def fail:W α:=⟨λ_=>False,λ_ q=>q⟩
def dm(p:Prop)(w:W α):W α:=⟨λQ=>p/\w.run Q,λh q=>⟨q.1,w.mono h q.2⟩⟩
def any(p:α->Prop):W α:=⟨λQ=>∀a,p a->Q a,λh q a pa=>h a (q a pa)⟩
def Nt:Option α->W α
 |some a=>ret a
 |none=>fail
@[simp] theorem aa(a:α)(k:α->W β):bind (ret a) k=k a:=(rfl)
@[simp] theorem bind_assoc(w:W α)(f:α->W β)(g:β->W γ):bind (bind w f) g=bind w λa=>bind (f a) g:=(rfl)
@[simp] theorem ae7(w:W α):bind w ret=w:=(rfl)
@[simp] theorem abV(k:α->W β):bind fail k=fail:=(rfl)
@[simp] theorem af(a:α)(Q:α->Prop):(ret a).run Q=Q a:=(rfl)
@[simp] theorem run_bind(w:W α)(k:α->W β)(Q:β->Prop):(bind w k).run Q=w.run λa=>(k a).run Q:=(rfl)
@[simp] theorem acT(Q:α->Prop):(fail:W α).run Q=False:=(rfl)
@[simp] theorem afr(p Q:α->Prop):(any p).run Q=∀a,p a->Q a:=(rfl)
@[simp] theorem sg(p:Prop)(w:W α)(Q:α->Prop):(dm p w).run Q=(p/\w.run Q):=(rfl)
@[simp] theorem ae2(p:Prop)(w:W α)(k:α->W β):bind (dm p w) k=dm p (bind w k):=(rfl)
def au{p:Prop}{w:W α}(h:p):dm p w=w:=ext' λQ=>⟨λq=>q.2,λq=>⟨h,q⟩⟩
@[simp] theorem ae1{w:W α}:dm True w=w:=au trivial
@[simp] theorem aP(a:α):Nt (some a)=ret a:=(rfl)
@[simp] theorem adv:Nt (ci:Option α)=fail:=(rfl)
end W
inductive FD where
 |v (p:PV)|o (b:f8) (l:List PV)
def fdB:O (Str×FD)->O f8
 |[]=>[]
 |(_,.v _)::l=>fdB l
 |(_,.o b _)::l=>b::fdB l
inductive Te(K:Ab)(H:Hp):List (Str×V)->List (Str×FD)->Prop
 |nil:Te K H [] []
 |v {n:Str}{u:V}{p:PV}{ws:List (Str×V)}{fd:List (Str×FD)} (r:VR K [] H u p) (t:Te K H ws fd):Te K H ((n,u)::ws) ((n,.v p)::fd)
 |o {n:Str}{b:f8}{vs:List V}{l:List PV}{ws:List (Str×V)}{fd:List (Str×FD)} (e:H b=some (.lst vs)) (r:ax K [] H vs l) (t:Te K H ws fd):Te K H ((n,.ref b)::ws) ((n,.o b l)::fd)
inductive SL where
 |val (v:PV)|adr (b:f8) (us:List V) (ps:List PV) (fz:List (f8×Obj))|ol (q:Option f8) (l:List PV)|qO (bs:List f8) (ls:List (List PV))|od (kvs:List (Key×PV))|ot (kvs:List (List Key×PV))|cJ (ψ:Nat->List V->Prop) (n m:Nat)|ob (q C:f8) (fd:List (Str×FD))
abbrev aG:=O (Option SL)
def FzO(H:Hp)(fz:O (f8×Obj)):Prop:=∀p∈fz,∃u,H p.1=some (.bA p.2 u)
def FzO.tk(h:FzO H fz)(t:bb K H H'):FzO H' fz:=λp hp=>let ⟨u,e⟩:=h p hp;⟨u,t.z _ _ _ e⟩
def _root_.L2.HO.nt:HO->Bool
 |.GJ _=>false
 |_=>true
def _root_.L2.HO.ow:HO->Bool
 |.lst _=>true
 |.dK _=>true
 |.dT _=>true
 |.ins _ _ _=>true
 |_=>false
def QW(h:o.ow=true):o.nt=true:=by cases o<;>first|rfl|cases h
def QX(k:br P w H h a o)(e:h.get? a=some ob)(ho:o.ow=true)(vs:Array cr):ob.data≠.fields vs:=by
 cases o with
 |lst xs=>obtain⟨_,_,_,_,q⟩:=k;rw[e]at q;cases q;nofun
 |dK xs=>obtain⟨_,_,_,_,o,_,_,q,_,q2,_⟩:=k;rw[e]at q;cases q;rw[q2];nofun
 |dT xs=>obtain⟨_,_,_,_,o,_,_,q,_,q2,_⟩:=k;rw[e]at q;cases q;rw[q2];nofun
 |ins C dx fs=>obtain⟨_,_,_,q,_⟩:=k;rw[e]at q;cases q;nofun
 |_=>cases ho
class bL where
 ts:List (f8×Str)
def FzC(H:Hp)(c:cr)(q:Str):Prop:=∃a o u vs t,c=.ref a/\H a=some (.bA o u)/\o.data=.fields vs/\vs[1]?=some (.str q t)
variable[bL]
def TB(H:Hp):Prop:=∀p∈bL.ts,∃ps,H p.1=some (.GJ ps)/\TriplesOk ps.toList/\∀pos c,codeAmong pos ps.toList=some c->FzC H c p.2
def TB.mono(h:TB H)(h1:∀a ps,H a=some (.GJ ps)->H' a=some (.GJ ps))(h2:∀a o u vs,H a=some (.bA o u)->o.data=.fields vs->∃u,H' a=some (.bA o u)):TB H':=λp hp=>by
 obtain⟨ps,e,q,k⟩:=h p hp;refine⟨ps,h1 _ _ e,q,λpos c z=>?_⟩;obtain⟨a,o,u,vs,t,e1,e2,e3,e4⟩:=k pos c z;obtain⟨u',e5⟩:=h2 a o u vs e2 e3;exact⟨a,o,u',vs,t,e1,e5,e3,e4⟩
def TB.same(h:TB H)(s:jr H H'):TB H':=h.mono (λa _ z=>s a _ z) λa _ _ _ z _=>⟨_,s a _ z⟩
def TB.T7(t:TB H)(k:md P w H h)(e:H a=some (.bA ob o))(ho:o.ow=true):TB (upd H a o):=
 t.mono (λb _ z=>by rw[aj (λy=>by subst y;rw[e]at z;cases z)];exact z) λb o' u vs z d=>⟨u,by
  rw[aj (λy=>by subst y;rw[e]at z;cases z;exact QX (k b _ e).2 (k b _ e).1 ho vs d)];exact z⟩
def TB.GV{ob:HO}(h:TB H)(s:jq a H H')(e:H a=some ob)(n1:ob.nt=true)(n2:∀o u,ob≠.bA o u):TB H':=
 h.mono (λb _ z=>s b _ (λy=>by subst y;rw[e]at z;cases z;cases n1) z) λb _ _ _ z _=>⟨_,s b _ (λy=>by subst y;rw[e]at z;cases z;exact n2 _ _ rfl) z⟩
def SL.own:SL->Bool
 |.val _=>false
 |.adr _ _ _ _=>false
 |_=>true
def SL.mm:SL->O f8
 |.qO bs _=>bs
 |.ob _ _ fd=>fdB fd
 |_=>[]
def SL.has(s:SL)(x a:f8):Prop:=a=x\/a∈s.mm
def JD:Nat:=2 ^ 250
def IW(H:Hp)(a:f8)(ψ:Nat->O V->Prop)(n:Nat):Prop:=∃j vs,j<=n/\H a=some (.lst vs)/\ψ j vs/\∀b,V.ref b∈vs->dH H b
def fN(K:Ab)(H:Hp)(a:f8):SL->Prop
 |.val _=>False
 |.adr b us ps fz=>a=b/\ax K [] H us ps/\FzO H fz
 |.qO bs ls=>H a=some (.lst (bs.map V.ref))/\a∉bs/\bs.Nodup/\bs.length=ls.length/\∀(j:Nat) (b:f8) (l:O PV),bs[j]?=some b->ls[j]?=some l->∃ws,H b=some (.lst ws)/\ax K [] H ws l
 |.ol q l=>(∀b,q=some b->a=b)/\∃vs,H a=some (.lst vs)/\ax K [] H vs l
 |.od kvs=>∃vs:O (Key×V),H a=some (.dK vs)/\vs.map (·.1)=kvs.map (·.1)/\ax K [] H (vs.map (·.2)) (kvs.map (·.2))
 |.ot kvs=>∃vs:O (O Key×V),H a=some (.dT vs)/\vs.map (·.1)=kvs.map (·.1)/\ax K [] H (vs.map (·.2)) (kvs.map (·.2))
 |.cJ ψ n m=>IW H a ψ n/\n<=m/\m<=JD
 |.ob q C fd=>a=q/\Cls K C/\(∀p∈fd,Td K C p.1)/\a∉fdB fd/\(fdB fd).Nodup/\∃dx ws,H a=some (.ins C dx ws)/\Te K H ws fd
def rD(K:Ab)(H:Hp)(u:V)(s:SL):Prop:=(∃v,s=.val v/\VR K [] H u v)\/∃a,u=.ref a/\fN K H a s
def ck(σ:L2.St)(fs:aG)(a:f8):Prop:=∃(i:Nat) (s:SL) (x:f8),fs[i]?=some (some s)/\s.own=true/\σ[i]?=some (some (.ref x))/\s.has x a
def cI(σ:L2.St)(fs:aG)(ψ:Nat->O V->Prop)(m:Nat)(a:f8):Prop:=∃i n:Nat,fs[i]?=some (some (.cJ ψ n m))/\σ[i]?=some (some (.ref a))
structure Ev(fs aD:aG):Prop where
 len:fs.length=aD.length
 at':∀i:Nat,fs[i]?=aD[i]?\/∃ψ n n' m,fs[i]?=some (some (.cJ ψ n m))/\aD[i]?=some (some (.cJ ψ n' m))
structure aQ(K:Ab)(H:Hp)(σ:L2.St)(fs:aG):Prop where
 len:σ.length=fs.length
 at':∀(i:Nat) (s:SL),fs[i]?=some (some s)->∃u,σ[i]?=some (some u)/\rD K H u s
 nd:∀(i j:Nat) (s t:SL) (x y a:f8),fs[i]?=some (some s)->fs[j]?=some (some t)->s.own=true->t.own=true->σ[i]?=some (some (.ref x))->σ[j]?=some (some (.ref y))->s.has x a->t.has y a->i=j
 tb:TB H
structure cn(σ:L2.St)(fs:aG)(H:Hp)(σ':L2.St)(aD:aG)(H':Hp):Prop where
 keep:∀a o,H a=some o->¬ck σ fs a->(o.nt=true->H' a=some o)/\¬ck σ' aD a
 there:∀a,H' a=ci->H a=ci
 pk:∀a ψ m,cI σ fs ψ m a->cI σ' aD ψ m a\/(¬ck σ' aD a/\IW H' a ψ m)
 x:∀b,dH H b->dH H' b
structure bR(σ:L2.St)(fs:aG)(H H':Hp)(aD:aG:=fs):Prop where
 keep:∀a o,H a=some o->(∀ψ m,¬cI σ fs ψ m a)->(nt:‹o.nt=true›)->H' a=some o
 there:∀a,H' a=ci->H a=ci
 ev:Ev fs aD
 x:∀b,dH H b->dH H' b
section
variable{σ σ' σ1 σ2:L2.St}{fs aD fs1 fs2:aG}{H H' H1 H2:Hp}
def cI.eV{m:Nat}(p:cI σ fs ψ m a):ck σ fs a:=let ⟨i,n,e1,e2⟩:=p;⟨i,_,_,e1,rfl,e2,.inl rfl⟩
def Ev.refl(fs:aG):Ev fs fs:=⟨rfl,λ_=>.inl rfl⟩
def Ev.symm(e:Ev fs aD):Ev aD fs:=⟨e.len.symm,λi=>(e.at' i).imp Eq.symm λ⟨ψ,n,n',m,a,b⟩=>⟨ψ,n',n,m,b,a⟩⟩
def Ev.trans(e:Ev fs fs1)(k:Ev fs1 fs2):Ev fs fs2:=⟨e.len.trans k.len,λi=>by
 rcases e.at' i with h|⟨ψ,n,n',m,h1,h2⟩
 .rw[h];exact k.at' i
 .rcases k.at' i with h|⟨ψ',j,j',m',h3,h4⟩
  .exact .inr ⟨ψ,n,n',m,h1,h▸h2⟩
  .rw[h2]at h3;cases h3;exact .inr ⟨ψ,n,j',m,h1,h4⟩⟩
def Ev.get(e:Ev fs aD){t:SL}(h:aD[i]?=some (some t)):(fs[i]?=some (some t))\/∃ψ n n' m,t=.cJ ψ n' m/\fs[i]?=some (some (.cJ ψ n m)):=by
 rcases e.at' i with h2|⟨ψ,n,n',m,h1,h2⟩
 .exact .inl (h2.trans h)
 .rw[h]at h2;cases h2;exact .inr ⟨ψ,n,n',m,rfl,h1⟩
def Ev.same(e:Ev fs aD){t:SL}(h:fs[i]?=some (some t))(n:∀ψ j m,t≠.cJ ψ j m):aD[i]?=some (some t):=(e.symm.get h).resolve_right λ⟨_,_,_,_,z,_⟩=>n _ _ _ z
def Ev.cJ(e:Ev fs aD){m:Nat}(p:cI σ aD ψ m a):cI σ fs ψ m a:=by
 obtain⟨i,n,h1,h2⟩:=p;rcases e.get h1 with h|⟨_,j,_,_,h,k⟩
 .exact⟨i,n,h,h2⟩
 .cases h;exact⟨i,j,k,h2⟩
def Ev.eV(e:Ev fs aD)(p:ck σ aD a):ck σ fs a:=by
 obtain⟨i,t,x,h1,h2,h3,h4⟩:=p;rcases e.get h1 with h|⟨_,j,_,_,rfl,k⟩
 .exact⟨i,t,x,h,h2,h3,h4⟩
 .exact⟨i,_,x,k,rfl,h3,h4⟩
def bR.refl:bR σ fs H H:=⟨λ_ _ h _ _=>h,λ_ h=>h,.refl _,λ_ h=>h⟩
def bR.trans(a:bR σ fs H H1 fs1)(b:bR σ fs1 H1 H2 fs2):bR σ fs H H2 fs2:=⟨λx o h n t=>b.keep x o (a.keep x o h n t) (λψ m p=>n ψ m (a.ev.cJ p)) t,λx h=>a.there x (b.there x h),a.ev.trans b.ev,λx h=>b.x x (a.x x h)⟩
def bR.f(g:bR σ fs H H' aD):cn σ fs H σ aD H':=⟨λa o h n=>⟨λt=>g.keep a o h (λ_ _ p=>n p.eV) t,λz=>n (g.ev.eV z)⟩,g.there,λa ψ m p=>.inl (g.ev.symm.cJ p),g.x⟩
def bR.qW(g:bR σ fs H H' aD)(h:H a=some o)(n:¬ck σ fs a)(t:‹o.nt=true›):H' a=some o:=g.keep a o h (λ_ _ p=>n p.eV) t
def bR.same(h:jr H H'):bR σ fs H H':=⟨λa o e _ _=>h a o e,λa e=>(by
 cases z:H a with
 |none=>rfl
 |some o=>rw[h a o z]at e;cases e),.refl _,λ_ z=>h _ _ z⟩
def Te.ex{fd:O (Str×FD)}(h:Te K H ws fd){c:f8}(hc:c∈fdB fd):∃vs,H c=some (.lst vs):=by
 induction h with
 |nil=>cases hc
 |v r t ih=>exact ih hc
 | @o n b vs l ws fd e r t ih=>
  rcases Ay.mp (hc) with rfl|hc
  .exact⟨vs,e⟩
  .exact ih hc
def fN.ex{c:f8}{s:SL}(h:fN K H a s)(ho:s.own=true)(hc:s.has a c):∃o,H c=some o/\(∀vs,o≠.tup vs)/\(∀ob u,o≠.bA ob u)/\o.ow=true:=by
 cases s with
 |val _=>exact h.elim
 |adr _ _ _ _=>cases ho
 |ol q l=>obtain⟨_,vs,e,_⟩:=h;rcases hc with rfl|hc;exact⟨_,e,by simp,by simp,rfl⟩;cases hc
 |qO bs ls=>
  obtain⟨e,_,_,hl,hb⟩:=h;rcases hc with rfl|hc
  .exact⟨_,e,by simp,by simp,rfl⟩
  .obtain⟨j,hj⟩:=CG (hc);obtain⟨ws,e,_⟩:=hb j c _ hj (Ad (by rw[<- hl];exact((Ag.mp hj).1)));exact⟨_,e,by simp,by simp,rfl⟩
 |od l=>obtain⟨vs,e,_⟩:=h;rcases hc with rfl|hc;exact⟨_,e,by simp,by simp,rfl⟩;cases hc
 |ot l=>obtain⟨vs,e,_⟩:=h;rcases hc with rfl|hc;exact⟨_,e,by simp,by simp,rfl⟩;cases hc
 |cJ ψ n m=>obtain⟨⟨_,vs,_,e,_⟩,_⟩:=h;rcases hc with rfl|hc;exact⟨_,e,by simp,by simp,rfl⟩;cases hc
 |ob q C fd=>
  obtain⟨_,_,_,_,_,dx,ws,e,r⟩:=h;rcases hc with rfl|hc
  .exact⟨_,e,by simp,by simp,rfl⟩
  .obtain⟨vs,e⟩:=r.ex hc;exact⟨_,e,by simp,by simp,rfl⟩
def aQ.ownAt(s:aQ K H σ fs){t:SL}(h1:fs[i]?=some (some t))(h2:t.own=true)(h3:σ[i]?=some (some (.ref a))):fN K H a t:=by
 obtain⟨u,e,r⟩:=s.at' i t h1;rw[h3]at e;cases e;rcases r with⟨v,rfl,_⟩|⟨b,e,r⟩
 .cases h2
 .cases e;exact r
def aQ.eV(s:aQ K H σ fs)(h:ck σ fs a):∃o,H a=some o/\(∀vs,o≠.tup vs)/\(∀ob u,o≠.bA ob u)/\o.ow=true:=by
 obtain⟨i,t,x,h1,h2,h3,h4⟩:=h;exact(s.ownAt h1 h2 h3).ex h2 h4
def aQ.noOwn(s:aQ K H σ fs)(h:H a=ci):¬ck σ fs a:=λz=>by
 obtain⟨o,e,_⟩:=s.eV z;rw[h]at e;cases e
def aQ.ZD(s:aQ K H σ fs)(h:H a=some (.tup vs)):¬ck σ fs a:=λz=>by
 obtain⟨o,e,n,_⟩:=s.eV z;rw[h]at e;cases e;exact n vs rfl
def aQ.ZE(s:aQ K H σ fs)(h:H a=some (.bA ob u)):¬ck σ fs a:=λz=>by
 obtain⟨o,e,_,n,_⟩:=s.eV z;rw[h]at e;cases e;exact n ob u rfl
def aQ.ZC(s:aQ K H σ fs)(h:H a=some (.ext φ)):¬ck σ fs a:=λz=>by
 obtain⟨o,e,_,_,n⟩:=s.eV z;rw[h]at e;cases e;cases n
def cn.refl:cn σ fs H σ fs H:=⟨λ_ _ h n=>⟨λ_=>h,n⟩,λ_ h=>h,λ_ _ _ h=>.inl h,λ_ h=>h⟩
def cn.JM(a:cn σ fs H σ1 fs1 H1)(b:cn σ1 fs1 H1 σ2 fs2 H2)(h:H x=some o)(n:¬ck σ fs x):¬ck σ2 fs2 x:=by
 cases z:H1 x with
 |none=>rw[a.there x z]at h;cases h
 |some o1=>exact(b.keep x o1 z ((a.keep x o h n).2)).2
def cn.trans(a:cn σ fs H σ1 fs1 H1)(b:cn σ1 fs1 H1 σ2 fs2 H2):cn σ fs H σ2 fs2 H2:=
 ⟨λx o h n=>⟨λt=>let ⟨h1,n1⟩:=a.keep x o h n;(b.keep x o (h1 t) n1).1 t,a.JM b h n⟩,λx h=>a.there x (b.there x h),λx ψ m h=>(a.pk x ψ m h).elim (b.pk x ψ m) λ⟨n,j,vs,hj,e,p,q⟩=>.inr (let ⟨h1,n1⟩:=b.keep x _ e n;⟨n1,j,vs,hj,h1 rfl,p,λc hc=>b.x c (q c hc)⟩),λc h=>b.x c (a.x c h)⟩
def cn.cB(g:cn σ fs H σ' aD H')(s:aQ K H σ fs):bb K H H':=
 ⟨λa vs h=>(g.keep a _ h (s.ZD h)).1 rfl,λa o u h=>(g.keep a _ h (s.ZE h)).1 rfl,g.x⟩
def VR.tk{u:V}(t:bb K H H')(r:VR K [] H u v):VR K [] H' u v:=r.mono t λ_ _ e=>e
def ax.tk{u:O V}{v:O PV}(t:bb K H H')(r:ax K [] H u v):ax K [] H' u v:=r.mono t λ_ _ e=>e
def cn.vr(g:cn σ fs H σ' aD H')(s:aQ K H σ fs){u:V}(r:VR K [] H u v):VR K [] H' u v:=VR.tk (g.cB s) r
def bR.cB(g:bR σ fs H H' aD)(s:aQ K H σ fs):bb K H H':=g.f.cB s
def bR.vr(g:bR σ fs H H' aD)(s:aQ K H σ fs){u:V}(r:VR K [] H u v):VR K [] H' u v:=VR.tk (g.cB s) r
def bR.MV(g:bR σ fs H H' aD)(s:aQ K H σ fs){u:O V}{v:O PV}(r:ax K [] H u v):ax K [] H' u v:=ax.tk (g.cB s) r
def Te.mono{fd:O (Str×FD)}(t:bb K H H')(h:Te K H ws fd)(e:∀c vs,c∈fdB fd->H c=some (.lst vs)->H' c=some (.lst vs)):Te K H' ws fd:=by
 induction h with
 |nil=>exact .nil
 |v r _ ih=>exact .v (VR.tk t r) (ih e)
 | @o n b vs l ws fd q r _ ih=>exact .o (e b vs (.head _) q) (ax.tk t r) (ih λc vs hc=>e c vs (.tail _ hc))
def fN.mono{s:SL}(t:bb K H H')(e:∀c o,s.own=true->s.has a c->H c=some o->o.nt=true->H' c=some o)(h:fN K H a s):fN K H' a s:=by
 cases s with
 |val _=>exact h
 |adr _ _ _ _=>exact⟨h.1,ax.tk t h.2.1,h.2.2.tk t⟩
 |ol _ l=>obtain⟨z,vs,q,r⟩:=h;exact⟨z,vs,e _ _ rfl (.inl rfl) q rfl,ax.tk t r⟩
 |qO bs ls=>
  obtain⟨z,h1,h2,h3,h4⟩:=h;refine⟨e _ _ rfl (.inl rfl) z rfl,h1,h2,h3,λj b l hb hl=>?_⟩;obtain⟨ws,q,r⟩:=h4 j b l hb hl;exact⟨ws,e _ _ rfl (.inr (AJ hb)) q rfl,ax.tk t r⟩
 |od l=>obtain⟨vs,q,k,r⟩:=h;exact⟨vs,e _ _ rfl (.inl rfl) q rfl,k,ax.tk t r⟩
 |ot l=>obtain⟨vs,q,k,r⟩:=h;exact⟨vs,e _ _ rfl (.inl rfl) q rfl,k,ax.tk t r⟩
 |cJ ψ n m=>obtain⟨⟨j,vs,hj,q,k,z⟩,r⟩:=h;exact⟨⟨j,vs,hj,e _ _ rfl (.inl rfl) q rfl,k,λb hb=>t.x b (z b hb)⟩,r⟩
 |ob q C fd=>obtain⟨h0,h1,h2,h3,h4,dx,ws,q,r⟩:=h;exact⟨h0,h1,h2,h3,h4,dx,ws,e _ _ rfl (.inl rfl) q rfl,r.mono t λc vs hc q=>e c _ rfl (.inr hc) q rfl⟩
def rD.mono{u:V}{s:SL}(t:bb K H H')(e:∀x a o,u=.ref x->s.own=true->s.has x a->H a=some o->o.nt=true->H' a=some o)(h:rD K H u s):rD K H' u s:=by
 rcases h with⟨v,q,r⟩|⟨a,q,r⟩
 .exact .inl ⟨v,q,VR.tk t r⟩
 .exact .inr ⟨a,q,r.mono t (λc o z y w nt=>e a c o q z y w nt)⟩
def aQ.same(s:aQ K H σ fs)(h:jr H H'):aQ K H' σ fs:=⟨s.len,λi t e=>let ⟨u,h1,h2⟩:=s.at' i t e;⟨u,h1,h2.mono h.d7 (λ_ a o _ _ _ z _=>h a o z)⟩,s.nd,s.tb.same h⟩
def cn.same(h:jr H H')(s:aQ K H σ fs):cn σ fs H σ fs H':=⟨λa o e n=>⟨λ_=>h a o e,n⟩,λa e=>(by
 cases z:H a with
 |none=>rfl
 |some o=>rw[h a o z]at e;cases e),λa ψ m p=>.inl p,λ_ z=>h _ _ z⟩
inductive dA:aG->aG->Prop
 |nil:dA [] []
 |drop {s:Option SL}{a b:aG} (h:dA a b):dA (s::a) (ci::b)
 |keep {s:Option SL}{a b:aG} (h:dA a b):dA (s::a) (s::b)
 |bump {ψ:Nat->List V->Prop}{n n' m:Nat}{a b:aG} (h:dA a b) (k:n<=n'/\n'<=m):dA (some (.cJ ψ n m)::a) (some (.cJ ψ n' m)::b)
def LeS(s t:SL):Prop:=s=t\/∃ψ n n' m,s=.cJ ψ n m/\t=.cJ ψ n' m/\n<=n'/\n'<=m
theorem dA.at{a b:aG}(h:dA a b):∀(i:Nat) (s:SL),b[i]?=some (some s)->∃t,a[i]?=some (some t)/\LeS t s:=by
 induction h with
 |nil=>intro i s e;simp at e
 |drop h ih=>intro i s e;cases i with|zero=>simp at e|succ i=>simp at e ⊢;exact ih i s e
 |keep h ih=>intro i s e;cases i with|zero=>exact⟨s,by simpa using e,.inl rfl⟩|succ i=>simp at e ⊢;exact ih i s e
 | @bump ψ n n' m a b h k ih=>intro i s e;cases i with|zero=>(simp at e;subst e;exact⟨_,rfl,.inr ⟨ψ,n,n',m,rfl,rfl,k⟩⟩)|succ i=>simp at e ⊢;exact ih i s e
theorem dA.length{a b:aG}(h:dA a b):a.length=b.length:=by induction h<;>simp_all
theorem dA.refl:∀a:aG,dA a a
 |[]=>.nil
 |_::a=>.keep (dA.refl a)
def LeS.own{s t:SL}(h:LeS s t):s.own=t.own:=by rcases h with rfl|⟨_,_,_,_,rfl,rfl,_⟩<;>rfl
def LeS.has{s t:SL}(h:LeS s t)(k:t.has x a):s.has x a:=by
 rcases h with rfl|⟨_,_,_,_,rfl,rfl,_⟩
 .exact k
 .exact k
def LeS.slot{s t:SL}(h:LeS s t){u:V}(k:rD K H u s):rD K H u t:=by
 rcases h with rfl|⟨ψ,n,n',m,rfl,rfl,h1,h2⟩
 .exact k
 .rcases k with⟨v,e,_⟩|⟨a,e,⟨j,vs,hj,q⟩,_,hm⟩
  .cases e
  .exact .inr ⟨a,e,⟨j,vs,A0 hj h1,q⟩,h2,hm⟩
def aQ.le(s:aQ K H σ fs)(h:dA fs aD):aQ K H σ aD:=⟨s.len.trans h.length,λi t e=>let ⟨_,e2,l⟩:=h.at i t e;let ⟨u,h1,h2⟩:=s.at' i _ e2;⟨u,h1,l.slot h2⟩,λi j t u x y a e1 e2 o1 o2 q1 q2 z1 z2=>let ⟨_,f1,l1⟩:=h.at i t e1;let ⟨_,f2,l2⟩:=h.at j u e2;s.nd i j _ _ x y a f1 f2 (l1.own▸o1) (l2.own▸o2) q1 q2 (l1.has z1) (l2.has z2),s.tb⟩
def ck.le(h:dA fs aD)(o:ck σ aD a):ck σ fs a:=let ⟨i,t,x,e1,e2,e3,e4⟩:=o;let ⟨t',f1,l⟩:=h.at i t e1;⟨i,t',x,f1,l.own▸e2,e3,l.has e4⟩
def aQ.free(s:aQ K H σ fs){m:Nat}(p:cI σ fs ψ m a):IW H a ψ m:=by
 obtain⟨i,n,e1,e2⟩:=p;obtain⟨⟨j,vs,hj,q⟩,h1,_⟩:=s.ownAt e1 rfl e2;exact⟨j,vs,A0 hj h1,q⟩
def cn.le(s:aQ K H σ fs)(h:dA fs aD):cn σ fs H σ aD H:=⟨λa o e n=>⟨λ_=>e,λz=>n (z.le h)⟩,λ_ e=>e,λa ψ m p=>by
 have fr:=s.free p;obtain⟨i,n,e1,e2⟩:=p;by_cases c:ck σ aD a
 .obtain⟨j,t,x,c1,c2,c3,c4⟩:=c;obtain⟨t',f1,l⟩:=h.at j t c1;have ij:=s.nd i j _ t' a x a e1 f1 rfl (l.own▸c2) e2 c3 (.inl rfl) (l.has c4);subst ij;rw[e1]at f1;cases f1;rcases l with rfl|⟨_,_,n',_,l1,rfl,_⟩
  .exact .inl ⟨i,n,c1,e2⟩
  .cases l1;exact .inl ⟨i,n',c1,e2⟩
 .exact .inr ⟨c,fr⟩,λ_ h=>h⟩
def a8{l:O (Option α)}{x y:α}(h:(l.set i (some x))[j]?=some (some y)):(j=i/\y=x)\/(j≠i/\l[j]?=some (some y)):=by
 by_cases c:j=i
 .subst c;rw[EX]at h;simp at h;exact .inl ⟨rfl,h.2.symm⟩
 .rw[Bq (λz=>c z.symm)]at h;exact .inr ⟨c,h⟩
def aW{l:List α}{x:α}(h:i<l.length):(l.set i x)[i]?=some x:=by rw[EX];simp[h]
def aq{l:List α}{x:α}(h:j≠i):(l.set i x)[j]?=l[j]?:=Bq (λz=>h z.symm)
def aQ.put(s:aQ K H σ fs){u:V}{t:SL}(hr:rD K H u t)(hf:∀x a,u=.ref x->t.own=true->t.has x a->∀(j:Nat) (w:SL) (y:f8),j≠i->fs[j]?=some (some w)->w.own=true->σ[j]?=some (some (.ref y))->¬w.has y a):aQ K H (σ.set i (some u)) (fs.set i (some t)):=by
 refine⟨by simp[s.len],λj w e=>?_,λj k w x b1 b2 a e1 e2 o1 o2 q1 q2 z1 z2=>?_,s.tb⟩
 .rcases a8 e with⟨rfl,rfl⟩|⟨n,e⟩
  .have hl:j < σ.length:=by
    have:=(Ag.mp e).1;rw[Bw]at this;rw[s.len];exact this
   exact⟨u,aW hl,hr⟩
  .obtain⟨v,h1,h2⟩:=s.at' j w e;exact⟨v,by rw[aq n];exact h1,h2⟩
 .rcases a8 e1 with⟨y1,y2⟩|⟨n1,f1⟩<;>rcases a8 e2 with⟨y3,y4⟩|⟨n2,f2⟩
  .exact y1.trans y3.symm
  .subst y1;subst y2;rw[aq n2]at q2;have hl:j < σ.length:=by have:=(Ag.mp q1).1;simpa using this
   rw[aW hl]at q1;cases q1;exact absurd z2 (hf _ a rfl o1 z1 k x b2 n2 f2 o2 q2)
  .subst y3;subst y4;rw[aq n1]at q1;have hl:k < σ.length:=by have:=(Ag.mp q2).1;simpa using this
   rw[aW hl]at q2;cases q2;exact absurd z1 (hf _ a rfl o2 z2 j w b1 n1 f1 o1 q1)
  .rw[aq n1]at q1;rw[aq n2]at q2;exact s.nd j k w x b1 b2 a f1 f2 o1 o2 q1 q2 z1 z2
def aQ.fy(s:aQ K H σ fs){u:V}(hr:VR K [] H u v)(i:Nat):aQ K H (σ.set i (some u)) (fs.set i (some (.val v))):=s.put (.inl ⟨v,rfl,hr⟩) λ_ _ _ z=>by cases z
def kK{u:V}{t:SL}(o:ck (σ.set i (some u)) (fs.set i (some t)) a)(hl:σ.length=fs.length):ck σ fs a\/∃x,u=.ref x/\t.own=true/\t.has x a:=by
 obtain⟨j,w,x,e1,e2,e3,e4⟩:=o;rcases a8 e1 with⟨rfl,rfl⟩|⟨n,e1⟩
 .have h2:j < σ.length:=by have:=(Ag.mp e3).1;simpa using this
  rw[aW h2]at e3;cases e3;exact .inr ⟨x,rfl,e2,e4⟩
 .rw[aq n]at e3;exact .inl ⟨j,w,x,e1,e2,e3,e4⟩
def yd(s:aQ K H σ fs){u:V}{t:SL}{m:Nat}(p:cI σ fs ψ m a)(hu:∀x,u=.ref x->t.own=true->t.has x a->∃n,t=.cJ ψ n m):cI (σ.set i (some u)) (fs.set i (some t)) ψ m a\/¬ck (σ.set i (some u)) (fs.set i (some t)) a:=by
 obtain⟨j,n,e1,e2⟩:=p;by_cases c:j=i
 .subst c;by_cases c2:∃x,u=.ref x/\t.own=true/\t.has x a
  .obtain⟨x,c3,c4,c5⟩:=c2;obtain⟨n',rfl⟩:=hu x c3 c4 c5;rcases c5 with rfl|c5
   .exact .inl ⟨j,n',by rw[aW ((Ag.mp e1).1)],by rw[aW ((Ag.mp e2).1),c3]⟩
   .cases c5
  .refine .inr λo=>?_;obtain⟨k,w,y,q1,q2,q3,q4⟩:=o;rcases a8 q1 with⟨rfl,rfl⟩|⟨n,q1⟩
   .rw[aW ((Ag.mp e2).1)]at q3;cases q3;exact c2 ⟨y,rfl,q2,q4⟩
   .rw[aq n]at q3;exact n (s.nd k j w _ y a a q1 e1 q2 rfl q3 e2 q4 (.inl rfl))
 .exact .inl ⟨j,n,by rw[aq c];exact e1,by rw[aq c];exact e2⟩
def cn.fy(s:aQ K H σ fs)(u:V)(v:PV)(i:Nat):cn σ fs H (σ.set i (some u)) (fs.set i (some (.val v))) H:=
 ⟨λa o e n=>⟨λ_=>e,λz=>(kK z s.len).elim n λ⟨_,_,z,_⟩=>by cases z⟩,λ_ e=>e,λa ψ m p=>(yd s p (λ_ _ z=>by cases z)).imp id λn=>⟨n,s.free p⟩,λ_ h=>h⟩
def aQ.Qp(s:aQ K H σ fs){t:SL}(hr:fN K H a t)(hn:∀c,t.has a c->¬ck σ fs c)(i:Nat):aQ K H (σ.set i (some (.ref a))) (fs.set i (some t)):=s.put (.inr ⟨a,rfl,hr⟩) λx c e _ hc j w y n e1 e2 e3 z=>by
 cases e;exact hn c hc ⟨j,w,y,e1,e2,e3,z⟩
def yY{t:SL}(hi:t.mm=[]){c:f8}(h:t.has a c):c=a:=by
 rcases h with h|h
 .exact h
 .rw[hi]at h;cases h
def aQ.mU(s:aQ K H σ fs){t:SL}(hr:fN K H a t)(hn:¬ck σ fs a)(i:Nat)(hi:‹t.mm=[]›):aQ K H (σ.set i (some (.ref a))) (fs.set i (some t)):=s.Qp hr (λc hc=>by rw[yY hi hc];exact hn) i
def cn.Qp(s:aQ K H1 σ fs1)(g:bR σ fs H H1 fs1){t:SL}(hn:∀c,t.has a c->¬ck σ fs1 c)(h0:∀c,t.has a c->H c=ci)(i:Nat):cn σ fs H (σ.set i (some (.ref a))) (fs1.set i (some t)) H1:=by
 refine⟨λb o e n=>⟨(g.f.keep b o e n).1,λz=>(kK z s.len).elim (g.f.keep b o e n).2 λ⟨x,z,_,y⟩=>?_⟩,g.there,λb ψ m p=>?_,g.x⟩
 .cases z;rw[h0 b y]at e;cases e
 .have p:=g.ev.symm.cJ p;refine(yd s p (λx z o y=>?_)).imp id λn=>⟨n,s.free p⟩;cases z;exact absurd p.eV (hn b y)
def cn.mU(s:aQ K H1 σ fs1)(g:bR σ fs H H1 fs1){t:SL}(hn:¬ck σ fs1 a)(h0:H a=ci)(i:Nat)(hi:‹t.mm=[]›):cn σ fs H (σ.set i (some (.ref a))) (fs1.set i (some t)) H1:=cn.Qp s g (λc hc=>by rw[yY hi hc];exact hn) (λc hc=>by rw[yY hi hc];exact h0) i
inductive pO:aG->aG->Prop
 |refl (a:aG):pO a a
 |keep {s:Option SL}{a b:aG} (h:pO a b):pO (s::a) (s::b)
 |bump {ψ:Nat->List V->Prop}{n n' m:Nat}{a b:aG} (k:n<=n'/\n'<=m) (h:pO a b):pO (some (.cJ ψ n m)::a) (some (.cJ ψ n' m)::b)
def pO.f{a b:aG}(h:pO a b):dA a b:=by
 induction h with
 |refl a=>exact .refl a
 |keep _ ih=>exact .keep ih
 |bump k _ ih=>exact .bump ih k
def Ev.cons{a b:aG}(e:Ev a b){s t:Option SL}(h:s=t\/∃ψ n n' m,s=some (.cJ ψ n m)/\t=some (.cJ ψ n' m)):Ev (s::a) (t::b):=⟨by simp[e.len],λi=>by
 cases i with
 |zero=>exact h.imp (λz=>by rw[z];rfl) λ⟨ψ,n,n',m,z,y⟩=>⟨ψ,n,n',m,by rw[z];rfl,by rw[y];rfl⟩
 |succ i=>simpa using e.at' i⟩
def pO.ev{a b:aG}(h:pO a b):Ev a b:=by
 induction h with
 |refl a=>exact .refl a
 |keep _ ih=>exact ih.cons (.inl rfl)
 | @bump ψ n n' m _ _ _ _ ih=>exact ih.cons (.inr ⟨ψ,n,n',m,rfl,rfl⟩)
def Ev.nd(ev:Ev fs aD)(s:aQ K H σ fs)(i j:Nat)(t u:SL)(x y a:f8)(e1:aD[i]?=some (some t))(e2:aD[j]?=some (some u))(o1:t.own=true)(o2:u.own=true)(q1:σ[i]?=some (some (.ref x)))(q2:σ[j]?=some (some (.ref y)))(z1:t.has x a)(z2:u.has y a):i=j:=by
 have f:∀{j:Nat}{t:SL}{x:f8},aD[j]?=some (some t)->t.own=true->t.has x a->∃t',fs[j]?=some (some t')/\t'.own=true/\t'.has x a:=λ{j t x} e o z=>by
  rcases ev.get e with k|⟨_,_,_,_,rfl,k⟩
  .exact⟨t,k,o,z⟩
  .exact⟨_,k,rfl,z⟩
 obtain⟨t',a1,a2,a3⟩:=f e1 o1 z1;obtain⟨u',b1,b2,b3⟩:=f e2 o2 z2;exact s.nd i j t' u' x y a a1 b1 a2 b2 q1 q2 a3 b3
def bR.le{a b:aG}(g:bR σ fs H H' a)(h:pO a b):bR σ fs H H' b:=⟨λc o e n t=>g.keep c o e n t,g.there,g.ev.trans h.ev,g.x⟩
def qN(s:aQ K H σ fs){t t':SL}{c:f8}(e1:fs[i]?=some (some t))(o:t.own=true)(np:∀ψ n m,t≠.cJ ψ n m)(e2:σ[i]?=some (some (.ref a)))(hc:t.has a c)(ý:t'.has a c)(fP:∀b,t'.has a b->t.has a b)(o':t'.own=true)(sx:jq c H H')(ht:bb K H H'->fN K H' a t'):aQ K H' σ (fs.set i (some t'))/\cn σ fs H σ (fs.set i (some t')) H':=by
 have oa:=s.ownAt e1 o e2;obtain⟨ob,q,n1,n2,n3⟩:=oa.ex o hc;have tk:bb K H H':=⟨λb vs z=>sx b _ (λy=>by subst y;rw[q]at z;cases z;exact n1 _ rfl) z,λb o u z=>sx b _ (λy=>by subst y;rw[q]at z;cases z;exact n2 _ _ rfl) z,xk λb φ z=>sx b _ (λy=>by subst y;rw[q]at z;cases z;cases n3) z⟩;have ð:=ht tk;have hi:i<fs.length:=(Ag.mp e1).1;have UW:∀b,ck σ (fs.set i (some t')) b->ck σ fs b:=λb z=>by
  obtain⟨j,w,x,z1,z2,z3,z4⟩:=z;rcases a8 z1 with⟨rfl,rfl⟩|⟨n,z1⟩
  .rw[e2]at z3;cases z3;exact⟨j,t,a,e1,o,e2,fP b z4⟩
  .exact⟨j,w,x,z1,z2,z3,z4⟩
 refine⟨⟨by simp[s.len],λj w e=>?_,λj k w x b1 b2 b z1 z2 o1 o2 q1 q2 y1 y2=>?_,s.tb.GV sx q (QW n3) n2⟩,⟨λb ob e n=>⟨λ_=>sx b ob (λz=>by subst z;exact n ⟨i,t,a,e1,o,e2,hc⟩) e,λz=>n (UW b z)⟩,λb e=>?_,λb ψ m p=>?_,tk.x⟩⟩
 .rcases a8 e with⟨rfl,rfl⟩|⟨n,e⟩
  .exact⟨_,e2,.inr ⟨a,rfl,ð⟩⟩
  .obtain⟨u,h1,h2⟩:=s.at' j w e;refine⟨u,h1,h2.mono tk (λx b ob eb ow hb z _=>sx b ob (λy=>?_) z)⟩;subst y;subst eb;exact n (s.nd j i w t x a b e e1 ow o h1 e2 hb hc)
 .have f:∀{j:Nat}{w:SL}{y:f8},(fs.set i (some t'))[j]?=some (some w)->w.own=true->σ[j]?=some (some (.ref y))->w.has y b->∃w',fs[j]?=some (some w')/\w'.own=true/\w'.has y b:=λ{j w y} z ow qy hy=>by
   rcases a8 z with⟨rfl,rfl⟩|⟨n,z⟩
   .rw[e2]at qy;cases qy;exact⟨t,e1,o,fP b hy⟩
   .exact⟨w,z,ow,hy⟩
  obtain⟨w',a1,a2,a3⟩:=f z1 o1 q1 y1;obtain⟨x',c1,c2,c3⟩:=f z2 o2 q2 y2;exact s.nd j k w' x' b1 b2 b a1 c1 a2 c2 q1 q2 a3 c3
 .cases z:H b with
  |none=>rfl
  |some ob=>
   by_cases cc:b=c
   .subst cc;obtain⟨o2,y,_⟩:=ð.ex o' ý;rw[e]at y;cases y
   .rw[sx b ob cc z]at e;cases e
 .obtain⟨j,k,p1,p2⟩:=p;have ji:j≠i:=λz=>by subst z;rw[e1]at p1;cases p1;exact np ψ k m rfl
  exact .inl ⟨j,k,by rw[aq ji];exact p1,p2⟩
def gJ(s:aQ K H σ fs){t t':SL}(e1:fs[i]?=some (some t))(o:t.own=true)(np:∀ψ n m,t≠.cJ ψ n m)(e2:σ[i]?=some (some (.ref a)))(sx:jq a H H')(ht:bb K H H'->fN K H' a t')(hi:‹t'.mm=t.mm›)(o':‹t'.own=true›):aQ K H' σ (fs.set i (some t'))/\cn σ fs H σ (fs.set i (some t')) H':=
 qN s e1 o np e2 (.inl rfl) (.inl rfl) (λb h=>by unfold SL.has at h ⊢;rw[hi]at h;exact h) o' sx ht
end
end
end FL
open FL.W renaming bind→am,ret→ce,run_bind→ga,aa→mo,af→nn,au→sK,aP→KB,ext'→P3
local macro_rules | `($a\$b)=>`(am (ce $a) $b)
variable{x:B4}{u:L2.V}{b:BF}{fs aD fs1 fs2 fs3:FL.aG}{es:O BF}{σ':L2.St}{wa wb wc:FL.W PL.PV}{wl:FL.W (O PL.PV)}
namespace FL
section
variable[bL]
variable{K:Ab}
def fE(K:Ab)(fs:aG)(w:W PV)(aD:aG:=fs):TE:=λσ H Q=>aQ K H σ fs/\w.run λv=>∀u H',bR σ fs H H' aD->aQ K H' σ aD->VR K [] H' u v->Q u H'
def fT(K:Ab)(fs:aG)(w:W Bool)(aD:aG:=fs):TT:=λσ H Q=>aQ K H σ fs/\w.run λb=>∀H',bR σ fs H H' aD->aQ K H' σ aD->Q b H'
def fO(K:Ab)(fs:aG)(w:W (Option Int))(aD:aG:=fs):TO:=λσ H Q=>aQ K H σ fs/\w.run λb=>∀H',bR σ fs H H' aD->aQ K H' σ aD->Q b H'
def fL(K:Ab)(fs:aG)(w:W (O PV))(aD:aG:=fs):TE:=λσ H Q=>aQ K H σ fs/\w.run λl=>∀a vs H',bR σ fs H H' aD->aQ K H' σ aD->H a=ci->H' a=some (.lst vs)->ax K [] H' vs l->Q (.ref a) H'
def SqI(K:Ab)(H:Hp)(u:V)(l:O PV):Prop:=∃a vs,u=.ref a/\(Lk K H a vs\/H a=some (.tup vs))/\ax K [] H vs l
def WI(K:Ab)(σ:L2.St)(fs:aG)(H:Hp)(u:V)(l:O PV):Prop:=SqI K H u l\/∃a,u=.ref a/\((¬ck σ fs a/\∃vs,H a=some (.lst vs)/\ax K [] H vs l)\/∃(i:Nat) (q:Option f8),fs[i]?=some (some (.ol q l))/\σ[i]?=some (some (.ref a)))
def fQ(K:Ab)(fs:aG)(w:W (O PV))(aD:aG:=fs):TE:=λσ H Q=>aQ K H σ fs/\w.run λl=>∀u H',bR σ fs H H' aD->aQ K H' σ aD->WI K σ aD H' u l->Q u H'
def fI(K:Ab)(fs:aG)(w:W (O PV))(aD:aG:=fs):TE:=λσ H Q=>aQ K H σ fs/\w.run λl=>∀u H',bR σ fs H H' aD->aQ K H' σ aD->SqI K H' u l->Q u H'
inductive AK where
 |v|p (ψ:Nat->List V->Prop) (d:Nat)|f (a:f8) (us:List V) (ps:List PV) (fz:List (f8×Obj))
inductive gh(K:Ab)(H:Hp):List V->List AK->List PV->Prop
 |nil:gh K H [] [] []
 |v {u:V}{x:PV}{vs:List V}{ks:List AK}{l:List PV} (r:VR K [] H u x) (t:gh K H vs ks l):gh K H (u::vs) (.v::ks) (x::l)
 |f {a:f8}{us vs:List V}{ps:List PV}{fz:List (f8×Obj)}{ks:List AK}{l:List PV} (r:ax K [] H us ps) (z:FzO H fz) (t:gh K H vs ks l):gh K H (.ref a::vs) (.f a us ps fz::ks) l
def fA(K:Ab)(fs:aG)(ks:O AK)(w:W (O PV))(aD:aG:=fs):TA:=λσ H Q=>aQ K H σ fs/\w.run λl=>∀vs H',bR σ fs H H' aD->aQ K H' σ aD->gh K H' vs ks l->Q vs H'
structure EF(X:Cx)(K:Ab)(fs:aG)(e:nw)(w:W PV)(aD:aG:=fs):Prop where p:PE X e (fE K fs w aD)
structure LF(X:Cx)(K:Ab)(fs:aG)(e:nw)(w:W (List PV))(aD:aG:=fs):Prop where p:PE X e (fL K fs w aD)
structure QF(X:Cx)(K:Ab)(fs:aG)(e:nw)(w:W (List PV))(aD:aG:=fs):Prop where p:PE X e (fQ K fs w aD)
structure IF(X:Cx)(K:Ab)(fs:aG)(e:nw)(w:W (List PV))(aD:aG:=fs):Prop where p:PE X e (fI K fs w aD)
structure TF(X:Cx)(K:Ab)(fs:aG)(e:nw)(w:W Bool)(aD:aG:=fs):Prop where p:PT X e (fT K fs w aD)
structure O7(X:Cx)(K:Ab)(fs:aG)(e:nw)(w:W Bool)(aD:aG:=fs):Prop where p:PW X e (fT K fs w aD)
structure OF(X:Cx)(K:Ab)(fs:aG)(e:Option nw)(w:W (Option Int))(aD:aG:=fs):Prop where p:L2.PO X e (fO K fs w aD)
structure AF(X:Cx)(K:Ab)(fs:aG)(es:List nw)(ks:List AK){R:Type}(B:(List PV->W R)->W R)(aD:aG:=fs):Prop where
 p:∃w:W (List PV),PA X es (fA K fs ks w aD)/\∀k,B k=am w k
section
def SqI.tk{l:O PV}(t:bb K H H')(h:SqI K H u l):SqI K H' u l:=by
 obtain⟨a,vs,e,q,r⟩:=h;exact⟨a,vs,e,q.imp (t.f _ _) (t.t _ _),ax.tk t r⟩
def WI.go{l:O PV}(h:WI K σ fs H u l)(s:aQ K H σ fs)(g:bR σ fs H H' aD):WI K σ aD H' u l:=by
 rcases h with h|⟨a,e,⟨n,vs,q,r⟩|q⟩
 .exact .inl (h.tk (g.cB s))
 .exact .inr ⟨a,e,.inl ⟨λz=>n (g.ev.eV z),vs,(g.qW q n),g.MV s r⟩⟩
 .obtain⟨i,q0,h1,h2⟩:=q;exact .inr ⟨a,e,.inr ⟨i,q0,g.ev.same h1 (by simp),h2⟩⟩
def WI.sq{l:O PV}(h:WI K σ fs H u l)(s:aQ K H σ fs):∃a vs,u=.ref a/\(bM K H a vs\/d6 K H a vs)/\ax K [] H vs l:=by
 rcases h with⟨a,vs,e,q,r⟩|⟨a,e,⟨n,vs,q,r⟩|⟨i,_,q1,q2⟩⟩
 .exact⟨a,vs,e,q.elim (λq=>.inl q.sq) λq=>.inr (d6.of q),r⟩
 .exact⟨a,vs,e,.inl (bM.of q),r⟩
 .obtain⟨_,vs,q,r⟩:=s.ownAt q1 rfl q2;exact⟨a,vs,e,.inl (bM.of q),r⟩
end
section
variable{a c o:nw}{rest:O nw}{w:W PV}
def EF.le(h:EF X K fs e w fs1)(l:pO fs1 fs2):EF X K fs e w fs2:=⟨PE.imp h.p λσ H Q ⟨sr,q⟩=>⟨sr,w.mono (λv q u H' g s r=>q u H' (g.le l) (s.le l.f) r) q⟩⟩
def ae(i:Nat)(hs:‹fs[i]?=some (some (.val v))›)(hN:‹X.N[i]?=some x›)(hv:v9 X.env.scope x:=by first|exact B1 rfl|exact Cd (B1 rfl)|exact Cd (Cd rfl))(hd: ~~~(gZ x))(gU: ~~~(xF x)):EF X K fs (.Name x pos) (.ret v):=
 ⟨PE.imp (cX hN hv hd gU) λσ H Q ⟨sr,q⟩=>by
  obtain⟨u,e1,r⟩:=sr.at' i _ hs;rcases r with⟨w,e,r⟩|⟨a,_,r⟩
  .cases e;exact⟨u,e1,q u H .refl sr r⟩
  .exact r.elim⟩
def f_c{v:V}{p:PV}(hv:∀H,VR K [] H v p)(h:PE X e (tC v)):EF X K fs e (.ret p):=⟨PE.imp h λσ H Q ⟨sr,q⟩=>q v H .refl sr (hv _)⟩
def aw{i j}:EF X K fs (.Constant (.int i) j pos) (.ret (.int i)):=f_c (λ_=>.int i) bg
def aeV{b j}:EF X K fs (.Constant (.bool b) j pos) (.ret (.bl b)):=f_c (λ_=>.bl b) adi
def kg{j}:EF X K fs (.Constant .none j pos) (.ret .aB):=f_c (λ_=>.aB) QM
def cQ{x j}:EF X K fs (.Constant (.str x) j pos) (.ret (.str x)):=f_c (λ_=>.str x) Zl
def zv{i:Int}{t:Tok}(hm:X.mg x=some (.int i t))(hg:Gl X x)(hd: ~~~(gZ x)):EF X K fs (.Name x pos) (.ret (.int i)):=f_c (λ_=>.int i) (sA hg hm ⟨_,rfl⟩ hd)
def zu{i:Str}{t:Tok}(hm:X.mg x=some (.str i t))(hg:Gl X x)(hd: ~~~(gZ x)):EF X K fs (.Name x pos) (.ret (.str i)):=f_c (λ_=>.str i) (sA hg hm ⟨_,rfl⟩ hd)
def of2(m:M2)(x y:PV):W PV:=⟨λQ=>m.f x y [] λz h=>h=[]/\Q z,λf q=>m.mono (λ_ _ q=>⟨q.1,f _ q.2⟩) q⟩
def hr0(H:Hp):HR K [] H []:=⟨EK,rfl,λn a o e _=>by simp at e⟩
def pq0{Q:VK}{z:PV}{h:PH}(sr:aQ K H σ fs)(q:h=[]/\∀u H',bR σ fs H H'->aQ K H' σ fs->VR K [] H' u z->Q u H'):pQ K [] H Q z h:=λι' v H' g r x=>by
 obtain⟨e,q⟩:=q;subst e;have:ι'=[]:=Cm r.len;subst this;have sm:jr H H':=λa o z=>g.keep a o (by simp) z;exact q v H' (bR.same sm) (sr.same sm) x
def Zz{r:R2}{m:M2}(hm:M2.Ok K r m){Q:VK}{v:V}{x y:PV}(sr:aQ K H σ fs)(hu:VR K [] H u x)(hv:VR K [] H v y)(q:(of2 m x y).run λz=>∀u H',bR σ fs H H'->aQ K H' σ fs->VR K [] H' u z->Q u H'):r u v H Q:=
 hm (hr0 H) hu hv (m.mono (λz h q=>pq0 sr q) q)
def R9{r:R2}{m:M2}(hm:M2.Ok K r m):∀σ H Q,fE K fs (.bind wa λx=>.bind wb λy=>of2 m x y) fs2 σ H Q->WU r (fE K fs wa fs1) (fE K fs1 wb fs2) σ H Q:=λσ H Q ⟨sr,q⟩=>
 ⟨sr,wa.mono (λx q1 u1 H1 g1 s1 v1=>⟨s1,wb.mono (λy q2 u2 H2 g2 s2 v2=>Zz hm s2 (g2.vr s1 v1) v2 ((of2 m x y).mono (λz q u3 H3 g3 s3 v3=>q u3 H3 ((g1.trans g2).trans g3) s3 v3) q2)) q1⟩) q⟩
def V6{op:Operator}{r:R2}{m:M2}(ho:iK X (wf op) r)(hm:M2.Ok K r m)(ha:EF X K fs a wa fs1)(hb:EF X K fs1 b wb fs2):EF X K fs (.BinOp a op b pos) (.bind wa λx=>.bind wb λy=>of2 m x y) fs2:=⟨PE.imp (dh ho ha.p hb.p) (R9 hm)⟩
def uO(ha:EF X K fs a wa fs1)(hb:EF X K fs1 b wb fs2):EF X K fs (.BinOp a .Sub b pos) (.bind wa λx=>.bind wb λy=>of2 yp x y) fs2:=V6 Zr (IK λ_ _ _ _=>.int _) ha hb
def X7(ha:EF X K fs a wa fs1)(hb:EF X K fs1 b wb fs2):EF X K fs (.BinOp a .Mult b pos) (.bind wa λx=>.bind wb λy=>of2 U7 x y) fs2:=V6 lK (La λ_ _ _ _=>.int _) ha hb
def X8(ha:EF X K fs a wa fs1)(hb:EF X K fs1 b wb fs2):EF X K fs (.BinOp a .Mod b pos) (.bind wa λx=>.bind wb λy=>of2 oMod x y) fs2:=V6 qd (La λ_ _ _ _=>.int _) ha hb
def Ss(ha:EF X K fs a wa fs1)(hb:EF X K fs1 b wb fs2):EF X K fs (.BinOp a .Pow b pos) (.bind wa λx=>.bind wb λy=>of2 Q1 x y) fs2:=V6 Zt (La λ_ _ _ _=>.int _) ha hb
def yq:PV->W PV
 |.int i=>.ret (.int (-i))
 |_=>.fail
def xo(ha:EF X K fs a wa fs1):EF X K fs (.UnaryOp .USub a pos) (.bind wa yq) fs1:=⟨PE.imp (adf Yz ha.p) λσ H Q ⟨sr,q⟩=>⟨sr,wa.mono (λx q1 u1 H1 g1 s1 v1=>by
 cases v1 with
 |int i=>exact⟨_,rfl,q1 _ H1 g1 s1 (.int _)⟩
 |_=>exact q1.elim) q⟩⟩
def asB:PV->W Bool
 |.bl b=>.ret b
 |_=>.fail
def uP{m:M2}(hc:JC X K op b m)(ha:EF X K fs a wa fs1)(hb:EF X K fs1 b wb fs2):EF X K fs (.Compare a [op] [b] pos) (.bind wa λx=>.bind wb λy=>of2 m x y) fs2:=let ⟨_,h1,h2⟩:=hc.p;⟨PE.imp (LZ h1 ha.p hb.p hc.k) (R9 h2)⟩
def aeI{w:W PV}:∀σ H Q,fT K fs (.bind w asB) fs1 σ H Q->(fE K fs w fs1) σ H λx H'=>∃k,x=.bl k/\Q k H':=λσ H Q ⟨sr,q⟩=>⟨sr,w.mono (λx q1 u1 H1 g1 s1 v1=>by
 cases v1 with
 |bl b=>exact⟨b,rfl,q1 H1 g1 s1⟩
 |_=>exact q1.elim) q⟩
def fw{m:M2}(hc:JC X K op b m)(ha:EF X K fs a wa fs1)(hb:EF X K fs1 b wb fs2):TF X K fs (.Compare a [op] [b] pos) (.bind wa λx=>.bind wb λy=>.bind (of2 m x y) asB) fs2:=let ⟨_,h1,h2⟩:=hc.p
 ⟨PT.imp (gp h1 ha.p hb.p hc.k) λσ H Q q=>R9 h2 σ H _ (aeI σ H Q q)⟩
def SV(z:PV)(w:W PV):W PV:=match z with
 |.bl true=>w
 |.bl false=>.ret (.bl false)
 |_=>.fail
def WB(x:PV)(w:W PV):W PV:=match x with
 |.bl true=>w
 |.bl false=>.ret (.bl false)
 |_=>.fail
def X9(ha:EF X K fs a wa fs1)(hb:EF X K fs1 (.BoolOp .And (b::rest) pos) wb fs2)(hl:pO fs1 fs2:=by exact .refl _):EF X K fs (.BoolOp .And (a::b::rest) pos) (.bind wa λx=>WB x wb) fs2:=⟨PE.imp (Zo ha.p hb.p) λσ H Q ⟨sr,q⟩=>⟨sr,wa.mono (λx q1 u1 H1 g1 s1 v1=>by
 cases v1 with
 |bl k=>
  cases k with
  |true=>exact⟨true,rfl,by rw[if_pos rfl];exact⟨s1,wb.mono (λ_ q u H' g s v=>q u H' (g1.trans g) s v) q1⟩⟩
  |false=>exact⟨false,rfl,by rw[if_neg AV];exact q1 _ H1 (g1.le hl) (s1.le hl.f) (.bl _)⟩
 |_=>exact q1.elim) q⟩⟩
def X6{op}(h:EF X K fs a wa fs1):EF X K fs (.BoolOp op [a] pos) wa fs1:=⟨Zm h.p⟩
variable{ta tb tc:W Bool}
def xM(h:TF X K fs a ta fs1):O7 X K fs (.BoolOp .And [a] pos) ta fs1:=⟨LV h.p⟩
def YD(h:TF X K fs a ta fs1):O7 X K fs (.BoolOp .Or [a] pos) ta fs1:=⟨Qn h.p⟩
def Jj(ha:TF X K fs a ta fs1)(hb:O7 X K fs1 (.BoolOp .And (b::rest) pos) tb fs2)(hl:pO fs1 fs2:=by exact .refl _):O7 X K fs (.BoolOp .And (a::b::rest) pos) (.bind ta λk=>if k=true then tb else .ret false) fs2:=⟨PW.imp (Qo ha.p hb.p) λσ H Q ⟨sr,q⟩=>⟨sr,ta.mono (λk q1 H1 g1 s1=>by
 cases k with
 |true=>exact yR ⟨s1,tb.mono (λ_ q H' g s=>q H' (g1.trans g) s) q1⟩
 |false=>exact yS (q1 H1 (g1.le hl) (s1.le hl.f))) q⟩⟩
def aco(ha:TF X K fs a ta fs1)(hb:O7 X K fs1 (.BoolOp .Or (b::rest) pos) tb fs2)(hl:pO fs1 fs2:=by exact .refl _):O7 X K fs (.BoolOp .Or (a::b::rest) pos) (.bind ta λk=>if k=true then .ret true else tb) fs2:=⟨PW.imp (Xd ha.p hb.p) λσ H Q ⟨sr,q⟩=>⟨sr,ta.mono (λk q1 H1 g1 s1=>by
 cases k with
 |true=>exact yR (q1 H1 (g1.le hl) (s1.le hl.f))
 |false=>exact yS ⟨s1,tb.mono (λ_ q H' g s=>q H' (g1.trans g) s) q1⟩) q⟩⟩
def O7.t(h:O7 X K fs a ta fs1):TF X K fs a ta fs1:=⟨PW.pt h.p⟩
def Ly(ha:TF X K fs a ta fs1):TF X K fs (.UnaryOp .Not a pos) (.bind ta λk=>.ret (!k)) fs1:=⟨PT.imp (Zi ha.p) λσ H Q ⟨sr,q⟩=>⟨sr,q⟩⟩
def vT(hc:TF X K fs c tc fs1)(ha:EF X K fs1 a wa fs2)(hb:EF X K fs1 b wb fs2):EF X K fs (.IfExp c a b pos) (.bind tc λk=>if k=true then wa else wb) fs2:=⟨PE.imp (Hb hc.p ha.p hb.p) λσ H Q ⟨sr,q⟩=>⟨sr,tc.mono (λk q1 H1 g1 s1=>by
 cases k with
 |true=>exact yR ⟨s1,wa.mono (λ_ q u H' g s v=>q u H' (g1.trans g) s v) q1⟩
 |false=>exact yS ⟨s1,wb.mono (λ_ q u H' g s v=>q u H' (g1.trans g) s v) q1⟩) q⟩⟩
def adI{la lb:W (O PV)}(hc:TF X K fs c tc fs1)(ha:LF X K fs1 a la fs2)(hb:LF X K fs1 b lb fs2):LF X K fs (.IfExp c a b pos) (.bind tc λk=>if k=true then la else lb) fs2:=⟨PE.imp (Hb hc.p ha.p hb.p) λσ H Q ⟨sr,q⟩=>⟨sr,tc.mono (λk q1 H1 g1 s1=>by
 cases k with
 |true=>exact yR ⟨s1,la.mono (λ_ q a vs H' g s n e v=>q a vs H' (g1.trans g) s (g1.there a n) e v) q1⟩
 |false=>exact yS ⟨s1,lb.mono (λ_ q a vs H' g s n e v=>q a vs H' (g1.trans g) s (g1.there a n) e v) q1⟩) q⟩⟩
def gj:PV->W Bool
 |.aB=>.ret false
 |.bl b=>.ret b
 |.int i=>.ret (i != 0)
 |.str y=>.dm (y.length<=sizeLine) (.ret ((y.length:Int) != 0))
 |.tup l=>.ret (!l.isEmpty)
 |.cl l=>.ret (!l.isEmpty)
 |_=>.fail
def gH(hK:X.K=K)(ha:EF X K fs a wa fs1)(he:∀Ä,isTrue a X.env Ä=(do let v <- Ä;standAt a.pos;GT [v] (truthy v))):TF X K fs a (.bind wa gj) fs1:=⟨PT.imp (wK K hK ha.p he) λσ H Q ⟨sr,q⟩=>⟨sr,wa.mono (λx q1 u1 H1 g1 s1 v1=>by
 cases v1 with
 |aB=>exact⟨false,rfl,q1 H1 g1 s1⟩
 |bl b=>exact⟨b,rfl,q1 H1 g1 s1⟩
 |int i=>exact⟨_,rfl,q1 H1 g1 s1⟩
 |str y=>exact⟨_,⟨q1.1,rfl⟩,q1.2 H1 g1 s1⟩
 |ty _=>exact q1.elim
 |dk _ _ _=>exact q1.elim
 |dt _ _ _=>exact q1.elim
 |ob _ _ _ _ _=>exact q1.elim
 |hand _=>exact q1.elim
 |ref _=>exact q1.elim
 | @tup p vs l e rs=>
  refine⟨!vs.isEmpty,.inr (.inl ⟨_,d6.of e,rfl⟩),?_⟩;rw[<- kQ rs];exact q1 H1 g1 s1
 | @cl p vs l e rs=>
  refine⟨!vs.isEmpty,.inl ⟨_,e.sq,rfl⟩,?_⟩;rw[<- kQ rs];exact q1 H1 g1 s1) q⟩⟩
def acr(hK:X.K=K)(ha:QF X K fs a wl fs1)(he:∀Ä,isTrue a X.env Ä=(do let v <- Ä;standAt a.pos;GT [v] (truthy v))):TF X K fs a (.bind wl λl=>.ret (!l.isEmpty)) fs1:=⟨PT.imp (wK K hK ha.p he) λσ H Q ⟨sr,q⟩=>⟨sr,wl.mono (λl q1 u1 H1 g1 s1 v1=>by
 obtain⟨b,vs,rfl,h,rs⟩:=v1.sq s1;refine⟨!vs.isEmpty,?_,?_⟩
 .exact h.elim (λh=>.inl ⟨_,h,rfl⟩) λh=>.inr (.inl ⟨_,h,rfl⟩)
 .rw[<- kQ rs];exact q1 H1 g1 s1) q⟩⟩
variable{R:Type}{ks:O AK}{B:(O PV->W R)->W R}
def ai:AF X K fs [] [] (R:=R) (λk=>k []):=⟨.ret [],PA.imp bj λσ H Q ⟨sr,q⟩=>q [] H .refl sr .nil,λk=>rfl⟩
def ag(ha:EF X K fs e w fs1)(hr:AF X K fs1 es ks B fs2)(hs:‹gb X e es›):AF X K fs (e::es) (.v::ks) (λk=>.bind w λx=>B λl=>k (x::l)) fs2:=by
 obtain⟨wr,hp,hB⟩:=hr.p;refine⟨.bind w λx=>.bind wr λl=>.ret (x::l),PA.imp (aJ ha.p hp hs) λσ H Q ⟨sr,q⟩=>?_,λk=>?_⟩
 .exact⟨sr,w.mono (λx q1 u1 H1 g1 s1 v1=>⟨s1,wr.mono (λl q2 vs H2 g2 s2 v2=>q2 _ H2 (g1.trans g2) s2 (.v (g2.vr s1 v1) v2)) q1⟩) q⟩
 .have:(λx=>B λl=>k (x::l))=λx=>am wr λl=>k (x::l):=funext λx=>hB _;rw[this];rfl
theorem gh.MV:∀{vs:O V}{n:Nat}{l:O PV},gh K H vs (Ap n .v) l->ax K [] H vs l/\l.length=n
 |_,0,_,.nil=>⟨.nil,rfl⟩
 |_,n+1,_,.v r t=>⟨.cons r (gh.MV t).1,by rw[Ax,(gh.MV t).2]⟩
def aeS{x1}{B:(O PV->W PV)->W PV}(h:AF X K fs es (Ap n .v) B fs1)(hn: ~~~(n<=1000)):EF X K fs (.Tuple es x1 pos) (B λl=>.ret (.tup l)) fs1:=by
 obtain⟨w,hp,hB⟩:=h.p;rw[hB];refine⟨PE.imp (UR hp) λσ H Q ⟨sr,q⟩=>⟨sr,w.mono (λl q1 vs H1 g1 s1 v1=>?_) q⟩⟩;obtain⟨v2,hl⟩:=v1.MV;exact⟨by rw[v2.length,hl];exact b9 hn,λp H2 s2 e2 n2=>q1 _ H2 (g1.trans (bR.same s2)) (s1.same s2) (.tup e2 (ax.tk s2.d7 v2))⟩
def Xw{B:(O PV->W (O PV))->W (O PV)}(h:AF X K fs es (Ap n .v) B fs1)(hn: ~~~(n<=1000)):LF X K fs (.List es pos) (B λl=>.ret l) fs1:=by
 obtain⟨w,hp,hB⟩:=h.p;rw[hB];refine⟨PE.imp (su hp) λσ H Q ⟨sr,q⟩=>⟨sr,w.mono (λl q1 vs H1 g1 s1 v1=>?_) q⟩⟩;obtain⟨v2,hl⟩:=v1.MV;exact⟨by rw[v2.length,hl];exact b9 hn,λp H2 s2 e2 n2=>q1 _ _ H2 (g1.trans (bR.same s2)) (s1.same s2) (g1.there p n2) e2 (ax.tk s2.d7 v2)⟩
end
end
end FL
namespace L2
def Inv.zd{σ:St}{s:db}(I:Inv X U σ H s)(e:H a=some (.lst vs)):∃o,Inv X U σ (upd H a (.bA o (.lst vs))) s:=by
 obtain⟨z,ao,n,r,h1⟩:=(I.ba a _ e);exact⟨_,I.write (by rw[e];exact Cb) (.inl rfl) (λb u _ z=>z) ⟨_,h1⟩ ⟨h1,z,ao,n,r,h1⟩⟩
def Inv.Ml{σ:St}{s:db}{kvs:O (Key×V)}(I:Inv X U σ H s)(e:H a=some (.dK kvs)):∃o,Inv X U σ (upd H a (.bA o (.dK kvs))) s:=by
 obtain⟨z,hs,vs,r,o,es,ep,h1,h2⟩:=(I.ba a _ e);exact⟨o,I.write (by rw[e];exact Cb) (.inl rfl) (λb u _ z=>z) ⟨o,h1⟩ ⟨h1,z,hs,vs,r,o,es,ep,h1,h2⟩⟩
end L2
variable{t:FL.SL}{ks:O FL.AK}{B:(O PL.PV->FL.W PL.PV)->FL.W PL.PV}{q0:Option Bf}
namespace FL
section
variable[bL]
variable{K:Ab}
section
def se(o':HO)(e:H a=some (.lst vs)):bb K H (upd H a o'):=⟨λb ws q=>by rw[aj (Hq q e (by intro z;cases z))];exact q,λb o u q=>by rw[aj (Hq q e (by intro z;cases z))];exact q,xk λb φ q=>by rw[aj (Hq q e (by intro z;cases z))];exact q⟩
def qB(kvs:O (Key×PV)):PV:=.dv (kvs.map λkv=>kP kv.1) (kvs.map (·.2))
def O6(kvs:O (O Key×PV)):PV:=.dv (kvs.map λkv=>.tup (kv.1.map kP)) (kvs.map (·.2))
def adm(h:o.ow=true):∀φ,o≠.ext φ:=λφ e=>by subst e;cases h
def gG{oh:HO}(o':HO)(e:H a=some oh)(n1:∀vs,oh≠.tup vs)(n2:∀o u,oh≠.bA o u)(n3:∀φ,oh≠.ext φ:=by first|(intro φ z;cases z;done)|exact adm (by assumption)):bb K H (upd H a o'):=⟨λb ws q=>by rw[aj (λz=>by subst z;rw[e]at q;cases q;exact n1 _ rfl)];exact q,λb o u q=>by rw[aj (λz=>by subst z;rw[e]at q;cases q;exact n2 _ _ rfl)];exact q,xk λb φ q=>by rw[aj (λz=>by subst z;rw[e]at q;cases q;exact n3 _ rfl)];exact q⟩
def XB{vs:O (O Key×V)}{kvs:O (O Key×PV)}(h:vs.map (·.1)=kvs.map (·.1)):(kvs.map λkv=>PV.tup (kv.1.map kP))=vs.map λkv=>PV.tup (kv.1.map kP):=by
 have:=congrArg (F1 λk:O Key=>PV.tup (k.map kP)) h;rw[AL,AL]at this;exact this.symm
def XC{vs:O (Key×V)}{kvs:O (Key×PV)}(h:vs.map (·.1)=kvs.map (·.1)):(kvs.map λkv=>kP kv.1)=vs.map λkv=>kP kv.1:=by
 have:=congrArg (F1 kP) h;rw[AL,AL]at this;exact this.symm
def SL.bw:SL->Bool
 |.ol _ _=>true
 |.od _=>true
 |.ot _=>true
 |_=>false
def SL.bv:SL->PV
 |.ol _ l=>.cl l
 |.od kvs=>qB kvs
 |.ot kvs=>O6 kvs
 |_=>.aB
def SL.SY(h:t.bw=true):t.own=true:=by cases t<;>first|rfl|cases h
def aet{s:db}(I:Inv X U σ' H s)(oa:fN K H a t)(hb:t.bw=true):∃ob o,H a=some o/\(∀vs,o≠.tup vs)/\(∀ob u,o≠.bA ob u)/\Inv X U σ' (upd H a (.bA ob o)) s/\VR K [] (upd H a (.bA ob o)) (.ref a) t.bv:=by
 cases t with
 |ol q l=>
  obtain⟨_,vs,e,r⟩:=oa;obtain⟨ob,I2⟩:=I.zd e;exact⟨ob,_,e,by simp,by simp,I2,.cl (.inl ⟨ob,ay⟩) (ax.tk (gG _ e (by simp) (by simp)) r)⟩
 |od l=>
  obtain⟨vs,e,k,r⟩:=oa;obtain⟨ob,I2⟩:=I.Ml e;exact⟨ob,_,e,by simp,by simp,I2,.dk ay (XC k) (ax.tk (gG _ e (by simp) (by simp)) r)⟩
 |ot l=>
  obtain⟨vs,e,k,r⟩:=oa;obtain⟨ob,I2⟩:=I.freeze e;exact⟨ob,_,e,by simp,by simp,I2,.dt ay (XB k) (ax.tk (gG _ e (by simp) (by simp)) r)⟩
 |_=>cases hb
def aQ.aes{u:HO}(sr:aQ K H σ fs)(hs:fs[i]?=some (some t))(ho:t.own=true)(e1:σ[i]?=some (some (.ref a)))(h1:H a=some o)(n1:∀vs,o≠.tup vs)(n2:∀ob u,o≠.bA ob u)(vr:VR K [] (upd H a u) (.ref a) v):aQ K (upd H a u) σ (fs.set i (some (.val v))):=by
 have ow:o.ow=true:=by
  obtain⟨o',z1,_,_,z2⟩:=(sr.ownAt hs ho e1).ex ho (.inl rfl);rw[h1]at z1;cases z1;exact z2
 have nt:o.nt=true:=QW ow;refine⟨by simp[sr.len],λj t' z=>?_,λj k t' u b1 b2 b z1 z2 o1 o2=>?_,sr.tb.GV (λb o n z=>by rw[aj n];exact z) h1 nt n2⟩
 .rcases a8 z with⟨rfl,rfl⟩|⟨n,z⟩
  .exact⟨_,e1,.inl ⟨_,rfl,vr⟩⟩
  .obtain⟨u,k1,k2⟩:=sr.at' j t' z;exact⟨u,k1,k2.mono (gG _ h1 n1 n2) (λx b o eb ow hb zz _=>by
    subst eb;rw[aj (λy=>by subst y;exact n (sr.nd j i t' _ x b b z hs ow ho k1 e1 hb (.inl rfl)))];exact zz)⟩
 .rcases a8 z1 with⟨rfl,rfl⟩|⟨n1,z1⟩
  .cases o1
  .rcases a8 z2 with⟨rfl,rfl⟩|⟨n2,z2⟩
   .cases o2
   .exact sr.nd j k t' u b1 b2 b z1 z2 o1 o2
def aQ.side(s:aQ K H σ fs)(n:¬ck σ fs a)(e:H a=some (.lst vs))(o':HO):aQ K (upd H a o') σ fs:=⟨s.len,λi t q=>by
 obtain⟨u,h1,h2⟩:=s.at' i t q;exact⟨u,h1,h2.mono (se o' e) (λx b o eb ow hb z _=>by subst eb;rw[aj (λy:b=a=>n ⟨i,t,x,q,ow,h1,y▸hb⟩)];exact z)⟩,s.nd,s.tb.GV (λb o n z=>by rw[aj n];exact z) e rfl (by simp)⟩
def bR.side(g:bR σ fs H H1 aD)(h0:H a=ci)(e0:∀φ,H1 a≠some (.ext φ))(o':HO):bR σ fs H (upd H1 a o') aD:=⟨λb o e n t=>by rw[aj (bD e h0)];exact g.keep b o e n t,λb e=>by
 by_cases c:b=a
 .subst c;exact h0
 .rw[aj c]at e;exact g.there b e,g.ev,λb z=>by
 have z:=g.x b z;unfold dH at z ⊢;rw[aj (λy=>by subst y;exact e0 _ z)];exact z⟩
end
section
variable{a:nw}{w:W PV}
def gX(h:LF X K fs e wl fs1):EF X K fs e (.bind wl λl=>.ret (.cl l)) fs1:=⟨λU s σ H Q I ⟨sr,q⟩=>by
 refine bE (h.p U s σ H (λu H1=>∃a vs l,u=.ref a/\bR σ fs H H1 fs1/\aQ K H1 σ fs1/\H a=ci/\H1 a=some (.lst vs)/\ax K [] H1 vs l/\∀u H',bR σ fs H H' fs1->aQ K H' σ fs1->VR K [] H' u (.cl l)->Q u H') I ⟨sr,wl.mono (λl q1 a vs H1 g1 s1 n e v=>⟨a,vs,l,rfl,g1,s1,n,e,v,q1⟩) q⟩) λu s1 ⟨v,H1,I1,r1,a,vs,l,e,g1,Ut,n,ea,vr,q1⟩=>?_;subst e;obtain⟨ob,I2⟩:=I1.zd ea;exact⟨.ref a,_,I2,r1,q1 _ _ (g1.side n (λφ=>by rw[ea];simp) _) (Ut.side (λz=>sr.noOwn n (g1.ev.eV z)) ea _) (.cl (.inl ⟨ob,ay⟩) (ax.tk (se _ ea) vr))⟩⟩
def az:PV->W (O PV)
 |.tup l=>.ret l
 |.cl l=>.ret l
 |_=>.fail
def bG(h:EF X K fs e w fs1):IF X K fs e (.bind w az) fs1:=⟨PE.imp h.p λσ H Q ⟨sr,q⟩=>⟨sr,w.mono (λx q1 u1 H1 g1 s1 v1=>by
 cases v1 with
 |tup e r=>exact q1 _ H1 g1 s1 ⟨_,_,rfl,.inr e,r⟩
 |cl e r=>exact q1 _ H1 g1 s1 ⟨_,_,rfl,.inl e,r⟩
 |_=>exact q1.elim) q⟩⟩
def qZ(h:LF X K fs e wl fs1):IF X K fs e wl fs1:=bG (gX h)
theorem IF.q(h:IF X K fs e wl fs1):QF X K fs e wl fs1:=⟨PE.imp h.p λσ H Q ⟨sr,q⟩=>⟨sr,wl.mono (λl q1 u1 H1 g1 s1 v1=>q1 u1 H1 g1 s1 (.inl v1)) q⟩⟩
def aA(h:EF X K fs e w fs1):QF X K fs e (.bind w az) fs1:=(bG h).q
def og(h:LF X K fs e wl fs1):QF X K fs e wl fs1:=⟨PE.imp h.p λσ H Q ⟨sr,q⟩=>⟨sr,wl.mono (λl q1 a vs H1 g1 s1 n e v=>q1 _ H1 g1 s1 (.inr ⟨a,rfl,.inl ⟨λz=>sr.noOwn n (g1.ev.eV z),vs,e,v⟩⟩)) q⟩⟩
def eQ(i:Nat){l:O PV}(hs:‹fs[i]?=some (some (.ol q0 l))›)(hN:‹X.N[i]?=some x›)(hv:v9 X.env.scope x:=by first|exact B1 rfl|exact Cd (B1 rfl)|exact Cd (Cd rfl))(hd: ~~~(gZ x))(gU: ~~~(xF x)):QF X K fs (.Name x pos) (.ret l):=
 ⟨PE.imp (cX hN hv hd gU) λσ H Q ⟨sr,q⟩=>by
  obtain⟨u,e1,r⟩:=sr.at' i _ hs;rcases r with⟨w,e,r⟩|⟨a,e,r⟩
  .cases e
  .subst e;exact⟨_,e1,q _ H .refl sr (.inr ⟨a,rfl,.inr ⟨i,q0,hs,e1⟩⟩)⟩⟩
def ixW(l:O PV):PV->W PV
 |.int i=>.Nt (d5 l i)
 |_=>.fail
def aZ(hK:X.K=K)(ha:QF X K fs a wl fs1)(hb:EF X K fs1 b wb fs2)(hs:z9 b:=by exact λ_ _=>rfl):EF X K fs (.Subscript a b pos) (.bind wl λl=>.bind wb λy=>ixW l y) fs2:=⟨PE.imp (fB (bW K hK) ha.p hb.p hs) λσ H Q ⟨sr,q⟩=>⟨sr,wl.mono (λl q1 u1 H1 g1 s1 v1=>⟨s1,wb.mono (λy q2 u2 H2 g2 s2 v2=>by
 cases v2 with
 |int i=>
  have q2:(W.Nt (d5 l i)).run _:=q2;cases z:d5 l i with
  |none=>rw[z]at q2;exact q2.elim
  |some x=>
   rw[z]at q2;obtain⟨ad,vs,rfl,h,rs⟩:=(v1.go s1 g2).sq s2;obtain⟨v,e1,e2⟩:=ax.d5 rs z;have q3:=q2 v H2 (g1.trans g2) s2 e2;exact h.elim (λh=>.inl ⟨ad,vs,i,v,rfl,rfl,h,e1,q3⟩) λh=>.inr (.inl ⟨ad,vs,i,v,rfl,rfl,h,e1,q3⟩)
 |_=>exact q2.elim) q1⟩) q⟩⟩
def Hh(m:MN)(l:O PV):W PV:=⟨λQ=>m.f l [] λz h=>h=[]/\Q z,λf q=>m.mono (λ_ _ q=>⟨q.1,f _ q.2⟩) q⟩
section
variable{id:String}{r:O V->Hp->VK->Prop}
def Q0{m:MN}(hm:MN.Ok K r m){Q:VK}{us:O V}{l:O PV}(sr:aQ K H σ fs)(hu:ax K [] H us l)(q:(Hh m l).run λz=>∀u H',bR σ fs H H'->aQ K H' σ fs->VR K [] H' u z->Q u H'):r us H Q:=hm (hr0 H) hu (m.mono (λz h q=>pq0 sr q) q)
def We{m:MN}(hc:cz X (.builtin id) r)(hB:MN.Ok K r m)(hg:Gl X x)(hm:X.mg x=ci)(hv:sw x=some (.builtin id))(ha:AF X K fs (e::es) (Ap n .v) B fs1)(hn: ~~~(x≠"__name__"))(kU: ~~~(gZ x))(he:‹gb X e es›)(du:‹km X pos es›):EF X K fs (.Call (.Name x p) (e::es) [] pos) (B (Hh m)) fs1:=by
 obtain⟨w,hp,Ş⟩:=ha.p;rw[Ş];exact⟨PE.imp (fD hc hg hm hv hp hn kU he du) λσ H Q ⟨sr,q⟩=>⟨sr,w.mono (λl q1 vs H1 g1 s1 v1=>Q0 hB s1 v1.MV.1 ((Hh m l).mono (λz q u H' g s v=>q u H' (g1.trans g) s v) q1)) q⟩⟩
def Sz{m:MN}(hc:cz X (.type id) r)(hB:MN.Ok K r m)(hg:Gl X x)(hm:X.mg x=ci)(hv:sw x=some (.type id))(ha:AF X K fs (e::es) (Ap n .v) B fs1)(hn: ~~~(x≠"__name__"))(kU: ~~~(gZ x))(he:‹gb X e es›)(du:‹km X pos es›):EF X K fs (.Call (.Name x p) (e::es) [] pos) (B (Hh m)) fs1:=by
 obtain⟨w,hp,Ş⟩:=ha.p;rw[Ş];exact⟨PE.imp (lJ hc hg hm hv hp hn kU he du) λσ H Q ⟨sr,q⟩=>⟨sr,w.mono (λl q1 vs H1 g1 s1 v1=>Q0 hB s1 v1.MV.1 ((Hh m l).mono (λz q u H' g s v=>q u H' (g1.trans g) s v) q1)) q⟩⟩
def CQ(K:Ab)(r:O V->Hp->VK->Prop)(m:O PV->W PV):Prop:=∀{fs:aG}{σ:L2.St}{H:Hp}{Q:VK}{u:V}{l:O PV},aQ K H σ fs->WI K σ fs H u l->((m l).run λz=>∀u H',bR σ fs H H'->aQ K H' σ fs->VR K [] H' u z->Q u H')->r [u] H Q
def CL(K:Ab)(r:O V->Hp->VK->Prop)(m:O PV->W (O PV)):Prop:=∀{fs:aG}{σ:L2.St}{H:Hp}{Q:VK}{u:V}{l:O PV},aQ K H σ fs->WI K σ fs H u l->((m l).run λz=>∀a vs H',bR σ fs H H'->aQ K H' σ fs->H a=ci->H' a=some (.lst vs)->ax K [] H' vs z->Q (.ref a) H')->r [u] H Q
def SA{m:O PV->W PV}(hc:cz X (.builtin id) r)(hB:CQ K r m)(hg:Gl X x)(hm:X.mg x=ci)(hv:sw x=some (.builtin id))(ha:QF X K fs e wl fs1)(hn: ~~~(x≠"__name__"))(kU: ~~~(gZ x))(he:‹gb X e []›)(du:‹km X pos []›):EF X K fs (.Call (.Name x p) [e] [] pos) (.bind wl m) fs1:=⟨PE.imp (fD hc hg hm hv (aJ ha.p bj he) hn kU he du) λσ H Q ⟨sr,q⟩=>⟨sr,wl.mono (λl q1 u H1 g1 s1 v1=>hB s1 v1 ((m l).mono (λz q u H' g s v=>q u H' (g1.trans g) s v) q1)) q⟩⟩
def Oj{m:O PV->W PV}(hc:cz X (.type id) r)(hB:CQ K r m)(hg:Gl X x)(hm:X.mg x=ci)(hv:sw x=some (.type id))(ha:QF X K fs e wl fs1)(hn: ~~~(x≠"__name__"))(kU: ~~~(gZ x))(he:‹gb X e []›)(du:‹km X pos []›):EF X K fs (.Call (.Name x p) [e] [] pos) (.bind wl m) fs1:=⟨PE.imp (lJ hc hg hm hv (aJ ha.p bj he) hn kU he du) λσ H Q ⟨sr,q⟩=>⟨sr,wl.mono (λl q1 u H1 g1 s1 v1=>hB s1 v1 ((m l).mono (λz q u H' g s v=>q u H' (g1.trans g) s v) q1)) q⟩⟩
def afK{m:O PV->W (O PV)}(hc:cz X (.builtin id) r)(hB:CL K r m)(hg:Gl X x)(hm:X.mg x=ci)(hv:sw x=some (.builtin id))(ha:QF X K fs e wl fs1)(hn: ~~~(x≠"__name__"))(kU: ~~~(gZ x))(he:‹gb X e []›)(du:‹km X pos []›):LF X K fs (.Call (.Name x p) [e] [] pos) (.bind wl m) fs1:=⟨PE.imp (fD hc hg hm hv (aJ ha.p bj he) hn kU he du) λσ H Q ⟨sr,q⟩=>⟨sr,wl.mono (λl q1 u H1 g1 s1 v1=>hB s1 v1 ((m l).mono (λz q a vs H' g s n e v=>q a vs H' (g1.trans g) s (g1.there a n) e v) q1)) q⟩⟩
def Rn{m:O PV->W (O PV)}(hc:cz X (.type id) r)(hB:CL K r m)(hg:Gl X x)(hm:X.mg x=ci)(hv:sw x=some (.type id))(ha:QF X K fs e wl fs1)(hn: ~~~(x≠"__name__"))(kU: ~~~(gZ x))(he:‹gb X e []›)(du:‹km X pos []›):LF X K fs (.Call (.Name x p) [e] [] pos) (.bind wl m) fs1:=⟨PE.imp (lJ hc hg hm hv (aJ ha.p bj he) hn kU he du) λσ H Q ⟨sr,q⟩=>⟨sr,wl.mono (λl q1 u H1 g1 s1 v1=>hB s1 v1 ((m l).mono (λz q a vs H' g s n e v=>q a vs H' (g1.trans g) s (g1.there a n) e v) q1)) q⟩⟩
end
def ug(l:O PV):W PV:=.ret (.int l.length)
def Vn(K:Ab):CQ K (Ze K) ug:=λ{fs σ H Q u l} s v q=>by
 obtain⟨a,vs,rfl,h,rs⟩:=v.sq s;refine⟨_,vs.length,rfl,?_,?_⟩
 .exact h.elim (λh=>.inl ⟨_,h,rfl⟩) λh=>.inr ⟨_,h,rfl⟩
 .rw[rs.length];exact q _ H .refl s (.int _)
def kD(l:O PV):W PV:=.ret (.tup l)
def T4(K:Ab):CQ K (Qg K) kD:=λ{fs σ H Q u l} s v q=>by
 have fresh:∀{a:f8}{vs:O V},bM K H a vs->ax K [] H vs l->Qg K [.ref a] H Q:=λ{a vs} h rs=>⟨a,vs,rfl,.inl ⟨h,λp H2 s2 e2 n2=>q _ H2 (bR.same s2) (s.same s2) (.tup e2 (ax.tk s2.d7 rs))⟩⟩;rcases v with⟨a,vs,rfl,h|h,rs⟩|⟨a,rfl,⟨n,vs,h,rs⟩|⟨i,_,q1,q2⟩⟩
 .exact fresh h.sq rs
 .exact⟨a,vs,rfl,.inr ⟨d6.of h,q _ H .refl s (.tup h rs)⟩⟩
 .exact fresh (bM.of h) rs
 .obtain⟨_,vs,h,rs⟩:=s.ownAt q1 rfl q2;exact fresh (bM.of h) rs
end
end
end FL
variable{R:Type}{y:B4}{d:Nat}
namespace FL
section
variable[bL]
variable{K:Ab}
def u9(vs:O V)(ks:O AK)(ψ:Nat->O V->Prop)(d:Nat)(a:f8):Prop:=∃i:Nat,ks[i]?=some (.p ψ d)/\vs[i]?=some (.ref a)
structure Yj(n:Nat)(vs:List V)(ks:List AK)(H H':Hp):Prop where
 keep:∀a o,H a=some o->(∀ψ d,¬u9 vs ks ψ d a)->(nt:‹o.nt=true›)->H' a=some o
 tb:TB H'
 there:∀a,H' a=ci->H a=ci
 Zj:∀a ψ d,u9 vs ks ψ d a->IW H' a ψ (n+d)
 x:∀b,dH H b->dH H' b
inductive js(K:Ab)(H:Hp)(n:Nat):List V->List AK->List PV->Prop
 |nil:js K H n [] [] []
 |v {u:V}{x:PV}{vs:List V}{ks:List AK}{l:List PV} (r:VR K [] H u x) (t:js K H n vs ks l):js K H n (u::vs) (.v::ks) (x::l)
 |p {a:f8}{ψ:Nat->List V->Prop}{d:Nat}{vs:List V}{ks:List AK}{l:List PV} (e:IW H a ψ n) (r:n+d<=JD) (t:js K H n vs ks l):js K H n (.ref a::vs) (.p ψ d::ks) l
 |f {a:f8}{us vs:List V}{ps:List PV}{fz:List (f8×Obj)}{ks:List AK}{l:List PV} (r:ax K [] H us ps) (z:FzO H fz) (t:js K H n vs ks l):js K H n (.ref a::vs) (.f a us ps fz::ks) l
def PJ(K:Ab)(ks:O AK)(m:O PV->W PV):Sp:=λvs H Q _=>TB H/\∃n l,js K H n vs ks l/\(m l).run λv=>∀u H',Yj n vs ks H H'->VR K [] H' u v->Q u H'
def GU(K:Ab)(ks:O AK)(m:O PV->W (O PV)):Sp:=λvs H Q _=>TB H/\∃n l,js K H n vs ks l/\(m l).run λz=>∀a ws H',Yj n vs ks H H'->H a=ci->H' a=some (.lst ws)->ax K [] H' ws z->Q (.ref a) H'
def IZ(R:Type):Nat->Type
 |0=>W R
 |n+1=>PV->IZ R n
def vo:(n:Nat)->IZ R n->O PV->W R
 |0,m,[]=>m
 |n+1,m,x::l=>vo n (m x) l
 |0,_,_::_=>.fail
 |_+1,_,[]=>.fail
section
variable{l:O PV}
def gh.nop(h:gh K H vs ks l):¬u9 vs ks ψ d a:=by
 rintro⟨i,e1,e2⟩
 induction h generalizing i with
 |nil=>simp at e1
 |v r t ih=>cases i with|zero=>simp at e1|succ i=>exact ih i (by simpa using e1) (by simpa using e2)
 |f r z t ih=>cases i with|zero=>simp at e1|succ i=>exact ih i (by simpa using e1) (by simpa using e2)
def gh.c(h:gh K H vs ks l):js K H n vs ks l:=by
 induction h with
 |nil=>exact .nil
 |v r t ih=>exact .v r ih
 |f r z t ih=>exact .f r z ih
def Yj.caller(g:Yj n vs ks H H')(h:gh K H vs ks l)(s:aQ K H σ fs):aQ K H' σ fs/\bR σ fs H H':=by
 have gf:bR σ fs H H':=⟨λa o e _ t=>g.keep a o e (λ_ _=>h.nop) t,g.there,.refl _,g.x⟩;refine⟨⟨s.len,λi t e=>?_,s.nd,g.tb⟩,gf⟩;obtain⟨u,h1,h2⟩:=s.at' i t e;exact⟨u,h1,h2.mono (gf.cB s) λx a o _ _ _ z nt=>g.keep a o z (λ_ _=>h.nop) nt⟩
def Yj.Ww{m:Nat}(g:Yj n (.ref a::vs) (.p ψ d::ks) H H')(h:gh K H vs ks l)(s:aQ K H σ fs)(e1:fs[i]?=some (some (.cJ ψ n m)))(e2:σ[i]?=some (some (.ref a)))(hd:n+d<=m):aQ K H' σ (fs.set i (some (.cJ ψ (n+d) m)))/\bR σ fs H H' (fs.set i (some (.cJ ψ (n+d) m))):=by
 have pa:∀{b ψ' d'},u9 (.ref a::vs) (.p ψ d::ks) ψ' d' b->b=a:=λ{b ψ' d'} ⟨j,z1,z2⟩=>by
  cases j with
  |zero=>simp at z2;exact z2.symm
  |succ j=>exact(h.nop ⟨j,by simpa using z1,by simpa using z2⟩).elim
 have hi:i<fs.length:=(Ag.mp e1).1;have ev:Ev fs (fs.set i (some (.cJ ψ (n+d) m))):=⟨by simp,λj=>by
  by_cases c:j=i
  .subst c;exact .inr ⟨ψ,n,n+d,m,e1,aW hi⟩
  .exact .inl (aq c).symm⟩
 have gf:bR σ fs H H' (fs.set i (some (.cJ ψ (n+d) m))):=⟨λb o e q t=>g.keep b o e (λψ' d' p=>q ψ m ⟨i,n,e1,by rw[pa p];exact e2⟩) t,g.there,ev,g.x⟩;have tk:=gf.cB s;obtain⟨_,_,hm⟩:=s.ownAt e1 rfl e2;refine⟨⟨by simp[s.len],λj t e=>?_,ev.nd s,g.tb⟩,gf⟩
 .rcases a8 e with⟨rfl,rfl⟩|⟨c,e⟩
  .exact⟨_,e2,.inr ⟨a,rfl,g.Zj a ψ d ⟨0,rfl,rfl⟩,hd,hm⟩⟩
  .obtain⟨u,h1,h2⟩:=s.at' j t e;refine⟨u,h1,h2.mono tk λx b o eb ow hb z nt=>g.keep b o z (λψ' d' p=>?_) nt⟩;subst eb;exact c (s.nd j i t _ x a b e e1 ow rfl h1 e2 hb (.inl (pa p)))
end
section
variable{n0 mx:Nat}
def aa1{m:O PV->W PV}(G:O9 X.prog X.w X.K X.mg X.base x k ps (PJ K ks m))(hr:dG k' X.A)(hk:k<=k')(hg:Gl X x)(ha:AF X K fs (e::es) ks B fs1)(kU: ~~~(gZ x))(he:‹gb X e es›)(du:‹km X pos es›):EF X K fs (.Call (.Name x p) (e::es) [] pos) (B m) fs1:=by
 obtain⟨w,hp,hB⟩:=ha.p;rw[hB];exact⟨PE.imp (ye G hr hk hg hp kU he du) λσ H Q ⟨sr,q⟩=>⟨sr,w.mono (λl q1 vs H1 g1 s1 v1=>⟨s1.tb,0,l,v1.c,(m l).mono (λz q2 u H2 g2 r2=>let ⟨s2,g3⟩:=g2.caller v1 s1;q2 u H2 (g1.trans g3) s2 r2) q1⟩) q⟩⟩
def ZW{m:O PV->W (O PV)}{B:(O PV->W (O PV))->W (O PV)}(G:O9 X.prog X.w X.K X.mg X.base x k ps (GU K ks m))(hr:dG k' X.A)(hk:k<=k')(hg:Gl X x)(ha:AF X K fs (e::es) ks B fs1)(kU: ~~~(gZ x))(he:‹gb X e es›)(du:‹km X pos es›):LF X K fs (.Call (.Name x p) (e::es) [] pos) (B m) fs1:=by
 obtain⟨w,hp,hB⟩:=ha.p;rw[hB];exact⟨PE.imp (ye G hr hk hg hp kU he du) λσ H Q ⟨sr,q⟩=>⟨sr,w.mono (λl q1 vs H1 g1 s1 v1=>⟨s1.tb,0,l,v1.c,(m l).mono (λz q2 a ws H2 g2 n2 e2 r2=>let ⟨s2,g3⟩:=g2.caller v1 s1;q2 a ws H2 (g1.trans g3) s2 (g1.there a n2) e2 r2) q1⟩) q⟩⟩
def aaS{m:Nat}(s:aQ K H σ fs)(e:Ev fs fs1)(h:fs1[i]?=some (some (.cJ ψ n m))):∃a,σ[i]?=some (some (.ref a))/\fs1[i]?=some (some (.cJ ψ n m)):=by
 rcases e.get h with z|⟨_,j,_,_,z,y⟩
 .obtain⟨u,e1,r⟩:=s.at' i _ z;rcases r with⟨v,e,_⟩|⟨a,rfl,_⟩
  .cases e
  .exact⟨a,e1,h⟩
 .cases z;obtain⟨u,e1,r⟩:=s.at' i _ y;rcases r with⟨v,e,_⟩|⟨a,rfl,_⟩
  .cases e
  .exact⟨a,e1,h⟩
def Wc(i:Nat){m:O PV->W PV}(G:O9 X.prog X.w X.K X.mg X.base x k ps (PJ K (.p ψ d::ks) m))(hr:dG k' X.A)(hk:k<=k')(hg:Gl X x)(hs:fs[i]?=some (some (.cJ ψ n0 mx)))(ha:AF X K fs es ks B fs1)(mq:fs1[i]?=some (some (.cJ ψ n mx)))(hd:n+d<=mx)(kU: ~~~(gZ x))(hN:‹X.N[i]?=some y›)(hv:v9 X.env.scope y:=by first|exact B1 rfl|exact Cd (B1 rfl)|exact Cd (Cd rfl))(Đ: ~~~(gZ y))(gU: ~~~(xF y))(he:‹gt (.Name y py::es) X.env=(false,pc (.Name y py) X.env)::gt es X.env›)(du:‹km X pos es›):EF X K fs (.Call (.Name x p) (.Name y py::es) [] pos) (B m) (fs1.set i (some (.cJ ψ (n+d) mx))):=by
 obtain⟨w,hp,hB⟩:=ha.p;rw[hB];refine⟨PE.imp (ye G hr hk hg (aJ (cX hN hv Đ gU) hp he) kU he du) λσ H Q ⟨sr,q⟩=>?_⟩;obtain⟨a,e1,_⟩:=aaS sr (.refl _) hs;refine⟨_,e1,sr,w.mono (λl q1 vs H1 g1 s1 v1=>?_) q⟩;obtain⟨pt,h1,h2⟩:=s1.ownAt mq rfl e1;exact⟨s1.tb,n,l,.p pt (A0 hd h2) v1.c,(m l).mono (λz q2 u H2 g2 r2=>let ⟨s2,g3⟩:=g2.Ww v1 s1 mq e1 hd;q2 u H2 (g1.trans g3) s2 r2) q1⟩
end
end
end FL
variable{p':Cn}
namespace FL
section
variable[bL]
variable{K:Ab}
inductive End where
 |nx (fs:aG)|nc (fs:aG)|ct (fs:aG)|rt (v:PV)|rl (l:List PV)|bk (fs:aG)|ro (v:PV) (a:f8) (l:List PV)
def Gv(σ:L2.St)(fs:aG)(H:Hp)(a:f8):Prop:=H a=ci\/∃(i:Nat) (s:SL) (x:f8),fs[i]?=some (some s)/\s.own=true/\(∀ψ n m,s≠.cJ ψ n m)/\σ[i]?=some (some (.ref x))/\s.has x a
def cm(K:Ab)(x:Bool)(σ:L2.St)(fs:aG)(H:Hp)(D:Ends):End->Prop
 |.nx aD=>x=false->∀σ' H',cn σ fs H σ' aD H'->aQ K H' σ' aD->D.nx σ' H'
 |.nc aD=>∀σ' H',cn σ fs H σ' aD H'->aQ K H' σ' aD->(x=false->D.nx σ' H')/\D.ct σ' H'
 |.ct aD=>∀σ' H',cn σ fs H σ' aD H'->aQ K H' σ' aD->D.ct σ' H'
 |.bk aD=>∀σ' H',cn σ fs H σ' aD H'->aQ K H' σ' aD->D.bk σ' H'
 |.rt v=>∀u σ' aD H',cn σ fs H σ' aD H'->aQ K H' σ' aD->VR K [] H' u v->D.rt u H'
 |.ro v a l=>∀u σ' aD H',cn σ fs H σ' aD H'->aQ K H' σ' aD->(∃i:Nat,aD[i]?=some (some (.ol (some a) l)))->VR K [] H' u v->D.rt u H'
 |.rl l=>∀a ws σ' aD H',cn σ fs H σ' aD H'->aQ K H' σ' aD->Gv σ fs H a->H' a=some (.lst ws)->ax K [] H' ws l->D.rt (.ref a) H'
def fS(K:Ab)(x:Bool)(fs:aG){T:Type}(w:W T)(out:T->End):TS:=λD σ H=>aQ K H σ fs/\w.run λt=>cm K x σ fs H D (out t)
structure SF(X:Cx)(K:Ab)(x:Bool)(fs:aG)(Px:List wn){T:Type}(w:W T)(out:T->End):Prop where p:pN X Px (fS K x fs w out)
section
variable{σ1:L2.St}{x:Bool}
def Gv.go(g:cn σ fs H σ1 fs1 H1)(s:aQ K H σ fs)(s1:aQ K H1 σ1 fs1)(h:Gv σ1 fs1 H1 a):Gv σ fs H a:=by
 rcases h with h|⟨i,t,x,e1,e2,np,e3,e4⟩
 .exact .inl (g.there a h)
 .cases z:H a with
  |none=>exact .inl z
  |some o=>
   by_cases c:ck σ fs a
   .obtain⟨j,t',y,c1,c2,c3,c4⟩:=c;by_cases d:∃ψ n m,t'=.cJ ψ n m
    .obtain⟨ψ,n,m,rfl⟩:=d;rcases c4 with rfl|c4
     .rcases g.pk a ψ m ⟨j,n,c1,c3⟩ with⟨k,_,k1,k2⟩|⟨n,_⟩
      .have:=s1.nd i k t _ x a a e1 k1 e2 rfl e3 k2 e4 (.inl rfl);subst this;rw[e1]at k1;cases k1;exact absurd rfl (np _ _ _)
      .exact absurd ⟨i,t,x,e1,e2,e3,e4⟩ n
     .cases c4
    .exact .inr ⟨j,t',y,c1,c2,λψ n m e=>d ⟨ψ,n,m,e⟩,c3,c4⟩
   .exact absurd ⟨i,t,x,e1,e2,e3,e4⟩ (g.keep a o z c).2
def cm.go(g:cn σ fs H σ1 fs1 H1)(s:aQ K H σ fs)(s1:aQ K H1 σ1 fs1){E:End}(h:cm K x σ fs H D E):cm K x σ1 fs1 H1 D E:=by
 cases E with
 |nx aD=>exact λhx σ' H' g' s'=>h hx σ' H' (g.trans g') s'
 |nc aD=>exact λσ' H' g' s'=>h σ' H' (g.trans g') s'
 |bk aD=>exact λσ' H' g' s'=>h σ' H' (g.trans g') s'
 |ct aD=>exact λσ' H' g' s'=>h σ' H' (g.trans g') s'
 |rt v=>exact λu σ' aD H' g' s' r=>h u σ' aD H' (g.trans g') s' r
 |ro v a l=>exact λu σ' aD H' g' s' o r=>h u σ' aD H' (g.trans g') s' o r
 |rl l=>exact λa ws σ' aD H' g' s' f e r=>h a ws σ' aD H' (g.trans g') s' (f.go g s s1) e r
def cm.exit{D':Ends}(h1:D'.rt=D.rt)(h2:D'.ct=D.ct)(h3:D'.bk=D.bk){E:End}(h:cm K x σ fs H D E):cm K true σ fs H D' E:=by
 cases E with
 |nx aD=>exact λhx=>nomatch hx
 |nc aD=>exact λσ' H' g' s'=>⟨λhx=>(nomatch hx),h2▸(h σ' H' g' s').2⟩
 |bk aD=>exact λσ' H' g' s'=>h3▸h σ' H' g' s'
 |ct aD=>exact λσ' H' g' s'=>h2▸h σ' H' g' s'
 |rt v=>exact λu σ' aD H' g' s' r=>h1▸h u σ' aD H' g' s' r
 |ro v a l=>exact λu σ' aD H' g' s' o r=>h1▸h u σ' aD H' g' s' o r
 |rl l=>exact λa ws σ' aD H' g' s' f e r=>h1▸h a ws σ' aD H' g' s' f e r
end
section
variable{X:Cx}{a b c e o:nw}{pos p:Pos}{fs aD fs1:aG}{st:wn}{Px rest sa sb:O wn}{T T1:Type}{w wk:W T}{out:T->End}{we:W PV}{wl:W (O PV)}{x:Bool}
def End.HJ:End->Prop
 |.rt _=>True
 |.rl _=>True
 |.ro _ _ _=>True
 |_=>False
def cm.ahx{D':Ends}{y:Bool}{E:End}(ho:E.HJ)(e:D'.rt=D.rt)(h:cm K x σ fs H D E):cm K y σ fs H D' E:=by
 cases E with
 |rt v=>exact λu σ' aD H' g s r=>e▸h u σ' aD H' g s r
 |rl v=>exact λa ws σ' aD H' g s f ea r=>e▸h a ws σ' aD H' g s f ea r
 |ro v a l=>exact λu σ' aD H' g s o r=>e▸h u σ' aD H' g s o r
 |_=>exact ho.elim
def GH(X:Cx)(K:Ab)(x:Bool)(rest:O wn){T:Type}(out:T->End):TS:=λD σ H=>∃aD w',SF X K x aD rest w' out/\fS K x aD w' out D σ H
def Ux:pN X rest (GH X K x rest out):=λU s σ H D I ⟨aD,w',h,q⟩=>h.p U s σ H D I q
def Q4:pN X rest YJ:=λ_ _ _ _ _ _ h=>h.elim
def SF.step{t:TS}(h:PS X st t)(hq:∀D σ H,fS K x fs w out D σ H->t {D with nx:=GH X K x rest out D} σ H):SF X K x fs (st::rest) w out:=⟨pN.imp (eA h Ux) λD σ H q=>hq D σ H q⟩
def SF.last{t:TS}(h:PS X st t)(hq:∀D σ H,fS K x fs w out D σ H->t {D with nx:=λ_ _=>False} σ H):SF X K x fs (st::rest) w out:=⟨pN.imp (eA h Q4) λD σ H q=>hq D σ H q⟩
def SF.nil{t:T}(h:out t=.nx aD)(hl:dA fs aD):SF X K false fs [] (.ret t) out:=⟨pN.imp oo λD σ H ⟨sr,q⟩=>by
 have q:cm K false σ fs H D (out t):=q;rw[h]at q;exact q rfl σ H (cn.le sr hl) (sr.le hl)⟩
def SF.cY{t:T}(h:out t=.nc aD)(hl:dA fs aD):SF X K false fs [] (.ret t) out:=⟨pN.imp oo λD σ H ⟨sr,q⟩=>by
 have q:cm K false σ fs H D (out t):=q;rw[h]at q;exact(q σ H (cn.le sr hl) (sr.le hl)).1 rfl⟩
def SF.cont{t:T}(h:out t=.nc aD\/out t=.ct aD)(hl:dA fs aD):SF X K x fs (.Continue pos::rest) (.ret t) out:=SF.last G6 λD σ H ⟨sr,q⟩=>by
 have q:cm K x σ fs H D (out t):=q;rcases h with h|h
 .rw[h]at q;exact(q σ H (cn.le sr hl) (sr.le hl)).2
 .rw[h]at q;exact q σ H (cn.le sr hl) (sr.le hl)
def SF.ret{k:PV->T}(he:EF X K fs e we fs1)(h:∀v,out (k v)=.rt v):SF X K x fs (.Return (some e) pos::rest) (.bind we λv=>.ret (k v)) out:=SF.last (tD he.p) λD σ H ⟨sr,q⟩=>⟨sr,we.mono (λv q1 u H1 g1 s1 v1=>by
 have q1:cm K x σ fs H D (out (k v)):=q1;rw[h]at q1;exact q1 u σ fs1 H1 g1.f s1 v1) q⟩
def SF.d9{out:PV->End}(he:EF X K fs e we fs1)(h:∀v,out v=.rt v):SF X K x fs (.Return (some e) pos::rest) we out:=SF.ret (k:=λv=>v) he h
def SF.ahf{k:O PV->T}(he:LF X K fs e wl fs1)(h:∀l,out (k l)=.rl l):SF X K x fs (.Return (some e) pos::rest) (.bind wl λl=>.ret (k l)) out:=SF.last (tD he.p) λD σ H ⟨sr,q⟩=>⟨sr,wl.mono (λl q1 a ws H1 g1 s1 n e v1=>by
 have q1:cm K x σ fs H D (out (k l)):=q1;rw[h]at q1;exact q1 a ws σ fs1 H1 g1.f s1 (.inl n) e v1) q⟩
def SF.kF{out:O PV->End}(he:LF X K fs e wl fs1)(h:∀v,out v=.rl v):SF X K x fs (.Return (some e) pos::rest) wl out:=SF.ahf he h
def SF.Uw(i:Nat){l:O PV}{t:T}(hs:fs[i]?=some (some (.ol q0 l)))(h:out t=.rl l)(hN:‹X.N[i]?=some y›)(hv:v9 X.env.scope y:=by first|exact B1 rfl|exact Cd (B1 rfl)|exact Cd (Cd rfl))(hd: ~~~(gZ y))(gU: ~~~(xF y)):SF X K x fs (.Return (some (.Name y p)) pos::rest) (.ret t) out:=SF.last (tD (cX hN hv hd gU)) λD σ H ⟨sr,q⟩=>by
 have q:cm K x σ fs H D (out t):=q;rw[h]at q;obtain⟨u,e1,r⟩:=sr.at' i _ hs;rcases r with⟨v,e,_⟩|⟨a,e,r⟩
 .cases e
 .subst e;obtain⟨_,ws,q1,q2⟩:=r;exact⟨_,e1,q a ws σ fs H .refl sr (.inr ⟨i,_,_,hs,rfl,by simp,e1,.inl rfl⟩) q1 q2⟩
def SF.expr{k:PV->W T}(he:EF X K fs e we fs1)(hr:∀v,SF X K x fs1 rest (k v) out)(hs:‹o0 e ci pos.line X.env=pure false›):SF X K x fs (.Expr e pos::rest) (.bind we k) out:=SF.step (hU he.p hs) λD σ H ⟨sr,q⟩=>
 ⟨sr,we.mono (λv q1 u H1 g1 s1 v1=>⟨fs1,k v,hr v,s1,(k v).mono (λt q2=>q2.go g1.f sr s1) q1⟩) q⟩
def SF.set{k:PV->W T}(hN:X.N.Nodup)(hi:X.N[i]?=some y)(hx:Loc X.env.scope y)(he:EF X K fs e we fs1)(hr:∀v,SF X K x (fs1.set i (some (.val v))) rest (k v) out)(hs:‹o0 e (some (.Name y p')) pos.line X.env=pure false›)(hf:MP X y:=by first|exact .inl rfl|exact .inr rfl|assumption):SF X K x fs (.Assign [.Name y p'] e pos::rest) (.bind we k) out:=SF.step (ir hN hi hx he.p hs hf) λD σ H ⟨sr,q⟩=>
 ⟨sr,we.mono (λv q1 u H1 g1 s1 v1=>⟨_,k v,hr v,s1.fy v1 i,(k v).mono (λt q2=>q2.go (g1.f.trans (cn.fy s1 u v i)) sr (s1.fy v1 i)) q1⟩) q⟩
def SF.ag8{k:O PV->W T}(hN:X.N.Nodup)(hi:X.N[i]?=some y)(hx:Loc X.env.scope y)(he:LF X K fs e wl fs1)(hr:∀l,SF X K x (fs1.set i (some (.ol ci l))) rest (k l) out)(hs:‹o0 e (some (.Name y p')) pos.line X.env=pure false›)(hf:MP X y:=by first|exact .inl rfl|exact .inr rfl|assumption):SF X K x fs (.Assign [.Name y p'] e pos::rest) (.bind wl k) out:=SF.step (ir hN hi hx he.p hs hf) λD σ H ⟨sr,q⟩=>by
 refine⟨sr,wl.mono (λl q1 a ws H1 g1 s1 n e v1=>?_) q⟩;have no:¬ck σ fs1 a:=λz=>sr.noOwn n (g1.ev.eV z);have s2:=s1.mU (t:=.ol ci l) ⟨by simp,ws,e,v1⟩ no i;exact⟨_,k l,hr l,s2,(k l).mono (λt q2=>q2.go (cn.mU s1 g1 no n i) sr s2) q1⟩
def SF.bA(i:Nat){t:SL}(hs:fs[i]?=some (some t))(hr:SF X K x (fs.set i (some (.val t.bv))) Px w out)(hb:‹t.bw=true›):SF X K x fs Px w out:=⟨λU s σ H D I ⟨sr,q⟩=>by
 obtain⟨u,e1,r⟩:=sr.at' i _ hs;have ho:=SL.SY hb;rcases r with⟨v,e,_⟩|⟨a,e,oa⟩
 .subst e;cases hb
 .subst e;obtain⟨ob,o,h1,n1,n2,I2,vr⟩:=aet I oa hb;have ow:∀b,ck σ (fs.set i (some (.val t.bv))) b->ck σ fs b:=λb z=>by
   obtain⟨j,t,x,z1,z2,z3,z4⟩:=z;rcases a8 z1 with⟨rfl,rfl⟩|⟨n,z1⟩
   .cases z2
   .exact⟨j,t,x,z1,z2,z3,z4⟩
  have s2:=sr.aes hs ho e1 h1 n1 n2 vr;have g2:cn σ fs H σ (fs.set i (some (.val t.bv))) (upd H a (.bA ob o)):=by
   refine⟨λb o z n=>⟨?_,λy=>n (ow b y)⟩,λb z=>?_,λb ψ m z=>?_,λb z=>?_⟩
   .intro _;rw[aj (λy=>by subst y;exact n ⟨i,_,_,hs,ho,e1,.inl rfl⟩)];exact z
   .by_cases c:b=a
    .subst c;rw[ay]at z;cases z
    .rw[aj c]at z;exact z
   .obtain⟨j,k,z1,z2⟩:=z;have:j≠i:=λy=>by subst y;rw[hs]at z1;cases z1;cases hb
    exact .inl ⟨j,k,by rw[aq this];exact z1,z2⟩
   .have z':H b=_:=z;show upd H a _ b=_;rw[aj (λy=>by subst y;exact sr.ZC z' ⟨i,_,_,hs,ho,e1,.inl rfl⟩)];exact z'
  exact hr.p U s σ _ D I2 ⟨s2,w.mono (λt q3=>q3.go g2 sr s2) q⟩⟩
variable{tc:W Bool}
def SF.ifT(hc:TF X K fs c tc fs1)(ha:SF X K x fs1 sa w out)(hb:SF X K x fs1 sb wk out):SF X K x fs [.If c sa sb pos] (.bind tc λb=>if b=true then w else wk) out:=⟨pN.imp (lI (G5 hc.p ha.p hb.p)) λD σ H ⟨sr,q⟩=>⟨sr,tc.mono (λk q1 H1 g1 s1=>by
 cases k with
 |true=>exact yR ⟨s1,w.mono (λt q2=>q2.go g1.f sr s1) q1⟩
 |false=>exact yS ⟨s1,wk.mono (λt q2=>q2.go g1.f sr s1) q1⟩) q⟩⟩
def SF.ifR(hc:TF X K fs c tc fs1)(ha:SF X K true fs1 sa w out)(hb:SF X K x fs1 rest wk out):SF X K x fs (.If c sa [] pos::rest) (.bind tc λb=>if b=true then w else wk) out:=SF.step (G5 hc.p ha.p oo) λD σ H ⟨sr,q⟩=>⟨sr,tc.mono (λk q1 H1 g1 s1=>by
 cases k with
 |true=>exact yR ⟨s1,w.mono (λt q2=>cm.exit (D:=D) (D':={D with nx:=GH X K x rest out D}) rfl rfl rfl (q2.go g1.f sr s1)) q1⟩
 |false=>exact yS ⟨fs1,wk,hb,s1,wk.mono (λt q2=>q2.go g1.f sr s1) q1⟩) q⟩
def abr(X:Cx)(K:Ab)(x:Bool)(rest:O wn){T:Type}(w:W T)(out:T->End):End->Prop
 |.nx aD=>SF X K x aD rest w out
 |.nc aD=>False
 |.bk aD=>∃t,w=.ret t/\out t=.bk aD
 |.ct aD=>∃t,w=.ret t/\(out t=.ct aD\/out t=.nc aD)
 |.rt v=>∃t,w=.ret t/\out t=.rt v
 |.rl l=>∃t,w=.ret t/\out t=.rl l
 |.ro v a l=>∃t,w=.ret t/\out t=.ro v a l
def abr.r{E:End}(sr:aQ K H σ fs)(h:abr X K x rest w out E)(q:w.run λt=>cm K x σ fs H D (out t)):cm K false σ fs H {D with nx:=GH X K x rest out D} E:=by
 cases E with
 |nx aD=>exact λ_ σ' H' g' s'=>⟨aD,w,h,s',w.mono (λt q2=>q2.go g' sr s') q⟩
 |nc aD=>exact h.elim
 |bk aD=>
  obtain⟨t,rfl,h⟩:=h;have q:cm K x σ fs H D (out t):=q;rw[h]at q;exact q
 |ct aD=>
  obtain⟨t,rfl,h⟩:=h;have q:cm K x σ fs H D (out t):=q;rcases h with h|h
  .rw[h]at q;exact q
  .rw[h]at q;exact λσ' H' g s=>(q σ' H' g s).2
 |rt v=>
  obtain⟨t,rfl,h⟩:=h;have q:cm K x σ fs H D (out t):=q;rw[h]at q;exact q
 |rl v=>
  obtain⟨t,rfl,h⟩:=h;have q:cm K x σ fs H D (out t):=q;rw[h]at q;exact q
 |ro v a l=>
  obtain⟨t,rfl,h⟩:=h;have q:cm K x σ fs H D (out t):=q;rw[h]at q;exact q
variable{w1 w2:W T1}{out1:T1->End}{k:T1->W T}
def SF.ifS(hc:TF X K fs c tc fs1)(ha:SF X K false fs1 sa w1 out1)(hb:SF X K false fs1 sb w2 out1)(hr:∀t,abr X K x rest (k t) out (out1 t)):SF X K x fs (.If c sa sb pos::rest) (.bind tc λb=>.bind (if b=true then w1 else w2) k) out:=SF.step (G5 hc.p ha.p hb.p) λD σ H ⟨sr,q⟩=>⟨sr,tc.mono (λb q1 H1 g1 s1=>by
 have fin:∀t,(k t).run (λt=>cm K x σ fs H D (out t))->cm K false σ fs H {D with nx:=GH X K x rest out D} (out1 t):=λt q=>(hr t).r sr q;cases b with
 |true=>exact yR ⟨s1,w1.mono (λt q2=>(fin t q2).go g1.f sr s1) q1⟩
 |false=>exact yS ⟨s1,w2.mono (λt q2=>(fin t q2).go g1.f sr s1) q1⟩) q⟩
end
end
end FL
variable{is:O Nat}
namespace FL
section
variable[bL]
variable{K:Ab}
def JF(K:Ab)(H:Hp)(J:It)(l:O PV):Prop:=l.length<=sizeLine/\∀H',bb K H H'->(∀(i:Nat) (p:PV),l[i]?=some p->J.go i H'/\∀x H2,J.TN i H' x H2->jr H' H2/\VR K [] H2 x p)/\J.stop l.length H'
def JF.tk{J:It}{l:O PV}(t:bb K H H')(h:JF K H J l):JF K H' J l:=⟨h.1,λH2 t2=>h.2 H2 (bb.trans t t2)⟩
def fIt(K:Ab)(fs:aG)(w:W (O PV))(aD:aG:=fs):TI:=λσ H R=>aQ K H σ fs/\w.run λl=>∀J H',bR σ fs H H' aD->aQ K H' σ aD->JF K H' J l->R J H'
structure mR(X:Cx)(K:Ab)(fs:aG)(tg e:nw)(w:W (List PV))(aD:aG:=fs):Prop where p:PI X tg e (fIt K fs w aD)
section
variable{a c:nw}{p2:Pos}
def WJ{ad:f8}{l:O PV}(h:Lk K H ad vs)(r:ax K [] H vs l)(hz:l.length<=sizeLine):JF K H (Itl K ad) l:=⟨hz,λH' t=>by
 have e1:=(t.f _ _ h).sq;have e2:=ax.tk t r;refine⟨λi p hp=>?_,vs,e1,by rw[e2.length];exact Al _⟩;obtain⟨v,h3,h4⟩:=e2.get hp;refine⟨⟨vs,v,e1,h3⟩,λx H3 y=>?_⟩;obtain⟨rfl,y⟩:=y;have:=y vs e1;rw[h3]at this;cases this;exact⟨jr.refl _,h4⟩⟩
def abo{ad:f8}{l:O PV}(h:H ad=some (.tup vs))(r:ax K [] H vs l)(hz:l.length<=sizeLine):JF K H (Itt K ad) l:=⟨hz,λH' t=>by
 have e1:=d6.of (K:=K) (t.t _ _ h);have e2:=ax.tk t r;refine⟨λi p hp=>?_,vs,e1,by rw[e2.length];exact Al _⟩;obtain⟨v,h3,h4⟩:=e2.get hp;refine⟨⟨vs,v,e1,h3⟩,λx H3 y=>?_⟩;obtain⟨rfl,y⟩:=y;have:=y vs e1;rw[h3]at this;cases this;exact⟨jr.refl _,h4⟩⟩
def bu(hK:X.K=K)(h:IF X K fs e wl fs1):mR X K fs tg e wl fs1:=⟨by
 subst hK;intro U s σ H R I ⟨sr,q⟩;refine bE (h.p U s σ H (λu H1=>∃l,SqI X.K H1 u l/\∀J,JF X.K H1 J l->R J H1) I ⟨sr,wl.mono (λl q1 u H1 g1 s1 v1=>⟨l,v1,λJ j=>q1 J H1 g1 s1 j⟩) q⟩) λv s1 ⟨x,H1,I1,r1,l,⟨ad,vs,e,hh,rs⟩,q1⟩=>?_;subst e;cases r1;rcases hh with hh|hh
 .obtain⟨ao,rv,pl,hz⟩:=I1.list hh.sq;refine DH pl.isList ?_;refine⟨s1.heap.objs.size,[s1.heap.objs.size],_,_,H1,rfl,I1.kept λb o e=>Aj _ e,MX ad _,⟨_,An _ rfl,rfl,rfl⟩,λb hb=>?_,q1 _ (WJ hh rs (by rw[<- rs.length];exact hz))⟩;have e:b=s1.heap.objs.size:=by simpa using hb
  subst e;exact I1.uD (Al _) (I1.ba.fresh (Al _))
 .obtain⟨ao,rv,pl,hz⟩:=I1.tuple (d6.of hh);refine EI (pl) ?_;refine⟨s1.heap.objs.size,[s1.heap.objs.size],_,_,H1,rfl,I1.kept (t':=s1.toks) λb o e=>Aj _ e,Jk ad _,⟨_,An _ rfl,rfl,rfl⟩,λb hb=>?_,q1 _ (abo hh rs (by rw[<- rs.length];exact hz))⟩;have e:b=s1.heap.objs.size:=by simpa using hb
  subst e;exact I1.uD (Al _) (I1.ba.fresh (Al _))⟩
def okN(i j:Int):Prop:=-(2 ^ 62)<=i/\i<2 ^ 62/\-(2 ^ 62)<=j/\j<2 ^ 62/\(j-i).toNat<=sizeLine
def iQ:PV->W (O PV)
 |.int j=>.dm (okN 0 j) (.ret (kd 0 j.toNat))
 |_=>.fail
def P8:PV->PV->PV->W (O PV)
 |.int i,.int j,.int k=>.dm (k = -1/\okN j i) (.ret (rm i (i-j).toNat))
 |_,_,_=>.fail
def abp(lo:Int)(n:Nat)(hz:n<=sizeLine):JF K H (Itr lo n) (kd lo n):=⟨by rw[i7];exact hz,λH' t=>⟨λi p hp=>by
  obtain⟨h1,rfl⟩:=qp hp;refine⟨h1,λx H2 y=>?_⟩;obtain⟨rfl,rfl⟩:=y;exact⟨jr.refl _,.int _⟩,by rw[i7];exact Al _⟩⟩
theorem eE(hg:Gl X "range")(hm:X.mg "range"=ci)(ha:EF X K fs a wa fs1)(hs:‹gt [a] X.env=[(false,pc a X.env)]›):mR X K fs tg (.Call (.Name "range" p) [a] [] pos) (.bind wa iQ) fs1:=
 ⟨PI.imp (Nm hg hm (aJ ha.p bj hs) hs) λσ H R ⟨sr,q⟩=>⟨sr,wa.mono (λx q1 u1 H1 g1 s1 v1=>by
  cases v1 with
  |int j=>exact⟨_,rfl,q1.1.2.2.1,q1.1.2.2.2.1,q1.2 _ H1 g1 s1 (abp _ _ (by have:=q1.1.2.2.2.2;lia))⟩
  |_=>exact q1.elim) q⟩⟩
def VG(hg:Gl X "range")(hm:X.mg "range"=ci)(ha:EF X K fs a wa fs1)(hb:EF X K fs1 b wb fs2)(hc:EF X K fs2 c wc fs3)(hs:‹gt [a,b,c] X.env=[(false,pc a X.env),(false,pc b X.env),(false,pc c X.env)]›)(q8:‹gt [b,c] X.env=[(false,pc b X.env),(false,pc c X.env)]›)(ŉ:‹gt [c] X.env=[(false,pc c X.env)]›):mR X K fs tg (.Call (.Name "range" p) [a,b,c] [] pos) (.bind wa λx=>.bind wb λy=>.bind wc λz=>P8 x y z) fs3:=
 ⟨PI.imp (Nl hg hm (aJ ha.p (aJ hb.p (aJ hc.p bj ŉ) (by show gt _ _=_;rw[q8,ŉ])) (by show gt _ _=_;rw[hs,q8])) hs q8) λσ H R ⟨sr,q⟩=>⟨sr,wa.mono (λx q1 u1 H1 g1 s1 v1=>⟨s1,wb.mono (λy q2 u2 H2 g2 s2 v2=>⟨s2,wc.mono (λz q3 u3 H3 g3 s3 v3=>by
  cases v1 with
  |int i=>
   cases v2 with
   |int j=>
    cases v3 with
    |int k=>
     obtain⟨⟨rfl,k1,k2,k3,k4,k5⟩,q3⟩:=q3;refine⟨_,_,rfl,⟨k3,k4,k1,k2⟩,q3 _ H3 ((g1.trans g2).trans g3) s3 ⟨by rw[xq];exact k5,λH' t=>⟨λi p hp=>?_,?_⟩⟩⟩
     .obtain⟨h1,rfl⟩:=xr hp;refine⟨h1,λx H2 y=>?_⟩;obtain⟨rfl,rfl⟩:=y;exact⟨jr.refl _,.int _⟩
     .exact Gi (xq _ _).symm
    |_=>exact q3.elim
   |_=>exact q3.elim
  |_=>exact q3.elim) q2⟩) q1⟩) q⟩⟩
def oY(hK:X.K=K){kk:Nat}(hg:Gl X "enumerate")(hm:X.mg "enumerate"=ci)(h:IF X K fs e wl fs1)(mq:‹gb X e []›):mR X K fs (.Tuple Ë kk tp) (.Call (.Name "enumerate" p1) [e] [] p2) (.bind wl λl=>.dm (l.length<=sizeLine) (.ret (eR 0 l))) fs1:=
 ⟨PI.imp (QE K hK hg hm h.p mq) λσ H R ⟨sr,q⟩=>⟨sr,wl.mono (λl q1 u1 H1 g1 s1 v1=>by
  obtain⟨ad,vs,rfl,hh,rs⟩:=v1;have yl:∀{H':Hp}{i:Nat}{x v:V}{y:PV}{pp:f8},H' pp=ci->VR K [] H' v y->jr H' (upd H' pp (.tup [.int i,v]))/\VR K [] (upd H' pp (.tup [.int (i:Int),v])) (.ref pp) (.tup [.int ((0+i:Nat)),y]):=λ{H' i x v y pp} hn h4=>
   have sm:=iO hn (.tup [.int (i:Int),v])
   ⟨sm,.tup ay (.cons (by rw[A7];exact .int _) (.cons (VR.tk sm.d7 h4) .nil))⟩
  refine⟨ad,rfl,?_⟩;rcases hh with hh|hh
  .refine .inl ⟨⟨vs,hh.sq⟩,q1.2 _ H1 g1 s1 ⟨by rw[bC];exact q1.1,λH' t=>⟨λi p hp=>?_,vs,(t.f _ _ hh).sq,by rw[rs.length,bC];exact Al _⟩⟩⟩;obtain⟨y,hy,rfl⟩:=dY hp;obtain⟨v,h3,h4⟩:=(ax.tk t rs).get hy;refine⟨⟨vs,v,(t.f _ _ hh).sq,h3⟩,λx H3 z=>?_⟩;obtain⟨pp,x0,rfl,hn,rfl,hz⟩:=z;have:=hz vs (t.f _ _ hh).sq;rw[h3]at this;cases this;exact yl (x:=.aB) hn h4
  .refine .inr ⟨⟨vs,d6.of hh⟩,q1.2 _ H1 g1 s1 ⟨by rw[bC];exact q1.1,λH' t=>⟨λi p hp=>?_,vs,d6.of (t.t _ _ hh),by rw[rs.length,bC];exact Al _⟩⟩⟩;obtain⟨y,hy,rfl⟩:=dY hp;obtain⟨v,h3,h4⟩:=(ax.tk t rs).get hy;refine⟨⟨vs,v,d6.of (t.t _ _ hh),h3⟩,λx H3 z=>?_⟩;obtain⟨pp,x0,rfl,hn,rfl,hz⟩:=z;have:=hz vs (d6.of (t.t _ _ hh));rw[h3]at this;cases this;exact yl (x:=.aB) hn h4) q⟩⟩
end
def jv:O Nat->O V->L2.St->L2.St
 |i::is,u::us,σ=>jv is us (σ.set i (some u))
 |_,_,σ=>σ
def fG(K:Ab)(fs:aG)(is:O Nat){T:Type}(wt:PV->W T)(fs2:T->aG):TG:=λv σ H Q=>∃p,aQ K H σ fs/\VR K [] H v p/\(wt p).run λt=>∀us,cn σ fs H (jv is us σ) (fs2 t) H->aQ K H (jv is us σ) (fs2 t)->Q (jv is us σ) H
structure GF(X:Cx)(K:Ab)(fs:aG)(tg:nw)(is:List Nat){T:Type}(wt:PV->W T)(fs2:T->aG):Prop where p:PG X tg (fG K fs is wt fs2)
def ve:PV->W (PV×PV)
 |.tup [a,b]=>.ret (a,b)
 |_=>.fail
def un4:PV->W (PV×PV×PV×PV)
 |.tup [a,b,c,d]=>.ret (a,b,c,d)
 |_=>.fail
section
def VW(h:PG X tg (di i)):GF X K fs tg [i] .ret (λp=>fs.set i (some (.val p))):=⟨PG.imp h λv σ H Q ⟨p,sr,r,q⟩=>q [v] (cn.fy sr v p i) (sr.fy r i)⟩
def O2(hK:X.K=K)(h:PG X tg (aaL X.K 2 (uA (di i) (uA (di j) aaM)))):GF X K fs tg [i,j] ve (λt=>(fs.set i (some (.val t.1))).set j (some (.val t.2))):=⟨PG.imp h λv σ H Q ⟨p,sr,r,q⟩=>by
 unfold ve at q
 split at q
 .cases r with
  |tup e rs=>
   cases rs with
   |cons ra t=>
   cases t with
   |cons rb t=>
   cases t;have s1:=sr.fy ra i;exact⟨_,_,rfl,d6.of e,rfl,_,_,rfl,_,_,rfl,rfl,q [_,_] ((cn.fy sr _ _ i).trans (cn.fy s1 _ _ j)) (s1.fy rb j)⟩
 .exact q.elim⟩
def g_4{l:Nat}(hK:X.K=K)(h:PG X tg (aaL X.K 4 (uA (di i) (uA (di j) (uA (di k) (uA (di l) aaM)))))):GF X K fs tg [i,j,k,l] un4 (λt=>(((fs.set i (some (.val t.1))).set j (some (.val t.2.1))).set k (some (.val t.2.2.1))).set l (some (.val t.2.2.2))):=⟨PG.imp h λv σ H Q ⟨p,sr,r,q⟩=>by
 unfold un4 at q
 split at q
 .cases r with
  |tup e rs=>
   cases rs with
   |cons ra t=>
   cases t with
   |cons rb t=>
   cases t with
   |cons rc t=>
   cases t with
   |cons rd t=>
   cases t;have s1:=sr.fy ra i;have s2:=s1.fy rb j;have s3:=s2.fy rc k;exact⟨_,_,rfl,d6.of e,rfl,_,_,rfl,_,_,rfl,_,_,rfl,_,_,rfl,rfl,q [_,_,_,_] ((((cn.fy sr _ _ i).trans (cn.fy s1 _ _ j)).trans (cn.fy s2 _ _ k)).trans (cn.fy s3 _ _ l)) (s3.fy rd l)⟩
 .exact q.elim⟩
end
section
variable{S T:Type}
def bP:O PV->S->(PV->S->W S)->W S
 |[],s,_=>.ret s
 |x::r,s,f=>.bind (f x s) λs'=>bP r s' f
inductive Lp(S T:Type) where
 |go (s:S)|out (t:T)
def kX:O PV->S->(PV->S->W (Lp S T))->W (Lp S T)
 |[],s,_=>.ret (.go s)
 |x::r,s,f=>.bind (f x s) λo=>match o with
  |.go s'=>kX r s' f
  |.out t=>.ret (.out t)
def N6(k:S->W T)(inj:R->T):Lp S R->W T
 |.go s=>k s
 |.out r=>.ret (inj r)
@[simp] theorem aiQ(k:S->W T)(inj:R->T)(s:S):N6 k inj (.go s)=k s:=(rfl)
@[simp] theorem afZ(k:S->W T)(inj:R->T)(r:R):N6 k inj (.out r)=.ret (inj r):=(rfl)
def lpE(hd:S->aG)(out:R->End):Lp S R->End
 |.go s=>.nc (hd s)
 |.out r=>out r
def ip(c:S->W Bool)(b:S->W S):Nat->S->W S
 |0,_=>.fail
 |n+1,s=>.bind (c s) λk=>if k=true then .bind (b s) (ip c b n) else .ret s
def Jh(c:S->W Bool)(b:S->W S)(s:S):W S:=⟨λQ=>∃n,(ip c b n s).run Q,λh ⟨n,q⟩=>⟨n,(ip c b n s).mono h q⟩⟩
end
section
variable{c:nw}{rest:O wn}{S T T2:Type}{hd:S->aG}{s0:S}{wt:PV->W T2}{fs2:S->T2->aG}{k:S->W T}{out:T->End}{x:Bool}{R:Type}{inj:R->T}
theorem SF.aex{hd:Nat->S->aG}{hE:S->aG}{fs2:Nat->S->T2->aG}{f:PV->S->W S}{wb:T2->S->W S}(hp:wP (im X.prog X.w) X.A X.env X.xe)(hc:X.calm=true)(hi:mR X K fs tg iter wl fs1)(hl:dA fs1 (hd 0 s0))(hg:∀i s,GF X K (hd i s) tg is wt (fs2 i s))(hf:∀p s,f p s=.bind (wt p) λt=>wb t s)(hb:∀i s t,i<sizeLine->SF X K false (fs2 i s t) body (wb t s) λs'=>.nc (hd (i+1) s'))(hx:∀i s,i<=sizeLine->dA (hd i s) (hE s))(hr:∀s,SF X K x (hE s) rest (k s) out)(hs:qJ X iter:=by intro _;rfl):SF X K x fs (.For tg iter body [] pos::rest) (.bind wl λl=>.bind (bP l s0 f) k) out:=by
 refine SF.step (Qx (g:=λv σ H Q=>∃i s,fG K (hd i s) is wt (fs2 i s) v σ H Q) (tb:=λD σ H=>∃i s t,i<sizeLine/\fS K false (fs2 i s t) (wb t s) (λs'=>.nc (hd (i+1) s')) D σ H) hp hc hi.p (λU s σ H v u Q I r ⟨i1,s1,q⟩=>(hg i1 s1).p U s σ H v u Q I r q) (λU s σ H D I ⟨i1,s1,t1,h1,q⟩=>(hb i1 s1 t1 h1).p U s σ H D I q) hs) λD σ H ⟨sr,q⟩=>?_;refine⟨sr,wl.mono (λl q1 J H1 g1 s1 jf=>?_) q⟩;have hz:=jf.1;refine⟨λi m σ' H'=>∃s,aQ K H' σ' (hd i s)/\cn σ fs H σ' (hd i s) H'/\JF K H' J l/\m=l.length-i/\i<=l.length/\(bP (l.drop i) s f).run λs'=>(k s').run λt=>cm K x σ fs H D (out t),⟨l.length,s0,s1.le hl,g1.f.trans (cn.le s1 hl),jf,by simp,Bh _,by simpa using q1⟩,?_⟩;rintro i m σ2 H2 ⟨s,s2,g2,VD,rfl,hi,q2⟩;obtain⟨j1,j2⟩:=VD.2 H2 (bb.refl H2);by_cases kT:i<l.length
 .obtain⟨go,yl⟩:=j1 i _ (Ad kT);rw[(B7 kT)]at q2;refine .inr ⟨go,λσ3 H3=>∃s',aQ K H3 σ3 (hd (i+1) s')/\cn σ fs H σ3 (hd (i+1) s') H3/\JF K H3 J l/\(bP (l.drop (i+1)) s' f).run λs'=>(k s').run λt=>cm K x σ fs H D (out t),λσ3 H3 ⟨s',a1,a2,a3,a4⟩=>⟨l.length-(i+1),by lia,s',a1,a2,a3,rfl,kT,a4⟩,λv H3 y=>?_⟩;obtain⟨sm,vx⟩:=yl v H3 y;have q2:(f l[i] s).run λs'=>(bP (l.drop (i+1)) s' f).run λs'=>(k s').run λt=>cm K x σ fs H D (out t):=q2;rw[hf]at q2;have s3:=s2.same sm;refine⟨i,s,_,s3,vx,(wt l[i]).mono (λt q4 us g4 s4=>?_) q2⟩;refine⟨i,s,t,by lia,s4,(wb t s).mono (λs' q5 σ5 H5 g5 s5=>?_) q4⟩;have fin:∃s',aQ K H5 σ5 (hd (i+1) s')/\cn σ fs H σ5 (hd (i+1) s') H5/\JF K H5 J l/\(bP (l.drop (i+1)) s' f).run λs'=>(k s').run λt=>cm K x σ fs H D (out t):=⟨s',s5,((g2.trans (cn.same sm s2)).trans g4).trans g5,VD.tk (bb.trans sm.d7 (bb.trans (g4.cB s3) (g5.cB s4))),q5⟩;exact⟨λ_=>fin,fin⟩
 .have e:i=l.length:=by lia
  subst e;rw[Fg]at q2;have le:=hx l.length s hz;exact .inl ⟨j2,hE s,k s,hr s,s2.le le,(k s).mono (λt q3=>q3.go (g2.trans (cn.le s2 le)) sr (s2.le le)) q2⟩
def SF.for{f:PV->S->W S}{wb:T2->S->W S}(hp:wP (im X.prog X.w) X.A X.env X.xe)(hc:X.calm=true)(hi:mR X K fs tg iter wl fs1)(hl:dA fs1 (hd s0))(hg:∀s,GF X K (hd s) tg is wt (fs2 s))(hf:∀p s,f p s=.bind (wt p) λt=>wb t s)(hb:∀s t,SF X K false (fs2 s t) body (wb t s) λs'=>.nc (hd s'))(hr:∀s,SF X K x (hd s) rest (k s) out)(hs:qJ X iter:=by intro _;rfl):SF X K x fs (.For tg iter body [] pos::rest) (.bind wl λl=>.bind (bP l s0 f) k) out:=SF.aex (hd:=λ_=>hd) (fs2:=λ_=>fs2) hp hc hi hl (λ_=>hg) hf (λ_ s t _=>hb s t) (λ_ s _=>.refl _) hr hs
theorem SF.XW{hd:Nat->S->aG}{hE:S->aG}{fs2:Nat->S->T2->aG}{f:PV->S->W (Lp S R)}{wb:T2->S->W (Lp S R)}(hp:wP (im X.prog X.w) X.A X.env X.xe)(hc:X.calm=true)(hi:mR X K fs tg iter wl fs1)(hl:dA fs1 (hd 0 s0))(hg:∀i s,GF X K (hd i s) tg is wt (fs2 i s))(hf:∀p s,f p s=.bind (wt p) λt=>wb t s)(ho:∀t,(out (inj t)).HJ)(hb:∀i s t,i<sizeLine->SF X K false (fs2 i s t) body (wb t s) (lpE (hd (i+1)) λr=>out (inj r)))(hx:∀i s,i<=sizeLine->dA (hd i s) (hE s))(hr:∀s,SF X K x (hE s) rest (k s) out)(hs:qJ X iter:=by intro _;rfl):SF X K x fs (.For tg iter body [] pos::rest) (.bind wl λl=>.bind (FL.kX l s0 f) (N6 k inj)) out:=by
 refine SF.step (Qx (g:=λv σ H Q=>∃i s,fG K (hd i s) is wt (fs2 i s) v σ H Q) (tb:=λD σ H=>∃i s t,i<sizeLine/\fS K false (fs2 i s t) (wb t s) (lpE (hd (i+1)) λr=>out (inj r)) D σ H) hp hc hi.p (λU s σ H v u Q I r ⟨i1,s1,q⟩=>(hg i1 s1).p U s σ H v u Q I r q) (λU s σ H D I ⟨i1,s1,t1,h1,q⟩=>(hb i1 s1 t1 h1).p U s σ H D I q) hs) λD σ H ⟨sr,q⟩=>?_;refine⟨sr,wl.mono (λl q1 J H1 g1 s1 jf=>?_) q⟩;have hz:=jf.1;have lo:∀D' y t,D'.rt=D.rt->cm K x σ fs H D (out (inj t))->cm K y σ fs H D' (out (inj t)):=λD' y t e h=>cm.ahx (ho t) e h;refine⟨λi m σ' H'=>∃s,aQ K H' σ' (hd i s)/\cn σ fs H σ' (hd i s) H'/\JF K H' J l/\m=l.length-i/\i<=l.length/\(FL.kX (l.drop i) s f).run λo=>(N6 k inj o).run λt=>cm K x σ fs H D (out t),⟨l.length,s0,s1.le hl,g1.f.trans (cn.le s1 hl),jf,by simp,Bh _,by simpa using q1⟩,?_⟩;rintro i m σ2 H2 ⟨s,s2,g2,VD,rfl,hi,q2⟩;obtain⟨j1,j2⟩:=VD.2 H2 (bb.refl H2);by_cases kT:i<l.length
 .obtain⟨go,yl⟩:=j1 i _ (Ad kT);rw[(B7 kT)]at q2;refine .inr ⟨go,λσ3 H3=>∃s',aQ K H3 σ3 (hd (i+1) s')/\cn σ fs H σ3 (hd (i+1) s') H3/\JF K H3 J l/\(FL.kX (l.drop (i+1)) s' f).run λo=>(N6 k inj o).run λt=>cm K x σ fs H D (out t),λσ3 H3 ⟨s',a1,a2,a3,a4⟩=>⟨l.length-(i+1),by lia,s',a1,a2,a3,rfl,kT,a4⟩,λv H3 y=>?_⟩;obtain⟨sm,vx⟩:=yl v H3 y;have q2:(f l[i] s).run λo=>(match o with|.go s'=>FL.kX (l.drop (i+1)) s' f|.out t=>ce (.out t)).run λo=>(N6 k inj o).run λt=>cm K x σ fs H D (out t):=q2;rw[hf]at q2;have s3:=s2.same sm;have g3:=g2.trans (cn.same sm s2);refine⟨i,s,_,s3,vx,(wt l[i]).mono (λt q4 us g4 s4=>?_) q2⟩;refine⟨i,s,t,by lia,s4,(wb t s).mono (λo q5=>?_) q4⟩;cases o with
  |out t5=>
   refine cm.go (g3.trans g4) sr s4 (lo _ false t5 ?_ q5);rfl
  |go s'=>
   intro σ5 H5 g5 s5;have fin:∃s',aQ K H5 σ5 (hd (i+1) s')/\cn σ fs H σ5 (hd (i+1) s') H5/\JF K H5 J l/\(FL.kX (l.drop (i+1)) s' f).run λo=>(N6 k inj o).run λt=>cm K x σ fs H D (out t):=⟨s',s5,(g3.trans g4).trans g5,VD.tk (bb.trans sm.d7 (bb.trans (g4.cB s3) (g5.cB s4))),q5⟩;exact⟨λ_=>fin,fin⟩
 .have e:i=l.length:=by lia
  subst e;rw[Fg]at q2;have le:=hx l.length s hz;exact .inl ⟨j2,hE s,k s,hr s,s2.le le,(k s).mono (λt q3=>q3.go (g2.trans (cn.le s2 le)) sr (s2.le le)) q2⟩
def SF.kX{f:PV->S->W (Lp S R)}{wb:T2->S->W (Lp S R)}(hp:wP (im X.prog X.w) X.A X.env X.xe)(hc:X.calm=true)(hi:mR X K fs tg iter wl fs1)(hl:dA fs1 (hd s0))(hg:∀s,GF X K (hd s) tg is wt (fs2 s))(hf:∀p s,f p s=.bind (wt p) λt=>wb t s)(ho:∀t,(out (inj t)).HJ)(hb:∀s t,SF X K false (fs2 s t) body (wb t s) (lpE hd λr=>out (inj r)))(hr:∀s,SF X K x (hd s) rest (k s) out)(hs:qJ X iter:=by intro _;rfl):SF X K x fs (.For tg iter body [] pos::rest) (.bind wl λl=>.bind (FL.kX l s0 f) (N6 k inj)) out:=SF.XW (hd:=λ_=>hd) (fs2:=λ_=>fs2) hp hc hi hl (λ_=>hg) hf ho (λ_ s t _=>hb s t) (λ_ s _=>.refl _) hr hs
def kq(N:Nat)(c:S->W Bool)(b:S->W S)(s:S):W S:=⟨λQ=>∃n,n<=N/\(ip c b n s).run Q,λh ⟨n,l,q⟩=>⟨n,l,(ip c b n s).mono h q⟩⟩
theorem SF.kq{N:Nat}{hd:Nat->S->aG}{hE:S->aG}{cw:S->W Bool}{b:S->W S}(hp:wP (im X.prog X.w) X.A X.env X.xe)(hl:dA fs (hd 0 s0))(hc:∀i s,TF X K (hd i s) c (cw s))(hb:∀i s,i<N->SF X K false (hd i s) body (b s) λs'=>.nc (hd (i+1) s'))(hx:∀i s,i<=N->dA (hd i s) (hE s))(hr:∀s,SF X K x (hE s) rest (k s) out):SF X K x fs (.While c body [] pos::rest) (.bind (FL.kq N cw b s0) k) out:=by
 refine SF.step (G4 (tc:=λσ H Q=>∃i s,fT K (hd i s) (cw s) (hd i s) σ H Q) (tb:=λD σ H=>∃i s,i<N/\fS K false (hd i s) (b s) (λs'=>.nc (hd (i+1) s')) D σ H) hp (λU s σ H Q I ⟨i1,s1,q⟩=>(hc i1 s1).p U s σ H Q I q) (λU s σ H D I ⟨i1,s1,h1,q⟩=>(hb i1 s1 h1).p U s σ H D I q)) λD σ H ⟨sr,n,hn,q⟩=>?_;refine⟨λm σ' H'=>∃i s,i+m<=N/\aQ K H' σ' (hd i s)/\cn σ fs H σ' (hd i s) H'/\(ip cw b m s).run λs'=>(k s').run λt=>cm K x σ fs H D (out t),⟨n,0,s0,by lia,sr.le hl,cn.le sr hl,q⟩,?_⟩;rintro m σ1 H1 ⟨i,s,him,s1,g1,q1⟩;cases m with
 |zero=>exact q1.elim
 |succ m=>
  refine⟨i,s,s1,(cw s).mono (λkk q2 H2 g2 s2=>?_) q1⟩;cases kk with
  |false=>
   have le:=hx i s ∅;exact yS ⟨hE s,k s,hr s,s2.le le,(k s).mono (λt q3=>q3.go ((g1.trans g2.f).trans (cn.le s2 le)) sr (s2.le le)) q2⟩
  |true=>
   refine yR ?_;refine⟨λσ3 H3=>∃s,aQ K H3 σ3 (hd (i+1) s)/\cn σ fs H σ3 (hd (i+1) s) H3/\(ip cw b m s).run λs'=>(k s').run λt=>cm K x σ fs H D (out t),λσ3 H3 ⟨s,a⟩=>⟨m,D4 m,i+1,s,by lia,a⟩,i,s,by lia,s2,(b s).mono (λs' q5 σ5 H5 g5 s5=>?_) q2⟩;have fin:∃s,aQ K H5 σ5 (hd (i+1) s)/\cn σ fs H σ5 (hd (i+1) s) H5/\(ip cw b m s).run λs'=>(k s').run λt=>cm K x σ fs H D (out t):=⟨s',s5,(g1.trans g2.f).trans g5,q5⟩;exact⟨λ_=>fin,fin⟩
def SF.aci{cw:S->W Bool}{b:S->W S}(hp:wP (im X.prog X.w) X.A X.env X.xe)(hl:dA fs (hd s0))(hc:∀s,TF X K (hd s) c (cw s))(hb:∀s,SF X K false (hd s) body (b s) λs'=>.nc (hd s'))(hr:∀s,SF X K x (hd s) rest (k s) out):SF X K x fs (.While c body [] pos::rest) (.bind (Jh cw b s0) k) out:=⟨λU s σ H D I ⟨sr,n,q⟩=>(SF.kq (N:=n) (hd:=λ_=>hd) hp hl (λ_=>hc) (λ_ s _=>hb s) (λ_ s _=>.refl _) hr).p U s σ H D I ⟨sr,n,Al n,q⟩⟩
end
end
end FL
variable{f:PL.PV->FL.W (Option PL.PV)}{rg O3:FL.aG}{hd:Nat->FL.aG}
namespace FL
section
variable[bL]
variable{K:Ab}
def ml:O PV->(PV->W (Option PV))->W (O PV)
 |[],_=>.ret []
 |x::r,f=>.bind (f x) λo=>.bind (ml r f) λl=>.ret (o.toList++l)
def bF:O PV->(PV->W PV)->W (O PV)
 |[],_=>.ret []
 |x::r,f=>.bind (f x) λy=>.bind (bF r f) λl=>.ret (y::l)
theorem yu(f:PV->W PV):∀l,bF l f=ml l λp=>.bind (f p) λv=>.ret (some v)
 |[]=>rfl
 |x::r=>by
  show am (f x) (λy=>am (bF r f) λl=>ce (y::l))=am (f x) λy=>am (ml r _) λl=>ce (y::l);rw[yu f r]
def a6(ix:O (Option Nat))(fs:aG):aG:=ix.map λo=>match o with|some j=>(fs[j]?).getD ci|none=>ci
section
def pG{s:SL}(h:(a6 ix fs)[i]?=some (some s)):∃j,ix[i]?=some (some j)/\fs[j]?=some (some s):=by
 unfold a6 at h;rw[Ah]at h;cases q:ix[i]? with
 |none=>rw[q]at h;cases h
 |some o=>
  rw[q]at h;cases o with
  |none=>cases h
  |some j=>
   refine⟨j,rfl,?_⟩;have h:(fs[j]?).getD ci=some s:=Option.some.inj h;cases z:fs[j]? with
   |none=>rw[z]at h;cases h
   |some y=>rw[z]at h;exact congrArg some h
def ma(h:ix[i]?=some (some j))(e:σ[j]?=some (some u)):(pF ix σ)[i]?=some (some u):=by
 unfold pF;rw[Ah,h];show some ((σ[j]?).getD ci)=_;rw[e];rfl
def aQ.eK(s:aQ K H σ fs)(inj:∀i i' j:Nat,ix[i]?=some (some j)->ix[i']?=some (some j)->i=i'):aQ K H (pF ix σ) (a6 ix fs):=by
 refine⟨by unfold pF a6;simp,λi t e=>?_,λi i' t u x y a e1 e2 o1 o2 q1 q2 z1 z2=>?_,s.tb⟩
 .obtain⟨j,h1,h2⟩:=pG e;obtain⟨u,h3,h4⟩:=s.at' j t h2;exact⟨u,ma h1 h3,h4⟩
 .obtain⟨j,h1,h2⟩:=pG e1;obtain⟨j',ff,sH⟩:=pG e2;obtain⟨u1,h3,_⟩:=s.at' j t h2;obtain⟨u2,RU,_⟩:=s.at' j' u sH;rw[ma h1 h3]at q1;rw[ma ff RU]at q2;cases q1;cases q2;have:=s.nd j j' t u x y a h2 sH o1 o2 h3 RU z1 z2;subst this;exact inj i i' j h1 ff
structure Yi(ix:List (Option Nat))(σ:L2.St)(fs:aG)(σ':L2.St)(aD:aG):Prop where
 own:∀(i:Nat) (t:SL),aD[i]?=some (some t)->t.own=true->∃j,ix[i]?=some (some j)/\fs[j]?=some (some t)/\σ'[i]?=σ[j]?
def Cap(ix:O (Option Nat))(σ σ':L2.St):Prop:=∀(i j:Nat) (u:V),ix[i]?=some (some j)->σ[j]?=some (some u)->σ'[i]?=some (some u)
def Cap.mm(c:Cap ix σ σ')(s:aQ K H σ fs):Yi ix σ fs σ' (a6 ix fs):=⟨λi t e _=>by
 obtain⟨j,h1,h2⟩:=pG e;obtain⟨u,h3,_⟩:=s.at' j t h2;exact⟨j,h1,h2,by rw[c i j u h1 h3,h3]⟩⟩
def Yi.eV(h:Yi ix σ fs σ' aD)(o:ck σ' aD a):ck σ fs a:=by
 obtain⟨i,t,x,e1,e2,e3,e4⟩:=o;obtain⟨j,h1,h2,h3⟩:=h.own i t e1 e2;exact⟨j,t,x,h2,e2,h3▸e3,e4⟩
def Yi.cJ(h:Yi ix σ fs σ' aD){m:Nat}(o:cI σ' aD ψ m a):cI σ fs ψ m a:=by
 obtain⟨i,n,e1,e3⟩:=o;obtain⟨j,h1,h2,h3⟩:=h.own i _ e1 rfl;exact⟨j,n,h2,h3▸e3⟩
def Yi.out{VY fsC:aG}(h:Yi ix σ fs σ' aD)(cp:Cap ix σ σ')(s:aQ K H1 σ fs)(g:bR σ' aD H1 H2 fsC)(s2:aQ K H2 σ' (a6 ix VY))(ev:Ev fs VY)(hc:∀j:Nat,fs[j]?=VY[j]?\/∃i':Nat,ix[i']?=some (some j)):aQ K H2 σ VY/\bR σ fs H1 H2 VY:=by
 have gf:bR σ fs H1 H2 VY:=⟨λa o e n t=>g.keep a o e (λψ m z=>n ψ m (h.cJ z)) t,g.there,ev,g.x⟩;have eK:∀{i j:Nat}{t:SL},ix[i]?=some (some j)->VY[j]?=some (some t)->(a6 ix VY)[i]?=some (some t):=λ{i j t} e1 e2=>by
  unfold a6;rw[Ah,e1];show some ((VY[j]?).getD ci)=_;rw[e2];rfl
 have tk:=gf.cB s;refine⟨⟨s.len.trans ev.len,λj t e=>?_,ev.nd s,s2.tb⟩,gf⟩
 .rcases hc j with e0|⟨i,hi⟩
  .rw[<- e0]at e;obtain⟨u,h1,h2⟩:=s.at' j t e;refine⟨u,h1,?_⟩;rcases h2 with⟨v,q,r⟩|⟨a,q,r⟩
   .exact .inl ⟨v,q,VR.tk tk r⟩
   .subst q;refine .inr ⟨a,rfl,?_⟩;by_cases c:∃b,t.own=true/\t.has a b/\ck σ' aD b
    .obtain⟨b,ow,hb,i,t',x,c1,c2,c3,c4⟩:=c;obtain⟨j',k1,k2,k3⟩:=h.own i t' c1 c2;have jj:=s.nd j j' t t' a x b e k2 ow c2 h1 (k3▸c3) hb c4;subst jj;rw[e]at k2;cases k2;exact s2.ownAt (eK k1 (e0▸e)) c2 (k3.trans h1)
    .exact r.mono tk (λb o ow hb z nt=>g.qW z (λy=>c ⟨b,ow,hb,y⟩) nt)
  .obtain⟨u',h3,h4⟩:=s2.at' i t (eK hi e);have he:∃t',fs[j]?=some (some t'):=by
    rcases ev.get e with z|⟨_,_,_,_,_,z⟩
    .exact⟨_,z⟩
    .exact⟨_,z⟩
   obtain⟨t',he⟩:=he;obtain⟨u,h1,_⟩:=s.at' j t' he;have:=cp i j u hi h1;rw[h3]at this;cases this;exact⟨_,h1,h4⟩
theorem mS:∀{is:O Nat}{us:O V}{σ:L2.St}{i:Nat},i∉is->(jv is us σ)[i]?=σ[i]?
 |[],us,σ,i,_=>by cases us<;>rfl
 |j::is,[],σ,i,_=>rfl
 |j::is,u::us,σ,i,h=>by
  rw[jv,mS (λz=>h (A6 _ z))];exact aq (λz=>h (by rw[z];exact BI))
end
section
variable{sc:r9}{T2:Type}{wt:PV->W T2}{fs2:T2->aG}{tf:T2->W Bool}{te:T2->W PV}
structure FF(X:Cx)(K:Ab)(fs:aG)(Æ:List nw)(w:W Bool):Prop where p:PFs X Æ (fT K fs w)
def zk:FF X K fs [] (.ret true):=⟨λU s σ H Q I ⟨sr,q⟩=>UQ U s σ H Q I (q H .refl sr)⟩
def R4{c:nw}{w:W Bool}(h:TF X K fs c w):FF X K fs [c] w:=⟨UP h.p⟩
def qI(is:O Nat)(rg:aG)(fs2:T2->aG):Prop:=∀t,(fs2 t).length=rg.length/\∀(i:Nat) (s:SL),(fs2 t)[i]?=some (some s)->(i∈is/\s.own=false)\/(i∉is/\rg[i]?=some (some s))
theorem X2{fs2 fs3:Nat->T2->aG}(S:aX X.env.scope X.N sc N' ix)(h0:pO fs1 (hd 0))(hx:∀i,i<=sizeLine->pO (hd i) O3)(hv:∀i,i<sizeLine->Ev (hd i) (hd (i+1)))(XR:∀i j:Nat,(hd i)[j]?=(hd (i+1))[j]?\/∃i':Nat,ix[i']?=some (some j))(hf:∀p,f p=.bind (wt p) λt=>.bind (tf t) λk=>if k=true then .bind (te t) λv=>.ret (some v) else .ret ci)(hl:∀i,qI is (a6 ix (hd i)) (fs2 i))(ã:∀i t,i<sizeLine->dA (fs2 i t) (a6 ix (hd (i+1))))(â:∀i t,i<sizeLine->dA (fs3 i t) (a6 ix (hd (i+1))))(fP:∀j∈is,ix[j]?=some ci):∀σ H Q,fL K fs (.bind wl λl=>ml l f) O3 σ H Q->tLc ix (fIt K fs wl fs1) (λv σ H Q=>∃i,fG K (a6 ix (hd i)) is wt (fs2 i) v σ H Q) (λσ H Q=>∃i t,fT K (fs2 i t) (tf t) (fs2 i t) σ H Q) (λσ H Q=>∃i t,i<sizeLine/\fE K (fs2 i t) (te t) (fs3 i t) σ H Q) σ H Q:=by
 rintro σ H Q ⟨sr,q⟩;refine⟨sr,wl.mono (λl q1 J H1 g1 s1 jf D hD=>?_) q⟩;have hz:=jf.1;have inj:∀i i' j:Nat,ix[i]?=some (some j)->ix[i']?=some (some j)->i=i':=λi i' j h1 h2=>by
  have hi:i<N'.length:=by rw[<- S.len];exact(Ag.mp h1).1
  have HU:i'<N'.length:=by rw[<- S.len];exact(Ag.mp h2).1
  have e2:=(S.at h2 (Ad HU)).1;rw[((S.at h1 (Ad hi)).1)]at e2;exact(D5 S.nd).mp (Option.some.inj e2)
 have g1:=g1.le h0;have s1:=s1.le h0.f;have nD:∀i,Ev (hd 0) (hd i)->¬ck σ (hd i) D:=λi e z=>s1.noOwn hD (e.eV z);refine⟨λi m σ' ys H'=>∃acc,Ev (hd 0) (hd i)/\aQ K H' σ (hd i)/\bR σ fs H H' (hd i)/\aQ K H' σ' (a6 ix (hd i))/\Cap ix σ σ'/\JF K H' J l/\H' D=some (.lst ys)/\ax K [] H' ys acc/\acc.length<=i/\m=l.length-i/\i<=l.length/\
  (ml (l.drop i) f).run λr=>∀a vs H',bR σ fs H H' O3->aQ K H' σ O3->H a=ci->H' a=some (.lst vs)->ax K [] H' vs (acc++r)->Q (.ref a) H',⟨l.length,[],?_⟩,?_⟩
 .have sm:=iO hD (.lst []);exact⟨.refl _,s1.same sm,g1.trans (bR.same sm),(s1.same sm).eK inj,λi j u h1 h3=>ma h1 h3,jf.tk sm.d7,ay,.nil,Bh _,by simp,Bh _,by simpa using q1⟩
 rintro i m σ2 ys H2 ⟨acc,ev0,sO,gO,s2,cp,VD,hy,vy,ael,rfl,hi,q2⟩;refine⟨hy,?_⟩;obtain⟨j1,j2⟩:=VD.2 H2 (bb.refl H2);have mm:=cp.mm sO;by_cases kT:i<l.length
 .have Tw:i<sizeLine:=by lia
  have š:=ev0.trans (hv i Tw);obtain⟨go,yl⟩:=j1 i _ (Ad kT);rw[(B7 kT)]at q2;refine .inr ⟨go,λv H3 y=>?_⟩;obtain⟨sm,vx⟩:=yl v H3 y;have q2:(f l[i]).run λo=>(ml (l.drop (i+1)) f).run λr=>∀a vs H',bR σ fs H H' O3->aQ K H' σ O3->H a=ci->H' a=some (.lst vs)->ax K [] H' vs (acc++(o.toList++r))->Q (.ref a) H':=q2;rw[hf]at q2;refine⟨_,_,(s2.same sm),vx,(wt l[i]).mono (λt q4 us g4 s4=>?_) q2⟩;have Ě:Cap ix σ (jv is us σ2):=λi' j u h1 h3=>by
   rw[mS λz=>by have:=fP i' z;rw[h1]at this;cases this];exact cp i' j u h1 h3
  have ŧ:Yi ix σ (hd i) (jv is us σ2) (fs2 i t):=⟨λj u e o=>by
   rcases (hl i t).2 j u e with⟨_,z⟩|⟨n,z⟩
   .rw[z]at o;cases o
   .obtain⟨j',k1,k2,k3⟩:=mm.own j u z o;exact⟨j',k1,k2,by rw[mS n];exact k3⟩⟩
  refine⟨i,t,s4,(tf t).mono (λkk q5 H5 g5 s5=>?_) q4⟩;have nD4:¬ck (jv is us σ2) (fs2 i t) D:=λz=>nD i ev0 (ŧ.eV z);have hy5:=g5.qW (sm _ _ hy) nD4;have vy5:=ax.tk (g5.cB s4) (ax.tk sm.d7 vy);have jf5:=(VD.tk sm.d7).tk (g5.cB s4);have x5:∀φ,H2 D≠some (.ext φ):=λφ=>by rw[hy];simp
  cases kk with
  |false=>
   have s5':=s5.le (ã i t Tw);obtain⟨sO5,gO5⟩:=ŧ.out Ě (sO.same sm) g5 s5' (hv i Tw) (XR i);exact yS ⟨l.length-(i+1),by lia,acc,š,sO5,(gO.trans (bR.same sm)).trans gO5,s5',Ě,jf5,hy5,vy5,by lia,rfl,kT,q5⟩
  |true=>
   refine yR ⟨i,t,Tw,s5,(te t).mono (λv6 q6 u6 H6 g6 s6 v6'=>?_) q5⟩;have s6':=s6.le (â i t Tw);obtain⟨sO6,aiR⟩:=ŧ.out Ě (sO.same sm) (g5.trans g6) s6' (hv i Tw) (XR i);have gO6:=(gO.trans (bR.same sm)).trans aiR;have õ:=g6.qW hy5 nD4;have vy6:=ax.tk (g6.cB s5) vy5;have x6:∀φ,H6 D≠some (.ext φ):=λφ=>by rw[õ];simp
   have nDi:=nD (i+1) š;refine⟨õ,by rw[vy6.length];have:=VD.1;lia,l.length-(i+1),by lia,acc++[v6],š,sO6.side nDi õ _,gO6.side (g1.there D hD) x6 _,s6'.side (λz=>nDi ((Ě.mm sO6).eV z)) õ _,Ě,(jf5.tk (g6.cB s5)).tk (se _ õ),ay,ax.tk (se (.lst (ys++[u6])) õ) (vy6.append (.cons v6' .nil)),by rw[Ak];simp;lia,rfl,kT,?_⟩;refine(ml (l.drop (i+1)) f).mono (λr q7 a vs H7 g7 s7 n e v7=>q7 a vs H7 g7 s7 n e ?_) q6;simpa using v7
 .have e:i=l.length:=by lia
  subst e;rw[Fg]at q2;have le:=hx l.length hz;exact .inl ⟨j2,q2 D ys H2 (gO.le le) (sO.le le.f) (g1.there D hD) hy (by simpa using vy)⟩
end
end
end FL
namespace L2
def rL(l:f8)(items:Array cr)(n:Nat)(b:f8)(cu:Array cr)(n2:Nat)(sl:Array (Option cr))(hc0:¬(!items.isEmpty&&Builtin.List.listTooLong (items.size+cu.size))=true)(hc1:items.size<=sizeLine)(q8:items.size+cu.size<=sizeLine+1):Meets (ul.«list.extend» ⟨[.ref l,.ref b],[]⟩) (λ_ R s=>s.heap.get? l=some {cls:=.type "list",dict:=ci,data:=.seq items n,slots:=#[]}/\s.heap.get? b=some {cls:=.type "list",dict:=ci,data:=.seq cu n2,slots:=sl}/\R (.ok (.ret Bc)) {s with heap:=s.heap.update l (BH λx=>x++cu),toks:=s.toks}):=
 .of_wp λprog w A R s h=>by
  obtain⟨hp,g,d,tk,os⟩:=s;obtain⟨hl,hb,h⟩:=h;have f5:=Ea;
  wp_walk using (CY hl rfl),Cc hl,Cc hb;exact⟨_,rfl,h⟩
def ac9(K:Ab):V->O V->Hp->VK->Prop:=λx vs H Q=>∃l b xs zs,x=.ref l/\vs=[.ref b]/\H l=some (.lst xs)/\(bM K H b zs\/d6 K H b zs)/\xs.length+zs.length<=sizeLine/\GG H l (.lst (xs++zs)) (Q .aB)
theorem Vg(K:Ab)(hK:X.K=K):Lj X "list.extend" (ac9 K):=by
 subst hK;intro U s σ H x vs v us Q I rx rv h;obtain⟨l,b,xs,zs,rfl,rfl,hH,hB|hB,hz,q⟩:=h
 .cases rx;obtain⟨u,rfl,ru⟩:=rv.one;cases ru;obtain⟨z,ao,n,r,hl,e⟩:=I.rH hH;obtain⟨cq,r2,⟨⟨cls,dd,data,sl⟩,n2,e2,hc,hd,nr⟩,z2⟩:=I.list hB;subst hc hd nr;have Tv:=r2.length;have hsz:ao.toArray.size+cq.toArray.size<=sizeLine:=by rw[Am,Am];lia
  have uw:¬(!ao.toArray.isEmpty&&Builtin.List.listTooLong (ao.toArray.size+cq.toArray.size))=true:=by
   rw[oB hsz,DN];exact AV
  refine v4 EE ⟨_,e,rfl⟩ Ej (D9 _ _)
   (rL l ao.toArray n b cq.toArray n2 sl uw (by rw[Am];lia) ∅) ⟨e,e2,?_⟩
  refine⟨.aB,_,I.JV hH e (by simp) (r.append r2) ?_,rfl,q.at⟩;rw[Ak];lia
 .exact Hs U s σ H _ _ v us Q I rx rv ⟨l,b,xs,zs,rfl,rfl,hH,hB,hz,q⟩
end L2
variable{wi we:FL.W PL.PV}{z:B4}{ei:BF}
namespace FL
section
variable[bL]
variable{K:Ab}
section
variable{sc:r9}{T2:Type}{wt:PV->W T2}{fs2:T2->aG}{tf:T2->W Bool}{te:T2->W PV}
def Xx{fs2 fs3:Nat->T2->aG}(hc:X.calm=true)(S:aX X.env.scope X.N sc N' ix)(hi:mR X K fs tg iter wl fs1)(hg:∀cl C s2 H2 fp i,GF (eK X sc N' cl C s2 H2 fp) K (a6 ix (hd i)) tg is wt (fs2 i))(N3:∀cl C s2 H2 fp i t,FF (eK X sc N' cl C s2 H2 fp) K (fs2 i t) Æ (tf t))(he:∀cl C s2 H2 fp i t,i<sizeLine->EF (eK X sc N' cl C s2 H2 fp) K (fs2 i t) Â (te t) (fs3 i t))(hf:∀p,f p=.bind (wt p) λt=>.bind (tf t) λk=>if k=true then .bind (te t) λv=>.ret (some v) else .ret ci)(hl:∀i,qI is (a6 ix (hd i)) (fs2 i))(fP:∀j∈is,ix[j]?=some ci)(h0:pO fs1 (hd 0))(hx:∀i,i<=sizeLine->pO (hd i) O3)(hv:∀i,i<sizeLine->Ev (hd i) (hd (i+1)))(XR:∀i j:Nat,(hd i)[j]?=(hd (i+1))[j]?\/∃i':Nat,ix[i']?=some (some j))(ã:∀i t,i<sizeLine->dA (fs2 i t) (a6 ix (hd (i+1))))(â:∀i t,i<sizeLine->dA (fs3 i t) (a6 ix (hd (i+1))))(hs:qJ X iter:=by intro _;rfl):LF X K fs (.ListComp Â [⟨tg,iter,Æ,0⟩] sc pos) (.bind wl λl=>ml l f) O3:=
 ⟨PE.imp (adg hc S hi.p (λcl C s2 H2 fp U s σ H v u Q I r ⟨i,q⟩=>(hg cl C s2 H2 fp i).p U s σ H v u Q I r q) (λcl C s2 H2 fp U s σ H Q I ⟨i,t,q⟩=>(N3 cl C s2 H2 fp i t).p U s σ H Q I q) (λcl C s2 H2 fp U s σ H Q I ⟨i,t,h,q⟩=>(he cl C s2 H2 fp i t h).p U s σ H Q I q) hs) (X2 S h0 hx hv XR hf hl ã â fP)⟩
def ZV(hc:X.calm=true)(S:aX X.env.scope X.N sc N' ix)(hi:mR X K fs tg iter wl fs1)(hg:∀cl C s2 H2 fp,GF (eK X sc N' cl C s2 H2 fp) K (a6 ix fs1) tg is wt fs2)(N3:∀cl C s2 H2 fp t,FF (eK X sc N' cl C s2 H2 fp) K (fs2 t) Æ (tf t))(he:∀cl C s2 H2 fp t,EF (eK X sc N' cl C s2 H2 fp) K (fs2 t) Â (te t))(hf:∀p,f p=.bind (wt p) λt=>.bind (tf t) λk=>if k=true then .bind (te t) λv=>.ret (some v) else .ret ci)(hl:qI is (a6 ix fs1) fs2/\∀t,dA (fs2 t) (a6 ix fs1))(fP:∀j∈is,ix[j]?=some ci)(hs:qJ X iter:=by intro _;rfl):LF X K fs (.ListComp Â [⟨tg,iter,Æ,0⟩] sc pos) (.bind wl λl=>ml l f) fs1:=Xx (hd:=λ_=>fs1) (fs2:=λ_=>fs2) (fs3:=λ_=>fs2) hc S hi (λcl C s2 H2 fp _=>hg cl C s2 H2 fp) (λcl C s2 H2 fp _=>N3 cl C s2 H2 fp) (λcl C s2 H2 fp _ t _=>he cl C s2 H2 fp t) hf (λ_=>hl.1) fP (.refl _) (λ_ _=>.refl _) (λ_ _=>.refl _) (λ_ _=>.inl rfl) (λ_ t _=>hl.2 t) (λ_ t _=>hl.2 t) hs
def yt{f:PV->W PV}(hf:∀p,f p=.bind (wt p) te):(λl=>bF l f)=λl=>ml l λp=>.bind (wt p) λt=>.bind (.ret true) λk=>if k=true then .bind (te t) λv=>.ret (some v) else .ret ci:=funext λl=>by
 rw[yu];congr 1;funext p;rw[hf];rfl
def ZU{fs2 fs3:Nat->T2->aG}{f:PV->W PV}(hc:X.calm=true)(S:aX X.env.scope X.N sc N' ix)(hi:mR X K fs tg iter wl fs1)(hg:∀cl C s2 H2 fp i,GF (eK X sc N' cl C s2 H2 fp) K (a6 ix (hd i)) tg is wt (fs2 i))(he:∀cl C s2 H2 fp i t,i<sizeLine->EF (eK X sc N' cl C s2 H2 fp) K (fs2 i t) Â (te t) (fs3 i t))(hf:∀p,f p=.bind (wt p) te)(hl:∀i,qI is (a6 ix (hd i)) (fs2 i))(fP:∀j∈is,ix[j]?=some ci)(h0:pO fs1 (hd 0))(hx:∀i,i<=sizeLine->pO (hd i) O3)(hv:∀i,i<sizeLine->Ev (hd i) (hd (i+1)))(XR:∀i j:Nat,(hd i)[j]?=(hd (i+1))[j]?\/∃i':Nat,ix[i']?=some (some j))(ã:∀i t,i<sizeLine->dA (fs2 i t) (a6 ix (hd (i+1))))(â:∀i t,i<sizeLine->dA (fs3 i t) (a6 ix (hd (i+1))))(hs:qJ X iter:=by intro _;rfl):LF X K fs (.ListComp Â [⟨tg,iter,[],0⟩] sc pos) (.bind wl λl=>bF l f) O3:=by
 rw[yt hf];exact Xx hc S hi hg (λ_ _ _ _ _ _ _=>zk) he (λp=>rfl) hl fP h0 hx hv XR ã â hs
def Xv{f:PV->W PV}(hc:X.calm=true)(S:aX X.env.scope X.N sc N' ix)(hi:mR X K fs tg iter wl fs1)(hg:∀cl C s2 H2 fp,GF (eK X sc N' cl C s2 H2 fp) K (a6 ix fs1) tg is wt fs2)(he:∀cl C s2 H2 fp t,EF (eK X sc N' cl C s2 H2 fp) K (fs2 t) Â (te t))(hf:∀p,f p=.bind (wt p) te)(hl:qI is (a6 ix fs1) fs2/\∀t,dA (fs2 t) (a6 ix fs1))(fP:∀j∈is,ix[j]?=some ci)(hs:qJ X iter:=by intro _;rfl):LF X K fs (.ListComp Â [⟨tg,iter,[],0⟩] sc pos) (.bind wl λl=>bF l f) fs1:=by
 rw[yt hf];exact ZV hc S hi hg (λ_ _ _ _ _ _=>zk) he (λp=>rfl) hl fP hs
def fAs(K:Ab)(fs:aG)(i:Nat)(w:W (O PV))(aD:aG:=fs):TS:=λD σ H=>aQ K H σ fs/\w.run λl=>∀a vs H',bR σ fs H H' aD->aQ K H' σ aD->H a=ci->H' a=some (.lst vs)->ax K [] H' vs l->D.nx (σ.set i (some (.ref a))) H'
structure AS(X:Cx)(K:Ab)(fs:aG)(st:wn)(i:Nat)(w:W (List PV))(aD:aG:=fs):Prop where p:PS X st (fAs K fs i w aD)
variable{rest:O wn}{T:Type}{out:T->End}{x:Bool}{k:O PV->W T}
def SF.as{st:wn}(h:AS X K fs st i wl fs1)(hr:∀l,SF X K x (fs1.set i (some (.ol ci l))) rest (k l) out):SF X K x fs (st::rest) (.bind wl k) out:=SF.step h.p λD σ H ⟨sr,q⟩=>⟨sr,wl.mono (λl q1 a ws H1 g1 s1 n e v1=>by
 have no:¬ck σ fs1 a:=λz=>sr.noOwn n (g1.ev.eV z);have s2:=s1.mU (t:=.ol ci l) ⟨by simp,ws,e,v1⟩ no i;exact⟨_,k l,hr l,s2,(k l).mono (λt q2=>q2.go (cn.mU s1 g1 no n i) sr s2) q1⟩) q⟩
def S3{fs2 fs3:Nat->T2->aG}(hc:X.calm=true)(hN:X.N.Nodup)(HU:X.N[i]?=some y)(uv:X.env.scope.names.lookup y=some .local)(S:aX X.env.scope X.N sc N' ix)(hi:mR X K fs tg iter wl fs1)(hg:∀cl C s2 H2 fp i,GF (eK X sc N' cl C s2 H2 fp) K (a6 ix (hd i)) tg is wt (fs2 i))(N3:∀cl C s2 H2 fp i t,FF (eK X sc N' cl C s2 H2 fp) K (fs2 i t) Æ (tf t))(he:∀cl C s2 H2 fp i t,i<sizeLine->EF (eK X sc N' cl C s2 H2 fp) K (fs2 i t) Â (te t) (fs3 i t))(hf:∀p,f p=.bind (wt p) λt=>.bind (tf t) λk=>if k=true then .bind (te t) λv=>.ret (some v) else .ret ci)(hl:∀i,qI is (a6 ix (hd i)) (fs2 i))(fP:∀j∈is,ix[j]?=some ci)(h0:pO fs1 (hd 0))(hx:∀i,i<=sizeLine->pO (hd i) O3)(hv:∀i,i<sizeLine->Ev (hd i) (hd (i+1)))(XR:∀i j:Nat,(hd i)[j]?=(hd (i+1))[j]?\/∃i':Nat,ix[i']?=some (some j))(ã:∀i t,i<sizeLine->dA (fs2 i t) (a6 ix (hd (i+1))))(â:∀i t,i<sizeLine->dA (fs3 i t) (a6 ix (hd (i+1))))(mn:‹o0 (.ListComp Â [⟨tg,iter,Æ,0⟩] sc pos) (some (.Name y px)) n6.line X.env=pure true›)(hs:qJ X iter:=by intro _;rfl):AS X K fs (.Assign [.Name y px] (.ListComp Â [⟨tg,iter,Æ,0⟩] sc pos) n6) i (.bind wl λl=>ml l f) O3:=
 ⟨PS.imp (Qv hc hN HU uv S hi.p (λcl C s2 H2 fp U s σ H v u Q I r ⟨i,q⟩=>(hg cl C s2 H2 fp i).p U s σ H v u Q I r q) (λcl C s2 H2 fp U s σ H Q I ⟨i,t,q⟩=>(N3 cl C s2 H2 fp i t).p U s σ H Q I q) (λcl C s2 H2 fp U s σ H Q I ⟨i,t,h,q⟩=>(he cl C s2 H2 fp i t h).p U s σ H Q I q) mn hs) λD σ H ⟨sr,q⟩=>X2 (K:=K) S h0 hx hv XR hf hl ã â fP σ H _ ⟨sr,q⟩⟩
def ae9(hc:X.calm=true)(hN:X.N.Nodup)(HU:X.N[i]?=some y)(hx:X.env.scope.names.lookup y=some .local)(S:aX X.env.scope X.N sc N' ix)(hi:mR X K fs tg iter wl fs1)(hg:∀cl C s2 H2 fp,GF (eK X sc N' cl C s2 H2 fp) K (a6 ix fs1) tg is wt fs2)(N3:∀cl C s2 H2 fp t,FF (eK X sc N' cl C s2 H2 fp) K (fs2 t) Æ (tf t))(he:∀cl C s2 H2 fp t,EF (eK X sc N' cl C s2 H2 fp) K (fs2 t) Â (te t))(hf:∀p,f p=.bind (wt p) λt=>.bind (tf t) λk=>if k=true then .bind (te t) λv=>.ret (some v) else .ret ci)(hl:qI is (a6 ix fs1) fs2/\∀t,dA (fs2 t) (a6 ix fs1))(fP:∀j∈is,ix[j]?=some ci)(mn:‹o0 (.ListComp Â [⟨tg,iter,Æ,0⟩] sc pos) (some (.Name y px)) n6.line X.env=pure true›)(hs:qJ X iter:=by intro _;rfl):AS X K fs (.Assign [.Name y px] (.ListComp Â [⟨tg,iter,Æ,0⟩] sc pos) n6) i (.bind wl λl=>ml l f) fs1:=
 S3 (hd:=λ_=>fs1) (fs2:=λ_=>fs2) (fs3:=λ_=>fs2) hc hN HU hx S hi (λcl C s2 H2 fp _=>hg cl C s2 H2 fp) (λcl C s2 H2 fp _=>N3 cl C s2 H2 fp) (λcl C s2 H2 fp _ t _=>he cl C s2 H2 fp t) hf (λ_=>hl.1) fP (.refl _) (λ_ _=>.refl _) (λ_ _=>.refl _) (λ_ _=>.inl rfl) (λ_ t _=>hl.2 t) (λ_ t _=>hl.2 t) mn hs
def SF.acL(hc:X.calm=true)(hN:X.N.Nodup)(HU:X.N[i]?=some y)(hx:X.env.scope.names.lookup y=some .local)(S:aX X.env.scope X.N sc N' ix)(hi:mR X K fs tg iter wl fs1)(hg:∀cl C s2 H2 fp,GF (eK X sc N' cl C s2 H2 fp) K (a6 ix fs1) tg is wt fs2)(N3:∀cl C s2 H2 fp t,FF (eK X sc N' cl C s2 H2 fp) K (fs2 t) Æ (tf t))(he:∀cl C s2 H2 fp t,EF (eK X sc N' cl C s2 H2 fp) K (fs2 t) Â (te t))(hf:∀p,f p=.bind (wt p) λt=>.bind (tf t) λk=>if k=true then .bind (te t) λv=>.ret (some v) else .ret ci)(hl:qI is (a6 ix fs1) fs2/\∀t,dA (fs2 t) (a6 ix fs1))(fP:∀j∈is,ix[j]?=some ci)(hr:∀l,SF X K x (fs1.set i (some (.ol ci l))) rest (k l) out)(mn:‹o0 (.ListComp Â [⟨tg,iter,Æ,0⟩] sc pos) (some (.Name y px)) n6.line X.env=pure true›)(hs:qJ X iter:=by intro _;rfl):SF X K x fs (.Assign [.Name y px] (.ListComp Â [⟨tg,iter,Æ,0⟩] sc pos) n6::rest) (.bind (.bind wl λl=>ml l f) k) out:=SF.as (ae9 hc hN HU hx S hi hg N3 he hf hl fP mn hs) hr
end
section
theorem yF:∀{l:aG}{i:Nat} (s:Option SL),l[i]?=some ci->dA (l.set i s) l
 |[],_,_,h=>by simp at h
 |x::l,0,s,h=>by
  simp at h;subst h;exact .drop (dA.refl l)
 |x::l,i+1,s,h=>by
  exact .keep (yF s (by simpa using h))
def dA.trans{a b c:aG}(h1:dA a b)(h2:dA b c):dA a c:=by
 induction h1 generalizing c with
 |nil=>exact h2
 |drop h ih=>cases h2 with|drop h2=>exact .drop (ih h2)|keep h2=>exact .drop (ih h2)
 |keep h ih=>cases h2 with|drop h2=>exact .drop (ih h2)|keep h2=>exact .keep (ih h2)|bump h2 k=>exact .bump (ih h2) k
 |bump h k ih=>cases h2 with|drop h2=>exact .drop (ih h2)|keep h2=>exact .bump (ih h2) k|bump h2 k2=>exact .bump (ih h2) ⟨A0 k.1 k2.1,k2.2⟩
def uj{l:aG}(hl:l.length=rg.length/\∀(j:Nat) (s:SL),l[j]?=some (some s)->(j∈is/\s.own=false)\/(j∉is/\rg[j]?=some (some s)))(hi:rg[i]?=some ci):(l.set i (some (.val v))).length=rg.length/\∀(j:Nat) (s:SL),(l.set i (some (.val v)))[j]?=some (some s)->(j∈is++[i]/\s.own=false)\/(j∉is++[i]/\rg[j]?=some (some s)):=by
 refine⟨by rw[Bw];exact hl.1,λj s e=>?_⟩;rcases a8 e with⟨rfl,rfl⟩|⟨n,e⟩
 .exact .inl ⟨by simp,rfl⟩
 .rcases hl.2 j s e with⟨h1,h2⟩|⟨h1,h2⟩
  .exact .inl ⟨by simp[h1],h2⟩
  .exact .inr ⟨by simp[h1,n],h2⟩
def Xr(rg:aG):rg.length=rg.length/\∀(j:Nat) (s:SL),rg[j]?=some (some s)->(j∈([]:O Nat)/\s.own=false)\/(j∉([]:O Nat)/\rg[j]?=some (some s)):=⟨rfl,λj s e=>.inr ⟨by simp,e⟩⟩
def J0(hi:rg[i]?=some ci):qI [i] rg (λp=>rg.set i (some (.val p)))/\∀t,dA (rg.set i (some (.val t))) rg:=⟨λt=>uj (Xr rg) hi,λt=>yF _ hi⟩
def PZ{l:aG}{s:Option SL}(h:l[j]?=some ci)(n:j≠i):(l.set i s)[j]?=some ci:=by rw[aq n];exact h
def adE(hi:rg[i]?=some ci)(hj:rg[j]?=some ci)(n:j≠i):qI [i,j] rg (λt:PV×PV=>(rg.set i (some (.val t.1))).set j (some (.val t.2)))/\∀t:PV×PV,dA ((rg.set i (some (.val t.1))).set j (some (.val t.2))) rg:=
 ⟨λt=>uj (uj (Xr rg) hi) hj,λt=>(yF _ (PZ hj n)).trans (yF _ hi)⟩
end
section
variable{rest:O wn}{T:Type}{out:T->End}{x:Bool}{l:O PV}
def dR(sr:aQ K H σ fs)(hs:fs[i]?=some (some (.ol q0 l))):∃a ws,σ[i]?=some (some (.ref a))/\H a=some (.lst ws)/\ax K [] H ws l:=by
 obtain⟨u,e1,r⟩:=sr.at' i _ hs;rcases r with⟨v,e,_⟩|⟨a,e,z,ws,q1,q2⟩
 .cases e
 .subst e;exact⟨a,ws,e1,q1,q2⟩
def ou{rE:O V}{l':O PV}(sr:aQ K H σ fs)(hs:fs[i]?=some (some (.ol q0 l)))(e1:σ[i]?=some (some (.ref a)))(sx:jq a H H')(h':H' a=some (.lst rE))(r:ax K [] H rE l'):aQ K H' σ (fs.set i (some (.ol q0 l')))/\cn σ fs H σ (fs.set i (some (.ol q0 l'))) H':=
 gJ sr hs rfl (by simp) e1 sx λtk=>⟨(sr.ownAt hs rfl e1).1,rE,h',ax.tk tk r⟩
def jo(l:O PV)(v:PV):W (O PV):=.dm (l.length<sizeLine) (.ret (l++[v]))
theorem SF.append(i:Nat){k:O PV->W T}(hs:fs[i]?=some (some (.ol q0 l)))(hK:X.K=K)(hN:X.N[i]?=some y)(hv:v9 X.env.scope y)(he:EF X K fs e we fs1)(hr:∀l',SF X K x (fs1.set i (some (.ol q0 l'))) rest (k l') out)(hd: ~~~(gZ y))(gU: ~~~(xF y))(cH:‹pr (.Name y p) "append" X.env (pc (.Name y p) X.env)=pc (.Name y p) X.env›)(jH:‹WK X a9 [e]›)(cG:‹MR À a9›)(o5:‹gb X e []›)(cg:‹km X a9 []›)(mn:‹o0 (.Call (.Attribute (.Name y p) "append" À) [e] [] a9) ci pos.line X.env=pure false›):SF X K x fs (.Expr (.Call (.Attribute (.Name y p) "append" À) [e] [] a9) pos::rest) (.bind we λv=>.bind (jo l v) k) out:=
 SF.step (hU (jy K hK Bm Dn Dm m7 (cX hN hv hd gU) (aJ he.p bj o5) cH jH cG o5 cg) mn) λD σ H ⟨sr,q⟩=>by
  obtain⟨a,ws,e1,h1,r1⟩:=dR sr hs;refine⟨_,e1,.inl ⟨rfl,_,bM.of h1⟩,sr,we.mono (λv q1 u H1 g1 s1 v1=>?_) q⟩;obtain⟨a',rE,k7,ff,vf⟩:=dR s1 (g1.ev.same hs (by simp));rw[e1]at k7;cases k7;refine⟨a,rE,u,rfl,rfl,ff,by rw[vf.length];exact q1.1,λH2 sx h2=>?_⟩;obtain⟨s2,g2⟩:=ou s1 (g1.ev.same hs (by simp)) e1 sx h2 (vf.append (.one v1));exact⟨_,k _,hr _,s2,(k _).mono (λt q2=>q2.go (g1.f.trans g2) sr s2) q1.2⟩
def aaR(l m:O PV):W (O PV):=.dm (l.length+m.length<=sizeLine) (.ret (l++m))
theorem SF.extend(i:Nat){k:O PV->W T}(hs:fs[i]?=some (some (.ol q0 l)))(hK:X.K=K)(hN:X.N[i]?=some y)(hv:v9 X.env.scope y)(he:QF X K fs e wl fs1)(hr:∀l',SF X K x (fs1.set i (some (.ol q0 l'))) rest (k l') out)(hd: ~~~(gZ y))(gU: ~~~(xF y))(cH:‹pr (.Name y p) "extend" X.env (pc (.Name y p) X.env)=pc (.Name y p) X.env›)(jH:‹WK X a9 [e]›)(cG:‹MR À a9›)(o5:‹gb X e []›)(cg:‹km X a9 []›)(mn:‹o0 (.Call (.Attribute (.Name y p) "extend" À) [e] [] a9) ci pos.line X.env=pure false›):SF X K x fs (.Expr (.Call (.Attribute (.Name y p) "extend" À) [e] [] a9) pos::rest) (.bind wl λm=>.bind (aaR l m) k) out:=
 SF.step (hU (jy K hK Bm PySem.F.slot_list_extend PySem.F.type_list_extend (Vg K hK) (cX hN hv hd gU) (aJ he.p bj o5) cH jH cG o5 cg) mn) λD σ H ⟨sr,q⟩=>by
  obtain⟨a,ws,e1,h1,r1⟩:=dR sr hs;refine⟨_,e1,.inl ⟨rfl,_,bM.of h1⟩,sr,wl.mono (λm q1 u H1 g1 s1 v1=>?_) q⟩;obtain⟨a',rE,k7,ff,vf⟩:=dR s1 (g1.ev.same hs (by simp));rw[e1]at k7;cases k7;obtain⟨b,zs,rfl,hb,rb⟩:=v1.sq s1;refine⟨a,b,rE,zs,rfl,rfl,ff,hb,by rw[vf.length,rb.length];exact q1.1,λH2 sx h2=>?_⟩;obtain⟨s2,g2⟩:=ou s1 (g1.ev.same hs (by simp)) e1 sx h2 (vf.append rb);exact⟨_,k _,hr _,s2,(k _).mono (λt q2=>q2.go (g1.f.trans g2) sr s2) q1.2⟩
def G8(l:O PV):W (O PV×PV):=match l.getLast? with
 |some v=>.ret (l.dropLast,v)
 |none=>.fail
def PQ{l:O PV}(h:l.getLast?=some v):l=l.dropLast++[v]:=by
 rw[List.getLast?_eq_some_iff]at h;obtain⟨ys,rfl⟩:=h;simp
theorem ax.snoc:∀{ws:O V}{l:O PV}{v:PV},ax K [] H ws (l++[v])->∃Yw u,ws=Yw++[u]/\ax K [] H Yw l/\VR K [] H u v
 |_,[],_,.cons r .nil=>⟨[],_,rfl,.nil,r⟩
 |_,x::l,v,.cons r t=>by
  obtain⟨Yw,u,rfl,h1,h2⟩:=ax.snoc t;exact⟨_::Yw,u,rfl,.cons r h1,h2⟩
def SF.JE(i j:Nat){k:O PV×PV->W T}(hs:fs[i]?=some (some (.ol q0 l)))(æ:j≠i)(hK:X.K=K)(hN:X.N[i]?=some y)(hv:v9 X.env.scope y)(ŝ:X.N.Nodup)(hj:X.N[j]?=some z)(hx:Loc X.env.scope z)(hr:∀t:O PV×PV,SF X K x ((fs.set i (some (.ol q0 t.1))).set j (some (.val t.2))) rest (k t) out)(hd: ~~~(gZ y))(gU: ~~~(xF y))(cH:‹pr (.Name y p) "pop" X.env (pc (.Name y p) X.env)=pc (.Name y p) X.env›)(cG:‹MR À a9›)(mn:‹o0 (.Call (.Attribute (.Name y p) "pop" À) [] [] a9) (some (.Name z p')) pos.line X.env=pure false›)(hf:MP X z:=by first | exact .inl rfl | exact .inr rfl | assumption):SF X K x fs (.Assign [.Name z p'] (.Call (.Attribute (.Name y p) "pop" À) [] [] a9) pos::rest) (.bind (G8 l) k) out:=
 SF.step (ir ŝ hj hx (UT K hK Bm DU DT Vd (cX hN hv hd gU) cH cG) mn hf) λD σ H ⟨sr,q⟩=>by
  obtain⟨a,ws,e1,h1,r1⟩:=dR sr hs;have q:(G8 l).run λt=>(k t).run λt=>cm K x σ fs H D (out t):=q;unfold G8 at q;cases hl:l.getLast? with
  |none=>rw[hl]at q;exact q.elim
  |some v=>
   rw[hl]at q;have el:=PQ hl;rw[el]at r1;obtain⟨Yw,u,rfl,r0,ru⟩:=ax.snoc r1;refine⟨_,e1,.inl ⟨rfl,_,bM.of h1⟩,a,Yw,u,rfl,rfl,h1,λH2 sx h2=>?_⟩;obtain⟨s2,g2⟩:=ou sr hs e1 sx h2 r0;have ru2:VR K [] H2 u v:=g2.vr sr ru;have s3:=s2.fy ru2 j;exact⟨_,k _,hr (l.dropLast,v),s3,(k _).mono (λt q2=>q2.go (g2.trans (cn.fy s2 _ _ j)) sr s3) q⟩
def n9(l:O PV)(i v:PV):W (O PV):=match i with
 |.int k=>match nQ l.length k with
  |some j=>.ret (l.set j v)
  |none=>.fail
 |_=>.fail
def SF.P1(i:Nat){k:O PV->W T}(hs:fs[i]?=some (some (.ol q0 l)))(hN:X.N[i]?=some y)(hv:v9 X.env.scope y)(he:EF X K fs e we fs1)(hi:EF X K fs1 ei wi fs2)(hr:∀l',SF X K x (fs2.set i (some (.ol q0 l'))) rest (k l') out)(ha:∀v,PP (.Subscript (.Name y p) ei xO) X.env v=(do
   let ov <- GT [v] (pc (.Name y p) X.env)
   let iv <- GT [v,ov] (pc ei X.env)
   standAt xO
   GT [v,ov,iv] (setItem ov iv v)
   release [v,ov,iv] []):=by intro _;rfl)(hd: ~~~(gZ y))(gU: ~~~(xF y))(hss:‹GE [.Subscript (.Name y p) ei xO] e pos.line X.env=pure false›)(hw:‹GM [.Subscript (.Name y p) ei xO] e X.env=pure ci›)(h1:‹(Gc [.Subscript (.Name y p) ei xO] X.env).map (·.2)=[PP (.Subscript (.Name y p) ei xO) X.env]›):SF X K x fs (.Assign [.Subscript (.Name y p) ei xO] e pos::rest) (.bind we λv=>.bind wi λn=>.bind (n9 l n v) k) out:=
 SF.step (yb he.p (JG (cX hN hv hd gU) hi.p pZ ha) hss hw h1) λD σ H ⟨sr,q⟩=>by
  refine⟨sr,we.mono (λv q1 u H1 g1 s1 v1=>?_) q⟩;obtain⟨a,ws,e1,h1,r1⟩:=dR s1 (g1.ev.same hs (by simp));refine⟨_,e1,s1,wi.mono (λn q2 u2 H2 g2 s2 v2=>?_) q1⟩;obtain⟨a',rE,k7,ff,vf⟩:=dR s2 ((g1.trans g2).ev.same hs (by simp));rw[e1]at k7;cases k7;cases v2 with
  |int kk=>
   have q2:(match nQ l.length kk with|some j=>ce (l.set j v)|none=>W.fail).run _:=q2;cases hj:nQ l.length kk with
   |none=>rw[hj]at q2;exact q2.elim
   |some j=>
    rw[hj]at q2;refine⟨a,rE,kk,j,rfl,rfl,ff,by rw[vf.length];exact hj,λH3 sx h3=>?_⟩;obtain⟨s3,g3⟩:=ou s2 ((g1.trans g2).ev.same hs (by simp)) e1 sx h3 (vf.set (g2.vr s1 v1) j);exact⟨_,k _,hr _,s3,(k _).mono (λt q3=>q3.go ((g1.trans g2).f.trans g3) sr s3) q2⟩
  |_=>exact q2.elim
end
end
section
variable[bL]
variable{K:Ab}
def hG(n:Nat):O AK->O PV->aG
 |[],_=>[]
 |.v::ks,x::l=>some (.val x)::hG n ks l
 |.v::_,[]=>[]
 |.p ψ d::ks,l=>some (.cJ ψ n (n+d))::hG n ks l
 |.f a us ps fz::ks,l=>some (.adr a us ps fz)::hG n ks l
def u4(n:Nat)(ks:O AK)(l:O PV)(N:Nat):aG:=hG n ks l++Ap (N-ks.length) ci
def va(ks:O AK):Prop:=∀i j:Nat,(∃ψ d,ks[i]?=some (.p ψ d))->(∃ψ d,ks[j]?=some (.p ψ d))->i=j
theorem lG:∀{n:Nat}{m:IZ R n}{l:O PV}{Q:R->Prop},(vo n m l).run Q->l.length=n
 |0,_,[],_,_=>rfl
 |0,_,_::_,_,h=>h.elim
 |n+1,_,[],_,h=>h.elim
 |n+1,m,x::l,Q,h=>by rw[Ax,lG (n:=n) h]
section
variable{l:O PV}
theorem js.len(h:js K H n vs ks l):vs.length=ks.length:=by induction h<;>simp_all
def js.slot(h:js K H n vs ks l):(hG n ks l).length=vs.length/\∀(i:Nat) (s:SL),(hG n ks l)[i]?=some (some s)->∃u,vs[i]?=some u/\rD K H u s/\(s.own=true->∃ψ d,s=.cJ ψ n (n+d)/\ks[i]?=some (.p ψ d)):=by
 induction h with
 |nil=>exact⟨rfl,λi s e=>by simp[hG]at e⟩
 | @v u x vs ks l r t ih=>
  refine⟨by simp[hG,ih.1],λi s e=>?_⟩;cases i with
  |zero=>simp[hG]at e;subst e;exact⟨u,rfl,.inl ⟨x,rfl,r⟩,λz=>by cases z⟩
  |succ i=>simp[hG]at e;obtain⟨w,h1,h2,h3⟩:=ih.2 i s e;exact⟨w,by simpa using h1,h2,by simpa using h3⟩
 | @p a ψ d vs ks l e0 r t ih=>
  refine⟨by simp[hG,ih.1],λi s e=>?_⟩;cases i with
  |zero=>simp[hG]at e;subst e;exact⟨_,rfl,.inr ⟨a,rfl,e0,A5 _ _,r⟩,λ_=>⟨ψ,d,rfl,rfl⟩⟩
  |succ i=>simp[hG]at e;obtain⟨w,h1,h2,h3⟩:=ih.2 i s e;exact⟨w,by simpa using h1,h2,by simpa using h3⟩
 | @f a us vs ps fz ks l r z t ih=>
  refine⟨by simp[hG,ih.1],λi s e=>?_⟩;cases i with
  |zero=>simp[hG]at e;subst e;exact⟨_,rfl,.inr ⟨a,rfl,rfl,r,z⟩,λz=>by cases z⟩
  |succ i=>simp[hG]at e;obtain⟨w,h1,h2,h3⟩:=ih.2 i s e;exact⟨w,by simpa using h1,h2,by simpa using h3⟩
def js.Zj(h:js K H n vs ks l)(e:ks[i]?=some (.p ψ d)):(hG n ks l)[i]?=some (some (.cJ ψ n (n+d))):=by
 induction h generalizing i with
 |nil=>simp at e
 |v r t ih=>cases i with|zero=>simp at e|succ i=>simp[hG];exact ih (by simpa using e)
 |p e0 r t ih=>cases i with|zero=>simp at e;obtain⟨rfl,rfl⟩:=e;rfl|succ i=>simp[hG];exact ih (by simpa using e)
 |f r z t ih=>cases i with|zero=>simp at e|succ i=>simp[hG];exact ih (by simpa using e)
theorem pH{N:Nat}{s:SL}(h:(u4 n ks l N)[i]?=some (some s)):(hG n ks l)[i]?=some (some s):=by
 unfold u4 at h;by_cases c:i<(hG n ks l).length
 .rw[AX c]at h;exact h
 .rw[Bd ∅,CS]at h
  split at h<;>cases h
def wC{N:O Str}(h:vs[i]?=some u):(L2.start N vs)[i]?=some (some u):=by
 unfold L2.start;rw[AX (by rw[Ai];exact(Ag.mp h).1),Ah,h];rfl
def M6{N:O Str}(h:(L2.start N vs)[i]?=some (some u)):vs[i]?=some u:=by
 unfold L2.start at h;by_cases c:i<vs.length
 .rw[AX (by simpa using c),Ah]at h;cases z:vs[i]? with
  |none=>rw[z]at h;cases h
  |some q=>rw[z]at h;cases h;rfl
 .rw[Bd (by simpa using c),CS]at h
  split at h<;>cases h
def js.beg(h:js K H n vs ks l)(tb:TB H)(one:va ks)(N:O Str):aQ K H (L2.start N vs) (u4 n ks l N.length):=by
 obtain⟨hl,hs⟩:=h.slot;refine⟨?_,λi s e=>?_,λi j s t x y a e1 e2 o1 o2 q1 q2 z1 z2=>?_,tb⟩
 .unfold L2.start u4;rw[Ak,Ak,Ai,hl,B9,B9,h.len]
 .obtain⟨u,h1,h2,_⟩:=hs i s (pH e);exact⟨u,wC h1,h2⟩
 .obtain⟨_,_,_,h3⟩:=hs i s (pH e1);obtain⟨_,_,_,h4⟩:=hs j t (pH e2);obtain⟨φ,d,_,k1⟩:=h3 o1;obtain⟨ψ,d',_,k2⟩:=h4 o2;exact one i j ⟨φ,d,k1⟩ ⟨ψ,d',k2⟩
def js.go(h:js K H n vs ks l){N:O Str}(g:cn (L2.start N vs) (u4 n ks l N.length) H σ' aD H')(s':aQ K H' σ' aD):Yj n vs ks H H':=by
 obtain⟨hl,hs⟩:=h.slot;refine⟨λa o e q=>(g.keep a o e λz=>?_).1,s'.tb,g.there,λa ψ d p=>?_,g.x⟩
 .obtain⟨i,s,x,e1,e2,e3,e4⟩:=z;obtain⟨u,h1,h2,h3⟩:=hs i s (pH e1);obtain⟨ψ,d,rfl,k⟩:=h3 e2;rcases e4 with rfl|e4
  .exact q ψ d ⟨i,k,M6 e3⟩
  .cases e4
 .obtain⟨i,e1,e2⟩:=p;have e3:=h.Zj e1;have e4:(u4 n ks l N.length)[i]?=some (some (.cJ ψ n (n+d))):=by unfold u4;rw[AX ((Ag.mp e3).1)];exact e3
  rcases g.pk a ψ (n+d) ⟨i,n,e4,wC e2⟩ with p|⟨_,k⟩
  .exact s'.free p
  .exact k
end
section
variable{st:wn}{f:f8}{N:O Str}
def fnV{m:IZ PV n}(Fn:WM K x qual st f fd)(S:fu N ps (aK st))(VS:ks.length=ps.length)(one:va ks)(Ì:∀(j:Nat) (l:O PV),l.length=n->∀(fi:cr) (A:FB) (outer:O Env) (s:db) (H:Hp) (E:XK),dG k (A.deeper (KF qual (aK st) s.heap.objs.size f fi))->SF (vY I0 P w K mg base N qual (aK st) f fi A outer s H E).Xj K false (u4 j ks l N.length) (cR st) (vo n m l) .rt):mz P w K mg base I0 (k+1) f fd ps (PJ K ks (vo n m)):=by
 refine Fn.ok S (λvs H Q E h=>?_) (λfi A outer s H vs Q E hr h=>?_)
 .obtain⟨_,_,l,h,_⟩:=h;rw[h.len];exact VS
 obtain⟨tb,j,l,h,q⟩:=h;refine⟨_,(Ì j l (lG q) fi A outer s H E hr).p,h.beg tb one N,(vo n m l).mono (λv q1 u σ' aD H' g s' r=>q1 u H' (h.go g s') r) q⟩
def fnL{m:IZ (O PV) n}(Fn:WM K x qual st f fd)(S:fu N ps (aK st))(VS:ks.length=ps.length)(one:va ks)(Ì:∀(j:Nat) (l:O PV),l.length=n->∀(fi:cr) (A:FB) (outer:O Env) (s:db) (H:Hp) (E:XK),dG k (A.deeper (KF qual (aK st) s.heap.objs.size f fi))->SF (vY I0 P w K mg base N qual (aK st) f fi A outer s H E).Xj K false (u4 j ks l N.length) (cR st) (vo n m l) .rl):mz P w K mg base I0 (k+1) f fd ps (GU K ks (vo n m)):=by
 refine Fn.ok S (λvs H Q E h=>?_) (λfi A outer s H vs Q E hr h=>?_)
 .obtain⟨_,_,l,h,_⟩:=h;rw[h.len];exact VS
 obtain⟨tb,j,l,h,q⟩:=h;refine⟨_,(Ì j l (lG q) fi A outer s H E hr).p,(h.beg tb one N),(vo n m l).mono (λz q1 a ws σ' aD H' g s' fr e r=>q1 a ws H' (h.go g s') ?_ e r) q⟩;rcases fr with fr|⟨i,t,x,e1,e2,np,e3,e4⟩
 .exact fr
 .obtain⟨_,_,_,h3⟩:=h.slot.2 i t (pH e1);obtain⟨ψ,d,e,_⟩:=h3 e2;exact absurd e (np _ _ _)
end
def L4:va []:=λi j ⟨_,_,h⟩=>by simp at h
def Xh{k:AK}(h:va ks)(hk:∀ψ d,k≠.p ψ d):va (k::ks):=λi j ⟨φ,d,a⟩ ⟨ψ,d',b⟩=>by
 cases i with
 |zero=>simp at a;exact absurd a (hk _ _)
 |succ i=>
  cases j with
  |zero=>simp at b;exact absurd b (hk _ _)
  |succ j=>rw[h i j ⟨φ,d,by simpa using a⟩ ⟨ψ,d',by simpa using b⟩]
def Xg(h:va ks):va (.v::ks):=Xh h (by simp)
def adt{fa:f8}{us:O V}{qs:O PV}(h:va ks):va (.f fa us qs fz::ks):=Xh h (by simp)
end
end FL
namespace L2
def adb(K:Ab):R2:=λx y H Q=>∃a b xs zs,x=.ref a/\y=.ref b/\bM K H a xs/\bM K H b zs/\xs.length+zs.length<=sizeLine/\iW H (.lst (xs++zs)) Q
theorem U1(K:Ab)(hK:X.K=K):iK X (wf .Add) (adb K):=by
 subst hK;intro U s σ H x y v u Q I rx ry h;obtain⟨l,b,xs,zs,rfl,rfl,hH,hB,hz,q⟩:=h;cases rx;cases ry;obtain⟨ao,r,⟨⟨cls,dd,data,sl⟩,n,ho,hc,hd,nr⟩,_⟩:=I.list hH;obtain⟨cq,r2,⟨⟨Ť,Wn,data2,Ti⟩,n2,N0,XT,Ò,aeh⟩,_⟩:=I.list hB;subst hc hd nr XT Ò aeh;have e:ao.toArray++cq.toArray=(ao++cq).toArray:=by simp
 have hl:=r.length;have Tv:=r2.length;refine concat_meets ⟨_,ho,rfl⟩ ⟨_,N0,rfl⟩ noFill_list_add seq_list_add PySem.F.slot_list_add PySem.F.entry_list_add (PySem.F.args_list_add_2 _ _) (list_addW l b ao.toArray cq.toArray n n2 ci ci sl Ti (by simp;lia)) ⟨ho,N0,?_⟩;rw[e];exact⟨.ref _,_,I.ZO (r.append r2) (by rw[Ak];lia),rfl,q.at _ I.fresh⟩
end L2
variable{o:BF}{hi:FL.W (Option Int)}{neg:Bool}
namespace FL
section
variable[bL]
variable{K:Ab}
section
variable{a c:nw}{p2:Pos}{w:W PV}{wm:W (O PV)}
def kj(l m:O PV):W (O PV):=.dm (l.length+m.length<=sizeLine) (.ret (l++m))
def fQL(K:Ab)(fs:aG)(w:W (O PV))(aD:aG:=fs):TE:=λσ H Q=>aQ K H σ fs/\w.run λl=>∀u H',bR σ fs H H' aD->aQ K H' σ aD->WI K σ aD H' u l->(∀f2 ĵ,bR σ aD H' ĵ f2->aQ K ĵ σ f2->∃a vs,u=.ref a/\bM K ĵ a vs/\ax K [] ĵ vs l)->Q u H'
structure IV(X:Cx)(K:Ab)(fs:aG)(e:nw)(w:W (List PV))(aD:aG:=fs):Prop where p:PE X e (fQL K fs w aD)
def cf(h:LF X K fs e wl fs1):IV X K fs e wl fs1:=⟨PE.imp h.p λσ H Q ⟨sr,q⟩=>⟨sr,wl.mono (λl q1 a vs H1 g1 s1 n e v=>q1 _ H1 g1 s1 (.inr ⟨a,rfl,.inl ⟨λz=>sr.noOwn n (g1.ev.eV z),vs,e,v⟩⟩) λ_ H2 g2 s2=>⟨a,vs,rfl,bM.of (g2.qW e λz=>sr.noOwn n (g1.ev.eV z)),g2.MV s1 v⟩) q⟩⟩
def ya(i:Nat){l:O PV}(hs:‹fs[i]?=some (some (.ol q0 l))›)(hN:‹X.N[i]?=some x›)(hv:v9 X.env.scope x:=by first|exact B1 rfl|exact Cd (B1 rfl)|exact Cd (Cd rfl))(hd: ~~~(gZ x))(gU: ~~~(xF x)):IV X K fs (.Name x pos) (.ret l):=
 ⟨PE.imp (cX hN hv hd gU) λσ H Q ⟨sr,q⟩=>by
  obtain⟨a,ws,e1,h1,r1⟩:=dR sr hs;refine⟨_,e1,q _ H .refl sr (.inr ⟨a,rfl,.inr ⟨i,q0,hs,e1⟩⟩) λ_ H2 g2 s2=>?_⟩;obtain⟨a',rE,k7,ff,vf⟩:=dR s2 (g2.ev.same hs (by simp));rw[e1]at k7;cases k7;exact⟨a,rE,rfl,bM.of ff,vf⟩⟩
def m9:PV->W (O PV)
 |.cl l=>.ret l
 |_=>.fail
def fR(h:EF X K fs e w fs1):IV X K fs e (.bind w m9) fs1:=⟨PE.imp h.p λσ H Q ⟨sr,q⟩=>⟨sr,w.mono (λx q1 u1 H1 g1 s1 v1=>by
 cases v1 with
 |cl e r=>exact q1 _ H1 g1 s1 (.inl ⟨_,_,rfl,.inl e,r⟩) λ_ H2 g2 s2=>⟨_,_,rfl,((g2.cB s1).f _ _ e).sq,g2.MV s1 r⟩
 |_=>exact q1.elim) q⟩⟩
def j9(hK:X.K=K)(ha:IV X K fs a wl fs1)(hb:IV X K fs1 b wm fs2):LF X K fs (.BinOp a .Add b pos) (.bind wl λl=>.bind wm λm=>kj l m) fs2:=⟨PE.imp (dh (U1 K hK) ha.p hb.p) λσ H Q ⟨sr,q⟩=>⟨sr,wl.mono (λl q1 u1 H1 g1 s1 _ v1=>⟨s1,wm.mono (λm q2 u2 H2 g2 s2 _ v2=>by
 obtain⟨a,vs,rfl,h1,r1⟩:=v1 _ H2 g2 s2;obtain⟨b,ws,rfl,h2,r2⟩:=v2 _ H2 .refl s2;refine⟨a,b,vs,ws,rfl,rfl,h1,h2,by rw[r1.length,r2.length];exact q2.1,λp H3 s3 h3 n3=>?_⟩;have gg:=g1.trans g2;exact q2.2 p _ H3 (gg.trans (bR.same s3)) (s2.same s3) (gg.there p n3) h3 (ax.tk s3.d7 (r1.append r2))) q1⟩) q⟩⟩
def wN{Q:VK}{l:O PV}(g1:bR σ fs H H1 fs1)(s1:aQ K H1 σ fs1)(r:ax K [] H1 vs l)(q:∀a vs H',bR σ fs H H' fs1->aQ K H' σ fs1->H a=ci->H' a=some (.lst vs)->ax K [] H' vs l->Q (.ref a) H'):iW H1 (.lst vs) Q:=λp H2 s2 h2 n2=>q p vs H2 (g1.trans (bR.same s2)) (s1.same s2) (g1.there p n2) h2 (ax.tk s2.d7 r)
def Ri(K:Ab):CL K (Qj K) .ret:=λ{fs σ H Q u l} s v q=>by
 obtain⟨a,vs,rfl,h,rs⟩:=v.sq s;exact⟨a,vs,rfl,h,wN .refl s rs q⟩
def J1(hK:X.K=K)(hg:Gl X "list")(hm:X.mg "list"=ci)(ha:QF X K fs e wl fs1)(he:‹gb X e []›)(du:‹km X pos []›):LF X K fs (.Call (.Name "list" p) [e] [] pos) wl fs1:=Rn (K4 K hK) (Ri K) hg hm boot_list ha ⋯ ⋯ he du
def dN(hK:X.K=K)(hg:Gl X "tuple")(hm:X.mg "tuple"=ci)(ha:QF X K fs e wl fs1)(he:‹gb X e []›)(du:‹km X pos []›):EF X K fs (.Call (.Name "tuple" p) [e] [] pos) (.bind wl kD) fs1:=Oj (OC K hK) (T4 K) hg hm boot_tuple ha ⋯ ⋯ he du
def nA(hK:X.K=K)(hg:Gl X "len")(hm:X.mg "len"=ci)(ha:QF X K fs e wl fs1)(he:‹gb X e []›)(du:‹km X pos []›):EF X K fs (.Call (.Name "len" p) [e] [] pos) (.bind wl ug) fs1:=SA (xw K hK) (Vn K) hg hm boot_len ha ⋯ ⋯ he du
def Yg(ha:EF X K fs e w fs1)(he:gt [e] X.env=(false,pc e X.env)::gt [] X.env):AF X K fs [e] (Ap 1 .v) (R:=R) (λk=>.bind w λx=>k [x]) fs1:=ag ha ai he
def c9(hK:X.K=K)(hg:Gl X "len")(hm:X.mg "len"=ci)(ha:EF X K fs e w fs1)(he:‹gb X e []›)(du:‹km X pos []›):EF X K fs (.Call (.Name "len" p) [e] [] pos) (.bind w λx=>Hh df [x]) fs1:=We (xw K hK) (Wy K) hg hm boot_len (Yg ha he) ⋯ ⋯ he du
def zr(hg:Gl X "int")(hm:X.mg "int"=ci)(ha:EF X K fs e w fs1)(he:‹gb X e []›)(du:‹km X pos []›):EF X K fs (.Call (.Name "int" p) [e] [] pos) (.bind w λx=>Hh ID [x]) fs1:=Sz OH Wz hg hm boot_int (Yg ha he) ⋯ ⋯ he du
def adG(hK:X.K=K)(hc:X.calm=true)(Ŗ:Gl X "list")(ŏ:X.mg "list"=ci)(ŕ:Gl X "reversed")(ø:X.mg "reversed"=ci)(he:IV X K fs e wl fs1)(mq:‹gt [.Call (.Name "reversed" p3) [e] [] p4] X.env=(false,pc (.Call (.Name "reversed" p3) [e] [] p4) X.env)::gt [] X.env›)(q8:‹gb X e []›):LF X K fs (.Call (.Name "list" p1) [.Call (.Name "reversed" p3) [e] [] p4] [] p2) (.bind wl λl=>.ret l.reverse) fs1:=⟨PE.imp (JH K hK hc Ŗ ŏ ŕ ø he.p mq q8) λσ H Q ⟨sr,q⟩=>⟨sr,wl.mono (λl q1 u1 H1 g1 s1 _ v1=>by
 obtain⟨a,vs,rfl,h1,r1⟩:=v1 _ H1 .refl s1;exact⟨a,vs,rfl,h1,wN g1 s1 r1.reverse q1⟩) q⟩⟩
def gT(k:Kd)(x:PV):W PV:=match x with
 |.ref _=>.fail
 |.ty _=>.fail
 |.ob _ _=>.fail
 |.hand=>.fail
 |x=>.ret (.bl (k.is x))
def Xb(K:Ab):O V->Hp->VK->Prop:=λxs H Q=>∃x c t b,xs=[x,.ty c]/\(my K H x t\/(t=.type "tuple"/\∃a vs,x=.ref a/\d6 K H a vs)\/(t=.type "list"/\∃a vs,x=.ref a/\bM K H a vs)\/(t=.type "dict"/\∃a,x=.ref a/\IsD H a))/\BG K t (.type c)=some b/\Q (.bl b) H
def OE(hK:X.K=K):cz X (.builtin "isinstance") (Xb K):=by
 subst hK;intro U s σ H xs us Q I r h;obtain⟨x,c,t,b,rfl,ty|ty|⟨rfl,a,vs,rfl,hL⟩|⟨rfl,a,rfl,hD⟩,e,q⟩:=h
 .exact rB U s σ H _ us Q I r ⟨x,c,t,b,rfl,ty,e,q⟩
 .exact OD X.K rfl U s σ H _ us Q I r ⟨x,c,t,b,rfl,.inr ty,e,q⟩
 .obtain⟨u,w,rfl,r1,r2⟩:=vals2 r;cases r1;cases r2;obtain⟨ao,_,⟨o,n,h1,h2,_⟩,_⟩:=I.list hL;exact Bo EO I.w4 ⟨o,h1,h2⟩ e (λz=>nomatch z) λtk=>⟨.bl b,H,I.tok _,rfl,q⟩
 .obtain⟨u,w,rfl,r1,r2⟩:=vals2 r;cases r1;cases r2;have:∃o,s.heap.get? a=some o/\o.cls=.type "dict":=by
   rcases hD with⟨kvs,e⟩|⟨kvs,e⟩
   .obtain⟨_,_,vs,_,o,_,_,h1,h2,_⟩:=mM I.ba e;exact⟨o,h1,h2.1⟩
   .obtain⟨_,_,xs,_,o,_,_,h1,h2,_⟩:=mL I.ba e;exact⟨o,h1,h2.1⟩
  obtain⟨o,h1,h2⟩:=this;exact Bo ER I.w4 ⟨o,h1,h2⟩ e (λz=>nomatch z) λtk=>⟨.bl b,H,I.tok _,rfl,q⟩
def je(hK:X.K=K)(k:Kd)(hg:Gl X "isinstance")(hm:X.mg "isinstance"=ci)(ha:EF X K fs a wa fs1)(hgx:Gl X x)(hmx:X.mg x=ci)(hv:sw x=some (.type k.name))(hn: ~~~(x≠"__name__"))(hd: ~~~(gZ x))(he:‹gt [a,.Name x p2] X.env=(false,pc a X.env)::gt [.Name x p2] X.env›)(ç:‹gt [Expr.Name x p2] X.env=(false,pc (.Name x p2) X.env)::gt [] X.env›)(du:‹(t0 pos (gt [Expr.Name x p2] X.env)).any (·.1)=false›):EF X K fs (.Call (.Name "isinstance" p) [a,.Name x p2] [] pos) (.bind wa (gT k)) fs1:=
 ⟨PE.imp (fD (OE hK) hg hm boot_isinstance (aJ ha.p (aJ (UU (v:=.ty k.name) hgx hmx hv rfl hn hd) bj ç) he) ⋯ ⋯ he du) λσ H Q ⟨sr,q⟩=>⟨sr,wa.mono (λx q1 u1 H1 g1 s1 v1=>by
  have fin:∀{t:cr}{y:PV},my K H1 u1 t->BG K t (.type k.name)=some (k.is y)->Q (.bl (k.is y)) H1->Xb K [u1,.ty k.name] H1 Q:=λty e q=>⟨_,_,_,_,rfl,.inl ty,e,q⟩;cases v1 with
  |aB=>exact fin .aB (by rw[(sF K).1 k];cases k<;>rfl) (q1 _ H1 g1 s1 (.bl _))
  |bl b=>exact fin (.bl b) (Z1 K b k) (q1 _ H1 g1 s1 (.bl _))
  |int b=>exact fin (.int b) (Vy K b k) (q1 _ H1 g1 s1 (.bl _))
  |str b=>exact fin (.str b) (Vx K b k) (q1 _ H1 g1 s1 (.bl _))
  |ty n=>exact q1.elim
  |ref n=>exact q1.elim
  |ob _ _ _ _ _=>exact q1.elim
  |hand _=>exact q1.elim
  | @dk a o kvs ks l e k1 r=>exact⟨_,_,_,_,rfl,.inr (.inr (.inr ⟨rfl,_,rfl,.inl ⟨_,.inr ⟨_,e⟩⟩⟩)),(show _=some (k.is (.dv ks l)) by rw[(sF K).2.2 k];cases k<;>rfl),q1 _ H1 g1 s1 (.bl _)⟩
  | @dt a o kvs ks l e k1 r=>exact⟨_,_,_,_,rfl,.inr (.inr (.inr ⟨rfl,_,rfl,.inr ⟨_,.inr ⟨_,e⟩⟩⟩)),(show _=some (k.is (.dv ks l)) by rw[(sF K).2.2 k];cases k<;>rfl),q1 _ H1 g1 s1 (.bl _)⟩
  | @cl p vs l e r=>exact⟨_,_,_,_,rfl,.inr (.inr (.inl ⟨rfl,_,_,rfl,e.sq⟩)),(show _=some (k.is (.cl l)) by rw[(sF K).2.1 k];cases k<;>rfl),q1 _ H1 g1 s1 (.bl _)⟩
  | @tup p vs l e r=>exact⟨_,_,_,_,rfl,.inr (.inl ⟨rfl,_,_,rfl,d6.of e⟩),Vw K _ k,q1 _ H1 g1 s1 (.bl _)⟩) q⟩⟩
def Nd(l:O PV):PV->W (O PV)
 |.int k=>.dm (-(2 ^ 63)<=k/\k<2 ^ 63/\l.length*k.toNat<=sizeLine) (.ret (Ap k.toNat l).flatten)
 |_=>.fail
def Xt(ha:LF X K fs a wl fs1)(hb:EF X K fs1 b wb fs2):LF X K fs (.BinOp a .Mult b pos) (.bind wl λl=>.bind wb λy=>Nd l y) fs2:=⟨PE.imp (dh Zs ha.p hb.p) λσ H Q ⟨sr,q⟩=>⟨sr,wl.mono (λl q1 a vs H1 g1 s1 n e v=>⟨s1,wb.mono (λy q2 u2 H2 g2 s2 v2=>by
 cases v2 with
 |int k=>
  have r2:=g2.MV s1 v;refine⟨a,k,vs,rfl,rfl,((g2.qW e (λz=>sr.noOwn n (g1.ev.eV z)))),q2.1.1,q2.1.2.1,by rw[r2.length];exact q2.1.2.2,λp hp=>?_⟩;have sm:=iO hp (.lst (Ap k.toNat vs).flatten);have gg:=g1.trans g2;exact q2.2 p _ _ (gg.trans (bR.same sm)) (s2.same sm) (gg.there p hp) ay (ax.tk sm.d7 (r2.rep k.toNat))
 |_=>exact q2.elim) q1⟩) q⟩⟩
def part:PV->W (Option Int)
 |.int i=>.ret (some i)
 |_=>.fail
def tL:OF X K fs ci (.ret ci):=⟨PO.imp UM λσ H Q ⟨sr,q⟩=>q H .refl sr⟩
def yo(h:EF X K fs e w fs1):OF X K fs (some e) (.bind w part) fs1:=⟨PO.imp (UL h.p) λσ H Q ⟨sr,q⟩=>⟨sr,w.mono (λx q1 u1 H1 g1 s1 v1=>by
 cases v1 with
 |int i=>exact⟨_,rfl,q1 H1 g1 s1⟩
 |_=>exact q1.elim) q⟩⟩
variable{el eh:Option nw}{lo:W (Option Int)}
def ZR(hK:X.K=K)(he:IV X K fs e wl fs1)(hl:OF X K fs1 el lo fs2)(hh:OF X K fs2 eh hi fs3):LF X K fs (.Subscript e (.Slice el eh ci p2) pos) (.bind wl λl=>.bind lo λi=>.bind hi λj=>.ret (uS l i j)) fs3:=⟨PE.imp (QL (PR K hK) he.p hl.p hh.p) λσ H Q ⟨sr,q⟩=>⟨sr,wl.mono (λl q1 u1 H1 g1 s1 _ v1=>⟨s1,lo.mono (λi q2 H2 g2 s2=>⟨s2,hi.mono (λj q3 H3 g3 s3=>by
 obtain⟨a,vs,rfl,h1,r1⟩:=v1 _ H3 (g2.trans g3) s3;exact⟨a,vs,rfl,h1,wN ((g1.trans g2).trans g3) s3 (r1.cut i j) q3⟩) q2⟩) q1⟩) q⟩⟩
def rj(h:IV X K fs e wl fs1):∀σ H Q,fE K fs (.bind wl λl=>.ret (.bl (if neg then !l.isEmpty else l.isEmpty))) fs1 σ H Q->WU (λx y H Q=>∃p q xs,x=.ref p/\y=.ref q/\bM K H p xs/\bM K H q []/\Q (.bl (if neg then !xs.isEmpty else xs.isEmpty)) H) (fQL K fs wl fs1) (fL K fs1 (.ret [])) σ H Q:=λσ H Q ⟨sr,q⟩=>
 ⟨sr,wl.mono (λl q1 u1 H1 g1 s1 _ v1=>⟨s1,λa2 vs2 H2 g2 s2 n2 e2 r2=>by
  cases r2;obtain⟨a,vs,rfl,h1,r1⟩:=v1 _ H2 g2 s2;refine⟨a,a2,vs,rfl,rfl,h1,bM.of e2,?_⟩;rw[Sm r1];exact q1 _ H2 (g1.trans g2) s2 (.bl _)⟩) q⟩
def Xu:LF X K fs (.List [] pos) (.ret []):=Xw (n:=0) ai
theorem akw(hK:X.K=K)(hu:X.A.units+200<sn)(h:IV X K fs e wl fs1)(hk:‹sB .Eq (.List [] p2)=false›):EF X K fs (.Compare e [.Eq] [.List [] p2] pos) (.bind wl λl=>.ret (.bl l.isEmpty)) fs1:=⟨PE.imp (LZ (JI K hK ∅) h.p Xu.p hk) (rj (neg:=false) h)⟩
theorem acs(hK:X.K=K)(hu:X.A.units+200<sn)(h:IV X K fs e wl fs1)(hk:‹sB .NotEq (.List [] p2)=false›):TF X K fs (.Compare e [.NotEq] [.List [] p2] pos) (.bind wl λl=>.ret (!l.isEmpty)) fs1:=⟨PT.imp (gp (mX K hK ∅) h.p Xu.p hk) λσ H Q q=>rj (neg:=true) h σ H _ (aeI σ H Q q)⟩
def qY:O PV->W (O Int)
 |[]=>.ret []
 |.int i::r=>.bind (qY r) λl=>.ret (i::l)
 |_=>.fail
theorem lT:∀{l:O PV}{Q:O Int->Prop},(qY l).run Q->∃ns:O Int,l=ns.map PV.int/\Q ns
 |[],Q,h=>⟨[],rfl,h⟩
 |.int b::r,Q,h=>by
  obtain⟨bs,e,q⟩:=lT (l:=r) h;exact⟨b::bs,by rw[e];rfl,q⟩
 |.aB::r,Q,h=>h.elim
 |.bl _::r,Q,h=>h.elim
 |.str _::r,Q,h=>h.elim
 |.tup _::r,Q,h=>h.elim
 |.ref _::r,Q,h=>h.elim
 |.ty _::r,Q,h=>h.elim
 |.cl _::r,Q,h=>h.elim
@[simp] theorem i5:∀bs:O Int,qY (bs.map PV.int)=.ret bs
 |[]=>rfl
 |b::bs=>by
  show am (qY (bs.map PV.int)) _=_;rw[i5 bs];rfl
end
end
end FL
variable{f1:FL.aG}{Tj:Cn}{kt k2:Nat}
namespace FL
section
variable[bL]
variable{K:Ab}
abbrev b2(m:M2)(wa wb:W PV):W PV:=.bind wa λx=>.bind wb λy=>of2 m x y
abbrev t2(m:M2)(wa wb:W PV):W Bool:=.bind wa λx=>.bind wb λy=>.bind (of2 m x y) asB
abbrev c1(m:MN)(w:W PV):W PV:=.bind w λx=>Hh m [x]
abbrev cL(wl:W (O PV))(wb:W PV):W PV:=.bind wl λl=>.bind wb λy=>ixW l y
abbrev YF(a b:W Bool):W Bool:=.bind a λk=>if k=true then b else .ret false
abbrev tor(a b:W Bool):W Bool:=.bind a λk=>if k=true then .ret true else b
abbrev M3(a:W Bool):W Bool:=.bind a λk=>.ret (!k)
abbrev fX{α:Type}(t:W Bool)(a b:W α):W α:=.bind t λk=>if k=true then a else b
section
variable{a c:nw}{rest:O wn}{f2:aG}{S T T2:Type}{hd:S->aG}{s0:S}{w:W PV}{wt:PV->W T2}{fs2:S->T2->aG}{k:S->W T}{out:T->End}{x:Bool}
def SF.kY{f:PV->S->W S}(hp:wP (im X.prog X.w) X.A X.env X.xe)(hc:X.calm=true)(hi:mR X K fs tg iter wl f1)(hl:dA f1 (hd s0))(hg:PG X tg (di i))(hb:∀s p,SF X K false ((hd s).set i (some (.val p))) body (f p s) λs'=>.nc (hd s'))(hr:∀s,SF X K x (hd s) rest (k s) out)(hs:qJ X iter:=by intro _;rfl):SF X K x fs (.For tg iter body [] pos::rest) (.bind wl λl=>.bind (bP l s0 f) k) out:=SF.for hp hc hi hl (λs=>VW hg) (λ_ _=>rfl) hb hr hs
def SF.Ob{wb:T2->S->W S}(hp:wP (im X.prog X.w) X.A X.env X.xe)(hc:X.calm=true)(hi:mR X K fs tg iter wl f1)(hl:dA f1 (hd s0))(hg:∀s,GF X K (hd s) tg is wt (fs2 s))(hb:∀s t,SF X K false (fs2 s t) body (wb t s) λs'=>.nc (hd s'))(hr:∀s,SF X K x (hd s) rest (k s) out)(hs:qJ X iter:=by intro _;rfl):SF X K x fs (.For tg iter body [] pos::rest) (.bind wl λl=>.bind (bP l s0 λp s=>.bind (wt p) λt=>wb t s) k) out:=SF.for hp hc hi hl hg (λ_ _=>rfl) hb hr hs
def SF.aew{inj:R->T}{f:PV->S->W (Lp S R)}(hp:wP (im X.prog X.w) X.A X.env X.xe)(hc:X.calm=true)(hi:mR X K fs tg iter wl f1)(hl:dA f1 (hd s0))(hg:PG X tg (di i))(ho:∀t,(out (inj t)).HJ)(hb:∀s p,SF X K false ((hd s).set i (some (.val p))) body (f p s) (lpE hd λr=>out (inj r)))(hr:∀s,SF X K x (hd s) rest (k s) out)(hs:qJ X iter:=by intro _;rfl):SF X K x fs (.For tg iter body [] pos::rest) (.bind wl λl=>.bind (FL.kX l s0 f) (N6 k inj)) out:=SF.kX hp hc hi hl (λs=>VW hg) (λ_ _=>rfl) ho hb hr hs
def SF.P0{fs3:T2->aG}{k:T2->W T}(he:EF X K fs e we f1)(hg:GF X K f1 tg is wt fs3)(hr:∀t,SF X K x (fs3 t) rest (k t) out)(hs:‹GE [tg] e pos.line X.env=pure false›)(hw:‹GM [tg] e X.env=pure ci›)(h1:‹(Gc [tg] X.env).map (·.2)=[PP tg X.env]›):SF X K x fs (.Assign [tg] e pos::rest) (.bind we λv=>.bind (wt v) k) out:=SF.step (yb he.p hg.p hs hw h1) λD σ H ⟨sr,q⟩=>
 ⟨sr,we.mono (λv q1 u H1 g1 s1 v1=>⟨v,s1,v1,(wt v).mono (λt q2 us g2 s2=>⟨_,k t,hr t,s2,(k t).mono (λt' q3=>q3.go (g1.f.trans g2) sr s2) q2⟩) q1⟩) q⟩
def SF.par{k:PV->PV->W T}(hc:X.calm=true)(hN:X.N.Nodup)(hi:X.N[i]?=some y)(hj:X.N[j]?=some z)(æ:i≠j)(hx:X.env.scope.names.lookup y=some .local)(hy:X.env.scope.names.lookup z=some .local)(ha:EF X K fs a wa f1)(hb:EF X K f1 b wb f2)(hr:∀u v,SF X K x ((f2.set i (some (.val u))).set j (some (.val v))) rest (k u v) out)(hw:‹GM [.Tuple [.Name y px,.Name z py] kt pt] (.Tuple [a,b] k2 Tj) X.env=pure (some [y,z])›)(hs:‹GE [.Tuple [.Name y px,.Name z py] kt pt] (.Tuple [a,b] k2 Tj) pos.line X.env=pure false›)(he:‹gt [a,b] X.env=(false,pc a X.env)::gt [b] X.env›)(ç:‹gb X b []›):SF X K x fs (.Assign [.Tuple [.Name y px,.Name z py] kt pt] (.Tuple [a,b] k2 Tj) pos::rest) (.bind wa λu=>.bind wb λv=>k u v) out:=
 SF.step (Qw hc hN hi hj æ hx hy (aJ ha.p (aJ hb.p bj ç) he) hw hs) λD σ H ⟨sr,q⟩=>⟨sr,wa.mono (λu q1 u1 H1 g1 s1 v1=>⟨s1,wb.mono (λv q2 u2 H2 g2 s2 v2=>by
  have s3:=s2.fy (g2.vr s1 v1) i;have s4:=s3.fy v2 j;exact⟨_,_,rfl,_,k u v,hr u v,s4,(k u v).mono (λt q3=>q3.go (((g1.trans g2).f.trans (cn.fy s2 _ _ i)).trans (cn.fy s3 _ _ j)) sr s4) q2⟩) q1⟩) q⟩
def bor{s:db}(I:Inv X U σ H s)(sr:aQ K H σ fs)(hs:fs[i]?=some (some t))(hb:t.bw=true):∃a o ob,Inv X U σ (upd H a (.bA ob o)) s/\aQ K (upd H a (.bA ob o)) σ (fs.set i (some (.val t.bv)))/\ ∀σ' s' H1 f1,Inv X U σ' H1 s'->bR σ (fs.set i (some (.val t.bv))) (upd H a (.bA ob o)) H1 f1->aQ K H1 σ f1->Inv X U σ' (upd H1 a o) s'/\bR σ fs H (upd H1 a o) (f1.set i (some t))/\aQ K (upd H1 a o) σ (f1.set i (some t))/\(∀p vs,H1 p=some (.tup vs)->upd H1 a o p=some (.tup vs))/\∀p vs,p≠a->H1 p=some (.lst vs)->upd H1 a o p=some (.lst vs):=by
 have ho:=SL.SY hb;obtain⟨u,e1,⟨v,e,_⟩|⟨a,e,oa⟩⟩:=sr.at' i _ hs
 .subst e;cases hb
 subst e;obtain⟨ob,o,h1,n1,n2,I2,vr⟩:=aet I oa hb;have h0:∀o u,X.H₀ a≠some (.bA o u):=λo u z=>by
  have:=I.base.qw a o u z;rw[h1]at this;exact n2 _ _ (Option.some.inj this)
 refine⟨a,o,ob,I2,sr.aes hs ho e1 h1 n1 n2 vr,λσ' s' H1 f1 J g s1=>?_⟩;have pf:∀ψ m b,cI σ (fs.set i (some (.val t.bv))) ψ m b->cI σ fs ψ m b:=λψ m b ⟨j,k,z1,z3⟩=>by
  rcases a8 z1 with⟨_,z⟩|⟨n,z1⟩
  .cases z
  .exact⟨j,k,z1,z3⟩
 have npa:∀ψ m,¬cI σ fs ψ m a:=λψ m ⟨j,k,z1,z3⟩=>by
  have:=sr.nd j i _ _ a a a z1 hs rfl ho z3 e1 (.inl rfl) (.inl rfl);subst this;rw[hs]at z1;cases z1;cases hb
 have e2:=g.keep a _ ay λψ m p=>npa ψ m (pf ψ m a p);have hk:=HP J.ba e2;have ow:o.ow=true:=by
  obtain⟨o',z1,_,_,z2⟩:=oa.ex ho (.inl rfl);rw[h1]at z1;cases z1;exact z2
 have hi:i<fs.length:=(Ag.mp hs).1;have RP:i<f1.length:=by rw[<- g.ev.len,Bw];exact hi
 have ev:Ev fs (f1.set i (some t)):=⟨by rw[Bw,<- g.ev.len,Bw],λj=>by
  by_cases c:j=i
  .subst c;exact .inl (by rw[hs,aW RP])
  .have:=g.ev.at' j;rw[aq c]at this;rw[aq c];exact this⟩
 have xx:∀b,dH H1 b->dH (upd H1 a o) b:=λb z=>by
  have z':H1 b=_:=z;show upd H1 a o b=_;rw[aj (λy=>by subst y;rw[e2]at z';cases z')];exact z'
 have ge:bR σ fs H (upd H1 a o) (f1.set i (some t)):=by
  refine⟨λb o z n nt=>?_,λb z=>?_,ev,λb z=>xx b (g.x b ?_)⟩
  .by_cases c:b=a
   .subst c;rw[h1]at z;cases z;exact ay
   .rw[aj c];exact g.keep b o (by rw[aj c];exact z) (λψ m p=>n ψ m (pf ψ m b p)) nt
  .by_cases c:b=a
   .subst c;rw[ay]at z;cases z
   .rw[aj c]at z;have:=g.there b z;rw[aj c]at this;exact this
  .have z':H b=_:=z;show upd H a _ b=_;rw[aj (λy=>by subst y;rw[h1]at z';cases z';cases ow)];exact z'
 refine⟨J.T7 e2 h0 (hk a _ ay) hk,ge,⟨sr.len.trans ev.len,λj t' z=>?_,ev.nd sr,s1.tb.T7 J.ba e2 ow⟩,λp vs z=>?_,λp vs n z=>by rw[aj n];exact z⟩
 .by_cases c:∃ψ k m,t'=.cJ ψ k m
  .obtain⟨ψ,k,m,rfl⟩:=c;have ji:j≠i:=λy=>by subst y;rw[aW RP]at z;cases z;cases hb
   rw[aq ji]at z;obtain⟨u,k1,⟨v,y,_⟩|⟨b,y,⟨j',vs,y1,y2,y3,y4⟩,y5⟩⟩:=s1.at' j _ z
   .cases y
   .exact⟨u,k1,.inr ⟨b,y,⟨j',vs,y1,by rw[aj (λw=>by subst w;rw[e2]at y2;cases y2)];exact y2,y3,λb hb=>xx b (y4 b hb)⟩,y5⟩⟩
  .have z0:=ev.symm.same z λψ k m y=>c ⟨ψ,k,m,y⟩;obtain⟨u,k1,k2⟩:=sr.at' j t' z0;refine⟨u,k1,k2.mono (ge.cB sr) (λx b o eb ow hb zz nt=>ge.keep b o zz (λψ m ⟨j',k,p1,p3⟩=>?_) nt)⟩;subst eb;have:=sr.nd j j' t' _ x b b z0 p1 ow rfl k1 p3 hb (.inl rfl);subst this;rw[z0]at p1;cases p1;exact c ⟨ψ,k,m,rfl⟩
 .rw[aj (λy=>by subst y;rw[e2]at z;cases z)];exact z
end
end
section
variable[bL]
variable{K:Ab}
abbrev afb(wa wb:W PV):W PV:=.bind wa λx=>WB x wb
abbrev fY(wl:W (O PV)):W PV:=.bind wl λl=>.ret (.cl l)
abbrev Rm(t:W Bool)(w:W PV):W (Option PV):=.bind t λk=>if k=true then .bind w λv=>.ret (some v) else .ret ci
section
variable{c:nw}{W':W PV}{WL:W (O PV)}
def Wb{m:O PV->W PV}(G:O9 X.prog X.w X.K X.mg X.base x k ps (PJ K ks m))(hr:dG k' X.A)(hk:k<=k')(hg:Gl X x)(ha:AF X K fs (e::es) ks B f1)(hW:W'=B m)(kU: ~~~(gZ x))(he:‹gb X e es›)(du:‹km X pos es›):EF X K fs (.Call (.Name x p) (e::es) [] pos) W' f1:=hW▸aa1 G hr hk hg ha kU he du
def Vr{m:O PV->W (O PV)}{B:(O PV->W (O PV))->W (O PV)}(G:O9 X.prog X.w X.K X.mg X.base x k ps (GU K ks m))(hr:dG k' X.A)(hk:k<=k')(hg:Gl X x)(ha:AF X K fs (e::es) ks B f1)(hW:WL=B m)(kU: ~~~(gZ x))(he:‹gb X e es›)(du:‹km X pos es›):LF X K fs (.Call (.Name x p) (e::es) [] pos) WL f1:=hW▸ZW G hr hk hg ha kU he du
def aV{x1}(h:AF X K fs es (Ap n .v) B f1)(hW:W'=B λl=>.ret (.tup l))(hn: ~~~(n<=1000)):EF X K fs (.Tuple es x1 pos) W' f1:=hW▸aeS h hn
def aU{B:(O PV->W (O PV))->W (O PV)}(h:AF X K fs es (Ap n .v) B f1)(hW:WL=B λl=>.ret l)(hn: ~~~(n<=1000)):LF X K fs (.List es pos) WL f1:=hW▸Xw h hn
variable{sc:r9}{T2:Type}{wt:PV->W T2}{fs2:T2->aG}{tf:T2->W Bool}{te:T2->W PV}
def iw{f:PV->W PV}(hc:X.calm=true)(S:aX X.env.scope X.N sc N' ix)(hi:mR X K fs tg iter wl f1)(hg:∀cl C s2 H2 fp,PG (eK X sc N' cl C s2 H2 fp) tg (di i))(he:∀cl C s2 H2 fp t,EF (eK X sc N' cl C s2 H2 fp) K ((a6 ix f1).set i (some (.val t))) Â (f t))(h0:ix[i]?=some ci)(hs:qJ X iter:=by intro _;rfl):LF X K fs (.ListComp Â [⟨tg,iter,[],0⟩] sc pos) (.bind wl λl=>bF l f) f1:=
 have h1:(a6 ix f1)[i]?=some ci:=by unfold a6;rw[Ah,h0];rfl
 Xv hc S hi (λcl C s2 H2 fp=>VW (hg cl C s2 H2 fp)) he (λ_=>rfl) (J0 h1) (λj hj=>by rw[AR]at hj;subst hj;exact h0) hs
def HB{tf:PV->W Bool}{te:PV->W PV}(hc:X.calm=true)(S:aX X.env.scope X.N sc N' ix)(hi:mR X K fs tg iter wl f1)(hg:∀cl C s2 H2 fp,PG (eK X sc N' cl C s2 H2 fp) tg (di i))(hf:∀cl C s2 H2 fp t,TF (eK X sc N' cl C s2 H2 fp) K ((a6 ix f1).set i (some (.val t))) c (tf t))(he:∀cl C s2 H2 fp t,EF (eK X sc N' cl C s2 H2 fp) K ((a6 ix f1).set i (some (.val t))) Â (te t))(h0:ix[i]?=some ci)(hs:qJ X iter:=by intro _;rfl):LF X K fs (.ListComp Â [⟨tg,iter,[c],0⟩] sc pos) (.bind wl λl=>ml l λp=>Rm (tf p) (te p)) f1:=
 have h1:(a6 ix f1)[i]?=some ci:=by unfold a6;rw[Ah,h0];rfl
 ZV hc S hi (λcl C s2 H2 fp=>VW (hg cl C s2 H2 fp)) (λcl C s2 H2 fp t=>R4 (hf cl C s2 H2 fp t)) he (λ_=>rfl) (J0 h1) (λj hj=>by rw[AR]at hj;subst hj;exact h0) hs
def ZT(hc:X.calm=true)(S:aX X.env.scope X.N sc N' ix)(hi:mR X K fs tg iter wl f1)(hg:∀cl C s2 H2 fp,GF (eK X sc N' cl C s2 H2 fp) K (a6 ix f1) tg is wt fs2)(he:∀cl C s2 H2 fp t,EF (eK X sc N' cl C s2 H2 fp) K (fs2 t) Â (te t))(hl:qI is (a6 ix f1) fs2/\∀t,dA (fs2 t) (a6 ix f1))(fP:∀j∈is,ix[j]?=some ci)(hs:qJ X iter:=by intro _;rfl):LF X K fs (.ListComp Â [⟨tg,iter,[],0⟩] sc pos) (.bind wl λl=>bF l λp=>.bind (wt p) te) f1:=Xv hc S hi hg he (λ_=>rfl) hl fP hs
def adH(hc:X.calm=true)(S:aX X.env.scope X.N sc N' ix)(hi:mR X K fs tg iter wl f1)(hg:∀cl C s2 H2 fp,GF (eK X sc N' cl C s2 H2 fp) K (a6 ix f1) tg is wt fs2)(hf:∀cl C s2 H2 fp t,TF (eK X sc N' cl C s2 H2 fp) K (fs2 t) c (tf t))(he:∀cl C s2 H2 fp t,EF (eK X sc N' cl C s2 H2 fp) K (fs2 t) Â (te t))(hl:qI is (a6 ix f1) fs2/\∀t,dA (fs2 t) (a6 ix f1))(fP:∀j∈is,ix[j]?=some ci)(hs:qJ X iter:=by intro _;rfl):LF X K fs (.ListComp Â [⟨tg,iter,[c],0⟩] sc pos) (.bind wl λl=>ml l λp=>.bind (wt p) λt=>Rm (tf t) (te t)) f1:=ZV hc S hi hg (λcl C s2 H2 fp t=>R4 (hf cl C s2 H2 fp t)) he (λ_=>rfl) hl fP hs
variable{rest:O wn}{T:Type}{out:T->End}{x0:Bool}{kk:O PV->W T}
def Vk{wt:PV->W T2}{te:T2->W PV}:(λl=>bF l λp=>.bind (wt p) te)=λl=>ml l λp=>.bind (wt p) λt=>.bind (.ret true) λk=>if k=true then .bind (te t) λv=>.ret (some v) else .ret ci:=funext λl=>by
 rw[yu];rfl
def SF.Uq(hc:X.calm=true)(hN:X.N.Nodup)(HU:X.N[i]?=some y)(hx:X.env.scope.names.lookup y=some .local)(S:aX X.env.scope X.N sc N' ix)(hi:mR X K fs tg iter wl f1)(hg:∀cl C s2 H2 fp,GF (eK X sc N' cl C s2 H2 fp) K (a6 ix f1) tg is wt fs2)(he:∀cl C s2 H2 fp t,EF (eK X sc N' cl C s2 H2 fp) K (fs2 t) Â (te t))(hl:qI is (a6 ix f1) fs2/\∀t,dA (fs2 t) (a6 ix f1))(fP:∀j∈is,ix[j]?=some ci)(hr:∀l,SF X K x0 (f1.set i (some (.ol ci l))) rest (kk l) out)(mn:‹o0 (.ListComp Â [⟨tg,iter,[],0⟩] sc pos) (some (.Name y px)) n6.line X.env=pure true›)(hs:qJ X iter:=by intro _;rfl):SF X K x0 fs (.Assign [.Name y px] (.ListComp Â [⟨tg,iter,[],0⟩] sc pos) n6::rest) (.bind (.bind wl λl=>bF l λp=>.bind (wt p) te) kk) out:=by
 rw[Vk];exact SF.acL hc hN HU hx S hi hg (λ_ _ _ _ _ _=>zk) he (λp=>rfl) hl fP hr mn hs
def SF.ju{f:PV->W PV}(hc:X.calm=true)(hN:X.N.Nodup)(HU:X.N[i]?=some y)(hx:X.env.scope.names.lookup y=some .local)(S:aX X.env.scope X.N sc N' ix)(hi:mR X K fs tg iter wl f1)(hg:∀cl C s2 H2 fp,PG (eK X sc N' cl C s2 H2 fp) tg (di j))(he:∀cl C s2 H2 fp t,EF (eK X sc N' cl C s2 H2 fp) K ((a6 ix f1).set j (some (.val t))) Â (f t))(h0:ix[j]?=some ci)(hr:∀l,SF X K x0 (f1.set i (some (.ol ci l))) rest (kk l) out)(mn:‹o0 (.ListComp Â [⟨tg,iter,[],0⟩] sc pos) (some (.Name y px)) n6.line X.env=pure true›)(hs:qJ X iter:=by intro _;rfl):SF X K x0 fs (.Assign [.Name y px] (.ListComp Â [⟨tg,iter,[],0⟩] sc pos) n6::rest) (.bind (.bind wl λl=>bF l f) kk) out:=
 have h1:(a6 ix f1)[j]?=some ci:=by unfold a6;rw[Ah,h0];rfl
 SF.Uq hc hN HU hx S hi (λcl C s2 H2 fp=>VW (hg cl C s2 H2 fp)) he (J0 h1) (λm hj=>by rw[AR]at hj;subst hj;exact h0) hr mn hs
end
def aeA{f:f8}(h:∀vs H Q E,¬sp vs H Q E):mz P w K mg base I0 k f fd ps sp:=⟨λvs H Q E q=>(h _ _ _ _ q).elim,λA outer s H args us vs Q E _ _ _ _ q=>(h _ _ _ _ q).elim⟩
def Ui{m:IZ (O PV) n}(h:∀l Q,l.length=n->¬(vo n m l).run Q):∀vs H Q E,¬GU K ks (vo n m) vs H Q E:=λvs H Q E ⟨_,_,l,_,q⟩=>h l _ (lG q) q
theorem aY(hr:dG k A):A.units+200<sn:=by have:=hr.un;lia
end
section
variable[bL]
variable{K:Ab}
mutual
def PV.fg:PV->Bool
 |.tup l=>eG l
 |.cl l=>eG l
 |.ref _=>false
 |.ty _=>false
 |.dv _ _=>false
 |.ob _ _=>false
 |.hand=>false
 |_=>true
def eG:O PV->Bool
 |[]=>true
 |x::l=>PV.fg x&&eG l
end
mutual
def PV.iB:PV->Nat
 |.tup l=>dE l+1
 |.cl l=>dE l+1
 |_=>0
def dE:O PV->Nat
 |[]=>0
 |x::l=>max (PV.iB x) (dE l)
end
mutual
def kf:PV->PV->Bool
 |.aB,.aB=>true
 |.bl a,.bl b=>a==b
 |.bl a,.int b=>(if a then 1 else 0)==b
 |.int a,.bl b=>a==(if b then 1 else 0)
 |.int a,.int b=>a==b
 |.str a,.str b=>a==b
 |.tup l,.tup m=>fZ l m
 |.cl l,.cl m=>fZ l m
 |_,_=>false
def fZ:O PV->O PV->Bool
 |[],[]=>true
 |x::l,y::m=>kf x y&&fZ l m
 |_,_=>false
end
theorem uF:∀{l:O PV}{j:Nat}{x:PV},eG l=true->l[j]?=some x->PV.fg x=true
 |[],_,_,_,e=>by simp at e
 |y::l,0,x,h,e=>by
  simp at e;subst e;rw[eG,A9]at h;exact h.1
 |y::l,j+1,x,h,e=>by
  rw[eG,A9]at h;exact uF h.2 (by simpa using e)
theorem xn:∀{l:O PV}{j:Nat}{x:PV},l[j]?=some x->PV.iB x<=dE l
 |[],_,_,e=>by simp at e
 |y::l,0,x,e=>by
  simp at e;subst e;rw[dE];lia
 |y::l,j+1,x,e=>by
  have:=xn (by simpa using e);rw[dE];lia
mutual
theorem R6:∀(x:PV),PV.fg x=true->kf x x=true
 |.aB,_=>by rw[kf]
 |.bl b,_=>by rw[kf];simp
 |.int i,_=>by rw[kf];simp
 |.str i,_=>by rw[kf];simp
 |.tup l,h=>by rw[kf];exact lW l (by rw[PV.fg]at h;exact h)
 |.cl l,h=>by rw[kf];exact lW l (by rw[PV.fg]at h;exact h)
 |.ref _,h=>by rw[PV.fg]at h;cases h
 |.ty _,h=>by rw[PV.fg]at h;cases h
 |.dv _ _,h=>by rw[PV.fg]at h;cases h
 |.ob _ _,h=>by rw[PV.fg]at h;cases h
 |.hand,h=>by rw[PV.fg]at h;cases h
theorem lW:∀(l:O PV),eG l=true->fZ l l=true
 |[],_=>by rw[fZ]
 |x::l,h=>by
  rw[eG,A9]at h;rw[fZ,R6 x h.1,lW l h.2];rfl
end
def Sg(l m:O PV)(j:Nat):Bool:=match l[j]?,m[j]? with|some x,some y=>kf x y|_,_=>true
theorem o9:∀(l m:O PV),((AB (min l.length m.length)).all (Sg l m)&&l.length==m.length)=fZ l m
 |[],[]=>by rw[fZ];rfl
 |[],_::_=>by
  rw[fZ]
  .simp
  .intros;simp_all
  .intros;simp_all
 |_::_,[]=>by
  rw[fZ]
  .simp
  .intros;simp_all
  .intros;simp_all
 |x::l,y::m=>by
  rw[fZ,<- o9 l m];have e:min (x::l).length (y::m).length=min l.length m.length+1:=by simp only[Ax];lia
  rw[e,Fp,List.all_cons,List.all_map];have e2:((x::l).length==(y::m).length)=(l.length==m.length):=by simp
  rw[e2,Bool.and_assoc];rfl
def R5{l m:O PV}(h:l.length≠m.length):fZ l m=false:=by
 rw[<- o9];have:(l.length==m.length)=false:=by simpa using h
 rw[this,DN]
section
variable{s:db}
def HZ(I:Inv X U σ H s){xs:O V}(h:Lk X.K H a xs):H a≠some (.ext φ):=λe=>by
 rcases h with⟨o,h⟩|⟨o,_,_,h,_⟩
 .rw[e]at h;cases h
 .have:=(I.bs a o (I.mod.kin a o h)).2;rw[e]at this;cases this
def Lk.inj{K:Ab}{H:Hp}{p:f8}{vs Pe:O V}(hb:∀p o,K.lookup p=some o->H p=ci)(h:Lk K H p vs)(h':Lk K H p Pe):vs=Pe:=by
 rcases h with⟨o,h⟩|⟨o,ao,n,e1,_,_,e4,_,e6⟩
 .rcases h' with⟨o',h'⟩|⟨o',eD,n',k7,_⟩
  .rw[h]at h';cases h';rfl
  .rw[hb _ _ k7]at h;cases h
 .rcases h' with⟨o',h'⟩|⟨o',eD,n',k7,_,_,e4',_,e6'⟩
  .rw[hb _ _ e1]at h';cases h'
  .rw[e1]at k7;cases k7;rw[e4]at e4';injection e4' with e7 _;subst e7;exact e6.inj e6'
mutual
theorem VR.fn{K:Ab}{H:Hp}(hb:∀p o,K.lookup p=some o->H p=ci):∀{v:V}{q q':PV},VR K [] H v q->VR K [] H v q'->q=q'
 |_,_,_,.aB,h=>by cases h;rfl
 |_,_,_,.bl b,h=>by cases h;rfl
 |_,_,_,.int i,h=>by cases h;rfl
 |_,_,_,.str x,h=>by cases h;rfl
 |_,_,_,.ty n,h=>by cases h;rfl
 |_,_,_,.ref e,h=>by simp at e
 |_,_,_,.tup e r,h=>by
  cases h with
  |tup e' r'=>rw[e]at e';cases e';rw[ax.fn hb r r']
  |cl e' r'=>
   rcases e' with⟨o,e'⟩|⟨o,ao,n,e1,_⟩
   .rw[e]at e';cases e'
   .rw[hb _ _ e1]at e;cases e
  |dk e' _ _=>rw[e]at e';cases e'
  |dt e' _ _=>rw[e]at e';cases e'
  |ob e' _ _ _ _=>rw[e]at e';cases e'
  |hand e'=>have e':H _=_:=e';rw[e]at e';cases e'
  |ref e'=>simp at e'
 |_,_,_,.cl e r,h=>by
  cases h with
  |tup e' r'=>
   rcases e with⟨o,e⟩|⟨o,ao,n,e1,_⟩
   .rw[e]at e';cases e'
   .rw[hb _ _ e1]at e';cases e'
  |cl e' r'=>have:=Lk.inj hb e e';subst this;rw[ax.fn hb r r']
  |dk e' _ _=>
   rcases e with⟨o,e⟩|⟨o,ao,n,e1,_⟩
   .rw[e]at e';cases e'
   .rw[hb _ _ e1]at e';cases e'
  |dt e' _ _=>
   rcases e with⟨o,e⟩|⟨o,ao,n,e1,_⟩
   .rw[e]at e';cases e'
   .rw[hb _ _ e1]at e';cases e'
  |ob e' _ _ _ _=>
   rcases e with⟨o,e⟩|⟨o,ao,n,e1,_⟩
   .rw[e]at e';cases e'
   .rw[hb _ _ e1]at e';cases e'
  |hand e'=>
   have e':H _=_:=e';rcases e with⟨o,e⟩|⟨o,ao,n,e1,_⟩
   .rw[e]at e';cases e'
   .rw[hb _ _ e1]at e';cases e'
  |ref e'=>simp at e'
 |_,_,_,.dk e e2 r,h=>by
  cases h with
  |tup e' r'=>rw[e]at e';cases e'
  |cl e' r'=>
   rcases e' with⟨o,e'⟩|⟨o,ao,n,e1,_⟩
   .rw[e]at e';cases e'
   .rw[hb _ _ e1]at e;cases e
  |dk e' e3 r'=>rw[e]at e';cases e';rw[e2,e3,ax.fn hb r r']
  |dt e' _ _=>rw[e]at e';cases e'
  |ob e' _ _ _ _=>rw[e]at e';cases e'
  |hand e'=>have e':H _=_:=e';rw[e]at e';cases e'
  |ref e'=>simp at e'
 |_,_,_,.dt e e2 r,h=>by
  cases h with
  |tup e' r'=>rw[e]at e';cases e'
  |cl e' r'=>
   rcases e' with⟨o,e'⟩|⟨o,ao,n,e1,_⟩
   .rw[e]at e';cases e'
   .rw[hb _ _ e1]at e;cases e
  |dt e' e3 r'=>rw[e]at e';cases e';rw[e2,e3,ax.fn hb r r']
  |dk e' _ _=>rw[e]at e';cases e'
  |ob e' _ _ _ _=>rw[e]at e';cases e'
  |hand e'=>have e':H _=_:=e';rw[e]at e';cases e'
  |ref e'=>simp at e'
 |_,_,_,.ob e c na e2 r,h=>by
  cases h with
  |tup e' r'=>rw[e]at e';cases e'
  |cl e' r'=>
   rcases e' with⟨o,e'⟩|⟨o,ao,n,e1,_⟩
   .rw[e]at e';cases e'
   .rw[hb _ _ e1]at e;cases e
  |ob e' _ _ e3 r'=>rw[e]at e';cases e';rw[e2,e3,ax.fn hb r r']
  |dk e' _ _=>rw[e]at e';cases e'
  |dt e' _ _=>rw[e]at e';cases e'
  |hand e'=>have e':H _=_:=e';rw[e]at e';cases e'
  |ref e'=>simp at e'
 |_,_,_,.hand e,h=>by
  have e:H _=_:=e;cases h with
  |tup e' r'=>rw[e]at e';cases e'
  |cl e' r'=>
   rcases e' with⟨o,e'⟩|⟨o,ao,n,e1,_⟩
   .rw[e]at e';cases e'
   .rw[hb _ _ e1]at e;cases e
  |ob e' _ _ e3 r'=>rw[e]at e';cases e'
  |dk e' _ _=>rw[e]at e';cases e'
  |dt e' _ _=>rw[e]at e';cases e'
  |hand e'=>rfl
  |ref e'=>simp at e'
theorem ax.fn{K:Ab}{H:Hp}(hb:∀p o,K.lookup p=some o->H p=ci):∀{v:O V}{q q':O PV},ax K [] H v q->ax K [] H v q'->q=q'
 |_,_,_,.nil,h=>by cases h;rfl
 |_,_,_,.cons r t,h=>by
  cases h with
  |cons r' t'=>rw[VR.fn hb r r',ax.fn hb t t']
end
theorem VR.O5(I:Inv X U σ H s){v:V}{x y:PV}(h:VR X.K [] H v x)(h':VR X.K [] H v y):x=y:=VR.fn (λa o h=>(I.bs a o (I.mod.kin a o h)).2) h h'
structure Cmp(A:FB)(s:db)(w w':cr)(b:Bool):Prop where
 rc:SeqAt.RcAt A s w w' b
 ne:SeqAt.RcNeAt A s w w' (!b)
 eq:DZ A s w w' b
def aeR(I:Inv X U σ H s){ws:O V}{l m:O PV}(r:Vals vs ao)(r':Vals ws eD)(r1:ax X.K [] H vs l)(r2:ax X.K [] H ws m)(ih:∀(j:Nat) (x y:PV) (v v':V) (w w':cr),l[j]?=some x->m[j]?=some y->VR X.K [] H v x->VR X.K [] H v' y->RelV v w->RelV v' w'->DZ A s w w' (kf x y)):∀j (g1:j<ao.toArray.size) (g2:j<eD.toArray.size),DZ A s ao.toArray[j] eD.toArray[j] (Sg l m j):=λj g1 g2=>by
 have h1:j<ao.length:=by simpa using g1
 have h2:j<eD.length:=by simpa using g2
 have hl:j<l.length:=by rw[<- r1.length,r.length];exact h1
 have hm:j<m.length:=by rw[<- r2.length,r'.length];exact h2
 obtain⟨v,v1,v2⟩:=r1.get (Ad hl);obtain⟨v',Ā,ķ⟩:=r2.get (Ad hm);obtain⟨u,u1,u2⟩:=r.get v1;obtain⟨u',u1',u2'⟩:=r'.get Ā;rw[Ad h1]at u1;rw[Ad h2]at u1';cases u1;cases u1';unfold Sg;rw[Ad hl,Ad hm];have:=ih j _ _ v v' _ _ (Ad hl) (Ad hm) v2 ķ u2 u2';simpa using this
inductive Sh(X:Cx)(H:Hp)(s:db):PV->cr->Prop
 |aB:Sh X H s .aB .none
 |bl (b:Bool):Sh X H s (.bl b) (.bool b)
 |int (i:Int) (t:Tok):Sh X H s (.int i) (.int i t)
 |str (x:Str) (t:Tok):Sh X H s (.str x) (.str x t)
 |tup {p:f8}{vs:List V}{ao:List cr}{l:List PV} (e:VR X.K [] H (.ref p) (.tup l)) (k:Vals vs ao) (r:ax X.K [] H vs l) (h:s.heap.IsTuple p ao.toArray):Sh X H s (.tup l) (.ref p)
 |cl {p:f8}{vs:List V}{ao:List cr}{l:List PV} (e:VR X.K [] H (.ref p) (.cl l)) (k:Vals vs ao) (r:ax X.K [] H vs l) (h:s.heap.IsList p ao.toArray):Sh X H s (.cl l) (.ref p)
def Sh.of(I:Inv X U σ H s){v:V}{x:PV}{w:cr}(h:VR X.K [] H v x)(r:RelV v w)(d:PV.fg x=true):Sh X H s x w:=by
 cases h with
 |ref e=>simp at e
 |aB=>cases r;exact .aB
 |bl a=>cases r;exact .bl a
 |int a=>obtain⟨t,rfl⟩:=r;exact .int a t
 |str a=>obtain⟨t,rfl⟩:=r;exact .str a t
 |tup e q=>
  cases r;obtain⟨ao,k,ht,_⟩:=I.tuple (d6.of e);exact .tup (.tup e q) k q ht
 |cl e q=>
  cases r;obtain⟨ao,k,pl,_⟩:=I.list e.sq;exact .cl (.cl e q) k q pl.isList
 |_=>rw[PV.fg]at d;cases d
set_option maxHeartbeats 8000000 in
theorem abb(hK:X.K=K)(I:Inv X U σ H s):∀(n:Nat) (x y:PV) (A:FB) (v v':V) (w w':cr),PV.iB x<=n->PV.fg x=true->PV.fg y=true->VR K [] H v x->VR K [] H v' y->RelV v w->RelV v' w'->A.units+n+1<sn->Cmp A s w w' (kf x y):=by
 subst hK;intro n
 induction n using CA with
 |ind n ih=>
 intro x y A v v' w w' hd dx dy hv hv' r1 r2 hu;have a:=Sh.of I hv r1 dx;have b:=Sh.of I hv' r2 dy;clear hv hv' r1 r2;have el:∀{l m:O PV}{vs ws:O V}{ao cq:O cr},eG l=true->eG m=true->dE l<n->Vals vs ao->Vals ws cq->ax X.K [] H vs l->ax X.K [] H ws m->ao.toArray.size=l.length/\cq.toArray.size=m.length/\∀j g1 (g2:j<cq.toArray.size),DZ A.in1 s ao.toArray[j] cq.toArray[j] (Sg l m j):=λd1 d2 hd k1 k2 r r'=>⟨by rw[Am,<- k1.length,r.length],by rw[Am,<- k2.length,r'.length],aeR I k1 k2 r r' λj x y v v' w w' hx hy vx vy rx ry=>(ih _ hd x y A.in1 v v' w w' (xn hx) (uF d1 hx) (uF d2 hy) vx vy rx ry (by show A.units+1+_+1<_;lia)).eq⟩;have fin:∀{pa pb:f8}{l m:O PV},(pa=pb->l=m)->eG l=true->SeqAt.RcAt A s (.ref pa) (.ref pb) (fZ l m)->DZ A s (.ref pa) (.ref pb) (fZ l m):=λ{pa pb l m} h d q=>by
  by_cases hab:pa=pb
  .rw[h hab,lW _ (h hab▸d),hab];exact Gs _
  .exact Ga hab q
 cases a<;>cases b
 case tup.tup pa vs ao l e k r ht pb ws cq m e2 k2 r2 vh=>
  rw[PV.iB]at hd;obtain⟨z1,z2,ie⟩:=el dx dy ∅ k k2 r r2;have q1:=Ge ht vh ∅ ie;have q2:=SeqAt.RcNeAt.tuples ht vh (A:=A) ∅ ie;rw[z1,z2,o9]at q1 q2;exact⟨q1,q2,fin (λz=>by subst z;have:=VR.O5 I e e2;injection this) dx q1⟩
 case cl.cl pa vs ao l e k r ht pb ws cq m e2 k2 r2 vh=>
  rw[PV.iB]at hd;obtain⟨z1,z2,ie⟩:=el dx dy ∅ k k2 r r2;by_cases hz:l.length=m.length
  .have q1:=Gp ht vh (by rw[z1,z2];exact hz) (A:=A) ∅ ie;have q2:=F9 ht vh (by rw[z1,z2];exact hz) (A:=A) ∅ ie;have ef:(AB l.length).all (Sg l m)=fZ l m:=by rw[<- o9,hz,Nat.min_self,beq_self_eq_true,Bool.and_true]
   rw[z1,ef]at q1 q2;exact⟨q1,q2,fin (λz=>by subst z;have:=VR.O5 I e e2;injection this) dx q1⟩
  .have q1:=EZ (A:=A) ht vh (by rw[z1,z2];simpa using hz) ∅;have q2:=EA (A:=A) ht vh (by rw[z1,z2];simpa using hz) ∅;have ef:=R5 hz;rw[<- ef]at q1;have q2:SeqAt.RcNeAt A s (.ref pa) (.ref pb) (!fZ l m):=by rw[ef];exact q2
   exact⟨q1,q2,fin (λz=>by subst z;have:=VR.O5 I e e2;injection this) dx q1⟩
 all_goals
  clear ih el fin;rw[kf]<;>try (intros;simp_all;done)
  refine⟨?_,?_,?_⟩<;>(try simp)<;>first|with_reducible exact .none_none|with_reducible exact .none_bool _|with_reducible exact .none_int _ _|with_reducible exact .none_str _ _|with_reducible exact .none_tuple ‹_› ∅ | with_reducible exact .none_list ‹_› ∅ | with_reducible exact .bool_none _|with_reducible exact .bool_str _ _ _|with_reducible exact .bool_tuple _ ‹_› ∅ | with_reducible exact .bool_list _ ‹_› ∅ | with_reducible exact .int_none _ _|with_reducible exact .int_str _ _ _ _|with_reducible exact .int_tuple _ _ ‹_› ∅ | with_reducible exact .int_list _ _ ‹_› ∅ | with_reducible exact .str_none _ _|with_reducible exact .str_bool _ _ _|with_reducible exact .str_int _ _ _ _|with_reducible exact .str_tuple _ _ ‹_› ∅ | with_reducible exact .str_list _ _ ‹_› ∅ | with_reducible exact .tuple_none ‹_› ∅ | with_reducible exact .tuple_bool _ ‹_› ∅ | with_reducible exact .tuple_int _ _ ‹_› ∅ | with_reducible exact .tuple_str _ _ ‹_› ∅ | with_reducible exact .tuple_list ‹_› ‹_› ∅ | with_reducible exact .list_none ‹_› ∅ | with_reducible exact .list_bool _ ‹_› ∅ | with_reducible exact .list_int _ _ ‹_› ∅ | with_reducible exact .list_str _ _ ‹_› ∅ | with_reducible exact .list_tuple ‹_› ‹_› ∅ | exact .same _|exact .bool_bool _ _|exact .bool_int _ _ _|exact .int_bool _ _ _|exact .int_int _ _ _ _|exact .str_str _ _ _ _
end
end
section
variable[bL]
variable{K:Ab}
mutual
theorem VR.oC{ι:O f8}{H:Hp}:∀{v:V}{q:PV},VR K ι H v q->PV.fg q=true->VR K [] H v q
 |_,_,.aB,_=>.aB
 |_,_,.bl b,_=>.bl b
 |_,_,.int i,_=>.int i
 |_,_,.str x,_=>.str x
 |_,_,.ty n,h=>by rw[PV.fg]at h;cases h
 |_,_,.dk _ _ _,h=>by rw[PV.fg]at h;cases h
 |_,_,.dt _ _ _,h=>by rw[PV.fg]at h;cases h
 |_,_,.ob _ _ _ _ _,h=>by rw[PV.fg]at h;cases h
 |_,_,.hand _,h=>by rw[PV.fg]at h;cases h
 |_,_,.tup e r,h=>.tup e (ax.oC r (by rw[PV.fg]at h;exact h))
 |_,_,.cl e r,h=>.cl e (ax.oC r (by rw[PV.fg]at h;exact h))
 |_,_,.ref e,h=>by rw[PV.fg]at h;cases h
theorem ax.oC{ι:O f8}{H:Hp}:∀{v:O V}{q:O PV},ax K ι H v q->eG q=true->ax K [] H v q
 |_,_,.nil,_=>.nil
 |_,_,.cons r s,h=>by
  rw[eG,A9]at h;exact .cons (VR.oC r h.1) (ax.oC s h.2)
end
def Od(x y:PV):Prop:=PV.fg x=true/\PV.fg y=true/\PV.iB x<=150
def gq:M2:=⟨λx y h Q=>Od x y/\Q (.bl (kf x y)) h,λf q=>⟨q.1,f _ _ q.2⟩⟩
def Hj:M2:=⟨λx y h Q=>Od x y/\Q (.bl (!kf x y)) h,λf q=>⟨q.1,f _ _ q.2⟩⟩
def UI(K:Ab)(neg:Bool):R2:=λu v H Q=>∃x y,VR K [] H u x/\VR K [] H v y/\Od x y/\Q (.bl (if neg then !kf x y else kf x y)) H
section
theorem Zw(hK:X.K=K)(hu:X.A.units+200<sn):iK X (ss .Eq) (UI K false):=λU s σ H u v w w' Q I r1 r2 ⟨x,y,h1,h2,⟨o1,o2,o3⟩,q⟩=>by
 exact Fy (abb hK I 150 x y X.A u v w w' o3 o1 o2 h1 h2 r1 r2 ∅).rc ⟨.bl _,H,I,rfl,q⟩
theorem Zu(hK:X.K=K)(hu:X.A.units+200<sn):iK X (ss .NotEq) (UI K true):=λU s σ H u v w w' Q I r1 r2 ⟨x,y,h1,h2,⟨o1,o2,o3⟩,q⟩=>by
 exact ET (abb hK I 150 x y X.A u v w w' o3 o1 o2 h1 h2 r1 r2 ∅).ne ⟨.bl _,H,I,rfl,q⟩
def U9:M2.Ok K (UI K false) gq:=λ{ι H h u v x y Q} hr hu hv q=>⟨x,y,VR.oC hu q.1.1,VR.oC hv q.1.2.1,q.1,q.2 ι _ H (Go.refl _ _) hr (.bl _)⟩
def U6:M2.Ok K (UI K true) Hj:=λ{ι H h u v x y Q} hr hu hv q=>⟨x,y,VR.oC hu q.1.1,VR.oC hv q.1.2.1,q.1,q.2 ι _ H (Go.refl _ _) hr (.bl _)⟩
def iY(hK:X.K=K)(hu:X.A.units+200<sn):JC X K .Eq b gq:=⟨⟨_,Zw hK hu,U9⟩,fV _⟩
def XH(hK:X.K=K)(hu:X.A.units+200<sn):JC X K .NotEq b Hj:=⟨⟨_,Zu hK hu,U6⟩,fV _⟩
end
end
end FL
variable{x:Bg}{b b1:Bool}{t z i1 i2 a1 a2:Bf}{ys:Array Bg}{k1:Nat}{e2:BF}
namespace L2
def nP(b:Bool)(h:re)(it a:f8)(k:Nat):Prop:=match b with
 |true=>h.IsListIter it a k
 |false=>h.IsTupleIter it a k
def dF(b:Bool)(h:re)(a:f8)(xs:Array cr):Prop:=match b with
 |true=>h.IsList a xs
 |false=>h.IsTuple a xs
def nP.move(x:nP b h it a k)(g:∀o,h.get? it=some o->h'.get? it=some o):nP b h' it a k:=by
 cases b with
 |true=>obtain⟨o,e,p⟩:=(x);exact(⟨o,g o e,p⟩)
 |false=>obtain⟨o,e,p⟩:=(x);exact(⟨o,g o e,p⟩)
def dF.move(x:dF b h a xs)(g:∀o,h.get? a=some o->h'.get? a=some o):dF b h' a xs:=by
 cases b with
 |true=>obtain⟨o,e,p⟩:=(x);exact(⟨o,g o e,p⟩)
 |false=>obtain⟨o,e,p⟩:=(x);exact(⟨o,g o e,p⟩)
def nP.obj(x:nP b h it a k):∃o,h.get? it=some o/\∀v,o.data≠.cell v:=by
 cases b with
 |true=>obtain⟨o,e,_,d⟩:=(x);exact⟨o,e,λv z=>by rw[d]at z;cases z⟩
 |false=>obtain⟨o,e,_,d⟩:=(x);exact⟨o,e,λv z=>by rw[d]at z;cases z⟩
def dF.lt(x:dF b h a xs):a<h.objs.size:=by
 cases b with
 |true=>obtain⟨o,e,p⟩:=(x);exact Ao e
 |false=>obtain⟨o,e,p⟩:=(x);exact Ao e
section
variable{s:db}
def fH(h:nP b s.heap it t i)(ht:dF b s.heap t items)(hx:items[i]?=some x)(q:∀h':re,nP b h' it t (i+1)->B0 it s.heap h'->Q x {s with heap:=h'}):gl (im prog w) A (Builtin.SmallTypes.nextOf (.ref it)) Q E s:=by
 cases b with
 |true=>exact wpAny_nextOf_list_item h ht hx λh' a b=>q h' a b
 |false=>exact hV h ht hx q
def m6(hA:A.handled=ci)(h:nP b s.heap it t i)(ht:dF b s.heap t items)(hx:items[i]?=ci)(q:∀(h':re) (e:f8),FW it s.heap h'->(∃o,h'.get? e=some o/\o.cls=.type "StopIteration")->E (.ref e) {s with heap:=h'}):gl (im prog w) A (Builtin.SmallTypes.nextOf (.ref it)) Q E s:=by
 cases b with
 |true=>exact wpAny_nextOf_list_end hA h ht hx λh' e a b=>q h' e a b
 |false=>exact iV hA h ht hx q
def NR:Bool->String
 |true=>"list_iterator"
 |false=>"tuple_iterator"
def wJ(h:dF b s.heap a xs)(q:Q (.ref s.heap.objs.size) {s with heap:=s.heap.push {cls:=.type (NR b),data:=.fields #[.ref a,.int 0 0]}}):gl (im prog w) A (pyIter (.ref a)) Q E s:=by
 cases b with
 |true=>exact DH h q
 |false=>exact EI h q
def LJ(e:h.get? it=some {cls:=.type (NR b),data:=.fields #[.ref a,.int 0 0]}):nP b h it a 0:=by
 cases b with
 |true=>exact(⟨_,e,rfl,rfl⟩)
 |false=>exact(⟨_,e,rfl,rfl⟩)
end
structure gY(b1 b2:Bool)(h:re)(z TI TO i1 i2 a1 a2:f8)(f0:cr)(k1 k2:Nat):Prop where
 zip:IsZip h z TI TO f0
 ti:Fa h TI (.ref i1) (.ref i2)
 to:∃a b,Fa h TO a b
 O0:nP b1 h i1 a1 k1
 OZ:nP b2 h i2 a2 k2
def sQ{E:cr->db->Prop}{s:db}{b2:Bool}{TI TO:f8}{y:cr}(hA:Db z TI TO i1 i2 a1 a2)(hz:gY b1 b2 s.heap z TI TO i1 i2 a1 a2 .none k1 k2)(Gy:dF b1 s.heap a1 xs)(vh:dF b2 s.heap a2 ys)(hx:xs[k1]?=some x)(hy:ys[k2]?=some y)(q:∀h':re,gY b1 b2 h' z TI TO i1 i2 a1 a2 (wv s.heap.objs.size) (k1+1) (k2+1)->Fa h' s.heap.objs.size x y->(∀c o,c≠z->c≠TO->c≠i1->c≠i2->s.heap.get? c=some o->h'.get? c=some o)->Q (.ref s.heap.objs.size) {s with heap:=h'}):gl (im prog w) A (ul.«zip.__next__» {pos:=[.ref z]}) (λfin s'=>∃v,fin=D7 (ED v)/\Q v s') E s:=by
 obtain⟨hz,Mf,⟨ta,tb,VO⟩,RP,û⟩:=hz;show gl _ _ (field (.ref z) 2 >>= λr=>_) _ _ s;refine Aa (AN hz rfl rfl ?_);refine Aa (AN hz rfl rfl ?_);refine Aa (Bp Mf rfl ?_);refine Aa ?_;refine Aa (AN hz rfl rfl ?_);refine Af ?_;refine Aa (CV ?_);refine Aa (AN hz rfl rfl ?_);refine Aa (AM hz (show 0 < 5 by decide) λh1 z1 b1=>?_);show gl _ _ ((forIn [(Aw i1,0),(Aw i2,1)] _ _) >>= λr=>_) _ _ _;refine Aa ?_;rw[BW];have ki:=b1.2;refine Aa ?_;refine Aa (E1 ?_);refine Aa (fH (RP.move λo e=>(ki _ hA.i1z).trans e) (Gy.move λo e=>(ki _ hA.l1z).trans e) hx λh2 j2 b2=>Af ?_);have y6:∀b,b≠z->b≠i1->h2.get? b=s.heap.get? b:=λb n1 n2=>(b2.2 b n2).trans (ki b n1);have ā:=(y6 _ hA.TOz hA.TOi1).trans VO;refine Aa (Bp ā rfl ?_);refine Aa (Ec ā λh3 t3 b3=>?_);have É:∀b,b≠z->b≠i1->b≠TO->h3.get? b=s.heap.get? b:=λb n1 n2 n3=>(b3.2 b n3).trans (y6 b n1 n2);refine Aa (CD (Af ?_));show gl _ _ (forIn [(Aw i2,1)] _ _) _ _ _;rw[BW];refine Aa ?_;refine Aa (E1 ?_);refine Aa (fH (û.move λo e=>(É _ hA.i2z hA.i12.symm hA.TOi2.symm).trans e) (vh.move λo e=>(É _ hA.l2z hA.l2i1 hA.l2TO).trans e) hy λh4 j4 b4=>Af ?_);have to4:=(b4.2 _ hA.TOi2).trans t3;refine Aa (Bp to4 rfl ?_);refine Aa (Ec to4 λh5 t5 b5=>?_);have to5:=t5;refine Aa (CD (Af ?_));refine Af ?_;refine Aa (Bp to5 rfl ?_);have Ĺ:=b5.1.trans (b4.1.trans (b3.1.trans (b2.1.trans b1.1)));refine Aa (Cu ?_ (by show 2<=sizeLine;decide));have aep:∀b,b≠z->b≠i1->b≠TO->b≠i2->h5.get? b=s.heap.get? b:=λb n1 n2 n3 n4=>(b5.2 b n3).trans ((b4.2 b n4).trans (É b n1 n2 n3));have kp:∀b o,h5.get? b=some o->(h5.push {cls:=.type "tuple",data:=.seq #[x,y]}).get? b=some o:=λb o e=>Aj _ e;refine Aa ?_;refine Aa (AM (kp _ _ ((b5.2 _ hA.TOz.symm).trans ((b4.2 _ hA.i2z.symm).trans ((b3.2 _ hA.TOz.symm).trans ((b2.2 _ hA.i1z.symm).trans z1))))) (show 0 < 5 by decide) λh7 z7 b7=>?_);refine AM z7 (show 1 < 5 by decide) λh8 z8 b8=>?_;have N7:∀b,b≠z->h8.get? b=(h5.push {cls:=.type "tuple",data:=.seq #[x,y]}).get? b:=λb n=>(b8.2 b n).trans (b7.2 b n);have nz:s.heap.objs.size≠z:=λe=>by have:=Ao hz;rw[<- e]at this;exact AE _ this
 refine Af ⟨.ref h5.objs.size,rfl,?_⟩;rw[Ĺ];refine q h8 ⟨?_,?_,?_,?_,?_⟩ ?_ ?_
 .rw[<- Ĺ];exact z8
 .rw[Fa,N7 _ hA.TIz];exact kp _ _ ((aep _ hA.TIz hA.TIi1 hA.TITO hA.TIi2).trans Mf)
 .exact⟨x,y,by rw[Fa,N7 _ hA.TOz];exact kp _ _ to5⟩
 .refine j2.move λo e=>?_;rw[N7 _ hA.i1z];exact kp _ _ ((b5.2 _ hA.TOi1.symm).trans ((b4.2 _ hA.i12).trans ((b3.2 _ hA.TOi1.symm).trans e)))
 .refine j4.move λo e=>?_;rw[N7 _ hA.i2z];exact kp _ _ ((b5.2 _ hA.TOi2.symm).trans e)
 .rw[Fa,N7 _ nz,<- Ĺ];exact(An _ rfl)
 .intro c o n1 n2 n3 n4 e;rw[N7 _ n1];exact kp _ _ ((aep _ n1 n3 n2 n4).trans e)
def vj{s:db}{b2:Bool}{TI TO:f8}{Q:Gq->db->Prop}(hh:A.handled=ci)(hA:Db z TI TO i1 i2 a1 a2)(hz:gY b1 b2 s.heap z TI TO i1 i2 a1 a2 .none k1 k2)(Gy:dF b1 s.heap a1 xs)(vh:dF b2 s.heap a2 ys)(hx:xs[k1]?=ci\/ys[k2]?=ci)(q:∀(h':re) (e:f8),(∀c o,c≠z->c≠TO->c≠i1->c≠i2->s.heap.get? c=some o->h'.get? c=some o)->(∃o,h'.get? e=some o/\o.cls=.type "StopIteration")->E (.ref e) {s with heap:=h'}):gl (im prog w) A (ul.«zip.__next__» {pos:=[.ref z]}) Q E s:=by
 obtain⟨hz,Mf,⟨ta,tb,VO⟩,RP,û⟩:=hz;show gl _ _ (field (.ref z) 2 >>= λr=>_) _ _ s;refine Aa (AN hz rfl rfl ?_);refine Aa (AN hz rfl rfl ?_);refine Aa (Bp Mf rfl ?_);refine Aa ?_;refine Aa (AN hz rfl rfl ?_);refine Af ?_;refine Aa (CV ?_);refine Aa (AN hz rfl rfl ?_);refine Aa (AM hz (show 0 < 5 by decide) λh1 z1 ÿ=>?_);show gl _ _ ((forIn [(Aw i1,0),(Aw i2,1)] _ _) >>= λr=>_) _ _ _;refine Aa ?_;have ki:=ÿ.2;refine Aa ?_;refine Aa (E1 ?_);have fin:∀{h2:re}{e:f8}{R:cr->db->Prop},h2.get? z=some {cls:=.type "zip",data:=.fields #[.ellipsis,.bool false,.bool false,.ref TI,.ref TO]}->(∃o,h2.get? e=some o/\o.cls=.type "StopIteration")->(∀c o,c≠z->c≠TO->c≠i1->c≠i2->s.heap.get? c=some o->h2.get? c=some o)->gl (im prog w) A (Os (.ref z) 0 .none) (λ_ s'=>E (.ref e) s') R {s with heap:=h2}:=λ{h2 e R} z2 ex k=>by
  refine AM z2 (show 0<5 by decide) λh3 z3 b3=>?_;refine q h3 e (λc o n1 n2 n3 n4 ec=>?_) ?_
  .rw[b3.2 _ n1];exact k c o n1 n2 n3 n4 ec
  .obtain⟨o,eo,hc⟩:=ex;by_cases he:e=z
   .subst he;rw[z2]at eo;cases eo;exact absurd (show C5 "zip"=C5 "StopIteration" from hc) ⋯
   .exact⟨o,(b3.2 _ he).trans eo,hc⟩
 cases ģ:xs[k1]? with
 |none=>
  exact Aa (m6 hh (RP.move λo e=>(ki _ hA.i1z).trans e) (Gy.move λo e=>(ki _ hA.l1z).trans e) ģ λh2 e k ex=>fin (k _ _ hA.i1z.symm z1) ex λc o n1 n2 n3 n4 ec=>k _ _ n3 ((ki _ n1).trans ec))
 |some x=>
  have hy:ys[k2]?=ci:=by
   rcases hx with h|h
   .rw[ģ]at h;cases h
   .exact h
  refine Aa (fH (RP.move λo e=>(ki _ hA.i1z).trans e) (Gy.move λo e=>(ki _ hA.l1z).trans e) ģ λh2 j2 þ=>Af ?_);have y6:∀b,b≠z->b≠i1->h2.get? b=s.heap.get? b:=λb n1 n2=>(þ.2 b n2).trans (ki b n1);have ā:=(y6 _ hA.TOz hA.TOi1).trans VO;refine Aa (Bp ā rfl ?_);refine Aa (Ec ā λh3 t3 b3=>?_);have É:∀b,b≠z->b≠i1->b≠TO->h3.get? b=s.heap.get? b:=λb n1 n2 n3=>(b3.2 b n3).trans (y6 b n1 n2);exact Aa (CD (Af (Aa (Aa (E1 (Aa (m6 hh (û.move λo e=>(É _ hA.i2z hA.i12.symm hA.TOi2.symm).trans e) (vh.move λo e=>(É _ hA.l2z hA.l2i1 hA.l2TO).trans e) hy λh4 e k ex=>fin (k _ _ hA.i2z.symm ((b3.2 _ hA.TOz.symm).trans ((þ.2 _ hA.i1z.symm).trans z1))) ex λc o n1 n2 n3 n4 ec=>k _ _ n4 ((É _ n1 n3 n2).trans ec))))))))
def iR{s:db}{b2:Bool}{TI TO:f8}{y:cr}{Q:Option cr->db->Prop}(hA:Db z TI TO i1 i2 a1 a2)(hz:gY b1 b2 s.heap z TI TO i1 i2 a1 a2 .none k1 k2)(Gy:dF b1 s.heap a1 xs)(vh:dF b2 s.heap a2 ys)(hx:xs[k1]?=some x)(hy:ys[k2]?=some y)(q:∀h':re,gY b1 b2 h' z TI TO i1 i2 a1 a2 (wv s.heap.objs.size) (k1+1) (k2+1)->Fa h' s.heap.objs.size x y->(∀c o,c≠z->c≠TO->c≠i1->c≠i2->s.heap.get? c=some o->h'.get? c=some o)->Q (some (.ref s.heap.objs.size)) {s with heap:=h'}):gl (im prog w) A (FS (.ref z)) Q E s:=by
 have ty:s.TypeIs (.ref z) "zip":=⟨_,hz.zip,rfl⟩;refine Aa (Ci (AY ty Cp (Bj Cp ty D1 ?_ (DC _))));exact sQ hA hz Gy vh hx hy λh' a b c=>Af (q h' a b c)
def jX{s:db}{b2:Bool}{TI TO:f8}{Q:Option cr->db->Prop}(hh:A.handled=ci)(hA:Db z TI TO i1 i2 a1 a2)(hz:gY b1 b2 s.heap z TI TO i1 i2 a1 a2 .none k1 k2)(Gy:dF b1 s.heap a1 xs)(vh:dF b2 s.heap a2 ys)(hx:xs[k1]?=ci\/ys[k2]?=ci)(q:∀h':re,(∀c o,c≠z->c≠TO->c≠i1->c≠i2->s.heap.get? c=some o->h'.get? c=some o)->Q ci {s with heap:=h'}):gl (im prog w) A (FS (.ref z)) Q E s:=by
 have ty:s.TypeIs (.ref z) "zip":=⟨_,hz.zip,rfl⟩;refine Aa (Ci (AY ty Cp (Bj Cp ty D1 ?_ (DC _))));refine vj hh hA hz Gy vh hx λh' e k ex=>?_;obtain⟨o,eo,hc⟩:=ex;exact Aa (CM ⟨o,eo,hc⟩ Pi (Af (q h' k)))
def tT(b1 b2:Bool)(a1 a2:f8)(xs ys:Array cr):Meets (ul.«zip.__new__» {pos:=[.type "zip",.ref a1,.ref a2]}) (λ_ R s=>dF b1 s.heap a1 xs/\dF b2 s.heap a2 ys/\
  ∀h':re,gY b1 b2 h' (s.heap.objs.size+4) (s.heap.objs.size+2) (s.heap.objs.size+3) s.heap.objs.size (s.heap.objs.size+1) a1 a2 .none 0 0->(∀b o,s.heap.get? b=some o->h'.get? b=some o)->R (.ok (.ret (.ref (s.heap.objs.size+4)))) {s with heap:=h'}):=
 .of_wp λprog w A R s h=>by
  obtain⟨h1,h2,q⟩:=h;refine Aa ?_;refine Aa (BA rfl ?_);refine Aa (BA sub_zip ?_);refine Af ?_;refine Aa ?_;refine Aa ?_;rw[BW];refine Aa ?_;refine Aa (Bb (wJ h1 (Af ?_)));have k1:∀b o,s.heap.get? b=some o->(s.heap.push {cls:=.type (NR b1),data:=.fields #[.ref a1,.int 0 0]}).get? b=some o:=λb o e=>Aj _ e;have g1:(s.heap.push {cls:=.type (NR b1),data:=.fields #[.ref a1,.int 0 0]}).get? s.heap.objs.size=some {cls:=.type (NR b1),data:=.fields #[.ref a1,.int 0 0]}:=An _ rfl;have z1:(s.heap.push {cls:=.type (NR b1),data:=.fields #[.ref a1,.int 0 0]}).objs.size=s.heap.objs.size+1:=BD ..;generalize s.heap.push {cls:=.type (NR b1),data:=.fields #[.ref a1,.int 0 0]}=xc at k1 g1 z1 ⊢;show gl _ _ (forIn [Aw a2] _ _) _ _ _;rw[BW];refine Aa ?_;refine Aa (Bb (wJ (h2.move λo e=>k1 _ _ e) (Af ?_)));show gl _ _ (forIn [] _ _) _ _ _;refine Af (Af ?_);have k2:∀b o,xc.get? b=some o->(xc.push {cls:=.type (NR b2),data:=.fields #[.ref a2,.int 0 0]}).get? b=some o:=λb o e=>Aj _ e;have g2:(xc.push {cls:=.type (NR b2),data:=.fields #[.ref a2,.int 0 0]}).get? xc.objs.size=some {cls:=.type (NR b2),data:=.fields #[.ref a2,.int 0 0]}:=An _ rfl;have z2:(xc.push {cls:=.type (NR b2),data:=.fields #[.ref a2,.int 0 0]}).objs.size=xc.objs.size+1:=BD ..;show gl _ _ (newTuple [.ref s.heap.objs.size,.ref xc.objs.size] >>= λr=>_) _ _ {s with heap:=xc.push {cls:=.type (NR b2),data:=.fields #[.ref a2,.int 0 0]}};generalize xc.push {cls:=.type (NR b2),data:=.fields #[.ref a2,.int 0 0]}=vM at k2 g2 z2 ⊢;refine Aa (Cu ?_ (by show 2<=sizeLine;decide));have k3:∀b o,vM.get? b=some o->(vM.push {cls:=.type "tuple",data:=.seq [Aw s.heap.objs.size,Aw xc.objs.size].toArray}).get? b=some o:=λb o e=>Aj _ e;have g3:(vM.push {cls:=.type "tuple",data:=.seq [Aw s.heap.objs.size,Aw xc.objs.size].toArray}).get? vM.objs.size=some {cls:=.type "tuple",data:=.seq #[.ref s.heap.objs.size,.ref xc.objs.size]}:=An _ rfl;have z3:(vM.push {cls:=.type "tuple",data:=.seq [Aw s.heap.objs.size,Aw xc.objs.size].toArray}).objs.size=vM.objs.size+1:=BD ..;generalize vM.push {cls:=.type "tuple",data:=.seq [Aw s.heap.objs.size,Aw xc.objs.size].toArray}=NY at k3 g3 z3 ⊢;refine Aa (Cu ?_ (by show 2<=sizeLine;decide));have k4:∀b o,NY.get? b=some o->(NY.push {cls:=.type "tuple",data:=.seq [Bc,Bc].toArray}).get? b=some o:=λb o e=>Aj _ e;have g4:(NY.push {cls:=.type "tuple",data:=.seq [Bc,Bc].toArray}).get? NY.objs.size=some {cls:=.type "tuple",data:=.seq #[.none,.none]}:=An _ rfl;have z4:(NY.push {cls:=.type "tuple",data:=.seq [Bc,Bc].toArray}).objs.size=NY.objs.size+1:=BD ..;show gl _ _ (newObj (.type "zip") (.fields #[.none,.bool false,.bool false,.ref vM.objs.size,.ref NY.objs.size]) >>= λr=>_) _ _ {s with heap:=NY.push {cls:=.type "tuple",data:=.seq [Bc,Bc].toArray}};generalize NY.push {cls:=.type "tuple",data:=.seq [Bc,Bc].toArray}=hp4 at k4 g4 z4 ⊢;refine Aa (BO ?_ (by simp[sizeOk];decide));have k5:∀b o,hp4.get? b=some o->(hp4.push {cls:=.type "zip",data:=.fields #[.none,.bool false,.bool false,.ref vM.objs.size,.ref NY.objs.size]}).get? b=some o:=λb o e=>Aj _ e;have g5:(hp4.push {cls:=.type "zip",data:=.fields #[.none,.bool false,.bool false,.ref vM.objs.size,.ref NY.objs.size]}).get? hp4.objs.size=some {cls:=.type "zip",data:=.fields #[.none,.bool false,.bool false,.ref vM.objs.size,.ref NY.objs.size]}:=An _ rfl;have e1:=z1;have e2:vM.objs.size=s.heap.objs.size+2:=by rw[z2,e1]
  have e3:NY.objs.size=s.heap.objs.size+3:=by rw[z3,e2]
  have e4:hp4.objs.size=s.heap.objs.size+4:=by rw[z4,e3]
  refine Af ⟨.ref hp4.objs.size,rfl,?_⟩;rw[e2,e3]at g5 k5 ⊢;rw[e4]at g5 ⊢;rw[e3]at g4;rw[e1,e2]at g3;rw[e1]at g2;refine q _ ⟨g5,k5 _ _ (k4 _ _ g3),⟨_,_,k5 _ _ g4⟩,LJ (k5 _ _ (k4 _ _ (k3 _ _ (k2 _ _ g1)))),LJ (k5 _ _ (k4 _ _ (k3 _ _ g2)))⟩ λb o e=>k5 _ _ (k4 _ _ (k3 _ _ (k2 _ _ (k1 _ _ e))))
def xv{s:db}{b2:Bool}(h1:dF b1 s.heap a1 xs)(h2:dF b2 s.heap a2 ys)(q:∀h':re,gY b1 b2 h' (s.heap.objs.size+4) (s.heap.objs.size+2) (s.heap.objs.size+3) s.heap.objs.size (s.heap.objs.size+1) a1 a2 .none 0 0->(∀b o,s.heap.get? b=some o->h'.get? b=some o)->Q (.ref (s.heap.objs.size+4)) {s with heap:=h'}):gl (im prog w) A (call (.type "zip") [.ref a1,.ref a2]) Q E s:=
 callType_new F.called_zip ⋯ (F.typeCall_zip_2 _ _) (F.newCall_zip_2 _ _) (λo=>F.args_object_init_3 o _ _) F.entry_zip_new (tT b1 b2 a1 a2 xs ys) ⟨h1,h2,λh' z k=>⟨⟨_,z.zip,rfl⟩,q h' z k⟩⟩
def MK(b:Bool)(K:Ab)(H:Hp)(a:f8)(xs:O V):Prop:=match b with
 |true=>bM K H a xs
 |false=>d6 K H a xs
def Inv.W0{s:db}{xs:O V}(I:Inv X U σ H s)(h:MK b X.K H a xs):∃ao:O cr,Vals xs ao/\dF b s.heap a ao.toArray/\xs.length<=sizeLine:=by
 cases b with
 |true=>obtain⟨ao,r,p,z⟩:=I.list (h);exact⟨ao,r,p.isList,z⟩
 |false=>obtain⟨ao,r,p,z⟩:=I.tuple (h);exact⟨ao,r,p,z⟩
def Inv.LI{s:db}{xs ys:O V}(I:Inv X U σ H s)(h:MK b X.K H a xs)(h':MK b X.K H a ys):xs=ys:=by
 cases b with
 |true=>
  obtain⟨ao,k,⟨o,n,h1,h2,h3,h4⟩,_⟩:=I.list (h);obtain⟨eD,k',⟨o',n',ff,sH,RU,ê⟩,_⟩:=I.list (h');rw[h1]at ff;cases ff;rw[h4]at ê;have:ao=eD:=by injection ê with a b;simpa using a
  subst this;exact Vals.inj k k'
 |false=>exact I.lH h h'
def afe(b1 b2:Bool)(K:Ab)(a1 a2:f8):It where
 go:=λi H=>∃xs ys x y,MK b1 K H a1 xs/\MK b2 K H a2 ys/\xs[i]?=some x/\ys[i]?=some y
 TN:=λi H v H'=>∃p x y,v=.ref p/\H p=ci/\H'=upd H p (.tup [x,y])/\(∀xs,MK b1 K H a1 xs->xs[i]?=some x)/\∀ys,MK b2 K H a2 ys->ys[i]?=some y
 stop:=λi H=>∃xs ys,MK b1 K H a1 xs/\MK b2 K H a2 ys/\(xs.length<=i\/ys.length<=i)
theorem MW{K:Ab}{b2:Bool}{kk:Nat}{TI TO:f8}(hA:Db z TI TO i1 i2 a1 a2):Turn P w K (.Tuple Ë kk pos) (afe b1 b2 K a1 a2) [z,TI,TO,i1,i2] z (λi h=>gY b1 b2 h z TI TO i1 i2 a1 a2 .none i i) where
 mem:=by simp
 obj:=λi h st b hb=>by
  simp at hb;rcases hb with rfl|rfl|rfl|rfl|rfl
  .exact⟨_,st.zip,λv z=>by cases z⟩
  .exact⟨_,st.ti,λv z=>by cases z⟩
  .obtain⟨_,_,e⟩:=st.to;exact⟨_,e,λv z=>by cases z⟩
  .exact st.O0.obj
  .exact st.OZ.obj
 keep:=λi h h' st k=>⟨k z (by simp) _ st.zip,k TI (by simp) _ st.ti,let ⟨a,b,e⟩:=st.to;⟨a,b,k TO (by simp) _ e⟩,st.O0.move λo e=>k i1 (by simp) _ e,st.OZ.move λo e=>k i2 (by simp) _ e⟩
 item:=by
  intro X hP hw hK hc i U s σ H E I hf st hg;subst hP hw hK;obtain⟨xs,ys,x,y,hx,hy,gx,gy⟩:=hg;obtain⟨ao,rx,tx,_⟩:=I.W0 hx;obtain⟨cq,ry,ty,_⟩:=I.W0 hy;obtain⟨u,gu,ru⟩:=kr rx gx;obtain⟨v,gv,rv⟩:=kr ry gy;refine iR hA st tx ty (by simpa using gu) (by simpa using gv) λh' zt np k=>?_;refine⟨_,rfl,?_⟩;refine Aa (wpAny_load zt.zip ?_);show gl _ _ (if ((["enumerate","zip","dict_itemiterator","dict_reverseitemiterator","odict_iterator","itertools.zip_longest","itertools.pairwise"].contains "zip"&&(some (wv s.heap.objs.size)==some (wv s.heap.objs.size)))=true) then (do rule "for.unpacks-the-owned-tuple";Os (.ref z) 0 .none) else pure ()) _ _ _;rw[if_pos (by rw[beq_self_eq_true];decide)];refine Aa (CV ?_);refine AM zt.zip (show 0 < 5 by decide) λh2 z2 b2=>?_;have lt:∀b∈[z,TI,TO,i1,i2],b < s.heap.objs.size:=λb hb=>by
   simp only[Ay,Cs,or_false]at hb;rcases hb with rfl|rfl|rfl|rfl|rfl
   .exact Ao st.zip
   .exact Ao st.ti
   .obtain⟨_,_,e⟩:=st.to;exact Ao e
   .obtain⟨o,e,_⟩:=st.O0.obj;exact Ao e
   .obtain⟨o,e,_⟩:=st.OZ.obj;exact Ao e
  have Z0:∀b o,b∉[z,TI,TO,i1,i2]->s.heap.get? b=some o->h2.get? b=some o:=λb o hb e=>by
   have RK:b≠z:=λq=>hb (by simp[q]);rw[b2.2 b RK];exact k b o RK (λq=>hb (by simp[q])) (λq=>hb (by simp[q])) (λq=>hb (by simp[q])) e
  refine⟨.ref s.heap.objs.size,upd H s.heap.objs.size (.tup [x,y]),I.nX hf Z0 (Al _) ⟨by show 2<=sizeLine;decide,[u,v],.cons ru (.cons rv .nil),⟨_,((b2.2 _ (λe=>AE _ (by have:=lt z (by simp);rw[<- e]at this;exact this))).trans np),rfl,_,rfl⟩,_,((b2.2 _ (λe=>AE _ (by have:=lt z (by simp);rw[<- e]at this;exact this))).trans np),rfl⟩,rfl,⟨_,x,y,rfl,(I.ba.fresh (Al s.heap.objs.size)),rfl,λxs' h'=>?_,λys' h'=>?_⟩,⟨z2,(b2.2 _ hA.TIz).trans zt.ti,let ⟨p,q,e⟩:=zt.to;⟨p,q,(b2.2 _ hA.TOz).trans e⟩,zt.O0.move λo e=>(b2.2 _ hA.i1z).trans e,zt.OZ.move λo e=>(b2.2 _ hA.i2z).trans e⟩,λb hb=>?_⟩
  .rw[I.LI h' hx];exact gx
  .rw[I.LI h' hy];exact gy
  .rw[aj (AA (lt b hb))];exact(hf b hb).1
 done:=by
  intro X hP hw hK hc i U s σ H E I hf st hg;subst hP hw hK;obtain⟨xs,ys,hx,hy,hl⟩:=hg;obtain⟨ao,rx,tx,_⟩:=I.W0 hx;obtain⟨cq,ry,ty,_⟩:=I.W0 hy;have el:=rx.length;have ĭ:=ry.length;refine jX (I.ok.hd hc) hA st tx ty ?_ λh' k=>⟨rfl,I.rZ (t':=s.toks) hf λb o hb e=>k b o (λz=>hb (by simp[z])) (λz=>hb (by simp[z])) (λz=>hb (by simp[z])) (λz=>hb (by simp[z])) e⟩;rcases hl with hl|hl
  .exact .inl (by simp;lia)
  .exact .inr (by simp;lia)
 self:=λA i s Q E st h=>E8 st.zip h
def adT(K:Ab)(t1 t2:TE):TI:=λσ H R=>t1 σ H λx H1=>t2 σ H1 λy H2=>∃b1 b2 a b,x=.ref a/\y=.ref b/\(∃xs,MK b1 K H2 a xs)/\(∃ys,MK b2 K H2 b ys)/\R (afe b1 b2 K a b) H2
def UN(K:Ab)(hK:X.K=K){t2:TE}{kk:Nat}{p2:Pos}(hg:Gl X "zip")(hm:X.mg "zip"=ci)(h1:PE X e1 t1)(h2:PE X e2 t2)(mq:‹gt [e1,e2] X.env=(false,pc e1 X.env)::gt [e2] X.env›)(q8:‹gb X e2 []›)(du:‹(t0 p2 (gt [e2] X.env)).any (·.1)=false›):PI X (.Tuple Ë kk tp) (.Call (.Name "zip" p1) [e1,e2] [] p2) (adT K t1 t2):=by
 subst hK;intro U s σ H R I h;refine Br (fc I hg hm boot_zip ?_ ⋯ ⋯);refine A8 ?_ mq du;rw[mq,q8];refine Bl (bE (h1 U s σ H _ I h) λu1 s1 ⟨x,H1,I1,r1,q1⟩=>?_);refine Bl (bE (h2 U s1 σ H1 _ I1 q1) λu2 s2 ⟨y,H2,I2,r2,b1,b2,a,b,ex,ey,⟨xs,hx⟩,⟨ys,hy⟩,q⟩=>BN ?_);subst ex;subst ey;cases r1;cases r2;obtain⟨ao,rx,tx,_⟩:=I2.W0 hx;obtain⟨cq,ry,ty,_⟩:=I2.W0 hy;refine xv tx ty λh' zt k=>?_;refine E8 zt.zip ?_;have dd:∀i j:Nat,i≠j->s2.heap.objs.size+i≠s2.heap.objs.size+j:=λi j n e=>n (Nat.add_left_cancel e);have na:∀i:Nat,a≠s2.heap.objs.size+i:=λi=>AA (Az tx.lt (A5 _ _));have nb:∀i:Nat,b≠s2.heap.objs.size+i:=λi=>AA (Az ty.lt (A5 _ _));have hA:Db (s2.heap.objs.size+4) (s2.heap.objs.size+2) (s2.heap.objs.size+3) s2.heap.objs.size (s2.heap.objs.size+1) a b:=
  ⟨dd 2 4 ⋯,dd 3 4 ⋯,dd 0 4 ⋯,dd 1 4 ⋯,dd 2 3 ⋯,dd 2 0 ⋯,dd 2 1 ⋯,dd 3 0 ⋯,dd 3 1 ⋯,dd 0 1 ⋯,na 4,na 3,na 0,na 1,nb 4,nb 3,nb 0,nb 1⟩
 refine⟨_,_,_,_,H2,rfl,I2.kept k,MW hA,zt,λc hc=>?_,q⟩;have Î:s2.heap.objs.size<=c:=by
  simp at hc;rcases hc with rfl|rfl|rfl|rfl|rfl
  .exact A5 _ _
  .exact A5 _ _
  .exact A5 _ _
  .exact Al _
  .exact A5 _ _
 exact I2.uD Î (I2.ba.fresh Î)
def ada(K:Ab):R2:=λx y H Q=>∃a b xs ys,x=.ref a/\y=.ref b/\d6 K H a xs/\d6 K H b ys/\xs.length+ys.length<=sizeLine/\
 (xs=[]->Q (.ref b) H)/\(xs≠[]->ys=[]->Q (.ref a) H)/\(xs≠[]->ys≠[]->iW H (.tup (xs++ys)) Q)
def U0(K:Ab)(hK:X.K=K):iK X (wf .Add) (ada K):=by
 subst hK;intro U s σ H x y v u Q I rx ry h;obtain⟨a,b,xs,ys,rfl,rfl,ha,hb,hz,q0,q1,q2⟩:=h;by_cases c:xs=[]
 .cases rx;cases ry;obtain⟨ao,r1,p1,_⟩:=I.tuple ha;obtain⟨cq,r2,p2,_⟩:=I.tuple hb;obtain⟨⟨cls,dd,data,sl⟩,ho,hc,n,hd⟩:=id p1;obtain⟨⟨Ť,Wn,data2,Ti⟩,N0,XT,n2,Ò⟩:=id p2;subst hc hd XT Ò;exact concat_meets ⟨_,ho,rfl⟩ ⟨_,N0,rfl⟩ noFill_tuple_add seq_tuple_add DB Dy (Dp _ _)
   (tuple_addW0 a b ao.toArray cq.toArray n n2 dd Wn sl Ti (by rw[r1.jz.mpr c];rfl)) ⟨ho,N0,.ref b,H,I,rfl,q0 c⟩
 .exact L3 U s σ H _ _ v u Q I rx ry ⟨a,b,xs,ys,rfl,rfl,ha,hb,c,hz,q1 c,λn p hp=>(q2 c n).at p hp⟩
end L2
variable{a b:BF}
namespace FL
section
variable[bL]
variable{K:Ab}
section
variable{p2:Pos}{wm:W (O PV)}
def addW:PV->PV->W PV
 |.int i,.int j=>.ret (.int (i+j))
 |.str a,.str b=>.dm (a.length+b.length<=sizeLine) (.ret (.str (a++b)))
 |.tup a,.tup b=>.dm (a.length+b.length<=sizeLine) (.ret (.tup (a++b)))
 |_,_=>.fail
def cj{f2:aG}(hK:X.K=K)(ha:EF X K fs a wa f1)(hb:EF X K f1 b wb f2):EF X K fs (.BinOp a .Add b pos) (.bind wa λx=>.bind wb λy=>addW x y) f2:=
 ⟨PE.imp (dh ((lL K hK).or (U0 K hK)) ha.p hb.p) λσ H Q ⟨sr,q⟩=>⟨sr,wa.mono (λx q1 u1 H1 g1 s1 v1=>⟨s1,wb.mono (λy q2 u2 H2 g2 s2 v2=>by
  have Ā:=g2.vr s1 v1;cases Ā with
  |int i=>
   cases v2 with
   |int j=>exact .inl ⟨_,rfl,q2 _ H2 (g1.trans g2) s2 (.int _)⟩
   |_=>exact q2.elim
  |str i=>
   cases v2 with
   |str j=>exact .inl ⟨_,rfl,q2.1,q2.2 _ H2 (g1.trans g2) s2 (.str _)⟩
   |_=>exact q2.elim
  | @tup p vs l e r=>
   cases v2 with
   | @tup p' Pe l' e' r'=>
    refine .inr ⟨p,p',vs,Pe,rfl,rfl,d6.of e,d6.of e',by rw[r.length,r'.length];exact q2.1,λz=>?_,λ_ z=>?_,λ_ _ q H3 s3 h3 n3=>?_⟩
    .have z':=(PL.ax.jz r).mp z;subst z';exact q2.2 _ H2 (g1.trans g2) s2 (.tup e' r')
    .have z':=(PL.ax.jz r').mp z;subst z';have q2:=q2.2;rw[Du]at q2;exact q2 _ H2 (g1.trans g2) s2 (.tup e r)
    .exact q2.2 _ H3 ((g1.trans g2).trans (bR.same s3)) (s2.same s3) (.tup h3 (ax.tk s3.d7 (r.append r')))
   |_=>exact q2.elim
  |_=>exact q2.elim) q1⟩) q⟩⟩
theorem nS:∀(l m:O PV),(pR l m).length=min l.length m.length
 |[],m=>by rw[pR];simp;intros;simp_all
 |x::l,[]=>by rw[pR];simp;intros;simp_all
 |x::l,y::m=>by rw[pR,Ax,nS l m];simp only[Ax];lia
def MU(l m:O PV):W (O PV):=.dm (l.length<=sizeLine) (.ret (pR l m))
def LK{l:O PV}(h:SqI K H u l):∃(b:Bool) (a:f8) (vs:O V),u=.ref a/\ax K [] H vs l/\∀H',bb K H H'->MK b K H' a vs:=by
 obtain⟨a,vs,e,h|h,r⟩:=h
 .exact⟨true,a,vs,e,r,λH' t=>(t.f _ _ h).sq⟩
 .exact⟨false,a,vs,e,r,λH' t=>d6.of (t.t _ _ h)⟩
theorem RE(hK:X.K=K){kk:Nat}(hg:Gl X "zip")(hm:X.mg "zip"=ci)(ha:IF X K fs a wl)(hb:IF X K fs b wm)(mq:‹gt [a,b] X.env=(false,pc a X.env)::gt [b] X.env›)(q8:‹gb X b []›)(du:‹(t0 p2 (gt [b] X.env)).any (·.1)=false›):mR X K fs (.Tuple Ë kk tp) (.Call (.Name "zip" p1) [a,b] [] p2) (.bind wl λl=>.bind wm λm=>MU l m):=
 ⟨PI.imp (UN K hK hg hm ha.p hb.p mq q8 du) λσ H R ⟨sr,q⟩=>⟨sr,wl.mono (λl q1 u1 H1 g1 s1 v1=>⟨s1,wm.mono (λm q2 u2 H2 g2 s2 v2=>by
  obtain⟨b1,a1,vs,rfl,r1,x1⟩:=LK (v1.tk (g2.cB s1));obtain⟨b2,a2,ws,rfl,r2,x2⟩:=LK v2;have tr:bb K H2 H2:=bb.refl H2;refine⟨b1,b2,a1,a2,rfl,rfl,⟨vs,x1 H2 tr⟩,⟨ws,x2 H2 tr⟩,q2.2 _ H2 (g1.trans g2) s2 ⟨by rw[nS];have:=q2.1;lia,λH' t=>⟨λi pp hp=>?_,vs,ws,x1 H' t,x2 H' t,?_⟩⟩⟩
  .obtain⟨x,y,hx,hy,rfl⟩:=sR hp;obtain⟨v,h3,h4⟩:=(ax.tk t r1).get hx;obtain⟨v',RU,ê⟩:=(ax.tk t r2).get hy;refine⟨⟨vs,ws,v,v',x1 H' t,x2 H' t,h3,RU⟩,λz H3 yl=>?_⟩;obtain⟨p,x',y',rfl,hn,rfl,e1,e2⟩:=yl;have e1:=e1 vs (x1 H' t);have e2:=e2 ws (x2 H' t);rw[h3]at e1;rw[RU]at e2;cases e1;cases e2;have sm:=iO hn (.tup [v,v']);exact⟨sm,.tup ay (.cons (VR.tk sm.d7 h4) (.cons (VR.tk sm.d7 ê) .nil))⟩
  .rw[nS,r1.length,r2.length];lia) q1⟩) q⟩⟩
variable{el eh:Option nw}{st:nw}{lo ws:W (Option Int)}
def Up(l:O PV)(i j k:Option Int):W (O PV):=.dm (k≠some 0) (.ret (kJ l i j k))
def adF(hK:X.K=K)(he:IV X K fs e wl)(hl:OF X K fs el lo)(hh:OF X K fs eh hi)(hs:OF X K fs (some st) ws):LF X K fs (.Subscript e (.Slice el eh (some st) p2) pos) (.bind wl λl=>.bind lo λi=>.bind hi λj=>.bind ws λk=>Up l i j k):=
 ⟨PE.imp (Nn K hK he.p hl.p hh.p hs.p) λσ H Q ⟨sr,q⟩=>⟨sr,wl.mono (λl q1 u1 H1 g1 s1 _ v1=>⟨s1,lo.mono (λi q2 H2 g2 s2=>⟨s2,hi.mono (λj q3 H3 g3 s3=>⟨s3,ws.mono (λk q4 H4 g4 s4=>by
 obtain⟨a,vs,rfl,h1,r1⟩:=v1 _ H4 ((g2.trans g3).trans g4) s4;exact⟨a,vs,rfl,h1,q4.1,wN (((g1.trans g2).trans g3).trans g4) s4 (r1.pick i j k) q4.2⟩) q3⟩) q2⟩) q1⟩) q⟩⟩
end
end
end FL
namespace L2
def alA:O Int->Int
 |[]=>0
 |x::l=>l.foldl max x
def vC:O Int->Int
 |[]=>0
 |x::l=>l.foldl min x
theorem zj(l:O Int)(x:Int):l.foldl min x<=x/\(∀y∈l,l.foldl min x<=y)/\(l.foldl min x=x\/l.foldl min x∈l):=by
 induction l generalizing x with
 |nil=>exact⟨BC _,by simp,.inl rfl⟩
 |cons y l ih=>
  obtain⟨h1,h2,h3⟩:=ih (min x y);refine⟨by rw[Ds];lia,λz hz=>?_,?_⟩
  .rw[Ds];rcases Ay.mp hz with rfl|hz
   .omega
   .exact h2 z hz
  .rw[Ds];rcases h3 with h3|h3
   .rw[h3];by_cases c:y<=x
    .right;rw[Int.min_eq_right c];exact .head _
    .left;lia
   .exact .inr (.tail _ h3)
def sD{l:O Int}{x:Int}(h:x∈l):vC l<=x:=by
 cases l with
 |nil=>cases h
 |cons y l=>
  rcases Ay.mp h with rfl|h
  .exact(zj l _).1
  .exact(zj l y).2.1 x h
def oE{l:O Int}(h:l≠[]):vC l∈l:=by
 cases l with
 |nil=>exact absurd rfl h
 |cons y l=>
  rcases (zj l y).2.2 with e|e
  .show l.foldl min y∈_;rw[e];exact .head _
  .exact .tail _ e
def Qk(K:Ab)(C:O Int->Prop)(g:O Int->Int):O V->Hp->VK->Prop:=λxs H Q=>∃(p:f8) (ns:O Int),xs=[.ref p]/\bM K H p (ns.map V.int)/\C ns/\Q (.int (g ns)) H
section
variable{s:db}
theorem Vj{xs:Array (Int×Tok)}(N1:ns=xs.toList.map (·.1))(yW:ns≠[]):numAt xs (argBest (λi j=>decide (numAt xs i<numAt xs j)) (xs.size-1))=vC ns:=by
 have hsz:0<xs.size:=by
  have h3:=Dl.mpr yW;rw[N1,Ai,Em]at h3;exact h3
 obtain⟨h1,h2⟩:=argBest_lt (numAt xs) (xs.size-1);apply FN
 .have hm:=oE yW;rw[N1]at hm;obtain⟨j,hj,ej⟩:=mem_getD hm;rw[Ai,Em]at hj;rw[<- N1]at ej;rw[<- ej,N1,<- numAt_eq];exact h2 j ∅
 .refine sD ?_;rw[N1,numAt_eq];exact getD_mem (by rw[Ai,Em];lia)
def M4{l:f8}{vs:O cr}(hh:A.handled=ci)(hl:s.heap.IsList l vs.toArray)(hi:EQ vs ns)(h:∀(h':re) (t:Tok) tk,(∀b o,s.heap.get? b=some o->h'.get? b=some o)->Q (.int ns.sum t) {s with heap:=h',toks:=tk}):gl (im prog w) A (call (.builtin "sum") [.ref l]) Q E s:=by
 obtain⟨xs,e⟩:=hi.allInts.items;have N1:ns=xs.toList.map (·.1):=by rw[<- hi.numsOf,<- nums_intItems,<- e]
 rw[e]at hl;refine sum_intListG hh hl λh' tk t' hk=>?_;have:=h h' t' tk hk;rw[preSum_eq,Cq (by simp),<- N1];exact this
end
def OG{b:String}{C:O Int->Prop}{g:O Int->Int}(K:Ab)(hK:X.K=K)(hc:X.calm=true)(Ø:∀{s:db}{l:f8}{vs:O cr}{ns:O Int}{Q:cr->db->Prop},X.A.handled=ci->s.heap.IsList l vs.toArray->EQ vs ns->C ns->(∀(h':re) (t:Tok) tk,(∀b o,s.heap.get? b=some o->h'.get? b=some o)->Q (.int (g ns) t) {s with heap:=h',toks:=tk})->gl (im X.prog X.w) X.A (call (.builtin b) [.ref l]) Q X.xe s):cz X (.builtin b) (Qk K C g):=by
 subst hK;intro U s σ H xs us Q I r h;obtain⟨p,ns,rfl,hq,hC,q⟩:=h;obtain⟨u,rfl,rx⟩:=vals1 r;cases rx;obtain⟨ao,r',pl,hz⟩:=I.list hq;exact Ø (I.ok.hd hc) pl.isList (intsAre_of r') hC λh' t tk hk=>⟨.int _,H,I.kept hk,⟨t,rfl⟩,q⟩
end L2
variable{x:PL.PV}
namespace FL
section
variable[bL]
variable{K:Ab}
section
variable{s:db}
open Classical in
noncomputable def KA(K:Ab)(H:Hp)(x:PV)(w:cr):Bool:=decide (∃p v,RelV v w/\VR K [] H v p/\kf p x=true)
open Classical in
def Sj(hK:X.K=K)(I:Inv X U σ H s){x p:PV}{v:V}{w:cr}(r:RelV v w)(h:VR K [] H v p):KA K H x w=kf p x:=by
 subst hK;cases e:kf p x with
 |true=>exact decide_eq_true ⟨p,v,r,h,e⟩
 |false=>
  refine decide_eq_false ?_;rintro⟨p',v',r',h',e'⟩;have:=Qc r r';subst this;rw[VR.O5 I h h',e']at e;cases e
theorem sL(hK:X.K=K)(I:Inv X U σ H s):∀{vs:O V}{ao:O cr}{l:O PV},Vals vs ao->ax K [] H vs l->ao.map (KA K H x)=l.map λy=>kf y x
 |_,_,_,.nil,.nil=>rfl
 |_,_,_,.cons r t,.cons q z=>by rw[Ar,Ar,Sj hK I r q,sL hK I t z]
def HL(x:PV)(l:O PV):Prop:=PV.fg x=true/\eG l=true/\dE l<=150
theorem qA(hK:X.K=K)(I:Inv X U σ H s){v:V}{w:cr}(hx:VR K [] H v x)(rx:RelV v w)(dx:PV.fg x=true)(hu:A.units+150+1<sn):∀{vs:O V}{ao:O cr}{l:O PV},Vals vs ao->ax K [] H vs l->eG l=true->dE l<=150->∀u∈ao,DZ A s u w (KA K H x u)
 |_,_,_,.nil,.nil,_,_,u,hu=>by cases hu
 |_,_,_,.cons r t,.cons q z,d,dd,u,hm=>by
  rw[eG,A9]at d;rw[dE]at dd;rcases Ay.mp hm with rfl|hm
  .rw[Sj hK I r q];exact(abb hK I 150 _ x A _ v _ w ∅ d.1 dx q hx r rx hu).eq
  .exact qA hK I hx rx dx hu t z d.2 ∅ u hm
end
def o6(x:PV)(l:O PV):Bool:=l.any λy=>kf y x
def Zf(K:Ab)(neg:Bool):R2:=λx y H Q=>∃p vs l xp,y=.ref p/\(bM K H p vs\/d6 K H p vs)/\ax K [] H vs l/\VR K [] H x xp/\HL xp l/\Q (.bl (if neg then !o6 xp l else o6 xp l)) H
section
theorem any_map'(f:α->Bool):∀l:List α,l.any f=(l.map f).any id
 |[]=>rfl
 |x::l=>by rw[Cj,Ar,Cj,any_map' f l];rfl
theorem QY(K:Ab)(hK:X.K=K)(hu:X.A.units+200<sn):iK X (ss .In) (Zf K false):=by
 intro U s σ H x y v u Q I rx ry h;obtain⟨p,vs,l,xp,rfl,hq,hl,hx,ok,q⟩:=h;cases ry;have Tu:X.A.in1.units+150+1<sn:=by show X.A.units+1+150+1<_;lia
 have fin:∀{ao:O cr},Vals vs ao->ao.toArray.any (KA K H xp)=o6 xp l:=λ{ao} r=>by
  rw[show ao.toArray.any (KA K H xp)=ao.any (KA K H xp) by simp,any_map',sL hK I r hl,<- any_map'];rfl
 rcases hq with hq|hq
 .obtain⟨ao,r,pl,hz⟩:=I.list (show bM X.K H p vs by rw[hK];exact hq);refine SeqAt.in_listAt (KA K H xp) pl.isList (λw hw=>qA hK I hx rx ok.1 Tu r hl ok.2.1 ok.2.2 w (by simpa using hw)) ⟨.bl _,H,I,rfl,?_⟩;rw[fin r];exact q
 .obtain⟨ao,r,pl,hz⟩:=I.tuple (show d6 X.K H p vs by rw[hK];exact hq);refine SeqAt.in_tupleAt (KA K H xp) pl (λw hw=>qA hK I hx rx ok.1 Tu r hl ok.2.1 ok.2.2 w (by simpa using hw)) ⟨.bl _,H,I,rfl,?_⟩;rw[fin r];exact q
theorem UZ(K:Ab)(hK:X.K=K)(hu:X.A.units+200<sn):iK X (ss .NotIn) (Zf K true):=by
 intro U s σ H x y v u Q I rx ry h;obtain⟨p,vs,l,xp,rfl,hq,hl,hx,ok,q⟩:=h;cases ry;have Tu:X.A.in1.units+150+1<sn:=by show X.A.units+1+150+1<_;lia
 have fin:∀{ao:O cr},Vals vs ao->ao.toArray.any (KA K H xp)=o6 xp l:=λ{ao} r=>by
  rw[show ao.toArray.any (KA K H xp)=ao.any (KA K H xp) by simp,any_map',sL hK I r hl,<- any_map'];rfl
 rcases hq with hq|hq
 .obtain⟨ao,r,pl,hz⟩:=I.list (show bM X.K H p vs by rw[hK];exact hq);refine SeqAt.notIn_listAt (KA K H xp) pl.isList (λw hw=>qA hK I hx rx ok.1 Tu r hl ok.2.1 ok.2.2 w (by simpa using hw)) ⟨.bl _,H,I,rfl,?_⟩;rw[fin r];exact q
 .obtain⟨ao,r,pl,hz⟩:=I.tuple (show d6 X.K H p vs by rw[hK];exact hq);refine SeqAt.notIn_tupleAt (KA K H xp) pl (λw hw=>qA hK I hx rx ok.1 Tu r hl ok.2.1 ok.2.2 w (by simpa using hw)) ⟨.bl _,H,I,rfl,?_⟩;rw[fin r];exact q
def HM(x:PV)(l:O PV):Nat:=l.findIdx λy=>kf y x
def ac7(K:Ab):V->O V->Hp->VK->Prop:=λx us H Q=>∃p vs l y q,x=.ref p/\us=[y]/\bM K H p vs/\ax K [] H vs l/\VR K [] H y q/\HL q l/\o6 q l=true/\Q (.int (HM q l)) H
theorem Ve(K:Ab)(hK:X.K=K)(hu:X.A.units+200 < sn):Lj X "list.index" (ac7 K):=by
 intro U s σ H x vs v us Q I rx rv h;obtain⟨p,ws,l,y,q,rfl,rfl,hq,hl,hy,ok,has,qq⟩:=h;cases rx;obtain⟨u,rfl,ru⟩:=rv.one;have Tu:X.A.in1.units+150+1<sn:=by show X.A.units+1+150+1<_;lia
 obtain⟨ao,r,⟨⟨cls,dd,data,sl⟩,n,ho,hc,hd,nr⟩,hz⟩:=I.list (show bM X.K H p ws by rw[hK];exact hq);simp only at hc hd nr;subst hc hd nr;have Á:ao.length=l.length:=by rw[<- r.length,hl.length]
 have kT:HM q l<l.length:=List.findIdx_lt_length_of_exists (by simpa[o6]using has);have at':∀j h1 (h2:j<l.length),KA K H q ao[j]=kf l[j] q:=λj h1 h2=>by
  have e:=congrArg (λz=>z[j]?) (sL (x:=q) hK I r hl);simp only[Ah,Ad h1,Ad h2,Cz]at e;exact Option.some.inj e
 have hsm:((HM q l):Int)<2 ^ 63-1:=by
  have h8:l.length<=sizeLine:=by rw[<- hl.length];exact hz
  have h9:sizeLine<2 ^ 63-1:=by decide
  lia
 refine v4 F.slot_list_index ⟨_,ho,rfl⟩ F.entry_list_index (F.args_list_index_2 _ _) (SeqAt.list_indexAt p ao.toArray n ci sl u (KA K H q) (HM q l) (by rw[Am];lia) hsm ?_ ?_) ⟨ho,?_,?_⟩
 .have h1:HM q l<ao.length:=by lia
  rw[show ao.toArray[HM q l]'(by rw[Am];lia)=ao[HM q l] by simp,at' _ h1 kT];exact List.findIdx_getElem (w:=kT)
 .intro m hm hmj;have h1:m<ao.length:=by rw[Am]at hm;exact hm
  rw[show ao.toArray[m]=ao[m] by simp,at' _ h1 ∅];have:=List.not_of_lt_findIdx hmj;simpa using this
 .intro w hw;exact qA hK I hy ru ok.1 Tu r hl ok.2.1 ok.2.2 w (by simpa using hw)
 .exact⟨.int _,H,I.tok _,⟨_,rfl⟩,qq⟩
end
end
end FL
variable{Q:PL.PV->Prop}
namespace FL
section
variable[bL]
variable{K:Ab}
section
variable{c:nw}{w:W PV}
def rO(neg:Bool)(x:PV)(l:O PV):W Bool:=.dm (HL x l) (.ret (if neg then !o6 x l else o6 x l))
def R8:∀σ H Q,fT K fs (.bind wa λx=>.bind wl λl=>rO neg x l) fs σ H Q->WU (Zf K neg) (fE K fs wa) (fQ K fs wl) σ H λx H'=>∃k,x=.bl k/\Q k H':=λσ H Q ⟨sr,q⟩=>
 ⟨sr,wa.mono (λx q1 u1 H1 g1 s1 v1=>⟨s1,wl.mono (λl q2 u2 H2 g2 s2 v2=>by
  obtain⟨ad,vs,rfl,h,rs⟩:=v2.sq s2;exact⟨ad,vs,l,x,rfl,h,rs,g2.vr s1 v1,q2.1,_,rfl,q2.2 H2 (g1.trans g2) s2⟩) q1⟩) q⟩
def acv(hK:X.K=K)(hu:X.A.units+200<sn)(ha:EF X K fs a wa)(hb:QF X K fs b wl)(hk:‹sB .In b=false›):TF X K fs (.Compare a [.In] [b] pos) (.bind wa λx=>.bind wl λl=>rO false x l):=⟨PT.imp (gp (QY K hK hu) ha.p hb.p hk) (R8)⟩
def Po(hK:X.K=K)(hu:X.A.units+200<sn)(ha:EF X K fs a wa)(hb:QF X K fs b wl)(hk:‹sB .NotIn b=false›):TF X K fs (.Compare a [.NotIn] [b] pos) (.bind wa λx=>.bind wl λl=>rO true x l):=⟨PT.imp (gp (UZ K hK hu) ha.p hb.p hk) (R8)⟩
abbrev aal(neg:Bool)(wa:W PV)(wl:W (O PV)):W Bool:=.bind wa λx=>.bind wl λl=>rO neg x l
def tm(l:O PV):W PV:=.bind (qY l) λns=>.ret (.int ns.sum)
def NV{C:O Int->Prop}{g:O Int->Int}{f:O PV->W PV}(hf:∀{l:O PV}{Q:PV->Prop},(f l).run Q->∃ns:O Int,l=ns.map PV.int/\C ns/\Q (.int (g ns))):∀σ H Q,fE K fs (.bind wl f) fs σ H Q->tCB (Qk K C g) (Pu (fQL K fs wl) YI) σ H Q:=λσ H Q ⟨sr,q⟩=>⟨sr,wl.mono (λl q1 u1 H1 g1 s1 _ v1=>by
 obtain⟨ns,el,hC,q2⟩:=hf q1;obtain⟨a,vs,rfl,h1,r1⟩:=v1 _ H1 .refl s1;rw[el]at r1;have:=oZ r1;subst this;exact⟨a,ns,rfl,h1,hC,q2 _ H1 g1 s1 (.int _)⟩) q⟩
def M5{l:O PV}(h:(tm l).run Q):∃ns:O Int,l=ns.map PV.int/\True/\Q (.int ns.sum):=let ⟨ns,e,q⟩:=lT h;⟨ns,e,trivial,q⟩
def So(hK:X.K=K)(hc:X.calm=true)(hg:Gl X "sum")(hm:X.mg "sum"=ci)(ha:IV X K fs e wl)(he:‹gb X e []›)(du:‹km X pos []›):EF X K fs (.Call (.Name "sum" p) [e] [] pos) (.bind wl tm):=⟨PE.imp (fD (OG K hK hc λa b c _ q=>M4 a b c q) hg hm (show sw "sum"=some (.builtin "sum") by rfl) (aJ ha.p bj he) ⋯ ⋯ he du) (NV M5)⟩
def sortI(ns:O Int):O Int:=ns.mergeSort (λa b=>decide (a<=b))
theorem PN(h1:ms.Perm ns)(h2:ms.Pairwise (·<=·)):ms=sortI ns:=by
 exact List.Perm.eq_of_pairwise (λa b _ _ h h'=>FN h h') h2 ((E9 (λa b c=>by simp;lia) (λa b=>by simp;lia) ns).imp (by simp)) (h1.trans (Dj ns _).symm)
def xU(l:O PV):W (O PV):=.bind (qY l) λns=>.dm (ns.length<64) (.ret ((sortI ns).map PV.int))
def Vq(hK:X.K=K)(hg:Gl X "sorted")(hm:X.mg "sorted"=ci)(ha:IV X K fs e wl)(he:‹gb X e []›)(du:‹km X pos []›):LF X K fs (.Call (.Name "sorted" p) [e] [] pos) (.bind wl xU):=⟨PE.imp (fD (K2 K hK) hg hm boot_sorted (aJ ha.p bj he) ⋯ ⋯ he du) λσ H Q ⟨sr,q⟩=>⟨sr,wl.mono (λl q1 u1 H1 g1 s1 _ v1=>by
 obtain⟨ns,el,hC,q2⟩:=lT q1;obtain⟨a,vs,rfl,h1,r1⟩:=v1 _ H1 .refl s1;rw[el]at r1;have:=oZ r1;subst this;refine⟨a,ns,rfl,h1,hC,λms a2 a3=>?_⟩;rw[PN a2 a3];exact wN g1 s1 (yT _ _ _) q2) q⟩⟩
def aan(l:O PV)(x:PV):W PV:=.dm (HL x l/\o6 x l=true) (.ret (.int (HM x l)))
def V8(hK:X.K=K)(hu:X.A.units+200 < sn)(ho:IV X K fs o wl)(he:EF X K fs e w)(cH:‹pr o "index" X.env (pc o X.env)=pc o X.env›)(jH:‹WK X a9 [e]›)(cG:‹MR À a9›)(o5:‹gb X e []›)(cg:‹km X a9 []›):EF X K fs (.Call (.Attribute o "index" À) [e] [] a9) (.bind wl λl=>.bind w λx=>aan l x):=
 ⟨PE.imp (jy K hK Bm PySem.F.slot_list_index PySem.F.type_list_index (Ve K hK hu) ho.p (aJ he.p bj o5) cH jH cG o5 cg) λσ H Q ⟨sr,q⟩=>⟨sr,wl.mono (λl q1 u1 H1 g1 s1 _ v1=>by
  obtain⟨a,vs,eu,h1,_⟩:=v1 _ H1 .refl s1;subst eu;refine⟨.inl ⟨rfl,_,h1⟩,s1,w.mono (λx q2 u2 H2 g2 s2 v2=>?_) q1⟩
  .obtain⟨a',vs,ea,h2,r2⟩:=v1 _ H2 g2 s2;cases ea;exact⟨a,vs,l,u2,x,rfl,rfl,h2,r2,v2,q2.1.1,q2.1.2,q2.2 _ H2 (g1.trans g2) s2 (.int _)⟩) q⟩⟩
end
end
end FL
variable{vs:O (L2.Key×L2.V)}{kvs:O (L2.Key×PL.PV)}{q:L2.Key×PL.PV}
namespace FL
section
variable[bL]
variable{K:Ab}
abbrev w2(f:PV->PV->W PV)(wa wb:W PV):W PV:=.bind wa λx=>.bind wb λy=>f x y
def NI:PV->W Key
 |.int i=>.ret (.inl i)
 |.str s=>.ret (.inr s)
 |_=>.fail
def vO(kvs:O (Key×PV))(k:Key):Bool:=kvs.any λkv=>decide (kv.1=k)
def g9(kvs:O (Key×PV))(k:Key):Option PV:=(kvs.find? λkv=>decide (kv.1=k)).map (·.2)
def mT(kvs:O (Key×PV))(k:Key)(v:PV):O (Key×PV):=if vO kvs k=true then kvs.map (λkv=>if kv.1=k then (kv.1,v) else kv) else kvs++[(k,v)]
def bX(K:Ab)(H:Hp)(vs:O (Key×V))(kvs:O (Key×PV)):Prop:=vs.map (·.1)=kvs.map (·.1)/\ax K [] H (vs.map (·.2)) (kvs.map (·.2))
section
def bX.cons_inv{p:Key×V}(h:bX K H (p::vs) (q::kvs)):p.1=q.1/\VR K [] H p.2 q.2/\bX K H vs kvs:=by
 obtain⟨h1,h2⟩:=h;injection h1 with a b;cases h2 with
 |cons r t=>exact⟨a,r,b,t⟩
def bX.mk{p:Key×V}(e:p.1=q.1)(r:VR K [] H p.2 q.2)(h:bX K H vs kvs):bX K H (p::vs) (q::kvs):=⟨by rw[Ar,Ar,e,h.1],.cons r h.2⟩
theorem bX.ind{C:O (Key×V)->O (Key×PV)->Prop}(h0:C [] [])(h1:∀p q vs kvs,p.1=q.1->VR K [] H p.2 q.2->bX K H vs kvs->C vs kvs->C (p::vs) (q::kvs)):∀{vs kvs},bX K H vs kvs->C vs kvs
 |[],[],_=>h0
 |[],_::_,h=>by simp[bX]at h
 |_::_,[],h=>by simp[bX]at h
 |p::vs,q::kvs,h=>let ⟨a,b,c⟩:=h.cons_inv;h1 p q vs kvs a b c (bX.ind h0 h1 c)
def bX.has(h:bX K H vs kvs)(k:Key):(iq vs k).isSome=vO kvs k:=by
 rw[<- nU];refine bX.ind (C:=λvs kvs=>(vs.any λkv=>decide (kv.1=k))=kvs.any λkv=>decide (kv.1=k)) rfl (λp q vs kvs e _ _ ih=>?_) h;rw[Cj,Cj,ih,e]
def bX.get(h:bX K H vs kvs)(k:Key)(g:g9 kvs k=some v):∃u,iq vs k=some u/\VR K [] H u v:=by
 refine bX.ind (C:=λvs kvs=>g9 kvs k=some v->∃u,iq vs k=some u/\VR K [] H u v) (λg=>by simp[g9]at g) (λp q vs kvs e r _ ih g=>?_) h g;by_cases c:p.1=k
 .rw[ku c];have c':=e▸c;have:g9 (q::kvs) k=some q.2:=by simp[g9,c']
  rw[this]at g;cases g;exact⟨_,rfl,r⟩
 .rw[kx c];have:g9 (q::kvs) k=g9 kvs k:=by simp[g9,(e▸c)]
  exact ih (this▸g)
def bX.put(h:bX K H vs kvs)(k:Key)(r:VR K [] H u v):bX K H (putK vs k u) (mT kvs k v):=by
 have hh:(vs.any λkv=>decide (kv.1=k))=vO kvs k:=by rw[nU];exact h.has k
 unfold putK mT;rw[hh]
 split
 .refine bX.ind (C:=λvs kvs=>bX K H (vs.map λkv=>if kv.1=k then (kv.1,u) else kv) (kvs.map λkv=>if kv.1=k then (kv.1,v) else kv)) ⟨rfl,.nil⟩ (λp q vs kvs e rr _ ih=>?_) h;rw[Ar,Ar];by_cases c:p.1=k
  .rw[if_pos c,if_pos (e▸c)];exact bX.mk e r ih
  .rw[if_neg c,if_neg (e▸c)];exact bX.mk e rr ih
 .refine bX.ind (C:=λvs kvs=>bX K H (vs++[(k,u)]) (kvs++[(k,v)])) ⟨rfl,.cons r .nil⟩ (λp q vs kvs e rr _ ih=>bX.mk e rr ih) h
def bX.length(h:bX K H vs kvs):vs.length=kvs.length:=by
 have:=congrArg B5 h.1;simpa using this
end
section
variable{rest:O wn}{T:Type}{out:T->End}{x:Bool}
def oq(sr:aQ K H σ fs)(hs:fs[i]?=some (some (.od kvs))):∃a vs,σ[i]?=some (some (.ref a))/\H a=some (.dK vs)/\bX K H vs kvs:=by
 obtain⟨u,e1,r⟩:=sr.at' i _ hs;rcases r with⟨v,e,_⟩|⟨a,e,vs,q1,q2,q3⟩
 .cases e
 .subst e;exact⟨a,vs,e1,q1,q2,q3⟩
def SF.acO{k:W T}{p2:Pos}(hN:X.N.Nodup)(hi:X.N[i]?=some y)(hx:Loc X.env.scope y)(hr:SF X K x (fs.set i (some (.od []))) rest k out)(hs:‹o0 (.Dict [] [] p2) (some (.Name y p')) pos.line X.env=pure false›)(hf:MP X y:=by first|exact .inl rfl|exact .inr rfl|assumption):SF X K x fs (.Assign [.Name y p'] (.Dict [] [] p2) pos::rest) k out:=SF.step (ir hN hi hx QP hs hf) λD σ H ⟨sr,q⟩=>λa H1 s1 e1 n1=>by
 have no:=sr.noOwn n1;have s2:=(sr.same s1).mU (t:=.od []) ⟨[],e1,rfl,.nil⟩ no i;exact⟨_,k,hr,s2,k.mono (λt q2=>q2.go (cn.mU (sr.same s1) (bR.same s1) no n1 i) sr s2) q⟩
def XD{Q:Key->Prop}(r:VR K [] H u v)(q:(NI v).run Q):∃k,u=kV k/\Q k:=by
 cases r with
 |int i=>exact⟨.inl i,rfl,q⟩
 |str s=>exact⟨.inr s,rfl,q⟩
 |_=>exact q.elim
def VM(i:Nat)(hs:fs[i]?=some (some (.od kvs)))(hN:X.N[i]?=some y):∀σ H Q,fT K fs (.bind wa λx=>.bind (NI x) λk=>.ret (if neg then !vO kvs k else vO kvs k)) fs σ H Q->(fE K fs wa) σ H λu H1=>(Jt i) σ H1 λz H2=>∃a o,z=.ref a/\lF H2 a u o/\(∃b,(V.bl (if neg then !o.isSome else o.isSome))=.bl b/\Q b H2):=λσ H Q ⟨sr,q⟩=>
 ⟨sr,wa.mono (λv q1 u H1 g1 s1 v1=>by
  obtain⟨k,rfl,q2⟩:=XD v1 q1;obtain⟨a,vs,e1,h1,r1⟩:=oq s1 hs;refine⟨_,e1,a,_,rfl,lF.k h1,_,rfl,?_⟩;rw[r1.has k];exact q2 H1 g1 s1) q⟩
theorem ajo(i:Nat)(hs:fs[i]?=some (some (.od kvs)))(hu:X.A.units+200<sn)(ha:EF X K fs a wa)(hN:‹X.N[i]?=some y›)(hv:v9 X.env.scope y:=by first|exact B1 rfl|exact Cd (B1 rfl)|exact Cd (Cd rfl))(hd: ~~~(gZ y))(gU: ~~~(xF y))(hk:‹sB .In (.Name y p)=false›):TF X K fs (.Compare a [.In] [.Name y p] pos) (.bind wa λx=>.bind (NI x) λk=>.ret (vO kvs k)):=⟨PT.imp (Qu (Zp ∅ ha.p (cX hN hv hd gU)) hk) (VM (neg:=false) i hs hN)⟩
def UK(kvs:O (Key×PV))(n v:PV):W (O (Key×PV)):=.bind (NI n) λkk=>.dm (kvs.length<sizeLine) (.ret (mT kvs kk v))
theorem SF.putD(i:Nat){k:O (Key×PV)->W T}(hs:fs[i]?=some (some (.od kvs)))(hu:X.A.units+200<sn)(hN:X.N[i]?=some y)(hv:v9 X.env.scope y)(he:EF X K fs e we)(hi:EF X K fs ei wi)(hr:∀l',SF X K x (fs.set i (some (.od l'))) rest (k l') out)(hd: ~~~(gZ y))(gU: ~~~(xF y))(mn:‹o0 e (some (.Subscript (.Name y p) ei xO)) pos.line X.env=pure false›):SF X K x fs (.Assign [.Subscript (.Name y p) ei xO] e pos::rest) (.bind we λv=>.bind wi λn=>.bind (UK kvs n v) k) out:=
 SF.step (LW ∅ (cX hN hv hd gU) hi.p he.p mn) λD σ H ⟨sr,q⟩=>by
  refine⟨sr,we.mono (λv q1 u H1 g1 s1 v1=>?_) q⟩;obtain⟨a,vs,e1,h1,r1⟩:=oq s1 hs;refine⟨_,e1,s1,wi.mono (λn q2 u2 H2 g2 s2 v2=>?_) q1⟩;obtain⟨kk,rfl,hz,q3⟩:=XD v2 q2;obtain⟨a',Pe,k7,ff,vf⟩:=oq s2 hs;rw[e1]at k7;cases k7;refine⟨a,_,rfl,OS.k ff (by rw[vf.length];exact hz),?_⟩;have sx:jq a H2 (upd H2 a (.dK (putK Pe kk u))):=λz o n hz=>by rw[aj n];exact hz
  obtain⟨s3,g3⟩:=gJ (t':=.od (mT kvs kk v)) s2 hs rfl (by simp) e1 sx λtk=>⟨_,ay,(vf.put kk (g2.vr s1 v1)).1,ax.tk tk (vf.put kk (g2.vr s1 v1)).2⟩;exact⟨_,k _,hr _,s3,(k _).mono (λt q4=>q4.go ((g1.trans g2).f.trans g3) sr s3) q3⟩
end
end
section
variable[bL]
variable{K:Ab}
def pK(K:Ab)(H:Hp)(vs:O (O Key×V))(kvs:O (O Key×PV)):Prop:=vs.map (·.1)=kvs.map (·.1)/\ax K [] H (vs.map (·.2)) (kvs.map (·.2))
def WO(K:Ab)(H:Hp)(ob:HO)(v:PV):Prop:=(∃vs kvs,ob=.dK vs/\v=qB kvs/\bX K H vs kvs)\/∃vs kvs,ob=.dT vs/\v=O6 kvs/\pK K H vs kvs
def fDv(K:Ab)(fs:aG)(w:W PV):TE:=λσ H Q=>aQ K H σ fs/\w.run λv=>∀a ob H',bR σ fs H H'->aQ K H' σ fs->H a=ci->H' a=some ob->WO K H' ob v->Q (.ref a) H'
structure DVF(X:Cx)(K:Ab)(fs:aG)(e:nw)(w:W PV):Prop where p:PE X e (fDv K fs w)
section
variable{σ:L2.St}{fs:aG}{H:Hp}{a:f8}{ob:HO}{v:PV}
def aQ.acK(s:aQ K H σ fs)(n:¬ck σ fs a)(e:H a=some ob)(n1:∀vs,ob≠.tup vs)(n2:∀o u,ob≠.bA o u)(n3:ob.ow=true)(o':HO):aQ K (upd H a o') σ fs:=⟨s.len,λi t q=>by
 obtain⟨u,h1,h2⟩:=s.at' i t q;exact⟨u,h1,h2.mono (gG o' e n1 n2) (λx b o eb ow hb z _=>by subst eb;rw[aj (λy:b=a=>n ⟨i,t,x,q,ow,h1,y▸hb⟩)];exact z)⟩,s.nd,s.tb.GV (λb o n z=>by rw[aj n];exact z) e (QW n3) n2⟩
def WO.bA{X:Cx}{U:O (f8×Obj)}{s:db}{σ':L2.St}(I:Inv X U σ' H s)(e:H a=some ob)(d:WO K H ob v):∃u,Inv X U σ' (upd H a u) s/\VR K [] (upd H a u) (.ref a) v/\(∀vs,ob≠.tup vs)/\(∀o u,ob≠.bA o u)/\ob.ow=true:=by
 rcases d with⟨vs,kvs,rfl,rfl,d1,d2⟩|⟨vs,kvs,rfl,rfl,d1,d2⟩
 .obtain⟨o,I2⟩:=I.Ml e;exact⟨_,I2,.dk ay (XC d1) (ax.tk (gG _ e (by simp) (by simp)) d2),by simp,by simp,rfl⟩
 .obtain⟨o,I2⟩:=I.freeze e;exact⟨_,I2,.dt ay (XB d1) (ax.tk (gG _ e (by simp) (by simp)) d2),by simp,by simp,rfl⟩
end
section
variable{c:nw}{w:W PV}
def ai5(h:DVF X K fs e w):EF X K fs e w:=⟨λU s σ H Q I ⟨sr,q⟩=>by
 refine bE (h.p U s σ H (λu H1=>∃a ob v,u=.ref a/\bR σ fs H H1/\aQ K H1 σ fs/\H a=ci/\H1 a=some ob/\WO K H1 ob v/\∀u H',bR σ fs H H'->aQ K H' σ fs->VR K [] H' u v->Q u H') I ⟨sr,w.mono (λv q1 a ob H1 g1 s1 n e d=>⟨a,ob,v,rfl,g1,s1,n,e,d,q1⟩) q⟩) λu s1 ⟨v,H1,I1,r1,a,ob,v',e,g1,Ut,n,ea,d,q1⟩=>?_;subst e;obtain⟨o',I2,vr,n1,n2,n3⟩:=d.bA I1 ea;exact⟨.ref a,_,I2,r1,q1 _ _ (g1.side n (λφ z=>by rw[ea]at z;cases z;cases n3) _) (Ut.acK (λz=>sr.noOwn n z) ea n1 n2 n3 _) vr⟩⟩
def L0(kv:O Key×PV):PV:=.tup [.tup (kv.1.map kP),kv.2]
theorem RB(H:Hp):∀k:O Key,ax K [] H (k.map kV) (k.map kP)
 |[]=>.nil
 |.inl i::k=>.cons (.int i) (RB H k)
 |.inr i::k=>.cons (.str i) (RB H k)
theorem HH:∀{k:O Key}{vs:O V},ax K [] H vs (k.map kP)->vs=k.map kV
 |[],_,h=>by cases h;rfl
 |.inl i::k,_,h=>by
  cases h with
  |cons x t=>cases x;rw[HH t];rfl
 |.inr i::k,_,h=>by
  cases h with
  |cons x t=>cases x;rw[HH t];rfl
theorem Hc:∀{kvs:O (O Key×PV)}{vs:O V},ax K [] H vs (kvs.map L0)->∃zs:O Pz,vs=zs.map (λz=>V.ref z.pa)/\(∀z∈zs,z.At H)/\zs.map (·.k)=kvs.map (·.1)/\ax K [] H (zs.map (·.v)) (kvs.map (·.2))
 |[],_,h=>by cases h;exact⟨[],rfl,by simp,rfl,.nil⟩
 |kv::kvs,_,h=>by
  cases h with
  |cons x t=>
  obtain⟨zs,z1,z2,z3,z4⟩:=Hc t;cases x with
  | @tup p ws _ e r=>
  cases r with
  |cons x1 t1=>
  cases t1 with
  |cons x2 t2=>
  cases t2;cases x1 with
  | @tup b us _ e1 r1=>
  have:=HH r1;subst this;refine⟨⟨p,kv.1,b,_⟩::zs,by rw[Ar,z1],λz hz=>?_,by rw[Ar,Ar,z3],.cons x2 z4⟩;rcases Ay.mp hz with rfl|hz
  .exact⟨e,e1⟩
  .exact z2 z hz
def KU(l:O PV):W PV:=⟨λQ=>∃kvs:O (O Key×PV),l=kvs.map L0/\(kvs.map (·.1)).Nodup/\kvs.length<=1000/\Q (O6 kvs),λf q=>q.imp λkvs h=>⟨h.1,h.2.1,h.2.2.1,f _ h.2.2.2⟩⟩
theorem Wr(hK:X.K=K)(hc:X.calm=true)(hu:X.A.units+200 < sn)(hg:Gl X "dict")(hm:X.mg "dict"=ci)(ha:IV X K fs e wl)(he:‹gb X e []›)(du:‹km X pos []›):DVF X K fs (.Call (.Name "dict" p) [e] [] pos) (.bind wl KU):=⟨PE.imp (lJ (K7 K hK hc ∅) hg hm boot_dict (aJ ha.p bj he) ⋯ ⋯ he du) λσ H Q ⟨sr,q⟩=>⟨sr,wl.mono (λl q1 u H1 g1 s1 v0 v1=>by
  obtain⟨kvs,rfl,nd,hl,q1⟩:=q1;obtain⟨a,vs,rfl,e3,e4⟩:=v1 _ H1 .refl s1;obtain⟨zs,rfl,z2,z3,z4⟩:=Hc e4;have hzl:zs.length=kvs.length:=by have:=congrArg B5 z3;simpa using this
  refine⟨a,zs,rfl,e3,z2,by rw[z3];exact nd,by lia,λp H2 s2 h2 n2=>?_⟩;exact q1 _ _ H2 (g1.trans (bR.same s2)) (s1.same s2) (g1.there _ n2) h2 (.inr ⟨_,_,rfl,rfl,by rw[AL,<- z3];rfl,by rw[AL];exact ax.tk s2.d7 z4⟩)) q⟩⟩
def Ox{kvs:O (O Key×PV)}(nd:(kvs.map (·.1)).Nodup)(hl:kvs.length<=1000)(q:Q (O6 kvs)):(KU (kvs.map L0)).run Q:=⟨kvs,rfl,nd,hl,q⟩
def mr(kvs:O (O Key×PV))(k:O Key):Option PV:=(kvs.find? λkv=>decide (kv.1=k)).map (·.2)
theorem pK.get{k:O Key}:∀{vs:O (O Key×V)}{kvs:O (O Key×PV)},pK K H vs kvs->(mr kvs k=ci->iq vs k=ci)/\∀{v},mr kvs k=some v->∃u,iq vs k=some u/\VR K [] H u v
 |[],[],_=>⟨λ_=>rfl,λg=>by simp[mr]at g⟩
 |[],_::_,h=>by simp[pK]at h
 |_::_,[],h=>by simp[pK]at h
 |p::vs,q::kvs,h=>by
  obtain⟨h1,h2⟩:=h;rw[Ar,Ar]at h1 h2;injection h1 with e b;cases h2 with
  |cons r t=>
  by_cases c:p.1=k
  .rw[ku c];have c':=e▸c;have:mr (q::kvs) k=some q.2:=by simp[mr,c']
   rw[this];refine⟨λz=>(by cases z),λ{v} z=>?_⟩;cases z;exact⟨_,rfl,r⟩
  .rw[kx c];have:mr (q::kvs) k=mr kvs k:=by simp[mr,(e▸c)]
   rw[this];exact(pK.get ⟨b,t⟩)
def bX.get'{k:Key}:∀{vs:O (Key×V)}{kvs:O (Key×PV)},bX K H vs kvs->(g9 kvs k=ci->iq vs k=ci)/\∀{v},g9 kvs k=some v->∃u,iq vs k=some u/\VR K [] H u v:=λ{vs kvs} h=>⟨λz=>by
 have:=h.has k;cases e:iq vs k with
 |none=>rfl
 |some u=>
  rw[e]at this;unfold g9 at z;rw[DJ,List.find?_eq_none]at z;obtain⟨x,hx,hx2⟩:=List.any_eq_true.mp this.symm;exact absurd hx2 (z x hx),λz=>h.get k z⟩
def XG(k:Key)(l:O PV):kP k≠.tup l:=by cases k<;>exact PV.noConfusion
def Z8{a b:Key}(h:kP a=kP b):a=b:=by
 cases a<;>cases b<;>simp[kP]at h<;>rw[h]
theorem yQ:∀{a b:O Key},a.map kP=b.map kP->a=b
 |[],[],_=>rfl
 |[],_::_,h=>by simp at h
 |_::_,[],h=>by simp at h
 |x::a,y::b,h=>by
  injection h with h1 h2;rw[Z8 h1,yQ h2]
inductive vd:PV->PV->Option PV->Prop
 |k (kvs:List (Key×PV)) (k:Key):kvs≠[]->vd (qB kvs) (kP k) (g9 kvs k)
 |t (kvs:List (List Key×PV)) (k:List Key):kvs≠[]->vd (O6 kvs) (.tup (k.map kP)) (mr kvs k)
def Ji(h0:kvs≠[])(h:VR K [] H u (qB kvs)):∃a o vs,u=.ref a/\H a=some (.bA o (.dK vs))/\bX K H vs kvs:=by
 have Þ:∀{vs:O (Key×V)}{kvs:O (Key×PV)},(kvs.map λkv=>kP kv.1)=(vs.map λkv=>kP kv.1)->vs.map (·.1)=kvs.map (·.1):=λ{vs kvs} e=>by
  have e:(kvs.map (·.1)).map kP=(vs.map (·.1)).map kP:=by rw[AL,AL];exact e
  exact(yQ e).symm
 cases h with
 | @dk a o vs _ _ e k r=>exact⟨a,o,vs,rfl,e,Þ k,r⟩
 | @dt a o vs _ _ e k r=>
  cases kvs with
  |nil=>exact absurd rfl h0
  |cons x l=>cases vs with
   |nil=>simp at k
   |cons y m=>simp at k;exact absurd k.1 (XG _ _)
def Pf{kvs:O (O Key×PV)}(h0:kvs≠[])(h:VR K [] H u (O6 kvs)):∃a o vs,u=.ref a/\H a=some (.bA o (.dT vs))/\pK K H vs kvs:=by
 have Þ:∀{vs:O (O Key×V)}{kvs:O (O Key×PV)},(kvs.map λkv=>PV.tup (kv.1.map kP))=(vs.map λkv=>PV.tup (kv.1.map kP))->vs.map (·.1)=kvs.map (·.1):=λ{vs kvs} e=>by
  induction kvs generalizing vs with
  |nil=>cases vs with
   |nil=>rfl
   |cons y m=>simp at e
  |cons x l ih=>cases vs with
   |nil=>simp at e
   |cons y m=>
    injection e with e1 e2;injection e1 with e1;rw[Ar,Ar,yQ e1,ih e2]
 cases h with
 | @dt a o vs _ _ e k r=>exact⟨a,o,vs,rfl,e,Þ k,r⟩
 | @dk a o vs _ _ e k r=>
  cases kvs with
  |nil=>exact absurd rfl h0
  |cons x l=>cases vs with
   |nil=>simp at k
   |cons y m=>simp at k;exact absurd k.1.symm (XG _ _)
def vd.ok{z:V}{d y:PV}{r:Option PV}(h:vd d y r)(hu:VR K [] H u d)(hz:VR K [] H z y):∃a o,u=.ref a/\IsD H a/\lF H a z o/\(r=ci->o=ci)/\∀v,r=some v->∃w,o=some w/\VR K [] H w v:=by
 cases h with
 |k kvs k h0=>
  obtain⟨a,o,vs,rfl,e,d⟩:=Ji h0 hu;have ez:z=kV k:=by
   cases k with
   |inl i=>cases hz;rfl
   |inr i=>cases hz;rfl
  subst ez;exact⟨a,iq vs k,rfl,.inl ⟨vs,.inr ⟨o,e⟩⟩,.inl ⟨vs,k,.inr ⟨o,e⟩,rfl,rfl⟩,(bX.get' d).1,λv=>(bX.get' d).2⟩
 |t kvs k h0=>
  obtain⟨a,o,vs,rfl,e,d⟩:=Pf h0 hu;cases hz with
  | @tup b us _ e1 r1=>
  have:=HH r1;subst this;exact⟨a,iq vs k,rfl,.inr ⟨vs,.inr ⟨o,e⟩⟩,.inr ⟨vs,k,b,.inr ⟨o,e⟩,rfl,e1,rfl⟩,(pK.get d).1,λv=>(pK.get d).2⟩
def dgW(d y:PV):W PV:=⟨λQ=>∃v,vd d y (some v)/\Q v,λf ⟨v,a,q⟩=>⟨v,a,f _ q⟩⟩
def Mx(a b:W PV):W PV:=.bind a λx=>.bind b λy=>dgW x y
theorem k6(hu:X.A.units+200<sn)(ha:EF X K fs a wa)(hb:EF X K fs b wb)(hs:abm b):EF X K fs (.Subscript a b pos) (Mx wa wb):=⟨PE.imp (LY ∅ ha.p hb.p hs) λσ H Q ⟨sr,q⟩=>⟨sr,wa.mono (λx q1 u1 H1 g1 s1 v1=>⟨s1,wb.mono (λy q2 u2 H2 g2 s2 v2=>by
 obtain⟨v,g,q2⟩:=q2;obtain⟨a,o,rfl,_,g2',_,h⟩:=g.ok (g2.vr s1 v1) v2;obtain⟨w,rfl,vw⟩:=h v rfl;exact⟨a,w,rfl,g2',q2 _ H2 (g1.trans g2) s2 vw⟩) q1⟩) q⟩⟩
def lX{k:Key}(h:g9 kvs k=some v)(q:Q v):(dgW (qB kvs) (kP k)).run Q:=⟨v,by rw[<- h];exact .k kvs k (λz=>by subst z;simp[g9]at h),q⟩
def Mw{kvs:O (O Key×PV)}{k:O Key}(h:mr kvs k=some v)(q:Q v):(dgW (O6 kvs) (.tup (k.map kP))).run Q:=⟨v,by rw[<- h];exact .t kvs k (λz=>by subst z;simp[mr]at h),q⟩
def Ro(d:PV):W (O PV):=⟨λQ=>∃kvs:O (O Key×PV),d=O6 kvs/\kvs≠[]/\kvs.length<=sizeLine/\Q (kvs.map λkv=>.tup (kv.1.map kP)),λf q=>q.imp λkvs h=>⟨h.1,h.2.1,h.2.2.1,f _ h.2.2.2⟩⟩
theorem VH(h:EF X K fs e w):mR X K fs tg e (.bind w Ro):=⟨PI.imp (QG h.p) λσ H R ⟨sr,q⟩=>⟨sr,w.mono (λx q1 u1 H1 g1 s1 v1=>by
 obtain⟨kvs,rfl,h0,hl,q1⟩:=q1;obtain⟨a,o,vs,rfl,e,d1,d2⟩:=Pf h0 v1;have len:vs.length=kvs.length:=by have:=congrArg B5 d1;simpa using this
 refine⟨a,o,vs,rfl,e,q1 _ H1 g1 s1 ⟨by simpa using hl,λH' t=>?_⟩⟩;have e':=t.z _ _ _ e;refine⟨λi p hp=>?_,vs,e',by simp[len]⟩;rw[Ah]at hp;cases z:kvs[i]? with
 |none=>rw[z]at hp;cases hp
 |some kv=>
  rw[z]at hp;have hp:=Option.some.inj hp;subst hp;have hi:=(Ag.mp z).1;refine⟨⟨vs,e',by lia⟩,λy H2 yy=>?_⟩;obtain⟨rfl,yy⟩:=yy;obtain⟨b,k,v,rfl,k2,k3⟩:=yy vs e';have ek:k=kv.1:=by
   have h1:(vs.map (·.1))[i]?=some k:=by rw[Ah,k2];rfl
   rw[d1,Ah,z]at h1;exact(Option.some.inj h1).symm
  subst ek;exact⟨jr.refl _,.tup k3 (RB _ _)⟩) q⟩⟩
def NG{kvs:O (O Key×PV)}{Q:O PV->Prop}(h0:kvs≠[])(hl:kvs.length<=sizeLine)(q:Q (kvs.map λkv=>.tup (kv.1.map kP))):(Ro (O6 kvs)).run Q:=⟨kvs,rfl,h0,hl,q⟩
end
end
section
variable[bL]
variable{K:Ab}
mutual
def PV.pd:PV->PyData
 |.aB=>.none
 |.bl b=>.bool b
 |.int i=>.int i
 |.str x=>.str x
 |.tup l=>.tuple (rF l)
 |.cl l=>.list (rF l)
 |_=>.none
def rF:O PV->O PyData
 |[]=>[]
 |x::l=>PV.pd x::rF l
end
section
variable{s:db}
mutual
theorem VR.reads(I:Inv X U σ H s):∀{v:V}{x:PV},VR X.K [] H v x->PV.fg x=true->∀{u},RelV v u->∃as,Reads s.heap u (PV.pd x) as
 |_,_,.aB,_,u,r=>by cases r;rw[PV.pd];exact⟨_,.none⟩
 |_,_,.bl b,_,u,r=>by cases r;rw[PV.pd];exact⟨_,.bool b⟩
 |_,_,.int i,_,u,r=>by obtain⟨t,r⟩:=(show ∃t,u=CJ i t from r);cases r;rw[PV.pd];exact⟨_,.int i t⟩
 |_,_,.str i,_,u,r=>by obtain⟨t,r⟩:=(show ∃t,u=Bs i t from r);cases r;rw[PV.pd];exact⟨_,.str i t⟩
 |_,_,.ty n,h,_,_=>by rw[PV.fg]at h;cases h
 |_,_,.dk _ _ _,h,_,_=>by rw[PV.fg]at h;cases h
 |_,_,.dt _ _ _,h,_,_=>by rw[PV.fg]at h;cases h
 |_,_,.ob _ _ _ _ _,h,_,_=>by rw[PV.fg]at h;cases h
 |_,_,.hand _,h,_,_=>by rw[PV.fg]at h;cases h
 |_,_,.ref e,h,_,_=>by simp at e
 |_,_,.tup e r,h,u,q=>by
  cases q;obtain⟨ao,rv,⟨o,h1,h2,n,h3⟩,_⟩:=I.tuple (d6.of (K:=X.K) e);obtain⟨as,ra⟩:=ax.reads I r (by rw[PV.fg]at h;exact h) rv;rw[PV.pd];exact⟨as,.tuple h1 h2 h3 (by simpa using ra)⟩
 |_,_,.cl e r,h,u,q=>by
  cases q;obtain⟨ao,rv,⟨o,n,h1,h2,_,h3⟩,_⟩:=I.list e.sq;obtain⟨as,ra⟩:=ax.reads I r (by rw[PV.fg]at h;exact h) rv;rw[PV.pd];exact⟨_,.list h1 h2 h3 (by simpa using ra)⟩
theorem ax.reads(I:Inv X U σ H s):∀{v:O V}{x:O PV},ax X.K [] H v x->eG x=true->∀{u},Vals v u->∃as,ReadsAll s.heap u (rF x) as
 |_,_,.nil,_,u,r=>by cases r;rw[rF];exact⟨_,.nil⟩
 |_,_,.cons a t,h,u,r=>by
  rw[eG,A9]at h;cases r with
  |cons r1 r2=>
  obtain⟨as,ra⟩:=VR.reads I a h.1 r1;obtain⟨bs,rb⟩:=ax.reads I t h.2 r2;rw[rF];exact⟨_,.cons ra rb⟩
end
mutual
theorem wM:∀x:PV,(PV.pd x).hasDict=false
 |.aB=>by simp[PV.pd,BS]
 |.bl _=>by simp[PV.pd,BS]
 |.int _=>by simp[PV.pd,BS]
 |.str _=>by simp[PV.pd,BS]
 |.tup l=>by rw[PV.pd,BS];exact mW l
 |.cl l=>by rw[PV.pd,BS];exact mW l
 |.ref _=>by simp[PV.pd,BS]
 |.ty _=>by simp[PV.pd,BS]
 |.dv _ _=>by simp[PV.pd,BS]
 |.ob _ _=>by simp[PV.pd,BS]
 |.hand=>by simp[PV.pd,BS]
theorem mW:∀x:O PV,ES (rF x)=false
 |[]=>by simp[rF,ES]
 |x::l=>by rw[rF,ES,wM x,mW l];rfl
end
end
def xW(x:PV):Prop:=PV.fg x=true/\(PV.pd x).showable=true/\(PV.pd x).depth<=100/\(PV.pd x).shown.length<=sizeLine
def W7(x:PV):W PV:=.dm (xW x) (.ret (.str (PV.pd x).shown))
def ak9(x:PV):W PV:=match x with
 |.int i=>.dm (xW x) (.ret (.str (PV.pd x).shown))
 |.tup l=>.dm (xW x) (.ret (.str (PV.pd x).shown))
 |.cl l=>.dm (xW x) (.ret (.str (PV.pd x).shown))
 |_=>.fail
section
def XJ(b:Bool):PV->Prop
 |.int _=>b=true
 |.tup _=>True
 |.cl _=>True
 |_=>False
def acZ(K:Ab)(b:Bool):O V->Hp->VK->Prop:=λxs H Q=>∃v x,xs=[v]/\VR K [] H v x/\xW x/\XJ b x/\Q (.str (PV.pd x).shown) H
theorem K3(hK:X.K=K)(hg:X.A.guards=some [])(hu:X.A.units+200 < sn):cz X (.builtin "repr") (acZ K false):=by
 subst hK;intro U s σ H xs us Q I r ⟨v,x,e,hv,⟨o1,o2,o3,o4⟩,hx,q⟩;subst e;obtain⟨u,rfl,ru⟩:=vals1 r;have rf:∀a,u=.ref a->gl (im X.prog X.w) X.A (call (.builtin "repr") [u]) (EP X U σ Q) X.xe s:=λa e=>by
  subst e;obtain⟨as,rd⟩:=VR.reads I hv o1 ru;exact repr_of_reads' rd o2 (PyData.noDict_hsm (wM x)) hg ∅ (λ_ _ e=>e) (λh' u tk hk=>⟨.str _,H,I.kept (t':=tk) hk,⟨_,rfl⟩,q⟩) o4
 cases hv with
 |tup _ _=>exact rf _ ru
 |cl _ _=>exact rf _ ru
 |int _=>cases hx
 |_=>exact hx.elim
def xZ(x:PV):W PV:=match x with
 |.tup l=>W7 x
 |.cl l=>W7 x
 |_=>.fail
def Sq(hK:X.K=K)(hr:dG k X.A)(hg:Gl X "repr")(hm:X.mg "repr"=ci)(ha:EF X K fs a wa)(he:‹gb X a []›)(du:‹km X pos []›):EF X K fs (.Call (.Name "repr" p) [a] [] pos) (.bind wa xZ):=
 ⟨PE.imp (fD (K3 hK hr.gd (aY hr)) hg hm boot_repr (aJ ha.p bj he) ⋯ ⋯ he du) λσ H Q ⟨sr,q⟩=>⟨sr,wa.mono (λx q1 u H1 g1 s1 v1=>by
  have h:xW x/\XJ false x/\∀u H',bR σ fs H H'->aQ K H' σ fs->VR K [] H' u (.str (PV.pd x).shown)->Q u H':=by
   cases x with
   |tup l=>exact⟨q1.1,trivial,q1.2⟩
   |cl l=>exact⟨q1.1,trivial,q1.2⟩
   |_=>exact q1.elim
  exact⟨u,x,rfl,v1,h.1,h.2.1,h.2.2 _ H1 g1 s1 (.str _)⟩) q⟩⟩
end
end
end FL
namespace L2
section
variable{σ:St}{s:db}
theorem Inv.uC(I:Inv X U σ H s):∀bs:O f8,(∀b∈bs,∃ws,H b=some (.lst ws))->∃H',Inv X U σ H' s/\(∀c,c∉bs->H' c=H c)/\∀b∈bs,∃ob ws,H b=some (.lst ws)/\H' b=some (.bA ob (.lst ws))
 |[],_=>⟨H,I,λ_ _=>rfl,λb hb=>nomatch hb⟩
 |b::bs,h=>by
  obtain⟨H',I',h1,h2⟩:=Inv.uC I bs λc hc=>h c (.tail _ hc);by_cases hb:b∈bs
  .refine⟨H',I',λc hc=>h1 c λz=>hc (.tail _ z),λc hc=>?_⟩;rcases Ay.mp hc with rfl|hc
   .exact h2 _ hb
   .exact h2 c hc
  .obtain⟨ws,e⟩:=h b (.head _);obtain⟨ob,I2⟩:=I'.zd ((h1 b hb).trans e);refine⟨_,I2,λc hc=>?_,λc hc=>?_⟩
   .rw[aj (λz=>by subst z;exact hc (.head _))];exact h1 c λz=>hc (.tail _ z)
   .by_cases cb:c=b
    .subst cb;exact⟨ob,ws,e,ay⟩
    .rcases Ay.mp hc with z|hc
     .exact absurd z cb
     .obtain⟨U5,rE,e1,e2⟩:=h2 c hc;exact⟨U5,rE,e1,by rw[aj cb];exact e2⟩
open Classical in
theorem Inv.Jr{f:f8->O V}(J:Inv X U σ H s):∀bs:O f8,(∀b∈bs,∃ob,H b=some (.bA ob (.lst (f b))))->(∀b∈bs,∀o u,X.H₀ b≠some (.bA o u))->Inv X U σ (λc=>if c∈bs then some (.lst (f c)) else H c) s
 |[],_,_=>by
  have:(λc=>if c∈([]:O f8) then some (HO.lst (f c)) else H c)=H:=funext λc=>if_neg (by simp);rw[this];exact J
 |b::bs,h,h0=>by
  have J2:=Inv.Jr J bs (λc hc=>h c (.tail _ hc)) λc hc=>h0 c (.tail _ hc);by_cases hb:b∈bs
  .have:(λc=>if c∈b::bs then some (HO.lst (f c)) else H c)=λc=>if c∈bs then some (.lst (f c)) else H c:=funext λc=>by
    by_cases z:c=b
    .subst z;rw[if_pos (.head _),if_pos hb]
    .by_cases y:c∈bs
     .rw[if_pos (.tail _ y),if_pos y]
     .rw[if_neg (λx=>(Ay.mp x).elim z y),if_neg y]
   rw[this];exact J2
  .obtain⟨ob,e⟩:=h b (.head _);have e2:(λc=>if c∈bs then some (HO.lst (f c)) else H c) b=some (.bA ob (.lst (f b))):=by show(if b∈bs then _ else _)=_;rw[if_neg hb];exact e
   have hk:=HP J2.ba e2;have J3:=J2.T7 e2 (h0 b (.head _)) (hk b _ ay) hk;have:(λc=>if c∈b::bs then some (HO.lst (f c)) else H c)=upd (λc=>if c∈bs then some (HO.lst (f c)) else H c) b (.lst (f b)):=funext λc=>by
    by_cases z:c=b
    .subst z;rw[if_pos (.head _),ay]
    .rw[aj z];by_cases y:c∈bs
     .rw[if_pos (.tail _ y),if_pos y]
     .rw[if_neg (λx=>(Ay.mp x).elim z y),if_neg y]
   rw[this];exact J3
end
end L2
variable{bs:O Bf}{ls:O (O PL.PV)}{w1:FL.W PL.PV}{Px:O PySem.Stmt}
namespace FL
section
variable[bL]
variable{K:Ab}
section
def fF(sr:aQ K H σ fs)(hs:fs[i]?=some (some (.qO bs ls))):∃a,σ[i]?=some (some (.ref a))/\fN K H a (.qO bs ls):=by
 obtain⟨u,e1,r⟩:=sr.at' i _ hs;rcases r with⟨v,e,_⟩|⟨a,e,r⟩
 .cases e
 .subst e;exact⟨a,e1,r⟩
theorem KY:∀{bs:O f8}{ls:O (O PV)},bs.length=ls.length->(∀(j:Nat) (b:f8) (l:O PV),bs[j]?=some b->ls[j]?=some l->VR K [] H' (.ref b) (.cl l))->ax K [] H' (bs.map V.ref) (ls.map PV.cl)
 |[],[],_,_=>.nil
 |[],_::_,h,_=>by simp at h
 |_::_,[],h,_=>by simp at h
 |b::bs,l::ls,h,hv=>.cons (hv 0 b l rfl rfl) (KY (by simpa using h) λj b l h1 h2=>hv (j+1) b l (by simpa using h1) (by simpa using h2))
def ae6{s:db}(I:Inv X U σ H s)(sr:aQ K H σ fs)(hs:fs[i]?=some (some (.qO bs ls))):∃H',Inv X U σ H' s/\aQ K H' σ (fs.set i (some (.ol ci (ls.map PV.cl))))/\cn σ fs H σ (fs.set i (some (.ol ci (ls.map PV.cl)))) H'/\(∀c,H c=ci->H' c=ci)/\ ∀σ' s' H1,Inv X U σ' H1 s'->bR σ (fs.set i (some (.ol ci (ls.map PV.cl)))) H' H1->aQ K H1 σ (fs.set i (some (.ol ci (ls.map PV.cl))))->∃H2,Inv X U σ' H2 s'/\bR σ fs H H2/\aQ K H2 σ fs/\(∀p vs,H1 p=some (.tup vs)->H2 p=some (.tup vs))/\(∀p vs,H p=ci->H1 p=some (.lst vs)->H2 p=some (.lst vs))/\(∀p,p∉bs->H2 p=H1 p)/\∀p∈bs,∃ob ws,H p=some (.lst ws)/\H2 p=some (.lst ws)/\H1 p=some (.bA ob (.lst ws)):=by
 obtain⟨a,e1,q1,q2,q3,q4,q5⟩:=fF sr hs;have mm:∀b∈bs,∃ws,H b=some (.lst ws):=λb hb=>by
  obtain⟨j,hj⟩:=CG hb;have h1:=(Ag.mp hj).1;obtain⟨ws,e,_⟩:=q5 j b _ hj (Ad (by rw[<- q4];exact h1));exact⟨ws,e⟩
 obtain⟨H',I',k1,k2⟩:=I.uC bs mm;have tk:bb K H H':=⟨λb vs z=>by
  by_cases c:b∈bs
  .obtain⟨ws,e⟩:=mm b c;rw[e]at z;cases z
  .rw[k1 b c];exact z,λb o u z=>by
  by_cases c:b∈bs
  .obtain⟨ws,e⟩:=mm b c;rw[e]at z;cases z
  .rw[k1 b c];exact z,xk λb φ z=>by
  by_cases c:b∈bs
  .obtain⟨ws,e⟩:=mm b c;rw[e]at z;cases z
  .rw[k1 b c];exact z⟩
 have aB:∀c,H c=ci->H' c=ci:=λc z=>by
  by_cases y:c∈bs
  .obtain⟨ws,e⟩:=mm c y;rw[e]at z;cases z
  .rw[k1 c y];exact z
 have it:∀{t:SL},(some t:Option SL)=some (.ol ci (ls.map PV.cl))->t=.ol ci (ls.map PV.cl):=λz=>by injection z
 have s2:aQ K H' σ (fs.set i (some (.ol ci (ls.map PV.cl)))):=by
  refine⟨by simp[sr.len],λj t z=>?_,λj k t u b1 b2 b z1 z2 o1 o2=>?_,sr.tb.mono (λb _ z=>by rw[k1 b (λy=>by obtain⟨ws,e⟩:=mm b y;rw[e]at z;cases z)];exact z) λb _ u _ z _=>⟨u,tk.z _ _ _ z⟩⟩
  .rcases a8 z with⟨rfl,rfl⟩|⟨n,z⟩
   .refine⟨_,e1,.inr ⟨a,rfl,by simp,bs.map V.ref,by rw[k1 a q2];exact q1,KY q4 λj b l h1 h2=>?_⟩⟩;obtain⟨ob,ws,f1,f2⟩:=k2 b (AJ h1);obtain⟨rE,f3,f4⟩:=q5 j b l h1 h2;rw[f1]at f3;cases f3;exact .cl (.inl ⟨ob,f2⟩) (ax.tk tk f4)
   .obtain⟨u,h1,h2⟩:=sr.at' j t z;exact⟨u,h1,h2.mono tk (λx b o eb ow hb zz _=>by
     subst eb;rw[k1 b (λy=>n (sr.nd j i t _ x a b z hs ow rfl h1 e1 hb (.inr y)))];exact zz)⟩
  .intro y1 y2 w1 w2;have f:∀{j:Nat}{t:SL}{c:f8},(fs.set i (some (.ol ci (ls.map PV.cl))))[j]?=some (some t)->t.own=true->σ[j]?=some (some (.ref c))->t.has c b->∃t',fs[j]?=some (some t')/\t'.own=true/\t'.has c b:=λ{j t c} z ow y hb=>by
    rcases a8 z with⟨rfl,rfl⟩|⟨n,z⟩
    .refine⟨_,hs,rfl,?_⟩;rcases hb with hb|hb
     .exact .inl hb
     .cases hb
    .exact⟨t,z,ow,hb⟩
   obtain⟨t',a1,a2,a3⟩:=f z1 o1 y1 w1;obtain⟨u',c1,c2,c3⟩:=f z2 o2 y2 w2;exact sr.nd j k t' u' b1 b2 b a1 c1 a2 c2 y1 y2 a3 c3
 have pf:∀ψ m b,cI σ (fs.set i (some (.ol ci (ls.map PV.cl)))) ψ m b->cI σ fs ψ m b:=λψ m b ⟨j,k,z1,z3⟩=>by
  rcases a8 z1 with⟨_,z⟩|⟨n,z1⟩
  .cases z
  .exact⟨j,k,z1,z3⟩
 have pb:∀ψ m b,cI σ fs ψ m b->cI σ (fs.set i (some (.ol ci (ls.map PV.cl)))) ψ m b:=λψ m b ⟨j,k,z1,z3⟩=>by
  have ji:j≠i:=λy=>by subst y;rw[hs]at z1;cases z1
  exact⟨j,k,by rw[aq ji];exact z1,z3⟩
 have ċ:∀b∈bs,∀ψ m,¬cI σ fs ψ m b:=λb hb ψ m ⟨j,k,z1,z3⟩=>by
  have:=sr.nd j i _ _ b a b z1 hs rfl rfl z3 e1 (.inl rfl) (.inr hb);subst this;rw[hs]at z1;cases z1
 have gf:cn σ fs H σ (fs.set i (some (.ol ci (ls.map PV.cl)))) H':=by
  refine⟨λb o z n=>⟨?_,λy=>?_⟩,λb z=>?_,λb ψ m z=>.inl (pb ψ m b z),tk.x⟩
  .intro _;rw[k1 b (λy=>n ⟨i,_,a,hs,rfl,e1,.inr y⟩)];exact z
  .obtain⟨j,t,x,z1,z2,z3,z4⟩:=y;rcases a8 z1 with⟨rfl,rfl⟩|⟨m,z1⟩
   .rcases z4 with z4|z4
    .exact n ⟨j,_,x,hs,rfl,z3,.inl z4⟩
    .cases z4
   .exact n ⟨j,t,x,z1,z2,z3,z4⟩
  .by_cases c:b∈bs
   .obtain⟨ob,ws,f1,f2⟩:=k2 b c;rw[f2]at z;cases z
   .rw[k1 b c]at z;exact z
 refine⟨H',I',s2,gf,aB,λσ' s' H1 J g s1=>?_⟩
 classical
 have fz:∀b∈bs,∃ob,H1 b=some (.bA ob (.lst ((match H b with|some (.lst ws)=>ws|_=>[]):O V))):=λb hb=>by
  obtain⟨ob,ws,f1,f2⟩:=k2 b hb;rw[f1];exact⟨ob,g.keep b _ f2 λψ m p=>ċ b hb ψ m (pf ψ m b p)⟩
 have h0:∀b∈bs,∀o u,X.H₀ b≠some (.bA o u):=λb hb o u z=>by
  have:=I.base.qw b o u z;obtain⟨ws,e⟩:=mm b hb;rw[e]at this;cases this
 have J2:=Inv.Jr (f:=λb=>match H b with|some (.lst ws)=>ws|_=>[]) J bs fz h0;have fP:∀b∈bs,(λc=>if c∈bs then some (HO.lst (match H c with|some (.lst ws)=>ws|_=>[])) else H1 c) b=H b:=λb hb=>by
  obtain⟨ws,e⟩:=mm b hb;show(if b∈bs then _ else _)=_;rw[if_pos hb,e]
 have g8:∀b,b∉bs->(λc=>if c∈bs then some (HO.lst (match H c with|some (.lst ws)=>ws|_=>[])) else H1 c) b=H1 b:=λb hb=>by
  show(if b∈bs then _ else _)=_;rw[if_neg hb]
 generalize (λc=>if c∈bs then some (HO.lst (match H c with|some (.lst ws)=>ws|_=>[])) else H1 c)=H2 at J2 fP g8;have ge:bR σ fs H H2:=by
  refine⟨λb o z n nt=>?_,λb z=>?_,.refl _,λb z=>?_⟩
  .by_cases c:b∈bs
   .rw[fP b c];exact z
   .rw[g8 b c];exact g.keep b o (by rw[k1 b c];exact z) (λψ m p=>n ψ m (pf ψ m b p)) nt
  .by_cases c:b∈bs
   .rw[fP b c]at z;exact z
   .rw[g8 b c]at z;have:=g.there b z;rw[k1 b c]at this;exact this
  .have z':H b=_:=z;have c:b∉bs:=λc=>by obtain⟨ws,e⟩:=mm b c;rw[e]at z';cases z'
   show H2 b=_;rw[g8 b c];exact g.x b (by show H' b=_;rw[k1 b c];exact z')
 refine⟨H2,J2,ge,⟨sr.len,λj t z=>?_,sr.nd,s1.tb.mono (λb _ z=>by rw[g8 b (λy=>by obtain⟨ob,f⟩:=fz b y;rw[f]at z;cases z)];exact z) λb o u vs z d=>⟨u,by rw[g8 b (λy=>by obtain⟨ob,f⟩:=fz b y;rw[f]at z;cases z;exact QX (J.ba b _ f).2 (J.ba b _ f).1 rfl vs d)];exact z⟩⟩,λp vs z=>?_,λp vs n z=>?_,g8,λp hp=>?_⟩
 .obtain⟨u,m1,m2⟩:=sr.at' j t z;refine⟨u,m1,?_⟩;by_cases c:∃ψ k m,t=.cJ ψ k m
  .obtain⟨ψ,k,m,rfl⟩:=c;have ji:j≠i:=λy=>by subst y;rw[hs]at z;cases z
   rcases m2 with⟨v,y,_⟩|⟨b,rfl,_⟩
   .cases y
   .obtain⟨⟨j',vs,y0,y1,y2,y3⟩,y4⟩:=s1.ownAt (t:=.cJ ψ k m) (i:=j) (by rw[aq ji];exact z) rfl m1;have nb:=λy=>ċ b y ψ m ⟨j,k,z,m1⟩;refine .inr ⟨b,rfl,⟨j',vs,y0,by rw[g8 b nb];exact y1,y2,λc hc=>?_⟩,y4⟩;have w:H1 c=_:=y3 c hc;show H2 c=_;rw[g8 c (λy=>by obtain⟨ob,f⟩:=fz c y;rw[f]at w;cases w)];exact w
  .refine m2.mono (ge.cB sr) (λx b o eb ow hb zz nt=>ge.keep b o zz (λψ m ⟨j',k,p1,p3⟩=>?_) nt);subst eb;have:=sr.nd j j' t _ x b b z p1 ow rfl m1 p3 hb (.inl rfl);subst this;rw[z]at p1;cases p1;exact c ⟨ψ,k,m,rfl⟩
 .rw[g8 p (λy=>by obtain⟨ob,f⟩:=fz p y;rw[f]at z;cases z)];exact z
 .rw[g8 p (λy=>by obtain⟨ws,e⟩:=mm p y;rw[e]at n;cases n)];exact z
 .obtain⟨ob,ws,f1,f2⟩:=k2 p hp;obtain⟨U5,f⟩:=fz p hp;rw[f1]at f;exact⟨U5,ws,f1,by rw[fP p hp];exact f1,f⟩
def aja{s:db}(I:Inv X U σ H s)(sr:aQ K H σ fs)(hs:fs[i]?=some (some (.qO bs ls))):∃H',Inv X U σ H' s/\aQ K H' σ (fs.set i (some (.ol ci (ls.map PV.cl))))/\cn σ fs H σ (fs.set i (some (.ol ci (ls.map PV.cl)))) H'/\(∀c,H c=ci->H' c=ci)/\ ∀σ' s' H1,Inv X U σ' H1 s'->bR σ (fs.set i (some (.ol ci (ls.map PV.cl)))) H' H1->aQ K H1 σ (fs.set i (some (.ol ci (ls.map PV.cl))))->∃H2,Inv X U σ' H2 s'/\bR σ fs H H2/\aQ K H2 σ fs/\(∀p vs,H1 p=some (.tup vs)->H2 p=some (.tup vs))/\∀p vs,H p=ci->H1 p=some (.lst vs)->H2 p=some (.lst vs):=by
 obtain⟨H',I',h1,h2,h3,bk⟩:=ae6 I sr hs
 exact⟨H',I',h1,h2,h3,λt u v J g k=>by obtain⟨z,b1,b2,b3,b4,b5,_⟩:=bk t u v J g k;exact⟨z,b1,b2,b3,b4,b5⟩⟩
end
section
variable{rest:O wn}{T:Type}{out:T->End}{x:Bool}{w w2:W PV}
def SF.aeu(i:Nat){wt:W T}(hs:fs[i]?=some (some (.qO bs ls)))(hr:SF X K x (fs.set i (some (.ol ci (ls.map PV.cl)))) Px wt out):SF X K x fs Px wt out:=⟨λU s σ H D I ⟨sr,q⟩=>by
 obtain⟨H',I2,s2,gf,_,_⟩:=aja I sr hs;exact hr.p U s σ _ D I2 ⟨s2,wt.mono (λt q3=>q3.go gf sr s2) q⟩⟩
def SF.acM{k:W T}{p2:Pos}(hN:X.N.Nodup)(hi:X.N[i]?=some y)(hx:Loc X.env.scope y)(hr:SF X K x (fs.set i (some (.qO [] []))) rest k out)(hs:‹o0 (.List [] p2) (some (.Name y p')) pos.line X.env=pure false›)(hf:MP X y:=by first|exact .inl rfl|exact .inr rfl|assumption):SF X K x fs (.Assign [.Name y p'] (.List [] p2) pos::rest) k out:=SF.step (ir hN hi hx (su bj) hs hf) λD σ H ⟨sr,q⟩=>⟨Bh _,λa H1 s1 e1 n1=>by
 have no:=sr.noOwn n1;have oa:fN K H1 a (.qO [] []):=⟨e1,by simp,by simp,rfl,λj b l h=>by simp at h⟩;have s2:=(sr.same s1).mU (t:=.qO [] []) oa no i;exact⟨_,k,hr,s2,k.mono (λt q2=>q2.go (cn.mU (sr.same s1) (bR.same s1) no n1 i) sr s2) q⟩⟩
def aad(ls:O (O PV)):PV->W (Nat×O PV)
 |.int k=>.Nt ((nQ ls.length k).bind λj=>(ls[j]?).map λl=>(j,l))
 |_=>.fail
theorem SF.S4(i:Nat){k:O f8->O (O PV)->W T}(hs:fs[i]?=some (some (.qO bs ls)))(hK:X.K=K)(hN:X.N[i]?=some y)(hv:v9 X.env.scope y)(he:LF X K fs e wl)(hr:∀ı ZM,SF X K x (fs.set i (some (.qO ı ZM))) rest (k ı ZM) out)(hd: ~~~(gZ y))(gU: ~~~(xF y))(cH:‹pr (.Name y p) "append" X.env (pc (.Name y p) X.env)=pc (.Name y p) X.env›)(jH:‹WK X a9 [e]›)(cG:‹MR À a9›)(o5:‹gb X e []›)(cg:‹km X a9 []›)(mn:‹o0 (.Call (.Attribute (.Name y p) "append" À) [e] [] a9) ci pos.line X.env=pure false›):SF X K x fs (.Expr (.Call (.Attribute (.Name y p) "append" À) [e] [] a9) pos::rest) (.bind wl λl=>.dm (ls.length < sizeLine) (.bind (.any λ_=>True) λı=>.bind (.ret (ls++[l])) λZM=>k ı ZM)) out:=
 SF.step (hU (jy K hK Bm Dn Dm m7 (cX hN hv hd gU) (aJ he.p bj o5) cH jH cG o5 cg) mn) λD σ H ⟨sr,q⟩=>by
  obtain⟨a,e1,q1,q2,q3,q4,q5⟩:=fF sr hs;refine⟨_,e1,.inl ⟨rfl,_,bM.of q1⟩,sr,wl.mono (λl ql b vs H1 g1 s1 nb eb vl=>?_) q⟩;obtain⟨a',k7,r1,r2,r3,r4,r5⟩:=fF s1 hs;rw[e1]at k7;cases k7;refine⟨a,_,_,rfl,rfl,r1,by rw[Ai,r4];exact ql.1,λH2 sx h2=>?_⟩;have hq:=ql.2 (bs++[b]) trivial;have Ha:H a≠ci:=λz=>by rw[q1]at z;cases z
  have ab:a≠b:=λz=>Ha (z▸nb);have bin:∀c∈bs,∃ws,H c=some (.lst ws):=λc hc=>by
   obtain⟨j,hj⟩:=CG hc;obtain⟨ws,e,_⟩:=q5 j c _ hj (Ad (by rw[<- q4];exact(Ag.mp hj).1));exact⟨ws,e⟩
  have bn:b∉bs:=λz=>by obtain⟨ws,e⟩:=bin b z;rw[nb]at e;cases e
  have nbo:=sr.noOwn nb;have tk:bb K H1 H2:=⟨λc us z=>sx c _ (λw=>by subst w;rw[r1]at z;cases z) z,λc o u z=>sx c _ (λw=>by subst w;rw[r1]at z;cases z) z,xk λc φ z=>sx c _ (λw=>by subst w;rw[r1]at z;cases z) z⟩;have oa:fN K H2 a (.qO (bs++[b]) (ls++[l])):=by
   refine⟨by rw[h2,AI];rfl,λz=>?_,?_,by simp[r4],λj c l' h1 h3=>?_⟩
   .rcases AO.mp z with z|z
    .exact r2 z
    .exact ab (by simpa using z)
   .exact Co.mpr ⟨r3,by simp,λu hu v hv w=>by simp at hv;subst hv;subst w;exact bn hu⟩
   .rcases iy h1 with h1|⟨rfl,rfl⟩
    .rcases iy h3 with h3|⟨rfl,rfl⟩
     .obtain⟨ws,f1,f2⟩:=r5 j c l' h1 h3;exact⟨ws,sx c _ (λz=>by subst z;exact r2 (AJ h1)) f1,ax.tk tk f2⟩
     .have:=(Ag.mp h1).1;lia
    .rcases iy h3 with h3|⟨_,rfl⟩
     .have:=(Ag.mp h3).1;lia
     .exact⟨vs,sx c _ (Bt ab) eb,ax.tk tk vl⟩
  have Ū:∀c,(SL.qO (bs++[b]) (ls++[l])).has a c->(SL.qO bs ls).has a c\/c=b:=λc h=>by
   rcases h with h|h
   .exact .inl (.inl h)
   .rcases AO.mp (show c∈bs++[b] from h) with h|h
    .exact .inl (.inr h)
    .exact .inr (by simpa using h)
  have s2:aQ K H2 σ (fs.set i (some (.qO (bs++[b]) (ls++[l])))):=by
   refine⟨by simp[s1.len],λj t z=>?_,λj k t u b1 b2 c z1 z2 o1 o2 y1 y2 w1 w2=>?_,s1.tb.GV sx r1 rfl (by simp)⟩
   .rcases a8 z with⟨rfl,rfl⟩|⟨n,z⟩
    .exact⟨_,e1,.inr ⟨a,rfl,oa⟩⟩
    .obtain⟨u,m1,m2⟩:=s1.at' j t z;exact⟨u,m1,m2.mono tk (λx c o ec ow hc zz _=>sx c o (λw=>by subst ec;subst w;exact n (s1.nd j i t _ x c c z hs ow rfl m1 e1 hc (.inl rfl))) zz)⟩
   .have JM:∀{j:Nat}{t:SL}{c':f8},fs[j]?=some (some t)->t.own=true->σ[j]?=some (some (.ref c'))->¬t.has c' b:=λ{j t c'} m1 m2 m3 m4=>nbo ⟨j,t,c',m1,m2,m3,m4⟩;rcases a8 z1 with⟨rfl,rfl⟩|⟨n1,v1⟩<;>rcases a8 z2 with⟨m,rfl⟩|⟨n2,v2⟩
    .exact m.symm
    .rw[e1]at y1;cases y1;rcases Ū c w1 with w1|w1
     .exact s1.nd _ k _ u _ b2 c hs v2 rfl o2 e1 y2 w1 w2
     .exact absurd (w1▸w2) (JM v2 o2 y2)
    .subst m;rw[e1]at y2;cases y2;rcases Ū c w2 with w2|w2
     .exact s1.nd j _ t _ b1 _ c v1 hs o1 rfl y1 e1 w1 w2
     .exact absurd (w2▸w1) (JM v1 o1 y1)
    .exact s1.nd j k t u b1 b2 c v1 v2 o1 o2 y1 y2 w1 w2
  have g2:cn σ fs H σ (fs.set i (some (.qO (bs++[b]) (ls++[l])))) H2:=by
   refine⟨λc o z n=>⟨λnt=>sx c o (λw=>by subst w;exact n ⟨i,_,c,hs,rfl,e1,.inl rfl⟩) (g1.qW z n nt),λyy=>?_⟩,λc z=>?_,λc ψ m z=>?_,λc z=>tk.x c (g1.x c z)⟩
   .obtain⟨j,t,x,z1,z2,z3,z4⟩:=yy;rcases a8 z1 with⟨rfl,rfl⟩|⟨m,z1⟩
    .rw[e1]at z3;cases z3;rcases Ū c z4 with z4|rfl
     .exact n ⟨j,_,_,hs,rfl,e1,z4⟩
     .rw[nb]at z;cases z
    .exact n ⟨j,t,x,z1,z2,z3,z4⟩
   .refine g1.there c ?_;cases zz:H1 c with
    |none=>rfl
    |some o=>
     by_cases ca:c=a
     .subst ca;rw[h2]at z;cases z
     .rw[sx c o ca zz]at z;cases z
   .obtain⟨j,k',p1,p2⟩:=z;have ji:j≠i:=λw=>by subst w;rw[hs]at p1;cases p1
    exact .inl ⟨j,k',by rw[aq ji];exact p1,p2⟩
  exact⟨_,k _ _,hr _ _,s2,(k _ _).mono (λt q2=>q2.go g2 sr s2) hq⟩
end
end
end FL
variable{κ:PyProof.Rows.SortKind}{a:Bf}{Q:Bg->C9->Prop}{vs:O Bg}{p:Array Nat}
namespace L2
def eM(N:Nat)(P:α->Prop):En α->Prop
 |.ret a=>P a
 |.ask i j k=>i<N/\j<N/\∀b,eM N P (k b)
theorem eM.mono{N:Nat}{P P':α->Prop}(h:∀a,P a->P' a):∀{t:En α},eM N P t->eM N P' t
 |.ret a,q=>h a q
 |.ask i j k,q=>⟨q.1,q.2.1,λb=>eM.mono h (q.2.2 b)⟩
theorem eM.bind{N:Nat}{P:α->Prop}{P':β->Prop}{f:α->En β}(hf:∀a,P a->eM N P' (f a)):∀{t:En α},eM N P t->eM N P' (t.bind f)
 |.ret a,q=>hf a q
 |.ask i j k,q=>⟨q.1,q.2.1,λb=>eM.bind hf (q.2.2 b)⟩
theorem eM.wp{N:Nat}{P:α->Prop}{cmp:Nat->Nat->(Bool->db->Prop)->db->Prop}{Q:α->db->Prop}{s:db}(hc:∀i j C,i<N->j<N->(∀b,C b s)->cmp i j C s)(hq:∀a,P a->Q a s):∀{t:En α},eM N P t->t.kasWp cmp Q s
 |.ret a,q=>hq a q
 |.ask i j k,q=>hc i j _ q.1 q.2.1 λb=>eM.wp hc hq (q.2.2 b)
def cS(N:Nat)(p:Array Nat):Prop:=p.toList.Perm (AB N)
def cS.lt{N:Nat}(h:cS N p)(h0:0<N)(k:Nat):p.getD k 0<N:=by
 by_cases c:k<p.size
 .have:p.getD k 0=p[k]:=by simp[c]
  rw[this];exact AQ.mp (h.mem_iff.mp (by simp))
 .have:p.getD k 0=0:=by simp[c]
  rw[this];exact h0
def cS.rev{N:Nat}(h:cS N p)(i j:Nat):cS N (PySem.W.kas_rev p i j):=(EM.mp (mirror_perm p i j _)).trans h
def cS.bub{N:Nat}(h:cS N p)(i j:Nat):cS N (bubble p i j):=(EM.mp (bubble_perm p i j)).trans h
section
variable{N:Nat}(h0:0<N)
include h0
theorem RA(h:cS N p):∀f n,eM N (λ_=>True) (PySem.W.kas_asc p f n)
 |0,n=>trivial
 |f+1,n=>⟨h.lt h0 _,h.lt h0 _,λb=>by
  cases b with
  |true=>exact trivial
  |false=>exact RA h f (n+1)⟩
theorem yK:∀f (p:Array Nat) n q,cS N p->eM N (λr=>cS N r.1) (PySem.W.kas_desc f p n q)
 |0,p,n,q,h=>h
 |f+1,p,n,q,h=>⟨h.lt h0 _,h.lt h0 _,λb=>by
  cases b with
  |true=>
   split
   .exact yK f _ _ _ (h.rev _ _)
   .exact yK f _ _ _ h
  |false=>exact⟨h.lt h0 _,h.lt h0 _,λb=>by
    cases b with
    |true=>exact h
    |false=>exact yK f _ _ _ h⟩⟩
def Rq{m:Nat}(h:cS N p):eM N (λr=>cS N r.2) (PySem.W.kas_tail3 n m p):=by
 exact eM.bind (P':=λr:Nat×Array Nat=>cS N r.2) (f:=λk=>.ret (k,PySem.W.kas_rev p 0 n)) (λk _=>(h.rev _ _)) (RA h0 (h.rev _ _) _ _)
def Ru{m:Nat}(h:cS N p):eM N (λr=>cS N r.2) (PySem.W.kas_descPart n m p):=eM.bind (λr hr=>by
 split
 .exact Rq h0 (hr.rev _ _)
 .exact Rq h0 hr) (yK h0 _ _ _ _ h)
def VC{m:Nat}(h:cS N p):eM N (λr=>cS N r.2) (PySem.W.kas_count m p):=eM.bind (λn _=>by
 split
 .exact h
 .split
  .exact⟨h.lt h0 _,h.lt h0 _,λb=>by
    cases b with
    |true=>exact h
    |false=>exact Ru h0 (h.rev _ _)⟩
  .exact Ru h0 h) (RA h0 h _ _)
theorem yI(h:cS N p)(k:Nat):∀f l r,eM N (λ_=>True) (PySem.W.kas_place p k f l r)
 |0,l,r=>trivial
 |f+1,l,r=>by
  show eM N _ (if l≥r then _ else _)
  split
  .exact trivial
  .exact⟨h.lt h0 _,h.lt h0 _,λb=>by
    cases b with
    |true=>exact yI h k f _ _
    |false=>exact yI h k f _ _⟩
theorem XF:∀f (p:Array Nat) k,cS N p->eM N (cS N) (PySem.W.kas_bin f p k)
 |0,p,k,h=>h
 |f+1,p,k,h=>eM.bind (λl _=>XF f _ _ (h.bub _ _)) (yI h0 h k _ _ _)
def Z6:eM N (cS N) (Gn N):=eM.bind (λr hr=>by
 split
 .exact XF h0 _ _ _ hr
 .exact hr) (VC h0 (List.Perm.refl _))
end
section
variable{s:db}
theorem JX{P:Gq->db->Prop}(ho:s.heap.get? a=some (Ch "list" vs.toArray n))(Ė:vs.length < 64)(Œ:2<=vs.length->∀h',(∀b o,b≠a->s.heap.get? b=some o->h'.get? b=some o)->gl (im prog w) A (keyKind' vs.toArray) (λk s'=>k=κ/\s'={s with heap:=h'}) (λ_ _=>False) {s with heap:=h'})(kT:∀h',(∀b o,b≠a->s.heap.get? b=some o->h'.get? b=some o)->∀i j,i < vs.length->j < vs.length->∀C:Bool->db->Prop,(∀b,C b {s with heap:=h'})->gl (im prog w) A (keyLt' κ (vs.getD i Bc) (vs.getD j Bc)) C (λ_ _=>False) {s with heap:=h'})(h:∀out:O cr,out.Perm vs->P (.done (.ret .none)) {s with heap:=sortedHeap s.heap a vs out.toArray}):gl (im prog w) A (ul.«list.sort» ⟨[.ref a],[]⟩) P E s:=by
 rw[list_sort_plain];have ha:=Ao ho;refine Aa (listItems_at ho rfl ?_);refine Aa (listUpdate_at ho rfl ?_);obtain⟨e1,ho1⟩:∃e1,(s.heap.update a (BH λ_=>#[])).get? a=some (Ch "list" #[] e1):=⟨_,get?_update_seq ho (λ_=>#[])⟩;refine Aa (seqEpoch_at ho1 rfl ?_);refine Aa (Cu ?_);refine Aa (wpAny_newList ?_);refine Bb ?_;have Ĩ:(((s.heap.update a (BH λ_=>#[])).push (Ch "tuple" vs.toArray 0)).push (Ch "list" #[] 0)).get? a=some (Ch "list" #[] e1):=by
  rw[Heap.get?_push_ne _ _ _ (by rw[size_push',E6];exact AA (C4 ha)),Heap.get?_push_ne _ _ _ (by rw[E6];exact AA ha)];exact ho1
 have kp:∀b o,b≠a->s.heap.get? b=some o->(((s.heap.update a (BH λ_=>#[])).push (Ch "tuple" vs.toArray 0)).push (Ch "list" #[] 0)).get? b=some o:=λb o n e=>Aj _ (Aj _ (by rw[F4 _ _ _ _ n];exact e));dsimp only;have hsz:vs.toArray.size=vs.length:=by simp
 by_cases h2:vs.toArray.size<2
 .rw[if_pos h2,if_pos h2];refine Aa (Af ?_);refine Aa (Af ?_);dsimp only;refine Aa (seqEpoch_at Ĩ rfl ?_);refine Aa (listUpdate_at Ĩ rfl ?_ (hsz2:=by rw[Array.size_map];show(pairsOf vs).size<=_;rw[pairsOf_size,sizeLine_eq];lia));simp only[bne_self_eq_false,if_false];refine Af ?_;have e:(arrOf (SortSt.mk' general' (vs.toArray.zip vs.toArray) #[] 7 ci)).map (·.2)=vs.toArray:=by
   apply Array.toList_inj.mp;simp[Fd]
  rw[e];exact h vs (List.Perm.refl _)
 .rw[if_neg h2,if_neg h2];have sH:2<=vs.length:=by lia
  refine Aa (BM (Œ sH _ kp) (λk s0 hk=>?_) λ_ _ x=>x.elim);obtain⟨rfl,rfl⟩:=hk;have hw:(Gn vs.length).kasWp (PySem.W.kas_ask prog w A k vs) (λp s'=>cS vs.length p/\s'={s with heap:=((s.heap.update a (BH λ_=>#[])).push (Ch "tuple" vs.toArray 0)).push (Ch "list" #[] 0)}) {s with heap:=((s.heap.update a (BH λ_=>#[])).push (Ch "tuple" vs.toArray 0)).push (Ch "list" #[] 0)}:=
   eM.wp (λi j C hi hj hC=>kT _ kp i j hi hj C hC) (λp hp=>⟨hp,rfl⟩) (Z6 (show 0<vs.length by lia))
  refine Aa (BM (PySem.W.kat_run (Q:=λpW s'=>∃p:Array Nat,cS vs.length p/\arrOf pW=p.map (PySem.W.kas_item (vs.toArray.zip vs.toArray))/\failedOf pW=ci/\s'={s with heap:=((s.heap.update a (BH λ_=>#[])).push (Ch "tuple" vs.toArray 0)).push (Ch "list" #[] 0)})
   rfl sH Ė (λp' pW s' a1 a2 a3 a4=>⟨p',a4.1,a2,a3,a4.2⟩) hw) ?_ λ_ _ e=>e)
  rintro⟨⟨⟩,pW⟩ s' ⟨p,hp,har,hf,rfl⟩;have XN:(p.toList.map λi=>vs.getD i Bc).Perm vs:=by
   have e:(AB vs.length).map (λi=>vs.getD i Bc)=vs:=by
    apply BQ;intro i;by_cases c:i<vs.length
    .rw[Ah,AW c,Ad c];show some (vs.getD i Bc)=_;rw[Ae,Ad c];rfl
    .rw[Au (by simp;lia),Au ∅]
   have:=hp.map (λi=>vs.getD i Bc);rw[e]at this;exact this
  rw[(PySem.W.kat_snds rfl har)];refine Aa (seqEpoch_at Ĩ rfl ?_);refine Aa (listUpdate_at Ĩ rfl ?_ (hsz2:=by rw[Am,XN.length_eq,sizeLine_eq];lia));rw[hf];simp only[bne_self_eq_false,AD,if_false];exact Af (h _ XN)
def Uk{l:f8}(hl:s.heap.IsList l vs.toArray)(Ė:vs.length < 64)(Œ:2<=vs.length->∀h',(∀b o,s.heap.get? b=some o->h'.get? b=some o)->gl (im prog w) A.in1.in1 (keyKind' vs.toArray) (λk s'=>k=κ/\s'={s with heap:=h'}) (λ_ _=>False) {s with heap:=h'})(kT:∀h',(∀b o,s.heap.get? b=some o->h'.get? b=some o)->∀i j,i < vs.length->j < vs.length->∀C:Bool->db->Prop,(∀b,C b {s with heap:=h'})->gl (im prog w) A.in1.in1 (keyLt' κ (vs.getD i Bc) (vs.getD j Bc)) C (λ_ _=>False) {s with heap:=h'})(h:∀out:O cr,out.Perm vs->Q (.ref (s.heap.objs.size+1)) {s with heap:=sortedAll s.heap vs out.toArray}):gl (im prog w) A (call (.builtin "sorted") [.ref l]) Q E s:=by
 refine Calls.call_function_entry kind_sorted plain_sorted entry_sorted (args_sorted1 _) ?_;refine Aa (Af ?_);refine Aa (collect_list hl ?_);refine Aa (wpAny_newList ?_);have hsz:((s.heap.push (Ch "list" #[] 0)).update s.heap.objs.size (BH (·++vs.toArray))).objs.size=s.heap.objs.size+1:=by
  rw[E6,size_push']
 have ħ:(((s.heap.push (Ch "list" #[] 0)).update s.heap.objs.size (BH (·++vs.toArray))).push (Ch "list" vs.toArray 0)).get? (s.heap.objs.size+1)=some (Ch "list" vs.toArray 0):=by
  rw[<- hsz];exact An _ rfl
 have kp:∀b o,s.heap.get? b=some o->b≠s.heap.objs.size+1/\(((s.heap.push (Ch "list" #[] 0)).update s.heap.objs.size (BH (·++vs.toArray))).push (Ch "list" vs.toArray 0)).get? b=some o:=λb o e=>by
  have lt:=Ao e;refine⟨AA (C4 lt),Aj _ ?_⟩;rw[F4 _ _ _ _ (AA lt)];exact Aj _ e
 rw[hsz];refine Aa (Bb (Bj slot_list_sort ⟨_,ħ,rfl⟩ entry_list_sort (JX (κ:=κ) ħ Ė (λh2 h' k=>?_) (λh' k=>?_) λout hp=>⟨_,rfl,?_⟩) (args_list_sort _)))
 .exact Œ h2 h' λb o e=>k b o (kp b o e).1 (kp b o e).2
 .exact kT h' λb o e=>k b o (kp b o e).1 (kp b o e).2
 .exact Af ⟨_,rfl,h out hp⟩
end
end L2
variable{b:Bf}{i j:Int}{v:L2.V}{p:Cn}{t1:PySem.Tok}
namespace FL
section
variable[bL]
variable{K:Ab}
def qo:PV->Bool
 |.tup [.str _,.tup [.int _,.int _]]=>true
 |_=>false
def Kh(h:qo x=true):∃s i j,x=.tup [.str s,.tup [.int i,.int j]]:=by
 unfold qo at h
 split at h
 .exact⟨_,_,_,rfl⟩
 .cases h
section
variable{s:db}
def Wj(I:Inv X U σ H s){u:cr}(hv:VR X.K [] H v x)(ru:RelV v u)(hx:qo x=true):∃(a b:f8) (st:Str) (i j:Int) (t t1 t2:Tok) (oa ob:Obj) (na nb:Nat),u=.ref a/\s.heap.get? a=some oa/\oa.cls=.type "tuple"/\oa.data=.seq #[.str st t,.ref b] na/\s.heap.get? b=some ob/\ob.cls=.type "tuple"/\ob.data=.seq #[.int i t1,.int j t2] nb:=by
 obtain⟨st,i,j,rfl⟩:=Kh hx;cases hv with
 | @tup p vs _ e r=>
 cases ru;cases r with
 |cons r1 r2=>
 cases r1;cases r2 with
 |cons r2 r3=>
 cases r3;cases r2 with
 | @tup b ws _ e2 r4=>
 cases r4 with
 |cons r4 r5=>
 cases r4;cases r5 with
 |cons r5 r6=>
 cases r6;cases r5;obtain⟨ao,rv,⟨o,h1,h2,n,h3⟩,_⟩:=I.tuple (d6.of e);obtain⟨cq,rv2,⟨o2,k1,k2,n2,k3⟩,_⟩:=I.tuple (d6.of e2);cases rv with
 |cons q1 q2=>
 cases q2 with
 |cons q2 q3=>
 cases q3;cases rv2 with
 |cons m1 m2=>
 cases m2 with
 |cons m2 m3=>
 cases m3;obtain⟨t,rfl⟩:=q1;cases q2;obtain⟨t1,rfl⟩:=m1;obtain⟨t2,rfl⟩:=m2;exact⟨p,b,st,i,j,t,t1,t2,o,o2,n,n2,rfl,h1,h2,h3,k1,k2,k3⟩
end
theorem Wh{s:db}{a' b':f8}{st pW:Str}{i' j':Int}{t t2 t' Ą ă:Tok}{oa ð U5:Obj}{na nb na' Ľ:Nat}(hu:A.units+1 < sn)(h1:s.heap.get? a=some oa)(h3:oa.data=.seq #[.str st t,.ref b] na)(k1:s.heap.get? b=some ob)(k2:ob.cls=.type "tuple")(k3:ob.data=.seq #[.int i t1,.int j t2] nb)(ff:s.heap.get? a'=some ð)(RU:ð.data=.seq #[.str pW t',.ref b'] na')(Ł:s.heap.get? b'=some U5)(ŀ:U5.cls=.type "tuple")(Ŀ:U5.data=.seq #[.int i' Ą,.int j' ă] Ľ){C:Bool->db->Prop}(hC:∀b,C b s):gl (im prog w) A (keyLt' (tuples' true) (.ref a) (.ref a')) C (λ_ _=>False) s:=by
 refine PySem.W.kat_lt h1 h3 ff RU (PySem.W.kat_cons (DZ.str_str st t pW t' prog w _ _ (PySem.W.kat_go (λ_=>PySem.W.kat_yes ?_) λ_=>PySem.W.kat_no ?_)))
 .have hT:s.heap.IsTuple b #[.int i t1,.int j t2]:=⟨ob,k1,k2,nb,k3⟩;have ī:s.heap.IsTuple b' #[.int i' Ą,.int j' ă]:=⟨U5,Ł,ŀ,Ľ,Ŀ⟩;have go:∀e,PySem.W.KatGo prog w A true (decide ((#[Bs st t,.ref b]:Array cr).size<(#[Bs pW t',.ref b']:Array cr).size)) C (.ref b) (.ref b') [] 1 e s:=λe=>PySem.W.kat_go (λ_=>PySem.W.kat_yes (PySem.W.kat_nil (hC _))) λ_=>PySem.W.kat_no (PySem.W.kat_one _ _ (HT.JU hT ī (.cons i t1 (.cons j t2 .nil)) (.cons i' Ą (.cons j' ă .nil)) ∅ (hC _)));by_cases c:b=b'
  .subst c;exact Gs (.ref b) prog w _ _ (go _)
  .refine Ga c (Ge (e:=λk=>if k=0 then i==i' else j==j') hT ī ∅ λk g1 g2=>?_) prog w _ _ (go _);have:k=0\/k=1:=by simp at g1;lia
   rcases this with rfl|rfl
   .exact EB i t1 i' Ą
   .exact EB j t2 j' ă
 .exact oneLt_str (hC _)
section
def Za(K:Ab):O V->Hp->VK->Prop:=λxs H Q=>∃(p:f8) (vs:O V) (l:O PV),xs=[.ref p]/\bM K H p vs/\ax K [] H vs l/\l.length<64/\l.all qo=true/\∀m:O PV,m.Perm l->∀ws,ax K [] H ws m->iW H (.lst ws) Q
def QJ{vs:O V}{out:O cr}{l:O PV}(r:Vals vs us)(v:ax K [] H vs l)(p:out.Perm us):∃ws m,Vals ws out/\ax K [] H ws m/\m.Perm l:=by
 induction p generalizing vs l with
 |nil=>cases r;cases v;exact⟨[],[],.nil,.nil,.refl _⟩
 |cons x p ih=>
  cases r with
  |cons r1 r2=>
  cases v with
  |cons v1 v2=>
  obtain⟨ws,m,a,b,c⟩:=ih r2 v2;exact⟨_::ws,_::m,.cons r1 a,.cons v1 b,.cons _ c⟩
 |swap x y l'=>
  cases r with
  |cons r1 r2=>
  cases r2 with
  |cons r2 r3=>
  cases v with
  |cons v1 v2=>
  cases v2 with
  |cons v2 v3=>exact⟨_::_::_,_::_::_,.cons r2 (.cons r1 r3),.cons v2 (.cons v1 v3),.swap _ _ _⟩
 |trans p1 p2 VN ß=>
  obtain⟨ws,m,a,b,c⟩:=ß r v;obtain⟨rE,m',a',b',c'⟩:=VN a b;exact⟨rE,m',a',b',c'.trans c⟩
theorem K1(hK:X.K=K)(hu:X.A.units+200 < sn):cz X (.builtin "sorted") (Za K):=by
 subst hK;intro U s σ H xs us Q I r h;obtain⟨p,vs,l,rfl,hq,hv,Ė,hd,q⟩:=h;obtain⟨u,rfl,rx⟩:=vals1 r;cases rx;obtain⟨ao,r',pl,hz⟩:=I.list hq;have hl:=r'.length;have Tv:=hv.length;have el:∀i,i < ao.length->∃(a b:f8) (st:Str) (i1 j1:Int) (t t1 t2:Tok) (oa ob:Obj) (na nb:Nat),ao.getD i Bc=.ref a/\s.heap.get? a=some oa/\oa.cls=.type "tuple"/\oa.data=.seq #[.str st t,.ref b] na/\s.heap.get? b=some ob/\ob.cls=.type "tuple"/\ob.data=.seq #[.int i1 t1,.int j1 t2] nb:=λi hi=>by
  have e1:vs[i]?=some vs[i]:=Ad ∅;obtain⟨x,ex,vx⟩:=hv.aeo e1;have ru:RelV vs[i] (ao.getD i Bc):=by
   obtain⟨u,hu1,hu2⟩:=Vals.get r' e1;rw[Ae,hu1];exact hu2
  exact Wj I vx ru (Df.mp hd x (AJ ex))
 refine Uk (κ:=tuples' true) pl.isList ∅ (λh2 h' kp=>?_) (λh' kp i j hi hj C hC=>?_) λout hp=>?_
 .have ë:∀l:O cr,(∀v∈l,∃(a:f8) (x:cr) (st:Str) (t:Tok) (oa:Obj) (na:Nat),v=.ref a/\h'.get? a=some oa/\oa.cls=.type "tuple"/\oa.data=.seq #[.str st t,x] na)->∃fs,PySem.W.KatTups h' l fs/\fs.length=l.length/\∀v∈fs,∃st t,v=Bs st t:=by
   intro l
   induction l with
   |nil=>intro _;exact⟨[],trivial,rfl,by simp⟩
   |cons v l ih=>
    intro hl;obtain⟨fs,f1,f2,f3⟩:=ih λy hy=>hl y (.tail _ hy);obtain⟨a,x,st,t,oa,na,rfl,g1,g2,g3⟩:=hl v (.head _);refine⟨.str st t::fs,PySem.W.KatTups.cons g1 g2 g3 rfl f1,by simp[f2],λy hy=>?_⟩;rcases Ay.mp hy with rfl|hy
    .exact⟨st,t,rfl⟩
    .exact f3 y hy
  obtain⟨fs,f1,f2,f3⟩:=ë ao λv hv=>by
   obtain⟨i,hi,rfl⟩:=Ek hv;obtain⟨a,b,st,i1,j1,t,t1,t2,oa,ob,na,nb,e,h1,h2,h3,_⟩:=el i hi;rw[Ae,Ad hi]at e;exact⟨a,.ref b,st,t,oa,na,e,kp _ _ h1,h2,h3⟩
  refine PySem.W.kat_kind (T:=.type "str") f1 ∅ (λv hv=>?_) ⋯ ⟨rfl,rfl⟩;obtain⟨st,t,rfl⟩:=f3 v hv;exact PySem.W.Looks.now
 .obtain⟨a,b,st,i1,j1,t,t1,t2,oa,ob,na,nb,e,h1,h2,h3,k1,k2,k3⟩:=el i hi;obtain⟨a',b',pW,i1',j1',t',Ą,ă,ð,U5,na',Ľ,e',ff,sH,RU,Ł,ŀ,Ŀ⟩:=el j hj;rw[e,e'];exact Wh (by show X.A.units+1+1+1<_;lia) (kp _ _ h1) h3 (kp _ _ k1) k2 k3 (kp _ _ ff) RU (kp _ _ Ł) ŀ Ŀ hC
 .obtain⟨ws,m,a1,a2,a3⟩:=QJ r' hv hp;obtain⟨e,he⟩:=sortedAll_at s.heap ao out.toArray;refine⟨.ref (s.heap.objs.size+1),_,I.laid (λ_ _=>sortedAll_old) (Ed _) (show br X.prog X.w _ _ _ (.lst ws) from⟨?_,out,e,a1,he⟩),rfl,(q m a3 ws a2).at _ (I.ba.fresh (Ed _))⟩;rw[a2.length,a3.length_eq];rw[<- Tv];exact hz
def PM(l:O PV):W (O PV):=.dm (l.length<64/\l.all qo=true) (.any λm=>m.Perm l)
def Vp(hK:X.K=K)(hu:X.A.units+200 < sn)(hg:Gl X "sorted")(hm:X.mg "sorted"=ci)(ha:IV X K fs e wl)(he:‹gb X e []›)(du:‹km X pos []›):LF X K fs (.Call (.Name "sorted" p) [e] [] pos) (.bind wl PM):=
 ⟨PE.imp (fD (K1 hK hu) hg hm boot_sorted (aJ ha.p bj he) ⋯ ⋯ he du) λσ H Q ⟨sr,q⟩=>⟨sr,wl.mono (λl q1 u1 H1 g1 s1 _ v1=>by
  obtain⟨⟨c1,c2⟩,q2⟩:=q1;obtain⟨a,vs,rfl,h1,r1⟩:=v1 _ H1 .refl s1;exact⟨a,vs,l,rfl,h1,r1,c1,c2,λm hm ws hw=>wN g1 s1 hw (q2 m hm)⟩) q⟩⟩
end
end
end FL
namespace L2
def Qq{kvs:O (Key×V)}{k:Key}:(putK kvs k v).length<=kvs.length+1:=by
 unfold putK
 split<;>simp
end L2
variable{x z:B4}{ts:O B4}{t3:PySem.Tok}
namespace FL
section
variable[bL]
variable{K:Ab}
structure S9(K:Ab)(a:f8)(ts:List Str):Prop where
 ex:∃(o:Obj) (ao:Array cr) (n:Nat),K.lookup a=some o/\o.cls=.type "tuple"/\o.data=.seq ao n/\ao.size<=sizeLine/\Vals (ts.map V.str) ao.toList
 tn:∃o:Obj,K.lookup a=some o/\o.cls=.type "tuple"/\o.dict=ci
def tup3K{t2:Tok}(h:K.lookup a=some ⟨.type "tuple",ci,.seq #[.str x t1,.str y t2,.str z t3] n,Tq⟩):S9 K a [x,y,z]:=⟨⟨_,_,_,h,rfl,rfl,b9 (by show 3<=_;decide),.cons ⟨_,rfl⟩ (.cons ⟨_,rfl⟩ (.cons ⟨_,rfl⟩ .nil))⟩,_,h,rfl,rfl⟩
section
theorem LD(H:Hp):∀ts:O Str,ax K [] H (ts.map V.str) (ts.map PV.str)
 |[]=>.nil
 |t::ts=>.cons (.str t) (LD H ts)
end
section
variable{a:nw}
def acu(hK:X.K=K)(hu:X.A.units+200<sn){ad:f8}(ha:EF X K fs a wa)(hm:X.mg x=some (.ref ad))(T:S9 K ad ts)(hg:‹Gl X x›)(hd: ~~~(gZ x))(hk:‹sB .In (.Name x p)=false›):TF X K fs (.Compare a [.In] [.Name x p] pos) (.bind wa λv=>rO false v (ts.map PV.str)):=⟨PT.imp (gp (QY K hK hu) ha.p (sA hg hm (v:=.ref ad) rfl hd) hk) λσ H Q ⟨sr,q⟩=>⟨sr,wa.mono (λv q1 u1 H1 g1 s1 v1=>⟨ad,_,_,v,rfl,.inr (.inr T.ex),LD H1 ts,v1,q1.1,_,rfl,q1.2 H1 g1 s1⟩) q⟩⟩
end
section
theorem wO:∀(more acc:O (Key×V)),((acc++more).map (·.1)).Nodup->fW acc more=acc++more
 |[],acc,_=>by simp[fW]
 |kv::more,acc,h=>by
  have e:putK acc kv.1 kv.2=acc++[kv]:=by
   unfold putK;rw[if_neg];intro hc;obtain⟨z,hz,e⟩:=List.any_eq_true.mp hc;have e:=of_decide_eq_true e;rw[AI,Co]at h;exact h.2.2 z.1 (Aq.mpr ⟨z,hz,rfl⟩) kv.1 (by simp) e
  have h2:fW acc (kv::more)=fW (putK acc kv.1 kv.2) more:=rfl;rw[h2,e,wO more (acc++[kv]) (by simpa using h)];simp
end
end
section
variable[bL]
def drawn(m:Int):W PV:=.any λv=>∃d:Int,v=.int d/\0<=d/\d<m
end
end FL
namespace My
def m8(cV:PV):W (O PV):=
 []\λnM=>
 am (cV\λx3=>ce [x3]) λpU=>
 am (Jh (λs4=>(s4.2\λl5=>ce (!l5.isEmpty))) (λs4=>(
 am (G8 s4.2) λt7=>
 t7.2\λx9=>am (jo s4.1 x9) λnL=>
 fX (M3 (am (am (ce t7.2) (gT .str)) gj)) (
 am (am (ce t7.2) az) λl11=>am (aaR t7.1 l11) λsY=>
 ce (nL,sY)) (
 ce (nL,t7.1)))) (nM,pU)) λs4=>
 (s4.1\λl12=>ce l12.reverse)
def jE(cV:PV):W PV:=
 []\λcW=>
 []\λyB=>
 am (cV\λx3=>m8 x3) λl30=>am (bP l30 (cW,yB) λyf s4=>(
 am (am (am (ce yf) (gT .str)) gj) λb=>am (if b=true then (
 yf\λsS=>am (jo s4.1 sS) λLw=>
 ce (Lw,s4.2)) else (
 am (G8 s4.2) λt20=>
 am (G8 t20.1) λt22=>
 am (t22.2\λTV=>t20.2\λTU=>ce (.tup [TV,TU])) λTR=>am (jo s4.1 TR) λLv=>
 ce (Lv,t22.1))) λYW=>
 am (b2 yp (am (ce YW.1) ug) (ce (.int 1))) λYv=>am (jo YW.2 Yv) λHz=>
 ce (YW.1,Hz))) λs4=>
 (am (ce s4.1) kD)
def c6(cF:PV):W PV:=
 (fX (am (am (ce cF) (gT .str)) gj) (ce (.tup [])) (ce cF))
def gN(cV:PV):W PV:=
 am (cV\λx2=>jE x2) λcW=>
 am (am (am (ce cW) az) λl4=>bF l4 λp5=>(ce .aB)) λzS=>
 am (am (am (ce cW) az) λl6=>.dm (l6.length<=sizeLine) (.ret (eR 0 l6))) λl19=>am (bP l19 zS λp8 s7=>am (ve p8) λt9=>(
 am (am (t9.2\λnT=>c6 nT) az) λVt=>am (bP Vt s7 λMi Jb=>(
 t9.1\λsT=>Mi\λko=>am (n9 Jb ko sT) λII=>
 ce II)) λJb=>
 ce Jb)) λs7=>
 (am (ce s7) kD)
def eX(fm:PV)(kS:PV):W PV:=
 (fX (am (am (cL (am (ce fm) az) (ce kS)) (gT .str)) gj) (cL (am (ce fm) az) (ce kS)) (ce kS))
def jF(bO:PV):W (O PV):=
 am (bO\λx2=>gN x2) λdQ=>
 am (am (am (ce dQ) az) λl4=>bF l4 λp5=>(ce (.tup []))) λlR=>
 am (am (b2 yp (c1 df (ce dQ)) (ce (.int 1))) λx6=>am (am (ce (.int 1)) yq) λx7=>am (am (ce (.int 1)) yq) λx8=>P8 x6 x7 x8) λVt=>am (bP Vt lR λkR s9=>(
 am (fX (t2 Nu (cL (am (ce dQ) az) (ce kR)) (ce .aB)) (ce (.tup [])) (cL (ce s9) (cL (am (ce dQ) az) (ce kR)))) λIJ=>
 am (w2 addW (kR\λvm=>ce (.tup [vm])) (ce IJ)) λsT=>kR\λko=>am (n9 s9 ko sT) λHA=>
 ce HA)) λs9=>
 ce s9
def gr(yD:PV)(kS:PV):W PV:=
 (am (am (am (c1 df (ce yD)) iQ) λl2=>ml l2 λp3=>Rm (YF (aal true (ce p3) (am (cL (am (ce yD) az) (ce kS)) az)) (aal true (ce kS) (am (cL (am (ce yD) az) (ce p3)) az))) (ce p3)) kD)
def kN(bO:PV):W PV:=
 am (bO\λx2=>jE x2) λfM=>
 am (bO\λx4=>jF x4) λlR=>
 (am (am (am (c1 df (ce fM)) iQ) λl6=>bF l6 λp7=>(am (fM\λx8=>p7\λx9=>eX x8 x9) λnT=>(.int 0)\λpT=>am (am (cL (am (ce fM) az) (ce p7)) λxJ=>c6 xJ) λvm=>am ((.cl lR)\λsT=>p7\λko=>gr sT ko) λpS=>ce (.tup [nT,pT,vm,pS]))) kD)
def fj(fm:PV)(dz:PV):W (O PV):=
 (am (am (am (ce fm) az) λl1=>am (am (ce dz) az) λl2=>MU l1 l2) λl3=>ml l3 λp4=>am (ve p4) λt5=>Rm (M3 (am (am (ce t5.1) (gT .str)) gj)) (ce t5.2))
def jB(bO:PV)(dz:PV)(jU:PV):W (O PV):=
 am (bO\λx2=>gN x2) λdQ=>
 []\λyh=>
 am (am (am (ce jU) az) λl4=>.dm (l4.length<=sizeLine) (.ret (eR 0 l4))) λl19=>am (bP l19 yh λp6 s5=>am (ve p6) λt7=>(
 am (am (am (ce dz) az) λl8=>.dm (l8.length<=sizeLine) (.ret (eR 0 l8))) λVt=>am (bP Vt s5 λp10 s9=>am (ve p10) λTh=>(
 fX (YF (t2 oLe (ce Th.2) (ce t7.2)) (tor (t2 Nu (cL (am (ce dQ) az) (ce Th.1)) (ce .aB)) (t2 oLt (ce t7.2) (cL (am (ce dz) az) (cL (am (ce dQ) az) (ce Th.1)))))) (
 am (Th.1\λvm=>t7.1\λsT=>ce (.tup [vm,sT])) λko=>am (jo s9 ko) λHd=>
 ce Hd) (
 ce s9))) λs9=>
 ce s9)) λs5=>
 ce s5
def lO(fm:PV)(dz:PV)(jU:PV)(oy:PV)(QU:PV):W PV:=
 am (cL (am (ce QU) az) (ce (.int 0))) λlU=>
 am (cL (am (ce QU) az) (ce (.int 1))) λoU=>
 am (b2 oLt (cL (am (ce dz) az) (ce lU)) (cL (am (ce jU) az) (ce oU))) λxf=>
 am (fX (am (ce xf) gj) (lU\λx5=>ce (.tup [x5])) (am (cL (am (ce fm) az) (ce lU)) λx6=>c6 x6)) λbelow_4=>
 am (am (am (am (ce below_4) az) λl8=>bF l8 λp9=>(Mx (ce oy) (p9\λnT=>am (b2 yp (ce oU) (ce (.int 1))) λpT=>ce (.tup [nT,pT])))) kD) λLq=>
 am (am (am (am (ce oy) Ro) λVu=>ml Vu λĊ=>Rm (YF (t2 gq (cL (am (ce Ċ) az) (ce (.int 1))) (ce oU)) (t2 Hj (cL (am (ce Ċ) az) (ce (.int 0))) (ce lU))) (Mx (ce oy) (ce Ċ))) kD) λxD=>
 (am (fm\λko=>lU\λpS=>eX ko pS) λxI=>oU\λsS=>Lq\λvk=>xD\λJf=>ce (.tup [xI,sS,vk,Jf]))
def lQ(bO:PV)(dz:PV):W PV:=
 am (bO\λx2=>jE x2) λfM=>
 am (am ((.int 0)\λx4=>ce [x4]) λl7=>am (am (fM\λx5=>dz\λx6=>fj x5 x6) xU) λl8=>kj l7 l8) λuZ=>
 am (bO\λnT=>dz\λpT=>(.cl uZ)\λxJ=>jB nT pT xJ) λyg=>
 am (am (am (am (am (ce (.cl yg)) az) λXy=>.dm (Xy.length<=sizeLine) (.ret (eR 0 Xy))) λl15=>bF l15 λp16=>am (ve p16) λĸ=>(ĸ.2\λsS=>ĸ.1\λvk=>ce (.tup [sS,vk]))) KU) λtM=>
 (am (am (am (ce (.cl yg)) az) λZY=>bF ZY λp21=>(fM\λPb=>dz\λx23=>(.cl uZ)\λTV=>tM\λTU=>p21\λTR=>lO Pb x23 TV TU TR)) kD)
def dU(bc:PV)(bx:PV):W PV:=
 (cL (am (cL (am (ce bc) az) (ce bx)) az) (ce (.int 2)))
def ic(bc:PV)(bx:PV):W PV:=
 (cL (am (cL (am (ce bc) az) (ce bx)) az) (ce (.int 3)))
def lP(bc:PV)(bx:PV)(WS:PV):W PV:=
 (afb (b2 gq (bc\λx1=>bx\λx2=>dU x1 x2) (ce (.tup []))) (b2 gq (cL (am (cL (am (ce bc) az) (ce bx)) az) (ce (.int 0))) (ce WS)))
def ib(bf:PV)(bx:PV):W (O PV):=
 am (bf\λx2=>bx\λx3=>dU x2 x3) λnW=>
 (fX (t2 gq (c1 df (ce nW)) (ce (.int 2))) (nW\λx4=>am (am (cL (am (ce nW) az) (ce (.int 1))) λx5=>am (cL (am (ce nW) az) (ce (.int 0))) λx6=>ce (.tup [x5,x6])) λx7=>ce [x4,x7]) (ce []))
def jD(bf:PV)(bx:PV):W (O PV):=
 am (bf\λx2=>bx\λx3=>ic x2 x3) λuY=>
 (am (am (am (ce uY) az) λl4=>bF l4 λp5=>(bx\λx6=>p5\λx7=>ce (.tup [x6,x7]))) λl12=>am (am (am (ce uY) az) λl8=>bF l8 λp9=>(p9\λnT=>bx\λpT=>ce (.tup [nT,pT]))) λVu=>kj l12 Vu)
def eY(bf:PV)(cF:PV)(bx:PV):W (O PV):=
 fX (am (am (ce cF) (gT .str)) gj) (
 (fX (am (bf\λx1=>bx\λx2=>cF\λx3=>lP x1 x2 x3) gj) (am ((.str "found")\λx4=>(.tup [])\λx5=>ce (.tup [x4,x5])) λx6=>ce [x6]) (ce []))) (
 am (am (bf\λx8=>bx\λx9=>ib x8 x9) λl10=>bF l10 λp11=>((.str "split")\λxJ=>p11\λvm=>ce (.tup [xJ,vm]))) λLL=>
 am (am (bf\λko=>bx\λpS=>jD ko pS) λVt=>bF Vt λp18=>((.str "over")\λvk=>p18\λJf=>ce (.tup [vk,Jf]))) λL1=>
 (am (am (am (am ((.str "doubled")\λPc=>am (bx\λPb=>bx\λx23=>ce (.tup [Pb,x23])) λTV=>ce (.tup [Pc,TV])) λTU=>ce [TU]) λl26=>am (am (ce (.cl LL)) m9) λl27=>kj l26 l27) λl28=>am (am (ce (.cl L1)) m9) λl29=>kj l28 l29) PM))
end My
variable{kp cp:Cn}{kc:Nat}
namespace L2
section
variable{R:Result->db->Prop}{I S:f8}{wr:O f8}{P:Nat->cr->Prop}{St:Nat->re->Prop}
abbrev dfN:O (Str×cr):=[(Cg "default",.none)]
abbrev ae8(l:O cr)(c:Nat):Obj:={cls:=.type "list",dict:=ci,data:=.seq l.toArray c,slots:=#[]}
def V2{n:Nat}(h:n<=2):n<=sizeLine:=A0 h ⋯
theorem Nz(W:Walks prog w A.in1 I fp wr n P St)(bt:Nat->Nat->Bool)(aiF:CmpOf prog w A.in1 .Lt P bt)(hSf:S∉fp):∀(k j:Nat) (s:db) (l:O cr) (c:Nat),n-j=k->j<=n->St j s.heap->(j=0/\l=[]\/∃i v,j=i+1/\l=[v,v]/\P (argBest bt i) v)->s.heap.get? S=some (ae8 l c)->(∀v h' tk,(n=0/\v=.none\/0 < n/\P (argBest bt (n-1)) v)->(∀b o,b∉wr->b≠S->s.heap.get? b=some o->h'.get? b=some o)->R (.ok (.ret v)) {s with heap:=h',toks:=tk})->Ix (im prog w) A (.builtin "min.loop" ⟨[.ref I,.none,.ref S],dfN⟩) R s:=by
 have hSw:S∉wr:=λh=>hSf (W.sub _ h);have hn:(toString "min"++toString ".loop")="min.loop":=by decide
 intro k
 induction k with
 |zero=>
  intro j s l c hk hj o5 hl hS hR;have e:j=n:=by lia
  subst e;refine zn F.entry_min_loop ?_;refine Aa (Bp hS rfl (Aa (DG (W.done s _ _ o5 λh' tk RM=>?_))));have é:=RM S _ hSw hS;rcases hl with⟨e0,rfl⟩|⟨i,v,rfl,rfl,hv⟩
  .exact Aa (CV (Af (hR _ h' tk (.inl ⟨e0,rfl⟩) λb o hb _ z=>RM b o hb z)))
  .exact Aa (CY é rfl (Aa (CD (Af (hR v _ tk (.inr ⟨Nat.succ_pos _,hv⟩) λb o hb RT z=>(BZ _ _ (Bt RT)).trans (RM b o hb z))))) (V2 (Al _)) (Bh _))
 |succ k ih=>
  intro j s l c hk hj o5 hl hS hR;have kT:j<n:=by lia
  refine zn F.entry_min_loop ?_;rw[Eb C8 _];refine Aa (Bp hS rfl (Aa (DG (W.item j s _ _ kT o5 λv h' tk hP ad2 RM=>?_))));have é:=RM S _ hSw hS;have XE:∀f b o,b∉wr->b≠S->s.heap.get? b=some o->(h'.update S f).get? b=some o:=λf b o hb RT z=>(BZ _ _ (Bt RT)).trans (RM b o hb z);have frU:∀(f:Obj->Obj),St (j+1) (h'.update S f):=λf=>W.frame _ _ _ ad2 λb hbf o e=>(BZ _ _ (λh:S=b=>hSf (by rw[h];exact hbf))).trans e;refine Aa (Af ?_);rcases hl with⟨rfl,rfl⟩|⟨i,vb,rfl,rfl,hb⟩
  .refine Aa (CY é rfl ?_ (Bh _) (Nat.le_succ_of_le (V2 (Al _))));rw[hn];refine Af ⟨wE C8 _,ih 1 _ [v,v] _ ∅ kT (frU _) (.inr ⟨0,v,rfl,rfl,hP⟩) (B8 _ é rfl) λv' h2 Ă ĕ đ=>?_⟩;exact hR v' h2 Ă ĕ λb o hb RT z=>đ b o hb RT (XE _ b o hb RT z)
  .refine Aa (DG (Bb (Aa (aiF (i+1) (argBest bt i) v vb _ _ _ hP hb ?_))));refine Aa (Bb (C3 (Aa (CD (Af ?_)))));cases hbt:bt (i+1) (argBest bt i) with
   |true=>
    refine Aa (CY é rfl (Aa (CD ?_)) (V2 (Al _)) (Nat.le_succ_of_le (V2 (Al _))));refine Af ⟨wE C8 _,ih (i+2) _ [v,v] _ ∅ kT (frU _) (.inr ⟨i+1,v,rfl,rfl,by simp only[argBest,hbt];exact hP⟩) (B8 _ é rfl) λv' h2 Ă ĕ đ=>?_⟩;exact hR v' h2 Ă ĕ λb o hb RT z=>đ b o hb RT (XE _ b o hb RT z)
   |false=>
    refine Aa (CD ?_);rw[hn];exact Af ⟨wE C8 _,ih (i+2) _ [vb,vb] c ∅ kT ad2 (.inr ⟨i+1,vb,rfl,rfl,by simp only[argBest,hbt];exact hb⟩) é λv' h2 Ă ĕ đ=>hR v' h2 Ă ĕ λb o hb RT z=>đ b o hb RT (RM b o hb z)⟩
variable{s:db}
def OL(a:cr):argsOk "min" ⟨[a],dfN⟩:=by unfold argsOk;kernel_rfl
def Vh(ns:O Int)(t:Tok):cr:=if ns=[] then .none else .int (vC ns) t
theorem JR{l:f8}(hh:A.handled=ci)(hl:s.heap.IsList l vs.toArray)(hi:EQ vs ns)(h:∀(h':re) (t:Tok) tk,(∀b o,s.heap.get? b=some o->h'.get? b=some o)->Q (Vh ns t) {s with heap:=h',toks:=tk}):gl (im prog w) A (call (.builtin "min") [.ref l] dfN) Q E s:=by
 obtain⟨xs,e⟩:=hi.allInts.items;have N1:ns=xs.toList.map (·.1):=by rw[<- hi.numsOf,<- nums_intItems,<- e]
 rw[e]at hl;have hn:(toString "min"++toString ".loop")="min.loop":=by decide
 refine kmb_tree F.kind_min F.plain_min F.entry_min (OL _) ?_;refine Aa (BA (rfl) ?_);refine Aa (Af ?_);refine Aa (iter_intList hl λs₂ e2 st hfp hlI=>?_);subst e2;refine Aa (BO ?_);rw[hn];have W:=Walks.list (A:=A.in1) (prog:=prog) (w:=w) hh s.heap.objs.size l hlI (intItems xs);have hsz:(intItems xs).size=ns.length:=by rw[N1];simp[intItems]
 refine Af ⟨wE C8 _,Nz W _ (CmpOf.ints_lt (numAt xs) (λ_ _=>intItems_at)) (λhm=>AE _ (hfp _ hm)) _ 0 _ [] 0 rfl (Bh _) (W.frame _ _ _ st λb _ o e=>Aj _ e) (.inl ⟨rfl,rfl⟩) (An _ rfl) λv h' tk hP hk=>?_⟩;have kp:∀b o,s.heap.get? b=some o->h'.get? b=some o:=λb o z=>by
  have h1:=Ao z;refine hk b o (λy=>AA h1 (AR.mp y)) (λy=>?_) (Aj _ (Aj _ z));rw[y,BD]at h1;exact absurd h1 (Nat.not_lt_of_le (Ed _))
 rcases hP with⟨h0,rfl⟩|⟨h0,hP⟩
 .have e0:ns=[]:=Cm ∅;have:=h h' 0 tk kp;rw[Vh,if_pos e0]at this;exact this
 .obtain⟨t,rfl⟩:=intItems_at hP;have e0:ns≠[]:=λz=>by rw[hsz,z]at h0;exact AE _ h0
  have h2:=h h' t tk kp;rw[Vh,if_neg e0,<- Vj N1 e0]at h2;have ez:(intItems xs).size=xs.size:=by simp[intItems]
  rw[ez];exact h2
end
def ac2(K:Ab):O V->Hp->VK->Prop:=λxs H Q=>∃(p:f8) (ns:O Int),xs=[.ref p]/\bM K H p (ns.map V.int)/\Q (if ns=[] then .aB else .int (vC ns)) H
def US{t:TA}(K:Ab)(hK:X.K=K)(hc:X.calm=true)(hg:Gl X "min")(hm:X.mg "min"=ci)(ha:PA X [e] t)(he:t0 pos (gt [e] X.env)=(false,pc e X.env)::t0 pos (gt [] X.env))(hp:(t0 pos (gt [e] X.env)).any (·.1)=false):PE X (.Call (.Name "min" p) [e] [⟨some (Cg "default"),.Constant .none kc cp,kp⟩] pos) (λσ H Q=>t σ H λvs H'=>ac2 K vs H' Q):=by
 subst hK;intro U s σ H Q I h;refine Br (fc I hg hm boot_min ?_ ⋯ ⋯);refine callWith_kw (bE (ha pos U s σ H _ I h) λus s1 ⟨vs,H1,I1,r1,q1⟩=>?_) he hp;refine kws_cons (bE (QM U s1 σ H1 (λv H2=>v=.aB/\H2=H1) I1 ⟨rfl,rfl⟩) λv s2 ⟨x,H2,I2,r2,e1,e2⟩=>kws_nil ?_);subst e1 e2;cases r2;obtain⟨a,ns,rfl,hq,q⟩:=q1;obtain⟨u,rfl,rx⟩:=vals1 r1;cases rx;obtain⟨ao,r',pl,hz⟩:=I2.list hq;refine JR (I2.ok.hd hc) pl.isList (intsAre_of r') λh' t tk hk=>?_;unfold Vh;by_cases c:ns=[]
 .rw[if_pos c]at q ⊢;exact⟨.aB,_,I2.kept hk,rfl,q⟩
 .rw[if_neg c]at q ⊢;exact⟨.int _,_,I2.kept (t':=tk) hk,⟨t,rfl⟩,q⟩
end L2
namespace FL
section
variable[bL]
def L7(l:O PV):W PV:=.bind (qY l) λns=>.ret (if ns=[] then .aB else .int (vC ns))
def aaZ{K:Ab}(hK:X.K=K)(hc:X.calm=true)(hg:Gl X "min")(hm:X.mg "min"=ci)(ha:IV X K fs e wl)(hs:‹gb X e []›)(he:‹t0 pos (gt [e] X.env)=(false,pc e X.env)::t0 pos (gt [] X.env)›)(hp:‹(t0 pos (gt [e] X.env)).any (·.1)=false›):EF X K fs (.Call (.Name "min" p) [e] [⟨some (Cg "default"),.Constant .none kc cp,kp⟩] pos) (.bind wl L7):=⟨PE.imp (US K hK hc hg hm (aJ ha.p bj hs) he hp) λσ H Q ⟨sr,q⟩=>⟨sr,wl.mono (λl q1 u1 H1 g1 s1 _ v1=>by
 obtain⟨ns,el,q2⟩:=lT q1;obtain⟨a,vs,rfl,h1,r1⟩:=v1 _ H1 .refl s1;rw[el]at r1;have:=oZ r1;subst this;refine⟨a,ns,rfl,h1,?_⟩;by_cases c:ns=[]
 .simp only[if_pos c]at q2 ⊢;exact q2 _ H1 g1 s1 .aB
 .simp only[if_neg c]at q2 ⊢;exact q2 _ H1 g1 s1 (.int _)) q⟩⟩
end
end FL
namespace L2
def ix3(x y z q:Str):Nat:=if x=q then 0 else if y=q then 1 else 2
def qg{q:Str}{t2 t:Tok}:Meets (ul.«tuple.index» ⟨[.ref a,.str q t],[]⟩) (λ_ R s=>(∃o,s.heap.get? a=some o/\o.data=.seq #[.str x t1,.str y t2,.str z t3] n)/\q∈[x,y,z]/\∀u,R (.ok (.ret (.int (ix3 x y z q:Nat) u))) {s with toks:=s.toks+1}):=by
 refine .of_wp λprog w A R s ⟨⟨o,ho,hd⟩,hq,h⟩=>?_;refine Aa (Af ?_);refine Aa (Aa (Bp ho hd (Af ?_)));refine Aa (Af ?_);refine Aa (Af ?_);refine Aa ?_;rw[Std.Legacy.Range.forIn_eq_forIn_range'];rw[show List.range' [:min #[Bs x t1,Bs y t2,Bs z t3].size #[Bs x t1,Bs y t2,Bs z t3].size].start [:min #[Bs x t1,Bs y t2,Bs z t3].size #[Bs x t1,Bs y t2,Bs z t3].size].size [:min #[Bs x t1,Bs y t2,Bs z t3].size #[Bs x t1,Bs y t2,Bs z t3].size].step=[0,1,2] from by simp;decide];refine Aa (Aa (D3 ?_));have Ñ:∀k:Nat,ix3 x y z q=k->∃v,D7 (.ret (.int k s.toks))=D7 (.ret v)/\R (.ok (.ret v)) {s with toks:=s.toks+1}:=λk e=>⟨_,rfl,by have:=h s.toks;rw[e]at this;exact this⟩;by_cases c1:x=q
 .subst c1;rw[decide_eq_true rfl,if_pos rfl];exact Aa (Aa (Aa (wpAny_fresh (Af (Af (Af (Af (Af (Ñ 0 (if_pos rfl))))))))))
 .rw[decide_eq_false c1,if_neg ⋯];refine Af (Aa (Aa (D3 ?_)));by_cases c2:y=q
  .subst c2;rw[decide_eq_true rfl,if_pos rfl];exact Aa (Aa (Aa (wpAny_fresh (Af (Af (Af (Af (Af (Ñ 1 (by rw[ix3,if_neg c1,if_pos rfl]))))))))))
  .rw[decide_eq_false c2,if_neg ⋯];refine Af (Aa (Aa (D3 ?_)));have c3:z=q:=by simp at hq;rcases hq with e|e|e<;>first|exact absurd e.symm c1|exact absurd e.symm c2|exact e.symm
   subst c3;rw[decide_eq_true rfl,if_pos rfl];exact Aa (Aa (Aa (wpAny_fresh (Af (Af (Af (Af (Af (Ñ 2 (by rw[ix3,if_neg c1,if_neg c2]))))))))))
def ac8(K:Ab):V->O V->Hp->VK->Prop:=λv vs H Q=>∃a x y z q,v=.ref a/\vs=[.str q]/\d6 K H a [.str x,.str y,.str z]/\q∈[x,y,z]/\Q (.int (ix3 x y z q:Nat)) H
def Vf(K:Ab)(hK:X.K=K):Lj X "tuple.index" (ac8 K):=by
 subst hK;intro U s σ H v vs u us Q I rx rv h;obtain⟨a,x,y,z,q,rfl,rfl,hq,hm,qq⟩:=h;cases rx;obtain⟨u,rfl,ru⟩:=rv.one;obtain⟨t,rfl⟩:=ru;obtain⟨ao,r,pl,hz⟩:=I.tuple hq;obtain⟨o,ho,hc,n,hd⟩:=pl;cases r with
 |cons q1 r=>cases r with
  |cons q2 r=>cases r with
   |cons q3 r=>
    cases r;obtain⟨t1,rfl⟩:=q1;obtain⟨t2,rfl⟩:=q2;obtain⟨t3,rfl⟩:=q3;exact v4 F.slot_tuple_index ⟨_,ho,hc⟩ F.entry_tuple_index (F.args_tuple_index_2 _ _) qg ⟨⟨_,ho,hd⟩,hm,λu=>⟨.int _,H,I.tok _,⟨u,rfl⟩,qq⟩⟩
end L2
namespace FL
section
variable[bL]
def RJ(ts:O Str):PV->W PV
 |.str q=>match ts with
  |[x,y,z]=>.dm (q∈[x,y,z]) (.ret (.int (ix3 x y z q:Nat)))
  |_=>.fail
 |_=>.fail
def aa0{K:Ab}{w:W PV}{n:Str}{ad:f8}(hK:X.K=K)(he:EF X K fs e w)(hm:X.mg n=some (.ref ad))(T:S9 K ad ts)(hg:‹Gl X n›)(hd: ~~~(gZ n))(cH:‹pr (.Name n p) "index" X.env (pc (.Name n p) X.env)=pc (.Name n p) X.env›)(jH:‹WK X a9 [e]›)(cG:‹MR À a9›)(o5:‹gb X e []›)(cg:‹km X a9 []›):EF X K fs (.Call (.Attribute (.Name n p) "index" À) [e] [] a9) (.bind w (RJ ts)):=
 ⟨PE.imp (jy K hK PySem.F.plainAttrs_tuple PySem.F.slot_tuple_index PySem.F.type_tuple_index (Vf K hK) (sA hg hm (v:=.ref ad) rfl hd) (aJ he.p bj o5) cH jH cG o5 cg) λσ H Q ⟨sr,q⟩=>
  ⟨.inr (.inl ⟨rfl,T.tn⟩),sr,w.mono (λx q2 u2 H2 g2 s2 v2=>by
   cases v2<;>first|exact q2.elim|skip
   match ts,T,q2 with
   |[x,y,z],T,q2=>exact⟨ad,x,y,z,_,rfl,rfl,.inr T.ex,q2.1,q2.2 _ H2 g2 s2 (.int _)⟩
   |[],_,q2=>exact q2.elim
   |[_],_,q2=>exact q2.elim
   |[_,_],_,q2=>exact q2.elim
   |_::_::_::_::_,_,q2=>exact q2.elim) q⟩⟩
end
section
variable[bL]
variable{K:Ab}
def qb(l:O PV):PV->W (O PV×PV)
 |.int k=>.bind (.Nt (nQ l.length k)) λj=>.bind (.Nt l[j]?) λv=>.dm (l.length<=sizeLine) (.ret (l.eraseIdx j,v))
 |_=>.fail
theorem ax.erase:∀{ws:O V}{l:O PV} (j:Nat),ax K [] H ws l->ax K [] H (ws.eraseIdx j) (l.eraseIdx j)
 |_,_,_,.nil=>by simp;exact .nil
 |_,_,0,.cons _ t=>t
 |_,_,j+1,.cons r t=>by rw[DA,DA];exact .cons r (ax.erase j t)
section
variable{rest:O wn}{T:Type}{out:T->End}{x:Bool}{l:O PV}
theorem SF.Zk(i j:Nat){k:O PV×PV->W T}(hs:fs[i]?=some (some (.ol q0 l)))(æ:j≠i)(hK:X.K=K)(hN:X.N[i]?=some y)(hv:v9 X.env.scope y)(ŝ:X.N.Nodup)(hj:X.N[j]?=some z)(hx:Loc X.env.scope z)(he:EF X K fs e we fs1)(hr:∀t:O PV×PV,SF X K x ((fs1.set i (some (.ol q0 t.1))).set j (some (.val t.2))) rest (k t) out)(hd: ~~~(gZ y))(gU: ~~~(xF y))(cH:‹pr (.Name y p) "pop" X.env (pc (.Name y p) X.env)=pc (.Name y p) X.env›)(jH:‹WK X a9 [e]›)(cG:‹MR À a9›)(o5:‹gb X e []›)(cg:‹km X a9 []›)(mn:‹o0 (.Call (.Attribute (.Name y p) "pop" À) [e] [] a9) (some (.Name z p')) pos.line X.env=pure false›)(hf:MP X z:=by first | exact .inl rfl | exact .inr rfl | assumption):SF X K x fs (.Assign [.Name z p'] (.Call (.Attribute (.Name y p) "pop" À) [e] [] a9) pos::rest) (.bind we λn=>.bind (qb l n) k) out:=
 SF.step (ir ŝ hj hx (jy K hK Bm DU DT Hr (cX hN hv hd gU) (aJ he.p bj o5) cH jH cG o5 cg) mn hf) λD σ H ⟨sr,q⟩=>by
  obtain⟨a,ws,e1,h1,r1⟩:=dR sr hs;refine⟨_,e1,.inl ⟨rfl,_,bM.of h1⟩,sr,we.mono (λn q1 u H1 g1 s1 v1=>?_) q⟩;obtain⟨a',rE,k7,ff,vf⟩:=dR s1 (g1.ev.same hs (by simp));rw[e1]at k7;cases k7;cases v1 with
  |int kk=>
   have q1:(am (.Nt (nQ l.length kk)) λj=>.bind (.Nt l[j]?) λv=>.dm (l.length<=sizeLine) (.ret (l.eraseIdx j,v))).run λt=>(k t).run λt=>cm K x σ fs H D (out t):=q1;cases hx:nQ l.length kk with
   |none=>rw[hx]at q1;exact q1.elim
   |some m=>
   cases hv:l[m]? with
   |none=>rw[hx]at q1;simp only[KB,mo,hv]at q1;exact q1.elim
   |some v=>
   rw[hx]at q1;simp only[KB,mo,hv]at q1;obtain⟨hz,q1⟩:=q1;obtain⟨uu,hu,ru⟩:=vf.get hv;obtain⟨h3,h4,h5,h6⟩:=oW hx;have h9:(sizeLine:Int)<2 ^ 63:=by decide
   refine⟨a,rE,kk,m,uu,rfl,rfl,ff,by lia,by lia,by rw[vf.length];exact h3,hu,?_⟩;have sx:jq a H1 (upd H1 a (.lst (rE.eraseIdx m))):=λz o n hz=>by rw[aj n];exact hz
   have mq:fs1[i]?=some (some (.ol q0 l)):=g1.ev.same hs (by simp);obtain⟨s2,g2⟩:=gJ (t':=.ol q0 (l.eraseIdx m)) s1 mq rfl (by simp) e1 sx λtk=>⟨λb hb=>by
    subst hb;obtain⟨u,e2,⟨v,e,_⟩|⟨b',e,z,_⟩⟩:=s1.at' i _ mq
    .cases e
    .rw[e2]at e1;cases e1;cases e;exact z b rfl,_,ay,ax.tk tk (ax.erase m vf)⟩
   have s3:=s2.fy (g2.vr s1 ru) j;exact⟨_,k _,hr (l.eraseIdx m,v),s3,(k _).mono (λt q2=>q2.go ((g1.f.trans g2).trans (cn.fy s2 _ _ j)) sr s3) q1⟩
  |_=>exact q1.elim
end
end
end FL
namespace My
def kM(jT:PV):W PV:=
 (fX (aal false (ce .aB) (am (ce jT) az)) (ce .aB) (am (am (ce jT) m9) tm))
def gM(jT:PV):W PV:=
 (am (am (am (ce jT) az) λl1=>ml l1 λp2=>Rm (t2 Hi (ce p2) (ce .aB)) (ce p2)) L7)
def jC(bQ:PV)(jg:PV):W PV:=
 (fX (jg\λx1=>rO false x1 ([("split":Str),("doubled":Str),("over":Str)].map PV.str)) (cL (am (ce bQ) az) (am (ce jg) (RJ ["split","doubled","over"]))) (ce (.int 0)))
def hZ(bf:PV)(bQ:PV)(bx:PV):W PV:=
 (fX (t2 gq (c1 df (bf\λx1=>bx\λx2=>dU x1 x2)) (ce (.int 2))) (cL (am (ce bQ) az) (ce (.int 3))) (ce (.int 0)))
end My
namespace FL
section
variable[bL]
def tK:of2 (aI g) (.int i) (.int j)=.ret (g i j):=P3 λQ=>⟨Ew,λq=>⟨rfl,q⟩⟩
def ym{C:Int->Int->Prop}:of2 (aIc C g) (.int i) (.int j)=.dm (C i j) (.ret (g i j)):=P3 λQ=>⟨λq=>⟨q.1,q.2.2⟩,λq=>⟨q.1,rfl,q.2⟩⟩
section
variable(i j:Int)(a:Bool)(x y:PV)(l m:O PV)(s t:Str)
@[simp] theorem uI:of2 yp (.int i) (.int j)=.ret (.int (i-j)):=tK
@[simp] theorem Sf:of2 U7 (.int i) (.int j)=.dm (Fk i j) (.ret (.int (i*j))):=ym
@[simp] theorem aaV:of2 oMod (.int i) (.int j)=.dm (0<j) (.ret (.int (i % j))):=ym
@[simp] theorem Kw:of2 Q1 (.int i) (.int j)=.dm (OT i j) (.ret (.int (i ^ j.toNat))):=ym
@[simp] theorem X3:of2 oLt (.int i) (.int j)=.ret (.bl (decide (i<j))):=tK
@[simp] theorem aeL:of2 oLe (.int i) (.int j)=.ret (.bl (decide (i<=j))):=tK
@[simp] theorem aeM:of2 oGt (.int i) (.int j)=.ret (.bl (decide (j<i))):=tK
@[simp] theorem aeN:of2 oGe (.int i) (.int j)=.ret (.bl (decide (j<=i))):=tK
def uK:of2 gq x y=.dm (Od x y) (.ret (.bl (kf x y))):=P3 λQ=>⟨λq=>⟨q.1,q.2.2⟩,λq=>⟨q.1,rfl,q.2⟩⟩
def Se:of2 Hj x y=.dm (Od x y) (.ret (.bl (!kf x y))):=P3 λQ=>⟨λq=>⟨q.1,q.2.2⟩,λq=>⟨q.1,rfl,q.2⟩⟩
@[simp] theorem uJ:of2 Nu x .aB=.ret (.bl x.ka):=P3 λQ=>⟨Ew,λq=>⟨rfl,q⟩⟩
@[simp] theorem agb:of2 Hi x .aB=.ret (.bl (!x.ka)):=P3 λQ=>⟨Ew,λq=>⟨rfl,q⟩⟩
@[simp] theorem cE:addW (.int i) (.int j)=.ret (.int (i+j)):=(rfl)
@[simp] theorem agu:addW (.str s) (.str t)=.dm (s.length+t.length<=sizeLine) (.ret (.str (s++t))):=(rfl)
@[simp] theorem V4:addW (.tup l) (.tup m)=.dm (l.length+m.length<=sizeLine) (.ret (.tup (l++m))):=(rfl)
@[simp] theorem Kx:yq (.int i)=.ret (.int (-i)):=(rfl)
@[simp] theorem dw:asB (.bl a)=.ret a:=(rfl)
@[simp] theorem abX(w:W PV):SV (.bl true) w=w:=(rfl)
@[simp] theorem abY(w:W PV):SV (.bl false) w=.ret (.bl false):=(rfl)
@[simp] theorem Mq(w:W PV):WB (.bl true) w=w:=(rfl)
@[simp] theorem agt(w:W PV):WB (.bl false) w=.ret (.bl false):=(rfl)
@[simp] theorem cD:gj (.bl a)=.ret a:=(rfl)
@[simp] theorem af8:gj (.int i)=.ret (i != 0):=(rfl)
@[simp] theorem af7:gj .aB=.ret false:=(rfl)
@[simp] theorem af6:gj (.tup l)=.ret (!l.isEmpty):=(rfl)
@[simp] theorem af9:gj (.cl l)=.ret (!l.isEmpty):=(rfl)
@[simp] theorem aO:az (.tup l)=.ret l:=(rfl)
@[simp] theorem bq:az (.cl l)=.ret l:=(rfl)
@[simp] theorem ig:m9 (.cl l)=.ret l:=(rfl)
@[simp] theorem cy:ixW l (.int i)=.Nt (d5 l i):=(rfl)
@[simp] theorem zm:ug l=.ret (.int l.length):=(rfl)
@[simp] theorem ai0:kD l=.ret (.tup l):=(rfl)
@[simp] theorem aga:part (.int i)=.ret (some i):=(rfl)
@[simp] theorem iC:ve (.tup [x,y])=.ret (x,y):=(rfl)
@[simp] theorem Sb(z u:PV):un4 (.tup [x,y,z,u])=.ret (x,y,z,u):=(rfl)
@[simp] theorem agp(k:Kd):gT k (.int i)=.ret (.bl (k.is (.int i))):=(rfl)
@[simp] theorem ph(k:Kd):gT k (.str s)=.ret (.bl (k.is (.str s))):=(rfl)
@[simp] theorem gC(k:Kd):gT k (.tup l)=.ret (.bl (k.is (.tup l))):=(rfl)
@[simp] theorem agq(k:Kd):gT k (.cl l)=.ret (.bl (k.is (.cl l))):=(rfl)
@[simp] theorem agr(k:Kd):gT k (.bl a)=.ret (.bl (k.is (.bl a))):=(rfl)
@[simp] theorem ago(k:Kd):gT k .aB=.ret (.bl (k.is .aB)):=(rfl)
@[simp] theorem sJ:Hh df [.tup l]=.ret (.int l.length):=P3 λQ=>⟨Ew,λq=>⟨rfl,q⟩⟩
@[simp] theorem eJ:Hh df [.cl l]=.ret (.int l.length):=P3 λQ=>⟨Ew,λq=>⟨rfl,q⟩⟩
@[simp] theorem agc:Hh df [.str s]=.dm (s.length<=sizeLine) (.ret (.int s.length)):=P3 λQ=>⟨λq=>⟨q.1,q.2.2⟩,λq=>⟨q.1,rfl,q.2⟩⟩
@[simp] theorem ags:Hh ID [.int i]=.ret (.int i):=P3 λQ=>⟨Ew,λq=>⟨rfl,q⟩⟩
@[simp] theorem zp:Hh ID [.bl a]=.ret (.int (if a then 1 else 0)):=P3 λQ=>⟨Ew,λq=>⟨rfl,q⟩⟩
@[simp] theorem age:NI (.int i)=.ret (.inl i):=(rfl)
@[simp] theorem agd:NI (.str s)=.ret (.inr s):=(rfl)
@[simp] theorem eI:iQ (.int j)=.dm (okN 0 j) (.ret (kd 0 j.toNat)):=(rfl)
@[simp] theorem V3(k:Int):P8 (.int i) (.int j) (.int k)=.dm (k = -1/\okN j i) (.ret (rm i (i-j).toNat)):=(rfl)
@[simp] theorem aaT:G8 (l++[x])=.ret (l,x):=by unfold G8;simp
@[simp] theorem Sd:Nd l (.int i)=.dm (-(2 ^ 63)<=i/\i<2 ^ 63/\l.length*i.toNat<=sizeLine) (.ret (Ap i.toNat l).flatten):=(rfl)
@[simp] theorem agk:Kd.is .int (.int i)=true:=(rfl)
@[simp] theorem agl:Kd.is .int (.bl a)=true:=(rfl)
@[simp] theorem agn:Kd.is .bool (.bl a)=true:=(rfl)
@[simp] theorem agm:Kd.is .bool (.int i)=false:=(rfl)
@[simp] theorem pe:Kd.is .str (.str s)=true:=(rfl)
@[simp] theorem gB:Kd.is .str (.tup l)=false:=(rfl)
@[simp] theorem agj:Kd.is .str (.int i)=false:=(rfl)
@[simp] theorem agf:Kd.is .tup (.tup l)=true:=(rfl)
@[simp] theorem agg:Kd.is .tup (.str s)=false:=(rfl)
@[simp] theorem agh:Kd.is .tup (.int i)=false:=(rfl)
@[simp] theorem agi:Kd.is .tup (.bl a)=false:=(rfl)
def bK{m:Int}{Q:PV->Prop}(h:∀d:Int,0<=d->d<m->Q (.int d)):(drawn m).run Q:=λv ⟨d,e,h0,h1⟩=>e▸h d h0 h1
end
namespace W
variable{α β:Type}
def le(a b:W α):Prop:=∀Q,b.run Q->a.run Q
def le.refl(a:W α):a.le a:=λ_ h=>h
def le.of_eq{a b:W α}(h:a=b):a.le b:=h▸le.refl a
def le.ret{a:W α}{v:α}{f:α->W β}{b:W β}(h:a.le (.ret v))(hf:(f v).le b):(a.bind f).le b:=λQ q=>h _ (hf Q q)
def le.use{a:W α}{v:α}{Q:α->Prop}(h:a.le (.ret v))(q:Q v):a.run Q:=h _ q
end W
section
variable{S R:Type}
@[simp] theorem jc(s:S)(f:PV->S->W S):bP [] s f=.ret s:=(rfl)
@[simp] theorem lV(x:PV)(r:O PV)(s:S)(f:PV->S->W S):bP (x::r) s f=.bind (f x s) λs'=>bP r s' f:=(rfl)
theorem uE{f:PV->S->W S}{Q:S->Prop}(I:O PV->S->Prop):∀{l:O PV}{s:S},I l s->(∀x r s,I (x::r) s->(f x s).run (I r))->(∀s,I [] s->Q s)->(bP l s f).run Q
 |[],s,h0,_,he=>he s h0
 |x::r,s,h0,hs,he=>(f x s).mono (λs' h=>uE I h hs he) (hs x r s h0)
theorem Ih{f:PV->S->W (Lp S R)}{Q:Lp S R->Prop}(I:O PV->S->Prop):∀{l:O PV}{s:S},I l s->(∀x r s,I (x::r) s->(f x s).run λo=>match o with|.go s'=>I r s'|.out t=>Q (.out t))->(∀s,I [] s->Q (.go s))->(FL.kX l s f).run Q
 |[],s,h0,_,he=>he s h0
 |x::r,s,h0,hs,he=>(f x s).mono (λo h=>match o,h with
  |.go s',h=>Ih I h hs he
  |.out t,h=>h) (hs x r s h0)
theorem eF{f:PV->S->W S}{Q:S->Prop}{l:O PV}(I:Nat->S->Prop){s:S}(h0:I 0 s)(hs:∀(i:Nat) (x:PV) s,l[i]?=some x->I i s->(f x s).run (I (i+1)))(he:∀s,I l.length s->Q s):(bP l s f).run Q:=by
 refine uE (λr s=>∃i,i<=l.length/\r=l.drop i/\I i s) ⟨0,Bh _,rfl,h0⟩ (λx r s ⟨i,hi,e,h⟩=>?_) (λs ⟨i,hi,e,h⟩=>?_)
 .have kT:i<l.length:=by
   rcases Bu i l.length with h|h
   .exact h
   .rw[Fu h]at e;cases e
  rw[B7 kT]at e;injection e with e1 e2;subst e1;exact(f _ s).mono (λs' h'=>⟨i+1,kT,e2,h'⟩) (hs i _ s (Ad kT) h)
 .have:i=l.length:=by
   have:=congrArg B5 e;rw[Dc]at this;simp at this;lia
  subst this;exact he s h
theorem zi{f:PV->S->W (Lp S R)}{Q:Lp S R->Prop}{l:O PV}(I:Nat->S->Prop){s:S}(h0:I 0 s)(hs:∀(i:Nat) (x:PV) s,l[i]?=some x->I i s->(f x s).run λo=>match o with|.go s'=>I (i+1) s'|.out t=>Q (.out t))(he:∀s,I l.length s->Q (.go s)):(FL.kX l s f).run Q:=by
 refine Ih (λr s=>∃i,i<=l.length/\r=l.drop i/\I i s) ⟨0,Bh _,rfl,h0⟩ (λx r s ⟨i,hi,e,h⟩=>?_) (λs ⟨i,hi,e,h⟩=>?_)
 .have kT:i<l.length:=by
   rcases Bu i l.length with h|h
   .exact h
   .rw[Fu h]at e;cases e
  rw[B7 kT]at e;injection e with e1 e2;subst e1;exact(f _ s).mono (λo h'=>match o,h' with
   |.go s',h'=>⟨i+1,kT,e2,h'⟩
   |.out t,h'=>h') (hs i _ s (Ad kT) h)
 .have:i=l.length:=by
   have:=congrArg B5 e;simp at this;lia
  subst this;exact he s h
def o8{f:PV->S->W S}{Q:S->Prop}(I:Nat->S->Prop){s:S}(h0:I 0 s)(hs:∀(i:Nat) s,i<n->I i s->(f (.int (i:Int)) s).run (I (i+1)))(he:∀s,I n s->Q s):(bP (kd 0 n) s f).run Q:=
 eF I h0 (λi x s hx h=>by obtain⟨hi,rfl⟩:=qp hx;rw[Gj];exact hs i s hi h) (λs h=>he s (by rw[i7]at h;exact h))
def R0{f:PV->S->W (Lp S R)}{Q:Lp S R->Prop}(I:Nat->S->Prop){s:S}(h0:I 0 s)(hs:∀(i:Nat) s,i<n->I i s->(f (.int (i:Int)) s).run λo=>match o with|.go s'=>I (i+1) s'|.out t=>Q (.out t))(he:∀s,I n s->Q (.go s)):(FL.kX (kd 0 n) s f).run Q:=
 zi I h0 (λi x s hx h=>by obtain⟨hi,rfl⟩:=qp hx;rw[Gj];exact hs i s hi h) (λs h=>he s (by rw[i7]at h;exact h))
theorem Jg{c:S->W Bool}{b:S->W S}{Q:S->Prop}(I:Nat->S->Prop){s:S}(h0:I n s)(hs:∀n s,I n s->(c s).run λk=>if k=true then (b s).run (λs'=>∃m,m<n/\I m s') else Q s):(Jh c b s).run Q:=by
 refine⟨n+1,?_⟩;have:∀k n s,n<k->I n s->(ip c b k s).run Q:=by
  intro k
  induction k with
  |zero=>intro n s h;lia
  |succ k ih=>
   intro n s hn h;refine(c s).mono (λz q=>?_) (hs n s h);cases z with
   |true=>exact(b s).mono (λs' ⟨m,hm,h'⟩=>ih m s' ∅ h') (q)
   |false=>exact q
 exact this (n+1) n s ∅ h0
theorem L9{f:PV->W PV}{g:PV->PV}:∀{l:O PV},(∀x∈l,f x=.ret (g x))->bF l f=.ret (l.map g)
 |[],_=>rfl
 |x::r,h=>by
  show am (f x) (λy=>am (bF r f) λl=>ce (y::l))=_;rw[h x (.head _),L9 λy hy=>h y (.tail _ hy)];rfl
theorem ui{g:PV->Option PV}:∀{l:O PV},(∀x∈l,f x=.ret (g x))->ml l f=.ret (l.filterMap g)
 |[],_=>rfl
 |x::r,h=>by
  show am (f x) (λo=>am (ml r f) λl=>ce (o.toList++l))=_;rw[h x (.head _),ui λy hy=>h y (.tail _ hy),AH];cases g x<;>rfl
end
section
variable(i j:Int)(a b:Bool)(x y:PV)(l m:O PV)(s t:Str)
@[simp] theorem XZ:kf (.int i) (.int j)=(i==j):=by rw[kf]
@[simp] theorem Mp:kf (.str s) (.str t)=(s==t):=by rw[kf]
@[simp] theorem X0:kf (.bl a) (.bl b)=(a==b):=by rw[kf]
@[simp] theorem aeD:kf (.tup l) (.tup m)=fZ l m:=by rw[kf]
@[simp] theorem akr:kf (.cl l) (.cl m)=fZ l m:=by rw[kf]
@[simp] theorem aiX:fZ [] []=true:=by rw[fZ]
@[simp] theorem aiW:fZ (x::l) (y::m)=(kf x y&&fZ l m):=by rw[fZ]
@[simp] theorem af3:PV.fg (.int i)=true:=by rw[PV.fg]<;>simp
@[simp] theorem aiV:PV.fg (.bl a)=true:=by rw[PV.fg]<;>simp
@[simp] theorem af1:PV.fg (.str s)=true:=by rw[PV.fg]<;>simp
@[simp] theorem af2:PV.fg .aB=true:=by rw[PV.fg]<;>simp
@[simp] theorem V0:PV.fg (.tup l)=eG l:=by rw[PV.fg]
@[simp] theorem aiU:PV.fg (.cl l)=eG l:=by rw[PV.fg]
@[simp] theorem aey:eG []=true:=by rw[eG]
@[simp] theorem abR:eG (x::l)=(PV.fg x&&eG l):=by rw[eG]
@[simp] theorem aeH:PV.iB (.int i)=0:=by rw[PV.iB]<;>simp
@[simp] theorem af5:PV.iB (.bl a)=0:=by rw[PV.iB]<;>simp
@[simp] theorem aeF:PV.iB (.str s)=0:=by rw[PV.iB]<;>simp
@[simp] theorem aeG:PV.iB .aB=0:=by rw[PV.iB]<;>simp
@[simp] theorem aeE:PV.iB (.tup l)=dE l+1:=by rw[PV.iB]
@[simp] theorem af4:PV.iB (.cl l)=dE l+1:=by rw[PV.iB]
@[simp] theorem abU:dE []=0:=by rw[dE]
@[simp] theorem aaP:dE (x::l)=max (PV.iB x) (dE l):=by rw[dE]
def Io:Od (.int i) (.int j):=⟨by simp,by simp,by simp⟩
@[simp] theorem qz:of2 gq (.int i) (.int j)=.ret (.bl (i==j)):=by rw[uK,sK (Io i j),XZ]
@[simp] theorem aaU:of2 Hj (.int i) (.int j)=.ret (.bl (!(i==j))):=by rw[Se,sK (Io i j),XZ]
@[simp] theorem ai2:of2 gq (.bl a) (.bl b)=.ret (.bl (a==b)):=by rw[uK,sK ⟨by simp,by simp,by simp⟩,X0]
@[simp] theorem ai1:of2 Hj (.bl a) (.bl b)=.ret (.bl (!(a==b))):=by rw[Se,sK ⟨by simp,by simp,by simp⟩,X0]
end
theorem jd:∀{l:O PV},eG l=true↔∀x∈l,PV.fg x=true
 |[]=>by simp
 |x::l=>by rw[eG,A9,jd];simp
theorem kZ:∀{l:O PV},(∀x∈l,PV.iB x<=n)->dE l<=n
 |[],_=>by simp
 |x::l,h=>by
  have h1:=h x (.head _);have h2:=kZ λy hy=>h y (.tail _ hy);rw[dE];lia
instance (priority:=10) ak1:bL:=⟨[]⟩
end
section
variable[bL]
structure EV where
 P:BT
 w:FM
 K:Ab
 mg:Str->Option cr
 base:re
structure DF where
 x:Str
 s:wn
 ps:List Str
 k:Nat
 sp:Ab->Sp
abbrev DF.C(d:DF)(v:EV):=O9 v.P v.w v.K v.mg v.base d.x d.k d.ps (d.sp v.K)
structure DI(v:EV)(d:DF) where
 f:f8
 fd:FuncData
 fn:WM v.K d.x d.x d.s f fd
 bi:Binds v.K fd d.ps []
 at':v.mg d.x=some (.ref f)
abbrev DI.O{v:EV}{d:DF}(D:DI v d):Prop:=mz v.P v.w v.K v.mg v.base I0 d.k D.f D.fd d.ps (d.sp v.K)
def DI.c{v:EV}{d:DF}(D:DI v d)(h:D.O):d.C v:=⟨D.f,D.fd,h,D.bi,D.fn.kp,D.at'⟩
def DI.cN{v:EV}{d:DF}(D:DI v d)(h:mz v.P v.w v.K v.mg v.base I0 k D.f D.fd d.ps sp):O9 v.P v.w v.K v.mg v.base d.x k d.ps sp:=⟨D.f,D.fd,h,D.bi,D.fn.kp,D.at'⟩
structure DX(K:Ab)(x:Str)(st:wn):Prop where
 ex:∃f fd,AU K lc x=some (some (.ref f))/\WM K x x st f fd
abbrev dnm(s:wn):Str:=match s with
 |.FunctionDef x _ _ _ _ _ _ _ _ _=>x
 |_=>""
def dx{K:Ab}{st:wn}{f:f8}{kV:cr}(a:AU K lc x=some (some (.ref f)))(l:K.lookup f=some ⟨oc,od,.func (Cf x x (fq st) (cR st) (aK st) .none kV Ç pm an fi ct),Tq⟩)(c:Ey K fi x=true)(k:Ex K (.ref f)=true):DX K x st:=⟨f,_,a,aaN l c k⟩
def fsc{N P:O Str}{sc:r9}(h1:‹sc.kind=.function›)(h2:‹sc.isCoroutine=false›)(h3:‹sc.isGenerator=false›)(h4:N.Nodup:=by decide +kernel)(h5:‹N.take P.length=P›)(h6:∀x∈P,sc.names.lookup x=some .local\/sc.names.lookup x=some .cell:=by decide +kernel)(h7:∀y∈sc.names,y.2≠.free:=by decide +kernel):fu N P sc:=⟨h1,h2,h3,h4,h5,h6,h7⟩
def lcs{N:O Str}{sc:r9}(h1:‹sc.kind=.function›)(h2:∀y∈sc.names,y.2=.cell->sc.names.lookup y.1=some .cell:=by decide +kernel)(h3:∀y∈sc.names,y.2=.local->sc.names.lookup y.1=some .local:=by decide +kernel)(h4:∀y∈sc.names,y.2=.free->(Xs.names.lookup y.1=some .cell\/Xs.names.lookup y.1=some .free):=by decide +kernel)(h5:N'.Nodup:=by decide +kernel)(h6:‹ix.length=N'.length›)(h7:((ix.zip N').all λp=>match p.1 with|none=>true|some j=>decide (N[j]?=some p.2)&&decide (sc.names.lookup p.2=some .free))=true:=by decide +kernel):aX Xs N sc N' ix:=⟨h1,h2,h3,h4,h5,h6,h7⟩
abbrev rJ(l:O (Str×wS)):r9:={kind:=.function,names:=(Cg ".0",.local)::l,isGenerator:=false,isCoroutine:=false,more:=[]}
abbrev lo:wS:=.local
abbrev gi:wS:=.globalImplicit
abbrev fr:wS:=.free
def Hl:O AK->Nat
 |[]=>0
 |.p _ _::ks=>Hl ks+1
 |_::ks=>Hl ks
theorem oA:∀{ks:O AK}{i:Nat},ks[i]?=some (.p ψ d)->Hl ks≠0
 |[],i,h=>by simp at h
 |.p _ _::_,_,_=>Nat.succ_ne_zero _
 |.v::ks,0,h=>by simp at h
 |.f _ _ _ _::ks,0,h=>by simp at h
 |.v::ks,i+1,h=>oA (ks:=ks) (by simpa using h)
 |.f _ _ _ _::ks,i+1,h=>oA (ks:=ks) (i:=i) (by simpa using h)
theorem yk:∀{ks:O AK},Nat.ble (Hl ks) 1=true->va ks
 |[],_=>L4
 |.v::ks,h=>Xg (yk (ks:=ks) h)
 |.f _ _ _ _::ks,h=>adt (yk (ks:=ks) h)
 |.p _ _::ks,h=>λi j ⟨φ,d,a⟩ ⟨ψ,d',b⟩=>by
  have z:Hl ks+1<=1:=Cv h;cases i with|succ i=>exact absurd ∅ (oA (ks:=ks) (by simpa using a))|zero=>cases j with|succ j=>exact absurd ∅ (oA (ks:=ks) (by simpa using b))|zero=>rfl
abbrev Hn(st:wn):O Str:=((aK st).names.filter λy=>y.2==.local||y.2==.cell).map (·.1)
abbrev Nk(st:wn):O Str:=(fq st).args.map (·.arg)
abbrev nml(sc:r9):O Str:=((sc.names.tail.filter λy=>y.2==.local||y.2==.cell)++sc.names.filter λy=>y.2==.free).map (·.1)
abbrev ixl(N:O Str)(sc:r9):O (Option Nat):=((sc.names.tail.filter λy=>y.2==.local||y.2==.cell).map λ_=>ci)++(sc.names.filter λy=>y.2==.free).map λy=>some (N.idxOf y.1)
abbrev LS(st:wn)(sc:r9):Prop:=aX (aK st) (Hn st) sc (nml sc) (ixl (Hn st) sc)
abbrev LT(Xs sc:r9):Prop:=aX Xs (nml Xs) sc (nml sc) (ixl (nml Xs) sc)
def msk:Nat->aG->aG
 |_,[]=>[]
 |n,s::l=>(match n % 2 with|0=>s|_=>ci)::msk (n / 2) l
theorem dA.m:∀(n:Nat) {fs:aG},dA fs (msk n fs)
 |_,[]=>.refl _
 |n,s::l=>by
  unfold msk
  split
  .exact .keep (dA.m _)
  .exact .drop (dA.m _)
def OU:(n:Nat)->(O PV->W R->Prop)->IZ R n->Prop
 |0,B,m=>B [] m
 |n+1,B,m=>∀x:PV,OU n (λl w=>B (x::l) w) (m x)
theorem OU.all:∀{n:Nat}{B:O PV->W R->Prop}{m:IZ R n},OU n B m->∀l,l.length=n->B l (vo n m l)
 |0,_,_,h,[],_=>h
 |n+1,_,_,h,x::l,e=>OU.all (h x) l (Nat.succ.inj e)
section
variable{v:EV}{st:wn}
abbrev BB{T:Type}(v:EV)(x:Str)(st:wn)(k:Nat)(ks:O AK)(f:f8)(n:Nat)(m:IZ T n)(o:T->End):Prop:=∀{j:Nat}{fi:cr}{A:FB}{outer:O Env}{s:db}{H:Hp}{E:XK},dG k (A.deeper (KF x (aK st) s.heap.objs.size f fi))->(Hn st).Nodup->OU n (λl w=>SF (vY I0 v.P v.w v.K v.mg v.base (Hn st) x (aK st) f fi A outer s H E).Xj v.K false (u4 j ks l (Hn st).length) (cR st) w o) m
abbrev BP{T:Type}(v:EV)(x:Str)(st:wn)(k:Nat)(ks:O AK)(f:f8)(n:Nat)(m:IZ T n)(o:T->End):Prop:=∀{fi:cr}{A:FB}{outer:O Env}{s:db}{H:Hp}{E:XK} (j:Nat),dG k (A.deeper (KF x (aK st) s.heap.objs.size f fi))->(Hn st).Nodup->OU n (λl w=>SF (vY I0 v.P v.w v.K v.mg v.base (Hn st) x (aK st) f fi A outer s H E).Xj v.K false (u4 j ks l (Hn st).length) (cR st) w o) m
def vg{m:IZ PV n}(D:DI v ⟨x,st,Nk st,k+1,λK=>PJ K ks (vo n m)⟩)(Ì:BB v x st k ks D.f n m .rt)(VS:‹ks.length=(Nk st).length›)(one:‹Nat.ble (Hl ks) 1=true›)(S:fu (Hn st) (Nk st) (aK st):=by exact fsc):D.O:=fnV D.fn S VS (yk one) λj l e fi A outer s H E hr=>(Ì hr S.nd).all l e
def OY{m:IZ (O PV) n}(D:DI v ⟨x,st,Nk st,k+1,λK=>GU K ks (vo n m)⟩)(Ì:BB v x st k ks D.f n m .rl)(VS:‹ks.length=(Nk st).length›)(one:‹Nat.ble (Hl ks) 1=true›)(S:fu (Hn st) (Nk st) (aK st):=by exact fsc):D.O:=fnL D.fn S VS (yk one) λj l e fi A outer s H E hr=>(Ì hr S.nd).all l e
def Q8{m:IZ PV n}(D:DI v ⟨x,st,Nk st,k+1,λK=>PJ K ks (vo n m)⟩)(Ì:BP v x st k ks D.f n m .rt)(VS:‹ks.length=(Nk st).length›)(one:‹Nat.ble (Hl ks) 1=true›)(S:fu (Hn st) (Nk st) (aK st):=by exact fsc):D.O:=vg D (λ{j _ _ _ _ _ _}=>Ì j) VS one S
end
section
variable{K:Ab}{W':W PV}{WL:W (O PV)}
theorem eC{m:O PV->W PV}(G:O9 X.prog X.w X.K X.mg X.base x k ps (PJ K ks m))(hr:dG k' X.A)(ha:AF X K fs (e::es) ks B f1)(hk:k<=k':=by first|exact Cv rfl|exact Al _|lia)(hg:‹Gl X x›)(hW:‹W'=B m›)(kU: ~~~(gZ x))(he:‹gb X e es›)(du:‹km X pos es›):EF X K fs (.Call (.Name x p) (e::es) [] pos) W' f1:=Wb G hr hk hg ha hW kU he du
theorem lC{m:O PV->W (O PV)}{B:(O PV->W (O PV))->W (O PV)}(G:O9 X.prog X.w X.K X.mg X.base x k ps (GU K ks m))(hr:dG k' X.A)(ha:AF X K fs (e::es) ks B f1)(hk:k<=k':=by first|exact Cv rfl|exact Al _|lia)(hg:‹Gl X x›)(hW:‹WL=B m›)(kU: ~~~(gZ x))(he:‹gb X e es›)(du:‹km X pos es›):LF X K fs (.Call (.Name x p) (e::es) [] pos) WL f1:=Vr G hr hk hg ha hW kU he du
variable{n0 mx:Nat}{y0:Str}
theorem eP(i:Nat){m:O PV->W PV}(G:O9 X.prog X.w X.K X.mg X.base x k ps (PJ K (.p ψ d::ks) m))(hr:dG k' X.A)(ha:AF X K fs es ks B f1)(hs:‹fs[i]?=some (some (.cJ ψ n0 mx))›)(mq:‹f1[i]?=some (some (.cJ ψ n mx))›)(hd:n+d<=mx:=by omega)(hk:k<=k':=by first|exact Cv rfl|exact Al _|lia)(hg:‹Gl X x›)(hW:‹W'=B m›)(kU: ~~~(gZ x))(hN:‹X.N[i]?=some y0›)(hv:v9 X.env.scope y0:=by first|exact B1 rfl|exact Cd (B1 rfl)|exact Cd (Cd rfl))(Đ: ~~~(gZ y0))(gU: ~~~(xF y0))(he:‹gt (.Name y0 py::es) X.env=(false,pc (.Name y0 py) X.env)::gt es X.env›)(du:‹km X pos es›):EF X K fs (.Call (.Name x p) (.Name y0 py::es) [] pos) W' (f1.set i (some (.cJ ψ (n+d) mx))):=hW▸Wc i G hr hk hg hs ha mq hd kU hN hv Đ gU he du
theorem pO.s:∀{fs:aG} (i:Nat) {n n' m:Nat},n<=n'/\n'<=m->(hs:‹fs[i]?=some (some (.cJ ψ n m))›)->pO fs (fs.set i (some (.cJ ψ n' m)))
 |[],_,_,_,_,_,h=>by simp at h
 |s::l,0,_,_,_,k,h=>by simp at h;subst h;exact .bump k (.refl _)
 |s::l,i+1,_,_,_,k,h=>by exact .keep (pO.s (fs:=l) i k (by simpa using h))
def cT(i:Nat)(hN:X.N.Nodup)(hi:‹X.N[i]?=some x›)(hx:Loc X.env.scope x:=by first|exact .inl rfl|exact .inr rfl)(hf:MP X x:=by first|exact .inl rfl|exact .inr rfl|assumption):PG X (.Name x pos) (di i):=UO hN hi hx hf
variable{T:Type}{out:T->End}{b:Bool}{rest:O wn}
def sv(i:Nat){k:PV->W T}(hN:X.N.Nodup)(he:EF X K fs e we f1)(hr:∀v,SF X K b (f1.set i (some (.val v))) rest (k v) out)(hi:‹X.N[i]?=some y›)(hx:Loc X.env.scope y:=by first|exact .inl rfl|exact .inr rfl)(hs:‹o0 e (some (.Name y p')) pos.line X.env=pure false›)(hf:MP X y:=by first|exact .inl rfl|exact .inr rfl|assumption):SF X K b fs (.Assign [.Name y p'] e pos::rest) (.bind we k) out:=SF.set hN hi hx he hr hs hf
def sl(i:Nat){k:O PV->W T}(hN:X.N.Nodup)(he:LF X K fs e wl f1)(hr:∀l,SF X K b (f1.set i (some (.ol ci l))) rest (k l) out)(hi:‹X.N[i]?=some y›)(hx:Loc X.env.scope y:=by first|exact .inl rfl|exact .inr rfl)(hs:‹o0 e (some (.Name y p')) pos.line X.env=pure false›)(hf:MP X y:=by first|exact .inl rfl|exact .inr rfl|assumption):SF X K b fs (.Assign [.Name y p'] e pos::rest) (.bind wl k) out:=SF.ag8 hN hi hx he hr hs hf
end
end
end FL
variable{v:FL.EV}{m:PL.PV->FL.W PL.PV}{d:FL.DF}
namespace FL
section
variable[bL]
def afk:(n:Nat)->(O cr->Prop)->Prop
 |0,P=>P []
 |n+1,P=>∀x,afk n λl=>P (x::l)
theorem usN:∀{n:Nat}{P:O cr->Prop},afk n P->∀us:O cr,us.length=n->P us
 |0,_,h,[],_=>h
 |n+1,_,h,x::l,e=>usN (h x) l (Nat.succ.inj e)
def DX.mk2(D:DX v.K d.x d.s)(X:v.K.In h)(G:h.Ns lc v.mg)(hb:∀(kV Ç pm:cr) (an:Option f8) (fi ct:cr) (us:O cr),us.length=d.ps.length->bindArgs (Cf d.x d.x (fq d.s) (cR d.s) (aK d.s) .none kV Ç pm an fi ct) ⟨us,[]⟩=pure (d.ps.zip us):=by exact λ_ _ _ _ _ _=>usN (by (repeat intro _);rfl)):Nonempty (DI v d):=by
 obtain⟨f,fd,a,F⟩:=D.ex;exact⟨⟨f,fd,F,F.binds hb,BX X G a⟩⟩
def DX.go(D:DX v.K d.x d.s)(X:v.K.In h)(G:h.Ns lc v.mg){P:Prop}(k:∀D:DI v d,D.O)(r:d.C v->P)(hb:∀(kV Ç pm:cr) (an:Option f8) (fi ct:cr) (us:O cr),us.length=d.ps.length->bindArgs (Cf d.x d.x (fq d.s) (cR d.s) (aK d.s) .none kV Ç pm an fi ct) ⟨us,[]⟩=pure (d.ps.zip us):=by exact λ_ _ _ _ _ _=>usN (by (repeat intro _);rfl)):P:=by
 obtain⟨D⟩:=D.mk2 X G hb;exact r (D.c (k D))
def PF(K:Ab):Sp:=λvs H Q _=>TB H/\∃(a:f8) (ns:O Int),vs=[.ref a]/\Lk K H a (ns.map V.int)/\ns.length<=63/\∀H',Q (.bl true) H'
def Vo{K:Ab}(ok:∀ns:O Int,ns.length<=63->(m (.cl (ns.map PV.int))).run (·=.bl true)):∀vs H Q E,PF K vs H Q E->PJ K [.v] (vo 1 m) vs H Q E:=λvs H Q E ⟨tb,a,ns,e,fz,hl,q⟩=>by
 subst e;refine⟨tb,0,[.cl (ns.map PV.int)],.v (.cl fz (yT _ _ ns)) .nil,(m (.cl (ns.map PV.int))).mono (λv e u H' _ r=>?_) (ok ns hl)⟩;subst e;cases r;exact q H'
structure afl(K:Ab)(mg:Str->Option cr)(d:DF):Prop where
 f:∀v:EV,v.K=K->v.mg=mg->∀D:DI v d,D.O
def mkAll{l:PySem.W.OpenLaw}{K:Ab}{fa:f8}{st:wn}(ok:∀ns:O Int,ns.length<=63->(m (.cl (ns.map PV.int))).run (·=.bl true))(X:K.In h)(G:h.Ns lc mg)(hfa:mg "law"=some (.ref fa))(aeT:DX K "law" st)(hb:∀(kV Ç pm:cr) (an:Option f8) (fi ct:cr) (us:O cr),us.length=1->bindArgs (Cf "law" "law" (fq st) (cR st) (aK st) .none kV Ç pm an fi ct) ⟨us,[]⟩=pure (([("_law_script":Str)]:O Str).zip us))(F:afl K mg ⟨"law",st,["_law_script"],k,λK=>PJ K [.v] (vo 1 m)⟩):∃fd:FuncData,(∀(s:db) (v:cr),BindsTo s fd ⟨[v],[]⟩ [("_law_script",v)])/\∀base:re,K.In base->base.Ns lc mg->mz l.prog w K mg base I0 k fa fd ["_law_script"] (PF K):=by
 obtain⟨f,fd,a,F'⟩:=aeT.ex;have e:=hfa.symm.trans (BX X G a);cases e;obtain⟨oc,od,kV,Ç,pm,an,fi,ct,Tq,rfl,_⟩:=id F'.ex;exact⟨Cf "law" "law" (fq st) (cR st) (aK st) .none kV Ç pm an fi ct,λs v=>.of_eq (hb kV Ç pm an fi ct [v] rfl),λbase _ _=>(F.f ⟨l.prog,w,K,mg,base⟩ rfl rfl ⟨_,_,F',(F'.binds (ps:=["_law_script"]) hb),hfa⟩).imp (Vo ok)⟩
section
variable{K:Ab}{R:Type}{B:(O PV->W R)->W R}
def av(i:Nat){v:PV}(hr:AF X K fs es ks B f1)(hs:‹fs[i]?=some (some (.val v))›)(hN:‹X.N[i]?=some x›)(hv:v9 X.env.scope x:=by first|exact B1 rfl|exact Cd (B1 rfl)|exact Cd (Cd rfl))(hd: ~~~(gZ x))(gU: ~~~(xF x))(h:‹gt (.Name x pos::es) X.env=(false,pc (.Name x pos) X.env)::gt es X.env›):AF X K fs (.Name x pos::es) (.v::ks) (λk=>.bind (.ret v) λx=>B λl=>k (x::l)) f1:=ag (ae i hs hN hv hd gU) hr h
end
end
section
variable[bL]
structure Lm where
 q:Str
 ar:Arguments
 bd:nw
 sc:r9
end
end FL
variable{o:Option L2.HO}{ts:O Bf}
namespace L2
def Js(ts:O f8)(a:f8)(o:Option HO):Hp:=λb=>if b∈ts then some (.GJ #[]) else if b=a then o else ci
def Pn(h:b∈ts):Js ts a o b=some (.GJ #[]):=if_pos h
def YG(h:a∉ts):Js ts a o a=o:=by unfold Js;rw[if_neg h,if_pos rfl]
def nY{u:HO}(h:Js ts a o b=some u):(b∈ts/\u=.GJ #[])\/(b=a/\o=some u):=by
 unfold Js at h;by_cases c:b∈ts
 .rw[if_pos c]at h;cases h;exact .inl ⟨c,rfl⟩
 .rw[if_neg c]at h;by_cases d:b=a
  .rw[if_pos d]at h;exact .inr ⟨d,h⟩
  .rw[if_neg d]at h;cases h
def ND{K:Ab}{mb:Str->Option cr}{fa:f8}{s₁:db}(KX:K.In s₁.heap)(N1:s₁.heap.Ns lc mg)(hb:s₁.heap.Ns Ps mb)(hbb:∀x:Str,x≠"__name__"->mb x=sw x)(aip:s₁.heap.NoLimit)(Ĕ:∃bm ob,mg "__builtins__"=some (.ref bm)/\bm≠Ps/\s₁.heap.get? bm=some ob/\ob.cls=.type "module"/\ob.dict=some Ps/\ob.data=.plain)(hg:s₁.gens=#[])(ha:s₁.heap.get? a=some {cls:=.type "list",data:=.seq vs.toArray})(hi:EQ vs ns)(hl:ns.length<=sizeLine)(hr:dG k callerA)(ht:∀P∈ts,s₁.heap.get? P=some (FR #[]))(htK:∀P∈ts,K.lookup P=ci)(htC:∀P∈ts,isCodeTable s₁.heap P)(F:∀base:re,K.In base->base.Ns lc mg->mz P w K mg base I0 k fa fd [x] sp)(aek:∀(s:db) (u:cr),BindsTo s fd ⟨[u],[]⟩ [(x,u)])(á:∀H:Hp,(∀P∈ts,H P=some (.GJ #[]))->PL.Lk K H a (ns.map V.int)->sp [.ref a] H (λv _=>v=.bl true) λ_ _ _=>False):Ix (im P w) callerA (.call (.ref fa) ⟨[.ref a],[]⟩) (λr s'=>r=.ok (.ret (.bool true))/\OldK s₁.heap s'.heap/\s'.os=s₁.os/\SB s'.gens) s₁:=by
 have rv:=pV hi;have ahJ:=hi.length;have Ø:∀H:Hp,(∀P∈ts,H P=some (.GJ #[]))->PL.Lk K H a (ns.map V.int)->md P w H s₁.heap->(∀b o,H b=some o->(b∈ts/\o=.GJ #[])\/(b=a/\K.lookup a=ci/\∃o' u,o=.bA o' u))->
   Ix (im P w) callerA (.call (.ref fa) ⟨[.ref a],[]⟩) (λr s'=>r=.ok (.ret (.bool true))/\OldK s₁.heap s'.heap/\s'.os=s₁.os/\SB s'.gens) s₁:=by
  intro H hT hS ba hA;have zO:∀{b:f8}{o:Obj},s₁.heap.get? b=some o->H b=ci->(yX s₁.heap H).get? b=some o:=λe n=>RO e n;have Č:∀{b:f8}{o:Obj}{es:Array DictEntry}{ep:Nat},s₁.heap.get? b=some o->o.data=.dict es ep->H b=ci:=λ{b o es ep} e d=>by
   cases q:H b with
   |none=>rfl
   |some u=>
    rcases hA b u q with⟨z,_⟩|⟨z,_⟩
    .rw[ht b z]at e;cases e;cases d
    .subst z;rw[ha]at e;cases e;cases d
  have ğ:∀{b:f8}{m:Str->Option cr},s₁.heap.Ns b m->(yX s₁.heap H).Ns b m:=λ{b m} ⟨o,es,ep,e,d,r⟩=>⟨o,es,ep,zO e (Č e d),d,r⟩;have hKb:K.In (yX s₁.heap H):=λb o e=>zO (KX b o e) (by
   cases q:H b with
   |none=>rfl
   |some u=>
    rcases hA b u q with⟨z,_⟩|⟨z,z2,_⟩
    .rw[htK b z]at e;cases e
    .subst z;rw[z2]at e;cases e)
  have hM:Mod K mg (yX s₁.heap H):=⟨hKb,ğ N1,⟨mb,ğ hb,hbb⟩,let ⟨mc,h1,h2⟩:=aip;⟨mc,ğ h1,h2⟩,let ⟨bm,ob,h1,h2,h3,h4,h5,h6⟩:=Ĕ;⟨bm,ob,h1,h2,zO h3 (by
   cases q:H bm with
   |none=>rfl
   |some u=>
    rcases hA bm u q with⟨z,_⟩|⟨z,_⟩
    .rw[ht bm z]at h3;cases h3;cases h6
    .subst z;rw[ha]at h3;cases h3;cases h6),h4,h5,h6⟩⟩
  have e0:WN P w K mg (yX s₁.heap H) callerA [] s₁ H:=⟨rfl,hM,λb o e=>U4 e,Gi (N2 _ _),trivial,λb hb=>absurd (show b∈([]:O f8) from hb) (by simp),ba,.of_eq hg⟩;refine Rs ((F _ hKb (ğ N1)).run callerA [] s₁ H ⟨[.ref a],[]⟩ [.ref a] [.ref a] _ _ hr e0 (aek s₁ (.ref a)) (.cons rfl .nil) (á H hT hS)) λr s' h=>?_;cases r with
  |error e=>exact h.elim
  |ok fl=>
   cases fl with
   |next=>exact B3 h
   |brk=>exact B3 h
   |cont=>exact B3 h
   |ret u=>
    obtain⟨v,H',os,bare,un,ad5,r',q⟩:=h;have q':v=.bl true:=q;subst q';obtain rfl:u=Ez true:=r';refine⟨rfl,⟨λb o e=>?_,λb o e=>un.there b o e (by simp)⟩,os,bare⟩;cases q:H b with
    |none=>exact .inl (un.keep b o e q (by intro z;exact absurd (show b∈([]:O f8) from z) (by simp)) (by simp))
    |some u=>
     rcases hA b u q with⟨z,rfl⟩|⟨z,_,o',u',rfl⟩
     .obtain⟨more,h2⟩:=un.vt b _ q;have h3:s'.heap.get? b=some (FR (#[]++more)):=ad5 b _ h2;rw[ht b z]at e;cases e;exact .inr (.inl ⟨htC b z,rfl,#[],more,rfl,h3⟩)
     .have z2:=un.qw b _ _ q;obtain⟨e1,_⟩:=ba b _ q;obtain⟨e2,_⟩:=ad5 b _ z2;rw[e]at e1;cases e1;exact .inl e2
 have naT:a∉ts:=λz=>by rw[ht a z]at ha;cases ha
 cases hk:K.lookup a with
 |some o=>
  have e:=KX a o hk;rw[ha]at e;cases e;refine Ø (Js ts a ci) (λb hb=>Pn hb) (.inr ⟨_,vs.toArray,_,hk,rfl,rfl,rfl,by rw[Am,ahJ];exact hl,by simpa using rv⟩) (λb u z=>?_) λb u z=>?_
  .rcases nY z with⟨y,rfl⟩|⟨_,y⟩
   .exact ht b y
   .cases y
  .rcases nY z with⟨y,rfl⟩|⟨_,y⟩
   .exact .inl ⟨y,rfl⟩
   .cases y
 |none=>
  refine Ø (Js ts a (some (.bA {cls:=.type "list",data:=.seq vs.toArray} (.lst (ns.map V.int))))) (λb hb=>Pn hb) (.inl ⟨{cls:=.type "list",data:=.seq vs.toArray},YG naT⟩) (λb u z=>?_) λb u z=>?_
  .rcases nY z with⟨y,rfl⟩|⟨rfl,y⟩
   .exact ht b y
   .cases y;exact⟨ha,by rw[Ai];exact hl,vs,_,rv,ha⟩
  .rcases nY z with⟨y,rfl⟩|⟨rfl,y⟩
   .exact .inl ⟨y,rfl⟩
   .cases y;exact .inr ⟨rfl,hk,_,_,rfl⟩
end L2
namespace FL
section
variable[bL]
abbrev EV.at(v:EV)(b:re):EV:=⟨v.P,v.w,v.K,v.mg,b⟩
def walkT{l:PySem.W.OpenLaw}{q:BT}{d:DefRec}{K:Params->Ab}(hn:l.most=some 63)(Ř:d.params.defaults=[])(hr:dG k callerA)(hY:∀(w:FM) (h:re),YP w h->(K w.params).In h/\∀P∈bL.ts.map (·.1),h.get? P=some (FR #[]))(hK:∀w:FM,∀P∈bL.ts.map (·.1),(K w.params).lookup P=ci)(hC:∀(w:FM) (h:re),(K w.params).In h->∀P∈bL.ts.map (·.1),isCodeTable h P)(F:∀(w:FM) (mg:Str->Option cr) (fa:f8) (h:re),(K w.params).In h->h.Ns lc mg->mg d.name=some (.ref fa)->
   ∃fd:FuncData,(∀(s:db) (u:cr),BindsTo s fd ⟨[u],[]⟩ [("_law_script",u)])/\∀base:re,(K w.params).In base->base.Ns lc mg->mz l.prog w (K w.params) mg base I0 k fa fd ["_law_script"] (PF (K w.params))):PySem.W.WalkO q Ó XP YP l.row.toRowW d [] (λf vs=>PySem.call f vs):=by
 refine Att.IE hn Ř λw s₀ s₁ mg mb fa o pm cd Ç a vs ns G Y ho hd gU hmg ť Ô Á hg=>?_;obtain⟨KX,hT⟩:=hY w _ Y;obtain⟨fd,hb,hF⟩:=F w mg fa _ KX G.T.g hmg;exact ND KX G.T.g G.T.b G.T.builtins G.T.nolimit G.T.bmain hg ť Ô (A0 Á ⋯) hr hT (hK w) (hC w _ KX) hF hb λH ī hS=>⟨λp hp=>⟨#[],ī _ (Aq.mpr ⟨p,hp,rfl⟩),trivial,λpos c z=>by simp[codeAmong]at z⟩,a,ns,rfl,hS,Á,λ_=>rfl⟩
end
end FL
variable{x:Bool}{i p:Nat}
namespace FL
section
variable[bL]
variable{K:Ab}
def aH:sizeLine=16777216:=by decide
section
variable{rest:O wn}{S T:Type}{hd:Nat->S->aG}{hE:S->aG}{s0:S}{k:S->W T}{out:T->End}{R:Type}{inj:R->T}
def SF.XX{f:PV->S->W S}(hp:wP (im X.prog X.w) X.A X.env X.xe)(hc:X.calm=true)(hi:mR X K fs tg iter wl f1)(hl:dA f1 (hd 0 s0))(hg:PG X tg (di i))(hb:∀j s p,j<16777216->SF X K false ((hd j s).set i (some (.val p))) body (f p s) λs'=>.nc (hd (j+1) s'))(hx:∀j s,j<=16777216->dA (hd j s) (hE s))(hr:∀s,SF X K x (hE s) rest (k s) out)(hs:qJ X iter:=by intro _;rfl):SF X K x fs (.For tg iter body [] pos::rest) (.bind wl λl=>.bind (bP l s0 f) k) out:=SF.aex hp hc hi hl (λ_ _=>VW hg) (λ_ _=>rfl) (λj s p h=>hb j s p (aH▸h)) (λj s h=>hx j s (aH▸h)) hr hs
def SF.R1{f:PV->S->W (Lp S R)}(hp:wP (im X.prog X.w) X.A X.env X.xe)(hc:X.calm=true)(hi:mR X K fs tg iter wl f1)(hl:dA f1 (hd 0 s0))(hg:PG X tg (di i))(ho:∀t,(out (inj t)).HJ)(hb:∀j s p,j<16777216->SF X K false ((hd j s).set i (some (.val p))) body (f p s) (lpE (hd (j+1)) λr=>out (inj r)))(hx:∀j s,j<=16777216->dA (hd j s) (hE s))(hr:∀s,SF X K x (hE s) rest (k s) out)(hs:qJ X iter:=by intro _;rfl):SF X K x fs (.For tg iter body [] pos::rest) (.bind wl λl=>.bind (FL.kX l s0 f) (N6 k inj)) out:=SF.XW hp hc hi hl (λ_ _=>VW hg) (λ_ _=>rfl) ho (λj s p h=>hb j s p (aH▸h)) (λj s h=>hx j s (aH▸h)) hr hs
end
section
variable{sc:r9}{m:Nat}{f:PV->W PV}{fs3:Nat->PV->aG}
theorem Jy:∀{l:aG}{p:Nat}{s:Option SL},l[p]?=some s->l.set p s=l
 |[],_,_,_=>rfl
 |_::l,0,s,h=>by simp at h;subst h;rfl
 |x::l,p+1,s,h=>by show x::l.set p s=_;rw[Jy (by simpa using h)]
theorem set_set:∀{l:aG}{p:Nat}{s t:Option SL},(l.set p s).set p t=l.set p t
 |[],_,_,_=>rfl
 |_::l,0,_,_=>rfl
 |x::l,p+1,s,t=>by show x::(l.set p s).set p t=x::l.set p t;rw[set_set]
abbrev eL(f1:aG)(p:Nat)(ψ:Nat->O V->Prop)(n m:Nat):aG:=f1.set p (some (.cJ ψ n m))
def tF(hp:f1[p]?=some (some (.cJ ψ n m)))(n' m':Nat):(eL f1 p ψ n' m')[p]?=some (some (.cJ ψ n' m')):=aW ((Ag.mp hp).1)
def sk(hp:f1[p]?=some (some (.cJ ψ n m))){a b:Nat}(h:a<=b/\b<=m):pO (eL f1 p ψ a m) (eL f1 p ψ b m):=by
 have:=pO.s (fs:=eL f1 p ψ a m) p (n':=b) h (tF hp a m)
 rwa [show(eL f1 p ψ a m).set p (some (.cJ ψ b m))=eL f1 p ψ b m from set_set]at this
def S0{q:Nat}(hp:f1[p]?=some (some (.cJ ψ n m)))(hq:ix[q]?=some (some p))(inj:∀i i' j:Nat,ix[i]?=some (some j)->ix[i']?=some (some j)->i=i'){a b:Nat}(h:a<=b/\b<=m):dA (a6 ix (eL f1 p ψ a m)) (a6 ix (eL f1 p ψ b m)):=by
 have e:a6 ix (eL f1 p ψ b m)=(a6 ix (eL f1 p ψ a m)).set q (some (.cJ ψ b m)):=by
  unfold a6;refine BQ λr=>?_;by_cases c:r=q
  .subst c;rw[aW (by rw[Ai];exact(Ag.mp hq).1),Ah,hq];show some (((eL f1 p ψ b m)[p]?).getD ci)=_;rw[tF hp];rfl
  .rw[aq c,Ah,Ah];cases z:ix[r]? with
   |none=>rfl
   |some o=>
    cases o with
    |none=>rfl
    |some j=>
     have jp:j≠p:=λy=>c (inj r q p (y▸z) hq);show some (((eL f1 p ψ b m)[j]?).getD ci)=some (((eL f1 p ψ a m)[j]?).getD ci);rw[aq jp,aq jp]
 rw[e];refine(pO.s q h ?_).f;unfold a6;rw[Ah,hq];show some (((eL f1 p ψ a m)[p]?).getD ci)=_;rw[tF hp];rfl
def Mc{N:O Str}(S:aX Xs N sc N' ix):∀i i' j:Nat,ix[i]?=some (some j)->ix[i']?=some (some j)->i=i':=λi i' j h1 h2=>by
 have hi:i<N'.length:=by rw[<- S.len];exact(Ag.mp h1).1
 have HU:i'<N'.length:=by rw[<- S.len];exact(Ag.mp h2).1
 have e2:=(S.at h2 (Ad HU)).1;rw[((S.at h1 (Ad hi)).1)]at e2;exact(D5 S.nd).mp (Option.some.inj e2)
theorem afJ(p q d nE:Nat)(hc:X.calm=true)(S:aX X.env.scope X.N sc N' ix)(hi:mR X K fs tg iter wl f1)(hg:∀cl C s2 H2 fp,PG (eK X sc N' cl C s2 H2 fp) tg (di i))(he:∀cl C s2 H2 fp j t,j<16777216->EF (eK X sc N' cl C s2 H2 fp) K ((a6 ix (eL f1 p ψ (n+d*j) m)).set i (some (.val t))) Â (f t) (fs3 j t))(h3:∀j t,j<16777216->dA (fs3 j t) (a6 ix (eL f1 p ψ (n+d*(j+1)) m)))(hd:n+d*16777216<=nE/\nE<=m)(h0:ix[i]?=some ci)(hp:‹f1[p]?=some (some (.cJ ψ n m))›)(hq:‹ix[q]?=some (some p)›)(hs:qJ X iter:=by intro _;rfl):LF X K fs (.ListComp Â [⟨tg,iter,[],0⟩] sc pos) (.bind wl λl=>bF l f) (eL f1 p ψ nE m):=by
 have h1:∀j,(a6 ix (eL f1 p ψ (n+d*j) m))[i]?=some ci:=λj=>by unfold a6;rw[Ah,h0];rfl
 have bd:∀j,j<=sizeLine->n+d*j<=nE:=λj h=>by
  have h':j<=16777216:=by rw[<- aH];exact h
  have:=Dh d h';lia
 have up:∀j,n+d*j<=n+d*(j+1):=λj=>by have:=Dh d (A5 j 1);lia
 refine ZU (hd:=λj=>eL f1 p ψ (n+d*j) m) (fs2:=λj t=>(a6 ix (eL f1 p ψ (n+d*j) m)).set i (some (.val t))) hc S hi (λcl C s2 H2 fp j=>VW (hg cl C s2 H2 fp)) (λcl C s2 H2 fp j t h=>he cl C s2 H2 fp j t (aH▸h)) (λ_=>rfl) (λj=>(J0 (h1 j)).1) (λj hj=>by rw[AR]at hj;subst hj;exact h0) ?_ (λj h=>sk hp ⟨bd j h,hd.2⟩) (λj h=>(sk hp ⟨up j,A0 (bd (j+1) h) hd.2⟩).ev) (λj r=>?_) (λj t h=>((J0 (h1 j)).2 t).trans (S0 hp hq (Mc S) ⟨up j,A0 (bd (j+1) h) hd.2⟩)) (λj t h=>h3 j t (aH▸h)) hs
 .have:eL f1 p ψ (n+d*0) m=f1:=Jy hp;rw[this];exact .refl _
 .by_cases c:r=p
  .subst c;exact .inr ⟨q,hq⟩
  .exact .inl (by rw[aq c,aq c])
theorem S2(p q d nE:Nat)(hc:X.calm=true)(hN:X.N.Nodup)(HU:X.N[k]?=some y)(hx:X.env.scope.names.lookup y=some .local)(S:aX X.env.scope X.N sc N' ix)(hi:mR X K fs tg iter wl f1)(hg:∀cl C s2 H2 fp,PG (eK X sc N' cl C s2 H2 fp) tg (di i))(he:∀cl C s2 H2 fp j t,j<16777216->EF (eK X sc N' cl C s2 H2 fp) K ((a6 ix (eL f1 p ψ (n+d*j) m)).set i (some (.val t))) Â (f t) (fs3 j t))(h3:∀j t,j<16777216->dA (fs3 j t) (a6 ix (eL f1 p ψ (n+d*(j+1)) m)))(hd:n+d*16777216<=nE/\nE<=m)(h0:ix[i]?=some ci)(hp:‹f1[p]?=some (some (.cJ ψ n m))›)(hq:‹ix[q]?=some (some p)›)(mn:‹o0 (.ListComp Â [⟨tg,iter,[],0⟩] sc pos) (some (.Name y px)) n6.line X.env=pure true›)(hs:qJ X iter:=by intro _;rfl):AS X K fs (.Assign [.Name y px] (.ListComp Â [⟨tg,iter,[],0⟩] sc pos) n6) k (.bind wl λl=>bF l f) (eL f1 p ψ nE m):=by
 have h1:∀j,(a6 ix (eL f1 p ψ (n+d*j) m))[i]?=some ci:=λj=>by unfold a6;rw[Ah,h0];rfl
 have bd:∀j,j<=sizeLine->n+d*j<=nE:=λj h=>by
  have h':j<=16777216:=by rw[<- aH];exact h
  have:=Dh d h';lia
 have up:∀j,n+d*j<=n+d*(j+1):=λj=>by have:=Dh d (A5 j 1);lia
 rw[yt (f:=f) (wt:=.ret) (te:=f) λ_=>rfl];refine S3 (hd:=λj=>eL f1 p ψ (n+d*j) m) (fs2:=λj t=>(a6 ix (eL f1 p ψ (n+d*j) m)).set i (some (.val t))) hc hN HU hx S hi (λcl C s2 H2 fp j=>VW (hg cl C s2 H2 fp)) (λ_ _ _ _ _ _ _=>zk) (λcl C s2 H2 fp j t h=>he cl C s2 H2 fp j t (aH▸h)) (λ_=>rfl) (λj=>(J0 (h1 j)).1) (λj hj=>by rw[AR]at hj;subst hj;exact h0) ?_ (λj h=>sk hp ⟨bd j h,hd.2⟩) (λj h=>(sk hp ⟨up j,A0 (bd (j+1) h) hd.2⟩).ev) (λj r=>?_) (λj t h=>((J0 (h1 j)).2 t).trans (S0 hp hq (Mc S) ⟨up j,A0 (bd (j+1) h) hd.2⟩)) (λj t h=>h3 j t (aH▸h)) mn hs
 .have:eL f1 p ψ (n+d*0) m=f1:=Jy hp;rw[this];exact .refl _
 .by_cases c:r=p
  .subst c;exact .inr ⟨q,hq⟩
  .exact .inl (by rw[aq c,aq c])
end
end
end FL
variable{s:C9}{j:Nat}{c:Int}{vs:O L2.V}
namespace FL
section
variable[bL]
variable{K:Ab}
def fU:Nat->O V->Prop:=λj vs=>∃(b:f8) (s c:Int),vs=[.ref b,.int s,.int c]/\0<=c/\c<=(j:Int)
section
def NU(I:Inv X U σ H s)(e:dH H b):∃ns:O Int,Inv X U σ (upd H b (.lst (ns.map V.int))) s:=by
 have e:H b=some (.ext (IX b)):=e;obtain⟨⟨ns,eD,n',z',v',g'⟩,_⟩:=(show br X.prog X.w H s.heap b (.ext (IX b)) from I.ba b _ e);exact⟨ns,I.write (x:=b) (e:=b) (o:=.lst (ns.map V.int)) (h':=s.heap) (t':=s.toks) (by rw[e];exact Cb) (.inl rfl) (λb u _ z=>z) ⟨_,g'⟩ ⟨by rw[Ai];exact z',eD,n',v',g'⟩⟩
def NW:∀h1 h2:re,IX b h1->(∀o,h1.get? b=some o->h2.get? b=some o)->IX b h2:=λ_ _ ⟨ns,ao,n,z,v,e⟩ k=>⟨ns,ao,n,z,v,k _ e⟩
def w9(I:Inv X U σ H s)(e:H b=some (.lst (ns.map V.int))):Inv X U σ (upd H b (.ext (IX b))) s:=by
 obtain⟨z',eD,n',v',g'⟩:=(show br X.prog X.w H s.heap b (.lst (ns.map V.int)) from I.ba b _ e);exact I.write (x:=b) (e:=b) (o:=.ext (IX b)) (h':=s.heap) (t':=s.toks) (by rw[e];exact Cb) (.inl rfl) (λb u _ z=>z) ⟨_,g'⟩ ⟨⟨ns,eD,n',by rw[Ai]at z';exact z',v',g'⟩,⟨_,g'⟩,NW⟩
def aee(b:f8)(D:Ends):Ends:={nx:=λ_ _=>False,rt:=λv H'=>∃ns:O Int,H' b=some (.lst (ns.map V.int))/\D.rt v (upd H' b (.ext (IX b)))}
def pN.shown{t:TS}(h:pN X Px t):pN X Px λD σ H=>∃b,dH H b/\∀ns:O Int,t (aee b D) σ (upd H b (.lst (ns.map V.int))):=λU s σ H D I ⟨b,e,q⟩=>by
 obtain⟨ns,I1⟩:=NU I e;refine bE (h U s σ _ _ I1 (q ns)) λfl s' z=>?_;cases fl with
 |next=>obtain⟨_,_,_,z⟩:=z;exact z.elim
 |brk=>obtain⟨_,_,_,z⟩:=z;exact z.elim
 |cont=>obtain⟨_,_,_,z⟩:=z;exact z.elim
 |ret u=>
  obtain⟨v,σ',H',I',r,ns,e1,z⟩:=z;exact⟨v,σ',_,w9 I' e1,r,z⟩
end
section
variable{T:Type}{w:W T}{out:T->End}
def aeU(h:LF X K fs e wl fs1):EF X K fs e (.bind wl λl=>.dm (∃ns:O Int,l=ns.map PV.int) (.ret .hand)) fs1:=⟨λU s σ H Q I ⟨sr,q⟩=>by
 refine bE (h.p U s σ H (λu H1=>∃a vs l,u=.ref a/\bR σ fs H H1 fs1/\aQ K H1 σ fs1/\H a=ci/\H1 a=some (.lst vs)/\ax K [] H1 vs l/\(∃ns:O Int,l=ns.map PV.int)/\∀u H',bR σ fs H H' fs1->aQ K H' σ fs1->VR K [] H' u .hand->Q u H') I ⟨sr,wl.mono (λl q1 a vs H1 g1 s1 n e v=>⟨a,vs,l,rfl,g1,s1,n,e,v,q1.1,q1.2⟩) q⟩) λu s1 ⟨v,H1,I1,r1,a,vs,l,e,g1,Ut,n,ea,vr,⟨ns,el⟩,q1⟩=>?_;subst e el;have:=oZ vr;subst this;exact⟨.ref a,_,w9 I1 ea,r1,q1 _ _ (g1.side n (λφ=>by rw[ea];simp) _) (Ut.side (λz=>sr.noOwn n (g1.ev.eV z)) ea _) (.hand ay)⟩⟩
def SF.fU(i m:Nat){l:O PV}(hs:fs[i]?=some (some (.ol ci l)))(hr:SF X K x (fs.set i (some (.cJ FL.fU 0 m))) Px w out)(hm: ~~~(m<=JD)):SF X K x fs Px (.dm (∃s:Int,l=[.hand,.int s,.int 0]) w) out:=⟨λU s σ H D I ⟨sr,q⟩=>by
 obtain⟨⟨sd,el⟩,q⟩:=q;obtain⟨a,ws,e1,h1,r1⟩:=dR sr hs;subst el;cases r1 with
 |cons ra r1=>
 cases r1 with
 |cons rb r1=>
 cases r1 with
 |cons rc r1=>
 cases r1;cases ra with
 | @hand b hb=>
 cases rb;cases rc;obtain⟨s2,g2⟩:=gJ (t':=.cJ FL.fU 0 m) sr hs rfl (by simp) e1 (λ_ _ _ z=>z:jq a H H) λtk=>⟨⟨0,_,Al 0,h1,⟨b,sd,0,rfl,BC 0,BC 0⟩,λc hc=>by simp at hc;subst hc;exact hb⟩,Bh m,hm⟩;exact hr.p U s σ H D I ⟨s2,w.mono (λt q2=>q2.go g2 sr s2) q⟩⟩
end
theorem Vc{a b:Int}(ha:-2037035976334486086268445688409378161051468393665936250636140449354381299763336706183397376<a/\a<2037035976334486086268445688409378161051468393665936250636140449354381299763336706183397376)(hb:-2037035976334486086268445688409378161051468393665936250636140449354381299763336706183397376<b/\b<2037035976334486086268445688409378161051468393665936250636140449354381299763336706183397376):Fk a b:=by
 have h:∀x:Int,-2037035976334486086268445688409378161051468393665936250636140449354381299763336706183397376<x/\x<2037035976334486086268445688409378161051468393665936250636140449354381299763336706183397376->Builtin.Int.intBits x<=300:=λx hx=>intBits_le_iff.mpr (Az (show x.natAbs<2037035976334486086268445688409378161051468393665936250636140449354381299763336706183397376 by lia) (by decide +kernel));unfold Fk;have k:=h a ha;have l:=h b hb;have:Builtin.Int.intTooBig ((Builtin.Int.intBits a:Int)+(Builtin.Int.intBits b:Int))=false:=by
  unfold Builtin.Int.intTooBig;have:bitsLine=134217728:=by decide +kernel
  rw[this];exact decide_eq_false ∅
 rw[this,DN];exact AV
def bV:PV->W PV
 |.int i=>.dm (0<i/\i<1073741824) (drawn i)
 |_=>.fail
@[simp] theorem cx{i:Int}(h0:0<i)(h1:i<1073741824):bV (.int i)=drawn i:=sK ⟨h0,h1⟩
def aiP{s:Int}(tb:TB H)(ea:∃ws,H a=some (.lst ws))(eb:dH H b)(k:∀x o,x≠a->x≠b->H x=some o->H' x=some o)(th:∀x,H' x=ci->H x=ci)(e1:H' a=some (.lst [.ref b,.int s,.int c]))(e2:dH H' b)(ab:a≠b)(hc:0<=c/\c<=((j+1:Nat):Int))(np:∀x ψ d,¬u9 vs ks ψ d x):Yj j (.ref a::vs) (.p FL.fU 1::ks) H H':=by
 have keep:∀x o,H x=some o->x≠a->H' x=some o:=λx o h n=>by
  by_cases c:x=b
  .subst c;rw[show H x=_ from eb]at h;cases h;exact e2
  .exact k x o n c h
 obtain⟨ws,ea⟩:=ea;refine⟨λx o h n _=>keep x o h λy=>n FL.fU 1 ⟨0,rfl,by rw[y];rfl⟩,tb.mono (λx ps z=>keep x _ z λy=>by subst y;rw[ea]at z;cases z) λx o u _ z _=>⟨u,keep x _ z λy=>by subst y;rw[ea]at z;cases z⟩,th,λx ψ d ⟨i,p1,p2⟩=>?_,λx h=>keep x _ h λy=>by subst y;rw[show H x=_ from h]at ea;cases ea⟩;cases i with
 |zero=>simp at p1 p2;obtain⟨rfl,rfl⟩:=p1;subst p2;exact⟨j+1,_,Al _,e1,⟨b,s,c,rfl,hc.1,hc.2⟩,λy hy=>by simp at hy;subst hy;exact e2⟩
 |succ i=>exact(np x ψ d ⟨i,by simpa using p1,by simpa using p2⟩).elim
end
end FL
namespace L2
def UE:V->O V->Hp->VK->Prop:=λx vs H Q=>∃l xs i y,x=.ref l/\vs=[.int i,y]/\H l=some (.lst xs)/\0<=i/\i<2 ^ 63/\xs.length<sizeLine/\GG H l (.lst (xs.take i.toNat++y::xs.drop i.toNat)) (Q .aB)
theorem Nv:Lj X "list.insert" UE:=by
 intro U s σ H x vs v us Q I rx rv h;obtain⟨l,xs,i,y,rfl,rfl,hH,h1,h2,hz,q⟩:=h;cases rx;cases rv with
 |cons ru rv=>
 cases rv with
 |cons rw rv=>
 cases rv;obtain⟨t,rfl⟩:=ru;obtain⟨z,ao,n,r,hl,e⟩:=I.rH hH;refine v4 F.slot_list_insert ⟨_,e,rfl⟩ F.entry_list_insert (F.args_list_insert_3 _ _ _) (AutoSeq1.list_insert_list_int_val_1 l ao.toArray n i t _ (by rw[fitsIndex_both ∅ h2];decide) (by rw[Am];lia)) ⟨e,?_⟩;refine⟨.aB,_,I.JV hH e ?_ ((r.take i.toNat).append (.cons rw (r.drop i.toNat))) ?_,rfl,q.at⟩
 .have c:¬i<0:=by lia
  simp only[Am,if_neg c];apply Array.toList_inj.mp;have hk:min i.toNat ao.length<=ao.length:=Nat.min_le_right _ _;have e1:ao.take (min i.toNat ao.length)=ao.take i.toNat:=by
   rcases Nat.le_total i.toNat ao.length with h|h
   .rw[Nat.min_eq_left h]
   .rw[Nat.min_eq_right h,Cq (Al _),Cq h]
  have e2:ao.drop (min i.toNat ao.length)=ao.drop i.toNat:=by
   rcases Nat.le_total i.toNat ao.length with h|h
   .rw[Nat.min_eq_left h]
   .rw[Nat.min_eq_right h,Ft (Al _),Ft h]
  simp[e1,e2];exact Cq (by rw[Dc];lia)
 .rw[Ak,Ax,CO,Dc];lia
end L2
namespace FL
section
variable[bL]
variable{K:Ab}
def aag(l:O PV)(n v:PV):W (O PV):=match n with
 |.int i=>.dm (0<=i/\i<2 ^ 63/\l.length<sizeLine) (.ret (l.take i.toNat++v::l.drop i.toNat))
 |_=>.fail
theorem ax.take':∀{vs:O V}{us:O PV} (n:Nat),ax K [] H vs us->ax K [] H (vs.take n) (us.take n)
 |_,_,0,_=>.nil
 |_,_,_+1,.nil=>.nil
 |_,_,n+1,.cons r t=>.cons r (ax.take' n t)
theorem ax.drop':∀{vs:O V}{us:O PV} (n:Nat),ax K [] H vs us->ax K [] H (vs.drop n) (us.drop n)
 |_,_,0,h=>h
 |_,_,_+1,.nil=>.nil
 |_,_,n+1,.cons _ t=>ax.drop' n t
section
variable{rest:O wn}{p:Pos}{T:Type}{out:T->End}{l:O PV}
theorem SF.insert(i:Nat){k:O PV->W T}(hs:fs[i]?=some (some (.ol q0 l)))(hK:X.K=K)(hN:X.N[i]?=some y)(hv:v9 X.env.scope y)(hi:EF X K fs e wi fs1)(he:EF X K fs1 e2 we fs2)(hr:∀l',SF X K x (fs2.set i (some (.ol q0 l'))) rest (k l') out)(hd: ~~~(gZ y))(gU: ~~~(xF y))(cH:‹pr (.Name y p) "insert" X.env (pc (.Name y p) X.env)=pc (.Name y p) X.env›)(jH:‹((t0 a9 (gt [e,e2] X.env)).all (λx=>!x.1)&&(IR a9 (wT [] X.env)).all (λx=>x.1.isSome)
   && decide ([e,e2].length+([]:O Sc).length+(if ([]:O Sc).isEmpty then 0 else 1) < 30))=true›)(cG:‹MR À a9›)(o5:‹gt [e,e2] X.env=(false,pc e X.env)::gt [e2] X.env›)(aid:‹gb X e2 []›)(cg:‹(t0 a9 (gt [e2] X.env)).any (·.1)=false›)(mn:‹o0 (.Call (.Attribute (.Name y p) "insert" À) [e,e2] [] a9) ci pos.line X.env=pure false›):SF X K x fs (.Expr (.Call (.Attribute (.Name y p) "insert" À) [e,e2] [] a9) pos::rest) (.bind wi λn=>.bind we λv=>.bind (aag l n v) k) out:=
 SF.step (hU (jy K hK Bm PySem.F.slot_list_insert PySem.F.type_list_insert Nv (cX hN hv hd gU) (aJ hi.p (aJ he.p bj aid) o5) cH jH cG o5 cg) mn) λD σ H ⟨sr,q⟩=>by
  obtain⟨a,ws,e1,h1,r1⟩:=dR sr hs;refine⟨_,e1,.inl ⟨rfl,_,bM.of h1⟩,sr,wi.mono (λn q0 u0 H0 g0 s0 v0=>⟨s0,we.mono (λv q1 u H1 g1 s1 v1=>?_) q0⟩) q⟩;obtain⟨a',rE,k7,ff,vf⟩:=dR s1 ((g0.trans g1).ev.same hs (by simp));rw[e1]at k7;cases k7;cases v0 with
  |int ii=>
   have q1:(0<=ii/\ii<2 ^ 63/\l.length<sizeLine)/\_:=q1;refine⟨a,rE,ii,u,rfl,rfl,ff,q1.1.1,q1.1.2.1,by rw[vf.length];exact q1.1.2.2,λH2 sx h2=>?_⟩;obtain⟨s2,g2⟩:=ou s1 ((g0.trans g1).ev.same hs (by simp)) e1 sx h2 ((ax.take' ii.toNat vf).append (.cons v1 (ax.drop' ii.toNat vf)));exact⟨_,k _,hr _,s2,(k _).mono (λt q2=>q2.go ((g0.trans g1).f.trans g2) sr s2) q1.2⟩
  |_=>exact q1.elim
variable{a b:nw}
def SF.adk{y:Str}{wb:W (O PV)}{k:O PV->O PV->W T}(hc:X.calm=true)(hN:X.N.Nodup)(hi:X.N[i]?=some y)(hj:X.N[j]?=some z)(æ:i≠j)(hx:X.env.scope.names.lookup y=some .local)(hy:X.env.scope.names.lookup z=some .local)(ha:LF X K fs a wl fs1)(hb:LF X K fs1 b wb fs2)(hr:∀u v,SF X K x ((fs2.set i (some (.ol ci u))).set j (some (.ol ci v))) rest (k u v) out)(hw:‹GM [.Tuple [.Name y px,.Name z py] kt pt] (.Tuple [a,b] k2 Tj) X.env=pure (some [y,z])›)(hs:‹GE [.Tuple [.Name y px,.Name z py] kt pt] (.Tuple [a,b] k2 Tj) pos.line X.env=pure false›)(he:‹gt [a,b] X.env=(false,pc a X.env)::gt [b] X.env›)(ç:‹gb X b []›):SF X K x fs (.Assign [.Tuple [.Name y px,.Name z py] kt pt] (.Tuple [a,b] k2 Tj) pos::rest) (.bind wl λu=>.bind wb λv=>k u v) out:=
 SF.step (Qw hc hN hi hj æ hx hy (aJ ha.p (aJ hb.p bj ç) he) hw hs) λD σ H ⟨sr,q⟩=>⟨sr,wl.mono (λu q1 ad vs H1 g1 s1 n1 e1 v1=>⟨s1,wb.mono (λv q2 bd us H2 g2 s2 n2 e2 v2=>by
  have no:¬ck σ fs2 ad:=λz=>sr.noOwn n1 ((g1.trans g2).ev.eV z);have no2:¬ck σ fs2 bd:=λz=>s1.noOwn n2 (g2.ev.eV z);have ea:H2 ad=some (.lst vs):=g2.qW e1 λz=>sr.noOwn n1 (g1.ev.eV z);have ab:bd≠ad:=λy=>by subst y;rw[e1]at n2;cases n2
  have oa:fN K H2 ad (.ol ci u):=⟨λ_ z=>(nomatch z),vs,ea,g2.MV s1 v1⟩;have ob:fN K H2 bd (.ol ci v):=⟨λ_ z=>(nomatch z),us,e2,v2⟩;have s3:=s2.mU oa no i;have no3:¬ck (σ.set i (some (.ref ad))) (fs2.set i (some (.ol ci u))) bd:=λz=>(kK z s2.len).elim no2 λ⟨x,y,_,w⟩=>by
   cases y;rcases w with w|w
   .exact ab w
   .cases w
  have s4:=s3.mU ob no3 j;have g4:cn σ fs H ((σ.set i (some (.ref ad))).set j (some (.ref bd))) ((fs2.set i (some (.ol ci u))).set j (some (.ol ci v))) H2:=by
   refine⟨λc o z n=>?_,(g1.trans g2).there,λc ψ m pp=>?_,(g1.trans g2).x⟩
   .obtain⟨h1,h2⟩:=(cn.mU s2 (g1.trans g2) no n1 i (t:=.ol ci u)).keep c o z n;refine⟨h1,λw=>(kK w s3.len).elim h2 λ⟨x,y,_,w⟩=>?_⟩;cases y;rcases w with w|w
    .rw[w,g1.there bd n2]at z;cases z
    .cases w
   .rcases (cn.mU s2 (g1.trans g2) no n1 i (t:=.ol ci u)).pk c ψ m pp with w|⟨w1,w2⟩
    .refine(yd s3 w (λx y _ w2=>?_)).imp id λn=>⟨n,s3.free w⟩;cases y;rcases w2 with rfl|w2
     .exact absurd w.eV no3
     .cases w2
    .refine .inr ⟨λw=>(kK w s3.len).elim w1 λ⟨x,y,_,w3⟩=>?_,w2⟩;cases y;rcases w3 with rfl|w3
     .obtain⟨i',n',h1,h2⟩:=pp;have:=sr.free ⟨i',n',h1,h2⟩;obtain⟨_,_,_,e,_⟩:=this;rw[g1.there _ n2]at e;cases e
     .cases w3
  exact⟨_,_,rfl,_,k u v,hr u v,s4,(k u v).mono (λt q3=>q3.go g4 sr s4) q2⟩) q1⟩) q⟩
end
end
end FL
variable{x:Bg}{e:Bf}{Í:String}{kw:O (B4×Bg)}
namespace L2
open PySem.AutoSeq1 (wpAny_loadPart')
abbrev kwS(v:cr):O (Str×cr):=[(Cg "start",v)]
def kS1(a v:cr):checkTypeCall "enumerate" ⟨[a],kwS v⟩=pure ():=by kernel_rfl
def kS2(a v:cr):checkBuiltinCall "enumerate.__new__" ⟨[.type "enumerate",a],kwS v⟩=pure ():=by kernel_rfl
def kS3(a b v:cr):argsOk "object.__init__" ⟨[a,b],kwS v⟩:=by unfold argsOk;kernel_rfl
section
def rV{Ki:String}{Bn Bi:ul}{args:O cr}{S:PySem.Spec}{Q₁:cr->db->Prop}(ft:TypeCalled T Í Ki)(hct:checkTypeCall T ⟨args,kw⟩=pure ())(hcn:checkBuiltinCall Í ⟨.type T::args,kw⟩=pure ())(aaW:entryFor table Í=some Bn)(aaX:entryFor table Ki=some Bi)(g:Meets (Bn ⟨.type T::args,kw⟩) S)(h:S A.in1 (wants Q₁ E) s)(ad6:∀obj s₁,Q₁ obj s₁->s₁.TypeIs obj T/\argsOk Ki ⟨obj::args,kw⟩/\∃Si,Meets (Bi ⟨obj::args,kw⟩) Si/\Si A.in1 (wants (λr s₂=>r=.none/\Q obj s₂) E) s₁):gl (im prog w) A (call (.type T) args kw) Q E s:=by
 obtain⟨c,tl,ams⟩:=ft.mro;have aj6:=ft.made;have aic:=ft.sub;refine wpAny_call (codeAny_of_tree ?_);show gl _ _ (callAny (.type T) _) _ _ _;refine Af ⟨Code.quiet_builtin _ (by decide +kernel),zn F.entry_type_call ?_⟩;rw[Around.under_plain (weight_type_call_type T args kw) (units_type_call_type T args kw)];have h1:=ft.notType;have h2:=ft.canCreate
 repeat (any_goals (first|assumption|wp_step))
 refine Rs (codeAny_call_builtin ft.plain aaW (BA hcn (g prog w A.in1 _ s h))) λr s₁ hr=>?_;cases r with
 |error e=>exact hr
 |ok fl=>
  cases fl with
  |ret obj=>
   obtain⟨hT,ba,Si,gi,hsi⟩:=ad6 _ _ hr;have hli:=ft.init.lookup;have hbi:=ft.init.bind obj
   repeat (any_goals (first|assumption|wp_step))
   refine Rs (codeAny_call_builtin ft.init.plain aaX (ft.init.check _ _ _ _ _ _ _ _ hT ba (gi prog w A.in1 _ s₁ hsi))) λr₂ s₂ RL=>?_;cases r₂ with
   |error e=>exact RL
   |ok aeB=>
    cases aeB with
    |ret r=>
     obtain⟨rfl,hq⟩:=RL
     repeat (any_goals (first|assumption|wp_step))
    |_=>exact RL.elim
  |_=>exact hr.elim
def yn{self a:cr}{rest:O cr}(hl:xz (.type T) "__init__"=pure (some (.builtin "object.__init__")))(hm:Bind.madeBy (.type T)=pure (some Í))(yW:(some Í != some "object.__new__")=true):Meets (ul.«object.__init__» ⟨self::a::rest,kw⟩) (λ_ R s=>s.TypeIs self T/\R (.ok (.ret .none)) s):=by
 refine Meets.of_wp λprog w A R s hs=>?_;obtain⟨hT,hq⟩:=hs
 repeat (any_goals (first|assumption|wp_step))
 exact⟨_,rfl,hq⟩
end
theorem meets_enumerate_newS(l:f8)(items:Array cr)(n:Nat)(İ:Option f8)(sl:Array (Option cr))(k:Int)(t:Tok)(k0:0<=k)(k1:k<=1000000000):Meets (ul.«enumerate.__new__» ⟨[.type "enumerate",.ref l],kwS (.int k t)⟩) (λ_ R s=>s.heap.get? l=some {cls:=.type "list",dict:=İ,data:=.seq items n,slots:=sl}/\
   R (.ok (.ret (.ref (s.heap.push {cls:=.type "list_iterator",data:=.fields #[.ref l,.int 0 0]}).objs.size)))
    {s with heap:=(s.heap.push {cls:=.type "list_iterator",data:=.fields #[.ref l,.int 0 0]}).push {cls:=.type "enumerate",data:=.fields #[.none,.bool false,.ref s.heap.objs.size,wv k,.none,.none]}}):=
 .of_wp λprog w A R s h=>by
  obtain⟨hp,g,d,tk,os⟩:=s;obtain⟨hl,h⟩:=h;have aic:=sub_enumerate;have hL:Heap.IsList (Shared.heap ⟨hp,g,d,tk,os⟩) l items:=⟨_,hl,rfl,n,rfl⟩;have hf:Builtin.SmallTypes.fitsIndex k=true:=by
   have e:(2:Int) ^ 63=9223372036854775808:=by decide
   unfold Builtin.SmallTypes.fitsIndex;simp;lia
  refine Aa ?_;refine Aa (BA rfl ?_);refine Aa (BA sub_enumerate ?_);refine Af ?_;refine Aa ?_;refine Aa (wpAny_stack_any λst=>Af ?_);have fin:gl (im prog w) A.in1 (pyIter (.ref l) >>= λit=>(Builtin.SmallTypes.newRecord (.type "enumerate") (Builtin.SmallTypes.ownedTupleFields++[it,wv k,.none,.none]) >>= λr=>ret r)) (λfin s'=>∃v,fin=D7 (ED v)/\R (Except.ok (ED v)) s') (λe s'=>R (Gk e) s') ⟨hp,g,d,tk,os⟩:=by
   wp_walk using FA hl,DH hL
   exact⟨_,rfl,h⟩
  refine wpAny_ite_split (λ_=>?_) (λ_=>?_)
  .refine Aa (BA rfl ?_);refine Aa (BA (a:=CJ k t) rfl ?_);refine Aa (BA (a:=some k) rfl ?_);dsimp only;rw[hf,if_neg ⋯];exact fin
  .refine Aa (BA rfl ?_);refine Aa (BA (a:=CJ k t) rfl ?_);refine Aa (BA (a:=some k) rfl ?_);dsimp only;rw[hf,if_neg ⋯];exact fin
def lj{l:f8}{k:Int}{t:Tok}(k0:0<=k)(k1:k<=1000000000)(hL:s.heap.IsList l items)(h:∀h',KM h' (s.heap.objs.size+1) s.heap.objs.size k .none->h'.IsListIter s.heap.objs.size l 0->h'.objs.size=s.heap.objs.size+2->
   (∀b o,s.heap.get? b=some o->h'.get? b=some o)->Q (.ref (s.heap.objs.size+1)) {s with heap:=h'}):gl (im prog w) A (call (.type "enumerate") [.ref l] (kwS (.int k t))) Q E s:=by
 obtain⟨⟨c,İ,dt,sl⟩,hl,hc,n,hd⟩:=hL;replace hc:c=.type "list":=hc;replace hd:dt=.seq items n:=hd;subst hc hd;refine rV Dx (kS1 _ _) (kS2 _ _) F.entry_enumerate_new F.entry_object_init
  (meets_enumerate_newS l items n İ sl k t k0 k1) (Q₁:=λobj s₁=>s₁.TypeIs obj "enumerate"/\Q obj s₁) ⟨hl,?_⟩ λobj _ hq=>⟨hq.1,kS3 _ _ _,_,yn Dx.init.lookup Dx.made ⋯,hq.1,rfl,hq.2⟩
 have hz:(s.heap.push {cls:=.type "list_iterator",data:=.fields #[.ref l,.int 0 0]}).objs.size=s.heap.objs.size+1:=BD ..;show _/\_;rw[hz];have he:KM ((s.heap.push {cls:=.type "list_iterator",data:=.fields #[.ref l,.int 0 0]}).push
   {cls:=.type "enumerate",data:=.fields #[.none,.bool false,.ref s.heap.objs.size,wv k,.none,.none]}) (s.heap.objs.size+1) s.heap.objs.size k .none:=by
  have:=An (s.heap.push {cls:=.type "list_iterator",data:=.fields #[.ref l,.int 0 0]})
   (o:={cls:=.type "enumerate",data:=.fields #[.none,.bool false,.ref s.heap.objs.size,wv k,.none,.none]}) rfl
  rw[hz]at this;exact this
 refine⟨⟨_,he,rfl⟩,h _ he ⟨_,Aj _ (An _ rfl),rfl,rfl⟩ (by rw[BD,hz]) λb o x=>Aj _ (Aj _ x)⟩
def rR{E:cr->db->Prop}(vi:e≠it)(hz:KM s.heap e it c È)(hi:s.heap.IsListIter it t i)(ht:s.heap.IsList t items)(hx:items[i]?=some x)(q:∀(h':re) (tk:Nat),IsEnumOut h' e it (c+1) x s.heap.objs.size->h'.IsListIter it t (i+1)->Fa h' s.heap.objs.size (.int c s.toks) x->(∀c o,c≠e->c≠it->s.heap.get? c=some o->h'.get? c=some o)->Q (.ref s.heap.objs.size) {s with heap:=h',toks:=tk}):gl (im prog w) A (ul.«enumerate.__next__» {pos:=[.ref e]}) (λfin s'=>∃v,fin=D7 (ED v)/\Q v s') E s:=by
 show gl _ _ (field (.ref e) 2 >>= λr=>_) _ _ s;refine Aa (AN hz rfl rfl ?_);refine Aa (wpAny_nextOf_list_item hi ht hx λh1 j1 b1=>?_);have z1:=(b1.2 _ vi).trans hz;refine Aa (AN z1 rfl rfl ?_);refine Aa (AN z1 rfl rfl ?_);refine Aa (wpAny_mkInt ?_);refine Aa (AM z1 (show 3 < 6 by decide) λh2 z2 b2=>?_);refine Aa (AM z2 (show 4 < 6 by decide) λh3 z3 b3=>?_);refine Aa (Cu ?_ (by show 2<=sizeLine;decide));have kp:∀b o,h3.get? b=some o->(h3.push {cls:=.type "tuple",data:=.seq [CJ c s.toks,x].toArray}).get? b=some o:=λb o e=>Aj _ e;have vB:(h3.push {cls:=.type "tuple",data:=.seq [CJ c s.toks,x].toArray}).get? h3.objs.size=some {cls:=.type "tuple",data:=.seq #[.int c s.toks,x]}:=An _ rfl;generalize h3.push {cls:=.type "tuple",data:=.seq [CJ c s.toks,x].toArray}=h4 at kp vB ⊢;have z4:=kp _ _ z3;refine Aa ?_;refine Aa (AN z4 rfl rfl ?_);refine Af ?_;refine Aa (CV ?_);refine Aa (AN z4 rfl rfl ?_);refine Aa (AM z4 (show 5 < 6 by decide) λh5 z5 b5=>?_);refine Aa ?_;refine Aa (AM z5 (show 0 < 6 by decide) λh6 z6 b6=>?_);refine AM z6 (show 1 < 6 by decide) λh7 z7 b7=>?_;refine Aa (CD ?_);have Kl:∀b,b≠e->h7.get? b=h4.get? b:=λb n=>(b7.2 b n).trans ((b6.2 b n).trans (b5.2 b n));have ne:s.heap.objs.size≠e:=λz=>by have:=Ao hz;rw[<- z]at this;exact AE _ this
 refine Af ⟨.ref h3.objs.size,rfl,?_⟩;rw[(b3.1.trans (b2.1.trans b1.1))]at z7 vB ⊢;refine q h7 _ ?_ ?_ ?_ ?_
 .exact z7
 .obtain⟨o,eo,p⟩:=j1;refine⟨o,?_,p⟩;rw[Kl _ (Bt vi)];exact kp _ _ ((b3.2 _ (Bt vi)).trans ((b2.2 _ (Bt vi)).trans eo))
 .rw[Fa,Kl _ ne];exact vB
 .intro b o n1 n2 ec;rw[Kl _ n1];exact kp _ _ (((λb n1 n2=>(b3.2 b n1).trans ((b2.2 b n1).trans (b1.2 b n2))) _ n1 n2).trans ec)
def uM{Q:Option cr->db->Prop}(hA:A.handled=ci)(hz:KM s.heap e it c È)(hi:s.heap.IsListIter it t i)(ht:s.heap.IsList t items)(hx:items[i]?=ci)(q:∀h':re,FW it s.heap h'->Q ci {s with heap:=h'}):gl (im prog w) A (FS (.ref e)) Q E s:=by
 have ty:s.TypeIs (.ref e) "enumerate":=⟨_,hz,rfl⟩;refine Aa (Ci (AY ty BE (Bj BE ty CU ?_ (CK _))));show gl _ _ (field (.ref e) 2 >>= λr=>_) _ _ _;refine Aa (AN hz rfl rfl (Aa (wpAny_nextOf_list_end hA hi ht hx λh' x k ex=>?_)));obtain⟨o,eo,hc⟩:=ex;exact Aa (CM ⟨o,eo,hc⟩ Pi (Af (q h' k)))
def om{Q:Option cr->db->Prop}(vi:e≠it)(hz:KM s.heap e it c È)(hi:s.heap.IsListIter it t i)(ht:s.heap.IsList t items)(hx:items[i]?=some x)(q:∀(h':re) (tk:Nat),IsEnumOut h' e it (c+1) x s.heap.objs.size->h'.IsListIter it t (i+1)->Fa h' s.heap.objs.size (.int c s.toks) x->(∀c o,c≠e->c≠it->s.heap.get? c=some o->h'.get? c=some o)->Q (some (.ref s.heap.objs.size)) {s with heap:=h',toks:=tk}):gl (im prog w) A (FS (.ref e)) Q E s:=by
 have ty:s.TypeIs (.ref e) "enumerate":=⟨_,hz,rfl⟩;refine Aa (Ci (AY ty BE (Bj BE ty CU ?_ (CK _))));exact rR vi hz hi ht hx λh' tk a b c d=>Af (q h' tk a b c d)
end L2
variable{t1:L2.TE}
namespace L2
def Yh(K:Ab)(k:Nat)(a:f8):It where
 go:=λi H=>∃xs x,bM K H a xs/\xs[i]?=some x
 TN:=λi H v H'=>∃p x,v=.ref p/\H p=ci/\H'=upd H p (.tup [.int ((k+i:Nat):Int),x])/\∀xs,bM K H a xs->xs[i]?=some x
 stop:=λi H=>∃xs,bM K H a xs/\xs.length<=i
theorem Jm{K:Ab}{kk:Nat}(vi:e≠it):Turn P w K (.Tuple Ë kk pos) (Yh K k t) [e,it] e (λi h=>(∃È,KM h e it ((k+i:Nat):Int) È)/\h.IsListIter it t i) where
 mem:=by simp
 obj:=λi h st b hb=>by
  simp at hb;rcases hb with rfl|rfl
  .obtain⟨⟨_,e⟩,_⟩:=st;exact⟨_,e,λv z=>by cases z⟩
  .obtain⟨_,⟨o,e,_,d⟩⟩:=st;exact⟨o,e,λv z=>by rw[d]at z;cases z⟩
 keep:=λi h h' st k=>⟨let ⟨o,e'⟩:=st.1;⟨o,k e (by simp) _ e'⟩,let ⟨o,e',p⟩:=st.2;⟨o,k it (by simp) _ e',p⟩⟩
 item:=by
  intro X hP hw hK hc i U s σ H E I hf st hg;subst hP hw hK;obtain⟨xs,x,hx,gx⟩:=hg;obtain⟨ao,rx,tx,_⟩:=I.list hx;obtain⟨u,gu,ru⟩:=kr rx gx;obtain⟨⟨È,hz⟩,hi⟩:=st;refine om vi hz hi tx.isList (by simpa using gu) λh' tk zo j np k'=>?_;refine⟨_,rfl,?_⟩;refine C6 zo λh2 z2 b2=>?_;have le:=Ao hz;have li:=let ⟨_,e',_⟩:=hi;Ao e';have lt:∀b∈[e,it],b<s.heap.objs.size:=λb hb=>by
   simp only[Ay,Cs,or_false]at hb;rcases hb with rfl|rfl
   .exact le
   .exact li
  have Z0:∀b o,b∉[e,it]->s.heap.get? b=some o->h2.get? b=some o:=λb o hb e'=>by
   have RK:b≠e:=λq=>hb (by simp[q]);rw[b2.2 b RK];exact k' b o RK (λq=>hb (by simp[q])) e'
  have np2:h2.get? s.heap.objs.size=some {cls:=.type "tuple",data:=.seq #[.int ((k+i:Nat):Int) s.toks,u]}:=(b2.2 _ (λz=>AE _ (by have:=le;rw[<- z]at this;exact this))).trans np;refine⟨.ref s.heap.objs.size,upd H s.heap.objs.size (.tup [.int ((k+i:Nat):Int),x]),I.nX hf Z0 (Al _) ⟨by show 2<=sizeLine;decide,[.int ((k+i:Nat):Int) s.toks,u],.cons ⟨_,rfl⟩ (.cons ru .nil),⟨_,np2,rfl,_,rfl⟩,_,np2,rfl⟩,rfl,⟨_,x,rfl,(I.ba.fresh (Al s.heap.objs.size)),rfl,λxs' h'=>by rw[I.uf h' hx];exact gx⟩,⟨⟨_,z2⟩,let ⟨o,e',p⟩:=j;⟨o,(b2.2 _ (Bt vi)).trans e',p⟩⟩,λb hb=>?_⟩;rw[aj (AA (lt b hb))];exact(hf b hb).1
 done:=by
  intro X hP hw hK hc i U s σ H E I hf st hg;subst hP hw hK;obtain⟨xs,hx,hl⟩:=hg;obtain⟨ao,rx,tx,_⟩:=I.list hx;have el:=rx.length;obtain⟨⟨È,hz⟩,hi⟩:=st;refine uM (I.ok.hd hc) hz hi tx.isList (by simp;lia) λh' k=>⟨rfl,I.rZ hf λb o hb e'=>k b o (λz=>hb (by simp[z])) e'⟩
 self:=λA i s Q E st h=>let ⟨_,e'⟩:=st.1;CC e' h
def aao(K:Ab)(t1 t2:TE):TI:=λσ H R=>t1 σ H λx H1=>t2 σ H1 λy H2=>∃(a:f8) (k:Nat),x=.ref a/\y=.int (k:Int)/\k<=1000000000/\(∃xs,bM K H2 a xs)/\R (Yh K k a) H2
def uU{e:nw}{rest:O nw}{ò:O Sc}(h:gl M A (spliced (t0 pos (gt (e::rest) env))) (λvs s₁=>gl M A (evalAll ((IR pos (wT ò env)).map (·.2)))
   (λkvs s₂=>gl M A (call (.type T) vs (((IR pos (wT ò env)).filterMap (·.1)).zip kvs)) Q E s₂) E s₁) E s)(he:‹t0 pos (gt (e::rest) env)=(false,pc e env)::t0 pos (gt rest env)›)(cg:‹(t0 pos (gt (e::rest) env)).any (·.1)=false›)(ũ:‹(IR pos (wT ò env)).all (·.1.isSome)=true›)(ő:‹(IR pos (wT ò env)).any (·.1.isNone)=false›):gl M A (callWith pos (.type T) [] (t0 pos (gt (e::rest) env)) (IR pos (wT ò env))) Q E s:=by
 have h':gl M A (evalArgs (.type T) true (t0 pos (gt (e::rest) env)) (IR pos (wT ò env))) (λa s₁=>gl M A (call (.type T) ([]++a.pos) a.kw) Q E s₁) E s:=by
  rw[he]at h ⊢;exact evalArgs_kwB ũ h
 unfold callWith;refine Aa (Bb (BM h' (λa s₁ h₁=>Aa (D6 ?_)) λ_ _ x=>x));simp only[cg,ő,Bool.or_false];refine Aa (Af ?_);exact Aa (BM h₁ (λr s₂ hr=>Aa (Bb (wpAny_point (Af hr)))) λ_ _ x=>x)
theorem QD(K:Ab)(hK:X.K=K){t2:TE}{kk:Nat}{p2:Pos}(hg:Gl X "enumerate")(hm:X.mg "enumerate"=ci)(h1:PE X e1 t1)(h2:PE X e2 t2)(mq:‹gb X e1 []›)(hp:‹(t0 p2 (gt [e1] X.env)).any (·.1)=false›):PI X (.Tuple Ë kk tp) (.Call (.Name "enumerate" p1) [e1] [⟨some (Cg "start"),e2,kp⟩] p2) (aao K t1 t2):=by
 subst hK;intro U s σ H R I h;refine Br (fc I hg hm boot_enumerate ?_ ⋯ ⋯);refine uU ?_ (by rw[mq];rfl) hp;rw[mq];refine Bl (bE (h1 U s σ H _ I h) λu1 s1 ⟨x,H1,I1,r1,q1⟩=>BN ?_);refine kws_cons (bE (h2 U s1 σ H1 _ I1 q1) λu2 s2 ⟨y,H2,I2,r2,a,k,ex,ey,hk,⟨xs,hx⟩,q⟩=>kws_nil ?_);subst ex ey;cases r1;obtain⟨tt,rfl⟩:=r2;obtain⟨ao,rx,tx,_⟩:=I2.list hx;refine lj (Int.natCast_nonneg k) ∅ tx.isList λh' ze hi _ k=>?_;refine CC ze ?_;refine⟨_,_,_,_,H2,rfl,I2.kept k,Jm (Nat.succ_ne_self _),⟨⟨_,ze⟩,hi⟩,λc hc=>?_,q⟩;have Î:s2.heap.objs.size<=c:=by
  simp at hc;rcases hc with rfl|rfl
  .exact A5 _ _
  .exact Al _
 exact I2.uD Î (I2.ba.fresh Î)
end L2
variable{e:BF}
namespace FL
section
variable[bL]
variable{K:Ab}{p2:Pos}
def KC:PV->PV->W (O PV)
 |.cl l,.int k=>.dm (0<=k/\k<=1000000000/\l.length<=sizeLine) (.ret (eR k.toNat l))
 |_,_=>.fail
theorem RF(hK:X.K=K){kk:Nat}(hg:Gl X "enumerate")(hm:X.mg "enumerate"=ci)(ha:EF X K fs e wa fs1)(hb:EF X K fs1 e2 wb fs2)(mq:‹gb X e []›)(hp:‹(t0 p2 (gt [e] X.env)).any (·.1)=false›):mR X K fs (.Tuple Ë kk tp) (.Call (.Name "enumerate" p1) [e] [⟨some (Cg "start"),e2,kp⟩] p2) (.bind wa λx=>.bind wb λy=>KC x y) fs2:=
 ⟨PI.imp (QD K hK hg hm ha.p hb.p mq hp) λσ H R ⟨sr,q⟩=>⟨sr,wa.mono (λx q1 u1 H1 g1 s1 v1=>⟨s1,wb.mono (λy q2 u2 H2 g2 s2 v2=>by
  cases v1<;>first|exact q2.elim|skip
  rename_i a vs l hh rs;cases v2<;>first|exact q2.elim|skip
  rename_i k;obtain⟨⟨k0,k1,hl⟩,q3⟩:=q2;obtain⟨n,rfl⟩:=Int.eq_ofNat_of_zero_le k0;refine⟨a,n,rfl,rfl,by lia,⟨vs,((g2.cB s1).f _ _ hh).sq⟩,q3 _ H2 (g1.trans g2) s2 ⟨by rw[bC];exact hl,λH' t=>⟨λi p hp=>?_,vs,(t.f _ _ ((g2.cB s1).f _ _ hh)).sq,by rw[rs.length,bC];exact Al _⟩⟩⟩;obtain⟨y,hy,rfl⟩:=dY hp;have f2:=(t.f _ _ ((g2.cB s1).f _ _ hh)).sq;obtain⟨v,h3,h4⟩:=(ax.tk t (g2.MV s1 rs)).get hy;refine⟨⟨vs,v,f2,h3⟩,λx H3 z=>?_⟩;obtain⟨pp,x0,rfl,hn,rfl,hz⟩:=z;have:=hz vs f2;rw[h3]at this;cases this;have sm:=iO hn (.tup [.int ((n+i:Nat):Int),v]);exact⟨sm,.tup ay (.cons (.int _) (.cons (VR.tk sm.d7 h4) .nil))⟩) q1⟩) q⟩⟩
end
end FL
variable{p:Bf}
namespace FL
section
variable[bL]
variable{K:Ab}
mutual
def PV.free(s:O PV):PV->Prop
 |.tup l=>gW s l
 |.cl l=>l≠s/\gW s l
 |.dv _ l=>gW s l
 |.ob _ l=>gW s l
 |_=>True
def gW(s:O PV):O PV->Prop
 |[]=>True
 |x::l=>PV.free s x/\gW s l
end
def qx{s l:O PV}:gW s l↔∀x∈l,PV.free s x:=by
 induction l with
 |nil=>simp[gW]
 |cons a l ih=>simp[gW,ih]
mutual
theorem VR.jJ{bs:O f8}{ls:O (O PV)}{H H1 H2:Hp}(hb:∀p o,K.lookup p=some o->H1 p=ci)(ho:∀p,p∉bs->H2 p=H1 p)(fP:∀p∈bs,∃ob ws l,l∈ls/\H1 p=some (.bA ob (.lst ws))/\ax K [] H1 ws l):∀{v:V}{q:PV},VR K [] H1 v q->(∀l∈ls,PV.free l q)->VR K [] H2 v q
 |_,_,.aB,_=>.aB
 |_,_,.bl b,_=>.bl b
 |_,_,.int i,_=>.int i
 |_,_,.str x,_=>.str x
 |_,_,.ty n,_=>.ty n
 |_,_,.ref e,_=>by simp at e
 |_,_,.tup (p:=p) e r,h=>.tup (by rw[ho p (λz=>by obtain⟨ob,ws,l,_,e1,_⟩:=fP p z;rw[e1]at e;cases e)];exact e) (ax.jJ (H:=H) hb ho fP r λl hl=>by have:=h l hl;rw[PV.free]at this;exact this)
 |_,_,.cl (a:=b) (l:=l) e r,h=>by
  have r2:=ax.jJ (H:=H) hb ho fP r λl hl=>by have:=h l hl;rw[PV.free]at this;exact this.2
  rcases e with⟨o,e⟩|e
  .by_cases c:b∈bs
   .obtain⟨ob,ws,l',hl',e1,r'⟩:=fP b c;rw[e1]at e;cases e;have:=h l' hl';rw[PV.free]at this;exact absurd (ax.fn hb r r') this.1
   .exact .cl (.inl ⟨o,by rw[ho b c];exact e⟩) r2
  .exact .cl (.inr e) r2
 |_,_,.dk (a:=p) e e2 r,h=>.dk (by rw[ho p (λz=>by obtain⟨ob,ws,l,_,e1,_⟩:=fP p z;rw[e1]at e;cases e)];exact e) e2 (ax.jJ (H:=H) hb ho fP r λl hl=>by have:=h l hl;rw[PV.free]at this;exact this)
 |_,_,.dt (a:=p) e e2 r,h=>.dt (by rw[ho p (λz=>by obtain⟨ob,ws,l,_,e1,_⟩:=fP p z;rw[e1]at e;cases e)];exact e) e2 (ax.jJ (H:=H) hb ho fP r λl hl=>by have:=h l hl;rw[PV.free]at this;exact this)
 |_,_,.ob (a:=p) e c na e2 r,h=>.ob (by rw[ho p (λz=>by obtain⟨ob,ws,l,_,e1,_⟩:=fP p z;rw[e1]at e;cases e)];exact e) c na e2 (ax.jJ (H:=H) hb ho fP r λl hl=>by have:=h l hl;rw[PV.free]at this;exact this)
 |_,_,.hand (a:=p) e,_=>.hand (by have e':H1 p=_:=e;show H2 p=_;rw[ho p (λz=>by obtain⟨ob,ws,l,_,e1,_⟩:=fP p z;rw[e1]at e';cases e')];exact e')
theorem ax.jJ{bs:O f8}{ls:O (O PV)}{H H1 H2:Hp}(hb:∀p o,K.lookup p=some o->H1 p=ci)(ho:∀p,p∉bs->H2 p=H1 p)(fP:∀p∈bs,∃ob ws l,l∈ls/\H1 p=some (.bA ob (.lst ws))/\ax K [] H1 ws l):∀{v:O V}{q:O PV},ax K [] H1 v q->(∀l∈ls,gW l q)->ax K [] H2 v q
 |_,_,.nil,_=>.nil
 |_,_,.cons r t,h=>.cons (VR.jJ (H:=H) hb ho fP r λl hl=>by have:=h l hl;rw[gW]at this;exact this.1) (ax.jJ (H:=H) hb ho fP t λl hl=>by have:=h l hl;rw[gW]at this;exact this.2)
end
theorem VR.freed{a:f8}{ob:Obj}{s:O PV}{vs:O V}(hb:∀p o,K.lookup p=some o->H p=ci)(ha:H a=some (.bA ob (.lst vs)))(hs:ax K [] H vs s){v:V}{q:PV}(r:VR K [] H v q)(h:PV.free s q):VR K [] (upd H a (.lst vs)) v q:=VR.jJ (bs:=[a]) (ls:=[s]) (H:=H) (H1:=H) (H2:=upd H a (.lst vs)) hb (λp hp=>aj (λz=>hp (List.mem_singleton.mpr z))) (λp hp=>by rw[List.mem_singleton.mp hp];exact⟨ob,vs,s,.head _,ha,hs⟩) r (λl hl=>by rw[List.mem_singleton.mp hl];exact h)
end
section
variable[bL]
variable{K:Ab}{w:W PV}
def xh(l:O PV)(v:PV):W PV:=.dm (PV.free l v) (.ret v)
def SD(i:Nat){l:O PV}(hK:X.K=K)(hs:fs[i]?=some (some (.ol q0 l)))(h:EF X K (fs.set i (some (.val (.cl l)))) e w fs1):EF X K fs e (.bind w (xh l)) (fs1.set i (some (.ol q0 l))):=⟨λU s σ H Q I ⟨sr,q⟩=>by
 obtain⟨a,o,ob,I2,s2,í⟩:=bor I sr hs rfl;obtain⟨a0,ws,e1,h1,r1⟩:=dR sr hs;have hi:i<fs.length:=(Ag.mp hs).1;have hb:∀{H':Hp}{s':db}{σ':L2.St},Inv X U σ' H' s'->∀p o,K.lookup p=some o->H' p=ci:=λJ p o z=>by
  subst hK;exact(J.bs p o (J.ok.mod.kin p o z)).2
 have key:∃vs,o=.lst vs/\ax K [] (upd H a (.bA ob o)) vs l:=by
  obtain⟨u,e2,⟨v,e3,v3⟩|⟨b,e3,oa⟩⟩:=s2.at' i _ (aW hi)
  .cases e3;rw[e1]at e2;cases e2;have v3:VR K [] (upd H a (.bA ob o)) (.ref a0) (.cl l):=v3;cases v3 with
   |cl f r=>
    rcases f with⟨o',f⟩|⟨o',ao,n,z,_⟩
    .by_cases c:a0=a
     .subst c;rw[ay]at f;cases f;exact⟨_,rfl,r⟩
     .rw[aj c,h1]at f;cases f
    .rw[hb I _ _ z]at h1;cases h1
  .exact oa.elim
 obtain⟨vs,rfl,r2⟩:=key;refine bE (h.p U s σ _ (λu H1=>∃v,bR σ (fs.set i (some (.val (.cl l)))) (upd H a (.bA ob (.lst vs))) H1 fs1/\aQ K H1 σ fs1/\VR K [] H1 u v/\PV.free l v/\∀u H',bR σ fs H H' (fs1.set i (some (.ol q0 l)))->aQ K H' σ (fs1.set i (some (.ol q0 l)))->VR K [] H' u v->Q u H') I2 ⟨s2,w.mono (λv q1 u H1 g1 s1 v1=>⟨v,g1,s1,v1,q1.1,q1.2⟩) q⟩) λu s1 ⟨x,H1,I1,r1,v,g1,Ut,v1,d,q1⟩=>?_;obtain⟨I3,g3,s3,t3,_⟩:=í σ s1 H1 _ I1 g1 Ut;have tk:=g1.cB s2;exact⟨x,_,I3,r1,q1 x _ g3 s3 (VR.freed (hb I1) (tk.z _ _ _ ay) (ax.tk tk r2) v1 d)⟩⟩
end
end FL
variable{d z:Bf}{f1:Bool}
namespace L2
def jK:entryFor table "zip.__getattribute__"=some ul.«object.__getattribute__»:=
 entryFor_alias (id':="object.__getattribute__") (by kernel_rfl) (by decide +kernel) (by decide +kernel) (by kernel_rfl)
def pP:xz (.type "zip") "__getattr__"=pure ci:=am_miss_of_fast (by decide +kernel)
def GA:xz (.type "zip") (Cg "keys")=pure ci:=am_miss_of_fast (by decide +kernel)
def tU(a:f8)(fs:Array cr)(name:Str)(u:Tok)(Mh:xz (.type "zip") name=pure ci)(HS:(["__module__","__name__","__qualname__","__doc__","__annotations__"]:O Str).contains name=false)(hsz:name.length+100<=sizeLine):Meets (ul.«object.__getattribute__» ⟨[.ref a,.str name u],[]⟩) (λA R s=>s.heap.get? a=some {cls:=.type "zip",dict:=ci,data:=.fields fs,slots:=#[]}/\raisesAttr (.ref a) name A R s):=
 Meets.of_wp λprog w A R s hs=>by
  obtain⟨hp,g,d,tk,os⟩:=s;obtain⟨hx,hs⟩:=hs;have hT:(⟨hp,g,d,tk,os⟩:db).TypeIs (.ref a) "zip":=⟨_,hx,rfl⟩;unfold ul.«object.__getattribute__»
  repeat (any_goals (first|assumption|wp_step))
  simp only[HS,AD,if_false]
  repeat (any_goals (first|assumption|wp_step))
  exact wpAny_raiseAttrError hs.1 hs.2 (attrMsg_fits (by decide +kernel) hsz)
def o7{fs:Array cr}{Q:Option cr->db->Prop}(hx:s.heap.get? a=some {cls:=.type "zip",dict:=ci,data:=.fields fs,slots:=#[]})(Mh:xz (.type "zip") name=pure ci)(HS:(["__module__","__name__","__qualname__","__doc__","__annotations__"]:O Str).contains name=false)(hA:A.handled=ci)(h:∀h' tk e,Heap.NewExcOf s.heap h' e "AttributeError"->Q ci {s with heap:=h',toks:=tk})(hsz:name.length+100<=sizeLine):gl (im prog w) A (getAttr? (.ref a) name) Q E s:=by
 obtain⟨hp,g,d,tk,os⟩:=s;have hT:∀T6,(⟨hp,g,d,T6,os⟩:db).TypeIs (.ref a) "zip":=λ_=>⟨_,hx,rfl⟩;have f1:=sub_AttributeError;have f3:=Dz.lookup;have f4:=Dz.bind (.ref a);have f5:=pP
 repeat (any_goals (first | assumption | exact hT _ | ((with_reducible show gl _ _ (call (Value.builtin "zip.__getattribute__") _ _) _ _ _);refine v4 Dz (hT _) jK (F.args_zip_getattribute_2 _ _) (tU a fs name _ Mh HS hsz) ⟨hx,hA,λh' T6 e uv=>?_⟩) | wp_step))
 obtain⟨t',u',he⟩:=uv.there;unfold getattributeRaised
 repeat (any_goals (first|assumption|wp_step))
 exact h _ _ _ uv.of
section
def qK{Q:Option Obj->db->Prop}(h:Q (s.heap.get? a) s):gl (im prog w) A (loadIfAlive a) Q E s:=λΓ p _=>by
 unfold loadIfAlive;rw[Sem.wp_loadIfAlive];exact h
abbrev Ym(f0:cr)(f1:Bool)(TI TO:f8):Obj:={cls:=.type "zip",dict:=ci,data:=.fields #[f0,.bool f1,.bool false,.ref TI,.ref TO],slots:=#[]}
structure MJ(b1 b2:Bool)(h:re)(z TI TO i1 i2 a1 a2 p:f8)(f1:Bool)(k1 k2:Nat):Prop where
 zip:h.get? z=some (Ym (wv p) f1 TI TO)
 alive:∃o,h.get? p=some o
 ti:Fa h TI (.ref i1) (.ref i2)
 to:∃a b,Fa h TO a b
 O0:nP b1 h i1 a1 k1
 OZ:nP b2 h i2 a2 k2
def nP.some{b:Bool}(x:nP b h it a k):∃o,h.get? it=some o:=x.obj.imp λ_ h=>h.1
def GB{b2:Bool}{TI TO:f8}{y:cr}(hA:Db z TI TO i1 i2 a1 a2)(np:p≠z/\p≠i1/\p≠i2)(hz:MJ b1 b2 s.heap z TI TO i1 i2 a1 a2 p f1 k1 k2)(Gy:dF b1 s.heap a1 xs)(vh:dF b2 s.heap a2 ys)(hx:xs[k1]?=some x)(hy:ys[k2]?=some y)(q:∀h':re,MJ b1 b2 h' z TI TO i1 i2 a1 a2 p true (k1+1) (k2+1)->Fa h' s.heap.objs.size x y->(∀c o,c≠z->c≠TO->c≠i1->c≠i2->s.heap.get? c=some o->h'.get? c=some o)->Q (.ref s.heap.objs.size) {s with heap:=h'}):gl (im prog w) A (ul.«zip.__next__» {pos:=[.ref z]}) (λfin s'=>∃v,fin=D7 (ED v)/\Q v s') E s:=by
 obtain⟨hz,⟨op,ha⟩,Mf,⟨ta,tb,VO⟩,RP,û⟩:=hz;show gl _ _ (field (.ref z) 2 >>= λr=>_) _ _ s;refine Aa (AN hz rfl rfl ?_);refine Aa (AN hz rfl rfl ?_);refine Aa (Bp Mf rfl ?_);refine Aa ?_;refine Aa (AN hz rfl rfl ?_);show gl _ _ (loadIfAlive (Int.toNat (p:Int)) >>= λr=>_) _ _ s;refine Aa (qK ?_);rw[Bk,ha];show gl _ _ (field (.ref z) 1 >>= λr=>_) _ _ s;refine Aa (AN hz rfl rfl ?_);have main:∀G:Bool->db->Prop,(∀h1:re,h1.get? z=some (Ym (wv p) true TI TO)->B0 z s.heap h1->G false {s with heap:=h1})->gl (im prog w) A (if (Ez f1 != .bool true)=true then (Os (.ref z) 1 (.bool true) >>= λ_=>pure false) else pure false) G E s:=λG r=>by
  cases f1 with
  |true=>exact Af (r s.heap hz ⟨rfl,λ_ _=>rfl⟩)
  |false=>exact Aa (AM hz (show 1<5 by decide) λh1 z1 b1=>Af (r h1 z1 b1))
 refine main _ λh1 z1 ÿ=>?_;have ki:=ÿ.2;show gl _ _ (forIn (#[Aw i1,Aw i2]:Array cr) _ _ >>= λr=>_) _ _ _;rw[<- Gd];refine Aa ?_;show gl _ _ (forIn [Aw i1,Aw i2] _ _) _ _ _;rw[BW];refine Aa ?_;refine Aa (Bb ?_);refine Aa (fH (RP.move λo e=>(ki _ hA.i1z).trans e) (Gy.move λo e=>(ki _ hA.l1z).trans e) hx λh2 j2 þ=>Af ?_);have y6:∀b,b≠z->b≠i1->h2.get? b=s.heap.get? b:=λb n1 n2=>(þ.2 b n2).trans (ki b n1);refine Af ?_;show gl _ _ (forIn [Aw i2] _ _) _ _ _;rw[BW];refine Aa ?_;refine Aa (Bb ?_);refine Aa (fH (û.move λo e=>(y6 _ hA.i2z hA.i12.symm).trans e) (vh.move λo e=>(y6 _ hA.l2z hA.l2i1).trans e) hy λh3 j3 Ĳ=>Af ?_);have É:∀b,b≠z->b≠i1->b≠i2->h3.get? b=s.heap.get? b:=λb n1 n2 n3=>(Ĳ.2 b n3).trans (y6 b n1 n2);refine Af ?_;show gl _ _ (forIn [] _ _) _ _ _;rw[List.forIn_nil];refine Af ?_;have sz3:h3.objs.size=s.heap.objs.size:=Ĳ.1.trans (þ.1.trans ÿ.1);show gl _ _ (newTuple [x,y] >>= λr=>_) _ _ _;refine Aa (Cu ?_ (by show 2<=sizeLine;decide));have kp:∀b o,h3.get? b=some o->(h3.push {cls:=.type "tuple",data:=.seq #[x,y]}).get? b=some o:=λb o e=>Aj _ e;have vB:(h3.push {cls:=.type "tuple",data:=.seq #[x,y]}).get? h3.objs.size=some {cls:=.type "tuple",data:=.seq #[x,y]}:=An _ rfl;refine Af ⟨.ref h3.objs.size,rfl,?_⟩;rw[sz3]at vB ⊢;refine q _ ⟨kp _ _ ((Ĳ.2 _ hA.i2z.symm).trans ((þ.2 _ hA.i1z.symm).trans z1)),⟨op,kp _ _ ((É _ np.1 np.2.1 np.2.2).trans ha)⟩,kp _ _ ((É _ hA.TIz hA.TIi1 hA.TIi2).trans Mf),⟨ta,tb,kp _ _ ((É _ hA.TOz hA.TOi1 hA.TOi2).trans VO)⟩,j2.move λo e=>kp _ _ ((Ĳ.2 _ hA.i12).trans e),j3.move λo e=>kp _ _ e⟩ vB λc o n1 n2 n3 n4 e=>kp _ _ ((É _ n1 n3 n4).trans e)
def xG{b2:Bool}{TI TO:f8}{Q:Gq->db->Prop}(hh:A.handled=ci)(hA:Db z TI TO i1 i2 a1 a2)(hz:MJ b1 b2 s.heap z TI TO i1 i2 a1 a2 p f1 k1 k2)(Gy:dF b1 s.heap a1 xs)(hx:xs[k1]?=ci)(q:∀(h':re) (e:f8),(∀c o,c≠z->c≠TO->c≠i1->c≠i2->s.heap.get? c=some o->h'.get? c=some o)->(∃o,h'.get? e=some o/\o.cls=.type "StopIteration")->E (.ref e) {s with heap:=h'}):gl (im prog w) A (ul.«zip.__next__» {pos:=[.ref z]}) Q E s:=by
 obtain⟨hz,⟨op,ha⟩,Mf,⟨ta,tb,VO⟩,RP,û⟩:=hz;show gl _ _ (field (.ref z) 2 >>= λr=>_) _ _ s;refine Aa (AN hz rfl rfl ?_);refine Aa (AN hz rfl rfl ?_);refine Aa (Bp Mf rfl ?_);refine Aa ?_;refine Aa (AN hz rfl rfl ?_);show gl _ _ (loadIfAlive (Int.toNat (p:Int)) >>= λr=>_) _ _ s;refine Aa (qK ?_);rw[Bk,ha];show gl _ _ (field (.ref z) 1 >>= λr=>_) _ _ s;refine Aa (AN hz rfl rfl ?_);have main:∀G:Bool->db->Prop,(∀h1:re,h1.get? z=some (Ym (wv p) true TI TO)->B0 z s.heap h1->G false {s with heap:=h1})->gl (im prog w) A (if (Ez f1 != .bool true)=true then (Os (.ref z) 1 (.bool true) >>= λ_=>pure false) else pure false) G E s:=λG r=>by
  cases f1 with
  |true=>exact Af (r s.heap hz ⟨rfl,λ_ _=>rfl⟩)
  |false=>exact Aa (AM hz (show 1<5 by decide) λh1 z1 b1=>Af (r h1 z1 b1))
 refine main _ λh1 z1 ÿ=>?_;have ki:=ÿ.2;show gl _ _ (forIn (#[Aw i1,Aw i2]:Array cr) _ _ >>= λr=>_) _ _ _;rw[<- Gd];refine Aa ?_;show gl _ _ (forIn [Aw i1,Aw i2] _ _) _ _ _;rw[BW];refine Aa ?_;refine Aa (Bb ?_);refine Aa (m6 hh (RP.move λo e=>(ki _ hA.i1z).trans e) (Gy.move λo e=>(ki _ hA.l1z).trans e) hx λh2 e k ex=>?_);exact q h2 e (λc o n1 n2 n3 n4 ec=>k _ _ n3 ((ki _ n1).trans ec)) ex
def ZS(b1 b2:Bool)(h:re)(z TI TO i1 i2 a1 a2 d:f8)(i:Nat):Prop:=gY b1 b2 h z TI TO i1 i2 a1 a2 .none i i\/∃p f1,MJ b1 b2 h z TI TO i1 i2 a1 a2 p f1 i i/\p≠z/\p≠i1/\p≠i2/\p≠d
def ZS.zip{b2:Bool}{TI TO:f8}(x:ZS b1 b2 h z TI TO i1 i2 a1 a2 d i):(∃o,h.get? z=some o/\o.cls=.type "zip")/\(∃o,h.get? i1=some o)/\∃o,h.get? i2=some o:=by
 rcases x with x|⟨p,f,x,_⟩
 .exact⟨⟨_,x.zip,rfl⟩,x.O0.some,x.OZ.some⟩
 .exact⟨⟨_,x.zip,rfl⟩,x.O0.some,x.OZ.some⟩
def ZS.move{b2:Bool}{TI TO:f8}(x:ZS b1 b2 h z TI TO i1 i2 a1 a2 d i)(n:TI≠d/\TO≠d/\z≠d/\i1≠d/\i2≠d)(k:∀b o,b≠d->h.get? b=some o->h'.get? b=some o):ZS b1 b2 h' z TI TO i1 i2 a1 a2 d i:=by
 obtain⟨n1,n2,n3,n4,n5⟩:=n;rcases x with x|⟨p,f,x,m1,m2,m3,m4⟩
 .exact .inl ⟨k _ _ n3 x.zip,k _ _ n1 x.ti,let ⟨a,b,e⟩:=x.to;⟨a,b,k _ _ n2 e⟩,x.O0.move λo e=>k _ _ n4 e,x.OZ.move λo e=>k _ _ n5 e⟩
 .exact .inr ⟨p,f,⟨k _ _ n3 x.zip,let ⟨o,e⟩:=x.alive;⟨o,k _ _ m4 e⟩,k _ _ n1 x.ti,let ⟨a,b,e⟩:=x.to;⟨a,b,k _ _ n2 e⟩,x.O0.move λo e=>k _ _ n4 e,x.OZ.move λo e=>k _ _ n5 e⟩,m1,m2,m3,m4⟩
def TJ{b2:Bool}{TI TO:f8}{y:cr}{Q:Option cr->db->Prop}(hA:Db z TI TO i1 i2 a1 a2)(hd:∃o,s.heap.get? d=some o)(hz:ZS b1 b2 s.heap z TI TO i1 i2 a1 a2 d i)(Gy:dF b1 s.heap a1 xs)(vh:dF b2 s.heap a2 ys)(hx:xs[i]?=some x)(hy:ys[i]?=some y)(q:∀h':re,ZS b1 b2 h' z TI TO i1 i2 a1 a2 d (i+1)->Fa h' s.heap.objs.size x y->(∀c o,c≠z->c≠TO->c≠i1->c≠i2->s.heap.get? c=some o->h'.get? c=some o)->Q (some (.ref s.heap.objs.size)) {s with heap:=h'}):gl (im prog w) A (FS (.ref z)) Q E s:=by
 have fr:∀{b:f8},(∃o,s.heap.get? b=some o)->s.heap.objs.size≠b:=λ{b} ⟨o,e⟩ z=>by have:=Ao e;rw[<- z]at this;exact AE _ this
 obtain⟨⟨oz,ez,_⟩,e1,e2⟩:=hz.zip;rcases hz with hz|⟨p,f,hz,m1,m2,m3,m4⟩
 .refine iR hA hz Gy vh hx hy λh' z1 np k=>q h' (.inr ⟨s.heap.objs.size,false,⟨z1.zip,⟨_,np⟩,z1.ti,z1.to,z1.O0,z1.OZ⟩,fr ⟨_,ez⟩,fr e1,fr e2,fr hd⟩) np k
 .have ty:s.TypeIs (.ref z) "zip":=⟨_,hz.zip,rfl⟩;refine Aa (Ci (AY ty Cp (Bj Cp ty D1 ?_ (DC _))));exact GB hA ⟨m1,m2,m3⟩ hz Gy vh hx hy λh' a b c=>Af (q h' (.inr ⟨p,true,a,m1,m2,m3,m4⟩) b c)
def Yl{b2:Bool}{TI TO:f8}{Q:Option cr->db->Prop}(hh:A.handled=ci)(hA:Db z TI TO i1 i2 a1 a2)(hz:ZS b1 b2 s.heap z TI TO i1 i2 a1 a2 d i)(Gy:dF b1 s.heap a1 xs)(vh:dF b2 s.heap a2 ys)(hx:xs[i]?=ci)(q:∀h':re,(∀c o,c≠z->c≠TO->c≠i1->c≠i2->s.heap.get? c=some o->h'.get? c=some o)->Q ci {s with heap:=h'}):gl (im prog w) A (FS (.ref z)) Q E s:=by
 rcases hz with hz|⟨p,f,hz,m1,m2,m3,m4⟩
 .exact jX hh hA hz Gy vh (.inl hx) q
 .have ty:s.TypeIs (.ref z) "zip":=⟨_,hz.zip,rfl⟩;refine Aa (Ci (AY ty Cp (Bj Cp ty D1 ?_ (DC _))));refine xG (A:=A.in1) hh hA hz Gy hx λh' e k ex=>?_;obtain⟨o,eo,hc⟩:=ex;refine Aa (CM (T:="StopIteration") ⟨o,eo,hc⟩ Pi ?_);exact Af (q h' k)
end
end L2
variable{p:Cn}
namespace L2
section
variable{K:Type}[DecidableEq K]{knd:KeyKind prog w K}{R:Result->db->Prop}
theorem xK(hA:A.handled=ci){b2:Bool}{TI TO:f8}(hP:Db z TI TO i1 i2 a1 a2)(nd:TI≠d/\TO≠d/\z≠d/\i1≠d/\i2≠d)(nd1:a1≠d)(ļ:a2≠d)(hz:xs.size+xs.size<=sizeLine):∀(ks:O (K×cr)) (i:Nat) (acc:O (K×cr)) (s:db),i+ks.length=xs.size->acc.length<=i->ZS b1 b2 s.heap z TI TO i1 i2 a1 a2 d i->dF b1 s.heap a1 xs->dF b2 s.heap a2 ys->s.heap.DictOf knd d acc->(∀j x,ks[j]?=some x->∃kv,xs[i+j]?=some kv/\ys[i+j]?=some x.2/\knd.is x.1 kv=true)->(∀h' tk,h'.DictOf knd d (ks.foldl (λa y=>stored a y.1 y.2) acc)->(∀b o,b≠z->b≠TO->b≠i1->b≠i2->b≠d->s.heap.get? b=some o->h'.get? b=some o)->R (.ok (.ret .none)) {s with heap:=h',toks:=tk})->Ix (im prog w) A (.builtin "dict.update.loop" ⟨[.ref d,.ref z,wv i,.none],[]⟩) R s:=by
 obtain⟨m1,m2,m3,m4,m5⟩:=id nd;intro ks
 induction ks with
 |nil=>
  intro i acc s hi ś ń h1 h2 hd _ q;refine zn cO ?_;rw[Eb bB _];show gl _ A.in1 (FS (.ref z) >>= _) _ _ s;refine Aa (Yl (A:=A.in1) hA hP ń h1 h2 (by rw[DP];simp at hi;lia) λh' k=>?_);show gl _ A.in1 (Builtin.Dict.addKeywords d [] >>= _) _ _ _;refine Aa (Af (Af (q h' s.toks ?_ λb o n1 n2 n3 n4 _ e=>k b o n1 n2 n3 n4 e)));obtain⟨o1,es,ep,g1,g2⟩:=hd;exact⟨o1,es,ep,k _ _ m3.symm m2.symm m4.symm m5.symm g1,g2⟩
 |cons y ks ih=>
  intro i acc s hi ś ń h1 h2 hd hp q;rw[Ax]at hi;obtain⟨kv,hx,hy,Tw⟩:=hp 0 y rfl;refine zn cO ?_;rw[Eb bB _];show gl _ A.in1 (FS (.ref z) >>= _) _ _ s;have hdo:∃o,s.heap.get? d=some o:=by obtain⟨o1,_,_,g1,_⟩:=hd;exact⟨o1,g1⟩
  have fr:s.heap.objs.size≠d:=λe=>by obtain⟨o,g⟩:=hdo;have:=Ao g;rw[<- e]at this;exact AE _ this
  refine Aa (TJ hP hdo ń h1 h2 hx hy λh' zs np k=>?_);have hd1:h'.DictOf knd d acc:=by
   obtain⟨o1,es,ep,g1,g2⟩:=hd;exact⟨o1,es,ep,k _ _ m3.symm m2.symm m4.symm m5.symm g1,g2⟩
  have ff:=h1.move λo e=>k _ _ hP.l1z hP.l1TO hP.l1i1 hP.l1i2 e;have sH:=h2.move λo e=>k _ _ hP.l2z hP.l2TO hP.l2i1 hP.l2i2 e;show gl _ A.in1 (GT [Aw s.heap.objs.size] _ >>= _) _ _ _;refine Aa (Bb (Aa (DG ?_)));unfold Builtin.Dict.pairItems;refine Aa (Ep (T:="tuple") ⟨_,np,rfl⟩ ?_);rw[if_pos ⋯];refine Aa (Bp np rfl (Af ?_));show gl _ A.in1 (GT [kv,y.2] (dictSet d kv y.2)) _ _ _;refine Bb (wpAny_dictSet_pairs (knd:=knd) Tw hd1 (λh3 Ò ĺ=>?_) ∅);have Xz:∀b o,b≠d->h'.get? b=some o->h3.get? b=some o:=λb o hb e=>(ĺ.2 b hb).trans e;refine Af ⟨wE bB _,?_⟩;have ei:((i:Int)+1)=((i+1:Nat):Int):=by lia
  show Ix _ A (.builtin "dict.update.loop" ⟨[.ref d,.ref z,wv ((i:Int)+1),.none],[]⟩) R _;rw[ei];refine ih (i+1) (stored acc y.1 y.2) _ ∅ (A0 (stored_length_le _ _ _) ∅) (zs.move nd Xz) (ff.move λo e=>Xz _ _ nd1 e) (sH.move λo e=>Xz _ _ ļ e) Ò (λj x hj=>?_) (λh4 tk dd k3=>?_)
  .have:=hp (j+1) x hj;rw[show i+1+j=i+(j+1) by lia];exact this
  .exact q h4 tk dd λb o n1 n2 n3 n4 n5 e=>k3 b o n1 n2 n3 n4 n5 (Xz _ _ n5 (k _ _ n1 n2 n3 n4 e))
theorem v8{b2:Bool}{TI TO:f8}{ks:O (K×cr)}(hA:A.handled=ci)(hP:Db z TI TO i1 i2 a1 a2)(hz:gY b1 b2 s.heap z TI TO i1 i2 a1 a2 .none 0 0)(h1:dF b1 s.heap a1 xs)(h2:dF b2 s.heap a2 ys)(hsz:xs.size+xs.size<=sizeLine)(hk:ks.length=xs.size)(hp:∀(j:Nat) (x:K×cr),ks[j]?=some x->∃kv,xs[j]?=some kv/\ys[j]?=some x.2/\knd.is x.1 kv=true)(q:∀h' tk,(∀b o,b≠z->b≠TO->b≠i1->b≠i2->s.heap.get? b=some o->h'.get? b=some o)->h'.DictOf knd s.heap.objs.size (ks.foldl (λa y=>stored a y.1 y.2) [])->Q (.ref s.heap.objs.size) {s with heap:=h',toks:=tk}):gl (im prog w) A (call (.type "dict") [.ref z]) Q E s:=by
 refine callType_codes (Q₁:=λobj s₁=>obj=.ref s.heap.objs.size/\s₁={s with heap:=s.heap.push {cls:=.type "dict",data:=.dict #[]}}) F.kt_called_dict (F.kt_typeCall_dict_1 _) F.entry_dict_init (kt_code_dict_new _ ⟨rfl,rfl⟩) ?_;rintro obj s₁ ⟨rfl,rfl⟩;have XA:∀b o,s.heap.get? b=some o->(s.heap.push {cls:=.type "dict",data:=.dict #[]}).get? b=some o:=λb o e=>Aj _ e;have HQ:(s.heap.push {cls:=.type "dict",data:=.dict #[]}).DictOf knd s.heap.objs.size []:=Heap.DictOf.new s.heap;have ls:∀{b o},s.heap.get? b=some o->b≠s.heap.objs.size:=λ{b o} e z=>by subst z;exact AE _ (Ao e)
 refine⟨HQ.typeIs,F.args_dict_init_2 _ _,?_⟩;unfold ul.«dict.__init__»;refine Aa ?_;unfold Builtin.Dict.selfAndRest;refine Aa (DW HQ.typeIs ?_);show gl _ _ (pure (s.heap.objs.size,[Aw z])) _ _ _;refine Af ?_;show gl _ _ (Builtin.Dict.updateFrom "dict.__init__" s.heap.objs.size (.ref z) [] .none) _ _ _;unfold Builtin.Dict.updateFrom;refine Aa (Ep (T:="zip") ⟨_,XA _ _ hz.zip,rfl⟩ ?_);rw[if_pos ⋯];refine Aa (o7 (XA _ _ hz.zip) GA (by decide +kernel) hA (λff tk e nx=>?_) ⋯);rw[if_pos (by rfl)];have yH:∀b o,s.heap.get? b=some o->ff.get? b=some o:=λb o e=>nx.keeps _ _ (XA _ _ e);refine Aa (CV (Aa ?_));refine E8 (yH _ _ hz.zip) ?_;refine Af ⟨wE bB _,?_⟩;obtain⟨ta,tb,VO⟩:=hz.to;obtain⟨o1,e1⟩:=hz.O0.some;obtain⟨o2,e2⟩:=hz.OZ.some;have l1:a1≠s.heap.objs.size:=AA h1.lt;have l2:a2≠s.heap.objs.size:=AA h2.lt;refine xK (A:=A.in1) (knd:=knd) hA hP ⟨ls hz.ti,ls VO,ls hz.zip,ls e1,ls e2⟩ l1 l2 hsz ks 0 [] _ ∅ (Al _)
  (.inl ⟨yH _ _ hz.zip,yH _ _ hz.ti,⟨ta,tb,yH _ _ VO⟩,hz.O0.move λo e=>yH _ _ e,hz.OZ.move λo e=>yH _ _ e⟩) (h1.move λo e=>yH _ _ e) (h2.move λo e=>yH _ _ e) ?_ (λj x hj=>by rw[A7];exact hp j x hj) (λh' T6 dd k=>?_)
 .obtain⟨o1,es,ep,g1,g2⟩:=HQ;exact⟨o1,es,ep,nx.keeps _ _ g1,g2⟩
 .exact⟨rfl,q h' T6 (λb o n1 n2 n3 n4 e=>k b o n1 n2 n3 n4 (ls e) (yH _ _ e)) dd⟩
end
def tDZ(K:Ab)(t1 t2:TE):TE:=λσ H Q=>t1 σ H λx H1=>t2 σ H1 λy H2=>∃(b1 b2:Bool) (a b:f8) (ks:O Key) (ws:O V),x=.ref a/\y=.ref b/\MK b1 K H2 a (ks.map kV)/\MK b2 K H2 b ws/\ks.length=ws.length/\ks.length<=1000/\iW H2 (.dK (fW [] (ks.zip ws))) Q
theorem wQ:∀(zs a:O (Key×V)),(fW a zs).length<=a.length+zs.length
 |[],a=>by simp[fW]
 |z::zs,a=>by
  have:=wQ zs (putK a z.1 z.2);have:=Qq (kvs:=a) (k:=z.1) (v:=z.2);have e:fW a (z::zs)=fW (putK a z.1 z.2) zs:=rfl;rw[e,Ax];lia
theorem QO(K:Ab)(hK:X.K=K)(hc:X.calm=true){t2:TE}{p2:Pos}(Ŕ:Gl X "dict")(Ŏ:X.mg "dict"=ci)(hg:Gl X "zip")(hm:X.mg "zip"=ci)(h1:PE X e1 t1)(h2:PE X e2 t2)(hs:‹gt [.Call (.Name "zip" p1) [e1,e2] [] p2] X.env=(false,pc (.Call (.Name "zip" p1) [e1,e2] [] p2) X.env)::gt [] X.env›)(mq:‹gt [e1,e2] X.env=(false,pc e1 X.env)::gt [e2] X.env›)(q8:‹gb X e2 []›)(du:‹(t0 p2 (gt [e2] X.env)).any (·.1)=false›):PE X (.Call (.Name "dict" p) [.Call (.Name "zip" p1) [e1,e2] [] p2] [] pos) (tDZ K t1 t2):=by
 subst hK;intro U s σ H Q I h;refine Br (fc I Ŕ Ŏ boot_dict ?_ ⋯ ⋯);refine A8 ?_ hs rfl;rw[hs];refine Bl ?_;refine Br (fc I hg hm boot_zip ?_ ⋯ ⋯);refine A8 ?_ mq du;rw[mq,q8];refine Bl (bE (h1 U s σ H _ I h) λu1 s1 ⟨x,H1,I1,r1,q1⟩=>?_);refine Bl (bE (h2 U s1 σ H1 _ I1 q1) λu2 s2 ⟨y,H2,I2,r2,b1,b2,a,b,ks,ws,ex,ey,hx,hy,hl,Tv,q⟩=>BN ?_);subst ex;subst ey;cases r1;cases r2;obtain⟨ao,rx,tx,_⟩:=I2.W0 hx;obtain⟨cq,ry,ty,_⟩:=I2.W0 hy;have l1:=tx.lt;have l2:=ty.lt;have c1:=rx.length;have c2:=ry.length;rw[Ai]at c1;refine xv tx ty λh' zt k=>BN ?_;have dd:∀i j:Nat,i≠j->s2.heap.objs.size+i≠s2.heap.objs.size+j:=λi j n e=>n (Nat.add_left_cancel e);have na:∀i:Nat,a≠s2.heap.objs.size+i:=λi=>AA (Az l1 (A5 _ _));have nb:∀i:Nat,b≠s2.heap.objs.size+i:=λi=>AA (Az l2 (A5 _ _));have hP:Db (s2.heap.objs.size+4) (s2.heap.objs.size+2) (s2.heap.objs.size+3) s2.heap.objs.size (s2.heap.objs.size+1) a b:=
  ⟨dd 2 4 ⋯,dd 3 4 ⋯,dd 0 4 ⋯,dd 1 4 ⋯,dd 2 3 ⋯,dd 2 0 ⋯,dd 2 1 ⋯,dd 3 0 ⋯,dd 3 1 ⋯,dd 0 1 ⋯,na 4,na 3,na 0,na 1,nb 4,nb 3,nb 0,nb 1⟩
 have Õ:∀(ks:O Key) (ws:O V) (ao cq:O cr),ks.length=ws.length->Vals (ks.map kV) ao->Vals ws cq->∃ys:O (Key×cr),KV (ks.zip ws) ys/\ys.length=ao.length/\∀(j:Nat) (x:Key×cr),ys[j]?=some x->∃kv,ao[j]?=some kv/\cq[j]?=some x.2/\(bo X.prog X.w).is x.1 kv=true:=by
  intro ks
  induction ks with
  |nil=>
   intro ws ao cq hl r1 r2;cases r1;exact⟨[],by rw[List.zip_nil_left];exact .nil,rfl,λj x h=>by simp at h⟩
  |cons k0 ks ih=>
   intro ws ao cq hl r1 r2;cases r2 with
   |nil=>cases hl
   |cons ru rus=>
   cases r1 with
   |cons rk rks=>
   obtain⟨ys,e1,e2,e3⟩:=ih _ _ _ (by simpa using hl) rks rus;refine⟨(k0,_)::ys,.cons ⟨rfl,ru⟩ e1,by simp[e2],λj x hj=>?_⟩;cases j with
   |zero=>cases hj;exact⟨_,rfl,rfl,um rk⟩
   |succ j=>exact e3 j x hj
 obtain⟨ys,e1,e2,e3⟩:=Õ ks ws ao cq hl rx ry;have ŉ:(1000:Nat)+1000<=sizeLine:=by decide
 refine v8 (knd:=bo X.prog X.w) (ks:=ys) (I2.ok.hd hc) hP zt (tx.move λo e=>k _ _ e) (ty.move λo e=>k _ _ e) (by rw[Am];lia) (by rw[Am];lia) (λj x hj=>?_) (λh2 tk kp dd=>?_)
 .obtain⟨kv,g1,g2,g3⟩:=e3 j x hj;exact⟨kv,by rw[C1];exact g1,by rw[C1];exact g2,g3⟩
 .have Î:s2.heap.objs.size<=h'.objs.size:=Et (Nat.lt_of_le_of_lt (A5 _ 4) (Ao zt.zip));have lt:∀{b o},s2.heap.get? b=some o->∀i:Nat,b≠s2.heap.objs.size+i:=λ{b o} e i=>AA (Az (Ao e) (A5 _ _));have I3:=I2.kept (t':=s2.toks) k;have aiI:(h'.objs.size==u8)=false:=beq_eq_false_iff_ne.mpr (Bt (AA I3.big));refine⟨.ref h'.objs.size,_,I2.laid (t':=tk) (λb o e=>kp b o (lt e 4) (lt e 3) (lt e 0) (lt e 1) (k _ _ e)) Î (show br X.prog X.w (upd H2 h'.objs.size (.dK (fW [] (ks.zip ws)))) h2 _ (.dK _) from⟨?_,aiI,_,KV.merge e1 .nil,dd⟩),rfl,q.at _ (I2.ba.fresh Î)⟩;have:=wQ (ks.zip ws) [];rw[FJ]at this;simp only[Ei]at this;lia
end L2
variable{m:O PL.PV}
namespace FL
section
variable[bL]
variable{K:Ab}
section
variable{a b c:nw}{p2:Pos}{wm:W (O PV)}
def KS(l m:O PV):W PV:=⟨λQ=>∃ks:O Key,l=ks.map kP/\ks.Nodup/\l.length=m.length/\l.length<=1000/\Q (qB (ks.zip m)),λf q=>q.imp λks h=>⟨h.1,h.2.1,h.2.2.1,h.2.2.2.1,f _ h.2.2.2.2⟩⟩
theorem Wq(hK:X.K=K)(hc:X.calm=true)(Ŕ:Gl X "dict")(Ŏ:X.mg "dict"=ci)(hg:Gl X "zip")(hm:X.mg "zip"=ci)(ha:IF X K fs a wl)(hb:IF X K fs b wm)(hs:‹gt [.Call (.Name "zip" p1) [a,b] [] p2] X.env=(false,pc (.Call (.Name "zip" p1) [a,b] [] p2) X.env)::gt [] X.env›)(mq:‹gt [a,b] X.env=(false,pc a X.env)::gt [b] X.env›)(q8:‹gb X b []›)(du:‹(t0 p2 (gt [b] X.env)).any (·.1)=false›):DVF X K fs (.Call (.Name "dict" p) [.Call (.Name "zip" p1) [a,b] [] p2] [] pos) (.bind wl λl=>.bind wm λm=>KS l m):=
 ⟨PE.imp (QO K hK hc Ŕ Ŏ hg hm ha.p hb.p hs mq q8 du) λσ H Q ⟨sr,q⟩=>⟨sr,wl.mono (λl q1 u1 H1 g1 s1 v1=>⟨s1,wm.mono (λm q2 u2 H2 g2 s2 v2=>by
  obtain⟨b1,a1,vs,rfl,r1,x1⟩:=LK (v1.tk (g2.cB s1));obtain⟨b2,a2,ws,rfl,r2,x2⟩:=LK v2;obtain⟨ks,rfl,nd,hl,XU,q3⟩:=q2;have:=HH r1;subst this;have hw:=r2.length;rw[Ai]at hl XU;have tr:bb K H2 H2:=bb.refl H2;have ő:ks.length=ws.length:=by lia
  have em:fW [] (ks.zip ws)=ks.zip ws:=wO _ [] (by rw[FI,Fe ∅];exact nd);refine⟨b1,b2,a1,a2,ks,ws,rfl,rfl,x1 H2 tr,x2 H2 tr,ő,XU,λp H3 s3 h3 n3=>?_⟩;rw[em]at h3;refine q3 _ _ H3 ((g1.trans g2).trans (bR.same s3)) (s2.same s3) ((g1.trans g2).there _ n3) h3 (.inl ⟨_,_,rfl,rfl,?_,?_⟩)
  .rw[Fe ∅,Fe ∅]
  .rw[Fd ∅,Fd ∅];exact ax.tk s3.d7 r2) q1⟩) q⟩⟩
def Ow{ks:O Key}{Q:PV->Prop}(nd:ks.Nodup)(hl:ks.length=m.length)(h:ks.length<=1000)(q:Q (qB (ks.zip m))):(KS (ks.map kP) m).run Q:=⟨ks,rfl,nd,by rw[Ai];exact hl,by rw[Ai];exact h,q⟩
def ah3(x:PV):Prop:=∃kvs,x=qB kvs/\kvs≠[]
def ai6(d y z:PV):W PV:=⟨λQ=>∃r,vd d y r/\Q (r.getD z),λf ⟨v,a,q⟩=>⟨v,a,f _ q⟩⟩
def aa6(wa wb wc:W PV):W PV:=.bind wa λx=>.dm (ah3 x) (.bind wb λy=>.bind wc λz=>ai6 x y z)
theorem V9(hu:X.A.units+200 < sn)(ha:EF X K fs a wa)(hb:EF X K fs b wb)(hc:EF X K fs c wc)(m1:‹pr a "get" X.env (pc a X.env)=pc a X.env›)(m2:‹((t0 pos (gt [b,c] X.env)).all (λx=>!x.1)&&(IR pos (wT [] X.env)).all (λx=>x.1.isSome)&&decide (([b,c]:O nw).length+([]:O Sc).length+(if ([]:O Sc).isEmpty then 0 else 1) < 30))=true›)(m3:‹MR À pos›)(m4:‹t0 pos (gt [b,c] X.env)=[(false,pc b X.env),(false,pc c X.env)]›):EF X K fs (.Call (.Attribute a "get" À) [b,c] [] pos) (aa6 wa wb wc):=
 ⟨PE.imp (QQ ∅ ha.p hb.p hc.p ⟨m1,m2,m3,m4⟩) λσ H Q ⟨sr,q⟩=>⟨sr,wa.mono (λx q1 u1 H1 g1 s1 v1=>by
  obtain⟨⟨kvs,rfl,h0⟩,q1⟩:=q1;obtain⟨ad,o,vs,rfl,e,dr⟩:=Ji h0 v1;refine⟨ad,rfl,.inl ⟨vs,.inr ⟨o,e⟩⟩,s1,wb.mono (λy q2 u2 H2 g2 s2 v2=>⟨s2,wc.mono (λz q3 u3 H3 g3 s3 v3=>?_) q2⟩) q1⟩;obtain⟨r,g,q3⟩:=q3;have Ā:=(g2.trans g3).vr s1 v1;have ķ:=g3.vr s2 v2;obtain⟨ad',o',ea,_,dg,hn,hs⟩:=g.ok Ā ķ;cases ea;refine⟨o',dg,?_⟩;cases r with
  |none=>rw[hn rfl];exact q3 _ H3 ((g1.trans g2).trans g3) s3 v3
  |some v=>obtain⟨w',rfl,vw⟩:=hs v rfl;exact q3 _ H3 ((g1.trans g2).trans g3) s3 vw) q⟩⟩
end
end
section
variable[bL]
variable{K:Ab}
def acJ(K:Ab)(m:O (Key×PV)->O PV->W (O (Key×PV))):Sp:=λvs H Q _=>TB H/\∃a Pe ks kvs l,vs=.ref a::Pe/\H a=some (.dK ks)/\bX K H ks kvs/\ax K [] H Pe l/\(m kvs l).run λt=>∀NF,bX K (upd H a (.dK NF)) NF t->Q .aB (upd H a (.dK NF))
section
variable{rest:O wn}{T:Type}{out:T->End}{x:Bool}{w2:W PV}{f:Str}
theorem SF.zN(i:Nat){m:O (Key×PV)->IZ (O (Key×PV)) 2}{kt:O (Key×PV)->W T}(G:O9 X.prog X.w X.K X.mg X.base f k ps (acJ K λkv l=>vo 2 (m kv) l))(hr:dG k' X.A)(hs:fs[i]?=some (some (.od kvs)))(hN:X.N[i]?=some y)(hv:v9 X.env.scope y)(h1:EF X K fs e1 w1)(h2:EF X K fs e2 w2)(RM:∀l',SF X K x (fs.set i (some (.od l'))) rest (kt l') out)(hk:k<=k':=by first|exact Cv rfl|exact Al _|lia)(hg:‹Gl X f›)(kU: ~~~(gZ f))(Đ: ~~~(gZ y))(gU: ~~~(xF y))(he:‹gt [.Name y py,e1,e2] X.env=(false,pc (.Name y py) X.env)::gt [e1,e2] X.env›)(he1:‹gt [e1,e2] X.env=(false,pc e1 X.env)::gt [e2] X.env›)(ç:‹gb X e2 []›)(du:‹(t0 a9 (gt [e1,e2] X.env)).any (·.1)=false›)(mn:‹o0 (.Call (.Name f p) [.Name y py,e1,e2] [] a9) ci pos.line X.env=pure false›):SF X K x fs (.Expr (.Call (.Name f p) [.Name y py,e1,e2] [] a9) pos::rest) (.bind w1 λu=>.bind w2 λv=>.bind (m kvs u v) kt) out:=
 SF.step (hU (ye G hr hk hg (aJ (cX hN hv Đ gU) (aJ h1.p (aJ h2.p bj ç) he1) he) kU he du) mn) λD σ H ⟨sr,q⟩=>by
  obtain⟨a,ks,ea,ha,ra⟩:=oq sr hs;refine⟨_,ea,sr,w1.mono (λu q1 u1 H1 g1 s1 v1=>⟨s1,w2.mono (λv q2 u2 H2 g2 s2 v2=>?_) q1⟩) q⟩;obtain⟨a',NF,ea',ha',ra'⟩:=oq s2 hs;rw[ea]at ea';cases ea';refine⟨s2.tb,a,_,NF,kvs,[u,v],rfl,ha',ra',.cons (g2.vr s1 v1) (.cons v2 .nil),(m kvs u v).mono (λt q3 ks2 r2=>?_) q2⟩;have sx:jq a H2 (upd H2 a (.dK ks2)):=λz o n hz=>by rw[aj n];exact hz
  obtain⟨s3,g3⟩:=gJ (t':=.od t) s2 hs rfl (by simp) ea sx λtk=>⟨_,ay,r2.1,r2.2⟩;exact⟨_,kt t,RM t,s3,(kt t).mono (λt q4=>q4.go ((g1.trans g2).f.trans g3) sr s3) q3⟩
def Mt:∀{a b:O (Key×PV)},qB a=qB b->a=b:=by
 have kI:∀{k k':Key},kP k=kP k'->k=k':=λ{k k'} h=>by
  cases k<;>cases k'<;>first|(injection h with h;rw[h])|cases h
 have key:∀(a b:O (Key×PV)),a.map (λkv=>kP kv.1)=b.map (λkv=>kP kv.1)->a.map (·.2)=b.map (·.2)->a=b:=by
  intro a
  induction a with
  |nil=>intro b h _;cases b with|nil=>rfl|cons _ _=>cases h
  |cons x a ih=>
   intro b h1 h2;cases b with
   |nil=>cases h1
   |cons y b=>
    injection h1 with h1 h3;injection h2 with h2 h4;rw[ih b h3 h4,Prod.ext (kI h1) h2]
 intro a b h;unfold qB at h;injection h with h1 h2;exact key a b h1 h2
def Ph(v:PV):W (O (Key×PV)):=.dm (∃kvs,v=qB kvs/\kvs≠[]) (.any λkvs=>v=qB kvs)
def T3{kvs:O (Key×PV)}(h:kvs≠[]){Q:O (Key×PV)->Prop}(q:Q kvs):(Ph (qB kvs)).run Q:=⟨⟨kvs,rfl,h⟩,λl e=>by rw[<- Mt e];exact q⟩
def SF.acN{kt:O (Key×PV)->W T}(hN:X.N.Nodup)(hi:X.N[i]?=some y)(hx:Loc X.env.scope y)(he:DVF X K fs e we)(hr:∀l,SF X K x (fs.set i (some (.od l))) rest (kt l) out)(hs:‹o0 e (some (.Name y p)) pos.line X.env=pure false›)(hf:MP X y:=by first|exact .inl rfl|exact .inr rfl|assumption):SF X K x fs (.Assign [.Name y p] e pos::rest) (.bind we λv=>.bind (Ph v) kt) out:=SF.step (ir hN hi hx he.p hs hf) λD σ H ⟨sr,q⟩=>⟨sr,we.mono (λv q1 a ob H1 g1 s1 n1 e1 d1=>by
 obtain⟨⟨kvs,ek,yW⟩,q2⟩:=q1;have no:=sr.noOwn n1;have q3:=q2 kvs ek;rcases d1 with⟨vs,kv2,rfl,e2,d2⟩|⟨vs,kv2,rfl,e2,d2⟩
 .have ee:=Mt (ek.symm.trans e2);subst ee;have s2:=s1.mU (t:=.od kvs) ⟨vs,e1,d2.1,d2.2⟩ no i;exact⟨_,kt kvs,hr kvs,s2,(kt kvs).mono (λt q4=>q4.go (cn.mU s1 g1 no n1 i) sr s2) q3⟩
 .exfalso;rw[ek]at e2;unfold qB O6 at e2;injection e2 with e3 _;cases kvs with
  |nil=>exact yW rfl
  |cons x r=>
   cases kv2 with
   |nil=>cases e3
   |cons z r'=>
    injection e3 with e3 _;obtain⟨kk,vv⟩:=x;cases kk<;>cases e3) q⟩
end
end
section
variable[bL]
variable{K:Ab}
section
end
section
variable{rest:O wn}{GL:Pos}{T:Type}{out:T->End}{x:Bool}{w:W PV}
def zf(ls:O (O PV))(v:PV):W PV:=.dm (∀l∈ls,PV.free l v) (.ret v)
theorem SG(i:Nat)(hK:X.K=K)(hs:fs[i]?=some (some (.qO bs ls)))(h:EF X K (fs.set i (some (.ol ci (ls.map PV.cl)))) e w):EF X K fs e (.bind w (zf ls)):=⟨λU s σ H Q I ⟨sr,q⟩=>by
 obtain⟨a,e1,q1,q2,q3,q4,q5⟩:=fF sr hs;obtain⟨H',I2,s2,gf,_,í⟩:=ae6 I sr hs;refine bE (h.p U s σ _ (λu H1=>∃v,bR σ (fs.set i (some (.ol ci (ls.map PV.cl)))) H' H1/\aQ K H1 σ (fs.set i (some (.ol ci (ls.map PV.cl))))/\VR K [] H1 u v/\(∀l∈ls,PV.free l v)/\∀u H',bR σ fs H H'->aQ K H' σ fs->VR K [] H' u v->Q u H') I2 ⟨s2,w.mono (λv q1 u H1 g1 s1 v1=>⟨v,g1,s1,v1,q1.1,q1.2⟩) q⟩) λu s1 ⟨x,H1,I1,r1,v,g1,Ut,v1,d,q1⟩=>?_;obtain⟨H2,I3,g3,s3,_,_,ho,fP⟩:=í σ s1 H1 I1 g1 Ut;have hb:∀p o,K.lookup p=some o->H1 p=ci:=λp o z=>by
  subst hK;exact(I1.bs p o (I1.ok.mod.kin p o z)).2
 exact⟨x,_,I3,r1,q1 x _ g3 s3 (VR.jJ (H:=H) hb ho (λp hp=>by
  obtain⟨ob,ws,h0,_,h1⟩:=fP p hp;obtain⟨j,hj⟩:=CG hp;have kT:=(Ag.mp hj).1;have hl:ls[j]?=some (ls[j]'∅):=Ad ∅;have hm:=AJ hl;generalize ls[j]'∅=l at hl hm;obtain⟨rE,k1,k2⟩:=q5 j p l hj hl;rw[h0]at k1;cases k1;exact⟨ob,ws,l,hm,h1,ax.tk (g1.cB s2) (ax.tk (gf.cB sr) k2)⟩) v1 d)⟩⟩
theorem SF.S5(i:Nat){k:O (O PV)->W T}(hs:fs[i]?=some (some (.qO bs ls)))(hK:X.K=K)(hN:X.N[i]?=some y)(hv:v9 X.env.scope y)(h1:EF X K fs e1 w1)(he:EF X K fs e we)(xc:z9 e1)(hr:∀ZM,SF X K x (fs.set i (some (.qO bs ZM))) rest (k ZM) out)(hd: ~~~(gZ y))(gU: ~~~(xF y))(cH:‹pr (.Subscript (.Name y p) e1 GL) "append" X.env (pc (.Subscript (.Name y p) e1 GL) X.env)=pc (.Subscript (.Name y p) e1 GL) X.env›)(jH:‹WK X a9 [e]›)(cG:‹MR À a9›)(o5:‹gb X e []›)(cg:‹km X a9 []›)(mn:‹o0 (.Call (.Attribute (.Subscript (.Name y p) e1 GL) "append" À) [e] [] a9) ci pos.line X.env=pure false›):SF X K x fs (.Expr (.Call (.Attribute (.Subscript (.Name y p) e1 GL) "append" À) [e] [] a9) pos::rest) (.bind w1 λn=>.bind (aad ls n) λjl=>.bind we λv=>.bind (jo jl.2 v) λl'=>.bind (.ret (ls.set jl.1 l')) k) out:=
 SF.step (hU (jy K hK Bm Dn Dm m7 (fB (bW K hK) (cX hN hv hd gU) h1.p xc) (aJ he.p bj o5) cH jH cG o5 cg) mn) λD σ H ⟨sr,q⟩=>by
  obtain⟨a,k7,q1,q2,q3,q4,q5⟩:=fF sr hs;refine⟨_,k7,sr,w1.mono (λn qn u2 H2 g2 s2 v2=>?_) q⟩;obtain⟨a2,ì,r1,r2,r3,r4,r5⟩:=fF s2 hs;rw[k7]at ì;cases ì;cases v2 with
  |int kk=>
   have qn:(W.Nt ((nQ ls.length kk).bind λj=>(ls[j]?).map λl=>(j,l))).run _:=qn;cases hj:nQ ls.length kk with
   |none=>rw[hj]at qn;exact qn.elim
   |some j=>
    have jl:=(oW hj).2.1;have hl:ls[j]?=some ls[j]:=Ad jl;rw[hj]at qn;simp only[Option.bind_some]at qn;rw[hl]at qn;have qn:(am we λv=>.bind (jo ls[j] v) λl'=>.bind (.ret (ls.set j l')) k).run _:=qn;have hb:bs[j]?=some (bs[j]'∅):=Ad ∅;generalize bs[j]'∅=b at hb;generalize ls[j]=l at hl qn;have hix:d5 (bs.map V.ref) kk=some (.ref b):=by
     unfold d5;rw[Ai,r4,hj];show(bs.map V.ref)[j]?=_;rw[Ah,hb];rfl
    obtain⟨Yw,f0,_⟩:=r5 j b l hb hl;refine .inl ⟨a,_,kk,.ref b,rfl,rfl,bM.of r1,hix,.inl ⟨rfl,_,bM.of f0⟩,s2,we.mono (λv qv u H3 g3 s3 v3=>?_) qn⟩;obtain⟨a3,e3',p1,p2,p3,p4,p5⟩:=fF s3 hs;rw[k7]at e3';cases e3';obtain⟨ws,f1,f2⟩:=p5 j b l hb hl;refine⟨b,ws,u,rfl,rfl,f1,by rw[f2.length];exact qv.1,λH4 sx h4=>?_⟩;have Ĕ:=AJ hb;have ab:a≠b:=λz=>p2 (z▸Ĕ);obtain⟨s4,g4⟩:=qN (t':=.qO bs (ls.set j (l++[v]))) s3 hs rfl (by simp) k7 (c:=b) (.inr Ĕ) (.inr Ĕ) (λc h=>h) rfl sx λtk=>by
     refine⟨sx a _ ab p1,p2,p3,by simp[p4],λj' b' l' m1 m2=>?_⟩;by_cases c:j'=j
     .subst c;rw[hb]at m1;cases m1;rw[B2 ∅]at m2;cases m2;exact⟨_,h4,ax.tk tk (f2.append (.one v3))⟩
     .rw[Bq (Bt c)]at m2;obtain⟨rE,z1,z2⟩:=p5 j' b' l' m1 m2;refine⟨rE,sx b' _ (λy=>?_) z1,ax.tk tk z2⟩;subst y;have h1:=Ag.mp hb;have h2:=Ag.mp m1;exact c ((D5 p3).mp (h2.2.trans h1.2.symm))
    exact⟨_,k _,hr _,s4,(k _).mono (λt q4=>q4.go ((g2.trans g3).f.trans g4) sr s4) qv.2⟩
  |_=>exact qn.elim
end
end
section
variable[bL]
def iu(kvs:O (Key×PV)):PV->PV->W (O (Key×PV))
 |.int n,.int c=>match g9 kvs (.inl n) with
  |none=>.dm (kvs.length<sizeLine) (.ret (mT kvs (.inl n) (.int c)))
  |some (.int d)=>if c<d then .dm (kvs.length<sizeLine) (.ret (mT kvs (.inl n) (.int c))) else .ret kvs
  |some _=>.fail
 |_,_=>.fail
variable{K:Ab}{w:W PV}
def SE(i:Nat)(hK:X.K=K)(hs:fs[i]?=some (some (.qO bs ls)))(h:EF X K (fs.set i (some (.val (.cl (ls.map PV.cl))))) e w):EF X K fs e (.bind (.bind w (xh (ls.map PV.cl))) (zf ls)):=by
 have hi:i<fs.length:=(Ag.mp hs).1;have h1:=SD (q0:=ci) (l:=ls.map PV.cl) (fs:=fs.set i (some (.ol ci (ls.map PV.cl)))) (e:=e) (w:=w) i hK (aW hi) (fs1:=fs.set i (some (.val (.cl (ls.map PV.cl))))) (by rw[List.set_set];exact h);rw[List.set_set]at h1;exact SG i hK hs h1
end
end FL
namespace L2
section
variable{σ:St}{kvs:O (Key×V)}
def NK{k:Key}{v:cr}(h:qV k v=true):RelV (kV k) v:=by
 rcases bI h with⟨i,t,rfl,rfl⟩|⟨x,t,rfl,rfl⟩
 .exact⟨t,rfl⟩
 .exact⟨t,rfl⟩
def pairs_at{es:O DictEntry}{vs:O (Key×cr)}(h:Pairs (bo P w) es vs):es.length=vs.length/\∀(i:Nat) (e:DictEntry),es[i]?=some e->∃kv,vs[i]?=some kv/\qV kv.1 e.key=true:=by
 induction h with
 |nil=>exact⟨rfl,λi e h=>by simp at h⟩
 | @cons e kv es vs h1 h2 t ih=>
  refine⟨by simp[ih.1],λi e' h=>?_⟩;cases i with
  |zero=>cases h;exact⟨kv,rfl,h1⟩
  |succ i=>exact ih.2 i e' (by simpa using h)
def afg(a:f8)(o:Obj):It:=
 ⟨λi H=>∃kvs,H a=some (.bA o (.dK kvs))/\i<kvs.length,λi H x H'=>H'=H/\∀kvs,H a=some (.bA o (.dK kvs))->∃k v,x=kV k/\kvs[i]?=some (k,v),λi H=>∃kvs,H a=some (.bA o (.dK kvs))/\kvs.length<=i⟩
theorem Mk{H:Hp}{a:f8}{o:Obj}{kvs:O (Key×V)}{es:Array DictEntry}(x:br P w H h a (.bA o (.dK kvs)))(hd:o.data=.dict es ep):Tc h a es ep/\es.size=kvs.length/\∀(i:Nat) (hi:i<es.size),∃k v,RelV (kV k) es[i].key/\kvs[i]?=some (k,v):=by
 obtain⟨e,z,hs,vs,r,o',Ę,ę,h1,h2,h3,h4,h5,h6⟩:=x;rw[e]at h1;cases h1;rw[hd]at h3;cases h3;obtain⟨hl,hp⟩:=pairs_at h5;have Tv:kvs.length=vs.length:=Paired.length r;refine⟨⟨o,e,h2,hd⟩,by have:es.size=es.toList.length:=(by simp);lia,λi hi=>?_⟩
 obtain⟨kv,k1,k2⟩:=hp i es[i] (by rw[C2,Cw hi]);have pg:∀{l:O (Key×V)}{m:O (Key×cr)}{i:Nat}{q:Key×cr},KV l m->m[i]?=some q->∃v,l[i]?=some (q.1,v):=by
  intro l m i q t
  induction t generalizing i with
  |nil=>intro h;simp at h
  | @cons p q' ps qs hq t ih=>
   intro h;cases i with
   |zero=>
    cases h;obtain⟨p1,p2⟩:=p;have e1:=hq.1;subst e1;exact⟨p2,rfl⟩
   |succ i=>exact ih (by simpa using h)
 obtain⟨v,g1⟩:=pg r k1;exact⟨_,v,NK k2,g1⟩
theorem Jo{K:Ab}(a it:f8)(o:Obj){es:Array DictEntry}(hd:o.data=.dict es ep):Turn P w K tg (afg a o) [it] it (λi h=>h.IsKeyIter it a i es.size ep) where
 mem:=by simp
 obj:=λi h st b hb=>by
  have e:b=it:=by simpa using hb
  subst e;obtain⟨o,e,c,d⟩:=st;exact⟨o,e,λv z=>by rw[d]at z;cases z⟩
 keep:=λi h h' st k=>st.at λo e=>k it (by simp) o e
 item:=by
  intro X hP hw hK hc i U s σ H E I hf st hg;obtain⟨kvs,hq,hx⟩:=hg;obtain⟨Ý,hl,ky⟩:=Mk (I.ba a _ hq) hd;obtain⟨k,v,k1,k2⟩:=ky i ∅;obtain⟨f0,f1,f2,f3,f4,f5⟩:=hf it (by simp);refine Ho st Ý ∅ λh' pW sb=>?_;obtain⟨oi,e,c,d⟩:=id pW;refine⟨_,rfl,xg e c d ⋯ ⟨kV k,H,(I.turned (λb o hb e=>(sb.2 b hb).trans e) f0 f1 f3 f4 f5),k1,⟨rfl,λVv ä=>?_⟩,pW,λb hb=>(hf b hb).1⟩⟩;rw[hq]at ä;cases ä;exact⟨k,v,rfl,k2⟩
 done:=by
  intro X hP hw hK hc i U s σ H E I hf st hg;obtain⟨kvs,hq,hx⟩:=hg;obtain⟨Ý,hl,ky⟩:=Mk (I.ba a _ hq) hd;obtain⟨f0,f1,f2,f3,f4,f5⟩:=hf it (by simp);exact Mr (I.ok.hd hc) st Ý ∅ λh' eb=>⟨rfl,I.turned (t':=s.toks) (λb o hb e=>eb b o hb e) f0 f1 f3 f4 f5⟩
 self:=λ_ _ _ _ _ st h=>wpAny_pyIter_keyiter st h
def aar(tl:TE):TI:=λσ H R=>tl σ H λx H1=>∃a o,x=.ref a/\((∃kvs,H1 a=some (.bA o (.dK kvs))/\R (afg a o) H1)\/∃kvs,H1 a=some (.bA o (.dT kvs))/\R (abq a o) H1)
def QI{X:Cx}{l:nw}(hl:PE X l tl):PI X tg l (aar tl):=by
 intro U s σ H R I h;refine bE (hl U s σ H _ I h) λv s1 ⟨x,H1,I1,r1,q1⟩=>?_;obtain⟨a,o,e,q⟩:=q1;subst e;cases r1;rcases q with⟨kvs,hq,q⟩|⟨kvs,hq,q⟩
 .obtain⟨eo,z,hs,xs,r,o',es,ep,h1,h2,h3,h4,h5⟩:=(I1.ba a _ hq);rw[eo]at h1;cases h1;refine uo hs ⟨o,eo,h2,h3⟩ ?_;refine⟨s1.heap.objs.size,[s1.heap.objs.size],_,_,H1,rfl,I1.kept λb o e=>Aj _ e,Jo a _ o h3,⟨_,An _ rfl,rfl,rfl⟩,λb hb=>?_,q⟩;have e:b=s1.heap.objs.size:=by simpa using hb
  subst e;exact I1.uD (Al _) (I1.ba.fresh (Al _))
 .obtain⟨eo,z,hs,xs,r,o',es,ep,h1,h2,h3,h4,h5⟩:=(I1.ba a _ hq);rw[eo]at h1;cases h1;refine uo hs ⟨o,eo,h2,h3⟩ ?_;refine⟨s1.heap.objs.size,[s1.heap.objs.size],_,_,H1,rfl,I1.kept λb o e=>Aj _ e,wx a _ o h3,⟨_,An _ rfl,rfl,rfl⟩,λb hb=>?_,q⟩;have e:b=s1.heap.objs.size:=by simpa using hb
  subst e;exact I1.uD (Al _) (I1.ba.fresh (Al _))
end
end L2
variable{Q:O PL.PV->Prop}
namespace FL
section
variable[bL]
variable{K:Ab}{w:W PV}
def nh(d:PV):W (O PV):=⟨λQ=>∃kvs:O (Key×PV),d=qB kvs/\kvs.length<=sizeLine/\Q (kvs.map λkv=>kP kv.1),λf q=>q.imp λkvs h=>⟨h.1,h.2.1,f _ h.2.2⟩⟩
def Z7(k:Key):VR K ι H (kV k) (kP k):=by cases k with|inl i=>exact .int i|inr x=>exact .str x
theorem oX(h:EF X K fs e w):mR X K fs tg e (.bind w nh):=⟨PI.imp (QI h.p) λσ H R ⟨sr,q⟩=>⟨sr,w.mono (λx q1 u1 H1 g1 s1 v1=>by
 obtain⟨kvs,rfl,hl,q1⟩:=q1;have hh:∃a o,u1=.ref a/\((∃vs,H1 a=some (.bA o (.dK vs))/\bX K H1 vs kvs)\/kvs=[]/\H1 a=some (.bA o (.dT []))):=by
  by_cases c:kvs=[]
  .subst c;cases v1 with
   | @dk a o vs _ _ e k r=>
    cases vs with
    |nil=>exact⟨a,o,rfl,.inl ⟨[],e,rfl,.nil⟩⟩
    |cons x l=>simp at k
   | @dt a o vs _ _ e k r=>
    cases vs with
    |nil=>exact⟨a,o,rfl,.inr ⟨rfl,e⟩⟩
    |cons x l=>simp at k
  .obtain⟨a,o,vs,rfl,e,d⟩:=Ji c v1;exact⟨a,o,rfl,.inl ⟨vs,e,d⟩⟩
 obtain⟨a,o,rfl,⟨vs,e,d⟩|⟨rfl,e⟩⟩:=hh
 .have d1:=d.1;have len:vs.length=kvs.length:=d.length;refine⟨a,o,rfl,.inl ⟨vs,e,q1 _ H1 g1 s1 ⟨by simpa using hl,λH' t=>?_⟩⟩⟩;have e':=t.z _ _ _ e;refine⟨λi p hp=>?_,vs,e',by simp[len]⟩;rw[Ah]at hp;cases z:kvs[i]? with
  |none=>rw[z]at hp;cases hp
  |some kv=>
   rw[z]at hp;have hp:=Option.some.inj hp;subst hp;have hi:=(Ag.mp z).1;refine⟨⟨vs,e',by lia⟩,λy H2 yy=>?_⟩;obtain⟨rfl,yy⟩:=yy;obtain⟨k,v,rfl,k2⟩:=yy vs e';have ek:k=kv.1:=by
    have h1:(vs.map (·.1))[i]?=some k:=by rw[Ah,k2];rfl
    rw[d1,Ah,z]at h1;exact(Option.some.inj h1).symm
   subst ek;exact⟨jr.refl _,Z7 _⟩
 .refine⟨a,o,rfl,.inr ⟨[],e,q1 _ H1 g1 s1 ⟨by simp,λH' t=>?_⟩⟩⟩;have e':=t.z _ _ _ e;exact⟨λi p hp=>by simp at hp,[],e',by simp⟩) q⟩⟩
def NH(hl:kvs.length<=sizeLine)(q:Q (kvs.map λkv=>kP kv.1)):(nh (qB kvs)).run Q:=⟨kvs,rfl,hl,q⟩
end
end FL
namespace My
def gz(da:PV):W (O PV):=
 am (w2 addW (c1 df (ce da)) (ce (.int 5))) λJz=>
 am (am (am (ce da) m9) λl2=>ci\λi3=>am (am (ce (.int 63)) part) λj4=>ce (uS l2 i3 j4)) λl18=>am (bP l18 Jz λSW s5=>(
 am (b2 oMod (w2 addW (w2 addW (b2 U7 (ce s5) (ce (.int 999979))) (b2 oMod (ce SW) (b2 Q1 (ce (.int 10)) (ce (.int 30))))) (ce (.int 17))) (ce (.int 2305843009213693951))) λP5=>
 ce P5)) λs5=>
 (am (am (am (am (am (ce da) m9) λl8=>ci\λi9=>am (am (ce (.int 63)) part) λj10=>ce (uS l8 i9 j10)) λl11=>ml l11 λï=>Rm (t2 oGe (ce ï) (b2 Q1 (ce (.int 10)) (ce (.int 18)))) (ce ï)) λVu=>W.dm (∃ns:O Int,Vu=ns.map PV.int) (ce .hand)) λsT=>s5\λko=>(.int 0)\λpS=>ce [sT,ko,pS])
def gE(qM:PV):W PV:=
 (cL (am (ce qM) az) (am (c1 df (ce qM)) λx1=>bV x1))
def bT(qM:PV):W PV:=
 am (am (ce qM) az) λJZ=>
 am (FL.kq 100 (λs2=>(t2 oGt (am (ce s2) ug) (ce (.int 1)))) (λs2=>(
 am (am (am (ce s2) ug) λx5=>bV x5) λx6=>am (qb s2 x6) λt7=>
 am (am (am (ce t7.1) ug) λx9=>bV x9) λnT=>am (qb t7.1 nT) λTh=>
 am (am (w2 addW (am (ce Th.1) ug) (ce (.int 1))) λvm=>bV vm) λpS=>am (t7.2\λsT=>Th.2\λko=>ce (.tup [sT,ko])) λxI=>am (aag Th.1 pS xI) λMa=>
 ce Ma)) JZ) λs2=>
 (cL (ce s2) (ce (.int 0)))
def gs(aeC:PV)(Xn:PV):W PV:=
 am (cL (am (aeC\λx1=>Xn\λx2=>ce (.tup [x1,x2])) λx3=>am ((.int 8)\λx4=>(.int 10)\λx5=>ce (.tup [x4,x5])) λx6=>ce [x3,x6]) (c1 ID (b2 gq ((.int 8)\λx7=>bV x7) (ce (.int 0))))) λx8=>am (ve x8) λt9=>
 am (am ((.str "a")\λpT=>(.str "ab")\λxJ=>(.str "b")\λvm=>(.str "ba")\λsT=>(.str "c")\λko=>(.str "zzzzzzzz")\λpS=>(.str "d")\λxI=>(.str "aa")\λsS=>ce [pT,xJ,vm,sT,ko,pS,xI,sS]) λZY=>ci\λi21=>am (am (w2 addW (ce (.int 1)) (t9.1\λvk=>bV vk)) part) λó=>ce (uS ZY i21 ó)) λsV=>
 am ((.cl sV)\λTV=>bT TV) λHV=>
 am (am (am (w2 addW (ce (.int 1)) (t9.2\λTR=>bV TR)) iQ) λl28=>bF l28 λp29=>((.cl sV)\λYu=>gE Yu)) λIb=>
 (HV\λx32=>am ((.cl Ib)\λYt=>bT Yt) λYs=>ce (.tup [x32,Ys]))
def a7:Nat->PV->W (O PV)
 |0,_=>W.fail
 |n+1,cV=>
 fX (am (am (ce cV) (gT .str)) gj) (
 (cV\λx1=>ce [x1])) (
 am (am (cL (am (ce cV) az) (ce (.int 0))) λx3=>a7 n x3) λtJ=>
 am (am (cL (am (ce cV) az) (ce (.int 1))) λx5=>a7 n x5) λsC=>
 []\λR7=>
 am (am (ce (.cl sC)) az) λl21=>am (bP l21 R7 λtR s7=>(
 am (fX (am (am (ce tR) (gT .str)) gj) (ce tR) (am (w2 addW (cL (am (ce tR) az) (ce (.int 0))) (c1 df (ce (.cl tJ)))) λnT=>am (w2 addW (cL (am (ce tR) az) (ce (.int 1))) (c1 df (ce (.cl tJ)))) λpT=>ce (.tup [nT,pT]))) λxJ=>am (jo s7 xJ) λX1=>
 ce X1)) λs7=>
 (am (am (am (ce (.cl tJ)) m9) λVu=>am (am (ce (.cl s7)) m9) λXy=>kj Vu Xy) λl18=>am (am (am (b2 yp (c1 df (ce (.cl tJ))) (ce (.int 1))) λko=>am (b2 yp (w2 addW (c1 df (ce (.cl tJ))) (c1 df (ce (.cl sC)))) (ce (.int 1))) λpS=>ce (.tup [ko,pS])) λxI=>ce [xI]) λl19=>kj l18 l19))
def c7(bO:PV):W PV:=
 am (bO\λx2=>a7 12 x2) λeT=>
 am (am (b2 yp (c1 df (ce (.cl eT))) (ce (.int 1))) λx3=>ce [x3]) λKu=>[]\λyi=>
 am (FL.kq 100 (λs6=>(s6.1\λl8=>ce (!l8.isEmpty))) (λs6=>(
 am (am (am (ce s6.1) ug) λnT=>bV nT) λpT=>am (qb s6.1 pT) λt12=>
 fX (M3 (am (am (cL (am (ce (.cl eT)) az) (ce t12.2)) (gT .str)) gj)) (
 t12.2\λsT=>am (jo s6.2 sT) λHg=>
 am (t12.1\λl16=>am (am (cL (am (ce (.cl eT)) az) (ce t12.2)) az) λVt=>kj l16 Vt) λMm=>
 ce (Mm,Hg)) (
 ce (t12.1,s6.2)))) (Ku,yi)) λs6=>
 am (am ((.int 0)\λvk=>ce [vk]) λZY=>am (c1 df (ce (.cl eT))) λPc=>Nd ZY Pc) λiD=>
 (.int 0)\λzG=>
 am (s6.2\λVs=>ci\λi24=>ci\λj25=>am (am (am (ce (.int 1)) yq) part) λk26=>Up Vs i24 j25 k26) λl40=>am (bP l40 (iD,zG) λHN OW=>(
 am (w2 addW (w2 addW (ce OW.2) (ce (.int 1))) (am (fY ((.int 0)\λYu=>(.int 0)\λx32=>(.int 1)\λYt=>(.int 12)\λYs=>ce [Yu,x32,Yt,Ys])) λx35=>gE x35)) λzF=>
 zF\λx37=>HN\λTQ=>am (n9 OW.1 TQ x37) λmN=>
 ce (mN,zF))) λOW=>
 (am (ce OW.1) kD)
def dM:W PV:=
 []\λzh=>
 am (am (ce (.int 4)) iQ) λVs=>am (bP Vs zh λk_5 s3=>(
 am (w2 addW (b2 Q1 (ce (.int 10)) (ce (.int 25))) ((.int 9)\λx7=>bV x7)) λMj=>
 am (am (fY ((.int 0)\λx9=>(.int 1)\λnT=>(.int 2)\λpT=>(.int 3)\λxJ=>am ((.int 10)\λvm=>bV vm) λsT=>am ((.int 1001)\λko=>bV ko) λpS=>(.int 1)\λxI=>(.int 2)\λsS=>Mj\λvk=>ce [x9,nT,pT,xJ,sT,pS,xI,sS,vk])) λJf=>gE Jf) λPc=>am (jo s3 Pc) λMn=>
 ce Mn)) λs3=>
 (am (ce s3) kD)
def gK(jT:PV)(Xo:PV):W (O PV):=
 (am (am (ce jT) az) λl1=>bF l1 λp2=>(am (fY (p2\λx3=>Xo\λx4=>ce [x3,x4])) λx5=>kM x5))
def oH(QZ:PV)(tI:PV):W (O PV):=
 am (am (am (b2 yp (w2 addW (c1 df (ce QZ)) (c1 df (ce tI))) (ce (.int 1))) iQ) λl3=>bF l3 λp4=>(ce .aB)) λcW=>
 am (am (am (ce QZ) az) λl5=>.dm (l5.length<=sizeLine) (.ret (eR 0 l5))) λl26=>am (bP l26 cW λp7 s6=>am (ve p7) λt8=>(
 am (tI\λx9=>t8.1\λnT=>KC x9 nT) λl24=>am (bP l24 s6 λï Jb=>am (ve ï) λě=>(
 am (am (fY (am (cL (ce Jb) (ce ě.1)) λko=>am (am (fY (t8.2\λpS=>ě.2\λxI=>ce [pS,xI])) λsS=>kM sS) λvk=>ce [ko,vk])) λJf=>gM Jf) λPc=>ě.1\λPb=>am (n9 Jb Pb Pc) λLx=>
 ce Lx)) λJb=>
 ce Jb)) λs6=>
 ce s6
def gL(Rh:PV)(Xp:PV):W (O PV):=
 (am (am (ce Xp) iQ) λl2=>bF l2 λp3=>(am (fY (am (am (ce Rh) az) λl4=>bF l4 λp5=>(cL (am (ce p5) az) (ce p3)))) λx6=>gM x6))
def cC(bQ:PV)(nN:PV)(d8:PV)(cF:PV)(jg:PV):W PV:=
 am ((.int 0)\λx2=>ce [x2]) λcW=>
 am (am (am (cF\λx3=>c6 x3) az) λl4=>am (am (cL (am (ce jg) az) (ce (.int 1))) az) λl5=>MU l4 l5) λVs=>am (bP Vs (.cl cW) λp7 s6=>am (ve p7) λt8=>(
 am (s6\λnT=>am (cL (am (cL (am (ce d8) az) (ce t8.1)) az) (ce t8.2)) λpT=>oH nT pT) λPl=>
 ce (.cl Pl))) λs6=>
 fX (am (am (ce cF) (gT .str)) gj) (
 (ce s6)) (
 fX (t2 gq (cL (am (ce jg) az) (ce (.int 0))) (ce nN)) (
 (fY (am (.aB\λxJ=>ce [xJ]) λVu=>am (am (ce s6) m9) λXy=>kj Vu Xy))) (
 (fY (am (s6\λko=>am (bQ\λpS=>am (cL (am (ce jg) az) (ce (.int 0))) λxI=>jC pS xI) λsS=>gK ko sS) λZY=>am (.aB\λvk=>ce [vk]) λl21=>kj ZY l21))))
def dJ(bf:PV)(bQ:PV)(nN:PV)(d8:PV)(cF:PV):W (O PV):=
 am (fX (am (am (ce cF) (gT .str)) gj) (ce (.int 1)) (am (am (am (ce cF) az) λl2=>bF l2 λp3=>(c1 df (cL (am (cL (am (ce d8) az) (ce p3)) az) (ce (.int 0))))) tm)) λJT=>
 []\λJq=>
 am (am (c1 df (ce bf)) iQ) λl37=>am (bP l37 Jq λxR s6=>(
 am (bf\λx9=>bQ\λnT=>xR\λpT=>hZ x9 nT pT) λXe=>
 am (am (bf\λvm=>cF\λsT=>xR\λko=>eY vm sT ko) λl16=>bF l16 λp17=>(bQ\λsS=>nN\λvk=>d8\λJf=>cF\λPc=>p17\λPb=>cC sS vk Jf Pc Pb)) λMv=>
 am (am (am (bf\λTV=>xR\λTU=>dU TV TU) az) λl26=>bF l26 λĞ=>(fY (am (cL (ce s6) (ce Ğ)) λYv=>Xe\λx29=>gK Yv x29))) λtq=>
 am (fY (am (fY (am (am (ce (.cl Mv)) m9) λl31=>am (am (ce (.cl tq)) m9) λl32=>kj l31 l32)) λYt=>JT\λYs=>gL Yt Ys)) λx35=>am (jo s6 x35) λLs=>
 ce Ls)) λs6=>
 ce s6
def oG(bf:PV)(Jx:PV)(bQ:PV)(jg:PV):W PV:=
 []\λeT=>
 am (am (Jx\λx2=>jE x2) az) λl15=>am (bP l15 eT λmZ s3=>(
 am (am (fY (bf\λx6=>bQ\λx7=>jg\λx8=>(.cl s3)\λx9=>mZ\λnT=>dJ x6 x7 x8 x9 nT)) (xh s3)) λpT=>am (jo s3 pT) λP7=>
 ce P7)) λs3=>
 (am (am (cL (ce s3) (am (ce (.int 1)) yq)) λxJ=>am (c1 df (cL (am (cL (ce s3) (am (ce (.int 1)) yq)) az) (ce (.int 0)))) λvm=>gL xJ vm) kD)
def cK(bc:PV)(bh:PV)(cF:PV)(bx:PV):W PV:=
 am (cL (am (ce bc) az) (ce bx)) λx1=>am (un4 x1) λt3=>
 fX (am (am (cL (am (ce bh) az) (ce cF)) (gT .str)) gj) (
 (fY (am ((.tup [])\λx4=>ce [x4]) λl5=>am (c1 ID (afb (b2 gq (ce t3.2.2.1) (ce (.tup []))) (b2 gq (ce t3.1) (cL (am (ce bh) az) (ce cF))))) λx6=>Nd l5 x6))) (
 am (am ((.str "doubled")\λx8=>bx\λx9=>bx\λnT=>ce (.tup [x8,x9,nT])) λpT=>ce [pT]) λzg=>
 am (am (ce t3.2.2.2) az) λl49=>am (bP l49 (.cl zg) λtj W6=>(
 am (am (am (ce W6) m9) λVs=>am (am ((.str "over")\λko=>bx\λpS=>tj\λxI=>ce (.tup [ko,pS,xI])) λsS=>am ((.str "over")\λvk=>tj\λJf=>bx\λPc=>ce (.tup [vk,Jf,Pc])) λPb=>ce [sS,Pb]) λl24=>kj Vs l24) λIe=>
 ce (.cl Ie))) λW6=>
 am (t2 gq (c1 df (ce t3.2.2.1)) (ce (.int 2))) λb=>am (if b=true then (
 am (am (am (ce W6) m9) λl46=>am (am ((.str "split")\λTQ=>am (cL (am (ce t3.2.2.1) az) (ce (.int 0))) λYr=>am (cL (am (ce t3.2.2.1) az) (ce (.int 1))) λx40=>ce (.tup [TQ,Yr,x40])) λx41=>am ((.str "split")\λx42=>am (cL (am (ce t3.2.2.1) az) (ce (.int 1))) λx43=>am (cL (am (ce t3.2.2.1) az) (ce (.int 0))) λx44=>ce (.tup [x42,x43,x44])) λx45=>ce [x41,x45]) λl47=>kj l46 l47) λkW=>
 ce (.cl kW)) else (
 ce W6)) λĝ=>
 (ce ĝ))
def gA(bc:PV)(bh:PV)(d8:PV)(mV:PV)(aR:PV):W PV:=
 mV\λx1=>am (ve x1) λt3=>
 am (cL (am (cL (am (ce bc) az) (ce t3.2)) az) (ce (.int 2))) λhJ=>
 am (am (ce hJ) az) λl48=>am (bP l48 [] λsf s6=>(
 am (am (cL (am (cL (am (ce d8) az) (ce t3.1)) az) (ce sf)) nh) λXy=>am (bP Xy s6 λľ s8=>(
 ľ\λnT=>am (w2 addW (Mx (cL (am (cL (am (ce d8) az) (ce t3.1)) az) (ce sf)) (ce ľ)) (b2 U7 (Mx (ce aR) (ce (.str "lost"))) (c1 ID (b2 gq (c1 df (ce hJ)) (ce (.int 2)))))) λpT=>am (iu s8 nT pT) λIg=>
 ce Ig)) λs8=>
 ce s8)) λs6=>
 am (am (bc\λko=>bh\λpS=>t3.1\λxI=>t3.2\λsS=>cK ko pS xI sS) az) λl46=>am (bP l46 s6 λgI Us=>(
 fX (t2 gq (ce gI) (ce (.tup []))) (
 (.int 0)\λPb=>(.int 0)\λx23=>am (UK Us x23 Pb) λIc=>
 ce Ic) (
 am (Mx (ce aR) (cL (am (ce gI) az) (ce (.int 0)))) λkG=>
 am (cL (am (ce bh) az) (ce t3.1)) λTR=>am (ve TR) λYQ=>
 am (cL (am (cL (am (ce d8) az) (ce YQ.1)) az) (cL (am (ce gI) az) (ce (.int 1)))) λox=>am (cL (am (cL (am (ce d8) az) (ce YQ.2)) az) (cL (am (ce gI) az) (ce (.int 2)))) λiU=>
 am (am (ce ox) nh) λl44=>am (bP l44 Us λQ7 W4=>(
 am (am (ce iU) nh) λl42=>am (bP l42 W4 λVl W3=>(
 am (w2 addW (Mx (ce ox) (ce Q7)) (Mx (ce iU) (ce Vl))) λyr=>
 fX (t2 Nu (ce kG) (ce .aB)) (
 am (w2 addW (w2 addW (ce Q7) (ce Vl)) (ce (.int 1))) λx35=>yr\λx36=>am (iu W3 x35 x36) λkW=>
 ce kW) (
 am (w2 addW (ce Q7) (ce Vl)) λTQ=>am (w2 addW (ce yr) (ce kG)) λYr=>am (iu W3 TQ Yr) λH9=>
 ce H9))) λW3=>
 ce W3)) λW4=>
 ce W4))) λUs=>
 (ce (qB Us))
def gw(bc:PV)(bh:PV)(aR:PV):W PV:=
 am (am (c1 df (ce bh)) iQ) λl44=>am (bP l44 (([]:O f8),([]:O (O PV))) λmZ s3=>(
 []\λl5=>W.dm (s3.2.length<sizeLine) (am (W.any λ_=>True) λb6=>(s3.2++[l5])\λJA=>
 am (am (c1 df (ce bc)) iQ) λl24=>am (bP l24 (b6,JA) λLH s9=>(
 mZ\λsS=>am (aad s9.2 sS) λj19=>am (am (am (bc\λpT=>bh\λxJ=>am (ce (.cl (s9.2.map PV.cl))) λvm=>am (mZ\λsT=>LH\λko=>ce (.tup [sT,ko])) λpS=>aR\λxI=>gA pT xJ vm pS xI) (xh (s9.2.map PV.cl))) (zf s9.2)) λJf=>am (jo j19.2 Jf) λl21=>(s9.2.set j19.1 l21)\λLQ=>
 ce (s9.1,LQ))) λs9=>
 ce s9))) λs3=>
 am (am (cL (am (ce (.cl (s3.2.map PV.cl))) az) (am (ce (.int 1)) yq)) az) λl42=>am (bP l42 [] λfo W5=>(
 am (am (ce fo) nh) λl34=>am (bP l34 W5 λZH YV=>(
 ZH\λx30=>am (Mx (ce fo) (ce ZH)) λYu=>am (iu YV x30 Yu) λIa=>
 ce Ia)) λYV=>
 ce YV)) λW5=>
 am (am (am (am (ce bh) az) λl36=>ml l36 λTn=>Rm (M3 (am (am (ce Tn) (gT .str)) gj)) (ce Tn)) ug) λHK=>
 (am (am (am (w2 addW (ce HK) (ce (.int 1))) iQ) λl39=>bF l39 λp40=>(aa6 (ce (qB W5)) (ce p40) (ce .aB))) kD)
def tW(da:PV):W PV:=
 am (da\λx2=>gz x2) λtE=>W.dm (∃s:Int,tE=[.hand,.int s,.int 0]) (
 am (am (ce (.int 2)) iQ) λl65=>am (kX l65 () λxN s4=>(
 am ((.int 5)\λx7=>(.int 6)\λx8=>gs x7 x8) λx9=>am (ve x9) λOV=>
 am (fX (t2 gq ((.int 2)\λxJ=>bV xJ) (ce (.int 0))) (OV.1\λvm=>kN vm) (OV.1\λsT=>am (OV.1\λko=>c7 ko) λpS=>lQ sT pS)) λiM=>
 am (dM) λbN=>
 am (am ((.str "split")\λsS=>(.str "doubled")\λvk=>(.str "over")\λJf=>ce (.tup [sS,vk,Jf])) az) λl63=>am (kX l63 () λpq Ć=>(
 am (am ((.str "split")\λTU=>(.str "doubled")\λTR=>(.str "over")\λx27=>(.str "lost")\λYv=>ce [TU,TR,x27,Yv]) λl29=>am (am (ce bN) az) λl30=>KS l29 l30) λYu=>am (Ph Yu) λLu=>
 .aB\λYt=>pq\λYs=>am (UK Lu Ys Yt) λxP=>
 am (iM\λx37=>am (fY (OV.2\λTQ=>a7 12 TQ)) λYr=>(qB xP)\λx40=>gw x37 Yr x40) λKR=>
 am (am (ce bN) az) λHf=>
 am ((.int 1001)\λx43=>bV x43) λx49=>am (am ((.str "split")\λx44=>(.str "doubled")\λx45=>(.str "over")\λx46=>ce [x44,x45,x46]) λl47=>pq\λx48=>aan l47 x48) λx50=>am (n9 Hf x50 x49) λtH=>
 am (am (bN\λx51=>am (am (ce tH) kD) λx52=>ce (.tup [x51,x52])) az) λl61=>am (kX l61 () λIG Ĝ=>(
 fX (t2 Hj (am (iM\λx55=>OV.2\λx56=>IG\λx57=>pq\λx58=>oG x55 x56 x57 x58) xZ) (am (ce KR) xZ)) (
 (.bl false)\λx59=>ce (Lp.out x59)) (
 ce (.go ())))) (N6 (λĜ=>
 ce (.go ())) Lp.out))) (N6 (λĆ=>
 ce (.go ())) Lp.out))) (N6 (λs4=>
 (ce (.bl true))) id))
end My
variable{Lz GK Pq LB LA Pp wz Pr:PySem.Tok}{sN:Bf}
namespace My
def top(i:Nat):wn:=PySem.Challenge.pw_treewithin_k55_rests_told.main.body.getD i (.Pass ⟨0,0,0,0⟩)
abbrev dV(i k:Nat)(ks:O AK)(n:Nat)(m:IZ PV n):DF:=⟨dnm (top i),top i,Nk (top i),k,λK=>PJ K ks (vo n m)⟩
abbrev dL(i k:Nat)(ks:O AK)(n:Nat)(m:IZ (O PV) n):DF:=⟨dnm (top i),top i,Nk (top i),k,λK=>GU K ks (vo n m)⟩
abbrev dv(i k n:Nat)(m:IZ PV n):DF:=dV i k (Ap n .v) n m
abbrev ud:r9:=rJ [("node",lo)]
def mI:LS (top 4) ud:=lcs
abbrev t4:r9:=rJ [("house",lo)]
def mE:LS (top 13) t4:=lcs
abbrev qh:r9:=rJ [("far",lo),("house",fr),("lines",fr)]
def jY:LS (top 14) qh:=lcs
abbrev yz:r9:=rJ [("house",lo),("name_of",gi),("halves",gi),("apart_from",gi),("houses",fr),("lines",fr)]
def qT:LS (top 15) yz:=lcs
abbrev tZ:r9:=rJ [("far",lo),("stay",fr)]
abbrev tY:r9:=rJ [("far",lo),("stay",fr)]
def mD:LS (top 23) tZ:=lcs
def mC:LS (top 23) tY:=lcs
abbrev ub:r9:=rJ [("ins",lo),("SPLIT",gi)]
abbrev t6:r9:=rJ [("ins",lo),("OVER",gi)]
def mG:LS (top 24) ub:=lcs
def mF:LS (top 24) t6:=lcs
abbrev uc:r9:=rJ [("cost",lo)]
def mH:LS (top 28) uc:=lcs
abbrev yw:r9:=rJ [("cost",lo),("summed",gi),("more",fr)]
def qQ:LS (top 32) yw:=lcs
abbrev yA:r9:=rJ [("place",lo)]
def qU:LS (top 33) yA:=lcs
abbrev yx:r9:=rJ [("costs",lo),("number",fr)]
abbrev oO:r9:=rJ [("number",.cell),("cheapest",gi),("lists",fr)]
def qS:LT oO yx:=lcs
def qR:LS (top 34) oO:=lcs
abbrev mh:r9:=rJ [("half",lo),("len",gi),("rows",fr)]
abbrev mf:r9:=rJ [("deed",lo),("done_costs",gi),("asked",fr),("node",fr),("prices",fr),("rows",fr)]
abbrev me:r9:=rJ [("below",lo),("raised",gi),("own",fr),("told",fr)]
def gR:LS (top 36) mh:=lcs
def gQ:LS (top 36) mf:=lcs
def gP:LS (top 36) me:=lcs
abbrev oM:r9:=rJ [("house",lo),("date",lo),("isinstance",gi),("str",gi)]
def fe:LS (top 39) oM:=lcs
abbrev vE:r9:=rJ [("each",lo),("layer",fr),("numbers",fr)]
abbrev vD:r9:=rJ [("far",lo),("house",fr),("layer",fr),("numbers",fr)]
def oT:LS (top 41) vE:=lcs
def oS:LS (top 41) vD:=lcs
abbrev Hy:r9:=rJ [("number",lo),("pair",lo)]
abbrev Hx:r9:=rJ [("pair",lo),("stay_of",gi),("begins",fr),("dates",fr),("houses",fr),("numbers",fr)]
def ng:LS (top 42) Hy:=lcs
def uh:LS (top 42) Hx:=lcs
abbrev ue:r9:=rJ [("_law_cell",lo)]
def mJ:LS (top 44) ue:=lcs
abbrev qi:r9:=rJ [("_law_k",lo),("_law_of",gi),("_law_pot_here",fr),("_law_words",fr)]
def jZ:LS (top 48) qi:=lcs
def dB:fu (Hn (top 49)) (Nk (top 49)) (aK (top 49)):=fsc
abbrev qk:r9:=rJ [("_law_thing",lo),("isinstance",gi),("str",gi)]
abbrev qj:r9:=rJ [("_law_n",lo),("_law_found",fr)]
def j8:LS (top 55) qk:=lcs
def j6:LS (top 55) qj:=lcs
structure NB(v:EV):Prop where
 isinstance:v.mg "isinstance"=ci
 str:v.mg "str"=ci
 list:v.mg "list"=ci
 reversed:v.mg "reversed"=ci
 len:v.mg "len"=ci
 tuple:v.mg "tuple"=ci
 enumerate:v.mg "enumerate"=ci
 range:v.mg "range"=ci
 sorted:v.mg "sorted"=ci
 sum:v.mg "sum"=ci
 min:v.mg "min"=ci
 zip:v.mg "zip"=ci
 dict:v.mg "dict"=ci
 int:v.mg "int"=ci
 repr:v.mg "repr"=ci
abbrev nF:DF:=dL 1 1 [.v] 1 m8
def J7(D:DI v nF)(q:NB v):D.O:=
 OY D λhr nd cV=>
 (sl 1 nd (aU (n:=0) ai rfl) λnM=>
 (sl 2 nd (aU (n:=1) (av 0 ai) rfl) λpU=>
 (SF.aci (hd:=(λ(s4:O PV×O PV)=>([some (.val cV),some (.ol ci s4.1),some (.ol ci s4.2),ci]:aG))) (s0:=(nM,pU)) Av (.refl _) (λs4=>(acr rfl (eQ 2) (λ_=>rfl))) (λs4=>
 (SF.JE 2 3 rfl ⋯ rfl rfl (.inl rfl) nd rfl (B1 rfl) λt7=>
 (SF.append 1 rfl rfl rfl (.inl rfl) (ae 3) λnL=>
 (SF.ifT (Ly (gH rfl (je rfl .str rfl q.isinstance (ae 3) rfl q.str Da) (λ_=>rfl)))
 (SF.extend 2 rfl rfl rfl (.inl rfl) (aA (ae 3)) λsY=>
 (SF.cY rfl (.m 8)))
 (SF.cY rfl (.m 8)))))) λs4=>
 (SF.kF (adG rfl rfl rfl q.list rfl q.reversed (ya 1)) λ_=>rfl))))
abbrev lY:DF:=dv 2 2 1 jE
def VA(D:DI v lY)(q:NB v)(Ko:nF.C v):D.O:=
 vg D λhr nd cV=>
 (sl 1 nd (aU (n:=0) ai rfl) λcW=>
 (sl 2 nd (aU (n:=0) ai rfl) λyB=>
 (SF.kY (hd:=(λ(s4:O PV×O PV)=>([some (.val cV),some (.ol ci s4.1),some (.ol ci s4.2),ci,ci,ci]:aG))) (s0:=(cW,yB)) Av rfl (bu rfl (qZ (lC Ko hr (av 0 ai)))) (.refl _) (cT 3 nd) (λs4 yf=>
 (SF.ifS (out1:=λ(YW:O PV×O PV)=>.nx ([some (.val cV),some (.ol ci YW.1),some (.ol ci YW.2),some (.val yf),ci,ci]:aG)) (gH rfl (je rfl .str rfl q.isinstance (ae 3) rfl q.str Da) (λ_=>rfl))
 (SF.append 1 rfl rfl rfl (.inl rfl) (ae 3) λLw=>
 (SF.nil rfl (.refl _)))
 (SF.JE 2 4 rfl ⋯ rfl rfl (.inl rfl) nd rfl (B1 rfl) λt20=>
 (SF.JE 2 5 rfl ⋯ rfl rfl (.inl rfl) nd rfl (B1 rfl) λt22=>
 (SF.append 1 rfl rfl rfl (.inl rfl) (aV (n:=2) (av 5 (av 4 ai)) rfl) λLv=>
 (SF.nil rfl (.m 48)))))
 λYW=>(SF.append 2 rfl rfl rfl (.inl rfl) (uO (nA rfl rfl q.len (eQ 1)) aw) λHz=>
 (SF.cY rfl (.m 8))))) λs4=>
 (SF.d9 (dN rfl rfl q.tuple (eQ 1)) λ_=>rfl))))
abbrev jh:DF:=dv 3 1 1 c6
def Rx(D:DI v jh)(q:NB v):D.O:=
 vg D λhr nd cF=>
 (SF.d9 (vT (gH rfl (je rfl .str rfl q.isinstance (ae 0) rfl q.str Da) (λ_=>rfl)) (aV (n:=0) ai rfl) (ae 0)) λ_=>rfl)
abbrev jO:DF:=dv 4 3 1 gN
def Kc(D:DI v jO)(q:NB v)(jI:lY.C v)(gV:jh.C v):D.O:=
 vg D λhr nd cV=>
 (sv 1 nd (eC jI hr (av 0 ai)) λcW=>
 (SF.ju (i:=3) rfl nd rfl rfl mI (bu rfl (bG (ae 1))) (λ_ _ _ _ _=>(cT 0 mI.nd)) (λ_ _ _ _ _ p5=>kg) rfl λzS=>
 (SF.Ob (hd:=(λ(s7:O PV)=>([some (.val cV),some (.val cW),ci,some (.ol ci s7),ci,ci]:aG))) (s0:=zS) Av rfl (oY rfl rfl q.enumerate (bG (ae 1))) (.refl _) (λ_=>(O2 rfl (eU rfl (aM (cT 4 nd) (aM (cT 2 nd) dc))))) (λs7 t9=>
 (SF.kY (hd:=(λ(Jb:O PV)=>([some (.val cV),some (.val cW),some (.val t9.2),some (.ol ci Jb),some (.val t9.1),ci]:aG))) (s0:=s7) Av rfl (bu rfl (bG (eC gV hr (av 2 ai)))) (.refl _) (cT 5 nd) (λJb Mi=>
 (SF.P1 3 rfl rfl (.inl rfl) (ae 4) (ae 5) λII=>
 (SF.cY rfl (.m 32)))) λJb=>
 (SF.cY rfl (.m 20)))) λs7=>
 (SF.d9 (dN rfl rfl q.tuple (eQ 3)) λ_=>rfl))))
abbrev fh:DF:=dv 9 1 2 dU
def J4(D:DI v fh)(pC:v.mg "UNDER"=some (.int 2 Lz)):D.O:=
 vg D λhr nd bc bx=>
 (SF.d9 (aZ rfl (aA (aZ rfl (aA (ae 0)) (ae 1))) (zv pC rfl)) λ_=>rfl)
abbrev lh:DF:=dv 10 1 2 ic
def HF(D:DI v lh)(lq:v.mg "BESIDE"=some (.int 3 GK)):D.O:=
 vg D λhr nd bc bx=>
 (SF.d9 (aZ rfl (aA (aZ rfl (aA (ae 0)) (ae 1))) (zv lq rfl)) λ_=>rfl)
abbrev qD:DF:=dv 11 2 3 lP
def NP(D:DI v qD)(uW:v.mg "NAME"=some (.int 0 Pq))(dW:fh.C v):D.O:=
 vg D λhr nd bc bx WS=>
 (SF.d9 (X9 (uP (iY rfl (aY hr)) (eC dW hr (av 0 (av 1 ai))) (aV (n:=0) ai rfl)) (X6 (uP (iY rfl (aY hr)) (aZ rfl (aA (aZ rfl (aA (ae 0)) (ae 1))) (zv uW rfl)) (ae 2)))) λ_=>rfl)
abbrev lZ:DF:=dv 12 1 2 eX
def NN(D:DI v lZ)(q:NB v):D.O:=
 vg D λhr nd fm kS=>
 (SF.d9 (vT (gH rfl (je rfl .str rfl q.isinstance (aZ rfl (aA (ae 0)) (ae 1)) rfl q.str Da) (λ_=>rfl)) (aZ rfl (aA (ae 0)) (ae 1)) (ae 1)) λ_=>rfl)
abbrev nH:DF:=dL 13 4 [.v] 1 jF
def J9(D:DI v nH)(q:NB v)(ny:jO.C v):D.O:=
 OY D λhr nd bO=>
 (sv 1 nd (eC ny hr (av 0 ai)) λdQ=>
 (SF.ju (i:=3) rfl nd rfl rfl mE (bu rfl (bG (ae 1))) (λ_ _ _ _ _=>(cT 0 mE.nd)) (λ_ _ _ _ _ p5=>(aV (n:=0) ai rfl)) rfl λlR=>
 (SF.kY (hd:=(λ(s9:O PV)=>([some (.val bO),some (.val dQ),ci,some (.ol ci s9),ci]:aG))) (s0:=lR) Av rfl (VG rfl q.range (uO (c9 rfl rfl q.len (ae 1)) aw) (xo aw) (xo aw)) (.refl _) (cT 2 nd) (λs9 kR=>
 (sv 4 nd (vT (fw Kf (aZ rfl (aA (ae 1)) (ae 2)) kg) (aV (n:=0) ai rfl) (aZ rfl (eQ 3) (aZ rfl (aA (ae 1)) (ae 2)))) λIJ=>
 (SF.P1 3 rfl rfl (.inl rfl) (cj rfl (aV (n:=1) (av 2 ai) rfl) (ae 4)) (ae 2) λHA=>
 (SF.cY rfl (.m 20))))) λs9=>
 (SF.Uw 3 rfl rfl))))
abbrev jN:DF:=dv 14 1 2 gr
def yL(D:DI v jN)(q:NB v):D.O:=
 vg D λhr nd yD kS=>
 (SF.d9 (dN rfl rfl q.tuple (og (HB rfl jY (eE rfl q.range (c9 rfl rfl q.len (ae 0))) (λ_ _ _ _ _=>(cT 0 jY.nd)) (λ_ _ _ _ _ p3=>(O7.t (Jj (Po rfl (aY hr) (ae 0) (aA (aZ rfl (aA (ae 2)) (ae 1)))) (xM (Po rfl (aY hr) (ae 1) (aA (aZ rfl (aA (ae 2)) (ae 0)))))))) (λ_ _ _ _ _ p3=>(ae 0)) rfl))) λ_=>rfl)
abbrev uQ:DF:=dv 15 5 1 kN
def Ry(D:DI v uQ)(q:NB v)(jI:lY.C v)(Kr:nH.C v)(qu:lZ.C v)(gV:jh.C v)(y8:jN.C v):D.O:=
 vg D λhr nd bO=>
 (sv 1 nd (eC jI hr (av 0 ai)) λfM=>
 (sl 2 nd (lC Kr hr (av 0 ai)) λlR=>
 SF.bA 2 rfl (SF.d9 (dN rfl rfl q.tuple (og (iw rfl qT (eE rfl q.range (c9 rfl rfl q.len (ae 1))) (λ_ _ _ _ _=>(cT 0 qT.nd)) (λ_ _ _ _ _ p7=>(aV (n:=4) (ag (eC qu hr (av 1 (av 0 ai))) (ag aw (ag (eC gV hr (ag (aZ rfl (aA (ae 1)) (ae 0)) ai)) (ag (eC y8 hr (av 2 (av 0 ai))) ai)))) rfl)) rfl))) λ_=>rfl)))
abbrev lg:DF:=dL 22 2 [.v,.v] 2 ib
def HE(D:DI v lg)(q:NB v)(dW:fh.C v):D.O:=
 OY D λhr nd bf bx=>
 (sv 2 nd (eC dW hr (av 0 (av 1 ai))) λnW=>
 (SF.kF (adI (fw (iY rfl (aY hr)) (c9 rfl rfl q.len (ae 2)) aw) (aU (n:=2) (av 2 (ag (aV (n:=2) (ag (aZ rfl (aA (ae 2)) aw) (ag (aZ rfl (aA (ae 2)) aw) ai)) rfl) ai)) rfl) (aU (n:=0) ai rfl)) λ_=>rfl))
abbrev nG:DF:=dL 23 2 [.v,.v] 2 jD
def J8(D:DI v nG)(HY:lh.C v):D.O:=
 OY D λhr nd bf bx=>
 (sv 2 nd (eC HY hr (av 0 (av 1 ai))) λuY=>
 (SF.kF (j9 rfl (cf (iw rfl mD (bu rfl (bG (ae 2))) (λ_ _ _ _ _=>(cT 0 mD.nd)) (λ_ _ _ _ _ p5=>(aV (n:=2) (av 1 (av 0 ai)) rfl)) rfl)) (cf (iw rfl mC (bu rfl (bG (ae 2))) (λ_ _ _ _ _=>(cT 0 mC.nd)) (λ_ _ _ _ _ p9=>(aV (n:=2) (av 0 (av 1 ai)) rfl)) rfl))) λ_=>rfl))
abbrev nI:DF:=dL 24 3 [.v,.v,.v] 3 eY
def Ka(D:DI v nI)(q:NB v)(pE:v.mg "FOUND"=some (.str "found" LB))(pD:v.mg "SPLIT"=some (.str "split" LA))(uV:v.mg "OVER"=some (.str "over" Pp))(jn:v.mg "DOUBLED"=some (.str "doubled" wz))(Oa:qD.C v)(HX:lg.C v)(Kq:nG.C v):D.O:=
 OY D λhr nd bf cF bx=>
 (SF.ifR (gH rfl (je rfl .str rfl q.isinstance (ae 1) rfl q.str Da) (λ_=>rfl))
 (SF.kF (adI (gH rfl (eC Oa hr (av 0 (av 2 (av 1 ai)))) (λ_=>rfl)) (aU (n:=1) (ag (aV (n:=2) (ag (zu pE rfl) (ag (aV (n:=0) ai rfl) ai)) rfl) ai) rfl) (aU (n:=0) ai rfl)) λ_=>rfl)
 (SF.ju (i:=3) rfl nd rfl rfl mG (bu rfl (qZ (lC HX hr (av 0 (av 2 ai))))) (λ_ _ _ _ _=>(cT 0 mG.nd)) (λ_ _ _ _ _ p11=>(aV (n:=2) (ag (zu pD rfl) (av 0 ai)) rfl)) rfl λLL=>
 SF.bA 3 rfl (SF.ju (i:=4) rfl nd rfl rfl mF (bu rfl (qZ (lC Kq hr (av 0 (av 2 ai))))) (λ_ _ _ _ _=>(cT 0 mF.nd)) (λ_ _ _ _ _ p18=>(aV (n:=2) (ag (zu uV rfl) (av 0 ai)) rfl)) rfl λL1=>
 SF.bA 4 rfl (SF.kF (Vp rfl (aY hr) rfl q.sorted (cf (j9 rfl (cf (j9 rfl (cf (aU (n:=1) (ag (aV (n:=2) (ag (zu jn rfl) (ag (aV (n:=2) (av 2 (av 2 ai)) rfl) ai)) rfl) ai) rfl)) (fR (ae 3)))) (fR (ae 4))))) λ_=>rfl))))
abbrev pw:DF:=dv 27 1 1 kM
def Rr(D:DI v pw)(q:NB v):D.O:=
 vg D λhr nd jT=>
 (SF.d9 (vT (acv rfl (aY hr) kg (aA (ae 0))) kg (So rfl rfl rfl q.sum (fR (ae 0)))) λ_=>rfl)
abbrev jM:DF:=dv 28 1 1 gM
def Kb(D:DI v jM)(q:NB v):D.O:=
 vg D λhr nd jT=>
 (SF.d9 (aaZ rfl rfl rfl q.min (cf (HB rfl mH (bu rfl (bG (ae 0))) (λ_ _ _ _ _=>(cT 0 mH.nd)) (λ_ _ _ _ _ p2=>(fw VE (ae 0) kg)) (λ_ _ _ _ _ p2=>(ae 0)) rfl))) λ_=>rfl)
abbrev nC:DF:=dv 29 1 2 jC
def J6(D:DI v nC)(l9:v.mg "DEEDS"=some (.ref sN))(sG:S9 v.K sN ["split","doubled","over"]):D.O:=
 vg D λhr nd bQ jg=>
 (SF.d9 (vT (acu rfl (aY hr) (ae 1) l9 sG) (aZ rfl (aA (ae 0)) (aa0 rfl (ae 1) l9 sG)) aw) λ_=>rfl)
abbrev k8:DF:=dv 30 2 3 hZ
def HD(D:DI v k8)(q:NB v)(uX:v.mg "LOST"=some (.int 3 Pr))(dW:fh.C v):D.O:=
 vg D λhr nd bf bQ bx=>
 (SF.d9 (vT (fw (iY rfl (aY hr)) (c9 rfl rfl q.len (eC dW hr (av 0 (av 2 ai)))) aw) (aZ rfl (aA (ae 1)) (zv uX rfl)) aw) λ_=>rfl)
abbrev pz:DF:=dL 32 2 [.v,.v] 2 gK
def Rt(D:DI v pz)(ux:pw.C v):D.O:=
 OY D λhr nd jT Xo=>
 (SF.kF (iw rfl qQ (bu rfl (bG (ae 0))) (λ_ _ _ _ _=>(cT 0 qQ.nd)) (λ_ _ _ _ _ p2=>(eC ux hr (ag (gX (aU (n:=2) (av 0 (av 1 ai)) rfl)) ai))) rfl) λ_=>rfl)
abbrev uR:DF:=dL 33 2 [.v,.v] 2 oH
def Rz(D:DI v uR)(q:NB v)(nv:jM.C v)(ux:pw.C v):D.O:=
 OY D λhr nd QZ tI=>
 (SF.ju (i:=3) rfl nd rfl rfl qU (eE rfl q.range (uO (cj rfl (c9 rfl rfl q.len (ae 0)) (c9 rfl rfl q.len (ae 1))) aw)) (λ_ _ _ _ _=>(cT 0 qU.nd)) (λ_ _ _ _ _ p4=>kg) rfl λcW=>
 (SF.Ob (hd:=(λ(s6:O PV)=>([some (.val QZ),some (.val tI),ci,some (.ol ci s6),ci,ci,ci]:aG))) (s0:=cW) Av rfl (oY rfl rfl q.enumerate (bG (ae 0))) (.refl _) (λ_=>(O2 rfl (eU rfl (aM (cT 4 nd) (aM (cT 5 nd) dc))))) (λs6 t8=>
 (SF.Ob (hd:=(λ(Jb:O PV)=>([some (.val QZ),some (.val tI),ci,some (.ol ci Jb),some (.val t8.1),some (.val t8.2),ci]:aG))) (s0:=s6) Av rfl (RF rfl rfl q.enumerate (ae 1) (ae 4)) (.refl _) (λ_=>(O2 rfl (eU rfl (aM (cT 2 nd) (aM (cT 6 nd) dc))))) (λJb ě=>
 (SF.P1 3 rfl rfl (.inl rfl) (eC nv hr (ag (gX (aU (n:=2) (ag (aZ rfl (eQ 3) (ae 2)) (ag (eC ux hr (ag (gX (aU (n:=2) (av 5 (av 6 ai)) rfl)) ai)) ai)) rfl)) ai)) (ae 2) λLx=>
 (SF.cY rfl (.m 68)))) λJb=>
 (SF.cY rfl (.m 48)))) λs6=>
 (SF.Uw 3 rfl rfl)))
abbrev pA:DF:=dL 34 2 [.v,.v] 2 gL
def Rv(D:DI v pA)(q:NB v)(nv:jM.C v):D.O:=
 OY D λhr nd Rh Xp=>
 (SF.kF (iw rfl qR (eE rfl q.range (ae 1)) (λ_ _ _ _ _=>(cT 0 qR.nd)) (λ_ _ _ _ _ p3=>(eC nv hr (ag (gX (iw rfl (aX.rel qS) (bu rfl (bG (ae 1))) (λ_ _ _ _ _=>(cT 0 qS.nd)) (λ_ _ _ _ _ p5=>(aZ rfl (aA (ae 0)) (ae 1))) rfl)) ai))) rfl) λ_=>rfl)
abbrev jL:DF:=dv 35 3 5 cC
def yJ(D:DI v jL)(q:NB v)(gV:jh.C v)(RX:uR.C v)(uy:pz.C v)(Kn:nC.C v):D.O:=
 vg D λhr nd bQ nN d8 cF jg=>
 (sl 5 nd (aU (n:=1) (ag aw ai) rfl) λcW=>
 SF.bA 5 rfl (SF.Ob (hd:=(λ(s6:PV)=>([some (.val bQ),some (.val nN),some (.val d8),some (.val cF),some (.val jg),some (.val s6),ci,ci]:aG))) (s0:=(.cl cW)) Av rfl (RE rfl rfl q.zip (bG (eC gV hr (av 3 ai))) (bG (aZ rfl (aA (ae 4)) aw))) (.refl _) (λ_=>(O2 rfl (eU rfl (aM (cT 6 nd) (aM (cT 7 nd) dc))))) (λs6 t8=>
 (sl 5 nd (lC RX hr (av 5 (ag (aZ rfl (aA (aZ rfl (aA (ae 2)) (ae 6))) (ae 7)) ai))) λPl=>
 SF.bA 5 rfl (SF.cY rfl (.m 192)))) λs6=>
 (SF.ifR (gH rfl (je rfl .str rfl q.isinstance (ae 3) rfl q.str Da) (λ_=>rfl))
 (SF.d9 (ae 5) λ_=>rfl)
 (SF.ifR (fw (iY rfl (aY hr)) (aZ rfl (aA (ae 4)) aw) (ae 1))
 (SF.d9 (gX (j9 rfl (cf (aU (n:=1) (ag kg ai) rfl)) (fR (ae 5)))) λ_=>rfl)
 (SF.d9 (gX (j9 rfl (cf (lC uy hr (av 5 (ag (eC Kn hr (av 0 (ag (aZ rfl (aA (ae 4)) aw) ai))) ai)))) (cf (aU (n:=1) (ag kg ai) rfl)))) λ_=>rfl)))))
abbrev f6:DF:=dL 36 4 [.v,.v,.v,.v,.v] 5 dJ
def rM(D:DI v f6)(q:NB v)(HW:k8.C v)(Ks:nI.C v)(y7:jL.C v)(dW:fh.C v)(uy:pz.C v)(uz:pA.C v):D.O:=
 OY D λhr nd bf bQ nN d8 cF=>
 (sv 5 nd (vT (gH rfl (je rfl .str rfl q.isinstance (ae 4) rfl q.str Da) (λ_=>rfl)) aw (So rfl rfl rfl q.sum (cf (iw rfl gR (bu rfl (bG (ae 4))) (λ_ _ _ _ _=>(cT 0 gR.nd)) (λ_ _ _ _ _ p3=>(c9 rfl rfl q.len (aZ rfl (aA (aZ rfl (aA (ae 1)) (ae 0))) aw))) rfl)))) λJT=>
 (sl 6 nd (aU (n:=0) ai rfl) λJq=>
 (SF.kY (hd:=(λ(s6:O PV)=>([some (.val bf),some (.val bQ),some (.val nN),some (.val d8),some (.val cF),some (.val JT),some (.ol ci s6),ci,ci,ci,ci]:aG))) (s0:=Jq) Av rfl (eE rfl q.range (c9 rfl rfl q.len (ae 0))) (.refl _) (cT 7 nd) (λs6 xR=>
 (sv 8 nd (eC HW hr (av 0 (av 1 (av 7 ai)))) λXe=>
 (SF.ju (i:=9) rfl nd rfl rfl gQ (bu rfl (qZ (lC Ks hr (av 0 (av 4 (av 7 ai)))))) (λ_ _ _ _ _=>(cT 0 gQ.nd)) (λ_ _ _ _ _ p17=>(eC y7 hr (av 3 (av 1 (av 4 (av 2 (av 0 ai))))))) rfl λMv=>
 SF.bA 9 rfl (SF.ju (i:=10) rfl nd rfl rfl gP (bu rfl (bG (eC dW hr (av 0 (av 7 ai))))) (λ_ _ _ _ _=>(cT 0 gP.nd)) (λ_ _ _ _ _ Ğ=>(gX (lC uy hr (ag (aZ rfl (eQ 2) (ae 0)) (av 1 ai))))) rfl λtq=>
 SF.bA 10 rfl (SF.append 6 rfl rfl rfl (.inr (.inl rfl)) (gX (lC uz hr (ag (gX (j9 rfl (fR (ae 9)) (fR (ae 10)))) (av 5 ai)))) λLs=>
 (SF.cY rfl (.m 1920))))))) λs6=>
 (SF.Uw 6 rfl rfl))))
abbrev zH:DF:=dv 37 5 4 oG
def Vz(D:DI v zH)(q:NB v)(jI:lY.C v)(rP:f6.C v)(uz:pA.C v):D.O:=
 vg D λhr nd bf Jx bQ jg=>
 (sl 4 nd (aU (n:=0) ai rfl) λeT=>
 (SF.kY (hd:=(λ(s3:O PV)=>([some (.val bf),some (.val Jx),some (.val bQ),some (.val jg),some (.ol ci s3),ci]:aG))) (s0:=eT) Av rfl (bu rfl (bG (eC jI hr (av 1 ai)))) (.refl _) (cT 5 nd) (λs3 mZ=>
 (SF.append 4 rfl rfl rfl (.inl rfl) (SD 4 rfl rfl (gX (lC rP hr (av 0 (av 2 (av 3 (av 4 (av 5 ai)))))))) λP7=>
 (SF.cY rfl (.m 32)))) λs3=>
 (SF.d9 (dN rfl rfl q.tuple (og (lC uz hr (ag (aZ rfl (eQ 4) (xo aw)) (ag (c9 rfl rfl q.len (aZ rfl (aA (aZ rfl (eQ 4) (xo aw))) aw)) ai))))) λ_=>rfl)))
abbrev iE:DF:=dL 39 1 [.v,.v] 2 fj
def vG(D:DI v iE)(q:NB v):D.O:=
 OY D λhr nd fm dz=>
 (SF.kF (adH rfl fe (RE rfl rfl q.zip (bG (ae 0)) (bG (ae 1))) (λ_ _ _ _ _=>(O2 rfl (eU rfl (aM (cT 0 fe.nd) (aM (cT 1 fe.nd) dc))))) (λ_ _ _ _ _ t5=>(Ly (gH rfl (je rfl .str rfl q.isinstance (ae 0) rfl q.str Da) (λ_=>rfl)))) (λ_ _ _ _ _ t5=>(ae 1)) (adE rfl rfl ⋯) ⋯) λ_=>rfl)
abbrev nB:DF:=dL 40 4 [.v,.v,.v] 3 jB
def J5(D:DI v nB)(q:NB v)(ny:jO.C v):D.O:=
 OY D λhr nd bO dz jU=>
 (sv 3 nd (eC ny hr (av 0 ai)) λdQ=>
 (sl 4 nd (aU (n:=0) ai rfl) λyh=>
 (SF.Ob (hd:=(λ(s5:O PV)=>([some (.val bO),some (.val dz),some (.val jU),some (.val dQ),some (.ol ci s5),ci,ci,ci,ci]:aG))) (s0:=yh) Av rfl (oY rfl rfl q.enumerate (bG (ae 2))) (.refl _) (λ_=>(O2 rfl (eU rfl (aM (cT 5 nd) (aM (cT 6 nd) dc))))) (λs5 t7=>
 (SF.Ob (hd:=(λ(s9:O PV)=>([some (.val bO),some (.val dz),some (.val jU),some (.val dQ),some (.ol ci s9),some (.val t7.1),some (.val t7.2),ci,ci]:aG))) (s0:=s5) Av rfl (oY rfl rfl q.enumerate (bG (ae 1))) (.refl _) (λ_=>(O2 rfl (eU rfl (aM (cT 7 nd) (aM (cT 8 nd) dc))))) (λs9 Th=>
 (SF.ifT (O7.t (Jj (fw adP (ae 8) (ae 6)) (xM (O7.t (aco (fw Kf (aZ rfl (aA (ae 3)) (ae 7)) kg) (YD (fw XI (ae 6) (aZ rfl (aA (ae 1)) (aZ rfl (aA (ae 3)) (ae 7))))))))))
 (SF.append 4 rfl rfl rfl (.inl rfl) (aV (n:=2) (av 7 (av 5 ai)) rfl) λHd=>
 (SF.cY rfl (.m 384)))
 (SF.cY rfl (.m 384)))) λs9=>
 (SF.cY rfl (.m 96)))) λs5=>
 (SF.Uw 4 rfl rfl))))
abbrev qC:DF:=dv 41 2 5 lO
def NM(D:DI v qC)(q:NB v)(gV:jh.C v)(qu:lZ.C v):D.O:=
 vg D λhr nd fm dz jU oy QU=>
 (sv 5 nd (aZ rfl (aA (ae 4)) aw) λlU=>
 (sv 6 nd (aZ rfl (aA (ae 4)) aw) λoU=>
 (sv 7 nd (uP XI (aZ rfl (aA (ae 1)) (ae 5)) (aZ rfl (aA (ae 2)) (ae 6))) λxf=>
 (sv 8 nd (vT (gH rfl (ae 7) (λ_=>rfl)) (aV (n:=1) (av 5 ai) rfl) (eC gV hr (ag (aZ rfl (aA (ae 0)) (ae 5)) ai))) λbelow_4=>
 (sv 9 nd (dN rfl rfl q.tuple (og (iw rfl oT (bu rfl (bG (ae 8))) (λ_ _ _ _ _=>(cT 0 oT.nd)) (λ_ _ _ _ _ p9=>(k6 (aY hr) (ae 2) (aV (n:=2) (av 0 (ag (uO (ae 1) aw) ai)) rfl) (λ_ _=>rfl))) rfl))) λLq=>
 (sv 10 nd (dN rfl rfl q.tuple (og (HB rfl oS (VH (ae 3)) (λ_ _ _ _ _=>(cT 0 oS.nd)) (λ_ _ _ _ _ Ċ=>(O7.t (Jj (fw (iY rfl (aY hr)) (aZ rfl (aA (ae 0)) aw) (ae 2)) (xM (fw (XH rfl (aY hr)) (aZ rfl (aA (ae 0)) aw) (ae 1)))))) (λ_ _ _ _ _ Ċ=>(k6 (aY hr) (ae 3) (ae 0) (λ_ _=>rfl))) rfl))) λxD=>
 (SF.d9 (aV (n:=4) (ag (eC qu hr (av 0 (av 5 ai))) (av 6 (av 9 (av 10 ai)))) rfl) λ_=>rfl)))))))
abbrev zI:DF:=dv 42 5 2 lQ
def VB(D:DI v zI)(q:NB v)(jI:lY.C v)(vP:iE.C v)(Km:nB.C v)(N8:qC.C v):D.O:=
 vg D λhr nd bO dz=>
 (sv 2 nd (eC jI hr (av 0 ai)) λfM=>
 (sl 3 nd (j9 rfl (cf (aU (n:=1) (ag aw ai) rfl)) (cf (Vq rfl rfl q.sorted (cf (lC vP hr (av 2 (av 1 ai))))))) λuZ=>
 SF.bA 3 rfl (sl 4 nd (lC Km hr (av 0 (av 1 (av 3 ai)))) λyg=>
 SF.bA 4 rfl (sv 5 nd (ai5 (Wr rfl rfl (aY hr) rfl q.dict (cf (ZT rfl ng (oY rfl rfl q.enumerate (bG (ae 4))) (λ_ _ _ _ _=>(O2 rfl (eU rfl (aM (cT 0 ng.nd) (aM (cT 1 ng.nd) dc))))) (λ_ _ _ _ _ ĸ=>(aV (n:=2) (av 1 (av 0 ai)) rfl)) (adE rfl rfl ⋯) ⋯)))) λtM=>
 (SF.d9 (dN rfl rfl q.tuple (og (iw rfl uh (bu rfl (bG (ae 4))) (λ_ _ _ _ _=>(cT 0 uh.nd)) (λ_ _ _ _ _ p21=>(eC N8 hr (av 3 (av 2 (av 1 (av 4 (av 0 ai))))))) rfl))) λ_=>rfl)))))
abbrev nJ:DF:=dL 44 1 [.v] 1 gz
def Ke(D:DI v nJ)(q:NB v):D.O:=
 OY D λhr nd da=>
 (sv 1 nd (cj rfl (c9 rfl rfl q.len (ae 0)) aw) λJz=>
 (SF.kY (hd:=(λ(s5:PV)=>([some (.val da),some (.val s5),ci]:aG))) (s0:=Jz) Av rfl (bu rfl (qZ (ZR rfl (fR (ae 0)) tL (yo aw)))) (.refl _) (cT 2 nd) (λs5 SW=>
 (sv 1 nd (X8 (cj rfl (cj rfl (X7 (ae 1) aw) (X8 (ae 2) (Ss aw aw))) aw) aw) λP5=>
 (SF.cY rfl (.m 4)))) λs5=>
 (SF.kF (aU (n:=3) (ag (aeU (HB rfl mJ (bu rfl (qZ (ZR rfl (fR (ae 0)) tL (yo aw)))) (λ_ _ _ _ _=>(cT 0 mJ.nd)) (λ_ _ _ _ _ ï=>(fw adR (ae 0) (Ss aw aw))) (λ_ _ _ _ _ ï=>(ae 0)) rfl)) (av 1 (ag aw ai))) rfl) λ_=>rfl)))
abbrev cA:DF:=dV 45 1 [.p fU 1,.v] 1 bV
abbrev jk:DF:=dV 46 2 [.p fU 1,.v] 1 gE
def NQ(D:DI v jk)(q:NB v)(aN:cA.C v):D.O:=
 Q8 D λj hr nd qM=>
 (SF.d9 (aZ rfl (aA (ae 1)) (eP 0 aN hr (ag (c9 rfl rfl q.len (ae 1)) ai))) λ_=>rfl)
abbrev iI:DF:=dV 47 2 [.p fU 300,.v] 1 bT
theorem vJ(D:DI v iI)(q:NB v)(aN:cA.C v):D.O:=
 Q8 D λj hr nd qM=>
 (sl 2 nd (J1 rfl rfl q.list (aA (ae 1))) λJZ=>
 (SF.kq (hd:=(λ(j3:Nat) (s2:O PV)=>([some (.cJ fU (j+0+3*j3+0) (j+300)),some (.val qM),some (.ol ci s2),ci,ci]:aG))) (hE:=(λ(s2:O PV)=>([some (.cJ fU (j+300) (j+300)),some (.val qM),some (.ol ci s2),ci,ci]:aG))) (s0:=JZ) Av (.bump (.refl _) ⟨by omega,by omega⟩) (λj3 s2=>(fw adQ (nA rfl rfl q.len (eQ 2)) aw)) (λj3 s2 _=>
 (SF.Zk 2 3 rfl ⋯ rfl rfl (.inl rfl) nd rfl (B1 rfl) (eP 0 aN hr (ag (nA rfl rfl q.len (eQ 2)) ai)) λt7=>
 (SF.Zk 2 4 rfl ⋯ rfl rfl (.inl rfl) nd rfl (B1 rfl) (eP 0 aN hr (ag (nA rfl rfl q.len (eQ 2)) ai)) λTh=>
 (SF.insert 2 rfl rfl rfl (.inl rfl) (eP 0 aN hr (ag (cj rfl (nA rfl rfl q.len (eQ 2)) aw) ai)) (aV (n:=2) (av 3 (av 4 ai)) rfl) λMa=>
 (SF.cY rfl (.bump (.m 12) ⟨by omega,by omega⟩)))))) (λj3 _ _=>(.bump (.refl _) ⟨by omega,by omega⟩)) λs2=>
 (SF.d9 (aZ rfl (eQ 2) aw) λ_=>rfl)))
abbrev jP:DF:=dV 48 3 [.p fU 16777819,.v,.v] 2 gs
theorem yM(D:DI v jP)(q:NB v)(aN:cA.C v)(mK:iI.C v)(jb:jk.C v):D.O:=
 Q8 D λj hr nd aeC Xn=>
 (SF.P0 (aZ rfl (og (aU (n:=2) (ag (aV (n:=2) (av 1 (av 2 ai)) rfl) (ag (aV (n:=2) (ag aw (ag aw ai)) rfl) ai)) rfl)) (zr rfl q.int (uP (iY rfl (aY hr)) (eP 0 aN hr (ag aw ai)) aw))) (O2 rfl (eU rfl (aM (cT 3 nd) (aM (cT 4 nd) dc)))) λt9=>
 (sl 5 nd (ZR rfl (cf (aU (n:=8) (ag cQ (ag cQ (ag cQ (ag cQ (ag cQ (ag cQ (ag cQ (ag cQ ai)))))))) rfl)) tL (yo (cj rfl aw (eP 0 aN hr (av 3 ai))))) λsV=>
 SF.bA 5 rfl (sv 6 nd (eP 0 mK hr (av 5 ai)) λHV=>
 (SF.as (S2 (k:=7) (n:=((((j+1)+1)+300)+1)) (m:=(j+16777819)) 0 1 1 (j+16777519) rfl nd rfl rfl jZ (eE rfl q.range (cj rfl aw (eP 0 aN hr (av 4 ai)))) (λ_ _ _ _ _=>(cT 0 jZ.nd)) (λ_ _ _ _ _ j30 p29 _=>(eP 1 jb hr (av 2 ai))) (λj30 _ _=>(.drop (.bump (.m 0) ⟨by omega,by omega⟩))) ⟨by omega,by omega⟩ rfl) λIb=>
 SF.bA 7 rfl (SF.d9 (aV (n:=2) (av 6 (ag (eP 0 mK hr (av 7 ai)) ai)) rfl) λ_=>rfl)))))
abbrev gD:DF:=dL 49 12 [.v] 1 (a7 12)
theorem oV(D:DI v gD)(q:NB v):∀n,mz v.P v.w v.K v.mg v.base I0 (n+0) D.f D.fd (Nk (top 49)) (GU v.K [.v] (vo 1 (a7 n)))
 |0=>aeA (Ui λl Q hl=>match l,hl with|[cV],_=>λh=>h.elim)
 |n+1=>have de:=D.cN (oV D q n)
  fnL (k:=n+0) (n:=1) (m:=a7 (n+1)) D.fn dB rfl (Xg L4) λ_ l hl=>match l,hl with|[cV],_=>λ_ _ _ _ _ _ hr=>show SF _ _ _ [some (.val cV),ci,ci,ci,ci] _ (a7 (n+1) cV) _ from
 (SF.ifR (gH rfl (je rfl .str rfl q.isinstance (ae 0) rfl q.str Da) (λ_=>rfl))
 (SF.kF (aU (n:=1) (av 0 ai) rfl) λ_=>rfl)
 (sl 1 dB.nd (lC de hr (ag (aZ rfl (aA (ae 0)) aw) ai)) λtJ=>
 SF.bA 1 rfl (sl 2 dB.nd (lC de hr (ag (aZ rfl (aA (ae 0)) aw) ai)) λsC=>
 SF.bA 2 rfl (sl 3 dB.nd (aU (n:=0) ai rfl) λR7=>
 (SF.kY (hd:=(λ(s7:O PV)=>([some (.val cV),some (.val (.cl tJ)),some (.val (.cl sC)),some (.ol ci s7),ci]:aG))) (s0:=R7) Av rfl (bu rfl (bG (ae 2))) (.refl _) (cT 4 dB.nd) (λs7 tR=>
 (SF.append 3 rfl rfl rfl (.inl rfl) (vT (gH rfl (je rfl .str rfl q.isinstance (ae 4) rfl q.str Da) (λ_=>rfl)) (ae 4) (aV (n:=2) (ag (cj rfl (aZ rfl (aA (ae 4)) aw) (c9 rfl rfl q.len (ae 1))) (ag (cj rfl (aZ rfl (aA (ae 4)) aw) (c9 rfl rfl q.len (ae 1))) ai)) rfl)) λX1=>
 (SF.cY rfl (.m 16)))) λs7=>
 (SF.bA 3 rfl (SF.kF (j9 rfl (cf (j9 rfl (fR (ae 1)) (fR (ae 3)))) (cf (aU (n:=1) (ag (aV (n:=2) (ag (uO (c9 rfl rfl q.len (ae 1)) aw) (ag (uO (cj rfl (c9 rfl rfl q.len (ae 1)) (c9 rfl rfl q.len (ae 2))) aw) ai)) rfl) ai) rfl))) λ_=>rfl)))))))
abbrev jS:DF:=dV 50 13 [.p fU 16777316,.v] 1 c7
theorem yP(D:DI v jS)(q:NB v)(de:gD.C v)(aN:cA.C v)(jb:jk.C v):D.O:=
 Q8 D λj hr nd bO=>
 (sl 2 nd (lC de hr (av 1 ai)) λeT=>
 SF.bA 2 rfl (SF.adk (i:=3) (j:=4) rfl nd rfl rfl ⋯ rfl rfl (aU (n:=1) (ag (uO (c9 rfl rfl q.len (ae 2)) aw) ai) rfl) (aU (n:=0) ai rfl) λKu yi=>
 (SF.kq (hd:=(λ(j7:Nat) (s6:O PV×O PV)=>([some (.cJ fU (j+0+1*j7+0) (j+16777316)),some (.val bO),some (.val (.cl eT)),some (.ol ci s6.1),some (.ol ci s6.2),ci,ci,ci]:aG))) (hE:=(λ(s6:O PV×O PV)=>([some (.cJ fU (j+100) (j+16777316)),some (.val bO),some (.val (.cl eT)),some (.ol ci s6.1),some (.ol ci s6.2),ci,ci,ci]:aG))) (s0:=(Ku,yi)) Av (.bump (.refl _) ⟨by omega,by omega⟩) (λj7 s6=>(acs rfl (aY hr) (ya 3))) (λj7 s6 _=>
 (SF.Zk 3 5 rfl ⋯ rfl rfl (.inl rfl) nd rfl (B1 rfl) (eP 0 aN hr (ag (nA rfl rfl q.len (eQ 3)) ai)) λt12=>
 (SF.ifT (Ly (gH rfl (je rfl .str rfl q.isinstance (aZ rfl (aA (ae 2)) (ae 5)) rfl q.str Da) (λ_=>rfl)))
 (SF.append 4 rfl rfl rfl (.inl rfl) (ae 5) λHg=>
 (sl 3 nd (j9 rfl (ya 3) (cf (J1 rfl rfl q.list (aA (aZ rfl (aA (ae 2)) (ae 5)))))) λMm=>
 (SF.cY rfl (.bump (.m 16) ⟨by omega,by omega⟩))))
 (SF.cY rfl (.bump (.m 16) ⟨by omega,by omega⟩))))) (λj7 _ _=>(.bump (.refl _) ⟨by omega,by omega⟩)) λs6=>
 (sl 6 nd (Xt (aU (n:=1) (ag aw ai) rfl) (c9 rfl rfl q.len (ae 2))) λiD=>
 (sv 7 nd aw λzG=>
 (SF.XX (hd:=(λ(ł:Nat) (OW:O PV×PV)=>([some (.cJ fU (j+100+1*ł+0) (j+16777316)),some (.val bO),some (.val (.cl eT)),some (.ol ci s6.1),some (.ol ci s6.2),ci,some (.ol ci OW.1),some (.val OW.2)]:aG))) (hE:=(λ(OW:O PV×PV)=>([some (.cJ fU (j+16777316) (j+16777316)),some (.val bO),some (.val (.cl eT)),some (.ol ci s6.1),some (.ol ci s6.2),ci,some (.ol ci OW.1),some (.val OW.2)]:aG))) (s0:=(iD,zG)) Av rfl (bu rfl (qZ (adF rfl (ya 4) tL tL (yo (xo aw))))) (.bump (.refl _) ⟨by omega,by omega⟩) (cT 5 nd) (λł OW HN _=>
 (sv 7 nd (cj rfl (cj rfl (ae 7) aw) (eP 0 jb hr (ag (gX (aU (n:=4) (ag aw (ag aw (ag aw (ag aw ai)))) rfl)) ai))) λzF=>
 (SF.P1 6 rfl rfl (.inl rfl) (ae 7) (ae 5) λmN=>
 (SF.cY rfl (.bump (.m 16) ⟨by omega,by omega⟩))))) (λł _ _=>(.bump (.refl _) ⟨by omega,by omega⟩)) λOW=>
 (SF.d9 (dN rfl rfl q.tuple (eQ 6)) λ_=>rfl)))))))
abbrev iH:DF:=dV 51 3 [.p fU 67108864] 0 dM
theorem vI(D:DI v iH)(q:NB v)(aN:cA.C v)(jb:jk.C v):D.O:=
 Q8 D λj hr nd=>
 (sl 1 nd (aU (n:=0) ai rfl) λzh=>
 (SF.XX (hd:=(λ(j4:Nat) (s3:O PV)=>([some (.cJ fU (j+0+4*j4+0) (j+67108864)),some (.ol ci s3),ci,ci]:aG))) (hE:=(λ(s3:O PV)=>([some (.cJ fU (j+67108864) (j+67108864)),some (.ol ci s3),ci,ci]:aG))) (s0:=zh) Av rfl (eE rfl q.range aw) (.bump (.refl _) ⟨by omega,by omega⟩) (cT 2 nd) (λj4 s3 k_5 _=>
 (sv 3 nd (cj rfl (Ss aw aw) (eP 0 aN hr (ag aw ai))) λMj=>
 (SF.append 1 rfl rfl rfl (.inl rfl) (eP 0 jb hr (ag (gX (aU (n:=9) (ag aw (ag aw (ag aw (ag aw (ag (eP 0 aN hr (ag aw ai)) (ag (eP 0 aN hr (ag aw ai)) (ag aw (ag aw (av 3 ai))))))))) rfl)) ai)) λMn=>
 (SF.cY rfl (.bump (.m 6) ⟨by omega,by omega⟩))))) (λj4 _ _=>(.bump (.refl _) ⟨by omega,by omega⟩)) λs3=>
 (SF.d9 (dN rfl rfl q.tuple (eQ 1)) λ_=>rfl)))
abbrev iG:DF:=dv 52 1 4 cK
def vH(D:DI v iG)(q:NB v):D.O:=
 vg D λhr nd bc bh cF bx=>
 (SF.P0 (aZ rfl (aA (ae 0)) (ae 3)) (g_4 rfl (eU rfl (aM (cT 4 nd) (aM (cT 5 nd) (aM (cT 6 nd) (aM (cT 7 nd) dc)))))) λt3=>
 (SF.ifR (gH rfl (je rfl .str rfl q.isinstance (aZ rfl (aA (ae 1)) (ae 2)) rfl q.str Da) (λ_=>rfl))
 (SF.d9 (gX (Xt (aU (n:=1) (ag (aV (n:=0) ai rfl) ai) rfl) (zr rfl q.int (X9 (uP (iY rfl (aY hr)) (ae 6) (aV (n:=0) ai rfl)) (X6 (uP (iY rfl (aY hr)) (ae 4) (aZ rfl (aA (ae 1)) (ae 2)))))))) λ_=>rfl)
 (sl 8 nd (aU (n:=1) (ag (aV (n:=3) (ag cQ (av 3 (av 3 ai))) rfl) ai) rfl) λzg=>
 SF.bA 8 rfl (SF.kY (hd:=(λ(W6:PV)=>([some (.val bc),some (.val bh),some (.val cF),some (.val bx),some (.val t3.1),some (.val t3.2.1),some (.val t3.2.2.1),some (.val t3.2.2.2),some (.val W6),ci]:aG))) (s0:=(.cl zg)) Av rfl (bu rfl (bG (ae 7))) (.refl _) (cT 9 nd) (λW6 tj=>
 (sl 8 nd (j9 rfl (fR (ae 8)) (cf (aU (n:=2) (ag (aV (n:=3) (ag cQ (av 3 (av 9 ai))) rfl) (ag (aV (n:=3) (ag cQ (av 9 (av 3 ai))) rfl) ai)) rfl))) λIe=>
 SF.bA 8 rfl (SF.cY rfl (.m 512)))) λW6=>
 (SF.ifS (out1:=λ(ĝ:PV)=>.nx ([some (.val bc),some (.val bh),some (.val cF),some (.val bx),some (.val t3.1),some (.val t3.2.1),some (.val t3.2.2.1),some (.val t3.2.2.2),some (.val ĝ),ci]:aG)) (fw (iY rfl (aY hr)) (c9 rfl rfl q.len (ae 6)) aw)
 (sl 8 nd (j9 rfl (fR (ae 8)) (cf (aU (n:=2) (ag (aV (n:=3) (ag cQ (ag (aZ rfl (aA (ae 6)) aw) (ag (aZ rfl (aA (ae 6)) aw) ai))) rfl) (ag (aV (n:=3) (ag cQ (ag (aZ rfl (aA (ae 6)) aw) (ag (aZ rfl (aA (ae 6)) aw) ai))) rfl) ai)) rfl))) λkW=>
 SF.bA 8 rfl (SF.nil rfl (.refl _)))
 (SF.nil rfl (.refl _))
 λĝ=>(SF.d9 (ae 8) λ_=>rfl))))))
abbrev cM:DF:=⟨"_law_better",top 53,["_law_found","_law_n","_law_cost"],1,λK=>acJ K λkv l=>vo 2 (iu kv) l⟩
abbrev jR:DF:=dv 54 2 5 gA
def yO(D:DI v jR)(q:NB v)(dD:cM.C v)(vQ:iG.C v):D.O:=
 vg D λhr nd bc bh d8 mV aR=>
 (SF.P0 (ae 3) (O2 rfl (eU rfl (aM (cT 5 nd) (aM (cT 6 nd) dc)))) λt3=>
 (sv 7 nd (aZ rfl (aA (aZ rfl (aA (ae 0)) (ae 6))) aw) λhJ=>
 (SF.acO (i:=8) nd rfl (B1 rfl)
 (SF.kY (hd:=(λ(s6:O (Key×PV))=>([some (.val bc),some (.val bh),some (.val d8),some (.val mV),some (.val aR),some (.val t3.1),some (.val t3.2),some (.val hJ),some (.od s6),ci,ci,ci,ci,ci,ci,ci,ci,ci,ci]:aG))) (s0:=[]) Av rfl (bu rfl (bG (ae 7))) (.refl _) (cT 9 nd) (λs6 sf=>
 (SF.kY (hd:=(λ(s8:O (Key×PV))=>([some (.val bc),some (.val bh),some (.val d8),some (.val mV),some (.val aR),some (.val t3.1),some (.val t3.2),some (.val hJ),some (.od s8),some (.val sf),ci,ci,ci,ci,ci,ci,ci,ci,ci]:aG))) (s0:=s6) Av rfl (oX (aZ rfl (aA (aZ rfl (aA (ae 2)) (ae 5))) (ae 9))) (.refl _) (cT 10 nd) (λs8 ľ=>
 (SF.zN 8 dD hr rfl rfl (.inl rfl) (ae 10) (cj rfl (k6 (aY hr) (aZ rfl (aA (aZ rfl (aA (ae 2)) (ae 5))) (ae 9)) (ae 10) (λ_ _=>rfl)) (X7 (k6 (aY hr) (ae 4) cQ (λ_ _=>rfl)) (zr rfl q.int (uP (iY rfl (aY hr)) (c9 rfl rfl q.len (ae 7)) aw)))) λIg=>
 (SF.cY rfl (.m 1024)))) λs8=>
 (SF.cY rfl (.m 512)))) λs6=>
 (SF.kY (hd:=(λ(Us:O (Key×PV))=>([some (.val bc),some (.val bh),some (.val d8),some (.val mV),some (.val aR),some (.val t3.1),some (.val t3.2),some (.val hJ),some (.od Us),ci,ci,ci,ci,ci,ci,ci,ci,ci,ci]:aG))) (s0:=s6) Av rfl (bu rfl (bG (eC vQ hr (av 0 (av 1 (av 5 (av 6 ai))))))) (.refl _) (cT 11 nd) (λUs gI=>
 (SF.ifR (fw (iY rfl (aY hr)) (ae 11) (aV (n:=0) ai rfl))
 (SF.putD 8 rfl (aY hr) rfl (.inl rfl) aw aw λIc=>
 (SF.cont (.inl rfl) (.m 2048)))
 (sv 12 nd (k6 (aY hr) (ae 4) (aZ rfl (aA (ae 11)) aw) (λ_ _=>rfl)) λkG=>
 (SF.P0 (aZ rfl (aA (ae 1)) (ae 5)) (O2 rfl (eU rfl (aM (cT 13 nd) (aM (cT 14 nd) dc)))) λYQ=>
 (SF.par (i:=15) (j:=16) rfl nd rfl rfl ⋯ rfl rfl (aZ rfl (aA (aZ rfl (aA (ae 2)) (ae 13))) (aZ rfl (aA (ae 11)) aw)) (aZ rfl (aA (aZ rfl (aA (ae 2)) (ae 14))) (aZ rfl (aA (ae 11)) aw)) λox iU=>
 (SF.kY (hd:=(λ(W4:O (Key×PV))=>([some (.val bc),some (.val bh),some (.val d8),some (.val mV),some (.val aR),some (.val t3.1),some (.val t3.2),some (.val hJ),some (.od W4),ci,ci,some (.val gI),some (.val kG),some (.val YQ.1),some (.val YQ.2),some (.val ox),some (.val iU),ci,ci]:aG))) (s0:=Us) Av rfl (oX (ae 15)) (.refl _) (cT 10 nd) (λW4 Q7=>
 (SF.kY (hd:=(λ(W3:O (Key×PV))=>([some (.val bc),some (.val bh),some (.val d8),some (.val mV),some (.val aR),some (.val t3.1),some (.val t3.2),some (.val hJ),some (.od W3),ci,some (.val Q7),some (.val gI),some (.val kG),some (.val YQ.1),some (.val YQ.2),some (.val ox),some (.val iU),ci,ci]:aG))) (s0:=W4) Av rfl (oX (ae 16)) (.refl _) (cT 17 nd) (λW3 Vl=>
 (sv 18 nd (cj rfl (k6 (aY hr) (ae 15) (ae 10) (λ_ _=>rfl)) (k6 (aY hr) (ae 16) (ae 17) (λ_ _=>rfl))) λyr=>
 (SF.ifT (fw Kf (ae 12) kg)
 (SF.zN 8 dD hr rfl rfl (.inl rfl) (cj rfl (cj rfl (ae 10) (ae 17)) aw) (ae 18) λkW=>
 (SF.cY rfl (.m 393216)))
 (SF.zN 8 dD hr rfl rfl (.inl rfl) (cj rfl (ae 10) (ae 17)) (cj rfl (ae 18) (ae 12)) λH9=>
 (SF.cY rfl (.m 393216)))))) λW3=>
 (SF.cY rfl (.m 1024)))) λW4=>
 (SF.cY rfl (.m 129024)))))))) λUs=>
 (SF.bA 8 rfl (SF.d9 (ae 8) λ_=>rfl)))))))
abbrev jQ:DF:=dv 55 3 3 gw
def yN(D:DI v jQ)(q:NB v)(zb:jR.C v)(dD:cM.C v):D.O:=
 vg D λhr nd bc bh aR=>
 (SF.acM (i:=3) nd rfl (B1 rfl)
 (SF.kY (hd:=(λ(s3:(O f8×O (O PV)))=>([some (.val bc),some (.val bh),some (.val aR),some (.qO s3.1 s3.2),ci,ci,ci,ci,ci,ci]:aG))) (s0:=(([]:O f8),([]:O (O PV)))) Av rfl (eE rfl q.range (c9 rfl rfl q.len (ae 1))) (.refl _) (cT 4 nd) (λs3 mZ=>
 (SF.S4 3 rfl rfl rfl (.inl rfl) (aU (n:=0) ai rfl) λb6 JA=>
 (SF.kY (hd:=(λ(s9:(O f8×O (O PV)))=>([some (.val bc),some (.val bh),some (.val aR),some (.qO s9.1 s9.2),some (.val mZ),ci,ci,ci,ci,ci]:aG))) (s0:=(b6,JA)) Av rfl (eE rfl q.range (c9 rfl rfl q.len (ae 0))) (.refl _) (cT 5 nd) (λs9 LH=>
 (SF.S5 3 rfl rfl rfl (.inl rfl) (ae 4) (SE 3 rfl rfl (eC zb hr (av 0 (av 1 (av 3 (ag (aV (n:=2) (av 4 (av 5 ai)) rfl) (av 2 ai))))))) (λ_ _=>rfl) λLQ=>
 (SF.cY rfl (.m 32)))) λs9=>
 (SF.cY rfl (.m 16))))) λs3=>
 (SF.acO (i:=6) nd rfl (Cd rfl)
 (SF.aeu 3 rfl (SF.bA 3 rfl (SF.kY (hd:=(λ(W5:O (Key×PV))=>([some (.val bc),some (.val bh),some (.val aR),some (.val (.cl (s3.2.map PV.cl))),ci,ci,some (.od W5),ci,ci,ci]:aG))) (s0:=[]) Av rfl (bu rfl (bG (aZ rfl (aA (ae 3)) (xo aw)))) (.refl _) (cT 7 nd) (λW5 fo=>
 (SF.kY (hd:=(λ(YV:O (Key×PV))=>([some (.val bc),some (.val bh),some (.val aR),some (.val (.cl (s3.2.map PV.cl))),ci,ci,some (.od YV),some (.val fo),ci,ci]:aG))) (s0:=W5) Av rfl (oX (ae 7)) (.refl _) (cT 8 nd) (λYV ZH=>
 (SF.zN 6 dD hr rfl rfl (.inr (.inl rfl)) (ae 8) (k6 (aY hr) (ae 7) (ae 8) (λ_ _=>rfl)) λIa=>
 (SF.cY rfl (.m 256)))) λYV=>
 (SF.cY rfl (.m 128)))) λW5=>
 (sv 9 nd (nA rfl rfl q.len (og (HB rfl j8 (bu rfl (bG (ae 1))) (λ_ _ _ _ _=>(cT 0 j8.nd)) (λ_ _ _ _ _ Tn=>(Ly (gH rfl (je rfl .str rfl q.isinstance (ae 0) rfl q.str Da) (λ_=>rfl)))) (λ_ _ _ _ _ Tn=>(ae 0)) rfl))) λHK=>
 (SF.bA 6 rfl (SF.d9 (dN rfl rfl q.tuple (og (iw rfl j6 (eE rfl q.range (cj rfl (ae 9) aw)) (λ_ _ _ _ _=>(cT 0 j6.nd)) (λ_ _ _ _ _ p40=>(V9 (aY hr) (ae 1) (ae 0) kg)) rfl))) λ_=>rfl)))))))))
abbrev Ya:DF:=dv 56 14 1 tW
set_option maxHeartbeats 20000000 in
theorem adO(D:DI v Ya)(q:NB v)(Kt:nJ.C v)(y9:jP.C v)(aN:cA.C v)(RV:uQ.C v)(VV:zI.C v)(zc:jS.C v)(vR:iH.C v)(za:jQ.C v)(de:gD.C v)(VU:zH.C v):D.O:=
 vg D λhr nd da=>
 (sl 1 nd (lC Kt hr (av 0 ai)) λtE=>SF.fU 1 1970336648134656 rfl
 (SF.R1 (hd:=(λ(j5:Nat) (s4:Unit)=>([some (.val da),some (.cJ fU (0+0+117441216*j5+0) 1970336648134656),ci,ci,ci,ci,ci,ci,ci,ci,ci,ci]:aG))) (hE:=(λ(s4:Unit)=>([some (.val da),some (.cJ fU (0+1970336648134656) 1970336648134656),ci,ci,ci,ci,ci,ci,ci,ci,ci,ci]:aG))) (s0:=()) (inj:=id) Av rfl (eE rfl q.range aw) (.keep (.bump (.refl _) ⟨by omega,by omega⟩)) (cT 2 nd) (λ_=>trivial) (λj5 s4 xN _=>
 (SF.P0 (eP 1 y9 hr (ag aw (ag aw ai))) (O2 rfl (eU rfl (aM (cT 3 nd) (aM (cT 4 nd) dc)))) λOV=>
 (sv 5 nd (vT (fw (iY rfl (aY hr)) (eP 1 (n:=((0+0+117441216*j5+0)+16777819)) aN hr (ag aw ai)) aw) (EF.le (eC RV hr (av 3 ai)) (.keep (.bump (n:=(((0+0+117441216*j5+0)+16777819)+1)) (n':=(0+0+117441216*j5+33555136)) ⟨by omega,by omega⟩ (.refl _)))) (EF.le (eC VV hr (av 3 (ag (eP 1 (n:=(((0+0+117441216*j5+0)+16777819)+1)) zc hr (av 3 ai)) ai))) (.keep (.bump (n:=((((0+0+117441216*j5+0)+16777819)+1)+16777316)) (n':=(0+0+117441216*j5+33555136)) ⟨by omega,by omega⟩ (.refl _))))) λiM=>
 (sv 6 nd (eP 1 vR hr ai) λbN=>
 (SF.R1 (hd:=(λ(ó:Nat) (Ć:Unit)=>([some (.val da),some (.cJ fU (0+0+117441216*j5+100664000+1*ó+0) 1970336648134656),some (.val xN),some (.val OV.1),some (.val OV.2),some (.val iM),some (.val bN),ci,ci,ci,ci,ci]:aG))) (hE:=(λ(Ć:Unit)=>([some (.val da),some (.cJ fU (0+0+117441216*j5+117441216) 1970336648134656),some (.val xN),some (.val OV.1),some (.val OV.2),some (.val iM),some (.val bN),ci,ci,ci,ci,ci]:aG))) (s0:=()) (inj:=Lp.out) Av rfl (bu rfl (bG (aV (n:=3) (ag cQ (ag cQ (ag cQ ai))) rfl))) (.keep (.bump (.refl _) ⟨by omega,by omega⟩)) (cT 7 nd) (λ_=>trivial) (λó Ć pq _=>
 (SF.acN (i:=8) nd rfl (B1 rfl) (Wq rfl rfl rfl q.dict rfl q.zip (qZ (aU (n:=4) (ag cQ (ag cQ (ag cQ (ag cQ ai)))) rfl)) (bG (ae 6))) λLu=>
 (SF.putD 8 rfl (aY hr) rfl (.inl rfl) kg (ae 7) λxP=>
 (SF.bA 8 rfl (sv 9 nd (eC za hr (av 5 (ag (gX (lC de hr (av 4 ai))) (av 8 ai)))) λKR=>
 (sl 10 nd (J1 rfl rfl q.list (aA (ae 6))) λHf=>
 (SF.P1 10 rfl rfl (.inl rfl) (eP 1 aN hr (ag aw ai)) (V8 rfl (aY hr) (cf (aU (n:=3) (ag cQ (ag cQ (ag cQ ai))) rfl)) (ae 7)) λtH=>
 (SF.aew (hd:=(λ(Ĝ:Unit)=>([some (.val da),some (.cJ fU (0+0+117441216*j5+100664000+1*ó+1) 1970336648134656),some (.val xN),some (.val OV.1),some (.val OV.2),some (.val iM),some (.val bN),some (.val pq),some (.val (qB xP)),some (.val KR),some (.ol ci tH),ci]:aG))) (s0:=()) (inj:=Lp.out) Av rfl (bu rfl (bG (aV (n:=2) (av 6 (ag (dN rfl rfl q.tuple (eQ 10)) ai)) rfl))) (.keep (.bump (.refl _) ⟨by omega,by omega⟩)) (cT 11 nd) (λ_=>trivial) (λĜ IG=>
 (SF.ifT (fw (XH rfl (aY hr)) (Sq rfl hr rfl q.repr (eC VU hr (av 5 (av 4 (av 11 (av 7 ai)))))) (Sq rfl hr rfl q.repr (ae 9)))
 (SF.ret (k:=λx59=>(Lp.out x59)) aeV λ_=>rfl)
 (SF.cY rfl (.keep (.bump (.m 512) ⟨by omega,by omega⟩))))) λĜ=>
 (SF.cY rfl (.keep (.bump (.m 480) ⟨by omega,by omega⟩))))))))))) (λó _ _=>(.keep (.bump (.refl _) ⟨by omega,by omega⟩))) λĆ=>
 (SF.cY rfl (.keep (.bump (.m 31) ⟨by omega,by omega⟩)))))))) (λj5 _ _=>(.keep (.bump (.refl _) ⟨by omega,by omega⟩))) λs4=>
 (SF.d9 aeV λ_=>rfl)))
section
local macro_rules | `(tactic| one_sign) => `(tactic| ((try dsimp only); first
 |with_reducible refine Y3 ?_
 |with_reducible refine Y8 ?_
 |with_reducible refine UA ?_
 |((with_reducible refine Qd (v:=?rdV) ?rdE ?_);case rdE=>exact rfl)
 |with_reducible refine ahn ?_
 |with_reducible refine W8 ?_
 |with_reducible refine aju ?_
 |with_reducible refine ajB ?_
 |((with_reducible refine ahq ?rdC ?_);try (case rdC=>first|lia|exact⟨by omega,by omega⟩|exact Xm ∅ ∅ | exact mul_r ∅ ∅ | exact Vc ⟨by omega,by omega⟩ ⟨by omega,by omega⟩|exact⟨by decide,by decide,by decide⟩))
 |with_reducible refine UD ?_
 |with_reducible refine Y4 ?_
 |with_reducible refine UB ?_
 |with_reducible refine Y7 ?_
 |with_reducible refine LR ?_
 |with_reducible refine ajv ?_
 |with_reducible refine Y9 ?_
 |with_reducible refine ajx ?_
 |with_reducible refine ahk ?_
 |with_reducible refine afA ?_
 |with_reducible refine ahj ?_
 |with_reducible refine afv ?_
 |with_reducible refine ajz ?_
 |with_reducible refine Y5 ?_
 |with_reducible refine UC ?_
 |with_reducible refine ahg ?_
 |with_reducible refine Y6 ?_
 |with_reducible refine afy ?_
 |with_reducible refine ajA ?_
 |with_reducible refine ahm ?_
 |with_reducible refine ahl ?_
 |with_reducible refine acY ?_
 |with_reducible refine aho ?_
 |with_reducible refine acX ?_
 |with_reducible refine Y2 ?_
 |with_reducible refine acW ?_
 |with_reducible refine Uz ?_
 |with_reducible refine ahi ?_
 |with_reducible refine aft ?_
 |with_reducible refine afs ?_
 |with_reducible refine acV ?_
 |with_reducible refine afw ?_
 |with_reducible refine afx ?_
 |with_reducible refine ajw ?_
 |with_reducible refine afu ?_
 |with_reducible refine abu ?_
 |with_reducible refine acU ?_
 |with_reducible refine afz ?_
 |with_reducible refine ajy ?_
 |with_reducible refine ahh ?_
 |with_reducible refine ahp ?_))
local macro_rules | `(tactic| one_item) => `(tactic| repeat (one_sign))
def Kp(a b:f8)(H H':Hp):Prop:=∀c o,c≠a->c≠b->H c=some o->H' c=some o
def Kp.trans(h:Kp a b H H1)(k:Kp a b H1 H2):Kp a b H H2:=λc o n m e=>k c o n m (h c o n m e)
def Kp.same(h:jr H H'):Kp a b H H':=λc o _ _ e=>h c o e
def Kp.xa(h:jq a H H'):Kp a b H H':=λc o n _ e=>h c o n e
def Kp.xb(h:jq b H H'):Kp a b H H':=λc o _ n e=>h c o n e
theorem HG(D:DI v cA):D.O:=by
 have nd:(Hn (top 45)).Nodup:=by decide +kernel
 refine D.fn.ok (N:=Hn (top 45)) fsc (λvs H Q E h=>?_) (λfi A outer s H vs Q E hr h=>?_)
 .obtain⟨_,_,l,h,_⟩:=h;rw[h.len];rfl
 obtain⟨tb,j,l,h,q⟩:=h;cases h with
 | @p a _ _ vs ks l pt jm t=>
 cases t with
 | @v u x vs ks l r t=>
 cases t;obtain⟨j',ws,hj,ea,⟨b,sd,c,rfl,c0,c1⟩,hb⟩:=pt;have eb:dH H b:=hb b (by simp);have q:(bV x).run _:=q;obtain⟨m,rfl⟩:∃m,x=.int m:=by
  cases x with
  |int m=>exact⟨m,rfl⟩
  |_=>exact q.elim
 cases r;obtain⟨⟨m0,m1⟩,q⟩:=q;have ab:a≠b:=λy=>by subst y;rw[show H a=_ from eb]at ea;cases ea
 have jm:j+1<=2 ^ 250:=jm;refine⟨_,pN.shown (eA (G4 Av (PW.pt (Qo (gp (mX v.K rfl hr.Pg) (fB (bW v.K rfl) (pv 0) bg (λ_ _=>rfl)) (su bj) (fV _)) (LV (gp adq (fB (bW v.K rfl) (fB (bW v.K rfl) (pv 0) bg (λ_ _=>rfl)) bg (λ_ _=>rfl)) bg (fV _))))) (lI (hU (jy v.K rfl Bm DU DT Hr (fB (bW v.K rfl) (pv 0) bg (λ_ _=>rfl)) (aJ bg bj)))))
  (eA (G5 (gp (mX v.K rfl hr.Pg) (fB (bW v.K rfl) (pv 0) bg (λ_ _=>rfl)) (su bj) (fV _)) (eA (ir (i:=2) nd rfl (B1 rfl) (dh qd (fB (bW v.K rfl) (fB (bW v.K rfl) (pv 0) bg (λ_ _=>rfl)) bg (λ_ _=>rfl)) (pv 1)))
  (eA (yb (dh yj (fB (bW v.K rfl) (fB (bW v.K rfl) (pv 0) bg (λ_ _=>rfl)) bg (λ_ _=>rfl)) (pv 1)) (JG (fB (bW v.K rfl) (pv 0) bg (λ_ _=>rfl)) bg pZ))
  (lI (tD (pv 2))))) oo)
  (eA (yb (dh (lL v.K rfl) (fB (bW v.K rfl) (pv 0) bg (λ_ _=>rfl)) bg) (JG (pv 0) bg pZ))
  (eA (ir (i:=3) nd rfl (B1 rfl) (dh qd (dh lK (dh (lL v.K rfl) (dh (lL v.K rfl) (fB (bW v.K rfl) (pv 0) bg (λ_ _=>rfl)) (dh lK (dh lK bg (fB (bW v.K rfl) (pv 0) bg (λ_ _=>rfl))) (fB (bW v.K rfl) (pv 0) bg (λ_ _=>rfl)))) bg) bg) bg))
  (eA (ir (i:=3) nd rfl (B1 rfl) (dh qd (dh lK (pv 3) (dh (lL v.K rfl) (dh qd (pv 3) bg) (dh lK bg (fB (bW v.K rfl) (pv 0) bg (λ_ _=>rfl))))) bg))
  (lI (tD (dh qd (dh (lL v.K rfl) (dh yj (pv 3) bg) (dh yj (pv 3) bg)) (pv 1))))))))),?_⟩
 show ∃b,dH H b/\∀ns:O Int,_;refine⟨b,eb,λns=>?_⟩;have fin:∀(d:Int) (H3:Hp) (sd' c':Int) (Ts:O Int),0<=d->d<m->0<=c'->c'<=((j+1:Nat):Int)->Kp a b H H3->H3 a=some (.lst [.ref b,.int sd',.int c'])->H3 b=some (.lst (Ts.map V.int))->(aee b {nx:=λ_ H'=>Q .aB H',rt:=Q}).rt (.int d) H3:=λd H3 sd' c' Ts d0 d1 c2 c3 kp h1 h2=>by
  refine⟨Ts,h2,q _ ⟨d,rfl,d0,d1⟩ _ _ (aiP tb ⟨_,ea⟩ eb (λx o n1 n2 h=>by rw[aj n2];exact kp x o n1 n2 h) (λx hx=>?_) (by rw[aj ab];exact h1) ay ab ⟨c2,c3⟩ λx ψ d ⟨i,p1,_⟩=>?_) (.int d)⟩
  .by_cases xb:x=b
   .subst xb;rw[ay]at hx;cases hx
   .rw[aj xb]at hx;by_cases xa:x=a
    .subst xa;rw[h1]at hx;cases hx
    .cases z:H x with
     |none=>rfl
     |some o=>rw[kp x o xa xb z]at hx;cases hx
  .cases i with
   |zero=>simp at p1
   |succ i=>simp at p1
 have k0:Kp a b H (upd H b (.lst (ns.map V.int))):=λx o nx xb hx=>by rw[aj xb];exact hx
 have a0:upd H b (.lst (ns.map V.int)) a=some (.lst [.ref b,.int sd,.int c]):=by rw[aj ab];exact ea
 have b0:upd H b (.lst (ns.map V.int)) b=some (.lst (ns.map V.int)):=ay;generalize upd H b (.lst (ns.map V.int))=H1 at k0 a0 b0;show _;refine⟨λk σ' H'=>σ'=[some (.ref a),some (.int m),ci,ci]/\Kp a b H H'/\H' a=some (.lst [.ref b,.int sd,.int c])/\∃ns:O Int,H' b=some (.lst (ns.map V.int))/\k=ns.length,⟨_,rfl,k0,a0,ns,b0,rfl⟩,?_⟩;rintro k σ' H2 ⟨rfl,k2,a2,ns2,b2,rfl⟩
 one_item
 refine dq (bM.of a2) rfl ?_
 one_item
 refine⟨Bh _,λp H3 s3 h3 n3=>?_⟩;have a3:=s3 _ _ a2;have b3:=s3 _ _ b2;have k3:=k2.trans (Kp.same s3);refine⟨b,p,ns2.map V.int,rfl,rfl,bM.of b3,bM.of h3,_,rfl,?_⟩;cases ns2 with
 |nil=>
  rw[if_neg ⋯,if_neg ⋯]
  one_item
  refine dq (bM.of a3) rfl ?_
  one_item
  refine⟨Bh _,λp' H4 s4 h4 n4=>?_⟩;have a4:=s4 _ _ a3;have b4:=s4 _ _ b3;have k4:=k3.trans (Kp.same s4);refine⟨b,p',[],rfl,rfl,bM.of b4,bM.of h4,?_⟩
  one_item
  rw[if_neg ⋯]
  one_item
  refine dq (bM.of a4) rfl ?_
  one_item
  refine LU a4 rfl λH5 x5 h5=>?_
  one_item
  refine dq (bM.of h5) rfl ?_
  one_item
  refine dq (bM.of h5) rfl ?_
  one_item
  refine dq (bM.of h5) rfl ?_
  one_item
  refine dq (bM.of h5) rfl ?_
  one_item
  exact fin _ H5 sd (c+1) [] (Int.emod_nonneg _ ∅) (Int.emod_lt_of_pos _ m0) ∅ ∅ (k4.trans (Kp.xa x5)) h5 (x5 _ _ ab.symm b4)
 |cons x r=>
  rw[if_pos (by rfl)]
  one_item
  refine dq (bM.of a3) rfl ?_
  one_item
  have ţ:d5 ((x::r).map V.int) 0=some (.int x):=by simp[d5,nQ]
  refine dq (bM.of b3) ţ ?_
  one_item
  refine⟨rfl,_,rfl,?_⟩;rw[Mz];by_cases hx:x=0
  .subst hx;rw[if_pos (by rfl)];refine⟨λσ' H'=>σ'=[some (.ref a),some (.int m),ci,ci]/\Kp a b H H'/\H' a=some (.lst [.ref b,.int sd,.int c])/\H' b=some (.lst (r.map V.int)),?_,?_⟩
   .rintro σ' H' ⟨z1,z2,z3,z4⟩;exact⟨r.length,by simp,z1,z2,z3,r,z4,rfl⟩
   .one_item
    refine dq (bM.of a3) rfl ?_
    one_item
    refine⟨Y1 b3,?_⟩
    one_item
    obtain⟨i1,i2,i3,i4⟩:=oW (n:=((0::r).map V.int).length) (i:=0) (j:=0) (by simp[nQ]);refine⟨b,_,0,0,_,rfl,rfl,b3,by decide,by decide,i1,rfl,rfl,k3.trans (Kp.xb (wD _)),?_,?_⟩
    .rw[aj ab];exact a3
    .exact ay
  .rw[if_neg (by simpa using hx)]
   one_item
   refine dq (bM.of a3) rfl ?_
   one_item
   refine⟨Bh _,λp' H4 s4 h4 n4=>?_⟩;have a4:=s4 _ _ a3;have b4:=s4 _ _ b3;have k4:=k3.trans (Kp.same s4);refine⟨b,p',_,rfl,rfl,bM.of b4,bM.of h4,?_⟩
   one_item
   rw[if_pos (by rfl)]
   one_item
   refine dq (bM.of a4) rfl ?_
   one_item
   refine dq (bM.of b4) ţ ?_
   one_item
   refine dq (bM.of a4) rfl ?_
   one_item
   refine dq (bM.of b4) ţ ?_
   one_item
   refine dq (bM.of a4) rfl ?_
   one_item
   refine LU b4 (j:=0) (by simp[nQ]) λH5 x5 h5=>?_
   one_item
   exact fin _ H5 sd c ((x / m)::r) (Int.emod_nonneg _ ∅) (Int.emod_lt_of_pos _ m0) c0 ∅ (k4.trans (Kp.xb x5)) (x5 _ _ ab a4) h5
theorem vK(D:DI v cM):D.O:=by
 have nd:(Hn (top 53)).Nodup:=by decide +kernel
 refine D.fn.ok (N:=Hn (top 53)) fsc (λvs H Q E h=>?_) (λfi A outer s H vs Q E hr h=>?_)
 .obtain⟨_,a,Pe,ks,kvs,l,rfl,_,_,r,q⟩:=h;rw[Ax,r.length,lG q];rfl
 obtain⟨tb,a,Pe,ks,kvs,l,rfl,ha,dr,r,q⟩:=h;have hl:=lG q
 match l,hl,r,q with
 |[x,y],_,r,q=>
 cases r with
 | @cons u x us l r1 t=>
 cases t with
 | @cons w y us l r2 t=>
 cases t;have q:(iu kvs x y).run _:=q;have hu0:=aY hr;have hu:(A.deeper (KF cM.x (aK cM.s) s.heap.objs.size D.f fi)).units+1<sn:=by lia
 obtain⟨n,rfl⟩:∃n,x=.int n:=by cases x<;>first|exact⟨_,rfl⟩|exact q.elim
 obtain⟨c,rfl⟩:∃c,y=.int c:=by cases y<;>first|exact⟨_,rfl⟩|exact q.elim
 cases r1;cases r2;refine⟨_,(lI (G5 (PW.pt (Xd (Qu (Np hu (pv 1) (pv 0)) rfl) (Qn (gp Xf (pv 2) (LY hu (pv 0) (pv 1) (λ_ _=>rfl)) (fV _))))) (lI (LW hu (pv 0) (pv 1) (pv 2) rfl)) oo)),?_⟩;have tk:∀x,bb v.K H (upd H a x):=λx=>⟨λb vs z=>by rw[aj (λy=>by subst y;rw[ha]at z;cases z)];exact z,λb o u z=>by rw[aj (λy=>by subst y;rw[ha]at z;cases z)];exact z,xk λb φ z=>by rw[aj (λy=>by subst y;rw[ha]at z;cases z)];exact z⟩;have dr':∀x,bX v.K (upd H a x) ks kvs:=λx=>⟨dr.1,ax.tk (tk x) dr.2⟩;have hd:=dr.has (.inl n);have put:∀{T:TS},kvs.length<sizeLine->(∀NF,bX v.K (upd H a (.dK NF)) NF (mT kvs (.inl n) (.int c))->Q V.aB (upd H a (.dK NF)))->YK (λσ H Q=>Q true H) (W2 (Jt 0) (Jt 1) (Jt 2)) T {nx:=λ_ H'=>Q V.aB H',rt:=Q} (L2.start (Hn (top 53)) [V.ref a,V.int n,V.int c]) H:=λhz q=>
  ⟨.int c,rfl,.ref a,rfl,.int n,rfl,a,_,rfl,OS.k (k:=.inl n) ha (by rw[dr.length];exact hz),q _ (bX.put (dr' _) (.inl n) (.int c))⟩
 show ∃v,_/\∃v',_/\∃a o,v'=V.ref a/\lF H a v o/\∃c,V.bl (!o.isSome)=.bl c/\_;refine⟨.int n,rfl,.ref a,rfl,a,_,rfl,lF.k (k:=.inl n) ha,_,rfl,?_⟩;simp only[iu]at q;cases g:g9 kvs (.inl n) with
 |none=>
  have hn:vO kvs (.inl n)=false:=by
   unfold vO g9 at *;simpa[DJ,List.find?_eq_none]using g
  simp only[g]at q;rw[hd,hn];exact put (T:=LC) q.1 q.2
 |some w=>
  simp only[g]at q;obtain⟨u,h1,h2⟩:=dr.get (.inl n) g;rw[h1];cases w with
  |int d=>
   cases h2;rw[if_neg (by simp)];show Pt _ _ _ _;refine LR (W8 (Qd (v:=.int c) rfl ?_));refine⟨.ref a,rfl,.int n,rfl,a,.int d,rfl,by rw[<- h1];exact lF.k (k:=.inl n) ha,c,d,rfl,rfl,_,rfl,?_⟩;have q:(if c<d then W.dm (kvs.length<sizeLine) (ce (mT kvs (Fh n) (PV.int c))) else ce kvs).run λt=>∀(NF:O (Key×V)),bX v.K (upd H a (HO.dK NF)) NF t->Q V.aB (upd H a (HO.dK NF)):=q;by_cases lt:c<d
   .rw[if_pos lt]at q;rw[decide_eq_true lt];exact put (T:=LC) q.1 q.2
   .rw[if_neg lt]at q;rw[decide_eq_false lt];show Q V.aB H;have e:upd H a (.dK ks)=H:=by
     funext b;by_cases z:b=a
     .subst z;rw[ay];exact ha.symm
     .rw[aj z]
    have q2:=q ks (dr' _);rw[e]at q2;exact q2
  |_=>exact q.elim
def Tr.pv:Tr->PV
 |.leaf x=>.str x
 |.node l r=>.tup [l.pv,r.pv]
variable{t:Tr}
def Ent.pv:Ent->PV
 |.word x=>.str x
 |.pair a b=>.tup [.int (a:Int),.int (b:Int)]
def Ul{l:List α}(h:l≠[]):∃a x,l=a++[x]:=⟨l.dropLast,l.getLast h,(List.dropLast_concat_getLast h).symm⟩
def PY{a b:O Tr}(h:iT a++b=t.post):eO a+b.length=t.size:=by
 have h1:=congrArg B5 h;rw[Ak,t.kH]at h1;have h2:∀l:O Tr,(iT l).length=eO l:=by
  intro l
  induction l with
  |nil=>rfl
  |cons x l ih=>
   have e1:iT (x::l)=x.post++iT l:=rfl;have e2:eO (x::l)=x.size+eO l:=rfl;rw[e1,e2,Ak,ih,x.kH]
 rw[h2]at h1;exact h1
theorem f9{l:O PV}{x:PV}(h:l.length<1000):jo l x=.ret (l++[x]):=sK (by have:=b9 (Al _);lia)
theorem QR(t:Tr)(hz:t.size<=900):(m8 t.pv).le (.ret (t.post.map Tr.pv)):=λQ q=>by
 refine Jg (λn s=>∃ts bs:O Tr,n=eO ts/\s=(bs.map Tr.pv,ts.map Tr.pv)/\iT ts++bs.reverse=t.post) ⟨[t],[],rfl,rfl,by rw[qa];simp⟩ ?_;rintro n s ⟨ts,bs,rfl,rfl,hp⟩;have hs:=PY hp;rw[CI]at hs;by_cases he:ts=[]
 .subst he;have Ħ:bs.reverse=t.post:=hp;simp;rw[<- List.map_reverse,Ħ];exact q
 .obtain⟨us,u,rfl⟩:=Ul he;have Tv:=wX us;rw[gn,pY]at hs;simp;rw[f9 (by rw[Ai];lia)];cases u with
  |leaf x=>
   simp[Tr.pv];refine⟨_,?_,us,rfl,bs++[.leaf x],⟨by simp[Tr.pv],rfl⟩,?_⟩
   .rw[gn,pY];show eO us<eO us+1;lia
   .rw[jx,qa]at hp;rw[F5,<- hp];simp[Tr.post]
  |node c d=>
   have e1:aaR (us.map Tr.pv) [c.pv,d.pv]=.ret (us.map Tr.pv++[c.pv,d.pv]):=sK (b9 (by
    simp;lia))
   simp[Tr.pv,e1];refine⟨_,?_,us++[c,d],rfl,bs++[.node c d],⟨by simp[Tr.pv],by simp⟩,?_⟩
   .have e2:eO [Tr.node c d]=c.size+d.size+1:=by rw[pY];rfl
    have e3:eO [c,d]=c.size+d.size:=by simp[eO]
    rw[gn,gn,e2,e3];lia
   .rw[jx,qa]at hp;rw[F5,<- hp,jx,Ni];simp[Tr.post]
def aL(l:O Nat):O PV:=l.map λ(n:Nat)=>.int (n:Int)
@[simp] theorem iX(l:O Nat):(aL l).length=l.length:=Ai _
@[simp] theorem adB(a b:O Nat):aL (a++b)=aL a++aL b:=AI
@[simp] theorem aby(a:Nat)(l:O Nat):aL (a::l)=.int (a:Int)::aL l:=rfl
@[simp] theorem adA:aL []=[]:=rfl
def i6(n:Nat):kd 0 n=aL (AB n):=by
 refine Ba λi _=>?_;rw[Gj]
theorem Rl{p:Nat->Bool}:∀{l:O Nat},(∀k∈l,f (.int ((k:Nat):Int))=.ret (if p k=true then some (.int ((k:Nat):Int)) else ci))->ml (aL l) f=.ret (aL (l.filter p))
 |[],_=>rfl
 |k::l,h=>by
  show am (f _) (λo=>am (ml (aL l) f) λm=>ce (o.toList++m))=_;rw[h k (.head _),Rl λy hy=>h y (.tail _ hy),De];cases p k<;>rfl
theorem lN{f:PV->W PV}{g:Nat->PV}:∀{l:O Nat},(∀k∈l,f (.int ((k:Nat):Int))=.ret (g k))->bF (aL l) f=.ret (l.map g)
 |[],_=>rfl
 |k::l,h=>by
  show am (f _) (λy=>am (bF (aL l) f) λm=>ce (y::m))=_;rw[h k (.head _),lN λy hy=>h y (.tail _ hy)];rfl
def adD{l:O PV}(g:PV->Option PV)(h:∀x∈l,f x=.ret (g x))(q:Q (l.filterMap g)):(ml l f).run Q:=by rw[ui h];exact q
def Rb{l:O PV}{f:PV->W PV}(g:PV->PV)(h:∀x∈l,f x=.ret (g x))(q:Q (l.map g)):(bF l f).run Q:=by rw[L9 h];exact q
def Rk{l:O Nat}(p:Nat->Bool)(h:∀k∈l,f (.int ((k:Nat):Int))=.ret (if p k=true then some (.int ((k:Nat):Int)) else ci))(q:Q (aL (l.filter p))):(ml (aL l) f).run Q:=by rw[Rl h];exact q
variable{a b v:Int}
theorem oD(t:Tr)(hz:t.size<=900):(jE t.pv).le (.ret (.tup ((t.nd 0).map Ent.pv))):=λQ q=>by
 unfold jE;simp;refine W.le.use (QR t hz) ?_;refine uE (λr s=>∃(k:O Tr) (Z:O Ent) (ls:O Nat),r=k.map Tr.pv/\s=(Z.map Ent.pv,aL ls.reverse)/\run k Z ls=some (t.nd 0,[t.size-1])/\Z.length+k.length<=900/\ls.length<=Z.length) ⟨t.post,[],[],rfl,rfl,Nc t,by simp[t.kH];lia,Al _⟩ ?_ ?_
 .rintro x r s ⟨k,Z,ls,e,rfl,h,hl,ĩ⟩;cases k with
  |nil=>cases e
  |cons p k=>
   injection e with e1 e2;subst e1;subst e2;rw[Ax]at hl;cases p with
   |leaf x=>
    have a1:∀y,jo (aL ls.reverse) y=.ret (aL ls.reverse++[y]):=λy=>f9 (by simp;lia);simp[Tr.pv,f9 (l:=Z.map Ent.pv) (by simp;lia),a1];refine⟨k,rfl,Z++[Ent.word x],Z.length::ls,⟨by simp[Ent.pv],by simp⟩,h,by simp;lia,by simp;lia⟩
   |node c d=>
    match ls,h,ĩ with
    |b::a::ls,h,ĩ=>
     rw[Ax,Ax]at ĩ;have a0:aL (b::a::ls).reverse=(aL ls.reverse++[.int a])++[.int b]:=by simp
     have a1:∀y,jo (aL ls.reverse) y=.ret (aL ls.reverse++[y]):=λy=>f9 (by simp;lia);rw[a0];simp only[Tr.pv,mo,gC,gB,cD,if_false,aaT];simp[f9 (l:=Z.map Ent.pv) (by simp;lia),a1];refine⟨k,rfl,Z++[Ent.pair a b],Z.length::ls,⟨by simp[Ent.pv],by simp⟩,h,by simp;lia,by simp;lia⟩
 .rintro s ⟨k,Z,ls,e,rfl,h,hl,ĩ⟩;cases k with
  |nil=>
   cases h;simpa using q
  |cons p k=>cases e
theorem mulL(h:-1000000000<=a/\a<=1000000000):Fk a b:=Xm ∅ ∅
theorem mulR(h:-1000000000<=b/\b<=1000000000):Fk a b:=mul_r ∅ ∅
theorem bS{i j:Int}(h:-1000<=i/\i<=1000/\-1000<=j/\j<=1000)(h2:j-i<=1000):okN i j:=⟨by lia,by lia,by lia,by lia,b9 ∅⟩
def kh:Ent->Bool
 |.word _=>false
 |.pair _ _=>true
structure Dt(t:Tr)(ds:List Int)(left:List Nat)(d:Int):Prop where
 len:ds.length=t.size
 zero:∀j,j<t.size->(kh (en t 0 j)=false\/j∈left)->ds.getD j 0=0
 up:∀j,j<t.size->j∉left->∀a b,en t 0 j=.pair a b->a∉left/\b∉left/\ds.getD a 0<ds.getD j 0/\ds.getD b 0<ds.getD j 0/\1<=ds.getD j 0/\ds.getD j 0<=d
 inj:∀i j,i<t.size->j<t.size->i∉left->j∉left->kh (en t 0 i)=true->kh (en t 0 j)=true->ds.getD i 0=ds.getD j 0->i=j
 pos:0<=d
 lft:∀j∈left,j<t.size/\kh (en t 0 j)=true
 ris:left.Pairwise (· < ·)
def iz{l:O Int}(h:i<l.length):(l.set i v).getD i 0=v:=by rw[Ae,B2 h];rfl
def bJ{l:O Int}(h:i≠j):(l.set i v).getD j 0=l.getD j 0:=by rw[Ae,Bq h,<- Ae]
def mB{l:O Nat}(h:l.Pairwise (· < ·)){x y:Nat}:y∈l.erase x↔y∈l/\y≠x:=by
 have nd:l.Nodup:=h.imp (λz=>AA z);rw[nd.mem_erase_iff];exact⟨λz=>⟨z.2,z.1⟩,λz=>⟨z.2,z.1⟩⟩
variable{x d:Int}{a b:Nat}{ds:O Int}
theorem bU(t:Tr)(h:j<t.size)(e:en t 0 j=.pair a b):a<j/\b<j:=by
 rcases S1 t 0 j h with⟨x,e1,_⟩|⟨a',b',e1,e2,e3,_⟩
 .rw[e1]at e;cases e
 .rw[e1]at e;injection e with h1 h2;lia
theorem Dt.next{left:O Nat}(D:Dt t ds left d)(hj:j∈left)(e:en t 0 j=.pair a b)(ha:a∉left)(hb:b∉left)(hx:0<=x):Dt t (ds.set j (d+1+x)) (left.erase j) (d+1+x):=by
 obtain⟨hjs,hjp⟩:=D.lft j hj;obtain⟨haj,hbj⟩:=bU t hjs e;have ú:j<ds.length:=by rw[D.len];exact hjs
 have hm:∀y,y∈left.erase j↔y∈left/\y≠j:=λy=>mB D.ris;have Ú:∀y,y<t.size->y∉left->ds.getD y 0<=d:=λy hy Ģ=>by
  cases ey:en t 0 y with
  |word w=>rw[D.zero y hy (.inl (by rw[ey];rfl))];exact D.pos
  |pair p q=>exact(D.up y hy Ģ p q ey).2.2.2.2.2
 refine⟨by rw[Bw];exact D.len,λy hy hc=>?_,λy hy Ģ p q ey=>?_,λu v hu hv hul hvl pu pv Tt=>?_,by have:=D.pos;lia,λy hy=>D.lft y ((hm y).mp hy).1,List.Pairwise.sublist List.erase_sublist D.ris⟩
 .have ď:j≠y:=λz=>by
   subst z;rcases hc with hc|hc
   .rw[hjp]at hc;cases hc
   .exact((hm j).mp hc).2 rfl
  rw[bJ ď];exact D.zero y hy (hc.imp id λz=>((hm y).mp z).1)
 .by_cases ď:j=y
  .subst ď;rw[e]at ey;injection ey with h1 h2;subst h1 h2;have la:=Ú a ∅ ha;have lb:=Ú b ∅ hb;rw[iz ú,bJ ∅,bJ ∅];have:=D.pos;exact⟨λz=>ha ((hm a).mp z).1,λz=>hb ((hm b).mp z).1,by lia,by lia,by lia,by lia⟩
  .have ah6:y∉left:=λz=>Ģ ((hm y).mpr ⟨z,Bt ď⟩);obtain⟨p1,p2,p3,p4,p5,p6⟩:=D.up y hy ah6 p q ey;have np:j≠p:=λz=>p1 (z▸hj);have nq:j≠q:=λz=>p2 (z▸hj);rw[bJ ď,bJ np,bJ nq];exact⟨λz=>p1 ((hm p).mp z).1,λz=>p2 ((hm q).mp z).1,p3,p4,p5,by lia⟩
 .by_cases c1:j=u
  .by_cases c2:j=v
   .exact c1.symm.trans c2
   .exfalso;subst c1;have Ŧ:v∉left:=λz=>hvl ((hm v).mpr ⟨z,Bt c2⟩);rw[iz ú,bJ c2]at Tt;have:=Ú v hv Ŧ;lia
  .have ad1:u∉left:=λz=>hul ((hm u).mpr ⟨z,Bt c1⟩);by_cases c2:j=v
   .exfalso;subst c2;rw[iz ú,bJ c1]at Tt;have:=Ú u hu ad1;lia
   .have Ŧ:v∉left:=λz=>hvl ((hm v).mpr ⟨z,Bt c2⟩);rw[bJ c1,bJ c2]at Tt;exact D.inj u v hu hv ad1 Ŧ pu pv Tt
def splits(t:Tr):O Nat:=(AB t.size).filter λj=>kh (en t 0 j)
def Dt.first(t:Tr):Dt t (Ap t.size 0) (splits t) 0:=by
 have z:∀j,(Ap t.size (0:Int)).getD j 0=0:=λj=>by
  rw[Ae,CS]
  split<;>rfl
 have mem:∀j,j∈splits t↔j<t.size/\kh (en t 0 j)=true:=λj=>by unfold splits;rw[Bv,AQ]
 exact⟨B9,λj _ _=>z j,λj hj hn a b e=>absurd ((mem j).mpr ⟨hj,by rw[e];rfl⟩) hn,λi j hi hj hni _ pi _ _=>absurd ((mem i).mpr ⟨hi,pi⟩) hni,BC _,λj hj=>(mem j).mp hj,List.Pairwise.filter _ Fq⟩
theorem Kz(y:Nat):∀l:O Nat,(l.map λn=>((n:Nat):Int)).erase (y:Int)=(l.erase y).map λn=>((n:Nat):Int)
 |[]=>rfl
 |a::l=>by
  rw[Ar,List.erase_cons,List.erase_cons,Kz y l];by_cases c:a=y
  .subst c;simp
  .have c1:(a==(y:Int))=false:=by simp;lia
   have c2:(a==y)=false:=by simpa using c
   rw[c1,c2];simp
def YU(s:Nat):Ent->Ent
 |.word x=>.word x
 |.pair p q=>.pair (p+s) (q+s)
theorem JO:∀(t:Tr) (o s:Nat),t.nd (o+s)=(t.nd o).map (YU s)
 |.leaf _,_,_=>rfl
 |.node a b,o,s=>by
  have ha:=a.size_pos;rw[Tr.nd,Tr.nd,JO a o s,show o+s+a.size=o+a.size+s by lia,JO b (o+a.size) s,AI,AI];congr 2;congr 1<;>lia
def f7{l:O PV}(h:l.length+m.length<=1000):kj l m=.ret (l++m):=sK (b9 h)
variable{v:PV}
theorem aaj(k:Nat)(l:O Nat)(b:Bool):rO b (.int (k:Int)) (aL l)=.ret (if b then !decide (k∈l) else decide (k∈l)):=by
 have h1:HL (.int k) (aL l):=⟨by simp,jd.mpr λx hx=>by
  obtain⟨n,_,rfl⟩:=Aq.mp hx;simp,kZ λx hx=>by
  obtain⟨n,_,rfl⟩:=Aq.mp hx;simp⟩
 have h2:o6 (.int (k:Int)) (aL l)=decide (k∈l):=by
  unfold o6 aL;rw[List.any_map]
  induction l with
  |nil=>simp
  |cons a l ih=>
   have ih:=ih ⟨by simp,jd.mpr λx hx=>by
    obtain⟨n,_,rfl⟩:=Aq.mp hx;simp,kZ λx hx=>by
    obtain⟨n,_,rfl⟩:=Aq.mp hx;simp⟩
   rw[Cj,ih];by_cases c:a=k
   .subst c;simp
   .have c1:(a==(k:Int))=false:=by simp;lia
    have c2:¬k=a:=λz=>c z.symm;simp[c1,c2]
 unfold rO;rw[sK h1,h2]
def bz(ds:O Int):O PV:=ds.map PV.int
@[simp] theorem fK(ds:O Int):(bz ds).length=ds.length:=Ai _
def RH(ds:O Int)(y:Nat)(v:Int):(bz ds).set y (.int v)=bz (ds.set y v):=by unfold bz;rw[Eu]
theorem Me(h:k<n):nQ n (k:Int)=some k:=by
 unfold nQ;rw[if_pos ∅,if_pos ∅];simp
def n8{l:O PV}(h:k<l.length):n9 l (.int (k:Int)) v=.ret (l.set k v):=by
 unfold n9;simp[Me h]
def ZG(t:Tr)(h:j<t.size):d5 ((t.nd 0).map Ent.pv) (j:Int)=some (en t 0 j).pv:=dP (by rw[Ah,kL t 0 j h];rfl)
def okJ(t:Tr)(ds:O Int)(j:Nat):Bool:=match en t 0 j with
 |.word _=>ds.getD j 0==0
 |.pair a b=>decide (ds.getD a 0<ds.getD j 0)&&decide (ds.getD b 0<ds.getD j 0)&&decide (1<=ds.getD j 0)&&decide (ds.getD j 0<=99)
def M9(t:Tr)(ds:O Int):O Int:=(splits t).map (ds.getD · 0)
def VI(t:Tr)(ds:O Int):Bool:=decide (ds.length=t.size)&&(decide (M9 t ds).Nodup&&(AB t.size).all (okJ t ds))
def int_at(h:j<ds.length):d5 (bz ds) (j:Int)=some (.int (ds.getD j 0)):=dP (by
 unfold bz;rw[Ah,Ad h,Ae,Ad h];rfl)
theorem Yn(t:Tr)(ds:O Int)(h:ds.length=t.size):pR ((t.nd 0).map Ent.pv) (bz ds)=(AB t.size).map λj=>PV.tup [(en t 0 j).pv,.int (ds.getD j 0)]:=by
 refine BQ λj=>?_;by_cases hj:j<t.size
 .have hl:j<(pR ((t.nd 0).map Ent.pv) (bz ds)).length:=by rw[nS];simp[t.bH,h];exact hj
  obtain⟨x,y,hx,hy,e⟩:=sR (Ad hl);rw[Ah,kL t 0 j hj]at hx;have ú:j<ds.length:=by lia
  unfold bz at hy;rw[Ah,Ad ú]at hy;rw[Ad hl,e,<- (Option.some.inj hx),<- (Option.some.inj hy),Ah,AW hj];show _=some (PV.tup [_,.int (ds.getD j 0)]);rw[Ae,Ad ú];rfl
 .rw[Au (by rw[nS];simp[t.bH,h];lia),Au (by simp;lia)]
theorem split_le(t:Tr)(ds:O Int)(h:ds.length=t.size)(hz:t.size<=900):fj (.tup ((t.nd 0).map Ent.pv)) (.tup (bz ds))=.ret (bz (M9 t ds)):=by
 unfold fj;have c:((t.nd 0).map Ent.pv).length<=sizeLine:=b9 (by rw[Ai,t.bH];lia);simp only[mo,aO,MU,sK c,Yn t ds h];rw[ui (g:=λx=>match x with|.tup [.str _,_]=>ci|.tup [_,y]=>some y|_=>ci) λx hx=>?_]
 .congr 1;unfold M9 splits bz;generalize AB t.size=l
  induction l with
  |nil=>rfl
  |cons j l ih=>
   rw[Ar,AH,De,ih];cases e:en t 0 j with
   |word w=>rfl
   |pair a b=>rfl
 .obtain⟨j,hj,rfl⟩:=Aq.mp hx;cases en t 0 j with
  |word w=>simp[Ent.pv]
  |pair a b=>simp[Ent.pv]
section
variable{α β:Type}
theorem Q9{c:α->PV}{f:PV->W PV}{g:α->PV}:∀{l:List α},(∀x∈l,(f (c x)).le (.ret (g x)))->(bF (l.map c) f).le (.ret (l.map g))
 |[],_=>W.le.refl _
 |x::r,h=>W.le.ret (h x (.head _)) (W.le.ret (Q9 λy hy=>h y (.tail _ hy)) (W.le.refl _))
theorem Xq{c:α->PV}{g:α->Option PV}:∀{l:List α},(∀x∈l,(f (c x)).le (.ret (g x)))->(ml (l.map c) f).le (.ret (l.filterMap g))
 |[],_=>W.le.refl _
 |x::r,h=>W.le.ret (h x (.head _)) (W.le.ret (Xq λy hy=>h y (.tail _ hy)) (W.le.of_eq (by rw[AH];cases g x<;>rfl)))
def hX{c:α->PV}{f:PV->W PV}(g:α->PV){l:List α}(h:∀x∈l,(f (c x)).le (.ret (g x)))(q:Q (l.map g)):(bF (l.map c) f).run Q:=Q9 h Q q
def ZQ{c:α->PV}(g:α->Option PV){l:List α}(h:∀x∈l,(f (c x)).le (.ret (g x)))(q:Q (l.filterMap g)):(ml (l.map c) f).run Q:=Xq h Q q
theorem XY{p:α->Bool}{g:α->β}:∀l:List α,l.filterMap (λx=>if p x=true then some (g x) else ci)=(l.filter p).map g
 |[]=>rfl
 |x::l=>by
  rw[AH,De,XY l];cases p x<;>rfl
end
def Sl(c:α->PV)(l:List α)(k:Nat):eR k (l.map c)=(l.zipIdx k).map λp=>PV.tup [.int ((p.2:Nat):Int),c p.1]:=by
 induction l generalizing k with
 |nil=>rfl
 |cons a l ih=>rw[Ar,eR,ih,List.zipIdx_cons,Ar]
def vp:V->PV
 |.int i=>.int i
 |.str x=>.str x
 |.bl b=>.bl b
 |_=>.aB
def ahL(t:Tr):O PV:=(ah (t.nd 0) 0 (Ap t.size V.aB)).map vp
@[simp] theorem MF(t:Tr):(ahL t).length=t.size:=by unfold ahL;rw[Ai,K8,B9]
def MH(t:Tr)(h:j<t.size):(ahL t)[j]?=some (vp (kl t 0 j .aB)):=by unfold ahL;rw[Ah,abg t h];rfl
def eW(t:Tr):((t.nd 0).map Ent.pv).length=t.size:=by rw[Ai,t.bH]
theorem IH(t:Tr)(hz:t.size<=900):(gN t.pv).le (.ret (.tup (ahL t))):=λQ q=>by
 unfold gN;have c:((t.nd 0).map Ent.pv).length<=sizeLine:=b9 (by rw[eW];lia);simp only[mo,ga];refine W.le.use (oD t hz) ?_;simp only[aO,nn];refine Rb (λ_=>.aB) (λx hx=>rfl) ?_;simp only[sK c,nn];have e0:((t.nd 0).map Ent.pv).map (λ_=>PV.aB)=(ah ((t.nd 0).take 0) 0 (Ap t.size V.aB)).map vp:=by
  rw[List.take_zero,ah,List.map_replicate,List.map_const',eW];rfl
 rw[e0];refine eF (λi s=>s=(ah ((t.nd 0).take i) 0 (Ap t.size V.aB)).map vp) rfl (λi x s hx hs=>?_) (λs hs=>?_)
 .subst hs;have hi:i<t.size:=by have:=(Ag.mp hx).1;rw[bC,eW]at this;exact this
  obtain⟨y,hy,rfl⟩:=dY hx;have e:=kL t 0 i hi;rw[Ah,e]at hy;have hy:=Option.some.inj hy;subst hy;have et:(t.nd 0).take (i+1)=(t.nd 0).take i++[en t 0 i]:=by rw[F0,e];rfl
  have ea:ah ((t.nd 0).take (i+1)) 0 (Ap t.size V.aB)=S8 (ah ((t.nd 0).take i) 0 (Ap t.size V.aB)) (0+i) (en t 0 i):=by
   rw[et,zT,CO,t.bH];congr 1;lia
  have ś:(ah ((t.nd 0).take i) 0 (Ap t.size V.aB)).length=t.size:=by rw[K8,B9]
  rw[ea];generalize hA:ah ((t.nd 0).take i) 0 (Ap t.size V.aB)=A at ś ⊢;unfold c6;cases en':en t 0 i with
  |word w=>simp[Ent.pv,bP,S8]
  |pair a b=>
   obtain⟨ha,hb⟩:=bU t hi en';have s1:n9 (A.map vp) (.int a) (.int ((0+i:Nat)))=.ret ((A.map vp).set a (.int ((0+i:Nat):Int))):=n8 (by rw[Ai];lia);have s2:n9 ((A.map vp).set a (.int ((0+i:Nat):Int))) (.int b) (.int ((0+i:Nat):Int))=.ret (((A.map vp).set a (.int ((0+i:Nat):Int))).set b (.int ((0+i:Nat):Int))):=n8 (by rw[Bw,Ai];lia);simp only[Ent.pv,iC,nn,gC,gB,cD,ga,AD,if_false,aO,bP,mo,s1,s2];show _=F1 vp ((A.set a _).set b _);rw[Eu,Eu];rfl
 .subst hs;simp only[bC,Ai];rw[List.take_length];exact q
def JN(e:Ent)(j:Nat):PV:=match e with|.word x=>.str x|.pair _ _=>.int (j:Int)
def Ja(t:Tr)(ds:O Int)(b:Int)(j:Nat):Bool:=decide (ds.getD j 0<=b)&&(match kl t 0 j .aB with|.int a=>decide (b<ds.getD a.toNat 0)|_=>true)
def GS(t:Tr)(ds:O Int)(b:Int)(n j:Nat):O (Nat×Nat):=((AB j).filter (Ja t ds b)).map λk=>(k,n)
def aF(t:Tr)(ds bs:O Int):Nat->O (Nat×Nat)
 |0=>[]
 |i+1=>aF t ds bs i++GS t ds (bs.getD i 0) i t.size
def OX(l:O (Nat×Nat)):O PV:=l.map λp=>.tup [.int (p.1:Int),.int (p.2:Int)]
def xT(t:Tr)(ds:O Int)(b:Int)(n j:Nat):(GS t ds b n j).length<=j:=by
 unfold GS;rw[Ai];refine A0 (Ca _ _) ?_;rw[Bz];exact Al _
theorem jt(t:Tr)(ds bs:O Int):∀i,(aF t ds bs i).length<=i*t.size
 |0=>Bh _
 |i+1=>by
  rw[aF,Ak];have h1:=jt t ds bs i;have h2:=xT t ds (bs.getD i 0) i t.size;rw[Gh];lia
def Py(t:Tr)(ds:O Int)(b:Int)(n j:Nat):GS t ds b n (j+1)=GS t ds b n j++(if Ja t ds b j then [(j,n)] else []):=by
 unfold GS;rw[FG,Ce,AI];congr 1;by_cases c:Ja t ds b j<;>simp[c]
def uk(p:Nat×Nat):O Key:=[.inl (p.1:Int),.inl (p.2:Int)]
theorem HC{p q:Nat×Nat}(h:uk p=uk q):p=q:=by
 obtain⟨a,b⟩:=p;obtain⟨c,d⟩:=q;simp[uk]at h;exact Prod.ext ∅ ∅
def mY:Nat->O (Nat×Nat)->O (O Key×PV)
 |_,[]=>[]
 |k,p::l=>(uk p,.int (k:Int))::mY (k+1) l
theorem lM:∀(k:Nat) (l:O (Nat×Nat)),(mY k l).map (·.1)=l.map uk
 |_,[]=>rfl
 |k,p::l=>by rw[mY,Ar,Ar,lM (k+1) l]
def Hk(k:Nat)(l:O (Nat×Nat)):(mY k l).length=l.length:=by have:=congrArg B5 (lM k l);simpa using this
theorem tN:∀(k:Nat) (l:O (Nat×Nat)) (p:Nat×Nat),p∈l->mr (mY k l) (uk p)=some (.int ((k+l.idxOf p:Nat):Int))
 |k,q::l,p,h=>by
  rw[List.idxOf_cons];by_cases c:q=p
  .subst c;simp[mY,mr]
  .have c2:uk q≠uk p:=λz=>c (HC z);have c3:(q==p)=false:=by simpa using c
   have e:mr (mY k (q::l)) (uk p)=mr (mY (k+1) l) (uk p):=by simp[mY,mr,c2]
   rw[e,(tN (k+1) l p ((Ay.mp h).elim (λz=>absurd z.symm c) id)),c3];congr 2;show((k+1+l.idxOf p))=((k+(l.idxOf p+1)):Int);lia
def IC(e:Ent)(j:Nat)(d b:Int):O Nat:=if d<b then [j] else match e with|.word _=>[]|.pair x y=>[x,y]
def bsd(l:O (Nat×Nat))(j n:Nat):O Nat:=(l.filter λp=>decide (p.2=n)&&!decide (p.1=j)).map λp=>l.idxOf p
def Mu(e:Ent)(l:O (Nat×Nat))(j n:Nat)(d b:Int):PV:=.tup [JN e j,.int (n:Int),.tup (aL ((IC e j d b).map λx=>l.idxOf (x,n-1))),.tup (aL (bsd l j n))]
def L6{f:α->β}(hf:∀x y,f x=f y->x=y){l:List α}(h:l.Nodup):(l.map f).Nodup:=List.Pairwise.map f (λa b n z=>n (hf a b z)) h
def M7(t:Tr)(ds:O Int)(b:Int)(n j:Nat):(GS t ds b n j).Nodup:=by
 exact L6 (λx y h=>(Prod.mk.inj h).1) (List.Pairwise.filter _ Fb)
theorem eS{t:Tr}{ds bs:O Int}:∀{i:Nat}{p:Nat×Nat},p∈aF t ds bs i->p.2<i/\p.1<t.size
 |0,_,h=>by simp[aF]at h
 |i+1,p,h=>by
  rcases AO.mp h with h|h
  .have:=eS h;lia
  .obtain⟨k,hk,rfl⟩:=Aq.mp h;have:=AQ.mp (Bv.mp hk).1;exact⟨D4 _,this⟩
variable{e:Ent}{es:O Ent}
theorem gk(t:Tr)(ds bs:O Int):∀i,(aF t ds bs i).Nodup
 |0=>EK
 |i+1=>by
  refine Co.mpr ⟨gk t ds bs i,M7 _ _ _ _ _,λa ha b hb z=>?_⟩;subst z;obtain⟨k,_,rfl⟩:=Aq.mp hb;exact AE _ ((eS ha).1)
def kO{l:O PV}(h:l[k]?=some v):ixW l (.int (k:Int))=.ret v:=by
 rw[cy,dP h];rfl
def Ip(ds:O Int){x:PV}(h:(eR 0 (bz ds))[i]?=some x):i<ds.length/\x=.tup [.int (i:Int),.int (ds.getD i 0)]:=by
 have hi:i<ds.length:=by have:=(Ag.mp h).1;rw[bC,fK]at this;exact this
 obtain⟨y,hy,rfl⟩:=dY h;unfold bz at hy;rw[Ah,Ad hi]at hy;have hy:=Option.some.inj hy;subst hy;refine⟨hi,?_⟩;rw[A7,Ae,Ad hi];rfl
theorem GR(t:Tr)(ds bs:O Int)(hd:ds.length=t.size)(hz:t.size<=100)(hb:bs.length*t.size<=900)(hb2:bs.length<=900):(jB t.pv (.tup (bz ds)) (.cl (bz bs))).le (.ret (OX (aF t ds bs bs.length))):=λQ q=>by
 unfold jB;have c1:(bz bs).length<=sizeLine:=b9 (by rw[fK];lia);have c2:(bz ds).length<=sizeLine:=b9 (by rw[fK];lia);simp only[mo,ga];refine W.le.use (IH t ∅) ?_;simp only[bq,nn,sK c1];refine eF (λi s=>s=OX (aF t ds bs i)) rfl (λi x s hx hs=>?_) (λs hs=>?_)
 .subst hs;obtain⟨hi,rfl⟩:=Ip bs hx;simp only[iC,nn,ga,aO,sK c2];have hl:=jt t ds bs i;have hm:i*t.size+t.size<=900:=by
   have:(i+1)*t.size<=bs.length*t.size:=C7 _ hi;rw[Gh]at this;lia
  refine eF (λj s=>s=OX (aF t ds bs i++GS t ds (bs.getD i 0) i j)) (by simp[GS]) (λj x s hx hs=>?_) (λs hs=>?_)
  .subst hs;obtain⟨hj,rfl⟩:=Ip ds hx;have Tv:=xT t ds (bs.getD i 0) i j;simp only[iC,nn,ga];rw[Py];have ù:j<t.size:=by lia
   have Ķ:Ja t ds (bs.getD i 0) j=true->(jo (OX (aF t ds bs i++GS t ds (bs.getD i 0) i j)) (PV.tup [.int j,.int i])).run λs=>s=OX (aF t ds bs i++(GS t ds (bs.getD i 0) i j++if Ja t ds (bs.getD i 0) j=true then [(j,i)] else [])):=λc=>by
    rw[f9 (by unfold OX;rw[Ai,Ak];lia),if_pos c];unfold OX;rw[<- AG,AI (l₂:=[(j,i)])];rfl
   have no:Ja t ds (bs.getD i 0) j=false->OX (aF t ds bs i++GS t ds (bs.getD i 0) i j)=OX (aF t ds bs i++(GS t ds (bs.getD i 0) i j++if Ja t ds (bs.getD i 0) j=true then [(j,i)] else [])):=λc=>by rw[c];simp
   generalize eb:bs.getD i 0=b at Ķ no ⊢;generalize ed:ds.getD j 0=d at *;simp only[mo,ga,aeL,nn,dw,aO,kO (MH t ù)];by_cases c:d<=b
   .simp only[c,decide_true,if_true,ga,nn];rcases sZ t 0 j .aB [] ù with⟨_,e,_⟩|⟨a,_,ha,e,_⟩
    .have sb:Ja t ds b j=true:=by unfold Ja;rw[e,ed];simp[c]
     rw[e];simp;exact Ķ sb
    .rw[A7]at e;have sb:Ja t ds b j=decide (b<ds.getD a 0):=by unfold Ja;rw[e,ed];simp[c]
     rw[e];have i2:d5 (bz ds) a=some (.int (ds.getD a 0)):=int_at ∅;simp only[vp,uJ,nn,dw,PV.ka,if_false,cy,i2,KB,X3,mo];by_cases c2:b<ds.getD a 0
     .rw[decide_eq_true c2]at sb ⊢;exact Ķ sb
     .rw[decide_eq_false c2]at sb ⊢;exact no sb
   .have sb:Ja t ds b j=false:=by unfold Ja;rw[ed];simp[c]
    simp only[c,decide_false,AD,if_false,nn];exact no sb
  .subst hs;rw[bC,fK,hd];rfl
 .subst hs;rw[bC,fK];exact q
def Va{l:O (Nat×Nat)}(h:l≠[])(k:Nat):mY k l≠[]:=by cases l with|nil=>exact absurd rfl h|cons a l=>simp[mY]
def JL(k:Nat)(l:O (Nat×Nat)):((mY k l).map λkv=>PV.tup (kv.1.map kP))=l.map λp=>PV.tup [.int (p.1:Int),.int (p.2:Int)]:=by
 have:=congrArg (F1 λx:O Key=>PV.tup (x.map kP)) (lM k l);rw[AL,AL]at this;exact this
theorem Ue{bs:O Int}{l:O (Nat×Nat)}(h1:es[j]?=some e)(h2:j<ds.length)(h3:n<bs.length)(hl:l.length<=1000)(h0:l≠[])(hb:∀x∈IC e j (ds.getD j 0) (bs.getD n 0),1<=n/\(x,n-1)∈l):(lO (.tup (es.map Ent.pv)) (.tup (bz ds)) (.cl (bz bs)) (O6 (mY 0 l)) (.tup [.int (j:Int),.int (n:Int)])).le (.ret (Mu e l j n (ds.getD j 0) (bs.getD n 0))):=λQ q=>by
 unfold lO;have i0:d5 [PV.int j,PV.int n] 0=some (.int j):=rfl;have i1:d5 [PV.int (j:Int),PV.int (n:Int)] 1=some (.int n):=rfl;have i4:d5 (es.map Ent.pv) (j:Int)=some e.pv:=dP (by rw[Ah,h1];rfl);simp only[mo,ga,aO,bq,cy,i0,i1,(int_at h2),(int_at h3),i4,KB,nn,X3,cD];generalize hdj:ds.getD j 0=d at *;generalize hbn:bs.getD n 0=b at *;have below:∀{R:PV->Prop},R (.tup (aL (IC e j d b)))->(if decide (d<b)=true then ce (PV.tup [PV.int (j:Int)]) else c6 e.pv).run R:=λ{R} r=>by
  unfold IC at r;unfold c6;by_cases c:d<b
  .rw[if_pos c]at r;simpa[c]using r
  .cases e with
   |word w=>simpa[c,Ent.pv]using r
   |pair a b=>simpa[c,Ent.pv]using r
 refine below ?_;refine hX (λx=>.int ((l.idxOf (x,n-1):Nat):Int)) (λk hk=>?_) ?_
 .obtain⟨g1,g2⟩:=hb k hk;intro R r;have en1:(n:Int)-1=((n-1:Nat):Int):=by lia
  simp only[Mx,mo,ga,uI,nn,en1];rw[show PV.tup [.int k,.int ((n-1:Nat):Int)]=.tup ((uk (k,n-1)).map kP) from rfl];refine Mw (tN 0 l (k,n-1) g2) ?_;rw[A7];exact r
 simp;refine NG (Va h0 0) (by rw[Hk];exact b9 hl) ?_;rw[JL];refine ZQ (λp=>if (decide (p.2=n)&&!decide (p.1=j))=true then some (.int ((l.idxOf p:Nat):Int)) else ci) (λp hp=>?_) ?_
 .intro R r;obtain⟨u,v⟩:=p;have j0:d5 [PV.int u,PV.int v] 0=some (.int u):=rfl;have j1:d5 [PV.int (u:Int),PV.int (v:Int)] 1=some (.int v):=rfl;simp only[Mx,mo,ga,aO,cy,j0,j1,KB,nn,qz,aaU,dw];have get:∀{R:PV->Prop},R (.int ((l.idxOf (u,v):Nat):Int))->(dgW (O6 (mY 0 l)) (PV.tup [.int (u:Int),.int (v:Int)])).run R:=λ{R} r=>by
   refine Mw (tN 0 l (u,v) hp) ?_;rw[A7];exact r
  by_cases c1:v=n
  .subst c1;by_cases c2:u=j
   .subst c2;simp;simpa using r
   .have c3:((u:Int)==(j:Int))=false:=by simp;lia
    simp only[beq_self_eq_true,c3,Bool.not_false,if_true,nn,ga];refine get ?_;simpa[c2]using r
  .have c3:((v:Int)==(n:Int))=false:=by simp;lia
   simp only[c3,AD,if_false,nn];simpa[c1]using r
 rw[XY];have nm:∀{R:PV->Prop},R (JN e j)->(eX (.tup (es.map Ent.pv)) (.int (j:Int))).run R:=λ{R} r=>by
  unfold eX;simp only[mo,ga,aO,cy,i4,KB,nn];cases e with
  |word w=>simpa[Ent.pv,JN]using r
  |pair a b=>simpa[Ent.pv,JN]using r
 refine nm ?_;have e1:(l.filter λp=>decide (p.2=n)&&!decide (p.1=j)).map (λp=>PV.int ((l.idxOf p:Nat):Int))=aL (bsd l j n):=by
  unfold aL bsd;rw[AL];rfl
 have e2:(IC e j d b).map (λx=>PV.int ((l.idxOf (x,n-1):Nat):Int))=aL ((IC e j d b).map λx=>l.idxOf (x,n-1)):=by
  unfold aL;rw[AL];rfl
 rw[e1,e2];exact q
def dgL(t:Tr)(ds bs:O Int):O PV:=(aF t ds bs bs.length).map λp=>Mu (en t 0 p.1) (aF t ds bs bs.length) p.1 p.2 (ds.getD p.1 0) (bs.getD p.2 0)
def okD(t:Tr)(ds bs:O Int):Prop:=∀p∈aF t ds bs bs.length,∀x∈IC (en t 0 p.1) p.1 (ds.getD p.1 0) (bs.getD p.2 0),1<=p.2/\(x,p.2-1)∈aF t ds bs bs.length
theorem tP:∀(k:Nat) (l:O (Nat×Nat)),(l.zipIdx k).map (λp=>PV.tup [PV.tup [.int (p.1.1:Int),.int (p.1.2:Int)],.int ((p.2:Nat):Int)])=(mY k l).map L0
 |_,[]=>rfl
 |k,p::l=>by rw[List.zipIdx_cons,Ar,tP (k+1) l];rfl
def aE(t:Tr)(ds:O Int):O Int:=0::sortI (M9 t ds)
def Uj(t:Tr)(ds:O Int):(M9 t ds).length<=t.size:=by
 unfold M9 splits;rw[Ai];have:=Ca (λj=>kh (en t 0 j)) (AB t.size);rw[Bz]at this;exact this
def wR{l:O Int}:x∈sortI l↔x∈l:=(Dj l _).mem_iff
def pX(l:O Int):(sortI l).length=l.length:=(Dj l _).length_eq
theorem SO(t:Tr)(ds:O Int)(hd:ds.length=t.size)(hz:t.size<=25)(h0:aF t ds (aE t ds) (aE t ds).length≠[])(ok:okD t ds (aE t ds)):(lQ t.pv (.tup (bz ds))).le (.ret (.tup (dgL t ds (aE t ds)))):=λQ q=>by
 unfold lQ;simp only[mo,ga];refine W.le.use (oD t ∅) ?_;have hs:=Uj t ds;have hl:(aE t ds).length<=t.size+1:=by unfold aE;rw[Ax,pX];lia
 have e2:xU (bz (M9 t ds))=.ret (bz (sortI (M9 t ds))):=by
  unfold xU bz;rw[i5];show W.dm _ _=_;rw[sK ∅]
 have e3:kj [PV.int 0] (bz (sortI (M9 t ds)))=.ret (bz (aE t ds)):=by
  rw[f7 (by rw[fK,pX];simp;lia)];rfl
 simp only[split_le t ds hd ∅,nn,e2,e3];have hb:(aE t ds).length*t.size<=900:=by
  have:=FZ (by omega) hz;lia
 refine W.le.use (GR t ds (aE t ds) hd ∅ hb ∅) ?_;generalize hL:aF t ds (aE t ds) (aE t ds).length=L at *;have hLl:L.length<=900:=by rw[<- hL];exact A0 (jt _ _ _ _) hb
 have c:(OX L).length<=sizeLine:=b9 (by unfold OX;rw[Ai];lia);simp only[bq,nn,sK c];unfold OX;rw[Sl];refine hX (λp:(Nat×Nat)×Nat=>PV.tup [PV.tup [.int p.1.1,.int p.1.2],.int p.2]) (λp _ R r=>by simpa using r) ?_;rw[tP];refine Ox ?_ (by rw[Hk];lia) ?_
 .rw[lM];exact L6 (λ_ _ h=>HC h) (hL▸gk t ds _ _)
 refine hX (λp:Nat×Nat=>Mu (en t 0 p.1) L p.1 p.2 (ds.getD p.1 0) ((aE t ds).getD p.2 0)) (λp hp=>?_) ?_
 .obtain⟨g1,g2⟩:=(λp hp=>eS (hL▸hp)) p hp;refine Ue (kL t 0 p.1 g2) ∅ g1 ∅ h0 λx hx=>?_;have:=ok p (by rw[hL];exact hp) x hx;rw[hL]at this;exact this
 .have:dgL t ds (aE t ds)=L.map λp:Nat×Nat=>Mu (en t 0 p.1) L p.1 p.2 (ds.getD p.1 0) ((aE t ds).getD p.2 0):=by unfold dgL;rw[hL]
  rw[<- this];exact q
theorem iJ:∀(t:Tr) (o x:Nat) (p:V),x<t.size->(x=t.size-1/\kl t o x p=p)\/∃a u v,x<a/\a<t.size/\kl t o x p=.int ((o+a:Nat):Int)/\en t o a=.pair u v/\(u=o+x\/v=o+x)
 |.leaf _,o,x,p,h=>.inl ⟨by have:x<1:=h;show x=0;lia,rfl⟩
 |.node l r,o,x,p,h=>by
  have es:(Tr.node l r).size=l.size+r.size+1:=rfl;have top:en (.node l r) o (l.size+r.size)=.pair (o+l.size-1) (o+l.size+r.size-1):=by rw[en,if_neg ∅,if_neg ∅]
  by_cases c1:x<l.size
  .rw[show kl (.node l r) o x p=kl l o x (.int (o+l.size+r.size:Nat)) by rw[kl,if_pos c1]];rcases iJ l o x (.int (o+l.size+r.size:Nat)) c1 with⟨h1,h2⟩|⟨a,u,v,h1,h2,h3,h4,h5⟩
   .exact .inr ⟨l.size+r.size,_,_,by lia,by lia,by rw[h2,Be],top,.inl ∅⟩
   .exact .inr ⟨a,u,v,h1,by lia,h3,by rw[en,if_pos h2];exact h4,h5⟩
  .by_cases c2:x<l.size+r.size
   .rw[show kl (.node l r) o x p=kl r (o+l.size) (x-l.size) (.int (o+l.size+r.size:Nat)) by rw[kl,if_neg c1,if_pos c2]];rcases iJ r (o+l.size) (x-l.size) (.int (o+l.size+r.size:Nat)) ∅ with⟨h1,h2⟩|⟨a,u,v,h1,h2,h3,h4,h5⟩
    .exact .inr ⟨l.size+r.size,_,_,by lia,by lia,by rw[h2,Be],top,.inr ∅⟩
    .refine .inr ⟨l.size+a,u,v,by lia,by lia,by rw[h3,Be],?_,by lia⟩;rw[en,if_neg ∅,if_pos ∅,CN];exact h4
   .exact .inl ⟨by lia,by rw[kl,if_neg c1,if_neg c2]⟩
theorem uN:∀(t:Tr) (o j:Nat) (p:V) (a b:Nat),j<t.size->en t o j=.pair a b->o<=a/\o<=b/\a<o+j/\b<o+j/\a<b/\kl t o (a-o) p=.int ((o+j:Nat):Int)/\kl t o (b-o) p=.int ((o+j:Nat):Int)
 |.leaf _,o,j,p,a,b,h,e=>by rw[en]at e;cases e
 |.node l r,o,j,p,a,b,h,e=>by
  have es:(Tr.node l r).size=l.size+r.size+1:=rfl;have lp:=l.size_pos;have rp:=r.size_pos;by_cases c1:j<l.size
  .rw[en,if_pos c1]at e;obtain⟨h1,h2,h3,h4,h5,h6,h7⟩:=uN l o j (.int (o+l.size+r.size)) a b c1 e;refine⟨h1,h2,h3,h4,h5,?_,?_⟩
   .rw[kl,if_pos ∅];exact h6
   .rw[kl,if_pos ∅];exact h7
  .by_cases c2:j<l.size+r.size
   .rw[en,if_neg c1,if_pos c2]at e;obtain⟨h1,h2,h3,h4,h5,h6,h7⟩:=uN r (o+l.size) (j-l.size) (.int (o+l.size+r.size:Nat)) a b ∅ e;refine⟨by lia,by lia,by lia,by lia,h5,?_,?_⟩
    .rw[kl,if_neg ∅,if_pos ∅,FY,h6,show o+l.size+(j-l.size)=o+j by lia]
    .rw[kl,if_neg ∅,if_pos ∅,FY,h7,show o+l.size+(j-l.size)=o+j by lia]
   .rw[en,if_neg c1,if_neg c2]at e;injection e with e1 e2;subst e1;subst e2;have hj:j=l.size+r.size:=by lia
    subst hj;have Ĉ:∀t o p,kl t o (t.size-1) p=p:=λt o p=>by
     have tp:=t.size_pos;rcases iJ t o (t.size-1) p ∅ with⟨_,h⟩|⟨a,_,_,h1,h2,_⟩
     .exact h
     .omega
    refine⟨by lia,by lia,by lia,by lia,by lia,?_,?_⟩
    .rw[kl,if_pos ∅,show o+l.size-1-o=l.size-1 by lia,Ĉ,Be]
    .rw[kl,if_neg ∅,if_pos ∅,show o+l.size+r.size-1-o-l.size=r.size-1 by lia,Ĉ,Be]
structure DD(t:Tr)(ds:List Int):Prop where
 len:ds.length=t.size
 leaf:∀j w,j<t.size->en t 0 j=.word w->ds.getD j 0=0
 pair:∀j a b,j<t.size->en t 0 j=.pair a b->ds.getD a 0<ds.getD j 0/\ds.getD b 0<ds.getD j 0/\1<=ds.getD j 0
 nd:(M9 t ds).Nodup
def DD.of(h:VI t ds=true):DD t ds:=by
 unfold VI at h;rw[A9,A9,decide_eq_true_iff,decide_eq_true_iff]at h;obtain⟨h1,h2,h3⟩:=h;have h4:∀j,j<t.size->okJ t ds j=true:=λj hj=>Df.mp h3 j (AQ.mpr hj);refine⟨h1,λj w hj e=>?_,λj a b hj e=>?_,h2⟩
 .have:=h4 j hj;unfold okJ at this;rw[e]at this;exact eq_of_beq this
 .have:=h4 j hj;unfold okJ at this;rw[e]at this;rw[A9,A9,A9,decide_eq_true_iff,decide_eq_true_iff,decide_eq_true_iff,decide_eq_true_iff]at this;exact⟨this.1.1.1,this.1.1.2,this.1.2⟩
def DD.mem(D:DD t ds)(hj:j<t.size):ds.getD j 0∈aE t ds:=by
 cases e:en t 0 j with
 |word w=>rw[D.leaf j w hj e];exact .head _
 |pair a b=>
  exact A6 _ (wR.mpr (Aq.mpr ⟨j,Bv.mpr ⟨AQ.mpr hj,by rw[e];rfl⟩,rfl⟩))
theorem PK(l:O Int):(sortI l).Pairwise (·<=·):=(E9 (λa b c=>by simp;lia) (λa b=>by simp;lia) l).imp (by simp)
theorem DD.inc(D:DD t ds):(aE t ds).Pairwise (· < ·):=by
 unfold aE;refine List.pairwise_cons.mpr ⟨λx hx=>?_,?_⟩
 .have hx:=wR.mp hx;unfold M9 splits at hx;obtain⟨j,hj,rfl⟩:=Aq.mp hx;obtain⟨h1,h2⟩:=Bv.mp hj;cases e:en t 0 j with
  |word w=>rw[e]at h2;cases h2
  |pair a b=>have:=(D.pair j a b (AQ.mp h1) e).2.2;lia
 .exact(List.Pairwise.and (PK _) ((Dj _ _).nodup_iff.mpr D.nd)).imp λ⟨h1,h2⟩=>Int.lt_iff_le_and_ne.mpr ⟨h1,h2⟩
theorem ur{l:O Int}(h:l.Pairwise (· < ·))(hn:n<l.length)(hx:x∈l)(lt:x<l.getD n 0):1<=n/\x<=l.getD (n-1) 0:=by
 obtain⟨i,hi,rfl⟩:=Ek hx;have gd:∀{k} (hk:k<l.length),l.getD k 0=l[k]:=λ{k} hk=>by rw[Ae,Ad hk];rfl
 rw[gd hn]at lt;have c:i<n:=by
  rcases Bu i n with c|c
  .exact c
  .rcases EJ c with c|c
   .subst c;lia
   .have:=B6.mp h _ _ hn hi c;lia
 refine⟨by lia,?_⟩;rw[gd ∅];rcases EJ (show i<=n-1 by lia) with c2|c2
 .subst c2;exact BC _
 .have:=B6.mp h _ _ hi ∅ c2;lia
theorem yU{l:O Int}(h:l.Pairwise (· < ·))(hn:n<l.length)(hi:i<n):l.getD i 0<l.getD n 0:=by
 have gd:∀{k} hk,l.getD k 0=l[k]:=λ{k} hk=>by rw[Ae,Ad hk];rfl
 rw[gd hn,gd ∅];exact B6.mp h _ _ ∅ hn hi
theorem bZ{t:Tr}{ds bs:O Int}:∀{m:Nat}{j n:Nat},(j,n)∈aF t ds bs m↔n<m/\j<t.size/\Ja t ds (bs.getD n 0) j=true
 |0,j,n=>by simp[aF]
 |m+1,j,n=>by
  rw[aF,AO,bZ];unfold GS;rw[Aq]
  constructor
  .rintro (⟨h1,h2,h3⟩|⟨k,hk,e⟩)
   .exact⟨by lia,h2,h3⟩
   .obtain⟨h1,h2⟩:=Bv.mp hk;injection e with e1 e2;subst e1;subst e2;exact⟨by lia,AQ.mp h1,h2⟩
  .rintro⟨h1,h2,h3⟩;by_cases c:n=m
   .subst c;exact .inr ⟨j,Bv.mpr ⟨AQ.mpr h2,h3⟩,rfl⟩
   .exact .inl ⟨by lia,h2,h3⟩
theorem gm{b:Int}(hj:j<t.size):Ja t ds b j=true↔ds.getD j 0<=b/\∀a,kl t 0 j .aB=.int ((a:Nat):Int)->b<ds.getD a 0:=by
 unfold Ja;rw[A9,decide_eq_true_iff];rcases iJ t 0 j .aB hj with⟨_,e⟩|⟨a,u,v,_,ha,e,_,_⟩
 .rw[e];exact⟨λh=>⟨h.1,λa z=>by cases z⟩,λh=>⟨h.1,rfl⟩⟩
 .rw[A7]at e;rw[e];refine⟨λh=>⟨h.1,λa' z=>?_⟩,λh=>⟨h.1,?_⟩⟩
  .injection z with z;have:a=a':=by lia
   subst this;simpa using h.2
  .simpa using h.2 a rfl
theorem DD.ok(D:DD t ds):okD t ds (aE t ds):=by
 rintro⟨j,n⟩ hp x hx;obtain⟨hn,hj,hs⟩:=bZ.mp hp;obtain⟨mq,q8⟩:=(gm hj).mp hs;have inc:=D.inc;show 1<=n/\(x,n-1)∈_;unfold IC at hx;by_cases c:ds.getD j 0<(aE t ds).getD n 0
 .rw[if_pos c]at hx;have:x=j:=by simpa using hx
  subst this;obtain⟨g1,g2⟩:=ur inc hn (D.mem hj) c;have lt:=yU inc hn (show n-1<n by lia);exact⟨g1,bZ.mpr ⟨by lia,hj,(gm hj).mpr ⟨g2,λa e=>by have:=q8 a e;lia⟩⟩⟩
 .rw[if_neg c]at hx;cases e:en t 0 j with
  |word w=>rw[e]at hx;cases hx
  |pair a b=>
   rw[e]at hx;obtain⟨p1,p2,p3⟩:=D.pair j a b hj e;obtain⟨_,_,a1,a2,_,a3,a4⟩:=uN t 0 j .aB a b hj e;rw[A7,Er]at *;have hx:x=a\/x=b:=by simpa using hx
   have key:x<t.size/\ds.getD x 0<ds.getD j 0/\kl t 0 x .aB=.int j:=by
    rcases hx with rfl|rfl
    .exact⟨by lia,p1,a3⟩
    .exact⟨by lia,p2,a4⟩
   obtain⟨k1,k2,k3⟩:=key;obtain⟨g1,g2⟩:=ur inc hn (D.mem k1) ∅;have lt:=yU inc hn (show n-1<n by lia);refine⟨g1,bZ.mpr ⟨by lia,k1,(gm k1).mpr ⟨g2,λa' e'=>?_⟩⟩⟩;rw[k3]at e';injection e' with e';have:j=a':=by lia
   subst this;lia
theorem Ms:∀(t:Tr) (o:Nat),∃w,en t o 0=.word w
 |.leaf w,o=>⟨w,rfl⟩
 |.node l r,o=>by rw[en,if_pos (show 0<l.size from l.size_pos)];exact Ms l o
theorem DD.ne(D:DD t ds):aF t ds (aE t ds) (aE t ds).length≠[]:=by
 intro z;have:(0,0)∈aF t ds (aE t ds) (aE t ds).length:=by
  obtain⟨w,e⟩:=Ms t 0;refine bZ.mpr ⟨by simp[aE],t.size_pos,(gm t.size_pos).mpr ⟨?_,λa ea=>?_⟩⟩
  .rw[D.leaf 0 w t.size_pos e];exact BC _
  .rcases iJ t 0 0 .aB t.size_pos with⟨_,e⟩|⟨a',u,v,_,ha,e,ep,_⟩
   .rw[e]at ea;cases ea
   .rw[e,A7]at ea;injection ea with ea;have:a'=a:=by lia
    subst this;have:=(D.pair a' u v ha ep).2.2;show 0<_;lia
 rw[z]at this;cases this
def SN(D:DD t ds)(hz:t.size<=25):(lQ t.pv (.tup (bz ds))).le (.ret (.tup (dgL t ds (aE t ds)))):=SO t ds D.len hz D.ne D.ok
def Yy(t:Tr):O PV:=(AB t.size).map λj=>.tup (aL (up t 0 j []))
@[simp] theorem TZ(t:Tr):(Yy t).length=t.size:=by unfold Yy;simp
def Lo(t:Tr)(h:j<t.size):(Yy t)[j]?=some (.tup (aL (up t 0 j []))):=by unfold Yy;simp[h]
theorem Yx(t:Tr):∀(k j:Nat),j+k+1=t.size->(up t 0 j []).length<=k+1:=λk=>by
 induction k using CA with
 |ind k ih=>
  intro j hj;rcases sZ t 0 j .aB [] ∅ with⟨q1,q2,q3⟩|⟨a,q1,q2,q3,q4⟩
  .rw[q3];show 1<=k+1;lia
  .rw[q4,Ax];have:=ih (t.size-a-1) ∅ a ∅;lia
theorem ack(t:Tr)(h:j<t.size):(up t 0 j []).length<=t.size:=by
 have:=Yx t (t.size-j-1) j ∅;lia
def Ln(t:Tr)(i:Nat):O PV:=(AB t.size).map λj=>if j+i<t.size then .tup [] else .tup (aL (up t 0 j []))
def rY(t:Tr)(i:Nat):(Ln t i).length=t.size:=by unfold Ln;simp
def Ll(t:Tr)(i:Nat)(h:j<t.size)(c:¬j+i<t.size):(Ln t i)[j]?=some (.tup (aL (up t 0 j []))):=by unfold Ln;simp[h,c]
theorem TX(t:Tr)(i j:Nat)(h:j+i+1=t.size):(Ln t i).set j (.tup (aL (up t 0 j [])))=Ln t (i+1):=by
 apply BQ;intro k;by_cases hk:k<t.size
 .by_cases e:j=k
  .subst e;rw[B2 (by rw[rY];exact hk),Ll t (i+1) hk ∅]
  .rw[Bq e];unfold Ln;simp only[Ah,AW hk,Cz];by_cases c:k+i<t.size
   .rw[if_pos c,if_pos ∅]
   .rw[if_neg c,if_neg ∅]
 .rw[Au (by rw[Bw,rY];lia),Au (by rw[rY];lia)]
def acm(t:Tr):Ln t 0=Ap t.size (.tup []):=by
 apply BQ;intro k;unfold Ln;by_cases hk:k<t.size
 .simp[hk]
 .simp[hk]
theorem TY(t:Tr):Ln t t.size=Yy t:=by
 apply Ba;intro j _;rw[if_neg ∅]
theorem Rj(t:Tr)(hz:t.size<=900):(jF t.pv).le (.ret (Yy t)):=λQ q=>by
 unfold jF;simp;refine W.le.use (IH t hz) ?_;simp only[aO,nn];refine Rb (λ_=>.tup []) (λx hx=>rfl) ?_;have e0:(ahL t).map (λ_=>PV.tup [])=Ln t 0:=by rw[List.map_const',MF,acm]
 have en:((t.size:Int)-1 - -1).toNat=t.size:=by lia
 rw[e0];simp only[sJ,MF,mo,uI,nn,Kx,V3,en];refine⟨⟨trivial,bS ∅ ∅⟩,?_⟩;refine eF (λi s=>s=Ln t i) rfl (λi x s hx hs=>?_) (λs hs=>?_)
 .subst hs;obtain⟨hi,rfl⟩:=xr hx;obtain⟨j,hj⟩:∃j:Nat,j=t.size-1-i:=⟨_,rfl⟩;have ej:(((t.size:Nat):Int)-1-i)=j:=by lia
  rw[ej];have ù:j<t.size:=by lia
  have fin:∀l:O PV,l.length<=900->.int (j:Int)::l=aL (up t 0 j [])->(am (addW (.tup [.int (j:Int)]) (.tup l)) λx=>n9 (Ln t i) (.int (j:Int)) x).run λs=>s=Ln t (i+1):=λl hl he=>by
   rw[V4,sK (b9 (by simp;lia))];show(n9 _ _ (.tup (.int (j:Int)::l))).run _;rw[he,n8 (by rw[rY];exact ù),TX t i j ∅];rfl
  simp only[mo,ga,kO (MH t ù),nn];rcases sZ t 0 j .aB [] ù with⟨_,e,e2⟩|⟨a,ha1,ha,e,e2⟩
  .rw[e];simp only[vp,uJ,PV.ka,dw,nn,if_true];have:=fin [] (by simp) (by rw[e2,A7];rfl);simpa using this
  .rw[A7]at e;rw[e];simp only[vp,uJ,PV.ka,dw,nn,AD,if_false,(kO (Ll t i ha ∅)),mo];have ua:=ack t ha;have:=fin (aL (up t 0 a [])) (by rw[iX];lia) (by rw[e2];simp);simpa using this
 .subst hs;have el:(rm (((t.size:Nat):Int)-1) t.size).length=t.size:=by unfold rm;simp
  rw[el,TY];exact q
def apt(t:Tr)(j:Nat):O Nat:=(AB t.size).filter λk=>!decide (k∈up t 0 j [])&&!decide (j∈up t 0 k [])
theorem S6(t:Tr)(hz:t.size<=900)(hj:j<t.size):(gr (.cl (Yy t)) (.int (j:Int))).le (.ret (.tup (aL (apt t j)))):=λQ q=>by
 unfold gr;simp only[ga,eJ,TZ,eI,sK (bS (i:=0) (j:=t.size) ∅ ∅),nn,i6];refine Rk (λk=>!decide (k∈up t 0 j [])&&!decide (j∈up t 0 k [])) (λk hk=>?_) q;simp only[mo,bq,kO (Lo t hj),kO (Lo t (AQ.mp hk)),aO,aaj,if_true];by_cases c1:k∈up t 0 j []
 .simp[c1]
 .by_cases c2:j∈up t 0 k []
  .simp[c1,c2]
  .simp[c1,c2]
def O1:Ent->O Nat
 |.word _=>[]
 |.pair a b=>[a,b]
def qt(e:Ent):c6 e.pv=.ret (.tup (aL (O1 e))):=by
 unfold c6;cases e with
 |word w=>simp[Ent.pv,O1]
 |pair a b=>simp[Ent.pv,O1]
def Vb(h:es[j]?=some e):eX (.tup (es.map Ent.pv)) (.int (j:Int))=.ret (JN e j):=by
 have i1:ixW (es.map Ent.pv) (.int j)=.ret e.pv:=kO (by rw[Ah,h];rfl);unfold eX;cases e with
 |word w=>simp only[mo,aO,i1];rfl
 |pair a b=>simp only[mo,aO,i1];rfl
def grS(t:Tr)(j:Nat):PV:=.tup [JN (en t 0 j) j,.int 0,.tup (aL (O1 (en t 0 j))),.tup (aL (apt t j))]
def grL(t:Tr):O PV:=(AB t.size).map (grS t)
theorem N5(t:Tr)(hz:t.size<=900):(kN t.pv).le (.ret (.tup (grL t))):=λQ q=>by
 unfold kN;simp;refine W.le.use (oD t hz) ?_;refine W.le.use (Rj t hz) ?_;simp only[sJ,eW,nn,eI,sK (bS (i:=0) (j:=t.size) ∅ ∅),i6];unfold aL;refine hX (grS t) (λj hj R r=>?_) q;have hj:=AQ.mp hj;have i1:ixW ((t.nd 0).map Ent.pv) (.int j)=.ret (en t 0 j).pv:=kO (by rw[Ah,kL t 0 j hj];rfl);simp only[Vb (kL t 0 j hj),aO,i1,qt,ga,nn];exact W.le.use (S6 t hz hj) r
structure Sy where
 nm:PV
 lv:Nat
 un:List Nat
 be:List Nat
def Sy.pv(s:Sy):PV:=.tup [s.nm,.int (s.lv:Int),.tup (aL s.un),.tup (aL s.be)]
def nR(g:O Sy):PV:=.tup (g.map Sy.pv)
def sy(g:O Sy)(i:Nat):Sy:=g.getD i ⟨.aB,0,[],[]⟩
def YR{g:O Sy}(h:i<g.length):g[i]?=some (sy g i):=by
 unfold sy;rw[Ae,Ad h];rfl
def N9{g:O Sy}(h:i<g.length):ixW (g.map Sy.pv) (.int (i:Int))=.ret (sy g i).pv:=kO (by rw[Ah,YR h];rfl)
def RG(w:Str):PV->Bool
 |.str s=>s==w
 |_=>false
def hm(g:O Sy)(i:Nat)(w:Str):Bool:=(sy g i).un.isEmpty&&RG w (sy g i).nm
inductive O8(g:List Sy):Nat->Nat->Prop
 |refl (i:Nat):O8 g i i
 |step {i u j:Nat}:u∈(sy g i).un->O8 g u j->O8 g i j
structure WG(g:List Sy)(ws:List Str):Prop where
 pos:0<g.length
 len:g.length<=300
 dn:∀i,i<g.length->∀u∈(sy g i).un,u<i
 ve:∀i,i<g.length->(sy g i).un.length<=2
 be:∀i,i<g.length->∀u∈(sy g i).be,u<g.length
 abf:∀i,i<g.length->(sy g i).be.length<=30
 nm:∀i,i<g.length->(∃s,(sy g i).nm=.str s)\/∃n,(sy g i).nm=.int n
 aik:∀w∈ws,∃i,i<g.length/\O8 g (g.length-1) i/\hm g i w=true
 rch:∀i,i<g.length->O8 g (g.length-1) i
variable{g:O Sy}{ws:O Str}
def nV(h:i<g.length):dU (nR g) (.int (i:Int))=.ret (.tup (aL (sy g i).un)):=by
 unfold dU nR;simp only[mo,aO,N9 h];rfl
def OK(h:i<g.length):ic (nR g) (.int (i:Int))=.ret (.tup (aL (sy g i).be)):=by
 unfold ic nR;simp only[mo,aO,N9 h];rfl
theorem eq_nil(l:O Nat)(h:l.length<=1000):of2 gq (.tup (aL l)) (.tup [])=.ret (.bl l.isEmpty):=by
 have fk:eG (aL l)=true:=jd.mpr λx hx=>by
  obtain⟨n,_,rfl⟩:=Aq.mp hx;simp
 have fd:dE (aL l)<=1:=kZ λx hx=>by
  obtain⟨n,_,rfl⟩:=Aq.mp hx;simp
 rw[uK,sK ⟨by simp[fk],by simp,by simp;lia⟩];cases l with
 |nil=>simp
 |cons a l=>simp[fZ]
def X4{x:PV}(h:(∃s,x=.str s)\/∃n,x=.int n)(w:Str):of2 gq x (.str w)=.ret (.bl (RG w x)):=by
 rcases h with⟨s,rfl⟩|⟨n,rfl⟩
 .rw[uK,sK ⟨by simp,by simp,by simp⟩,Mp];rfl
 .rw[uK,sK ⟨by simp,by simp,by simp⟩];simp[kf,RG]
theorem VQ(G:WG g ws)(h:i<g.length)(w:Str):lP (nR g) (.int (i:Int)) (.str w)=.ret (.bl (hm g i w)):=by
 unfold lP;have l2:=G.ve i h;have i0:d5 [(sy g i).nm,PV.int ((sy g i).lv),.tup (aL (sy g i).un),.tup (aL (sy g i).be)] 0=some (sy g i).nm:=rfl;simp only[mo,nV h,eq_nil _ (show(sy g i).un.length<=1000 by lia)];unfold nR hm;cases e:(sy g i).un.isEmpty with
 |false=>simp
 |true=>simp only[Mq,aO,mo,N9 h,Sy.pv,cy,i0,KB,X4 (G.nm i h) w,E5]
abbrev Dd:=Str×Nat×Nat
def d3(d:Dd):PV:=.tup [.str d.1,.int (d.2.1:Int),.int (d.2.2:Int)]
def d2(d:Dd):PV:=.tup [.str d.1,.tup [.int (d.2.1:Int),.int (d.2.2:Int)]]
abbrev dbl(i:Nat):Dd:=("doubled",i,i)
abbrev Tp(i o:Nat):O Dd:=[("over",i,o),("over",o,i)]
def Gw:O Nat->O Dd
 |[a,b]=>[("split",a,b),("split",b,a)]
 |_=>[]
def dds(g:O Sy)(i:Nat):O Dd:=dbl i::(Gw (sy g i).un++(sy g i).be.flatMap (Tp i))
theorem Ik(i:Nat):∀l:O Nat,(l.flatMap (Tp i)).length=2*l.length
 |[]=>rfl
 |a::l=>by rw[DM,Ak,Ik i l];simp;lia
def Ug(l:O Nat):(Gw l).length<=2:=by unfold Gw;split<;>simp
theorem aa8(G:WG g ws)(h:i<g.length){d:Dd}(hd:d∈dds g i):d.2.1<g.length/\d.2.2<g.length:=by
 rcases Ay.mp hd with rfl|hd
 .exact⟨h,h⟩
 rcases AO.mp hd with hd|hd
 .have hu:=G.dn i h;revert hu hd;generalize (sy g i).un=l;intro hd hu
  match l with
  |[a,b]=>
   have h1:=hu a (by simp);have h2:=hu b (by simp);simp[Gw]at hd;rcases hd with rfl|rfl
   .exact⟨by show a<_;lia,by show b<_;lia⟩
   .exact⟨by show b<_;lia,by show a<_;lia⟩
  |[]=>simp[Gw]at hd
  |[_]=>simp[Gw]at hd
  |_::_::_::_=>simp[Gw]at hd
 .obtain⟨o,ho,hd⟩:=Fc.mp hd;have:=G.be i h o ho;simp at hd;rcases hd with rfl|rfl
  .exact⟨h,this⟩
  .exact⟨this,h⟩
def fa(F:O (O Bool))(j i:Nat):Bool:=(F.getD j []).getD i false
def lD(g:O Sy)(F:O (O Bool))(e:Ent)(i:Nat):O Dd:=match e with
 |.word w=>if hm g i w=true then [("found",i,i)] else []
 |.pair a b=>(dds g i).filter λd=>fa F a d.2.1&&fa F b d.2.2
def Tf(n:Nat):Ent->Prop
 |.word _=>True
 |.pair a b=>a<n/\b<n
def gF{l m:List α}{d:α}(h:i<l.length):(l++m).getD i d=l.getD i d:=by
 rw[Ae,AX h,<- Ae]
def i8{l m:List α}{d:α}(h:l.length<=i):(l++m).getD i d=m.getD (i-l.length) d:=by
 rw[Ae,Bd h,<- Ae]
def ht:Tr->Nat->Nat
 |.leaf _,_=>0
 |.node l r,j=>if j<l.size then ht l j else if j<l.size+r.size then ht r (j-l.size) else (Tr.node l r).depth
theorem Mg(t:Tr):ht t (t.size-1)=t.depth:=by
 cases t with
 |leaf _=>rfl
 |node l r=>
  have es:(Tr.node l r).size=l.size+r.size+1:=rfl;rw[ht,if_neg ∅,if_neg ∅]
theorem XM:∀(t:Tr) (o j a b:Nat),j<t.size->en t o j=.pair a b->ht t (a-o)<ht t j/\ht t (b-o)<ht t j
 |.leaf _,o,j,a,b,h,e=>by rw[en]at e;cases e
 |.node l r,o,j,a,b,h,e=>by
  have lp:=l.size_pos;have rp:=r.size_pos;by_cases c1:j<l.size
  .rw[en,if_pos c1]at e;obtain⟨h1,h2,h3,h4,_⟩:=uN l o j .aB a b c1 e;have:=XM l o j a b c1 e;have q1:∀x,x<l.size->ht (.node l r) x=ht l x:=λx hx=>by rw[ht,if_pos hx]
   rw[q1 (a-o) ∅,q1 (b-o) ∅,q1 j c1];exact this
  .by_cases c2:j<l.size+r.size
   .rw[en,if_neg c1,if_pos c2]at e;obtain⟨h1,h2,h3,h4,_⟩:=uN r (o+l.size) (j-l.size) .aB a b ∅ e;have:=XM r (o+l.size) (j-l.size) a b ∅ e;have q1:∀x,¬x<l.size->x<l.size+r.size->ht (.node l r) x=ht r (x-l.size):=λx h1 h2=>by rw[ht,if_neg h1,if_pos h2]
    rw[q1 (a-o) ∅ ∅,q1 (b-o) ∅ ∅,q1 j c1 c2,FY,FY];exact this
   .rw[en,if_neg c1,if_neg c2]at e;injection e with e1 e2;subst e1;subst e2;have er:(Tr.node l r).depth=max l.depth r.depth+1:=rfl;have ej:ht (.node l r) j=(Tr.node l r).depth:=by rw[ht,if_neg c1,if_neg c2]
    have e3:ht (.node l r) (o+l.size-1-o)=l.depth:=by rw[ht,if_pos ∅,show o+l.size-1-o=l.size-1 by lia,Mg]
    have e4:ht (.node l r) (o+l.size+r.size-1-o)=r.depth:=by rw[ht,if_neg ∅,if_pos ∅,show o+l.size+r.size-1-o-l.size=r.size-1 by lia,Mg]
    lia
theorem zq:∀(t:Tr) (o j:Nat) (w:Str),j<t.size->en t o j=.word w->w∈t.ak
 |.leaf x,o,j,w,h,e=>by
  injection e with e;subst e;simp[Tr.ak]
 |.node l r,o,j,w,h,e=>by
  by_cases c1:j<l.size
  .rw[en,if_pos c1]at e;exact BJ _ (zq l o j w c1 e)
  .by_cases c2:j<l.size+r.size
   .rw[en,if_neg c1,if_pos c2]at e;exact A3 _ (zq r _ (j-l.size) w ∅ e)
   .rw[en,if_neg c1,if_neg c2]at e;cases e
def X5(t:Tr)(h:j<t.size):Tf j (en t 0 j):=by
 cases e:en t 0 j with
 |word w=>trivial
 |pair a b=>exact bU t h e
def dl(g:O Sy)(i:Nat):O Dd:=dbl i::(Gw (sy g i).un++((sy g i).be.map (λo=>(("over",i,o):Dd))++(sy g i).be.map (λo=>(("over",o,i):Dd))))
theorem SJ(G:WG g ws)(h:i<g.length):(dl g i).length<=63:=by
 unfold dl;simp;have:=Ug (sy g i).un;have:=G.abf i h;lia
variable{f:PV->W PV}
theorem Wi(d:Dd):qo (d2 d)=true:=rfl
def NX(p:Nat×Nat):PV:=.tup [.int (p.1:Int),.int (p.2:Int)]
def PB(G:WG g ws)(h:i<g.length):ib (nR g) (.int (i:Int))=.ret ((Gw (sy g i).un).map λd=>NX (d.2.1,d.2.2)):=by
 unfold ib;simp only[mo,nV h];have hu:=G.ve i h;revert hu;generalize (sy g i).un=l;intro hu
 match l,hu with
 |[],_=>simp;rfl
 |[a],_=>simp;rfl
 |[a,b],_=>
  simp;rfl
theorem UX(G:WG g ws)(h:i<g.length):jD (nR g) (.int (i:Int))=.ret ((sy g i).be.map (λo=>NX (i,o))++(sy g i).be.map (λo=>NX (o,i))):=by
 unfold jD;have l3:=G.abf i h;simp only[mo,OK h,aO];rw[lN (g:=λo=>NX (i,o)) λk hk=>rfl,lN (g:=λo=>NX (o,i)) λk hk=>rfl];simp;rw[f7 (by simp;lia)]
theorem tV{c:α->PV}{k:α->PV}:∀{l:List α},(∀x∈l,f (c x)=.ret (k x))->bF (l.map c) f=.ret (l.map k)
 |[],_=>rfl
 |x::r,h=>by
  show am (f (c x)) (λy=>am (bF (r.map c) f) λm=>ce (y::m))=_;rw[h x (.head _),tV λy hy=>h y (.tail _ hy)];rfl
theorem Oy(G:WG g ws)(h:i<g.length)(q:∀m:O PV,m.Perm ((dl g i).map d2)->Q m):(eY (nR g) (Ent.pair a b).pv (.int (i:Int))).run Q:=by
 have l63:=SJ G h;unfold eY;simp only[Ent.pv,ga,gC,gB,cD,nn,AD,if_false,PB G h,UX G h];refine hX (λd:Dd=>.tup [.str "split",NX (d.2.1,d.2.2)]) (λd _ R r=>r) ?_;have em:(sy g i).be.map (λo=>NX (i,o))++(sy g i).be.map (λo=>NX (o,i))=((sy g i).be.map (λo=>((i,o):Nat×Nat))++(sy g i).be.map (λo=>(o,i))).map NX:=by
  rw[AI,AL,AL];rfl
 rw[em];refine hX (λp:Nat×Nat=>.tup [.str "over",NX p]) (λp _ R r=>r) ?_;simp only[nn,ig];have es:(Gw (sy g i).un).map (λd=>PV.tup [.str "split",NX (d.2.1,d.2.2)])=(Gw (sy g i).un).map d2:=by
  refine Ba λd hd=>?_;have:d.1=("split"):=by
   revert hd;generalize (sy g i).un=l;intro hd;unfold Gw at hd
   split at hd
   .simp at hd;rcases hd with rfl|rfl<;>rfl
   .cases hd
  unfold d2 NX;rw[this]
 have eo:((sy g i).be.map (λo=>((i,o):Nat×Nat))++(sy g i).be.map (λo=>(o,i))).map (λp=>PV.tup [.str "over",NX p])=((sy g i).be.map (λo=>(("over",i,o):Dd))++(sy g i).be.map (λo=>(("over",o,i):Dd))).map d2:=by
  simp;rfl
 rw[es,eo];have ll:(dl g i).length=1+(Gw (sy g i).un).length+((sy g i).be.map (λo=>(("over",i,o):Dd))++(sy g i).be.map (λo=>(("over",o,i):Dd))).length:=by
  unfold dl;simp;lia
 rw[f7 (by simp;lia)];simp only[nn];rw[f7 (by simp at *;lia)];have e:([PV.tup [.str "doubled",.tup [.int i,.int (i:Int)]]]++(Gw (sy g i).un).map d2)++((sy g i).be.map (λo=>(("over",i,o):Dd))++(sy g i).be.map (λo=>(("over",o,i):Dd))).map d2=(dl g i).map d2:=by
  unfold dl;simp;rfl
 simp only[nn];rw[e];refine⟨⟨by rw[Ai];lia,Df.mpr λx hx=>?_⟩,λm hm=>q m hm⟩;obtain⟨d,_,rfl⟩:=Aq.mp hx;exact Wi d
theorem Dt.isD(D:Dt t ds [] d)(h:d<=99):VI t ds=true:=by
 unfold VI;rw[A9,A9,decide_eq_true_iff,decide_eq_true_iff];refine⟨D.len,?_,Df.mpr λj hj=>?_⟩
 .unfold M9;have hp:(splits t).Pairwise (· < ·):=by unfold splits;exact List.Pairwise.filter _ Fq
  rw[List.nodup_iff_pairwise_ne,List.pairwise_map];refine List.Pairwise.imp_of_mem (λ{x y} hx hy lt e=>?_) hp;obtain⟨x1,x2⟩:=Bv.mp hx;obtain⟨y1,y2⟩:=Bv.mp hy;have:=D.inj x y (AQ.mp x1) (AQ.mp y1) (by simp) (by simp) x2 y2 e;lia
 .have hj':=AQ.mp hj;unfold okJ;cases e:en t 0 j with
  |word w=>
   rw[D.zero j hj' (.inl (by rw[e];rfl))];rfl
  |pair a b=>
   obtain⟨_,_,h1,h2,h3,h4⟩:=D.up j hj' (by simp) a b e;show(decide (ds.getD a 0<ds.getD j 0)&&decide (ds.getD b 0<ds.getD j 0)&&decide (1<=ds.getD j 0)&&decide (ds.getD j 0<=99))=true;rw[decide_eq_true h1,decide_eq_true h2,decide_eq_true h3,decide_eq_true ∅];rfl
theorem uT:∀(t:Tr) (o:Nat),(t.nd o).countP kh+1=t.ak.length
 |.leaf _,_=>rfl
 |.node l r,o=>by
  have h1:=uT l o;have h2:=uT r (o+l.size);rw[Tr.nd,List.countP_append,List.countP_append];show _+(List.countP kh [Ent.pair _ _])+1=(l.ak++r.ak).length;simp[kh];lia
variable{u:Nat}
theorem ZF(t:Tr):t.nd 0=(AB t.size).map (en t 0):=by
 refine BQ λj=>?_;by_cases h:j<t.size
 .rw[kL t 0 j h,Ah,AW h];rfl
 .rw[Au (by rw[t.bH];lia),Au (by simp;lia)]
def Jw(t:Tr):(splits t).length+1=t.ak.length:=by
 rw[<- uT t 0,ZF t,List.countP_map];unfold splits;rw[<- List.countP_eq_length_filter];rfl
def O8.snoc(r:O8 g i j)(hu:u∈(sy g j).un):O8 g i u:=by
 induction r with
 |refl i=>exact .step hu (.refl _)
 |step h _ ih=>exact .step h (ih hu)
def gS(t:Tr):O Sy:=(AB t.size).map λj=>⟨JN (en t 0 j) j,0,O1 (en t 0 j),apt t j⟩
def q9(t:Tr)(h:j<t.size):sy (gS t) j=⟨JN (en t 0 j) j,0,O1 (en t 0 j),apt t j⟩:=by
 unfold sy gS;rw[Ae,Ah,AW h];rfl
@[simp] theorem iA(t:Tr):(gS t).length=t.size:=by unfold gS;simp
def aer(t:Tr):nR (gS t)=.tup (grL t):=by
 unfold nR gS grL;rw[AL];congr 1
def Xk(e:Ent)(j:Nat):(∃s,JN e j=.str s)\/∃n,JN e j=.int n:=by
 cases e with
 |word w=>exact .inl ⟨w,rfl⟩
 |pair a b=>exact .inr ⟨_,rfl⟩
def aat(e:Ent):(O1 e).length<=2:=by cases e<;>simp[O1]
theorem sE:∀(s:Tr) (t:Tr) (o:Nat) (w:Str),(∀k,k<s.size->en t 0 (o+k)=en s o k)->o+s.size<=t.size->w∈s.ak->∃i,i<t.size/\O8 (gS t) (o+s.size-1) i/\en t 0 i=.word w
 |.leaf x,t,o,w,hs,hz,hw=>by
  have hz:o+1<=t.size:=hz;have:w=x:=by simpa[Tr.ak]using hw
  subst this;exact⟨o,by lia,.refl _,(hs 0 (by show 0<1;decide))⟩
 |.node l r,t,o,w,hs,hz,hw=>by
  have es:(Tr.node l r).size=l.size+r.size+1:=rfl;have er:en t 0 (o+(l.size+r.size))=.pair (o+l.size-1) (o+l.size+r.size-1):=by rw[hs _ ∅,en,if_neg ∅,if_neg ∅]
  have ei:o+(Tr.node l r).size-1=o+(l.size+r.size):=by lia
  have un:(sy (gS t) (o+(l.size+r.size))).un=[o+l.size-1,o+l.size+r.size-1]:=by rw[q9 t ∅,er];rfl
  rw[ei];rcases AO.mp (hw) with hw|hw
  .obtain⟨i,h1,h2,h3⟩:=sE l t o w (λk hk=>by rw[hs k ∅,en,if_pos hk]) ∅ hw;exact⟨i,h1,.step (by rw[un];simp) h2,h3⟩
  .obtain⟨i,h1,h2,h3⟩:=sE r t (o+l.size) w (λk hk=>by rw[Be,hs _ ∅,en,if_neg ∅,if_pos ∅,CN]) ∅ hw;exact⟨i,h1,.step (by rw[un];simp) h2,h3⟩
theorem wu(hz:t.size<=30):WG (gS t) t.ak:=by
 have tp:=t.size_pos;have Ð:∀k i,i+k+1=t.size->O8 (gS t) (t.size-1) i:=λk=>by
  induction k using CA with
  |ind k ih=>
   intro i hk;rcases iJ t 0 i .aB ∅ with⟨e,_⟩|⟨a,u,v,ia,ha,_,ep,Tt⟩
   .rw[<- e];exact .refl _
   .refine(ih (t.size-a-1) ∅ a ∅).snoc ?_;rw[q9 t ha,ep];rcases Tt with rfl|rfl<;>simp[O1]
 refine⟨by rw[iA];lia,by rw[iA];lia,λi hi u hu=>?_,λi hi=>?_,λi hi u hu=>?_,λi hi=>?_,λi hi=>?_,λw hw=>?_,λi hi=>by rw[iA]at hi ⊢;exact Ð (t.size-i-1) i ∅⟩
 .rw[iA]at hi;rw[q9 t hi]at hu;cases e:en t 0 i with
  |word w=>rw[e]at hu;cases hu
  |pair a b=>
   rw[e]at hu;have:=bU t hi e;have hu:u=a\/u=b:=by simpa[O1]using hu
   lia
 .rw[iA]at hi;rw[q9 t hi];exact aat _
 .rw[iA]at hi ⊢;rw[q9 t hi]at hu;exact AQ.mp (Bv.mp hu).1
 .rw[iA]at hi;rw[q9 t hi];have:=Ca (λk=>!decide (k∈up t 0 i [])&&!decide (i∈up t 0 k [])) (AB t.size);rw[Bz]at this;show(apt t i).length<=30;unfold apt;lia
 .rw[iA]at hi;rw[q9 t hi];exact Xk _ _
 .obtain⟨i,h1,h2,h3⟩:=sE t t 0 w (λk hk=>by rw[A7]) ∅ hw;rw[A7]at h2;refine⟨i,by rw[iA];exact h1,by rw[iA];exact h2,?_⟩;unfold hm;rw[q9 t h1,h3];simp[O1,JN,RG]
def dS(t:Tr)(ds bs:O Int):O Sy:=(aF t ds bs bs.length).map λp=>⟨JN (en t 0 p.1) p.1,p.2,(IC (en t 0 p.1) p.1 (ds.getD p.1 0) (bs.getD p.2 0)).map λx=>(aF t ds bs bs.length).idxOf (x,p.2-1),bsd (aF t ds bs bs.length) p.1 p.2⟩
def aeY(t:Tr)(ds bs:O Int):nR (dS t ds bs)=.tup (dgL t ds bs):=by
 unfold nR dS dgL;rw[AL];congr 1
@[simp] theorem SQ(t:Tr)(ds bs:O Int):(dS t ds bs).length=(aF t ds bs bs.length).length:=by unfold dS;rw[Ai]
theorem qL(t:Tr)(ds bs:O Int):∀m,(aF t ds bs m).Pairwise λp q=>p.2<=q.2
 |0=>.nil
 |m+1=>by
  have M8:∀p∈GS t ds (bs.getD m 0) m t.size,p.2=m:=λp hp=>by
   obtain⟨k,_,rfl⟩:=Aq.mp hp;rfl
  refine Ee.mpr ⟨qL t ds bs m,?_,λa ha b hb=>?_⟩
  .exact B6.mpr λi j hi hj _=>by rw[M8 _ (CP hi),M8 _ (CP hj)];exact Al _
  .have h1:=(eS ha).1;rw[M8 b hb];lia
theorem wZ(t:Tr)(ds bs:O Int)(n:Nat):∀m,((aF t ds bs m).filter λp=>decide (p.2=n)).length<=t.size
 |0=>Bh _
 |m+1=>by
  rw[aF,Ce,Ak];have ih:=wZ t ds bs n m;by_cases c:n=m
  .subst c;have z:(aF t ds bs n).filter (λp=>decide (p.2=n))=[]:=by
    rw[Fs];intro p hp;have:=(eS hp).1;simp;lia
   rw[z];have h1:=Ca (λp:Nat×Nat=>decide (p.2=n)) (GS t ds (bs.getD n 0) n t.size);have h2:=xT t ds (bs.getD n 0) n t.size;simp only[Ei];lia
  .have z:(GS t ds (bs.getD m 0) m t.size).filter (λp=>decide (p.2=n))=[]:=by
    rw[Fs];intro p hp;obtain⟨k,_,rfl⟩:=Aq.mp hp;simp;lia
   rw[z];simpa using ih
section
theorem DD.above(D:DD t ds)(h:(j,n)∈aF t ds (aE t ds) (aE t ds).length)(hn:n+1<(aE t ds).length):∃a,(a,n+1)∈aF t ds (aE t ds) (aE t ds).length/\j∈IC (en t 0 a) a (ds.getD a 0) ((aE t ds).getD (n+1) 0):=by
 obtain⟨hnl,hj,hs⟩:=bZ.mp h;obtain⟨s1,s2⟩:=(gm hj).mp hs;have inc:=D.inc;have lt:=yU inc hn (show n<n+1 by lia);have Ù:(∀a,kl t 0 j .aB=.int ((a:Nat))->(aE t ds).getD (n+1) 0<ds.getD a 0)->∃a,(a,n+1)∈aF t ds (aE t ds) (aE t ds).length/\j∈IC (en t 0 a) a (ds.getD a 0) ((aE t ds).getD (n+1) 0):=λhx=>
  ⟨j,bZ.mpr ⟨hn,hj,(gm hj).mpr ⟨by lia,hx⟩⟩,by unfold IC;rw[if_pos ∅];exact .head _⟩
 rcases iJ t 0 j .aB hj with⟨_,e⟩|⟨a,u,v,ja,ha,e,ep,Tt⟩
 .exact Ù λa z=>by rw[e]at z;cases z
 .rw[A7]at e Tt;by_cases c:(aE t ds).getD (n+1) 0<ds.getD a 0
  .refine Ù λa' z=>?_;rw[e]at z;injection z with z;have:a=a':=by lia
   subst this;exact c
  .have sa:=s2 a e;have eq:ds.getD a 0=(aE t ds).getD (n+1) 0:=by
    rcases Int.lt_or_eq_of_le (show ds.getD a 0<=(aE t ds).getD (n+1) 0 by lia) with c2|c2
    .have:=(ur inc hn (D.mem ha) c2).2;rw[Nat.add_sub_cancel]at this;lia
    .exact c2
   refine⟨a,bZ.mpr ⟨hn,ha,(gm ha).mpr ⟨by lia,λa2 e2=>?_⟩⟩,?_⟩
   .rcases iJ t 0 a .aB ha with⟨_,e3⟩|⟨a3,u3,v3,_,h3,e3,ep3,ad0⟩
    .rw[e3]at e2;cases e2
    .rw[e3]at e2;injection e2 with e2;rw[A7]at e2 ad0;have:a3=a2:=by lia
     subst this;have:=D.pair a3 u3 v3 h3 ep3;rcases ad0 with rfl|rfl<;>lia
   .unfold IC;rw[if_neg ∅,ep];rcases Tt with rfl|rfl<;>simp
theorem DD.last(D:DD t ds)(h:(j,n)∈aF t ds (aE t ds) (aE t ds).length)(hn:n+1=(aE t ds).length):j=t.size-1:=by
 obtain⟨hnl,hj,hs⟩:=bZ.mp h;obtain⟨s1,s2⟩:=(gm hj).mp hs;rcases iJ t 0 j .aB hj with⟨e,_⟩|⟨a,u,v,ja,ha,e,ep,Tt⟩
 .exact e
 .rw[A7]at e;have sa:=s2 a e;obtain⟨i,hi,ei⟩:=Ek (D.mem ha);have gd:(aE t ds).getD i 0=ds.getD a 0:=by rw[Ae,Ad hi];exact ei
  rcases Bu i n with c|c
  .have:=yU D.inc hnl c;lia
  .have:i=n:=by lia
   subst this;lia
def Kj[BEq α][LawfulBEq α]{l:List α}(nd:l.Nodup){x:α}(h:l[i]?=some x):l.idxOf x=i:=by
 obtain⟨hi,e⟩:=Ag.mp h;rw[<- e];exact nd.idxOf_getElem i hi
def zP[BEq α][LawfulBEq α]{l:List α}{x:α}(h:x∈l):l[l.idxOf x]?=some x:=by
 have:=Cr h;rw[Ad this,List.getElem_idxOf this]
theorem Pd(D:DD t ds)(hz:t.size<=15)(hb:(aE t ds).length<=16):WG (dS t ds (aE t ds)) t.ak:=by
 have nd:=gk t ds (aE t ds) (aE t ds).length;have Ļ:=qL t ds (aE t ds) (aE t ds).length;have lay:=λn=>wZ t ds (aE t ds) n (aE t ds).length;have ok:=D.ok;have ne:=D.ne;have ll:=jt t ds (aE t ds) (aE t ds).length;have above:=λj n=>D.above (j:=j) (n:=n);have last:=λj n=>D.last (j:=j) (n:=n);have Ń:=@bZ t ds (aE t ds) (aE t ds).length;unfold okD at ok;have hS:∀i p,(aF t ds (aE t ds) (aE t ds).length)[i]?=some p->sy (dS t ds (aE t ds)) i=⟨JN (en t 0 p.1) p.1,p.2,(IC (en t 0 p.1) p.1 (ds.getD p.1 0) ((aE t ds).getD p.2 0)).map λx=>(aF t ds (aE t ds) (aE t ds).length).idxOf (x,p.2-1),bsd (aF t ds (aE t ds) (aE t ds).length) p.1 p.2⟩:=λi p hp=>by
  unfold sy dS;rw[Ae,Ah,hp];rfl
 have hL:(dS t ds (aE t ds)).length=(aF t ds (aE t ds) (aE t ds).length).length:=SQ t ds _;have hmul:=FZ hb hz;generalize aF t ds (aE t ds) (aE t ds).length=L at *;have get:∀i,i<(dS t ds (aE t ds)).length->∃p,L[i]?=some p/\p∈L:=λi hi=>by
  rw[hL]at hi;exact⟨L[i],Ad hi,CP hi⟩
 have Ú:∀(i a:Nat) p r,L[i]?=some p->L[a]?=some r->r.2<p.2->a<i:=λi a p r h1 h2 lt=>by
  rcases Bu a i with c|c
  .exact c
  .exfalso;obtain⟨g1,e1⟩:=Ag.mp h1;obtain⟨g2,e2⟩:=Ag.mp h2;rcases EJ c with c|c
   .subst c;rw[h1]at h2;cases h2;lia
   .have:=B6.mp Ļ i a g1 g2 c;rw[e1,e2]at this;lia
 have Ð:∀k i,i+k+1=L.length->O8 (dS t ds (aE t ds)) (L.length-1) i:=λk=>by
  induction k using CA with
  |ind k ih=>
   intro i hk;obtain⟨⟨j,n⟩,hp,hm⟩:=get i (by rw[hL];lia);have nl:=(Ń.mp hm).1;by_cases c:n+1<(aE t ds).length
   .obtain⟨a,ha,hb⟩:=above j n hm c;have ia:=zP ha;have lt:=Ú _ i (a,n+1) (j,n) ia hp (by show n<n+1;lia);have il:=Cr ha;refine(ih (L.length-L.idxOf (a,n+1)-1) ∅ (L.idxOf (a,n+1)) ∅).snoc ?_;rw[hS _ _ ia];exact Aq.mpr ⟨j,hb,Kj nd hp⟩
   .have hj:=last j n hm ∅;have:i=L.length-1:=by
     obtain⟨⟨j2,n2⟩,vM,ø⟩:=get (L.length-1) (by rw[hL];lia);have n2l:=(Ń.mp ø).1;rcases Bu n2 n with c2|c2
     .have:=Ú i (L.length-1) _ _ hp vM c2;lia
     .have en2:n2=n:=by lia
      subst en2;rw[(last j2 n2 ø ∅),<- hj]at vM;exact(Kj nd hp).symm.trans (Kj nd vM)
    rw[this];exact .refl _
 refine⟨by rw[hL];exact(Dl.mpr ne),by rw[hL];lia,λi hi u hu=>?_,λi hi=>?_,λi hi u hu=>?_,λi hi=>?_,λi hi=>?_,λw hw=>?_,λi hi=>by rw[hL]at hi ⊢;exact Ð (L.length-i-1) i ∅⟩
 .obtain⟨p,hp,hm⟩:=get i hi;rw[hS i p hp]at hu;obtain⟨x,hx,rfl⟩:=Aq.mp hu;obtain⟨n1,xm⟩:=ok p hm x hx;exact Ú i _ p (x,p.2-1) hp (zP xm) (by show p.2-1<p.2;lia)
 .obtain⟨p,hp,hm⟩:=get i hi;rw[hS i p hp];unfold IC
  split
  .simp
  .cases en t 0 p.1<;>simp
 .obtain⟨p,hp,hm⟩:=get i hi;rw[hS i p hp]at hu;unfold bsd at hu;obtain⟨x,hx,rfl⟩:=Aq.mp hu;rw[hL];exact Cr (Bv.mp hx).1
 .obtain⟨p,hp,hm⟩:=get i hi;rw[hS i p hp];unfold bsd;rw[Ai];have h1:=lay p.2;have h2:(L.filter λq=>decide (q.2=p.2)&&!decide (q.1=p.1)).length<=(L.filter λq=>decide (q.2=p.2)).length:=by
   have e:L.filter (λq=>decide (q.2=p.2)&&!decide (q.1=p.1))=(L.filter λq=>decide (q.2=p.2)).filter λq=>!decide (q.1=p.1):=by
    rw[List.filter_filter];refine congrArg (λf=>L.filter f) (funext λq=>Bool.and_comm _ _)
   rw[e];exact Ca _ _
  lia
 .obtain⟨p,hp,hm⟩:=get i hi;rw[hS i p hp];exact Xk _ _
 .obtain⟨j,hj,_,ej⟩:=sE t t 0 w (λk hk=>by rw[A7]) ∅ hw;have b0:(aE t ds).getD 0 0=0:=rfl;have mem:(j,0)∈L:=Ń.mpr ⟨by simp[aE],hj,(gm hj).mpr ⟨by rw[D.leaf j w hj ej,b0];exact BC _,λa ea=>by
   rcases iJ t 0 j .aB hj with⟨_,e⟩|⟨a',u,v,_,ha,e,ep,_⟩
   .rw[e]at ea;cases ea
   .rw[e,A7]at ea;injection ea with ea;have:a'=a:=by lia
    subst this;have:=(D.pair a' u v ha ep).2.2;rw[b0];lia⟩⟩
  have il:=Cr mem;refine⟨L.idxOf (j,0),by rw[hL];exact il,by rw[hL];exact Ð (L.length-L.idxOf (j,0)-1) _ ∅,?_⟩;unfold hm;rw[hS _ _ (zP mem)];unfold IC;rw[b0,D.leaf j w hj ej,if_neg ∅,ej];simp[JN,RG]
end
def tG{l:O PV}(h:l[j]?=some v)(hl:l.length<=1000):qb l (.int (j:Int))=.ret (l.eraseIdx j,v):=by
 unfold qb;simp only[Me ((Ag.mp h).1),KB,mo,h,sK (b9 hl)]
def uG{l:O Tr}{x:Tr}(h:l[j]?=some x):(x.ak++(l.eraseIdx j).flatMap Tr.ak).Perm (l.flatMap Tr.ak):=by
 induction l generalizing j with
 |nil=>simp at h
 |cons a l ih=>cases j with
  |zero=>simp at h;subst h;simp
  |succ j=>
   simp;have:=(ih (by simpa using h)).append_left a.ak;refine List.Perm.trans ?_ this;rw[<- AG,<- AG];exact BR.append_right _
def wU{l:O Tr}:(l.map Tr.pv).eraseIdx j=(l.eraseIdx j).map Tr.pv:=by
 induction l generalizing j with
 |nil=>simp
 |cons a l ih=>cases j with
  |zero=>simp
  |succ j=>simp[ih]
def Q6{l:O Nat}{x:PV}(h:(aL l)[i]?=some x):∃k,l[i]?=some k/\x=.int (k:Int):=by
 unfold aL at h;rw[Ah]at h;cases e:l[i]? with
 |none=>rw[e]at h;cases h
 |some k=>rw[e]at h;exact⟨k,rfl,(Option.some.inj h).symm⟩
abbrev OI:=Option Int
def oP:OI->PV
 |none=>.aB
 |some i=>.int i
def Jd(l:O OI):O Int:=l.filterMap id
def iL(l:O OI):OI:=if ci∈l then ci else some (Jd l).sum
def cU(l:O OI):OI:=if Jd l=[] then ci else some (vC (Jd l))
theorem L5:∀{l:O OI},ci∉l->l.map oP=(Jd l).map PV.int
 |[],_=>rfl
 |none::l,h=>absurd (.head _) h
 |some a::l,h=>by
  have:=L5 λz=>h (.tail _ z);rw[Ar,this];rfl
def aaO(l:O OI):(l.map oP).filterMap (λx=>if x matches .aB then ci else some x)=(Jd l).map PV.int:=by
 induction l with
 |nil=>rfl
 |cons a l ih=>cases a with
  |none=>rw[Ar,AH];exact ih
  |some i=>rw[Ar,AH];exact congrArg _ ih
def aai(l:O OI):rO false .aB (l.map oP)=.ret (decide (ci∈l)):=by
 have h0:∀x∈l.map oP,PV.fg x=true/\PV.iB x<=150:=λx hx=>by
  obtain⟨o,_,rfl⟩:=Aq.mp hx;cases o<;>simp[oP]
 have h1:HL .aB (l.map oP):=⟨by simp,jd.mpr λx hx=>(h0 x hx).1,kZ λx hx=>(h0 x hx).2⟩;have h2:o6 .aB (l.map oP)=decide (ci∈l):=by
  unfold o6;rw[List.any_map];clear h0 h1
  induction l with
  |nil=>rfl
  |cons a l ih=>
   rw[Cj,ih];cases a<;>simp[oP,kf]
 unfold rO;rw[sK h1,h2];simp
def wA(l:O OI):kM (.cl (l.map oP))=.ret (oP (iL l)):=by
 unfold kM iL;simp only[mo,bq,aai];by_cases h:ci∈l
 .simp[h,oP]
 .rw[if_neg h];simp only[h,ig,mo,L5 h,tm,i5];rfl
def Vi(l:O OI):L7 ((Jd l).map PV.int)=.ret (oP (cU l)):=by
 unfold L7 cU;rw[i5,mo]
 split<;>rfl
def SU(l:O OI):(ml (l.map oP) λp2=>Rm (am (of2 Hi p2 .aB) asB) (ce p2))=.ret ((Jd l).map PV.int):=by
 rw[<- aaO];refine ui λx hx=>?_;obtain⟨o,_,rfl⟩:=Aq.mp hx;cases o<;>simp[oP,PV.ka]
def rA(l:O OI):gM (.cl (l.map oP))=.ret (oP (cU l)):=by
 unfold gM;simp only[mo,bq,SU,Vi]
def Ny{a b:O Int}(h:a.Perm b):vC a=vC b:=by
 by_cases c:a=[]
 .subst c;rw[List.nil_perm.mp h]
 .exact FN (sD (h.mem_iff.mpr (oE (λz=>c (by subst z;exact List.perm_nil.mp h))))) (sD (h.mem_iff.mp (oE c)))
variable{ps:O Int}{d:Str}
def Nx{a b:O OI}(h:a.Perm b):cU a=cU b:=by
 have h2:(Jd a).Perm (Jd b):=h.filterMap _;unfold cU;rw[Ny h2];have:(Jd a=[])=(Jd b=[]):=propext ⟨λz=>List.nil_perm.mp (z▸h2),λz=>List.perm_nil.mp (z▸h2)⟩;simp only[this]
def Om(d:Str):Nat:=if d="split" then 0 else if d="doubled" then 1 else 2
def yc(ps:O Int)(d:Str):Int:=ps.getD (Om d) 0
theorem SH(d:Str):Om d<3:=by unfold Om;split;lia;split<;>lia
theorem Yf(h:ps.length=4)(hk:k<4):d5 (bz ps) (k:Int)=some (.int (ps.getD k 0)):=dP (by
 unfold bz;rw[Ah,Ad ∅,Ae,Ad ∅];rfl)
def vL(d:Str):Prop:=d="split"\/d="doubled"\/d="over"
def VL:rO false (.str d) ([("split":Str),("doubled":Str),("over":Str)].map PV.str)=.ret (decide (d∈[("split":Str),("doubled":Str),("over":Str)])):=by
 unfold rO;rw[sK ⟨by simp,by simp[eG],by simp[dE]⟩];congr 1;simp only[o6,Mp];have e:∀a:Str,(a==d)=decide (d=a):=λa=>by
  by_cases c:a=d
  .subst c;simp
  .have c2:¬d=a:=λz=>c z.symm;simp[c,c2]
 simp[e]
theorem Qz(h:ps.length=4)(hd:vL d):jC (.tup (bz ps)) (.str d)=.ret (.int (yc ps d)):=by
 unfold jC;have hm:d∈[("split":Str),("doubled"),("over")]:=by rcases hd with rfl | rfl | rfl <;> simp
 have hi:RJ ["split","doubled","over"] (.str d)=.ret (.int ((Om d))):=by
  show W.dm _ _=_;rw[sK hm];rcases hd with rfl|rfl|rfl<;>rfl
 have:=SH d;simp only[mo,VL,hm,if_true,aO,hi,cy,Yf h (k:=Om d) ∅];rfl
variable{d:Dd}
def cv(cs:O OI)(n:Nat):OI:=cs.getD n ci
def d4(g:O Sy)(ps:O Int)(i:Nat):Int:=if (sy g i).un.length=2 then ps.getD 3 0 else 0
def SK(h:d∈dl g i):vL d.1:=by
 unfold dl at h;rcases Ay.mp h with rfl|h
 .exact .inr (.inl rfl)
 rcases AO.mp h with h|h
 .unfold Gw at h
  split at h
  .simp at h;rcases h with rfl|rfl<;>exact .inl rfl
  .cases h
 .rcases AO.mp h with h|h<;>obtain⟨o,_,rfl⟩:=Aq.mp h<;>exact .inr (.inr rfl)
def QK{f:α->β}{a b:List β}(h:a.Perm b):∀{l:List α},b=l.map f->∃ds:List α,a=ds.map f/\ds.Perm l:=by
 induction h with
 |nil=>intro l e;exact⟨[],rfl,by rw[Dk.mp e.symm]⟩
 |cons x _ ih=>
  intro l e;cases l with
  |nil=>cases e
  |cons y l=>
   injection e with e1 e2;obtain⟨ds,h1,h2⟩:=ih e2;exact⟨y::ds,by rw[Ar,e1,h1],h2.cons y⟩
 |swap x y r=>
  intro l e
  match l,e with
  |u::v::l,e=>
   injection e with e1 e2;injection e2 with e2 e3;exact⟨v::u::l,by rw[Ar,Ar,e1,e2,e3],.swap u v l⟩
 |trans _ _ VN ß=>
  intro l e;obtain⟨ds,h1,h2⟩:=ß e;obtain⟨es,h3,h4⟩:=VN h1;exact⟨es,h3,h4.trans h2⟩
theorem xl(f h:α->β):∀l:List α,(l.map f++l.map h).Perm (l.flatMap λo=>[f o,h o])
 |[]=>.nil
 |a::l=>by
  exact((List.perm_middle).trans ((xl f h l).cons _)).cons _
def Wg(g:O Sy)(i:Nat):(dl g i).Perm (dds g i):=((xl (λo=>(("over",i,o):Dd)) (λo=>(("over",o,i):Dd)) (sy g i).be).append_left _).cons _
def xt(G:WG g ws)(h:i<g.length)(hd:d∈dl g i):d.2.1<g.length/\d.2.2<g.length:=aa8 G h ((Wg g i).mem_iff.mp hd)
theorem Zq(p4:ps.length=4)(hi:i<g.length):hZ (nR g) (.tup (bz ps)) (.int (i:Int))=.ret (.int (d4 g ps i)):=by
 unfold hZ d4;simp only[mo,nV hi,sJ,iX,qz,dw,cy];by_cases c:(sy g i).un.length=2
 .have h3:=Yf p4 (k:=3) ∅;have c2:(((sy g i).un.length:Int)==2)=true:=by simp[c]
  rw[if_pos c,c2];simp;rw[show((3:Nat):Int)=3 from rfl]at h3;rw[h3];rfl
 .have c2:(((sy g i).un.length:Int)==2)=false:=by simp;lia
  rw[if_neg c,c2];rfl
abbrev kk(j i:Nat):O Key:=[.inl (j:Int),.inl (i:Int)]
variable{v:Int}
theorem RC{P:Nat->Nat->Prop}{m:Nat}(h:∀j i,j<n->i<m->(∀a x,a<j->x<m->P a x)->(∀u,u<i->P j u)->P j i):∀j i,j<n->i<m->P j i:=by
 intro j
 induction j using CA with
 |ind j ihj=>
  intro i
  induction i using CA with
  |ind i ihi=>exact λhj hi=>h j i hj hi (λa x ha hx=>ihj a ha x ∅ hx) λu hu=>ihi u hu hj ∅
def L8{l:O OI}:v∈Jd l↔some v∈l:=by
 unfold Jd;rw[EL];exact⟨λ⟨o,h1,h2⟩=>by rw[id]at h2;rw[<- h2];exact h1,λh=>⟨_,h,rfl⟩⟩
def dI{l:O OI}(h:some v∈l):∃m,cU l=some m/\m<=v:=by
 have h:=L8.mpr h;unfold cU;rw[if_neg (λz=>by rw[z]at h;cases h)];exact⟨_,rfl,sD h⟩
def cZ{l:O OI}{m:Int}(h:cU l=some m):some m∈l:=by
 unfold cU at h
 split at h
 .cases h
 .next c=>
  cases h;exact L8.mp (oE c)
def sum2{a b:Int}:iL [some a,some b]=some (a+b):=by simp[iL,Jd]
theorem Hv{l m:O OI}(h1:∀v,some v∈l->∃u,some u∈m/\u<=v)(h2:∀v,some v∈m->∃u,some u∈l/\u<=v):cU l=cU m:=by
 cases e:cU l with
 |none=>
  cases e2:cU m with
  |none=>rfl
  |some v=>
   obtain⟨u,hu,_⟩:=h2 v (cZ e2);obtain⟨w,hw,_⟩:=dI hu;rw[e]at hw;cases hw
 |some v=>
  obtain⟨u,hu,lu⟩:=h1 v (cZ e);obtain⟨w,hw,lw⟩:=dI hu;obtain⟨x,hx,lx⟩:=h2 w (cZ hw);obtain⟨y,hy,ly⟩:=dI hx;rw[e]at hy;cases hy;rw[hw];congr 1;lia
def qe(l:O OI)(x:OI):cU [cU l,x]=cU (l++[x]):=by
 refine Hv (λv h=>?_) λv h=>?_
 .rcases Ay.mp h with h|h
  .exact⟨v,BJ _ (cZ h.symm),BC _⟩
  .exact⟨v,A3 _ h,BC _⟩
 .rcases AO.mp h with h|h
  .obtain⟨m,hm,lm⟩:=dI h;exact⟨m,by rw[hm];exact .head _,lm⟩
  .exact⟨v,.tail _ h,BC _⟩
def qf(l:O OI):cU [cU l,ci]=cU l:=by
 rw[qe];refine Hv (λv h=>?_) λv h=>⟨v,BJ _ h,BC _⟩;rcases AO.mp h with h|h
 .exact⟨v,h,BC _⟩
 .cases AR.mp h
def fC(A B:O OI)(n i:Nat):OI:=if i<=n then iL [A.getD i ci,B.getD (n-i) ci] else ci
def uH(A B:O OI)(i n:Nat):OI:=cU ((AB i).map (fC A B n))
def gc(A B:O OI):O OI:=(AB (A.length+B.length-1)).map (uH A B A.length)
def dX(A:O OI)(m:OI):O OI:=A.map λc=>iL [c,m]
def mj(L:O (O OI))(n:Nat):O OI:=(AB n).map λk=>cU (L.map λc=>c.getD k ci)
def WZ{a:OI}:iL [a,ci]=ci:=by cases a<;>simp[iL]
def WY{a:OI}:iL [ci,a]=ci:=by cases a<;>simp[iL]
def zl(A B:O OI)(i n:Nat):uH A B (i+1) n=cU [uH A B i n,fC A B n i]:=by
 unfold uH;rw[qe,FG,AI];rfl
variable{A B:O OI}{y:Int}
theorem aeJ(h:n<i):uH A B (i+1) n=uH A B i n:=by
 rw[zl];unfold fC;rw[if_neg ∅];exact qf _
theorem aeK(h:i+B.length<=n):uH A B (i+1) n=uH A B i n:=by
 rw[zl];unfold fC;rw[if_pos ∅,Ae (l:=B),Au ∅];show cU [_,iL [_,ci]]=_;rw[WZ];exact qf _
def xj(A B:O OI):(gc A B).length=A.length+B.length-1:=by unfold gc;rw[Ai,Bz]
theorem Oc(B:O OI):gc [some 0] B=B:=by
 apply BQ;intro n;unfold gc;have e:([some 0]:O OI).length+B.length-1=B.length:=by simp
 rw[e];by_cases h:n<B.length
 .rw[Ah,AW h,Ad h];show some (uH [some 0] B 1 n)=_;congr 1;unfold uH fC;have:B.getD n ci=B[n]:=by rw[Ae,Ad h];rfl
  simp only[List.range_one,Ar,CW,Bh,if_true,Er,this];cases e2:B[n] with
  |none=>simp[iL,cU,Jd]
  |some v=>simp[iL,cU,Jd,vC]
 .rw[Au (by rw[Ai,Bz];lia),Au ∅]
theorem VZ(hx:A.getD i ci=some x)(hy:B.getD j ci=some y):∃m,(gc A B).getD (i+j) ci=some m/\m<=x+y:=by
 have hi:i<A.length:=by
  rcases Bu i A.length with h|h
  .exact h
  .rw[Ae,Au h]at hx;cases hx
 have hj:j<B.length:=by
  rcases Bu j B.length with h|h
  .exact h
  .rw[Ae,Au h]at hy;cases hy
 unfold gc;rw[Ae,Ah,AW ∅];show ∃m,uH A B A.length (i+j)=some m/\_;unfold uH;refine dI (Aq.mpr ⟨i,AQ.mpr hi,?_⟩);unfold fC;rw[if_pos ∅,hx,show i+j-i=j by lia,hy,sum2]
theorem Mo(h:(gc A B).getD n ci=some v):∃i j x y,i+j=n/\A.getD i ci=some x/\B.getD j ci=some y/\v=x+y:=by
 unfold gc at h;rw[Ae,Ah]at h;rcases Bu n (A.length+B.length-1) with hn|hn
 .rw[AW hn]at h;have h:cU ((AB A.length).map (fC A B n))=some v:=h;obtain⟨i,hi,e⟩:=Aq.mp (cZ h);unfold fC at e
  split at e
  .next Î=>
   cases ea:A.getD i ci with
   |none=>rw[ea,WY]at e;cases e
   |some x=>
    cases eb:B.getD (n-i) ci with
    |none=>rw[ea,eb,WZ]at e;cases e
    |some y=>
     rw[ea,eb,sum2]at e;exact⟨i,n-i,x,y,by lia,ea,eb,(Option.some.inj e).symm⟩
  .cases e
 .rw[Au (by rw[Bz];exact hn)]at h;cases h
def fJ:Tr->Nat->Nat
 |.leaf _,_=>1
 |.node l r,j=>if j<l.size then fJ l j else if j<l.size+r.size then fJ r (j-l.size) else l.ak.length+r.ak.length
theorem tX:∀t:Tr,fJ t (t.size-1)=t.ak.length
 |.leaf _=>rfl
 |.node l r=>by
  have h1:=l.size_pos;have h2:=r.size_pos;have hs:(Tr.node l r).size=l.size+r.size+1:=rfl;rw[hs,fJ,if_neg ∅,if_neg ∅];simp[Tr.ak]
variable{L:O (O OI)}
theorem oK:∀(t:Tr) (j:Nat),1<=fJ t j/\fJ t j<=t.ak.length
 |.leaf _,j=>⟨Al _,Al _⟩
 |.node l r,j=>by
  have h1:=l.eZ;have h2:=r.eZ;have e:(Tr.node l r).ak.length=l.ak.length+r.ak.length:=by simp[Tr.ak]
  rw[fJ,e]
  split
  .have:=oK l j;lia
  .split
   .have:=oK r (j-l.size);lia
   .omega
theorem oI:∀(t:Tr) (o j:Nat) {w:Str},j<t.size->en t o j=.word w->fJ t j=1
 |.leaf _,_,_,_,_,_=>rfl
 |.node l r,o,j,w,h,e=>by
  have hs:(Tr.node l r).size=l.size+r.size+1:=rfl;rw[en]at e;rw[fJ]
  split at e
  .next c=>rw[if_pos c];exact oI l o j c e
  .next c=>
   rw[if_neg c]
   split at e
   .next d=>rw[if_pos d];exact oI r _ (j-l.size) ∅ e
   .cases e
theorem oJ:∀(t:Tr) (o j:Nat) {a b:Nat},j<t.size->en t o j=.pair a b->∃a' b',a'<t.size/\b'<t.size/\a=o+a'/\b=o+b'/\fJ t j=fJ t a'+fJ t b'
 |.leaf _,_,_,_,_,_,e=>by rw[en]at e;cases e
 |.node l r,o,j,a,b,h,e=>by
  have h1:=l.size_pos;have h2:=r.size_pos;have hs:(Tr.node l r).size=l.size+r.size+1:=rfl;have Ĵ:∀k,k<l.size->fJ (.node l r) k=fJ l k:=λk hk=>by rw[fJ,if_pos hk]
  have ĳ:∀k,k<r.size->fJ (.node l r) (l.size+k)=fJ r k:=λk hk=>by rw[fJ,if_neg ∅,if_pos ∅];congr 1;lia
  rw[en]at e
  split at e
  .next c=>
   obtain⟨a',b',k1,k2,e1,e2,e3⟩:=oJ l o j c e;refine⟨a',b',by lia,by lia,e1,e2,?_⟩;rw[Ĵ j c,Ĵ a' k1,Ĵ b' k2];exact e3
  .next c=>
   split at e
   .next d=>
    obtain⟨a',b',k1,k2,e1,e2,e3⟩:=oJ r _ (j-l.size) ∅ e;refine⟨l.size+a',l.size+b',by lia,by lia,by lia,by lia,?_⟩;obtain⟨m,rfl⟩:∃m,j=l.size+m:=⟨j-l.size,by lia⟩;rw[CN]at e3;rw[ĳ a' k1,ĳ b' k2,ĳ m ∅];exact e3
   .next d=>
    injection e with e1 e2;have e5:fJ (.node l r) j=l.ak.length+r.ak.length:=by rw[fJ,if_neg c,if_neg d]
    refine⟨l.size-1,l.size+(r.size-1),by lia,by lia,by lia,by lia,?_⟩;rw[e5,Ĵ _ ∅,ĳ _ ∅,tX,tX]
def Xi(h:i<A.length):d5 (A.map oP) (i:Int)=some (oP (A.getD i ci)):=dP (by rw[Ah,Ad h,Ae,Ad h];rfl)
def wI(A:O OI)(m:OI):gK (.cl (A.map oP)) (oP m)=.ret ((dX A m).map oP):=by
 unfold gK dX;rw[AL];simp only[mo,bq];refine tV λc _=>?_;have e:[oP c,oP m]=[c,m].map oP:=rfl;simp only[fY,mo,e,wA];rfl
theorem wV(hn:n<=1000)(h:∀A∈L,n<=A.length):gL (.cl (L.map λA=>.cl (A.map oP))) (.int (n:Int))=.ret ((mj L n).map oP):=by
 unfold gL mj;simp only[mo,eI,sK (bS (i:=0) (j:=(n:Int)) ∅ ∅),Bk];rw[i6,AL];refine lN λk hk=>?_;have hk:=AQ.mp hk;have e:(bF (L.map λA=>PV.cl (A.map oP)) λp5=>(cL (am (ce p5) az) (ce (.int (k:Int)))))=.ret ((L.map λA=>A.getD k ci).map oP):=by
  rw[AL];refine tV λA hA=>?_;have:=h A hA;simp only[mo,bq,cy,Xi (show k<A.length by lia),KB];rfl
 simp only[mo]at e;simp only[fY,mo,bq,e,rA];rfl
theorem Ur{N p:Nat}{f:Nat->OI}{v:OI}(hp:p<N):(((AB N).map f).map oP).set p (oP v)=((AB N).map λn=>if n=p then v else f n).map oP:=by
 rw[<- Eu];congr 1;apply BQ;intro n;rw[EX];by_cases h:n<N
 .rw[Ah,AW h];by_cases c:p=n
  .subst c;rw[if_pos rfl,if_pos (by simpa using h),Ah,AW h];simp
  .rw[if_neg c,Ah,AW h];simp[show ¬n=p from λz=>c z.symm]
 .rw[Au (l:=F1 _ _) (by simp;lia),Au (l:=F1 _ _) (by simp;lia),if_neg ∅]
theorem xi(hA:1<=A.length)(hB:1<=B.length)(h2:A.length+B.length<=200):(oH (.cl (A.map oP)) (.cl (B.map oP))).le (.ret ((gc A B).map oP)):=λQ q=>by
 unfold oH;have hN:((A.length:Int)+(B.length:Int)-1)=((A.length+B.length-1:Nat):Int):=by lia
 generalize hn:A.length+B.length-1=N at hN;have e0:(bF (kd 0 N) λp4=>ce PV.aB)=.ret (((AB N).map (uH A B 0)).map oP):=by
  rw[i6];rw[AL];refine lN λk _=>rfl
 simp only[mo,ga,eJ,Ai,cE,uI,hN,eI,sK (bS (i:=0) (j:=(N:Int)) ∅ ∅),Bk,e0,nn,bq,sK (b9 (show A.length<=1000 by lia))];refine eF (λi s=>s=((AB N).map (uH A B i)).map oP) rfl (λi x s hx hs=>?_) (λs hs=>?_)
 .subst hs;obtain⟨y,hy,rfl⟩:=dY hx;rw[Ah]at hy;have hi:i<A.length:=by
   rcases Bu i A.length with h|h
   .exact h
   .rw[Au h]at hy;cases hy
  have ey:y=oP (A.getD i ci):=by
   rw[Ad hi]at hy;rw[Ae,Ad hi];exact(Option.some.inj hy).symm
  subst ey;have es:KC (.cl (B.map oP)) (.int ((0+i:Nat):Int))=.ret (eR i (B.map oP)):=by
   show W.dm _ _=_;rw[sK ⟨by lia,by lia,b9 (by rw[Ai];lia)⟩];congr 2;lia
  simp only[iC,nn,mo,ga,es];refine eF (λj s=>s=((AB N).map λn=>if n<i+j then uH A B (i+1) n else uH A B i n).map oP) ?_ (λj x s hx hs=>?_) (λs hs=>?_)
  .congr 1;refine Ba λn _=>?_
   split
   .next c=>exact(aeJ ∅).symm
   .rfl
  .subst hs;obtain⟨y,hy,rfl⟩:=dY hx;rw[Ah]at hy;have hj:j<B.length:=by
    rcases Bu j B.length with h|h
    .exact h
    .rw[Au h]at hy;cases hy
   have ey:y=oP (B.getD j ci):=by
    rw[Ad hj]at hy;rw[Ae,Ad hj];exact(Option.some.inj hy).symm
   subst ey;have i1:d5 ((((AB N).map λn=>if n<i+j then uH A B (i+1) n else uH A B i n)).map oP) ((i+j:Nat):Int)=some (oP (uH A B i (i+j))):=by
    rw[Xi (by simp;lia)];congr 2;rw[Ae,Ah,AW ∅];simp
   have e1:[oP (A.getD i ci),oP (B.getD j ci)]=[A.getD i ci,B.getD j ci].map oP:=rfl;have e2:[oP (uH A B i (i+j)),oP (iL [A.getD i ci,B.getD j ci])]=[uH A B i (i+j),iL [A.getD i ci,B.getD j ci]].map oP:=rfl;simp only[iC,nn,mo,ga,cy,i1,KB,fY,e1,wA,e2,rA];rw[n8 (by simp;lia),Ur ∅];congr 1;refine Ba λn _=>?_;have e3:uH A B (i+1) (i+j)=cU [uH A B i (i+j),iL [A.getD i ci,B.getD j ci]]:=by
    rw[zl];unfold fC;rw[if_pos ∅,show i+j-i=j by lia]
   by_cases c:n=i+j
   .subst c;rw[if_pos rfl,if_pos ∅,e3]
   .rw[if_neg c];by_cases d:n<i+j
    .rw[if_pos d,if_pos ∅]
    .rw[if_neg d,if_neg ∅]
  .subst hs;rw[bC,Ai];show _=_;congr 1;refine Ba λn _=>?_
   split
   .rfl
   .next c=>exact(aeK ∅).symm
 .subst hs;rw[bC,Ai];unfold gc at q;rw[hn]at q;exact q
def rq(T:O (O (O OI)))(j i:Nat):O OI:=(T.getD j []).getD i []
def cP(A:O OI):PV:=.cl (A.map oP)
def Gx(T:O (O (O OI))):O PV:=T.map λr=>.cl (r.map cP)
def Ov(ps:O Int)(ask:Str)(R:Nat->Nat->O OI)(a b:Nat)(d:Dd):O OI:=
 if d.1=ask then ci::gc (R a d.2.1) (R b d.2.2) else dX (gc (R a d.2.1) (R b d.2.2)) (some (yc ps d.1))++[ci]
def SI(g:O Sy)(ps:O Int)(ask:Str)(R:Nat->Nat->O OI)(e:Ent)(i:Nat):O (O OI):=match e with
 |.word w=>if hm g i w=true then [[some 0]] else []
 |.pair a b=>(dl g i).map (Ov ps ask R a b)
def qE(g:O Sy)(ps:O Int)(ask:Str)(R:Nat->Nat->O OI)(e:Ent)(n:Nat):Nat->O (O OI)
 |0=>[]
 |k+1=>qE g ps ask R e n k++[mj (SI g ps ask R e k++(sy g k).un.map λu=>dX ((qE g ps ask R e n k).getD u []) (some (d4 g ps k))) n]
def iP(g:O Sy)(ps:O Int)(ask:Str)(t:Tr):Nat->O (O (O OI))
 |0=>[]
 |j+1=>iP g ps ask t j++[qE g ps ask (rq (iP g ps ask t j)) (en t 0 j) (fJ t j) g.length]
structure rC(g:List Sy)(t:Tr)(T:List (List (List OI)))(n:Nat):Prop where
 len:T.length=n
 row:∀j,j<n->(T.getD j []).length=g.length
 ent:∀j i,j<n->i<g.length->(rq T j i).length=fJ t j
theorem ik(g:O Sy)(ps:O Int)(ask:Str)(R:Nat->Nat->O OI)(e:Ent)(n:Nat):∀k,(qE g ps ask R e n k).length=k
 |0=>rfl
 |k+1=>by rw[qE,Ak,ik g ps ask R e n k];rfl
variable{w:Str}{R:Nat->Nat->O OI}{m:Int}
theorem pB{ask:Str}:∀{k:Nat},i<k->(qE g ps ask R e n k).getD i []=mj (SI g ps ask R e i++(sy g i).un.map λu=>dX ((qE g ps ask R e n i).getD u []) (some (d4 g ps i))) n
 |k+1,h=>by
  rw[qE];by_cases c:i<k
  .rw[gF (by rw[ik];exact c)];exact pB c
  .have:i=k:=by lia
   subst this;rw[i8 (by rw[ik];exact Al _),ik,Es];rfl
def zJ{ask:Str}(h:i<k):((qE g ps ask R e n k).getD i []).length=n:=by
 rw[pB h];unfold mj;rw[Ai,Bz]
theorem jw(g:O Sy)(ps:O Int)(ask:Str)(t:Tr):∀j,(iP g ps ask t j).length=j
 |0=>rfl
 |j+1=>by rw[iP,Ak,jw g ps ask t j];rfl
theorem si{ask:Str}:∀{k:Nat},j<k->(iP g ps ask t k).getD j []=qE g ps ask (rq (iP g ps ask t j)) (en t 0 j) (fJ t j) g.length
 |k+1,h=>by
  rw[iP];by_cases c:j<k
  .rw[gF (by rw[jw];exact c)];exact si c
  .have:j=k:=by lia
   subst this;rw[i8 (by rw[jw];exact Al _),jw,Es];rfl
def kE(g:O Sy)(ps:O Int)(ask:Str)(t:Tr)(k:Nat):rC g t (iP g ps ask t k) k:=
 ⟨jw _ _ _ _ _,λj h=>by rw[si h,ik],λj i h hi=>by unfold rq;rw[si h,zJ hi]⟩
section
variable{ask:Str}{T:O (O (O OI))}
def sj(W':rC g t T n)(hj:j<n):d5 (Gx T) (j:Int)=some (.cl ((T.getD j []).map cP)):=dP (by
 unfold Gx;rw[Ah,Ad (by rw[W'.len];exact hj),Ae,Ad (by rw[W'.len];exact hj)];rfl)
def Yd(h:i<L.length):d5 (L.map cP) (i:Int)=some (cP (L.getD i [])):=dP (by rw[Ah,Ad h,Ae,Ad h];rfl)
def oe(W':rC g t T n)(hj:j<n)(hi:i<g.length):d5 ((T.getD j []).map cP) (i:Int)=some (cP (rq T j i)):=Yd (by rw[W'.row j hj];exact hi)
def aeP(a b:Str):of2 gq (.str a) (.str b)=.ret (.bl (decide (a=b))):=by
 rw[uK,sK ⟨by simp,by simp,by simp⟩,Mp];by_cases c:a=b
 .subst c;simp
 .rw[beq_eq_false_iff_ne.mpr c,decide_eq_false c]
def Oq{i:Nat}{T:O (O (O OI))}:cC (.tup (bz ps)) (.str ask) (.cl (Gx T)) (Ent.word w).pv (.tup [.str "found",.tup []])=.ret (cP [some 0]):=by
 unfold cC;have i1:d5 [PV.str "found",PV.tup []] 1=some (.tup []):=rfl;have ez:MU [] []=.ret []:=sK (by simp);have hv:c6 (.str w)=.ret (.tup []):=qt (.word w);simp only[Ent.pv,mo,hv,aO,cy,i1,KB,ez,jc,ph,pe,cD];rfl
theorem Ot(p4:ps.length=4)(W':rC g t T n)(ht:t.ak.length<=90)(ha:a<n)(hb:b<n)(hd:vL d.1)(hx:d.2.1<g.length)(hy:d.2.2<g.length):(cC (.tup (bz ps)) (.str ask) (.cl (Gx T)) (Ent.pair a b).pv (d2 d)).le (.ret (cP (Ov ps ask (rq T) a b d))):=λQ q=>by
 unfold cC;have i0:d5 [PV.str d.1,PV.tup [.int d.2.1,.int d.2.2]] 0=some (.str d.1):=rfl;have i1:d5 [PV.str d.1,PV.tup [.int (d.2.1:Int),.int (d.2.2:Int)]] 1=some (.tup [.int (d.2.1:Int),.int (d.2.2:Int)]):=rfl;have ez:MU [PV.int a,.int (b:Int)] [.int (d.2.1:Int),.int (d.2.2:Int)]=.ret [.tup [.int (a:Int),.int (d.2.1:Int)],.tup [.int (b:Int),.int (d.2.2:Int)]]:=sK (by simp;exact b9 ∅);have lA:=W'.ent a _ ha hx;have lB:=W'.ent b _ hb hy;have kA:=oK t a;have kB:=oK t b;have h0:PV.cl [PV.int 0]=.cl (([some 0]:O OI).map oP):=rfl;have f1:=xi (A:=[some 0]) (B:=rq T a d.2.1) (by simp) ∅ (by simp;lia);rw[Oc]at f1;have f2:=xi (A:=rq T a d.2.1) (B:=rq T b d.2.2) ∅ ∅ ∅;have fl:=xj (rq T a d.2.1) (rq T b d.2.2);have hv:=qt (.pair a b);simp only[Ent.pv]at hv;simp only[d2,Ent.pv,mo,hv,O1,aL,Ar,CW,aO,cy,i0,i1,KB,ez,lV,jc,iC,bq,sj W' ha,sj W' hb,oe W' ha hx,oe W' hb hy,ga,h0];refine W.le.use f1 ?_;simp only[nn];refine W.le.use f2 ?_;simp only[nn,mo,gC,gB,cD,AD,if_false,aeP,dw];have eN:[PV.aB]=([ci]:O OI).map oP:=rfl;unfold Ov at q;by_cases c:d.1=ask
 .rw[if_pos c]at q;simp only[c,decide_true,if_true,fY,mo,ig,eN];rw[f7 (by simp;lia),<- AI];exact q
 .rw[if_neg c]at q;have er:=wI (gc (rq T a d.2.1) (rq T b d.2.2)) (some (yc ps d.1));simp only[c,decide_false,AD,if_false,fY,mo,Qz p4 hd,eN];rw[show PV.int (yc ps d.1)=oP (some (yc ps d.1)) from rfl,er];simp only[mo];rw[f7 (by unfold dX;simp;lia),<- AI];exact q
def Oo(G:WG g ws)(p4:ps.length=4)(W':rC g t T n)(ht:t.ak.length<=90)(he:Tf n e)(hi:i<g.length)(q:∀L:O (O OI),L.Perm (SI g ps ask (rq T) e i)->Q (L.map cP)):(eY (nR g) e.pv (.int (i:Int))).run λl=>(bF l λp=>cC (.tup (bz ps)) (.str ask) (.cl (Gx T)) e.pv p).run Q:=by
 cases e with
 |word w=>
  unfold eY;simp only[Ent.pv,mo,ga,ph,pe,cD,nn,if_true,VQ G hi];unfold SI at q;cases h:hm g i w with
  |false=>
   simp only[h,AD,if_false]at q ⊢;exact q [] (List.Perm.refl _)
  |true=>
   simp only[h,if_true]at q ⊢;have ef:=Oq (ps:=ps) (ask:=ask) (i:=i) (w:=w) (T:=T);simp only[Ent.pv]at ef;simp only[nn,bF,mo,ef];exact q [[some 0]] (List.Perm.refl _)
 |pair a b=>
  refine Oy G hi λm hm=>?_;obtain⟨ds,rfl,hp⟩:∃ds:O Dd,m=ds.map d2/\ds.Perm (dl g i):=QK hm rfl;refine hX (λd=>cP (Ov ps ask (rq T) a b d)) (λd hd=>?_) ?_
  .have ē:=hp.mem_iff.mp hd;obtain⟨h1,h2⟩:=xt G hi ē;exact Ot p4 W' ht he.1 he.2 (SK ē) h1 h2
  .have e:ds.map (λd=>cP (Ov ps ask (rq T) a b d))=(ds.map (Ov ps ask (rq T) a b)).map cP:=by rw[AL];rfl
   rw[e];exact q _ (hp.map _)
def NA{M:O (O OI)}(h:L.Perm M)(n:Nat):mj L n=mj M n:=by
 unfold mj;exact Ba λk _=>Nx (h.map _)
theorem Wf(W':rC g t T n)(G:WG g ws)(hi:i<g.length)(hj:j<t.size)(hjn:j<=n)(h:A∈SI g ps ask (rq T) (en t 0 j) i):A.length=fJ t j:=by
 cases e:en t 0 j with
 |word w=>
  rw[e]at h;have h:A∈(if hm g i w=true then [[some 0]] else []):=h;rw[oI t 0 j hj e]
  split at h
  .rw[AR.mp h];rfl
  .cases h
 |pair a b=>
  rw[e]at h;obtain⟨d,hd,rfl⟩:=Aq.mp h;obtain⟨a',b',k1,k2,e1,e2,e3⟩:=oJ t 0 j hj e;obtain⟨h1,h2⟩:=bU t hj e;obtain⟨l1,l2⟩:=xt G hi hd;rw[A7]at e1 e2;subst e1 e2;have lA:=W'.ent a _ ∅ l1;have lB:=W'.ent b _ ∅ l2;have kA:=oK t a;have kB:=oK t b;have fl:=xj (rq T a d.2.1) (rq T b d.2.2);unfold Ov
  split
  .rw[Ax];lia
  .unfold dX;rw[Ak,Ai];simp;lia
theorem SR(G:WG g ws)(p4:ps.length=4)(ht:t.ak.length<=90)(hj:j<t.size)(W':rC g t T j):(dJ (nR g) (.tup (bz ps)) (.str ask) (.cl (Gx T)) (en t 0 j).pv).le (.ret ((qE g ps ask (rq T) (en t 0 j) (fJ t j) g.length).map cP)):=λQ q=>by
 unfold dJ;have hg:=G.len;have XO:=G.pos;have el:Hh df [nR g]=.ret (.int g.length):=by simp[nR]
 have em:(fX (am (am (ce (en t 0 j).pv) (gT .str)) gj) (ce (.int 1)) (am (am (am (ce (en t 0 j).pv) az) λl2=>bF l2 λp3=>(c1 df (cL (am (cL (am (ce (.cl (Gx T))) az) (ce p3)) az) (ce (.int 0))))) tm))=.ret (.int (fJ t j:Nat)):=by
  cases e:en t 0 j with
  |word w=>simp[Ent.pv,oI t 0 j hj e]
  |pair a b=>
   obtain⟨a',b',k1,k2,e1,e2,e3⟩:=oJ t 0 j hj e;obtain⟨h1,h2⟩:=bU t hj e;rw[A7]at e1 e2;subst e1 e2;have i0:=oe W' h1 XO;have i1:=oe W' h2 XO;have lA:=W'.ent a _ h1 XO;have lB:=W'.ent b _ h2 XO;have z:((0:Nat):Int)=0:=rfl;rw[z]at i0 i1;simp only[Ent.pv,mo,gC,gB,cD,AD,if_false,aO,bF,bq,cy,sj W' h1,sj W' h2,KB,i0,i1,cP,eJ,Ai,lA,lB];rw[e3];have:tm [PV.int (fJ t a:Nat),PV.int (fJ t b:Nat)]=.ret (.int (([(fJ t a:Int),(fJ t b:Int)]).sum)):=by
    show am (qY ([(fJ t a:Int),(fJ t b:Int)].map PV.int)) _=_;rw[i5];rfl
   rw[this]
   first|rfl|(congr 2;simp)
 rw[em];simp only[mo,ga,el,eI,sK (bS (i:=0) (j:=(g.length:Int)) ∅ ∅),Bk,nn];refine o8 (λi s=>s=(qE g ps ask (rq T) (en t 0 j) (fJ t j) i).map cP) rfl (λi s hi hs=>?_) (λs hs=>?_)
 .subst hs;have hc:=ik g ps ask (rq T) (en t 0 j) (fJ t j) i;simp only[Zq p4 hi,mo,ga,nn];refine Oo (ask:=ask) G p4 W' ht (X5 t hj) hi λL hL=>?_;have hlv:=oK t j;have eu:(bF (aL (sy g i).un) λĞ=>(fY (am (cL (ce ((qE g ps ask (rq T) (en t 0 j) (fJ t j) i).map cP)) (ce Ğ)) λYv=>am (ce (PV.int (d4 g ps i))) λx29=>gK Yv x29)))=.ret (((sy g i).un.map λu=>dX ((qE g ps ask (rq T) (en t 0 j) (fJ t j) i).getD u []) (some (d4 g ps i))).map cP):=by
   rw[AL];refine lN λu hu=>?_;have hu:=G.dn i hi u hu;simp only[mo,cy,Yd (show u<(qE g ps ask (rq T) (en t 0 j) (fJ t j) i).length by lia),KB];rw[show PV.int (d4 g ps i)=oP (some (d4 g ps i)) from rfl];show fY (gK (.cl _) _)=_;rw[wI];rfl
  simp only[mo]at eu;have h1:L.length<=63:=by
   rw[hL.length_eq];cases e:en t 0 j with
   |word w=>show(if hm g i w=true then [[some 0]] else []).length<=63;split<;>simp
   |pair a b=>show((dl g i).map _).length<=63;rw[Ai];exact SJ G hi
  simp only[mo,nV hi,aO,eu,ga,nn];have h2:(sy g i).un.length<=2:=G.ve i hi;have hA:∀A∈L++(sy g i).un.map λu=>dX ((qE g ps ask (rq T) (en t 0 j) (fJ t j) i).getD u []) (some (d4 g ps i)),A.length=fJ t j:=λA hA=>by
   rcases AO.mp hA with h|h
   .exact Wf W' G hi hj (Al _) (hL.mem_iff.mp h)
   .obtain⟨u,hu,rfl⟩:=Aq.mp h;unfold dX;rw[Ai,zJ (G.dn i hi u hu)]
  have Ũ:gL (.cl ((L++(sy g i).un.map λu=>dX ((qE g ps ask (rq T) (en t 0 j) (fJ t j) i).getD u []) (some (d4 g ps i))).map cP)) (.int (fJ t j:Nat))=.ret ((mj (L++(sy g i).un.map λu=>dX ((qE g ps ask (rq T) (en t 0 j) (fJ t j) i).getD u []) (some (d4 g ps i))) (fJ t j)).map oP):=wV ∅ λA h=>by rw[hA A h];exact Al _
  simp only[ig,mo,ga,nn,fY];rw[f7 (by rw[Ai,Ai,Ai];lia),<- AI];simp only[nn,Ũ];rw[f9 (by rw[Ai];lia),qE,AI,NA (hL.append_right _)];rfl
 .subst hs;exact q
def Pw(T:O (O OI)){s:O PV}(h:∀r∈T,.cl (r.map oP)≠PV.cl s):gW s (T.map cP):=qx.mpr λx hx=>by
 obtain⟨r,hr,rfl⟩:=Aq.mp hx;refine⟨λz=>h r hr (by rw[z]),qx.mpr λy hy=>?_⟩;obtain⟨o,_,rfl⟩:=Aq.mp hy;cases o<;>exact trivial
theorem RZ{T:O (O (O OI))}{g:O Sy}{t:Tr}{n:Nat}(W':rC g t T n)(hg:0<g.length)(h0:L≠[])(hL:∀r∈L,r≠[]):PV.free (Gx T) (.cl (L.map cP)):=by
 have oc:∀(o:OI) (l:O PV),oP o≠.cl l:=λo l z=>by cases o<;>cases z
 cases T with
 |nil=>
  refine⟨λz=>?_,Pw L λr hr z=>?_⟩
  .exact h0 (Dk.mp z)
  .injection z with z;exact hL r hr (Dk.mp z)
 |cons r0 T=>
  have hn:0<n:=by rw[<- W'.len];simp
  have hr0:r0.length=g.length:=W'.row 0 hn;obtain⟨c0,r1,rfl⟩:∃c0 r1,r0=c0::r1:=by
   cases r0 with
   |nil=>simp at hr0;lia
   |cons c0 r1=>exact⟨c0,r1,rfl⟩
  refine⟨λz=>?_,Pw L λr hr z=>?_⟩
  .cases L with
   |nil=>exact h0 rfl
   |cons A L=>
    injection z with z _;have z:PV.cl (A.map oP)=.cl ((c0::r1).map cP):=z;injection z with z;cases A with
    |nil=>exact hL _ (.head _) rfl
    |cons o A=>injection z with z _;exact oc _ _ z
  .injection z with z;cases r with
   |nil=>exact hL _ hr rfl
   |cons o A=>injection z with z _;exact oc _ _ z
theorem Qa(G:WG g ws)(p4:ps.length=4)(ht:t.ak.length<=90):(oG (nR g) t.pv (.tup (bz ps)) (.str ask)).le (.ret (.tup ((mj ((iP g ps ask t t.size).getD (t.size-1) []) (t.ak.length)).map oP))):=λQ q=>by
 have hz:t.size<=180:=by have:=t.size_eq;lia
 have hs:=t.size_pos;have hg:=G.len;have XO:=G.pos;unfold oG;simp only[mo,ga];refine W.le.use (oD t ∅) ?_;simp only[aO,nn];refine eF (λi s=>s=Gx (iP g ps ask t i)) rfl (λi x s hx hs=>?_) (λs hs=>?_)
 .subst hs;have hi:i<t.size:=by have:=(Ag.mp hx).1;rw[eW]at this;exact this
  rw[Ah,kL t 0 i hi]at hx;have ex:=(Option.some.inj hx).symm;subst ex;have Wd:=kE g ps ask t i;simp only[fY,mo,ga];refine W.le.use (SR G p4 ht hi Wd) ?_;have hl:=oK t i;have fr:PV.free (Gx (iP g ps ask t i)) (.cl ((qE g ps ask (rq (iP g ps ask t i)) (en t 0 i) (fJ t i) g.length).map cP)):=by
   refine RZ Wd XO (λz=>?_) λr hr z=>?_
   .have:=ik g ps ask (rq (iP g ps ask t i)) (en t 0 i) (fJ t i) g.length;rw[z]at this;simp at this;lia
   .obtain⟨k,hk⟩:=C0.mp hr;have h1:=(Ag.mp hk).1;rw[ik]at h1;have h2:=zJ (g:=g) (ps:=ps) (ask:=ask) (R:=rq (iP g ps ask t i)) (e:=en t 0 i) (n:=fJ t i) h1;rw[Ae,hk,z]at h2;simp at h2;lia
  have ef:xh (Gx (iP g ps ask t i)) (.cl ((qE g ps ask (rq (iP g ps ask t i)) (en t 0 i) (fJ t i) g.length).map cP))=.ret (.cl ((qE g ps ask (rq (iP g ps ask t i)) (en t 0 i) (fJ t i) g.length).map cP)):=sK fr;simp only[nn,ef];rw[f9 (by unfold Gx;rw[Ai,jw];lia),iP];unfold Gx;rw[AI];rfl
 .subst hs;rw[eW];have Wd:=kE g ps ask t t.size;have er:d5 (Gx (iP g ps ask t t.size)) (-1)=some (.cl (((iP g ps ask t t.size).getD (t.size-1) []).map cP)):=by
   have hl:=jw g ps ask t t.size;unfold d5 nQ;have e:(Gx (iP g ps ask t t.size)).length=t.size:=by unfold Gx;rw[Ai,hl]
   rw[e,if_neg ∅,if_pos ∅];show(Gx (iP g ps ask t t.size))[(-1+(t.size:Int)).toNat]?=_;rw[show(-1+(t.size:Int)).toNat=t.size-1 by lia];unfold Gx;rw[Ah,Ad ∅,Ae,Ad ∅];rfl
  have i0:=oe Wd (show t.size-1<t.size by lia) XO;have l0:=Wd.ent (t.size-1) 0 ∅ XO;rw[tX]at l0;have z:((0:Nat):Int)=0:=rfl;rw[z]at i0;have Ũ:gL (.cl (((iP g ps ask t t.size).getD (t.size-1) []).map cP)) (.int (t.ak.length:Nat))=.ret ((mj ((iP g ps ask t t.size).getD (t.size-1) []) t.ak.length).map oP):=wV ∅ λA h=>by
   obtain⟨k,hk⟩:=C0.mp h;have h1:=(Ag.mp hk).1;rw[Wd.row _ ∅]at h1;have h2:=Wd.ent (t.size-1) k ∅ h1;unfold rq at h2;rw[Ae,hk,tX]at h2;exact Gi h2.symm
  simp only[nn,mo,Kx,cy,er,KB,bq,i0,cP,eJ,Ai,l0,Ũ];exact q
end
section
variable{ask:Str}
def rv(g:O Sy)(ps:O Int)(ask:Str)(t:Tr)(j i k:Nat):OI:=(rq (iP g ps ask t t.size) j i).getD k ci
def isA(ask:Str)(d:Dd):Nat:=if d.1=ask then 1 else 0
def Jc(ps:O Int)(ask:Str)(d:Dd):Int:=if d.1=ask then 0 else yc ps d.1
def xY(h:j<k):rq (iP g ps ask t k) j i=(qE g ps ask (rq (iP g ps ask t j)) (en t 0 j) (fJ t j) g.length).getD i []:=by show((iP g ps ask t k).getD j []).getD i []=_;rw[si h]
def Uu{l:Nat}(h:j<k)(h':j<l):rq (iP g ps ask t k) j i=rq (iP g ps ask t l) j i:=by rw[xY h,xY h']
def Ou{R':Nat->Nat->O OI}(he:Tf n e)(h:∀a x,a<n->R a x=R' a x):SI g ps ask R e i=SI g ps ask R' e i:=by
 cases e with
 |word w=>rfl
 |pair a b=>exact Ba λd _=>by unfold Ov;rw[h a _ he.1,h b _ he.2]
theorem LP(G:WG g ws)(hj:j<t.size)(hi:i<g.length)(hk:k<fJ t j):rv g ps ask t j i k=cU ((SI g ps ask (rq (iP g ps ask t t.size)) (en t 0 j) i++(sy g i).un.map λu=>dX (rq (iP g ps ask t t.size) j u) (some (d4 g ps i))).map λA=>A.getD k ci):=by
 unfold rv;rw[xY hj,pB hi];unfold mj;rw[Ae,Ah,AW hk];show cU _=_;congr 2;rw[Ou (X5 t hj) λa x ha=>Uu ha (show a<t.size by lia)];congr 1;refine Ba λu hu=>?_;have hu:=G.dn i hi u hu;rw[xY hj,pB hu,pB (show u<g.length by lia)]
theorem wF(hj:j<t.size)(hi:i<g.length)(h:rv g ps ask t j i k=some v):k<fJ t j:=by
 have:=(kE g ps ask t t.size).ent j i hj hi;unfold rv at h;rw[Ae]at h;rcases Bu k (fJ t j) with c|c
 .exact c
 .rw[Au ∅]at h;cases h
def G3(A:O OI)(m:OI)(k:Nat):(dX A m).getD k ci=match A[k]? with|none=>ci|some c=>iL [c,m]:=by
 unfold dX;rw[Ae,Ah];cases A[k]? <;> rfl
theorem tw(h:(dX A (some m)).getD k ci=some v):∃x,A.getD k ci=some x/\v=m+x:=by
 rw[G3]at h;rw[Ae];cases e:A[k]? with
 |none=>rw[e]at h;cases h
 |some c=>
  rw[e]at h;cases c with
  |none=>have h:iL [ci,some m]=some v:=h;rw[WY]at h;cases h
  |some x=>
   have h:iL [some x,some m]=some v:=h;rw[sum2]at h;exact⟨x,rfl,by have:=Option.some.inj h;lia⟩
theorem G1(h:A.getD k ci=some x):(dX A (some m)).getD k ci=some (m+x):=by
 rw[G3];rw[Ae]at h;cases e:A[k]? with
 |none=>rw[e]at h;cases h
 |some c=>
  rw[e]at h;have h:c=some x:=h;subst h;show iL [some x,some m]=_;rw[sum2];congr 1;lia
theorem aa3(h:(Ov ps ask R a b d).getD k ci=some v):∃k1 k2 x y,k=k1+k2+isA ask d/\(R a d.2.1).getD k1 ci=some x/\(R b d.2.2).getD k2 ci=some y/\v=Jc ps ask d+(x+y):=by
 unfold Ov at h;unfold isA Jc
 split at h
 .next c=>
  cases k with
  |zero=>cases h
  |succ k=>
   rw[F6]at h;obtain⟨i,j,x,y,e,h1,h2,h3⟩:=Mo h;exact⟨i,j,x,y,by simp[c];lia,h1,h2,by simp[c];exact h3⟩
 .next c=>
  by_cases hk:k<(dX (gc (R a d.2.1) (R b d.2.2)) (some (yc ps d.1))).length
  .rw[gF hk]at h;obtain⟨z,hz,e⟩:=tw h;obtain⟨i,j,x,y,e2,h1,h2,h3⟩:=Mo hz;exact⟨i,j,x,y,by simp[c];lia,h1,h2,by simp[c];lia⟩
  .rw[i8 ∅]at h;generalize k-_=m at h;cases m with
   |zero=>cases h
   |succ m=>cases h
theorem aa4(h1:(R a d.2.1).getD k1 ci=some x)(h2:(R b d.2.2).getD k2 ci=some y):∃m,(Ov ps ask R a b d).getD (k1+k2+isA ask d) ci=some m/\m<=Jc ps ask d+(x+y):=by
 obtain⟨m,hm,lm⟩:=VZ h1 h2;unfold Ov isA Jc
 split
 .next c=>exact⟨m,by rw[F6];exact hm,by lia⟩
 .next c=>
  have hk:k1+k2<(gc (R a d.2.1) (R b d.2.2)).length:=by
   rcases Bu (k1+k2) (gc (R a d.2.1) (R b d.2.2)).length with z|z
   .exact z
   .rw[Ae,Au z]at hm;cases hm
  refine⟨yc ps d.1+m,?_,by lia⟩;rw[Nat.add_zero,gF (by unfold dX;rw[Ai];exact hk)];exact G1 hm
def GW(G:WG g ws)(hj:j<t.size)(hi:i<g.length)(h:rv g ps ask t j i k=some v):(∃w,en t 0 j=.word w/\hm g i w=true/\k=0/\v=0)\/(∃a b d k1 k2 x y,en t 0 j=.pair a b/\d∈dl g i/\k=k1+k2+isA ask d/\rv g ps ask t a d.2.1 k1=some x/\rv g ps ask t b d.2.2 k2=some y/\v=Jc ps ask d+(x+y))\/∃u x,u∈(sy g i).un/\rv g ps ask t j u k=some x/\v=d4 g ps i+x:=by
 have hk:=wF hj hi h;rw[LP G hj hi hk]at h;obtain⟨A,hA,e⟩:=Aq.mp (cZ h);rcases AO.mp hA with hA|hA
 .cases ee:en t 0 j with
  |word w=>
   rw[ee]at hA;have hA:A∈(if hm g i w=true then [[some 0]] else []):=hA
   split at hA
   .next c=>
    rw[AR.mp hA]at e;cases k with
    |zero=>exact .inl ⟨w,rfl,c,rfl,(Option.some.inj e).symm⟩
    |succ k=>cases e
   .cases hA
  |pair a b=>
   rw[ee]at hA;obtain⟨d,hd,rfl⟩:=Aq.mp hA;obtain⟨k1,k2,x,y,e1,h1,h2,e2⟩:=aa3 e;exact .inr (.inl ⟨a,b,d,k1,k2,x,y,rfl,hd,e1,h1,h2,e2⟩)
 .obtain⟨u,hu,rfl⟩:=Aq.mp hA;obtain⟨x,hx,ex⟩:=tw e;exact .inr (.inr ⟨u,x,hu,hx,ex⟩)
def LM(G:WG g ws)(hj:j<t.size)(hi:i<g.length)(e:en t 0 j=.word w)(h:hm g i w=true):∃m,rv g ps ask t j i 0=some m/\m<=0:=by
 rw[LP G hj hi (by rw[oI t 0 j hj e];exact Nat.one_pos),e];refine dI (Aq.mpr ⟨[some 0],BJ _ ?_,rfl⟩);show [some 0]∈(if hm g i w=true then [[some 0]] else []);rw[if_pos h];exact .head _
theorem LO(G:WG g ws)(hj:j<t.size)(hi:i<g.length)(e:en t 0 j=.pair a b)(hd:d∈dl g i)(h1:rv g ps ask t a d.2.1 k1=some x)(h2:rv g ps ask t b d.2.2 k2=some y):∃m,rv g ps ask t j i (k1+k2+isA ask d)=some m/\m<=Jc ps ask d+(x+y):=by
 obtain⟨m,hm,lm⟩:=aa4 (ps:=ps) (ask:=ask) (R:=rq (iP g ps ask t t.size)) (d:=d) h1 h2;obtain⟨a',b',_,_,e1,e2,e3⟩:=oJ t 0 j hj e;rw[A7]at e1 e2;subst e1 e2;obtain⟨l1,l2⟩:=xt G hi hd;obtain⟨p1,p2⟩:=bU t hj e;have q1:=wF ∅ l1 h1;have q2:=wF ∅ l2 h2;have q3:isA ask d<=1:=by unfold isA;split<;>lia
 have hk:k1+k2+isA ask d<fJ t j:=by lia
 rw[LP G hj hi hk,e];obtain⟨n,hn,ln⟩:=dI (l:=(SI g ps ask (rq (iP g ps ask t t.size)) (.pair a b) i++(sy g i).un.map λu=>dX (rq (iP g ps ask t t.size) j u) (some (d4 g ps i))).map λA=>A.getD (k1+k2+isA ask d) ci) (v:=m) (Aq.mpr ⟨_,BJ _ (Aq.mpr ⟨d,hd,rfl⟩),hm⟩);exact⟨n,hn,by lia⟩
theorem LN(G:WG g ws)(hj:j<t.size)(hi:i<g.length)(hu:u∈(sy g i).un)(h1:rv g ps ask t j u k=some x):∃m,rv g ps ask t j i k=some m/\m<=d4 g ps i+x:=by
 have hul:=G.dn i hi u hu;rw[LP G hj hi (wF hj (show u<g.length by lia) h1)];exact dI (Aq.mpr ⟨_,A3 _ (Aq.mpr ⟨u,hu,rfl⟩),G1 h1⟩)
theorem YY(G:WG g ws)(hj:j<t.size){l:Nat}(r:O8 g i l):i<g.length->∀{x},rv g ps ask t j l k=some x->∃m,rv g ps ask t j i k=some m:=by
 induction r with
 |refl=>intro _ x h;exact⟨x,h⟩
 |step hu r ih=>
  intro hi x h;obtain⟨y,hy⟩:=ih (by have:=G.dn _ hi _ hu;lia) h;obtain⟨m,hm,_⟩:=LN G hj hi hu hy;exact⟨m,hm⟩
theorem YX(G:WG g ws)(hw:∀w∈t.ak,w∈ws):∀j,j<t.size->∃k m,rv g ps ask t j (g.length-1) k=some m:=by
 have hp:=G.pos;intro j
 induction j using CA with
 |ind j ih=>
  intro hj;cases e:en t 0 j with
  |word w=>
   obtain⟨i,hi,hr,hh⟩:=G.aik w (hw w (zq t 0 j w hj e));obtain⟨m,hm,_⟩:=LM (ps:=ps) (ask:=ask) G hj hi e hh;obtain⟨m',h'⟩:=YY G hj hr ∅ hm;exact⟨0,m',h'⟩
  |pair a b=>
   obtain⟨h1,h2⟩:=bU t hj e;obtain⟨k1,x,hx⟩:=ih a h1 ∅;obtain⟨k2,y,hy⟩:=ih b h2 ∅;obtain⟨m,hm,_⟩:=LO G hj (show g.length-1<g.length by lia) e (.head _) hx hy;exact⟨_,m,hm⟩
def dC(g:O Sy)(ps:O Int)(ask:Str)(t:Tr):O OI:=mj ((iP g ps ask t t.size).getD (t.size-1) []) t.ak.length
def wH:(dC g ps ask t).length=t.ak.length:=by unfold dC mj;rw[Ai,Bz]
theorem G0(hi:i<g.length)(h:rv g ps ask t (t.size-1) i k=some v):∃m,(dC g ps ask t).getD k ci=some m/\m<=v:=by
 have hs:=t.size_pos;have hk:=wF ∅ hi h;rw[tX]at hk;have hr:=(kE g ps ask t t.size).row (t.size-1) ∅;unfold dC mj;rw[Ae,Ah,AW hk];show ∃m,cU _=some m/\_;refine dI (Aq.mpr ⟨rq (iP g ps ask t t.size) (t.size-1) i,?_,h⟩);unfold rq;rw[Ae (i:=i),Ad ∅];exact CP _
theorem GZ(h:(dC g ps ask t).getD k ci=some v):∃i,i<g.length/\rv g ps ask t (t.size-1) i k=some v:=by
 have hs:=t.size_pos;have hr:=(kE g ps ask t t.size).row (t.size-1) ∅;unfold dC mj at h;rw[Ae,Ah]at h;rcases Bu k t.ak.length with hk|hk
 .rw[AW hk]at h;have h:cU _=some v:=h;obtain⟨A,hA,e⟩:=Aq.mp (cZ h);obtain⟨i,hi⟩:=C0.mp hA;have hil:=(Ag.mp hi).1;refine⟨i,by lia,?_⟩;unfold rv rq;rw[Ae (i:=i),hi];exact e
 .rw[Au (by rw[Bz];exact hk)]at h;cases h
theorem JB(G:WG g ws)(hw:∀w∈t.ak,w∈ws):∃k v,(dC g ps ask t).getD k ci=some v:=by
 have hs:=t.size_pos;have hp:=G.pos;obtain⟨k,m,h⟩:=YX (ps:=ps) (ask:=ask) G hw (t.size-1) ∅;obtain⟨v,hv,_⟩:=G0 ∅ h;exact⟨k,v,hv⟩
end
inductive WT where
 |lf (p:List Nat) (i:Nat)
 |nd (p:List Nat) (i:Nat) (nm:Str) (a b:WT)
theorem Ij{f g:α->Option β}:∀{l:List α},(∀x∈l,f x=g x)->l.filterMap f=l.filterMap g
 |[],_=>rfl
 |x::l,h=>by rw[AH,AH,h x (.head _),Ij λy hy=>h y (.tail _ hy)]
def pf(f:Nat->Nat):O Nat->Nat->O Nat
 |[],_=>[]
 |x::r,i=>if f x=f (r.headD i) then pf f r i else f x::pf f r i
def wm(f:Nat->Nat):WT->WT
 |.lf p i=>.lf (pf f p i) (f i)
 |.nd p i nm a b=>.nd (pf f p i) (f i) nm (wm f a) (wm f b)
variable{x:PV}{Q:PV->Prop}
def VX(t:Tr):(gS t).length=t.size:=by unfold gS;rw[Ai,Bz]
def aak(nm:Str):HL (.str nm) [.str "split",.str "doubled",.str "over"]:=by
 simp[HL]
def sc(c:Int):OI->OI:=Option.map (c*·)
theorem sX{S:Type}{N:Nat}{c:S->W Bool}{b:S->W S}{Q:S->Prop}(I:Nat->S->Prop){s:S}(hn:n<N)(h0:I n s)(hs:∀n s,I n s->(c s).run λk=>if k=true then (b s).run (λs'=>∃m,m<n/\I m s') else Q s):(FL.kq N c b s).run Q:=by
 have key:∀k n s,n<k->I n s->(ip c b k s).run Q:=by
  intro k
  induction k with
  |zero=>intro n s h;lia
  |succ k ih=>
   intro n s h hI;show(am (c s) _).run Q;rw[ga];refine(c s).mono (λx q=>?_) (hs n s hI);cases x with
   |true=>
    simp at q;show(am (b s) _).run Q;rw[ga];exact(b s).mono (λs' ⟨m,h1,h2⟩=>ih m s' ∅ h2) q
   |false=>simpa using q
 exact⟨N,Al _,key N n s hn h0⟩
def R3{l:O Tr}{p:Tr}:((l.take j++p::l.drop j).flatMap Tr.ak).Perm (p.ak++l.flatMap Tr.ak):=by
 have e:l.flatMap Tr.ak=(l.take j).flatMap Tr.ak++(l.drop j).flatMap Tr.ak:=by rw[<- El,FP]
 rw[e,El,DM,<- AG,<- AG];exact BR.append_right _
theorem aaf{l:O PV}{v:PV}(hi:i<=l.length)(hl:l.length<=1000):aag l (.int (i:Int)) v=.ret (l.take i++v::l.drop i):=by
 show W.dm _ _=_;rw[sK ⟨by lia,by lia,by have:=b9 hl;rw[aH]at *;lia⟩];rfl
theorem HI{us:O Tr}(hw:us≠[])(h8:us.length<=90)(q:∀t:Tr,t.ak.Perm (us.flatMap Tr.ak)->Q t.pv)(hx:(am (ce x) az)=.ret (us.map Tr.pv)):(bT x).run Q:=by
 have hp:=Dl.mpr hw;unfold bT;rw[ga,hx,nn,ga];refine sX (λn s=>∃ts:O Tr,s=ts.map Tr.pv/\ts.length=n+1/\n<=90/\(ts.flatMap Tr.ak).Perm (us.flatMap Tr.ak)) (n:=us.length-1) ∅ ⟨us,rfl,by lia,by lia,.refl _⟩ ?_;rintro n s ⟨ts,rfl,hl,hn,ö⟩;have eg:of2 oGt (.int ((ts.map Tr.pv).length:Int)) (.int 1)=.ret (.bl (decide (1<ts.length))):=by
  rw[aeM];congr 2;rw[Dv];simp;lia
 simp only[mo,ga,zm,eg,dw,nn];by_cases h1:1<ts.length
 .rw[decide_eq_true h1,if_pos rfl];simp only[Ai,cx (show(0:Int)<ts.length by lia) ∅];refine bK λd d0 d1=>?_;obtain⟨j,rfl⟩:∃j:Nat,d=(j:Int):=⟨d.toNat,by lia⟩;obtain⟨a,ha⟩:∃a,ts[j]?=some a:=⟨_,Ad ∅⟩;have el:(ts.eraseIdx j).length=ts.length-1:=by rw[Ef];simp;lia
  simp only[tG (v:=a.pv) (by rw[Ah,ha];rfl) (by rw[Ai];lia),nn,wU,zm,Ai,el,cx (show(0:Int)<((ts.length-1:Nat):Int) by lia) ∅];refine bK λe e0 e1=>?_;obtain⟨m,rfl⟩:∃m:Nat,e=(m:Int):=⟨e.toNat,by lia⟩;obtain⟨b,hb⟩:∃b,(ts.eraseIdx j)[m]?=some b:=⟨_,Ad ∅⟩;have ĭ:((ts.eraseIdx j).eraseIdx m).length=ts.length-2:=by rw[Ef,el];split<;>lia
  simp only[tG (v:=b.pv) (by rw[Ah,hb];rfl) (by rw[Ai];lia),nn,wU,zm,Ai,ĭ,cE,cx (show(0:Int)<((ts.length-2:Nat):Int)+1 by lia) ∅];refine bK λf f0 f1=>?_;obtain⟨k,rfl⟩:∃k:Nat,f=(k:Int):=⟨f.toNat,by lia⟩;simp only[mo,ga,nn,aaf (l:=((ts.eraseIdx j).eraseIdx m).map Tr.pv) (i:=k) (by rw[Ai,ĭ];lia) (by rw[Ai,ĭ];lia),nn];refine⟨n-1,by lia,((ts.eraseIdx j).eraseIdx m).take k++(.node a b)::((ts.eraseIdx j).eraseIdx m).drop k,by simp[Tr.pv,F7,List.map_drop],?_,by lia,?_⟩
  .have:=FP k ((ts.eraseIdx j).eraseIdx m);have:=congrArg B5 this;rw[Ak]at this;rw[Ak,Ax];lia
  .refine R3.trans (List.Perm.trans ?_ ((uG ha).trans ö));show((a.ak++b.ak)++_).Perm _;rw[AG];exact(uG hb).append_left _
 .rw[decide_eq_false h1];simp
  match ts,hl,ö,h1 with
  |[t],_,ö,_=>
   have i0:d5 [t.pv] 0=some t.pv:=rfl;simp[i0];exact q t (by simpa using ö)
  |_::_::_,_,_,h1=>exact absurd (by simp) h1
theorem wW{S:PV->Prop}:∀{l:O PV},(∀x∈l,∀R:PV->Prop,(∀v,S v->R v)->(f x).run R)->∀{Q:O PV->Prop},(∀m,m.length=l.length->(∀v∈m,S v)->Q m)->(bF l f).run Q
 |[],_,Q,q=>q [] rfl (λ_ h=>nomatch h)
 |x::l,h,Q,q=>by
  show(am (f x) λy=>am (bF l f) λm=>ce (y::m)).run Q;refine h x (.head _) _ λv hv=>?_;refine wW (λy hy=>h y (.tail _ hy)) λm hm hs=>?_;exact q (v::m) (by simp[hm]) λu hu=>by
   rcases Ay.mp hu with rfl|hu
   .exact hv
   .exact hs u hu
theorem Hw:∀{m:O PV}{ls:O Str},(∀v∈m,∃w∈ls,v=PV.str w)->∃ws:O Str,m=ws.map PV.str/\∀w∈ws,w∈ls
 |[],_,_=>⟨[],rfl,λ_ h=>nomatch h⟩
 |v::m,ls,h=>by
  obtain⟨w,hw,rfl⟩:=h v (.head _);obtain⟨ws,rfl,h2⟩:=Hw λu hu=>h u (.tail _ hu);exact⟨w::ws,rfl,λx hx=>by
   rcases Ay.mp hx with rfl|hx
   .exact hw
   .exact h2 x hx⟩
theorem JK{l:O PV}(h0:l≠[])(h1:l.length<=1000)(q:∀x∈l,Q x):(gE (.cl l)).run Q:=by
 have hp:=Dl.mpr h0;unfold gE;simp only[mo,ga,bq,eJ,cx (show(0:Int)<l.length by lia) ∅,nn];refine bK λd d0 d1=>?_;obtain⟨j,rfl⟩:∃j:Nat,d=(j:Int):=⟨d.toNat,by lia⟩;obtain⟨a,ha⟩:∃a,l[j]?=some a:=⟨_,Ad ∅⟩;simp only[cy,dP ha,KB,nn];exact q a (AJ ha)
theorem Ws(l:O PV)(h:a<=l.length):uS l ci (some (a:Int))=l.take a:=by
 unfold uS;have e1:HT.vA l.length 0 (ci:Option Int)=0:=rfl;have e2:HT.vA l.length l.length (some (a:Int))=a:=by
  unfold HT.vA;simp only[];rw[if_neg ∅];lia
 rw[e1,e2];simp
def sW:O Str:=["a","ab","b","ba","c","zzzzzzzz","d","aa"]
def V1(ws:O Str):(ws.map Tr.leaf).flatMap Tr.ak=ws:=by
 rw[List.flatMap_map];simp[Tr.ak,List.flatMap_singleton']
def Ra(ws:O Str):ws.map PV.str=(ws.map Tr.leaf).map Tr.pv:=by simp[Tr.pv]
def qX(hw:ws≠[])(h8:ws.length<=90)(q:∀t:Tr,t.ak.Perm ws->Q t.pv):(bT (.cl (ws.map PV.str))).run Q:=
 HI (us:=ws.map Tr.leaf) (by simpa using hw) (by simpa using h8) (λt ht=>q t (by rw[V1]at ht;exact ht)) (by rw[Ra];simp)
theorem Jp{M:Int}(M0:0<M)(M1:M<=10)(q:∀t s:Tr,t.ak.Nodup->t.ak.length<=8->(∀w∈t.ak,w∈sW)->(∀w∈s.ak,w∈t.ak)->s.ak.length<=10->Q (.tup [t.pv,s.pv])):(gs (.int 5) (.int M)).run Q:=by
 unfold gs;simp only[mo,ga,cx (show(0:Int)<8 by decide) ⋯];refine bK λd d0 d1=>?_;obtain⟨a,b,ha,a0,a1,b0,b1⟩:∃a b:Int,d5 [PV.tup [.int 5,.int M],PV.tup [.int 8,.int 10]] (if (d==0)=true then 1 else 0)=some (.tup [.int a,.int b])/\0<a/\a<=8/\0<b/\b<=10:=by
  by_cases h:d=0
  .subst h;exact⟨8,10,rfl,by decide,by decide,by decide,by decide⟩
  .have:(d==0)=false:=by simpa using h
   rw[this];exact⟨5,M,rfl,by decide,by decide,M0,M1⟩
 simp only[qz,zp,mo,cy,ha,KB,nn,iC,cx a0 (show a < 1073741824 by lia)];refine bK λe e0 e1=>?_;obtain⟨k,hk⟩:∃k:Nat,1+e=(k:Int):=⟨(1+e).toNat,by lia⟩;have hw:uS [PV.str "a",PV.str "ab",PV.str "b",PV.str "ba",PV.str "c",PV.str "zzzzzzzz",PV.str "d",PV.str "aa"] ci (some (k:Int))=(sW.take k).map PV.str:=by
  rw[Ws _ (show k<=8 by lia),F7];rfl
 have hl:(sW.take k).length=k:=by rw[CO];show min k 8=k;lia
 have yW:sW.take k≠[]:=λz=>by rw[z]at hl;simp at hl;lia
 have ep:∀i:Int,part (.int i)=.ret (some i):=λi=>rfl;simp only[cE,mo,ga,hk,ep,nn,hw];refine qX yW ∅ λt ht=>?_;have htl:t.ak.length=k:=by rw[ht.length_eq,hl]
 simp only[mo,ga,cx b0 (show b<1073741824 by lia)];refine bK λf f0 f1=>?_;obtain⟨m,hm⟩:∃m:Nat,1+f=(m:Int):=⟨(1+f).toNat,by lia⟩;simp only[cE,nn,hm,eI,sK (bS (i:=0) (j:=(m:Int)) ∅ ∅),Bk];refine wW (S:=λv=>∃w∈sW.take k,v=PV.str w) (λx _ R r=>JK (by simpa using yW) (by rw[Ai];lia) λv hv=>r v (let ⟨w,h1,h2⟩:=Aq.mp hv;⟨w,h1,h2.symm⟩)) λms ō hs=>?_;obtain⟨us,rfl,hu⟩:=Hw hs;rw[i7,Ai]at ō;refine qX (λz=>by rw[z]at ō;simp at ō;lia) ∅ λs hp=>?_;exact q t s (ht.nodup_iff.mpr (List.Nodup.sublist (DK _ _) (by decide +kernel))) ∅ (λw h=>List.mem_of_mem_take (ht.mem_iff.mp h)) (λw h=>ht.mem_iff.mpr (hu w (hp.mem_iff.mp h))) (by rw[hp.length_eq];lia)
theorem jG:∀(n:Nat) (t:Tr),t.depth<n->t.size<=400->(a7 n t.pv).le (.ret ((t.nd 0).map Ent.pv))
 |0,_,h,_=>by lia
 |n+1,.leaf w,_,_=>λQ q=>by
  unfold a7;simp[Tr.pv];exact q
 |n+1,.node a b,h,hz=>λQ q=>by
  have hs:(Tr.node a b).size=a.size+b.size+1:=rfl;have hpa:=a.size_pos;have hpb:=b.size_pos;have hd:a.depth<n/\b.depth<n:=by simp[Tr.depth]at h;lia
  unfold a7;have i0:d5 [a.pv,b.pv] 0=some a.pv:=rfl;have i1:d5 [a.pv,b.pv] 1=some b.pv:=rfl;simp only[Tr.pv,mo,ga,gC,gB,cD,AD,if_false,aO,cy,i0,i1,KB];refine W.le.use (jG n a hd.1 ∅) ?_;simp only[nn];refine W.le.use (jG n b hd.2 ∅) ?_;simp only[nn,bq];refine eF (λi s=>s=(((b.nd 0).take i).map (YU a.size)).map Ent.pv) (by simp) (λi x s hx hs=>?_) (λs hs=>?_)
  .subst hs;rw[Ah]at hx;cases e:(b.nd 0)[i]? with
   |none=>rw[e]at hx;cases hx
   |some en=>
    rw[e]at hx;have ex:=Option.some.inj hx;subst ex;have hi:i<b.size:=by have:=(Ag.mp e).1;rw[b.bH]at this;exact this
    have et:(b.nd 0).take (i+1)=(b.nd 0).take i++[en]:=by rw[F0,e];rfl
    have al:∀y,jo ((((b.nd 0).take i).map (YU a.size)).map Ent.pv) y=.ret ((((b.nd 0).take i).map (YU a.size)).map Ent.pv++[y]):=λy=>f9 (by simp;lia);cases en with
    |word w=>
     simp only[Ent.pv,mo,ga,ph,pe,cD,al,nn,et,if_true];simp[YU,Ent.pv]
    |pair u v=>
     have j0:d5 [PV.int (u:Int),PV.int (v:Int)] 0=some (.int u):=rfl;have j1:d5 [PV.int (u:Int),PV.int (v:Int)] 1=some (.int v):=rfl;simp only[Ent.pv,mo,ga,gC,gB,cD,AD,if_false,aO,cy,j0,j1,KB,cE,eJ,Ai,a.bH,al,nn,et];simp[YU,Ent.pv]
  .subst hs;rw[Cq (by rw[Ai];exact Al _)];have es:(b.nd 0).map (YU a.size)=b.nd a.size:=by rw[<- JO b 0 a.size,A7]
   rw[es];simp only[mo,ga,ig,uI,eJ,cE,Ai,a.bH,b.bH,nn,f7 (l:=(a.nd 0).map Ent.pv) (m:=(b.nd a.size).map Ent.pv) (by simp[a.bH,b.bH];lia)];rw[f7 (by simp[a.bH,b.bH];lia)];have e:(Tr.node a b).nd 0=a.nd 0++b.nd a.size++[.pair (a.size-1) (a.size+b.size-1)]:=by rw[Tr.nd];simp
   rw[e]at q;have e1:((a.size:Int)-1)=((a.size-1:Nat):Int):=by lia
   have e2:((a.size:Int)+(b.size:Int)-1)=((a.size+b.size-1:Nat):Int):=by lia
   rw[e1,e2];simpa[Ent.pv]using q
theorem Wt(ds:O Int)(i j:Option Int):∃es:O Int,uS (ds.map PV.int) i j=es.map PV.int/\es.length<=ds.length:=by
 unfold uS;rw[<- List.map_drop,<- F7];exact⟨_,rfl,by rw[CO,Dc];lia⟩
def Wx(B:Int):PV->Option PV
 |.int c=>if B<=c then some (.int c) else ci
 |_=>ci
theorem Im(B:Int):∀es:O Int,∃ms:O Int,(es.map PV.int).filterMap (Wx B)=ms.map PV.int
 |[]=>⟨[],rfl⟩
 |c::es=>by
  obtain⟨ms,h⟩:=Im B es;rw[Ar,AH,h];by_cases k:B<=c
  .exact⟨c::ms,by simp[Wx,k]⟩
  .exact⟨ms,by simp[Wx,k]⟩
theorem QB{Q:O PV->Prop}(q:∀s:Int,Q [.hand,.int s,.int 0]):(gz (.cl (ns.map PV.int))).run Q:=by
 obtain⟨es,he,_⟩:=Wt ns ci (some 63);have ep:∀i:Int,part (.int i)=.ret (some i):=λi=>rfl;have p1:OT 10 30:=⟨by decide,by decide,by decide⟩;have p2:OT 10 18:=⟨by decide,by decide,by decide⟩;have m1:(0:Int)<10 ^ (30:Int).toNat:=by decide +kernel
 unfold gz;simp only[mo,ga,eJ,cE,ig,ep,nn,he];refine eF (λi s=>∃k:Int,s=.int k) ⟨_,rfl⟩ (λi x s hx hs=>?_) (λs hs=>?_)
 .obtain⟨k,rfl⟩:=hs;rw[Ah]at hx;cases e:es[i]? with
  |none=>rw[e]at hx;cases hx
  |some c=>
   rw[e]at hx;have:=Option.some.inj hx;subst this;simp only[mo,Sf,sK (mulR (a:=k) (b:=999979) ∅),Kw,sK p1,aaV,sK m1,cE,sK (show(0:Int)<2305843009213693951 by decide),nn];exact⟨_,rfl⟩
 .obtain⟨k,rfl⟩:=hs;refine adD (Wx ((10:Int) ^ (18:Int).toNat)) (λx hx=>?_) ?_
  .obtain⟨c,hc,rfl⟩:=Aq.mp hx;simp only[mo,Kw,sK p2,aeN,dw];by_cases h:(10:Int) ^ (18:Int).toNat<=c
   .rw[decide_eq_true h];show _=ce (if _ then _ else _);rw[if_pos h];rfl
   .rw[decide_eq_false h];show _=ce (if _ then _ else _);rw[if_neg h];rfl
  .have:=Im ((10:Int) ^ (18:Int).toNat) es;simp only[mo,W.sg,nn];exact⟨this,q k⟩
theorem G7(q:∀ps:O Int,ps.length=4->(∀p∈ps,0<=p/\p<=10 ^ 29)->Q (.tup (bz ps))):dM.run Q:=by
 unfold dM;have p2:OT 10 25:=⟨by decide,by decide,by decide⟩;simp only[ga,nn,eI,sK (bS (i:=0) (j:=4) ∅ ∅)];refine o8 (λi s=>∃ps:O Int,s=bz ps/\ps.length=i/\∀p∈ps,0<=p/\p<=10 ^ 29) ⟨[],rfl,rfl,by simp⟩ ?_ ?_
 .rintro i s hi ⟨ps,rfl,hl,hp⟩;simp only[mo,ga,nn,Kw,sK p2,cx (show(0:Int)<9 by decide) ⋯];refine bK λa a0 a1=>?_;simp only[cE,nn,mo,ga,cx (show(0:Int)<10 by decide) ⋯];refine bK λb b0 b1=>?_;simp only[nn,mo,ga,cx (show(0:Int)<1001 by decide) ⋯];refine bK λc c0 c1=>?_;refine JK (by simp) (by simp) λx hx=>?_;obtain⟨v,rfl,hv⟩:∃v:Int,x=.int v/\0<=v/\v<=10 ^ 29:=by
   simp at hx;rcases hx with rfl|rfl|rfl|rfl|rfl|rfl|rfl|rfl|rfl
   all_goals first|exact⟨_,rfl,by lia⟩|exact⟨_,rfl,by have:=(by decide +kernel);simp at this;lia⟩
  rw[f9 (by rw[fK];lia)];exact⟨ps++[v],by simp[bz],by simp[hl],λp h=>by rcases AO.mp h with h|h;exact hp p h;rw[AR.mp h];exact hv⟩
 .rintro s ⟨ps,rfl,hl,hp⟩;exact q ps hl hp
theorem QC(xs:List α):kJ xs ci ci (some (-1))=xs.reverse:=by
 have hb:ww ci ci (some (-1)) xs.length=((xs.length:Int)-1,-1,-1):=rfl;have hr:sliceRange ((xs.length:Int)-1) (-1) (-1)=(AB xs.length).map λk=>xs.length-1-k:=by
  unfold sliceRange;have e:(if (-1:Int) > 0 then (if (xs.length:Int)-1 < -1 then (-1-((xs.length:Int)-1) + -1-1) / -1 else 0) else (if (xs.length:Int)-1 > -1 then ((xs.length:Int)-1 - -1 - -1-1) / (- -1) else 0))=(xs.length:Int):=by
   rw[if_neg ⋯]
   split
   .rw[show(- -1:Int)=1 from rfl,Int.ediv_one];lia
   .omega
  simp only[e,Bk];exact Ba λk hk=>by have:=AQ.mp hk;lia
 unfold kJ;rw[hb];simp only[hr];apply BQ;intro i;have key:∀n,n<=xs.length->((AB n).map λk=>xs.length-1-k).filterMap (xs[·]?)=(AB n).filterMap λk=>xs.reverse[k]?:=λn hn=>by
  rw[List.filterMap_map];exact Ij λk hk=>by
   have:=AQ.mp hk;show xs[xs.length-1-k]?=_;rw[DY ∅]
 rw[key _ (Al _)];have all:∀(ys:List α),(AB ys.length).filterMap (λk=>ys[k]?)=ys:=λys=>by
  induction ys with
  |nil=>rfl
  |cons y ys ih=>
   rw[Ax,Fp,AH];simp only[List.getElem?_cons_zero,List.filterMap_map];congr 1
 rw[show xs.length=xs.reverse.length by simp,all]
def At(t s:Tr)(o:Nat):Prop:=o+s.size<=t.size/\∀j,j<s.size->en t 0 (o+j)=en s o j
variable{a b:Tr}{o:Nat}{pp:O Nat}
theorem At.l(h:At t (.node a b) o):At t a o:=by
 have hs:(Tr.node a b).size=a.size+b.size+1:=rfl;refine⟨by have:=h.1;lia,λj hj=>?_⟩;rw[h.2 j ∅,en,if_pos hj]
theorem At.r(h:At t (.node a b) o):At t b (o+a.size):=by
 have hs:(Tr.node a b).size=a.size+b.size+1:=rfl;refine⟨by have:=h.1;lia,λj hj=>?_⟩;rw[Be,h.2 (a.size+j) ∅,en,if_neg ∅,if_pos ∅,CN]
theorem At.top(h:At t (.node a b) o):en t 0 (o+a.size+b.size)=.pair (o+a.size-1) (o+a.size+b.size-1):=by
 have hs:(Tr.node a b).size=a.size+b.size+1:=rfl;rw[Be,h.2 (a.size+b.size) ∅,en,if_neg ∅,if_neg ∅,Be]
abbrev FT:=O (Tr×Nat)
def rt(x:Tr×Nat):Nat:=x.2+x.1.size-1
def qm(x:Tr×Nat):O Nat:=(AB x.1.size).map (x.2+·)
def RD(a b:Tr)(o:Nat):(qm (.node a b,o)).Perm ((o+a.size+b.size)::(qm (a,o)++qm (b,o+a.size))):=by
 have hs:(Tr.node a b).size=a.size+b.size+1:=rfl;have e:qm (.node a b,o)=(qm (a,o)++qm (b,o+a.size))++[o+a.size+b.size]:=by
  unfold qm;simp only[hs];rw[FG,AI,List.range_add,AI,AL];simp[Function.comp_def,Be]
 rw[e];exact BR
structure Wk(t:Tr)(fs:FT)(pp:List Nat):Prop where
 pm:(fs.flatMap qm++pp).Perm (AB t.size)
 at':∀x∈fs,At t x.1 x.2
 od:(pp.filter λk=>kh (en t 0 k)).Pairwise λx y=>∀a b,en t 0 y=.pair a b->x≠a/\x≠b
theorem Wk.lt{fs:FT}(h:Wk t fs pp):fs.length+pp.length<=t.size:=by
 have:=h.pm.length_eq;rw[Ak,Bz]at this;have:∀l:FT,l.length<=(l.flatMap qm).length:=λl=>by
  induction l with
  |nil=>simp
  |cons x l ih=>
   have:=x.1.size_pos;rw[DM,Ak,Ax];have:(qm x).length=x.1.size:=by unfold qm;simp
   lia
 have:=this fs;lia
def Ii{l:FT}{x:Tr×Nat}(h:l[j]?=some x):(qm x++(l.eraseIdx j).flatMap qm).Perm (l.flatMap qm):=by
 induction l generalizing j with
 |nil=>simp at h
 |cons a l ih=>cases j with
  |zero=>simp at h;subst h;simp
  |succ j=>
   simp;have:=(ih (by simpa using h)).append_left (qm a);refine List.Perm.trans ?_ this;rw[<- AG,<- AG];exact BR.append_right _
variable{fs:FT}
def Wk.leaf(h:Wk t fs pp)(hj:fs[j]?=some (.leaf w,o)):en t 0 o=.word w/\Wk t (fs.eraseIdx j) (pp++[o]):=by
 have ha:=h.at' _ (AJ hj);have e:en t 0 o=.word w:=ha.2 0 (Nat.zero_lt_one);refine⟨e,?_,λx hx=>h.at' x (E4 hx),?_⟩
 .have:=(Ii hj).symm.append_right pp;refine List.Perm.trans ?_ (this.symm.trans h.pm);have e:qm (.leaf w,o)=[o]:=by unfold qm;rfl
  rw[e,<- AG];refine List.Perm.trans BR ?_;rw[AG]
 .rw[Ce];have:[o].filter (λk=>kh (en t 0 k))=[]:=by simp[e,kh]
  rw[this,Du];exact h.od
theorem Wk.node(h:Wk t fs pp)(hj:fs[j]?=some (.node a b,o)):en t 0 (o+a.size+b.size)=.pair (o+a.size-1) (o+a.size+b.size-1)/\Wk t (fs.eraseIdx j++[(a,o),(b,o+a.size)]) (pp++[o+a.size+b.size]):=by
 have ha:=h.at' _ (AJ hj);have e:=ha.top;have pa:=a.size_pos;have pb:=b.size_pos;refine⟨e,?_,λx hx=>?_,?_⟩
 .have h1:=(Ii hj).symm.append_right pp;refine List.Perm.trans ?_ (h1.symm.trans h.pm);rw[El];have e2:[(a,o),(b,o+a.size)].flatMap qm=qm (a,o)++qm (b,o+a.size):=by simp
  rw[e2];have:=RD a b o;generalize qm (.node a b,o)=I at *;generalize qm (a,o)++qm (b,o+a.size)=J at *;generalize (fs.eraseIdx j).flatMap qm=F at *;generalize o+a.size+b.size=k at *;refine List.Perm.trans ?_ ((this.append_right F).append_right pp).symm;show((F++J)++(pp++[k])).Perm ((k::(J++F))++pp);rw[<- AG];refine List.Perm.trans BR ?_;show(k::((F++J)++pp)).Perm (k::((J++F)++pp));exact(BR.append_right pp).cons k
 .rcases AO.mp hx with hx|hx
  .exact h.at' x (E4 hx)
  .simp at hx;rcases hx with rfl|rfl
   .exact ha.l
   .exact ha.r
 .rw[Ce];have:[o+a.size+b.size].filter (λk=>kh (en t 0 k))=[o+a.size+b.size]:=by simp[e,kh]
  rw[this,Ee];refine⟨h.od,List.pairwise_singleton _ _,λx hx y hy u v ey=>?_⟩;rw[AR]at hy;subst hy;rw[e]at ey;injection ey with e1 e2;have nd:=(h.pm.nodup_iff.mpr Fb);have hxp:=(Bv.mp hx).1;have dj:=(Co.mp nd).2.2;have mi:∀k,k<a.size+b.size->o+k∈fs.flatMap qm:=λk hk=>Fc.mpr ⟨_,AJ hj,Aq.mpr ⟨k,AQ.mpr (by show k<a.size+b.size+1;lia),rfl⟩⟩;refine⟨λz=>?_,λz=>?_⟩
  .have:=mi (a.size-1) ∅;exact dj _ this x hxp ∅
  .have:=mi (a.size+b.size-1) ∅;exact dj _ this x hxp ∅
abbrev Nh(t:Tr)(pp:O Nat):O Nat:=pp.filter λk=>kh (en t 0 k)
theorem ZK(f:α->β):∀(l:List α) (j:Nat),(l.map f).eraseIdx j=(l.eraseIdx j).map f
 |[],_=>by simp
 |_::l,0=>by simp
 |_::l,j+1=>by simp[ZK f l j]
def JP(l:O Nat)(j:Nat):(aL l).eraseIdx j=aL (l.eraseIdx j):=ZK _ l j
theorem KW(t:Tr)(hz:t.size<=60)(hd:t.depth<12)(q:∀ds d,Dt t ds [] d->d<=13*((splits t).length:Int)->Q (.tup (bz ds))):(c7 t.pv).run Q:=by
 have tp:=t.size_pos;unfold c7;have e1:Nd [PV.int 0] (.int (t.size:Int))=.ret (bz (Ap t.size 0)):=by
  rw[Sd,sK ⟨by lia,by lia,b9 (by simp;lia)⟩];congr 1;rw[Bk]
  induction t.size with
  |zero=>rfl
  |succ n ih=>rw[Di,EY,ih];rfl
 simp only[mo,ga];refine W.le.use (jG 12 t hd ∅) ?_;simp only[mo,eJ,e1,nn,uI,ga,Ai,t.bH];refine sX (λn s=>∃(fs:FT) (pp:O Nat),s=(aL (fs.map rt),aL (Nh t pp))/\Wk t fs pp/\n+pp.length=t.size) (n:=t.size) ∅ ⟨[(t,0)],[],?_,⟨?_,?_,?_⟩,rfl⟩ ?_
 .have:((t.size:Int)-1)=((t.size-1:Nat):Int):=by lia
  rw[this];simp[aL,rt]
 .have:qm (t,0)=AB t.size:=by unfold qm;simp
  simp[this]
 .intro x hx;rw[AR]at hx;subst hx;exact⟨by simp,λj hj=>by simp⟩
 .exact List.Pairwise.nil
 .rintro n s ⟨fs,pp,rfl,hW,hn⟩;have kT:=hW.lt;have Ī:(aL (fs.map rt)).length=fs.length:=by rw[iX,Ai]
  simp only[mo,nn];cases N3:fs with
  |nil=>
   subst N3;have hp:pp.Perm (AB t.size):=by simpa using hW.pm
   have NZ:(Nh t pp).Perm (splits t):=hp.filter _;have ŋ:=hW.od;have hnd:(Nh t pp).Nodup:=NZ.nodup_iff.mpr (List.Nodup.sublist List.filter_sublist Fb);generalize hO:Nh t pp=od at *;have ŋ:od.Pairwise λx y=>∀a b,en t 0 y=.pair a b->x≠a/\x≠b:=hO▸ŋ;have ep:∀i:Int,part (.int i)=.ret (some i):=λi=>rfl;have er:Up (aL od) ci ci (some (-1))=.ret (aL od.reverse):=by
    unfold Up;rw[sK ⋯,QC];unfold aL;rw[List.map_reverse]
   have eng:yq (PV.int 1)=.ret (.int (-1)):=rfl;have yW:(aL ([]:O Nat))=[]:=rfl;simp only[CW,yW,List.isEmpty_nil,Bool.not_true,AD,if_false,mo,ga,nn,e1,eng,ep,er,eJ];refine eF (λi s=>∃ds d left,s=(bz ds,PV.int d)/\Dt t ds left d/\(∀x,x∈left↔x∈od.take (od.length-i))/\d<=13*(i:Int)) ⟨_,0,_,rfl,Dt.first t,λx=>by rw[Er,List.take_length];exact NZ.mem_iff.symm,by lia⟩ (λi x s hx hs=>?_) (λs hs=>?_)
   .obtain⟨ds,d,left,rfl,D,hm,VT⟩:=hs;obtain⟨k,hk,rfl⟩:=Q6 hx;have hi:i<od.length:=by have:=(Ag.mp hk).1;simpa using this
    rw[DY hi]at hk;have e0:od.length-i=(od.length-1-i)+1:=by lia
    have e9:od.length-(i+1)=od.length-1-i:=by lia
    rw[e0]at hm;have et:od.take (od.length-1-i+1)=od.take (od.length-1-i)++[k]:=by rw[F0,hk];rfl
    rw[et]at hm;generalize od.length-1-i=m at *;have hkl:k∈left:=(hm k).mpr (by simp);obtain⟨ks,kp⟩:=D.lft k hkl;have ļ:(od.take m++[k]).Nodup:=et▸List.Nodup.sublist (DK _ _) hnd;have pw2:(od.take m++[k]).Pairwise λx y=>∀a b,en t 0 y=.pair a b->x≠a/\x≠b:=et▸List.Pairwise.sublist (DK _ _) ŋ;cases ek:en t 0 k with
    |word w=>rw[ek]at kp;cases kp
    |pair a b=>
     obtain⟨ha,hb⟩:=bU t ks ek;have no:∀c,(c=a\/c=b)->c∉left:=λc hc hcl=>by
      rcases AO.mp ((hm c).mp hcl) with z|z
      .have:=(Ee.mp pw2).2.2 c z k (by simp) a b ek;rcases hc with rfl|rfl
       .exact this.1 rfl
       .exact this.2 rfl
      .rw[AR]at z;rcases hc with rfl|rfl<;>lia
     simp only[mo,ga,nn,cE];refine JK (by simp) (by simp) λx hx=>?_;obtain⟨v,rfl,v0,v1⟩:∃v:Int,x=.int v/\0<=v/\v<=12:=by
      simp at hx;rcases hx with rfl|rfl|rfl
      all_goals exact⟨_,rfl,by decide,by decide⟩
     simp only[cE,nn,mo,n8 (k:=k) (by rw[fK,D.len];exact ks),RH];refine⟨_,_,_,rfl,D.next hkl ek (no a (.inl rfl)) (no b (.inr rfl)) v0,λx=>?_,by lia⟩;rw[mB D.ris,hm x,e9];have kn:k∉od.take m:=λz=>(Co.mp ļ).2.2 k z k (by simp) rfl
     constructor
     .rintro⟨z,nk⟩;rcases AO.mp z with z|z
      .exact z
      .exact absurd (AR.mp z) nk
     .intro z;exact⟨BJ _ z,λy=>kn (y▸z)⟩
   .obtain⟨ds,d,left,rfl,D,hm,VT⟩:=hs;rw[iX,CI]at hm VT;have:left=[]:=List.eq_nil_iff_forall_not_mem.mpr λx hx=>by
     have:=(hm x).mp hx;simp at this
    subst this;rw[<- NZ.length_eq]at q;show(kD (bz ds)).run Q;exact q ds d D VT
  |cons x0 fr=>
   have yW:0<fs.length:=by rw[N3];simp
   rw[<- N3];have hem:(aL (fs.map rt)).isEmpty=false:=by
    rw[List.isEmpty_eq_false_iff];intro z;rw[z]at Ī;simp at Ī;lia
   rw[hem];simp only[Bool.not_false,if_true,mo,ga,zm,Ī,nn,cx (show(0:Int)<fs.length by lia) ∅];refine bK λd d0 d1=>?_;obtain⟨j,rfl⟩:∃j:Nat,d=(j:Int):=⟨d.toNat,by lia⟩;obtain⟨x,hx⟩:∃x,fs[j]?=some x:=⟨_,Ad ∅⟩;have hat:=hW.at' _ (AJ hx);have xs:=x.1.size_pos;have hrt:rt x<t.size:=by unfold rt;have:=hat.1;lia
   simp only[tG (l:=aL (fs.map rt)) (j:=j) (v:=.int (rt x:Int)) (by unfold aL;rw[Ah,Ah,hx];rfl) (by rw[Ī];lia),nn,bq,cy,ZG t hrt,KB,mo,ga,JP];have em:(fs.map rt).eraseIdx j=(fs.eraseIdx j).map rt:=ZK _ _ _;have du:(Nh t pp).length<=pp.length:=Ca _ _;obtain⟨s,o⟩:=x;cases s with
   |leaf w=>
    obtain⟨e,W'⟩:=hW.leaf hx;have Ţ:rt (.leaf w,o)=o:=rfl;simp only[Ţ,e,Ent.pv,ph,pe,cD,mo,nn];refine⟨n-1,by lia,fs.eraseIdx j,pp++[o],?_,W',by simp;lia⟩;rw[em];have:Nh t (pp++[o])=Nh t pp:=by simp[Nh,Ce,e,kh]
    rw[this]
   |node a b=>
    obtain⟨e,W'⟩:=hW.node hx;have Ţ:rt (.node a b,o)=o+a.size+b.size:=by show o+(a.size+b.size+1)-1=_;lia
    have ap:=a.size_pos;have bp:=b.size_pos;have al:jo (aL (Nh t pp)) (.int ((o+a.size+b.size:Nat):Int))=.ret (aL (Nh t pp)++[.int ((o+a.size+b.size:Nat):Int)]):=f9 (by rw[iX];lia);have cl:kj (aL ((fs.map rt).eraseIdx j)) [.int ((o+a.size-1:Nat):Int),.int ((o+a.size+b.size-1:Nat):Int)]=.ret (aL ((fs.map rt).eraseIdx j)++[.int ((o+a.size-1:Nat):Int),.int ((o+a.size+b.size-1:Nat):Int)]):=f7 (by rw[iX,Ef];simp;split<;>lia);simp only[Ţ,e,Ent.pv,gC,gB,cD,mo,nn,al,cl,aO];refine⟨n-1,by lia,fs.eraseIdx j++[(a,o),(b,o+a.size)],pp++[o+a.size+b.size],?_,W',by simp;lia⟩;have e2:Nh t (pp++[o+a.size+b.size])=Nh t pp++[o+a.size+b.size]:=by simp[Nh,Ce,e,kh]
    rw[em,e2];simp[aL,rt]
def p2{a b:Nat}(h:a<=b):2 ^ a<=2 ^ b:=CF ⋯ h
structure Flat(g:List Sy)(ht:Nat->Nat):Prop where
 le:∀i,i<g.length->ht i<=14
 dn:∀i,i<g.length->∀u∈(sy g i).un,ht u<ht i
theorem Il(hz:t.size<=15):∃ht,Flat (gS t) ht:=by
 have G:WG (gS t) t.ak:=wu ∅;have hl:=VX t;exact⟨λi=>i,λi hi=>by lia,λi hi u hu=>G.dn i hi u hu⟩
theorem Kv(D:DD t ds)(hb:(aE t ds).length<=15):∃ht,Flat (dS t ds (aE t ds)) ht:=by
 have nd:=gk t ds (aE t ds) (aE t ds).length;have ok:=D.ok;have lt:=@eS t ds (aE t ds) (aE t ds).length;unfold okD at ok;have hS:∀i p,(aF t ds (aE t ds) (aE t ds).length)[i]?=some p->sy (dS t ds (aE t ds)) i=⟨JN (en t 0 p.1) p.1,p.2,(IC (en t 0 p.1) p.1 (ds.getD p.1 0) ((aE t ds).getD p.2 0)).map λx=>(aF t ds (aE t ds) (aE t ds).length).idxOf (x,p.2-1),_⟩:=λi p hp=>by
  unfold sy dS;rw[Ae,Ah,hp];rfl
 have hL:(dS t ds (aE t ds)).length=(aF t ds (aE t ds) (aE t ds).length).length:=SQ t ds _;generalize aF t ds (aE t ds) (aE t ds).length=L at *;have get:∀i,i<(dS t ds (aE t ds)).length->∃p,L[i]?=some p/\p∈L:=λi hi=>by
  rw[hL]at hi;exact⟨L[i],Ad hi,CP hi⟩
 refine⟨λi=>(L.getD i (0,0)).2,λi hi=>?_,λi hi u hu=>?_⟩
 .obtain⟨p,hp,hm⟩:=get i hi;have:=(lt hm).1;show(L.getD i (0,0)).2<=14;rw[Ae,hp];show p.2<=14;lia
 .obtain⟨p,hp,hm⟩:=get i hi;rw[hS i p hp]at hu;obtain⟨x,hx,rfl⟩:=Aq.mp hu;obtain⟨h1,h2⟩:=ok p hm x hx;show(L.getD _ (0,0)).2<(L.getD i (0,0)).2;rw[Ae,Ae,hp,zP h2];show p.2-1<p.2;lia
variable{a:Int}{l:O PV}{d:Nat}
theorem Jv(h8:t.ak.length<=8)(q:∀s,WG s t.ak->(∃ht,Flat s ht)->Q (nR s)):(fX (t2 gq ((.int 2)\λx36=>bV x36) (ce (.int 0))) (t.pv\λx37=>kN x37) (t.pv\λTQ=>am (t.pv\λYr=>c7 Yr) λx40=>lQ TQ x40)).run Q:=by
 have hz:=t.size_eq;have hdp:=t.pj;have adX:t.size<=15:=by lia
 simp only[mo,ga,cx (show(0:Int)<2 by decide) ⋯];refine bK λd _ _=>?_;simp only[qz,dw,nn];cases c:d==0 with
 |true=>
  simp only[if_true];refine N5 t ∅ Q ?_;rw[<- aer];exact q _ (wu ∅) (Il adX)
 |false=>
  simp only[AD,if_false,ga];refine KW t ∅ ∅ λds d D VT=>?_;have á:(splits t).length<=7:=by have:=Jw t;lia
  have ū:=DD.of (D.isD ∅);have hb:(aE t ds).length<=8:=by unfold aE;rw[Ax,pX];unfold M9;rw[Ai];lia
  refine SN ū ∅ Q ?_;rw[<- aeY];exact q _ (Pd ū adX ∅) (Kv ū ∅)
structure Tx(x:PV)(d n:Nat):Prop where
 fg:PV.fg x=true
 sh:(PV.pd x).showable=true
 dep:(PV.pd x).depth<=d
 len:(PV.pd x).shown.length<=n
def YC(h:a.natAbs.log2<1920):Tx (.int a) 0 1921:=by
 refine⟨by simp,?_,?_,?_⟩
 .rw[PV.pd];simp only[Fw,decide_eq_true h]
 .rw[PV.pd];simp[Gf]
 .rw[PV.pd,PyData.shown,PySem.ofString_length];exact int_text_length_le ⋯ h
def YB:Tx .aB 0 1921:=⟨by simp,by rw[PV.pd];simp[Fw],by rw[PV.pd];simp[Gf],by rw[PV.pd];decide⟩
theorem Lr:∀{l:O PV},(∀x∈l,Tx x d n)->EC (rF l)=true/\Fx (rF l)<=d/\piled (BU (rF l))<=l.length*(n+2)/\(BU (rF l)).length=l.length
 |[],_=>⟨by simp[rF,EC],by simp[rF,Fx],by simp[rF,BU,piled],by simp[rF,BU]⟩
 |x::l,h=>by
  obtain⟨a1,a2,a3,a4⟩:=Lr λy hy=>h y (.tail _ hy);have hx:=h x (.head _);refine⟨?_,?_,?_,?_⟩
  .rw[rF,EC,hx.sh,a1];rfl
  .rw[rF,Fx];exact Nat.max_le.mpr ⟨hx.dep,a2⟩
  .rw[rF,BU,piled_cons,Ax,Nat.add_mul];have:=hx.len;lia
  .rw[rF,BU,Ax,a4,Ax]
theorem YA(h:∀x∈l,Tx x d n)(h0:l≠[]):Tx (.tup l) (d+1) (l.length*(n+2)+3):=by
 obtain⟨a1,a2,a3,a4⟩:=Lr h;refine⟨?_,?_,?_,?_⟩
 .rw[V0];exact jd.mpr λx hx=>(h x hx).fg
 .rw[PV.pd,Fw];exact a1
 .rw[PV.pd,Gf];lia
 .rw[PV.pd,PyData.shown];have hn:BU (rF l)≠[]:=λz=>by rw[z]at a4;exact h0 (Cm a4.symm)
  have h3:(tupleText (BU (rF l))).length<=piled (BU (rF l))+3:=by
   unfold tupleText;rw[Str.length_append,Str.length_append];have:=join_length_add _ hn;have h1:(("(":String):Str).length=1:=by decide
   have h2:∀b:Bool,((if b then ",)" else ")":String):Str).length<=2:=by decide
   have:=h2 ((BU (rF l)).length==1);lia
  exact A0 h3 (Nat.add_le_add_right a3 3)
theorem Tx.ok(h:Tx x d n)(hd:d<=100)(hn:n<=16777216):xW x:=⟨h.fg,h.sh,A0 h.dep hd,by rw[aH];have:=h.len;lia⟩
def Uy(h:xW (.tup l)):xZ (.tup l)=.ret (.str (PV.pd (.tup l)).shown):=sK h
theorem ZN(h0:0<=a)(h:a<10 ^ 60):a.natAbs.log2<1920:=by
 by_cases c:a.natAbs=0
 .rw[c];decide
 .rw[Nat.log2_lt c];have:(10:Int) ^ 60=((10 ^ 60:Nat):Int):=by decide +kernel
  rw[this]at h;refine Az (m:=10 ^ 60) (by generalize (10 ^ 60:Nat)=B at *;lia) (A0 (m:=2 ^ 200) (by decide +kernel) (CF ⋯ ⋯))
section
variable{ask:Str}
theorem acR(G:WG g ws)(h:∀k,0<=ps.getD k 0):∀j i,j<t.size->i<g.length->∀k v,rv g ps ask t j i k=some v->0<=v:=RC λj i hj hi VN ß k v hv=>by
 have h3:0<=d4 g ps i:=by unfold d4;split;exact h 3;exact BC _
 rcases GW G hj hi hv with⟨w,e,hh,_,rfl⟩|⟨a,b,d,k1,k2,x,y,e,hd,_,h1,h2,rfl⟩|⟨u,x,hu,h1,rfl⟩
 .exact BC _
 .obtain⟨l1,l2⟩:=bU t hj e;obtain⟨m1,m2⟩:=xt G hi hd;have:=VN a _ l1 m1 _ x h1;have:=VN b _ l2 m2 _ y h2;have h5:0<=Jc ps ask d:=by unfold Jc yc;split;exact BC _;exact h _
  lia
 .have:=ß u (G.dn i hi u hu) k x h1;lia
theorem acS(G:WG g ws){B:Int}(hB:0<=B)(h:∀k,ps.getD k 0<=B):∀j i,j<t.size->i<g.length->∀k v,rv g ps ask t j i k=some v->v<=B*(4 ^ j*(g.length+1)+i:Nat):=RC λj i hj hi VN ß k v hv=>by
 have h3:d4 g ps i<=B:=by unfold d4;split;exact h 3;exact hB
 rcases GW G hj hi hv with⟨w,e,hh,_,rfl⟩|⟨a,b,d,k1,k2,x,y,e,hd,_,h1,h2,rfl⟩|⟨u,x,hu,h1,rfl⟩
 .exact Int.mul_nonneg hB ∅
 .obtain⟨l1,l2⟩:=bU t hj e;obtain⟨m1,m2⟩:=xt G hi hd;have k1:=VN a _ l1 m1 _ x h1;have k2:=VN b _ l2 m2 _ y h2;have h5:Jc ps ask d<=B:=by unfold Jc yc;split;exact hB;exact h _
  obtain⟨j',rfl⟩:∃j',j=j'+1:=⟨j-1,by lia⟩;have pa:4 ^ a<=4 ^ j':=CF ⋯ ∅;have pb:4 ^ b<=4 ^ j':=CF ⋯ ∅;have p1:1<=4 ^ j':=Nat.one_le_pow _ _ ⋯;have e1:4 ^ (j'+1)=4*4 ^ j':=by rw[Nat.pow_succ,Nat.mul_comm]
  have key:(4 ^ a*(g.length+1)+d.2.1)+(4 ^ b*(g.length+1)+d.2.2)+1<=4 ^ (j'+1)*(g.length+1)+i:=by
   have q1:=C7 (g.length+1) pa;have q2:=C7 (g.length+1) pb;have q3:=C7 (g.length+1) p1;rw[e1,Nat.mul_assoc];generalize 4 ^ j'*(g.length+1)=P at *;generalize 4 ^ a*(g.length+1)=A at *;generalize 4 ^ b*(g.length+1)=C at *;lia
  have k3:=CT (show(((4 ^ a*(g.length+1)+d.2.1)+(4 ^ b*(g.length+1)+d.2.2)+1:Nat):Int)<=(4 ^ (j'+1)*(g.length+1)+i:Nat) by lia) hB;have k4:B*(((4 ^ a*(g.length+1)+d.2.1)+(4 ^ b*(g.length+1)+d.2.2)+1:Nat):Int)=B*(4 ^ a*(g.length+1)+d.2.1:Nat)+B*(4 ^ b*(g.length+1)+d.2.2:Nat)+B:=by
   rw[FK,FK,Gr,Gr];simp
  lia
 .have h4:=ß u (G.dn i hi u hu) k x h1;have hu:=G.dn i hi u hu;have k3:=CT (show((4 ^ j*(g.length+1)+u+1:Nat):Int)<=(4 ^ j*(g.length+1)+i:Nat) by lia) hB;have k4:B*((4 ^ j*(g.length+1)+u+1:Nat):Int)=B*(4 ^ j*(g.length+1)+u:Nat)+B:=by rw[FK,Gr];simp
  lia
theorem Qb(G:WG g ws)(p4:ps.length=4)(hp:∀p∈ps,0<=p/\p<=10 ^ 29)(ht:t.ak.length<=10)(h:cv (dC g ps ask t) k=some v):0<=v/\v<10 ^ 60:=by
 have hz:=t.size_eq;have hs:=t.size_pos;have hg:=G.len;have hd:∀k,0<=ps.getD k 0/\ps.getD k 0<=10 ^ 29:=λk=>by
  rw[Ae];rcases Bu k ps.length with c|c
  .rw[Ad c];exact hp _ (CP _)
  .rw[Au c];exact⟨BC _,by decide +kernel⟩
 obtain⟨i,hi,hv⟩:=GZ h;refine⟨acR G (λk=>(hd k).1) _ _ ∅ hi _ _ hv,?_⟩;have h1:=acS G (B:=10 ^ 29) (by decide +kernel) (λk=>(hd k).2) _ _ ∅ hi _ _ hv;have h2:4 ^ (t.size-1)*(g.length+1)+i<=4 ^ 20*400:=by
  have p1:4 ^ (t.size-1)<=4 ^ 20:=CF ⋯ ∅;have p2:=FZ p1 (show g.length+1<=301 by lia);have p3:4 ^ 20=1099511627776:=by decide
  rw[p3]at p2 ⊢;lia
 have h3:=CT (show((4 ^ (t.size-1)*(g.length+1)+i:Nat):Int)<=((4 ^ 20*400:Nat):Int) by lia) (show(0:Int)<=10 ^ 29 by decide +kernel);have h4:(10:Int) ^ 29*((4 ^ 20*400:Nat):Int)<10 ^ 60:=by decide +kernel
 exact Int.lt_of_le_of_lt h1 (Int.lt_of_le_of_lt h3 h4)
end
variable{al:O (Nat×Int)}{F:Nat->OI}
theorem tQ:∀{n:Nat}{l:O Nat},l.Nodup->(∀x∈l,x<n)->l.length<=n
 |0,[],_,_=>Al _
 |0,x::l,_,h=>absurd (h x (.head _)) (FE _)
 |n+1,l,nd,h=>by
  by_cases c:n∈l
  .have h1:=List.length_erase_of_mem c;have h2:=tQ (n:=n) (nd.erase n) λx hx=>by
    have:=(nd.mem_erase_iff).mp hx;have:=h x this.2;have:x≠n:=(nd.mem_erase_iff.mp hx).1;lia
   have:=List.length_pos_of_mem c;lia
  .have:=tQ (n:=n) nd λx hx=>by
    have h1:=h x hx;have:x≠n:=λz=>c (z▸hx);lia
   lia
def pM(p:Nat×Int):Key×PV:=(.inl (p.1:Int),.int p.2)
def look(al:O (Nat×Int))(k:Nat):OI:=(al.find? λp=>decide (p.1=k)).map (·.2)
def IB(cs:O (Nat×Int))(k:Nat):OI:=cU (cs.map λp=>if p.1=k then some p.2 else ci)
structure Tg(al:List (Nat×Int))(F:Nat->OI):Prop where
 nd:(al.map (·.1)).Nodup
 lt:∀p∈al,p.1<64
 lk:∀k,look al k=F k
def Tg.len(h:Tg al F):al.length<=64:=by
 have:=tQ h.nd λx hx=>by obtain⟨p,hp,rfl⟩:=Aq.mp hx;exact h.lt p hp
 simpa using this
def Tg.of(h:Tg al F)(e:F k=some v):(k,v)∈al:=by
 rw[<- h.lk]at e;unfold look at e;obtain⟨p,hp,rfl⟩:=Fo.mp e;have h1:=List.find?_some hp;have h1:p.1=k:=by simpa using h1
 subst h1;exact List.mem_of_find?_eq_some hp
theorem oQ:∀{al:O (Nat×Int)}{k:Nat}{v:Int},(al.map (·.1)).Nodup->(k,v)∈al->look al k=some v
 |p::al,k,v,nd,h=>by
  rw[Ar,Dr]at nd;unfold look;rw[BK];rcases Ay.mp h with rfl|h
  .simp
  .have:p.1≠k:=λz=>nd.1 (z▸Aq.mpr ⟨_,h,rfl⟩);simp only[this,decide_false];exact oQ nd.2 h
def Tg.at(h:Tg al F)(e:(k,v)∈al):F k=some v:=by rw[<- h.lk];exact oQ h.nd e
variable{d:Int}
theorem sI(n:Nat):∀al:O (Nat×Int),g9 (al.map pM) (.inl (n:Int))=(look al n).map PV.int
 |[]=>rfl
 |p::al=>by
  unfold g9 look;rw[Ar,BK,BK];by_cases c:p.1=n
  .subst c;simp[pM]
  .have:¬(Fh (p.1:Int):Key)=.inl (n:Int):=λz=>by injection z with z;lia
   simp only[pM,this,c,decide_false];exact sI n al
theorem yZ(n:Nat):∀al:O (Nat×Int),vO (al.map pM) (.inl (n:Int))=(look al n).isSome
 |[]=>rfl
 |p::al=>by
  unfold vO look;rw[Ar,Cj,BK];by_cases c:p.1=n
  .subst c;simp[pM]
  .have:¬(Fh (p.1:Int):Key)=.inl (n:Int):=λz=>by injection z with z;lia
   simp only[pM,this,c,decide_false,Bool.false_or];exact yZ n al
def Qs(h:look al n=ci):mT (al.map pM) (.inl (n:Int)) (.int c)=(al++[(n,c)]).map pM:=by
 unfold mT;rw[yZ,h,if_neg (by simp),AI];rfl
def jv(al:O (Nat×Int))(n:Nat)(c:Int):O (Nat×Int):=al.map λp=>if p.1=n then (p.1,c) else p
theorem Qr(h:look al n=some d):mT (al.map pM) (.inl (n:Int)) (.int c)=(jv al n c).map pM:=by
 unfold mT jv;rw[yZ,h,if_pos (by simp),AL,AL];refine Ba λp _=>?_;show(if (pM p).1=_ then _ else _)=pM (if p.1=n then _ else _);by_cases c:p.1=n
 .rw[if_pos c,if_pos (by unfold pM;rw[c])];rfl
 .rw[if_neg c,if_neg (λz=>by unfold pM at z;injection z with z;lia)]
def Rg(h:look al n=ci)(k:Nat):look (al++[(n,c)]) k=if k=n then some c else look al k:=by
 unfold look at *;rw[List.find?_append];by_cases e:k=n
 .subst e;rw[DJ]at h;rw[h,if_pos rfl];simp
 .rw[if_neg e];cases h2:al.find? λp=>decide (p.1=k) with
  |some p=>rfl
  |none=>
   have:¬n=k:=λz=>e z.symm;simp[this]
def Rf(h:look al n=some d)(k:Nat):look (jv al n c) k=if k=n then some c else look al k:=by
 have key:∀al:O (Nat×Int),look (jv al n c) k=if k=n then (look al n).map (λ_=>c) else look al k:=by
  intro al
  induction al with
  |nil=>by_cases e:k=n<;>simp[look,jv,e]
  |cons p al ih=>
   unfold look jv at *;rw[Ar,BK,BK,BK];by_cases e:p.1=n
   .by_cases e2:k=n
    .subst e2;simp[e]
    .have h3:¬n=k:=λz=>e2 z.symm;simp only[e,if_true,h3,decide_false,e2,if_false]at ih ⊢;exact ih
   .by_cases e2:k=n
    .subst e2;simp only[e,if_false,decide_false,if_true]at ih ⊢;exact ih
    .by_cases e3:p.1=k
     .subst e3;simp[e]
     .simp only[e,e2,e3,if_false,decide_false]at ih ⊢;exact ih
 rw[key,h];rfl
def P4(al:O (Nat×Int))(n:Nat)(c:Int):(jv al n c).map (·.1)=al.map (·.1):=by
 unfold jv;rw[AL];refine Ba λp _=>?_;show(if p.1=n then (p.1,c) else p).1=p.1
 split<;>rfl
variable{cs:O (Nat×Int)}
theorem tS{F:OI}:cU [F,some c]=match F with|none=>some c|some d=>if c<d then some c else some d:=by
 obtain⟨m,hm,lm⟩:=dI (l:=[F,some c]) (v:=c) (by simp);have h1:=cZ hm;rw[hm];cases F with
 |none=>simp at h1;rw[h1]
 |some d=>
  obtain⟨m',hm',lm'⟩:=dI (l:=[some d,some c]) (v:=d) (by simp);rw[hm]at hm';cases hm';simp at h1;simp only
  split
  .rcases h1 with h|h<;>exact congrArg some ∅
  .rcases h1 with h|h<;>exact congrArg some ∅
def qF(cs:O (Nat×Int))(n:Nat)(c:Int)(k:Nat):IB (cs++[(n,c)]) k=if k=n then cU [IB cs k,some c] else IB cs k:=by
 unfold IB;rw[AI,Ar,CW,<- qe];by_cases e:k=n
 .subst e;simp
 .have:¬n=k:=λz=>e z.symm;simp only[e,this,if_false];exact qf _
def Yk(kvs:O (Key×PV))(cs:O (Nat×Int)):Prop:=∃al,kvs=al.map pM/\Tg al (IB cs)
def Yk.nil:Yk [] []:=⟨[],rfl,⟨EK,λ_ h=>(by cases h),λk=>rfl⟩⟩
theorem MC(D:Yk kvs cs)(hn:n<64){Q:O (Key×PV)->Prop}(q:∀Vv,Yk Vv (cs++[(n,c)])->Q Vv):(iu kvs (.int (n:Int)) (.int c)).run Q:=by
 obtain⟨al,rfl,A⟩:=D;have hl:(al.map pM).length<sizeLine:=by
  rw[Ai,aH];have:=A.len;lia
 unfold iu;simp only[sI];cases e:look al n with
 |none=>
  have e':=e;rw[A.lk]at e';refine⟨hl,q _ ⟨al++[(n,c)],Qs e,?_,λp hp=>?_,λk=>?_⟩⟩
  .rw[AI,Ar,CW,Co];refine⟨A.nd,by simp,λa ha b hb=>?_⟩;have hb:b=n:=by simpa using hb
   subst hb;intro z;subst z;obtain⟨p,hp,rfl⟩:=Aq.mp ha;rw[oQ A.nd (k:=p.1) (v:=p.2) hp]at e;cases e
  .rcases AO.mp hp with h|h
   .exact A.lt p h
   .rw[AR.mp h];exact hn
  .rw[Rg e,qF,A.lk,tS];by_cases z:k=n
   .subst z;rw[if_pos rfl,if_pos rfl,e']
   .rw[if_neg z,if_neg z]
 |some d=>
  have e':=e;rw[A.lk]at e';show(if c<d then W.dm _ (ce (mT (al.map pM) (.inl (n:Int)) (.int c))) else ce (al.map pM)).run Q;by_cases lt:c<d
  .rw[if_pos lt];refine⟨hl,q _ ⟨jv al n c,Qr e,by rw[P4];exact A.nd,λp hp=>?_,λk=>?_⟩⟩
   .obtain⟨p',Ħ,rfl⟩:=Aq.mp hp;have:=A.lt p' Ħ
    split<;>exact this
   .rw[Rf e,qF,A.lk,tS];by_cases z:k=n
    .subst z;rw[if_pos rfl,if_pos rfl,e'];simp only[lt,if_true]
    .rw[if_neg z,if_neg z]
  .rw[if_neg lt];refine q _ ⟨al,rfl,A.nd,A.lt,λk=>?_⟩;rw[qF,A.lk,tS];by_cases z:k=n
   .subst z;rw[if_pos rfl,e'];simp only[lt,if_false]
   .rw[if_neg z]
theorem Wv(h1:∀k v,F k=some v->∃u,(k,u)∈cs/\u<=v)(h2:∀k u,(k,u)∈cs->∃m,F k=some m/\m<=u)(k:Nat):IB cs k=F k:=by
 have mem:∀{u},some u∈(cs.map λp=>if p.1=k then some p.2 else ci)↔(k,u)∈cs:=λ{u}=>by
  constructor
  .intro h;obtain⟨p,hp,e⟩:=Aq.mp h
   split at e
   .next z=>subst z;cases e;exact hp
   .cases e
  .intro h;exact Aq.mpr ⟨_,h,by simp⟩
 unfold IB;cases e:F k with
 |some v=>
  obtain⟨u,hu,lu⟩:=h1 k v e;obtain⟨m,hm,lm⟩:=dI (mem.mpr hu);obtain⟨m2,e2,l2⟩:=h2 k m (mem.mp (cZ hm));rw[e]at e2;cases e2;rw[hm];congr 1;lia
 |none=>
  cases hm:cU (cs.map λp=>if p.1=k then some p.2 else ci) with
  |none=>rfl
  |some m=>
   obtain⟨m2,e2,_⟩:=h2 k m (mem.mp (cZ hm));rw[e]at e2;cases e2
def sl(g:O Sy)(i:Nat):O Dd:=(dbl i::(sy g i).be.flatMap (Tp i))++Gw (sy g i).un
def PX{d:Dd}:d∈sl g i↔d∈dl g i:=by
 unfold sl dl;simp only[AO,Ay,Fc,Aq,Cs,or_false]
 constructor
 .rintro ((h|⟨o,ho,h|h⟩)|h)
  .exact .inl h
  .exact .inr (.inr (.inl ⟨o,ho,h.symm⟩))
  .exact .inr (.inr (.inr ⟨o,ho,h.symm⟩))
  .exact .inr (.inl h)
 .rintro (h|h|⟨o,ho,h⟩|⟨o,ho,h⟩)
  .exact .inl (.inl h)
  .exact .inr h
  .exact .inl (.inr ⟨o,ho,.inl h.symm⟩)
  .exact .inl (.inr ⟨o,ho,.inr h.symm⟩)
variable{a:Nat}{s:O (Key×PV)}{M:Nat×Int->Prop}
theorem He(i:Nat):∀(l:O Nat) (acc:O Dd),acc.length+2*l.length<=900->bP (aL l) (.cl (acc.map d3)) (λthere s=>am (am (m9 s) λVs=>kj Vs [.tup [.str "over",.int (i:Int),there],.tup [.str "over",there,.int (i:Int)]]) λf=>ce (.cl f))=.ret (.cl ((acc++l.flatMap (Tp i)).map d3))
 |[],acc,_=>by
  show bP [] _ _=_;rw[jc];simp
 |o::l,acc,h=>by
  show bP (.int (o:Int)::aL l) _ _=_;have hc:(acc++Tp i o).length+2*l.length<=900:=by simp at h ⊢;lia
  have e:kj (acc.map d3) [.tup [.str "over",.int (i:Int),.int (o:Int)],.tup [.str "over",.int (o:Int),.int (i:Int)]]=.ret ((acc++Tp i o).map d3):=by
   rw[f7 (by rw[Ai];simp at h ⊢;lia),AI];rfl
  rw[lV];simp only[ig,mo,e];rw[He i l _ hc,DM,AG]
section
abbrev thP(t:Tr):PV:=.cl ((t.nd 0).map Ent.pv)
def Pm(hj:j<t.size):d5 ((t.nd 0).map Ent.pv) (j:Int)=some (en t 0 j).pv:=dP (by rw[Ah,kL t 0 j hj];rfl)
theorem GP(G:WG g ws)(hj:j<t.size)(hi:i<g.length)(e:en t 0 j=.word w):cK (nR g) (thP t) (.int (j:Int)) (.int (i:Int))=.ret (.cl (if hm g i w=true then [.tup []] else [])):=by
 unfold cK;have l2:=G.ve i hi;have h1:∀b:Bool,Nd [PV.tup []] (.int (if b=true then 1 else 0))=.ret (if b=true then [PV.tup []] else []):=λb=>by
  rw[Sd,sK (by cases b<;>simp<;>exact b9 ∅)];cases b<;>rfl
 unfold nR hm;simp only[mo,aO,bq,N9 hi,Sy.pv,Sb,cy,Pm hj,e,Ent.pv,KB,ph,pe,cD,if_true,eq_nil _ (show(sy g i).un.length<=1000 by lia)];cases eu:(sy g i).un.isEmpty with
 |false=>simp[h1]
 |true=>simp only[Mq,mo,X4 (G.nm i hi) w,zp,h1,fY,E5]
theorem GQ(G:WG g ws)(hj:j<t.size)(hi:i<g.length){b:Nat}(e:en t 0 j=.pair a b):cK (nR g) (thP t) (.int (j:Int)) (.int (i:Int))=.ret (.cl ((sl g i).map d3)):=by
 unfold cK;have l2:=G.ve i hi;have lb:=G.abf i hi;have h0:PV.cl [.tup [.str "doubled",.int (i:Int),.int (i:Int)]]=.cl (([dbl i]:O Dd).map d3):=rfl;unfold nR;simp only[mo,aO,bq,N9 hi,Sy.pv,Sb,cy,Pm hj,e,Ent.pv,KB,gC,gB,cD,AD,if_false,h0];rw[He i (sy g i).be [dbl i] (by simp;lia)];unfold sl;have hl:(([dbl i]++(sy g i).be.flatMap (Tp i)).map d3).length<=100:=by
  rw[Ai,Ak,Ik];simp;lia
 have aei:(dbl i::(sy g i).be.flatMap (Tp i))=[dbl i]++(sy g i).be.flatMap (Tp i):=rfl;rw[aei];generalize ([dbl i]++(sy g i).be.flatMap (Tp i))=L at hl;have i0:∀x y:Nat,d5 (aL [x,y]) 0=some (.int x):=λ_ _=>rfl;have i1:∀x y:Nat,d5 (aL [x,y]) 1=some (.int y):=λ_ _=>rfl
 match hu:(sy g i).un,l2 with
 |[],_=>simp[aL,Gw]
 |[x],_=>simp[aL,Gw]
 |[x,y],_=>
  have e2:Hh df [.tup (aL [x,y])]=.ret (.int 2):=by simp[aL]
  simp only[mo,e2,qz,BEq.rfl,dw,if_true,aO,cy,i0,i1,KB,ig];rw[f7 (by simp at hl ⊢;lia)];simp only[mo,AI];rfl
end
def vc(v:PV)(F:Nat->OI):Prop:=∃al:O (Nat×Int),v=qB (al.map pM)/\Tg al F
def wy(ps:O Int)(ask:Str):O (Key×PV):=[(.inr "split",if ("split":Str)=ask then .aB else .int (ps.getD 0 0)),(.inr "doubled",if ("doubled":Str)=ask then .aB else .int (ps.getD 1 0)),(.inr "over",if ("over":Str)=ask then .aB else .int (ps.getD 2 0)),(.inr "lost",.int (ps.getD 3 0))]
def lE(s:O (Key×PV))(M:Nat×Int->Prop):Prop:=∃cs,Yk s cs/\∀p,p∈cs↔M p
def lE.nil:lE [] λ_=>False:=⟨[],Yk.nil,λp=>by simp⟩
def lE.imp{N:Nat×Int->Prop}(h:lE s M)(e:∀p,M p↔N p):lE s N:=let ⟨cs,h1,h2⟩:=h;⟨cs,h1,λp=>(h2 p).trans (e p)⟩
def lE.ent(h:lE s M)(h1:∀k v,F k=some v->∃u,M (k,u)/\u<=v)(h2:∀k u,M (k,u)->∃m,F k=some m/\m<=u):vc (qB s) F:=by
 obtain⟨cs,⟨al,rfl,A⟩,hm⟩:=h;refine⟨al,rfl,A.nd,A.lt,λk=>?_⟩;rw[A.lk];exact Wv (λk v e=>by obtain⟨u,hu,l⟩:=h1 k v e;exact⟨u,(hm _).mpr hu,l⟩) (λk u e=>h2 k u ((hm _).mp e)) k
def sM(D:lE s M)(hn:n<64){Q:O (Key×PV)->Prop}(q:∀s',lE s' (λp=>M p\/p=(n,c))->Q s'):(iu s (.int (n:Int)) (.int c)).run Q:=by
 obtain⟨cs,h,hm⟩:=D;refine MC h hn λs' h'=>q s' ⟨_,h',λp=>?_⟩;rw[AO,AR,hm]
theorem fx{X:Type}{f:X->PV}{B:PV->O (Key×PV)->W (O (Key×PV))}{N:X->Nat×Int->Prop}:∀{l:O X}{M0:Nat×Int->Prop}{s0:O (Key×PV)}{Q:O (Key×PV)->Prop},lE s0 M0->(∀x∈l,∀s M,lE s M->∀{Q:O (Key×PV)->Prop},(∀s',lE s' (λp=>M p\/N x p)->Q s')->(B (f x) s).run Q)->(∀s,lE s (λp=>M0 p\/∃x,x∈l/\N x p)->Q s)->(bP (l.map f) s0 B).run Q
 |[],M0,s0,Q,h0,_,q=>by
  rw[CW,jc];exact q s0 (h0.imp λp=>by simp)
 |x::l,M0,s0,Q,h0,hb,q=>by
  rw[Ar,lV,ga];refine hb x (.head _) s0 M0 h0 λs' h'=>?_;refine fx h' (λy hy=>hb y (.tail _ hy)) λs hs=>q s (hs.imp λp=>?_);simp only[Ay]
  constructor
  .rintro ((h|h)|⟨y,hy,h⟩)
   .exact .inl h
   .exact .inr ⟨x,.inl rfl,h⟩
   .exact .inr ⟨y,.inr hy,h⟩
  .rintro (h|⟨y,rfl|hy,h⟩)
   .exact .inl (.inl h)
   .exact .inl (.inr h)
   .exact .inr ⟨y,hy,h⟩
section
variable{ask:Str}
def T5{d:Str}(h:vL d):g9 (wy ps ask) (.inr d)=some (if d=ask then .aB else .int (yc ps d)):=by
 rcases h with rfl|rfl|rfl<;>rfl
theorem MZ:g9 (wy ps ask) (.inr "lost")=some (.int (ps.getD 3 0)):=rfl
structure lz(g:List Sy)(ps:List Int)(ask:Str)(t:Tr)(ls:List (List PV))(j i:Nat):Prop where
 len:ls.length=j+1
 full:∀a,a<j->(ls.getD a []).length=g.length
 part:(ls.getD j []).length=i
 ent:∀a x,(a<j/\x<g.length\/a=j/\x<i)->vc ((ls.getD a []).getD x .aB) (rv g ps ask t a x)
def Rc(h:a<ls.length):d5 (ls.map PV.cl) (a:Int)=some (.cl (ls.getD a [])):=dP (by
 rw[Ah,Ad h,Ae,Ad h];rfl)
def ZX{x:Nat}(h:x<l.length):d5 l (x:Int)=some (l.getD x .aB):=dP (by
 rw[Ad h,Ae,Ad h];rfl)
def yG(A:Tg al F){p:Nat×Int}(hp:p∈al):g9 (al.map pM) (.inl (p.1:Int))=some (.int p.2):=by rw[sI,oQ A.nd (k:=p.1) (v:=p.2) hp];rfl
theorem ZZ(A:Tg al F):(al.map pM).length<=sizeLine:=by
 rw[Ai,aH];have:=A.len;lia
def lS(A:Tg al F){Q:O PV->Prop}(q:Q ((al.map pM).map λkv=>kP kv.1)):(nh (qB (al.map pM))).run Q:=NH (ZZ A) q
theorem P6(ht:t.ak.length<=10)(hj:j<t.size)(hi:i<g.length)(h:rv g ps ask t j i k=some v):k<12:=by
 have h1:=wF hj hi h;have h2:=oK t j;lia
theorem Oe(G:WG g ws)(p4:ps.length=4)(ht:t.ak.length<=10)(hj:j<t.size)(hi:i<g.length)(R:lz g ps ask t ls j i)(q:∀v,vc v (rv g ps ask t j i)->Q v):(gA (nR g) (thP t) (.cl (ls.map PV.cl)) (.tup [.int (j:Int),.int (i:Int)]) (qB (wy ps ask))).run Q:=by
 have l2:=G.ve i hi;have hR:=R.len;have hP:=R.part;unfold gA;have eg:nR g=.tup (g.map Sy.pv):=rfl;have i2:d5 [(sy g i).nm,PV.int ((sy g i).lv),.tup (aL (sy g i).un),.tup (aL (sy g i).be)] 2=some (.tup (aL (sy g i).un)):=rfl;simp only[mo,ga,iC,eg,aO,cy,N9 hi,Sy.pv,i2,KB,nn];refine fx (f:=λu:Nat=>PV.int (u:Int)) (l:=(sy g i).un) (N:=λu p=>∃k x,rv g ps ask t j u k=some x/\p=(k,x+d4 g ps i)) lE.nil (λu hu s M hM Q q=>?_) λs hs=>?_
 .have hui:=G.dn i hi u hu;obtain⟨al,e,A⟩:=R.ent j u (.inr ⟨rfl,hui⟩);simp only[bq,mo,cy,Rc (show j<ls.length by lia),KB,ZX (show u<(ls.getD j []).length by lia),e,ga];refine lS A ?_;have em:((al.map pM).map λkv=>kP kv.1)=al.map λp=>PV.int (p.1:Int):=by rw[AL];rfl
  rw[em];refine fx (N:=λp p'=>p'=(p.1,p.2+d4 g ps i)) hM (λp hp s M hM Q q=>?_) λs hs=>?_
  .have eo:ps.getD 3 0*(if ((sy g i).un.length:Int)==2 then 1 else 0)=d4 g ps i:=by
    unfold d4;by_cases c:(sy g i).un.length=2
    .simp[c]
    .have:¬((sy g i).un.length:Int)=2:=by lia
     simp[c,this]
   have mk:Fk (ps.getD 3 0) (if ((sy g i).un.length:Int)==2 then 1 else 0):=mulR (by split <;> lia);simp only[Mx,mo,ga];refine lX (k:=.inl (p.1:Int)) (yG A hp) ?_;refine lX (k:=.inr "lost") MZ ?_;simp only[sJ,mo,nn,aL,Ai,qz,zp,Sf,sK mk,eo,cE];exact sM hM (A.lt p hp) q
  .refine q s (hs.imp λp=>or_congr_right ?_)
   constructor
   .rintro⟨⟨k,x⟩,h,rfl⟩;exact⟨k,x,A.at h,rfl⟩
   .rintro⟨k,x,h,rfl⟩;exact⟨(k,x),A.of h,rfl⟩
 .have hs:lE s λp=>∃u,u∈(sy g i).un/\∃k x,rv g ps ask t j u k=some x/\p=(k,x+d4 g ps i):=hs.imp λp=>by simp
  have up1:∀k u,(∃w,w∈(sy g i).un/\∃k' x,rv g ps ask t j w k'=some x/\(k,u)=(k',x+d4 g ps i))->∃m,rv g ps ask t j i k=some m/\m<=u:=by
   rintro k u ⟨w,hw,k',x,hx,e⟩;cases e;obtain⟨m,hm,lm⟩:=LN (ps:=ps) (ask:=ask) G hj hi hw hx;exact⟨m,hm,by lia⟩
  cases e:en t 0 j with
  |word w=>
   have es:=GP (t:=t) G hj hi e;rw[eg]at es;rw[es];simp only[nn,bq];cases hh:hm g i w with
   |false=>
    rw[if_neg (by simp),jc];refine q _ (hs.ent (λk v hv=>?_) up1);rcases GW G hj hi hv with⟨w',e',h',_,_⟩|⟨a,b,d,k1,k2,x,y,e',_⟩|⟨u,x,hu,hx,rfl⟩
    .rw[e]at e';cases e';rw[hh]at h';cases h'
    .rw[e]at e';cases e'
    .exact⟨x+d4 g ps i,⟨u,hu,k,x,hx,rfl⟩,by lia⟩
   |true=>
    have hu:(sy g i).un=[]:=by
     unfold hm at hh;rw[A9]at hh;exact List.isEmpty_iff.mp hh.1
    have s0:s=[]:=by
     obtain⟨cs,⟨al,rfl,A⟩,hm⟩:=hs;cases al with
     |nil=>rfl
     |cons p al=>
      have h1:=A.at (k:=p.1) (v:=p.2) (.head _);unfold IB at h1;obtain⟨r,hr,_⟩:=Aq.mp (cZ h1);obtain⟨w,hw,_⟩:=(hm r).mp hr;rw[hu]at hw;cases hw
    subst s0;have e0:of2 gq (.tup []) (.tup [])=.ret (.bl true):=eq_nil [] (by simp);have D0:=MC Yk.nil (n:=0) (c:=0) ∅ (Q:=λk=>Yk k [(0,0)]) (λ_ h=>h);rw[if_pos rfl,lV];simp only[e0,mo,dw,if_true,ga,jc];refine⟨by rw[aH];simp,?_⟩;have DS:lE (mT [] (.inl 0) (.int 0)) λp=>p=(0,0):=⟨_,D0.2,λp=>by simp⟩;refine q _ (DS.ent (λk v hv=>?_) λk u hk=>?_)
    .rcases GW G hj hi hv with⟨w',e',h',rfl,rfl⟩|⟨a,b,d,k1,k2,x,y,e',_⟩|⟨u,x,Tu,hx,rfl⟩
     .exact⟨0,rfl,BC _⟩
     .rw[e]at e';cases e'
     .rw[hu]at Tu;cases Tu
    .cases hk;exact LM (ps:=ps) (ask:=ask) G hj hi e hh
  |pair a b=>
   obtain⟨ha,hb⟩:=bU t hj e;have es:=GQ (t:=t) G hj hi e;rw[eg]at es;rw[es];simp only[nn,bq];refine fx (f:=d3) (l:=sl g i) (N:=λd p=>∃k1 x,rv g ps ask t a d.2.1 k1=some x/\∃k2 y,rv g ps ask t b d.2.2 k2=some y/\p=(k1+k2+isA ask d,x+y+Jc ps ask d)) hs (λd hd s M hM Q q=>?_) λs hs=>?_
   .have ē:=PX.mp hd;obtain⟨la,lb⟩:=xt G hi ē;have Tz:=SK ē;obtain⟨al1,ea,A1⟩:=R.ent a d.2.1 (.inl ⟨ha,la⟩);obtain⟨al2,eb,A2⟩:=R.ent b d.2.2 (.inl ⟨hb,lb⟩);have fa:=R.full a ha;have fb:=R.full b hb;have j0:d5 [PV.str d.1,.int (d.2.1:Int),.int (d.2.2:Int)] 0=some (.str d.1):=rfl;have j1:d5 [PV.str d.1,.int (d.2.1:Int),.int (d.2.2:Int)] 1=some (.int (d.2.1:Int)):=rfl;have j2:d5 [PV.str d.1,.int (d.2.1:Int),.int (d.2.2:Int)] 2=some (.int (d.2.2:Int)):=rfl;have e0:of2 gq (d3 d) (.tup [])=.ret (.bl false):=by
     unfold d3;rw[uK,sK ⟨by simp,by simp,by simp⟩];simp only[aeD];rw[fZ]
     all_goals simp
    simp only[e0,mo,dw,AD,if_false];simp only[d3,Mx,aO,mo,cy,j0,j1,j2,KB,bq,Pm hj,e,Ent.pv,iC,Rc (show a<ls.length by lia),Rc (show b<ls.length by lia),ZX (show d.2.1<(ls.getD a []).length by lia),ZX (show d.2.2<(ls.getD b []).length by lia),ea,eb];simp only[ga];refine lX (k:=.inr d.1) (T5 Tz) ?_;refine lS A1 ?_;have em1:((al1.map pM).map λkv=>kP kv.1)=al1.map λp=>PV.int (p.1:Int):=by rw[AL];rfl
    have em2:((al2.map pM).map λkv=>kP kv.1)=al2.map λp=>PV.int (p.1:Int):=by rw[AL];rfl
    rw[em1];refine fx (N:=λp r=>∃k2 y,rv g ps ask t b d.2.2 k2=some y/\r=(p.1+k2+isA ask d,p.2+y+Jc ps ask d)) hM (λp hp s M hM Q q=>?_) λs hs=>?_
    .simp only[ga];refine lS A2 ?_;rw[em2];have Ħ:=P6 ht (show a<t.size by lia) la (A1.at (k:=p.1) (v:=p.2) hp);refine fx (N:=λp2 r=>r=(p.1+p2.1+isA ask d,p.2+p2.2+Jc ps ask d)) hM (λp2 vM s M hM Q q=>?_) λs hs=>?_
     .have amn:=P6 ht (show b<t.size by lia) lb (A2.at (k:=p2.1) (v:=p2.2) vM);simp only[mo,ga];refine lX (k:=.inl (p.1:Int)) (yG A1 hp) ?_;refine lX (k:=.inl (p2.1:Int)) (yG A2 vM) ?_;have ie:∀x y:Nat,((x:Int)+(y:Int))=((x+y:Nat):Int):=λx y=>by lia
      by_cases c:d.1=ask
      .have h1:isA ask d=1:=if_pos c;have h2:Jc ps ask d=0:=if_pos c;rw[h1,h2]at q;simp only[if_pos c,cE,nn,uJ,PV.ka,mo,dw,if_true,ga];have e1:((p.1:Int)+(p2.1:Int)+1)=((p.1+p2.1+1:Nat):Int):=by lia
       rw[e1];rw[Int.add_zero]at q;exact sM hM ∅ q
      .have h1:isA ask d=0:=if_neg c;have h2:Jc ps ask d=yc ps d.1:=if_neg c;rw[h1,h2]at q;simp only[if_neg c,cE,nn,uJ,PV.ka,mo,dw,AD,if_false,ga,ie];exact sM hM ∅ q
     .refine q s (hs.imp λr=>or_congr_right ?_)
      constructor
      .rintro⟨⟨k,x⟩,h,rfl⟩;exact⟨k,x,A2.at h,rfl⟩
      .rintro⟨k,x,h,rfl⟩;exact⟨(k,x),A2.of h,rfl⟩
    .refine q s (hs.imp λr=>or_congr_right ?_)
     constructor
     .rintro⟨⟨k,x⟩,h,h2⟩;exact⟨k,x,A1.at h,h2⟩
     .rintro⟨k,x,h,h2⟩;exact⟨(k,x),A1.of h,h2⟩
   .refine q _ (hs.ent (λk v hv=>?_) λk u hk=>?_)
    .rcases GW G hj hi hv with⟨w',e',h',_,_⟩|⟨a',b',d,k1,k2,x,y,e',hd,rfl,hx,hy,rfl⟩|⟨u,x,hu,hx,rfl⟩
     .rw[e]at e';cases e'
     .rw[e]at e';cases e';exact⟨x+y+Jc ps ask d,.inr ⟨d,PX.mpr hd,k1,x,hx,k2,y,hy,rfl⟩,by lia⟩
     .exact⟨x+d4 g ps i,.inl ⟨u,hu,k,x,hx,rfl⟩,by lia⟩
    .rcases hk with hk|⟨d,hd,k1,x,hx,k2,y,hy,hk⟩
     .exact up1 k u hk
     .cases hk;obtain⟨m,hm,lm⟩:=LO (ps:=ps) (ask:=ask) G hj hi e (PX.mp hd) hx hy;exact⟨m,hm,by lia⟩
end
section
variable{ask:Str}
def MM(g:O Sy)(ps:O Int)(ask:Str)(t:Tr)(ls:O (O PV))(n:Nat):Prop:=ls.length=n/\(∀a,a<n->(ls.getD a []).length=g.length)/\∀a x,a<n->x<g.length->vc ((ls.getD a []).getD x .aB) (rv g ps ask t a x)
theorem MM.new(h:MM g ps ask t ls n):lz g ps ask t (ls++[[]]) n 0:=by
 obtain⟨h1,h2,h3⟩:=h;have e:∀a,a<n->(ls++[[]]).getD a []=ls.getD a []:=λa ha=>gF ∅;refine⟨by simp[h1],λa ha=>by rw[e a ha];exact h2 a ha,?_,λa x hx=>?_⟩
 .rw[i8 ∅,h1,Es];rfl
 .rcases hx with⟨ha,hx⟩|⟨_,hx⟩
  .rw[e a ha];exact h3 a x ha hx
  .omega
theorem lz.all(h:lz g ps ask t ls n g.length):MM g ps ask t ls (n+1):=⟨h.len,λa ha=>by
 rcases Bu a n with c|c
 .exact h.full a c
 .rw[show a=n by lia];exact h.part,λa x ha hx=>by
 rcases Bu a n with c|c
 .exact h.ent a x (.inl ⟨c,hx⟩)
 .exact h.ent a x (.inr ⟨by lia,hx⟩)⟩
theorem lz.put(h:lz g ps ask t ls n i){v:PV}(hv:vc v (rv g ps ask t n i)):lz g ps ask t (ls.set n (ls.getD n []++[v])) n (i+1):=by
 have hl:=h.len;have e:∀a,a≠n->(ls.set n (ls.getD n []++[v])).getD a []=ls.getD a []:=λa ha=>by
  rw[Ae,Bq (Bt ha),Ae]
 have e2:(ls.set n (ls.getD n []++[v])).getD n []=ls.getD n []++[v]:=by
  rw[Ae,B2 ∅];rfl
 refine⟨by rw[Bw];exact hl,λa ha=>by rw[e a ∅];exact h.full a ha,by rw[e2,Ak,h.part];rfl,λa x hx=>?_⟩;by_cases c:a=n
 .subst c;rw[e2];by_cases c2:x<i
  .rw[gF (by rw[h.part];exact c2)];exact h.ent a x (.inr ⟨rfl,c2⟩)
  .have:x=i:=by rcases hx with hx|hx<;>lia
   subst this;rw[i8 (by rw[h.part];exact Al _),h.part,Es];exact hv
 .rw[e a c];rcases hx with hx|hx
  .exact h.ent a x (.inl hx)
  .exact absurd hx.1 c
def Iq{v:PV}(h:vc v F)(s:O PV):PV.free s v:=by
 obtain⟨al,rfl,A⟩:=h;show gW s _;refine qx.mpr λx hx=>?_;obtain⟨kv,hkv,rfl⟩:=Aq.mp hx;obtain⟨p,hp,rfl⟩:=Aq.mp hkv;exact trivial
def Uv(l:O PV):l=(AB l.length).map λx=>l.getD x .aB:=by
 refine List.ext_getElem (by simp) λn h1 h2=>?_;rw[Ff,List.getElem_range,Ae,Ad h1];rfl
theorem qr:∀(t:Tr) (o:Nat),((t.nd o).filter λe=>match e with|.word _=>false|_=>true).length+1=t.ak.length
 |.leaf w,o=>rfl
 |.node a b,o=>by
  have h1:=qr a o;have h2:=qr b (o+a.size);simp only[Tr.nd,Tr.ak,Ce,Ak];simp;lia
theorem RI(t:Tr):∃L:O PV,(ml ((t.nd 0).map Ent.pv) λTn=>Rm (M3 (am (gT .str Tn) gj)) (ce Tn))=.ret L/\L.length=t.ak.length-1:=by
 have h:=qr t 0;have e:(ml ((t.nd 0).map Ent.pv) λTn=>Rm (M3 (am (gT .str Tn) gj)) (ce Tn))=.ret (((t.nd 0).map Ent.pv).filterMap λx=>match x with|.str _=>ci|_=>some x):=by
  refine ui λx hx=>?_;obtain⟨e,_,rfl⟩:=Aq.mp hx;cases e with
  |word w=>simp[Ent.pv]
  |pair a b=>simp[Ent.pv]
 have e2:(((t.nd 0).map Ent.pv).filterMap λx=>match x with|.str _=>ci|_=>some x).length=t.ak.length-1:=by
  have:∀l:O Ent,((l.map Ent.pv).filterMap λx=>match x with|.str _=>ci|_=>some x).length=(l.filter λe=>match e with|.word _=>false|_=>true).length:=by
   intro l
   induction l with
   |nil=>rfl
   |cons e l ih=>
    cases e with
    |word w=>rw[Ar,AH,De];exact ih
    |pair a b=>rw[Ar,AH,De];exact congrArg (·+1) ih
  rw[this];lia
 exact⟨_,e,e2⟩
theorem JW(G:WG g ws)(p4:ps.length=4)(ht:t.ak.length<=10)(hw:∀w∈t.ak,w∈ws)(q:Q (.tup ((dC g ps ask t).map oP))):(gw (nR g) (thP t) (qB (wy ps ask))).run Q:=by
 have hz:=t.size_eq;have hs:=t.size_pos;have hg:=G.len;have el:Hh df [nR g]=.ret (.int g.length):=by simp[nR]
 have et:Hh df [thP t]=.ret (.int (t.size:Int)):=by rw[eJ,eW]
 unfold gw;simp only[mo,ga,et,eI,sK (bS (i:=0) (j:=(t.size:Int)) ∅ ∅),Bk,nn];refine o8 (λn s=>MM g ps ask t s.2 n) ⟨rfl,λa h=>absurd h (FE _),λa x h=>absurd h (FE _)⟩ (λn s hn hs=>?_) (λs hs=>?_)
 .simp only[mo,ga,W.sg];refine⟨by rw[hs.1,aH];lia,λb _=>?_⟩;simp only[mo,ga,el,eI,sK (bS (i:=0) (j:=(g.length:Int)) ∅ ∅),Bk,nn];refine o8 (λi s=>lz g ps ask t s.2 n i) hs.new (λi s hi hR=>?_) (λs hs=>hs.all);simp only[mo,ga];have hl:=hR.len;have hp:=hR.part;have ex:aad s.2 (.int (n:Int))=.ret (n,s.2.getD n []):=by
   have h1:nQ s.2.length (n:Int)=some n:=by unfold nQ;rw[if_pos ∅,if_pos ∅];simp
   show W.Nt _=_;rw[h1];show W.Nt ((s.2[n]?).map _)=_;rw[Ad ∅,Ae,Ad ∅];rfl
  simp only[ex,nn];refine Oe G p4 ht hn hi hR λv hv=>?_;have f1:xh (s.2.map PV.cl) v=.ret v:=sK (Iq hv _);have f2:zf s.2 v=.ret v:=sK λl _=>Iq hv l;simp only[f1,f2,nn];rw[f9 ∅];exact hR.put hv
 .obtain⟨h1,h2,h3⟩:=hs;have er:d5 (s.2.map PV.cl) (-1)=some (.cl (s.2.getD (t.size-1) [])):=by
   unfold d5 nQ;rw[Ai,h1,if_neg ∅,if_pos ∅];show(s.2.map PV.cl)[(-1+(t.size:Int)).toNat]?=_;rw[show(-1+(t.size:Int)).toNat=t.size-1 by lia,Ah,Ad ∅,Ae,Ad ∅];rfl
  have hr:=h2 (t.size-1) ∅;simp only[bq,mo,Kx,cy,er,KB,nn];rw[Uv (s.2.getD (t.size-1) []),hr];refine fx (N:=λx p=>rv g ps ask t (t.size-1) x p.1=some p.2) lE.nil (λx hx d M hM Q q=>?_) λd hd=>?_
  .have hx:=AQ.mp hx;obtain⟨al,e,A⟩:=h3 (t.size-1) x ∅ hx;rw[e];simp only[mo,ga];refine lS A ?_;have em:((al.map pM).map λkv=>kP kv.1)=al.map λp=>PV.int (p.1:Int):=by rw[AL];rfl
   rw[em];refine fx (N:=λp r=>r=p) hM (λp hp d M hM Q q=>?_) λd hd=>?_
   .simp only[Mx,mo,ga];refine lX (k:=.inl (p.1:Int)) (yG A hp) ?_;exact sM hM (A.lt p hp) q
   .refine q d (hd.imp λr=>or_congr_right ?_)
    constructor
    .rintro⟨p,h,rfl⟩;exact A.at h
    .intro h;exact⟨r,A.of h,rfl⟩
  .have hE:vc (qB d) λk=>(dC g ps ask t).getD k ci:=by
    refine hd.ent (λk v hv=>?_) λk u hk=>?_
    .obtain⟨i,hi,h⟩:=GZ hv;exact⟨v,.inr ⟨i,AQ.mpr hi,h⟩,BC _⟩
    .rcases hk with hk|⟨i,hi,h⟩
     .exact hk.elim
     .exact G0 (AQ.mp hi) h
   obtain⟨al,e,A⟩:=hE;have yW:al≠[]:=λz=>by
    obtain⟨k,v,hk⟩:=JB (ps:=ps) (ask:=ask) G hw;have:=A.of hk;rw[z]at this;cases this
   obtain⟨L,fP,hL⟩:=RI t;have lp:=t.eZ;have lr:=wH (g:=g) (ps:=ps) (ask:=ask) (t:=t);have e1:((t.ak.length-1:Nat):Int)+1=(t.ak.length:Nat):=by lia
   rw[e];simp only[fP,ug,hL,nn,mo,cE,ga,e1,eI,sK (bS (i:=0) (j:=(t.ak.length:Int)) ∅ ∅),Bk];rw[i6];refine hX (c:=λk:Nat=>PV.int (k:Int)) (λk=>oP ((dC g ps ask t).getD k ci)) (λk hk Q q=>?_) ?_
   .have ad7:al.map pM≠[]:=λz=>yW (Dk.mp z);simp only[aa6,mo,W.sg];refine⟨⟨_,rfl,ad7⟩,_,vd.k _ (.inl (k:Int)) ad7,?_⟩;rw[sI,A.lk];cases h:(dC g ps ask t).getD k ci with
    |none=>rw[h]at q;exact q
    |some v=>rw[h]at q;exact q
   .have em:((AB t.ak.length).map λk=>oP ((dC g ps ask t).getD k ci))=(dC g ps ask t).map oP:=by
     refine List.ext_getElem (by simp[lr]) λn h1 h2=>?_;rw[Ai]at h2;rw[Ff,Ff,List.getElem_range,Ae,Ad h2];rfl
    rw[em];exact q
end
section
variable{Qy:O Int}{ask:Str}
theorem xu(h:∀d,vL d->d≠ask->yc ps d=yc Qy d)(h3:ps.getD 3 0=Qy.getD 3 0)(R:Nat->Nat->O OI)(e:Ent)(n:Nat):∀k,qE g ps ask R e n k=qE g Qy ask R e n k
 |0=>rfl
 |k+1=>by
  have h1:SI g ps ask R e k=SI g Qy ask R e k:=by
   cases e with
   |word w=>rfl
   |pair a b=>
    refine Ba λd hd=>?_;unfold Ov;by_cases c:d.1=ask
    .rw[if_pos c,if_pos c]
    .rw[if_neg c,if_neg c,h d.1 (SK hd) c]
  have h2:d4 g ps k=d4 g Qy k:=by unfold d4;rw[h3]
  rw[qE,qE,xu h h3 R e n k,h1,h2]
theorem wG(h:∀d,vL d->d≠ask->yc ps d=yc Qy d)(h3:ps.getD 3 0=Qy.getD 3 0):∀j,iP g ps ask t j=iP g Qy ask t j
 |0=>rfl
 |j+1=>by rw[iP,iP,wG h h3 j,xu h h3]
def GY(h:∀d,vL d->d≠ask->yc ps d=yc Qy d)(h3:ps.getD 3 0=Qy.getD 3 0):dC g ps ask t=dC g Qy ask t:=by unfold dC;rw[wG h h3]
end
theorem P9{cs:O OI}(hb:∀m a,cv cs m=some a->0<=a/\a<10 ^ 60)(h1:1<=cs.length)(hl:cs.length<=900):xW (.tup (cs.map oP)):=by
 have t1:∀x∈cs.map oP,Tx x 0 1921:=λx hx=>by
  obtain⟨c,hc,rfl⟩:=Aq.mp hx;cases c with
  |none=>exact YB
  |some a=>
   obtain⟨m,hm⟩:=C0.mp hc;have:cv cs m=some a:=by unfold cv;rw[Ae,hm];rfl
   exact YC (ZN (hb m a this).1 (hb m a this).2)
 have t2:=YA t1 (λz=>by have:=congrArg B5 z;simp at this;subst this;simp at h1);refine t2.ok ⋯ ?_;rw[Ai];lia
def WA{ask:Str}(h:vL ask):aan [.str "split",.str "doubled",.str "over"] (.str ask)=.ret (.int (Om ask:Nat)):=by
 rcases h with rfl|rfl|rfl
 .exact sK ⟨aak _,by decide⟩
 .exact sK ⟨aak _,by decide⟩
 .exact sK ⟨aak _,by decide⟩
def Pk{ask:Str}(p4:ps.length=4)(h:vL ask):mT (([.inr "split",.inr "doubled",.inr "over",.inr "lost"]:O Key).zip (bz ps)) (.inr ask) .aB=wy ps ask:=by
 match ps,p4 with
 |[a,b,c,d],_=>rcases h with rfl|rfl|rfl<;>rfl
def Q5(s:Str):of2 Hj (.str s) (.str s)=.ret (.bl false):=by
 rw[Se,sK ⟨by simp,by simp,by simp⟩,Mp];simp
theorem law55_ok(ns:O Int)(hl:ns.length<=63):(tW (.cl (ns.map PV.int))).run (·=.bl true):=by
 unfold tW;simp only[mo,ga];refine QB λsd=>?_;rw[W.sg];refine⟨⟨sd,rfl⟩,?_⟩;simp only[ga,nn,eI,sK (bS (i:=0) (j:=2) ∅ ∅)];refine R0 (n:=2) (λ_ _=>True) trivial ?_ ?_
 .rintro i s hi -;simp only[mo,ga];refine Jp ⋯ ⋯ λt s0 hnd h8 hw8 mn ad3=>?_;simp only[mo,ga,iC,nn];refine Jv h8 λg G ⟨ht,F⟩=>?_;refine G7 λps p4 hp=>?_;simp only[mo,ga,nn,aO];refine zi (λ_ _=>True) trivial (λi x s hx _=>?_) (λs _=>trivial);obtain⟨ask,rfl,aaH⟩:∃ask:Str,x=.str ask/\vL ask:=by
   have hm:=AJ hx;simp only[Ay,Cs,or_false]at hm;rcases hm with rfl|rfl|rfl
   .exact⟨_,rfl,.inl rfl⟩
   .exact⟨_,rfl,.inr (.inl rfl)⟩
   .exact⟨_,rfl,.inr (.inr rfl)⟩
  have hz:=s0.size_eq;have hdp:=s0.pj;have œ:(bz ps).length=4:=by unfold bz;rw[Ai];exact p4
  simp only[mo,ga];refine Ow (ks:=[.inr "split",.inr "doubled",.inr "over",.inr "lost"]) ⋯ œ.symm ⋯ ?_;refine T3 (λz=>?_) ?_
  .have:=congrArg B5 z;rw[FJ,œ]at this;simp at this
  .have ep:UK (([.inr "split",.inr "doubled",.inr "over",.inr "lost"]:O Key).zip (bz ps)) (.str ask) .aB=.ret (wy ps ask):=by
    show W.dm _ _=_;rw[sK (by rw[FJ,œ,aH];decide),Pk p4 aaH]
   rw[ep];simp only[nn,fY,ga];refine W.le.use (jG 12 s0 ∅ ∅) ?_;refine JW G p4 ad3 mn ?_;rw[cx ⋯ ⋯];refine bK λx hx0 ģ=>?_;have hd3:=SH ask;have es:n9 (bz ps) (.int (Om ask:Nat)) (.int x)=.ret (bz (ps.set (Om ask) x)):=by
    have h1:nQ (bz ps).length ((Om ask:Nat):Int)=some (Om ask):=by unfold nQ;rw[if_pos ∅,if_pos ∅];simp
    simp only[n9,h1];unfold bz;rw[Eu]
   simp only[WA aaH,es,nn,kD,aO];have Î:=wH (g:=g) (ps:=ps) (ask:=ask) (t:=s0);have lp:=s0.eZ;have hb:∀m a,cv (dC g ps ask s0) m=some a->0<=a/\a<10 ^ 60:=λm a h=>Qb G p4 hp ad3 h;have ok:=Uy (P9 hb ∅ ∅);refine zi (λ_ _=>True) trivial (λi y s hy _=>?_) (λs _=>trivial);have hy2:∃î:O Int,y=.tup (bz î)/\î.length=4/\dC g î ask s0=dC g ps ask s0:=by
    have hm:=AJ hy;simp only[Ay,Cs,or_false]at hm;rcases hm with rfl|rfl
    .exact⟨ps,rfl,p4,rfl⟩
    .refine⟨ps.set (Om ask) x,rfl,by rw[Bw];exact p4,GY (λd hd yW=>?_) ?_⟩
     .unfold yc;have:Om ask≠Om d:=by
       rcases aaH with rfl|rfl|rfl<;>rcases hd with rfl|rfl|rfl<;>first|exact absurd rfl yW|decide
      rw[Ae,Bq this,Ae]
     .rw[Ae,Bq ∅,Ae]
   obtain⟨î,rfl,p42,er⟩:=hy2;have hr:(oG (nR g) s0.pv (.tup (bz î)) (.str ask)).le (.ret (.tup ((dC g î ask s0).map oP))):=Qa G p42 ∅;rw[er]at hr;simp only[ga];refine W.le.use hr ?_;simp only[nn,ok,Q5,dw,mo,AD,if_false]
 .intro s _;rfl
def all_d{K:Ab}(X:K.In h)(G:h.Ns lc mg)(KI:DX K "parts_of" (top 1))(V7:DX K "nodes" (top 2))(Sv:DX K "halves" (top 3))(KP:DX K "ahead_of" (top 4))(KD:DX K "under_at" (top 9))(Iv:DX K "beside_at" (top 10))(Oi:DX K "is_home" (top 11))(Oh:DX K "name_of" (top 12))(KL:DX K "lines_up" (top 13))(zx:DX K "apart_from" (top 14))(Sw:DX K "ground" (top 15))(Iu:DX K "split_ins" (top 22))(KJ:DX K "over_ins" (top 23))(KN:DX K "deeds_at" (top 24))(Sn:DX K "summed" (top 27))(KO:DX K "cheapest" (top 28))(KH:DX K "price_of" (top 29))(Ir:DX K "step_cost" (top 30))(Sr:DX K "raised" (top 32))(Sx:DX K "folded" (top 33))(Su:DX K "lowest" (top 34))(zw:DX K "done_costs" (top 35))(rS:DX K "costs_of_node" (top 36))(V5:DX K "rests" (top 37))(vS:DX K "split_dates" (top 39))(KG:DX K "standing" (top 40))(Og:DX K "stay_of" (top 41))(Wa:DX K "dated" (top 42))(KQ:DX K "_law_pot" (top 44))(Iw:DX K "_law_take" (top 45))(Ol:DX K "_law_of" (top 46))(vW:DX K "_law_joined" (top 47))(zy:DX K "_law_trees" (top 48))(zB:DX K "_law_nodes" (top 49))(zD:DX K "_law_dates" (top 50))(vV:DX K "_law_prices" (top 51))(vU:DX K "_law_starts" (top 52))(vX:DX K "_law_better" (top 53))(zC:DX K "_law_entry" (top 54))(zA:DX K "_law_rests" (top 55))(pC:AU K lc "UNDER"=some (some (.int 2 Lz)))(lq:AU K lc "BESIDE"=some (some (.int 3 GK)))(uW:AU K lc "NAME"=some (some (.int 0 Pq)))(pE:AU K lc "FOUND"=some (some (.str "found" LB)))(pD:AU K lc "SPLIT"=some (some (.str "split" LA)))(uV:AU K lc "OVER"=some (some (.str "over" Pp)))(jn:AU K lc "DOUBLED"=some (some (.str "doubled" wz)))(l9:AU K lc "DEEDS"=some (some (.ref sN)))(sG:S9 K sN ["split","doubled","over"])(uX:AU K lc "LOST"=some (some (.int 3 Pr)))(xH:AU K lc "isinstance"=some ci)(ab9:AU K lc "str"=some ci)(Yp:AU K lc "list"=some ci)(Je:AU K lc "reversed"=some ci)(acb:AU K lc "len"=some ci)(TK:AU K lc "tuple"=some ci)(GC:AU K lc "enumerate"=some ci)(TL:AU K lc "range"=some ci)(Pa:AU K lc "sorted"=some ci)(ab8:AU K lc "sum"=some ci)(aca:AU K lc "min"=some ci)(ab7:AU K lc "zip"=some ci)(Yq:AU K lc "dict"=some ci)(acd:AU K lc "int"=some ci)(Yo:AU K lc "repr"=some ci):afl K mg Ya:=by
 constructor
 rintro v rfl rfl D;have q:∀b,NB (v.at b):=λb=>⟨A4 X G xH,A4 X G ab9,A4 X G Yp,A4 X G Je,A4 X G acb,A4 X G TK,A4 X G GC,A4 X G TL,A4 X G Pa,A4 X G ab8,A4 X G aca,A4 X G ab7,A4 X G Yq,A4 X G acd,A4 X G Yo⟩;replace pC:=BX X G pC;replace lq:=BX X G lq;replace uW:=BX X G uW;replace pE:=BX X G pE;replace pD:=BX X G pD;replace uV:=BX X G uV;replace jn:=BX X G jn;replace l9:=BX X G l9;replace uX:=BX X G uX;have p:=q v.base;refine KI.go (d:=nF) X G (λD=>J7 D p) λLd=>?_;refine V7.go (d:=lY) X G (λD=>VA D p Ld) λsP=>?_;refine Sv.go (d:=jh) X G (λD=>Rx D p) λpI=>?_;refine KP.go (d:=jO) X G (λD=>Kc D p sP pI) λu7=>?_;refine KD.go (d:=fh) X G (λD=>J4 D pC) λjW=>?_;refine Iv.go (d:=lh) X G (λD=>HF D lq) λIU=>?_;refine Oi.go (d:=qD) X G (λD=>NP D uW jW) λOO=>?_;refine Oh.go (d:=lZ) X G (λD=>NN D p) λxE=>?_;refine KL.go (d:=nH) X G (λD=>J9 D p u7) λLg=>?_;refine zx.go (d:=jN) X G (λD=>yL D p) λzV=>?_;refine Sw.go (d:=uQ) X G (λD=>Ry D p sP Lg xE pI zV) λTa=>?_;refine Iu.go (d:=lg) X G (λD=>HE D p jW) λIP=>?_;refine KJ.go (d:=nG) X G (λD=>J8 D IU) λLf=>?_;refine KN.go (d:=nI) X G (λD=>Ka D p pE pD uV jn OO IP Lf) λLh=>?_;refine Sn.go (d:=pw) X G (λD=>Rr D p) λIL=>?_;refine KO.go (d:=jM) X G (λD=>Kb D p) λu5=>?_;refine KH.go (d:=nC) X G (λD=>J6 D l9 sG) λLc=>?_;refine Ir.go (d:=k8) X G (λD=>HD D p uX jW) λIM=>?_;refine Sr.go (d:=pz) X G (λD=>Rt D IL) λIQ=>?_;refine Sx.go (d:=uR) X G (λD=>Rz D p u5 IL) λTb=>?_;refine Su.go (d:=pA) X G (λD=>Rv D p u5) λIT=>?_;refine zw.go (d:=jL) X G (λD=>yJ D p pI Tb IQ Lc) λzU=>?_;refine rS.go (d:=f6) X G (λD=>rM D p IM Lh zU jW IQ IT) λrX=>?_;refine V5.go (d:=zH) X G (λD=>Vz D p sP rX IT) λWE=>?_;refine vS.go (d:=iE) X G (λD=>vG D p) λwd=>?_;refine KG.go (d:=nB) X G (λD=>J5 D p u7) λLb=>?_;refine Og.go (d:=qC) X G (λD=>NM D p pI xE) λOM=>?_;refine Wa.go (d:=zI) X G (λD=>VB D p sP wd Lb OM) λWH=>?_;refine KQ.go (d:=nJ) X G (λD=>Ke D p) λLi=>?_;refine Iw.go (d:=cA) X G (λD=>HG D) λdZ=>?_;refine Ol.go (d:=jk) X G (λD=>NQ D p dZ) λqG=>?_;refine vW.go (d:=iI) X G (λD=>vJ D p dZ) λwo=>?_;refine zy.go (d:=jP) X G (λD=>yM D p dZ wo qG) λzW=>?_;refine zB.go (d:=gD) X G (λD=>oV D p 12) λpJ=>?_;refine zD.go (d:=jS) X G (λD=>yP D p pJ dZ qG) λzZ=>?_;refine vV.go (d:=iH) X G (λD=>vI D p dZ qG) λwj=>?_;refine vU.go (d:=iG) X G (λD=>vH D p) λwg=>?_;refine vX.go (d:=cM) X G (λD=>vK D) λmQ=>?_;refine zC.go (d:=jR) X G (λD=>yO D p mQ wg) λzY=>?_;refine zA.go (d:=jQ) X G (λD=>yN D p zY mQ) λzX=>?_;exact adO D p Li zW dZ Ta WH zZ wj zX pJ WE
end
end My
end
open PySem PySem.W PyProof.Rows
structure PySem.W.Fast:Prop where(tw7815375099360355450 tw2766703459389233759 tw15094066835266059723 tw1327898166000286134 tw17780687914701815535 tw17508076226815850576 tw18422312846476646965 tw12429323286638475363 tw10897540344473980524 tw9810291396347704675 tw13111223292281438950 tw8138726549656678689 tw11584160247557194767 tw17898068911750801143 tw4007157843521125174 tw8527026247054564496 tw13795584430817176932 tw2704048160075105969 tw14621947976895357669 tw14841364189877013956 tw5737452772464605603 tw6522408693881357685 tw3588310745997925826 tw14127391506290397948 tw7264206602970261535 tw16592536921688779904 tw17580214390390494992 tw15768004546358200254 tw17126721239874573964 tw17573718192936207872 tw16506846517566617048 tw17367070460322451235 tw4327994229306247200 tw992827700746787044 tw18333506997665551614 tw16919421542761341257 tw12245548511795015843 tw752027180362481809 tw6030029055426073286 tw15487372904021749335 tw11948035848940143407 tw5229294996451710253 tw8567263567880475817 tw6984143614501442476 tw3731978731844405856 tw12376969017889954586 tw3539412666730290535 tw3837770472134735320 tw12370547251158694232 tw2785545432663650056 tw11831249027444997651 tw9220978800515375421 tw18081264221856113397 tw16608721162044953602 tw3981441288725092271 tw17086346973617568039 tw16796325745138656839 tw13266593380321006918 tw1519184991337602454 tw6587870588295742037 tw2295234761370755938 tw17729156857930628079 tw595977588009740830 tw1564850903296904317 tw13029797424566871820 tw9667567789536521480 tw18383450127222117537 tw8000053745961282103 tw6056581871426118819 tw6894906251698073485 tw1340094474624878513 tw9759562031448642090 tw17263799945062035616 tw2399304274798079844 tw10433691166325596327 tw16009255595758497096 tw14622054891765741151 tw13007747573179262228 tw16041379065543217399 tw5827871311062413906 tw8289025172669995899 tw13668447701313266619 tw18357369583904307177 tw3335967435362012306 tw9278374190869062141 tw14028082422960720456 tw6059501507860768724 tw14667686759787984118 tw6803907070909361159 tw14807455248370229978 tw1766266671043925142 tw3685419090122604534 tw2863009925663183944 tw15479554782579191732 tw3593297727897483023 tw2711776923797509630 tw17886197938858310464 tw14434558743204556738 tw4570387427639886771 tw18215909325309168635 tw17566522249802555983 tw14932876247017244988 tw4678725576910256157 tw17759991331364341586 tw6290060343452850553 tw15179313509519190630 tw11990494928293393923 tw3800955548018820228 tw14656091546195876310 tw7053623415461715727 tw415444975903692516 tw13615194140422977040 tw10162321789481142381 tw14275502467060968932 tw1037127886641849885 tw4184334610029201672 tw14464298901443516137 tw13669312304816658025 tw4953183135591639901 tw409688247175297753 tw4557942942090307188 tw11226025366477647505 tw13407391176118964012 tw4212668739063471627 tw4588575410757345100 tw16713916491577152960 tw7281764173379564358 tw15194041503967510232 tw18035898519878614438 tw16038774457358796329 tw13860146648768122958 tw4379368132609791883 tw5808570526135874180 tw12929242336551315147 tw12035590328248229435 tw14437656269396648142 tw4474243529295195210 tw7425946625403635338 tw4335727024762926436 tw18389437871977976771 tw4978799374070605154 tw17004681543065376047 tw7298068804072439777 tw16794502989578483715 tw15466888643685519957 tw6980252133827057341 tw697136996789123157 tw9387957678143108079 tw10329055395212519624 tw10023555441582858511 tw12360075893014756375 tw12103079265348310877 tw4498975786202463587 tw3700731177470322742 tw2203828217521681607 tw10820745043470215666 tw13944908682216776878 tw5339759212393550610 tw3623306254636307599 tw2855469277403293240 tw1422820376196356547 tw16924024450184572713 tw2075940882088956046 tw1198242660909276150 tw16710213056697178746 tw13185100434222847920 tw5610598753131737122 tw6104248936225460782 tw10083871240273073644 tw11175947544561469892 tw15981615531400373866 tw12706942549274932615 tw15991794457396281049 tw13130082131031526063 tw12235392966813715951 tw5103899975135903887 tw1449240546252221132 tw10037369306638886681 tw664870159965022876 tw9156484705447596981 tw13609049545037662634 tw16564552402891860694 tw4890565417310484307 tw6401040141350067249 tw3207885311536767673 tw25423094364700098 tw14618532928126549655 tw14099924791312836602 tw11800045063140063689 tw14247823775323373335 tw10188064671790108402 tw6308385109466390318 tw11459082548185829521 tw3447696128047434025 tw3204634093210205988 tw17159315324613108426 tw10338134976239959839 tw17730920549755553382 tw3702511790143169966 tw5808112496784345029 tw11333452551606753700 tw15707488734384690201 tw8261244618036197534 tw4600354144042615397 tw5840021116721039117 tw3506487599292587484 tw16129833214433397417 tw3362727383043887119 tw14846881544465357492 tw11375076403508522298 tw14347939245875625071 tw15168232491552918892 tw17973839286855759047 tw17433647245058112501 tw13530593166538291181 tw16860460177292564890 tw6073705376422664121 tw14024650023225618659 tw10815275307235001910 tw11469296546584028355 tw1579752100729592061 tw18373030883801745718 tw11921190596452238988 tw3177912535332090747 tw18002367560181476834 tw16739204182749690954 tw13281154287055660599 tw7167563439468950270 tw8248059688298371730 tw15172450319142306700 tw11849137514825977550 tw16619696694102912361 tw6259086693414784326 tw7673616696644153105 tw15321697535875448854:True)
def PySem.W.Fast.tw17087527814799284276:=PySem.Challenge.pw_treewithin_k55_rests_told
theorem PySem.W.Fast.te17087527814799284276:PySem.Challenge.pw_treewithin_k55_rests_told=PySem.W.Fast.tw17087527814799284276:=rfl
set_option maxRecDepth 100000 in
set_option maxHeartbeats 0 in
theorem PySem.Challenge.cw_treewithin_k55_rests_told_holds : PySem.Challenge.rw_treewithin_k55_rests_told.Holds := by
 w_on;o_law;k_head;(case hw=>w_witness2)
 k_fill
 refine FL.walkT (l:=PySem.Challenge.rw_treewithin_k55_rests_told) (k:=14) rfl rfl ⟨rfl,by decide,by decide,rfl⟩ (fun w h Y=>⟨PySem.W.kIn_of Y,fun P hP=>(List.not_mem_nil hP).elim⟩) ?K ?C ?F
 case K=>
  intro w P hP;exact(List.not_mem_nil hP).elim
 case C=>
  intro w h hK P hP;exact(List.not_mem_nil hP).elim
 case F=>
  intro w mg fa h KX G hmg;refine' FL.mkAll (st:=My.top 56) (k:=14) My.law55_ok KX G hmg ?e (fun _ _ _ _ _ _=>FL.usN fun _=>rfl) (My.all_d KX G  ..)
  all_goals try first|(refine' FL.dx ?a ?l ?c ?k;(case a=>k_is);(case l=>k_is);(case c=>k_is);(case k=>k_is))|(refine' FL.tup3K ?a;(case a=>k_is))|(refine' FL.cdx2 ?a ?m2 ?l ?c ?k ?m1 ?m3 ?m4 ?c1 ?c2 ?c3 ?c4 ?na;(case a=>k_is);(case m2=>k_is);(case l=>k_is);(case c=>k_is);(case k=>k_is);(case m1=>k_is);(case m3=>k_is);(case m4=>k_is);(case c1=>k_is);(case c2=>k_is);(case c3=>k_is);(case c4=>k_is);(case na=>(intro n hn;simp only[List.mem_cons,List.not_mem_nil,or_false]at hn;rcases hn with rfl;all_goals k_is)))|k_is
#print axioms PySem.Challenge.cw_treewithin_k55_rests_told_holds
