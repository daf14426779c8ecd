import PyProof.Rows.All
import Wide.All
import OpenK.AllK
import Wide.FinOn
import Lean
import PyProof.EqAt
import PyProof.EqKinds
import PyProof.TupleCall
import PyProof.NeKinds
import PyProof.FactsAll.tuple_2
import PyProof.FactsAll.str_0
import PyProof.FactsAll.str_1
import PyProof.FactsAll.str_2
import PyProof.FactsAll.str_3
import PyProof.Rows.MinMaxN
import PyProof.Rows.SumAny
import PyProof.Rows.SetFrom
import PyProof.ReprRoads
import PyProof.Rows.StrKeys3
import PyProof.CallFns
import KE.KSortTup
import KE.KDictSum
import PyProof.Rows.CallKwBuiltin
import KE.KMinBuiltin
import KE.IntBitsLaws
import KE.KDictList
import PySem.Challenge.RW_treewithin_k56_rests_by_all_ways
open PySem renaming wpAny_bind -> Aa, wpAny_pure -> Ag, wpAny_setField_rec -> AW, wpAny_callSpecial?_slot -> AY, wpAny_field -> A2, Value -> A8, wpAny_call_entry -> Be, wpAny_newObj_type -> Bf, wpAny_holding -> Bh, Addr -> Bq, wpAny_of_eq -> Bx, Expr -> BC, wpAny_seqItems -> BI, wpAny_Call_Name_kw -> BJ, mem_of_lookup -> BN, wpAny_mono -> BO, wpAny_typeNameOfWhole_keyiter -> Cc, Str -> Cf, Pos -> Cn, wpAny_passesOwn -> Cu, wpAny_pyIter_enum -> CB, wpAny_letGo -> CC, wpAny_typeNameOf_keyiter -> CG, wpAny_attempt -> CH, wpAny_newTuple -> CM, wpAny_rule -> CV, wpAny_updateSeq -> CY, wpAny_letOwnedTupleGo_enum -> C6, Shared -> C9, wpAny_typeOf -> Dc, wpAny_isInstance -> De, wpAny_pyIter_tuple -> Dx, wpAny_truthy_bool -> DG, wpAny_pyIter_list -> DH, wpAny_eqBool_str -> DU, wpAny_standAt -> DV, wpAny_updateSeq_pair -> D1, wpAny_execs_nil -> D6, wpAny_tryCatch -> Et, wpAny_setField -> Eu, wpAny_dictEntries -> EH, wpAny_onRaise -> EM, wpAny_getItem_list_slice -> EN, wpAny_comprehension_free -> EO, Heap -> E4, wpAny_specialOf -> Fm, wpAny_loadPart' -> Fo, wpAny_dictEpoch -> Fp, Obj -> FO
open PySem.W renaming Frag -> Ab, nsIn -> AU, mg_none_of -> A3, kia_one -> Bj, kitOne -> BG, mg_of -> BW, fnOf -> Ca, KasT -> Ee, keepIn -> Ek, codeIn -> El, methodObj -> EB, kitx_list -> EC, kitx_dict -> ED, cellsFrom_some -> E2, instObj -> Fg, tabObj -> FA, lookIn -> FC, findIn -> FE, kitx_tuple -> FW, plainGet -> Ga, kas_sort -> Gb
open List renaming getElem?_eq_getElem -> Ad, getD_eq_getElem?_getD -> Ae, length_map -> Af, getElem?_map -> Ah, getElem?_eq_some_iff -> Aj, length_append -> Ak, size_toArray -> Am, mem_map -> Ao, replicate -> Ap, getElem?_eq_none -> Ar, length_cons -> Au, map_cons -> Av, range -> Aw, map_append -> Az, append_assoc -> AA, mem_cons -> AB, getElem?_range -> AJ, filterMap_cons -> AL, mem_singleton -> AM, mem_range -> AN, mem_append -> AO, map_map -> AQ, mem_flatMap -> AZ, lookup_cons -> A0, mem_append_right -> A1, mem_cons_of_mem -> A4, getElem?_append_left -> A6, mem_append_left -> Ba, map_congr_left -> Bc, mem_of_getElem? -> Bd, getElem?_append_right -> Bg, mem_filter -> Bl, length_range -> Bm, flatMap_cons -> Bo, perm_append_comm -> BD, ext_getElem? -> BF, mem_cons_self -> BK, length_set -> BL, take_of_length_le -> BM, eq_nil_of_length_eq_zero -> BQ, pairwise_iff_getElem -> B1, drop_eq_getElem_cons -> B2, length_replicate -> B4, length_filter_le -> B5, filter_cons -> B9, getElem?_set_ne -> Ce, idxOf_lt_length_of_mem -> Cj, length -> Ck, any_cons -> Cm, length_take -> Co, getElem_mem -> Cp, filter_append -> Cs, range_succ -> Cw, forIn_cons -> Cy, map_nil -> CF, length_reverse -> CI, not_mem_nil -> CO, length_drop -> CP, getElem?_replicate -> CS, getElem?_set_self -> CW, append_nil -> C0, mem_iff_getElem? -> C2, append_inj_left' -> C3, nodup_append -> C4, all_eq_true -> Dg, getElem?_eq_none_iff -> Dh, replicate_succ -> Dj, mergeSort_perm -> Dk, length_pos_iff -> Dl, flatMap_append -> Dm, sum_cons -> Dr, foldl_cons -> Ds, eraseIdx_cons_succ -> DB, reverse_cons -> DK, replicate_append_replicate -> DL, eraseIdxIfInBounds_toArray -> DM, getElem?_reverse -> DQ, pairwise_append -> D2, length_eraseIdx -> D3, nodup_cons -> D7, nil_append -> D8, length_nil -> D9, find?_cons -> Ea, map_eq_nil_iff -> Ec, getElem_of_mem -> Ed, mem_filterMap -> Ex, filterMap_map -> Ey, take_sublist -> EI, getElem?_set -> EJ, flatten_cons -> EK, mem_of_mem_eraseIdx -> ER, pairwise_mergeSort -> EW, nodup_range -> EX, getElem_inj -> EY, drop_length -> EZ, range_succ_eq_map -> E7, pairwise_lt_range -> E8, map_set -> E9, filter_eq_nil_iff -> Fb, drop_of_length_le -> Fc, drop_eq_nil_of_le -> Fd, of_mem_zip -> Ft, take_append_drop -> Fx, length_singleton -> Fy, getElem?_toArray -> Fz, take_succ -> FH, nodup_nil -> FI, map -> FJ, reverse_append -> FQ, length_flatMap -> FR, getD_cons_succ -> FU, map_take -> FV
open PySem.Heap renaming get?_push_of_some -> Ai, get?_push_size -> An, lt_size -> Aq, size_push -> Bv, get?_update_other -> BX, get?_update_self -> B3, SameBut -> Ci, size_update -> ET, ExtBut -> FG, get?_update_ne -> FP
open Nat renaming le_refl -> Al, le_trans -> AD, pow_le_pow_right -> AE, lt_of_lt_of_le -> AG, ne_of_lt -> AH, lt_irrefl -> AI, zero_add -> A5, zero_le -> A9, add_assoc -> Bb, le_add_right -> Bk, lt_or_ge -> Bz, mul_le_mul_right -> Cd, le_of_ble_eq_true -> Ct, strongRecOn -> Cv, lt_succ_of_lt -> CD, add_sub_cancel_left -> CN, lt_succ_self -> Df, le_succ -> Dz, mul_le_mul -> DJ, succ_mul -> Eg, sub_zero -> Eh, pow_succ -> Ei, eq_or_lt_of_le -> Ew, mul_comm -> E5, le_of_lt -> E6, not_lt_zero -> Fq, min_eq_left -> Fs, sub_self -> F5, le_of_eq -> F6, add_comm -> F7, pow_add -> Gf
open PySem.PassesOwn renaming never -> Ax
open Bool renaming false_eq_true -> Ay, and_eq_true -> AR, false_ne_true -> AX, and_false -> C7, eq_iff_iff -> Du, false_and -> Ez, true_and -> ES, not_false -> FN
open PySem.Value renaming ref -> AV, none -> A7, str -> Br, int -> CJ, type -> C5, bool -> FX
open Int renaming toNat_natCast -> Bp, le_refl -> Bu, natCast_add -> B0, mul_le_mul_of_nonneg_left -> CT, mul_add -> DC, natCast_zero -> E1, zero_add -> Fe, natCast_one -> Fu, le_antisymm -> Fv, mul_one -> FK, mul_zero -> F8
open PyProof.Rows renaming callWith_type1 -> Bs, slot_tuple_getitem -> Bt
open PySem.NameKind renaming free -> Bw, cell -> C1
open PySem.F renaming slot_enumerate_next -> BA, slot_dict_keyiterator_next -> BU, plainAttrs_list -> BV, slot_tuple_iterator_next -> Cq, args_enumerate_next_1 -> CK, entry_enumerate_next -> CU, plain_min_loop -> C8, args_tuple_add_2 -> Dp, slot_list_getattribute -> Dq, called_enumerate -> Dw, entry_tuple_add -> Dy, slot_tuple_add -> DE, type_list_pop -> DN, slot_list_pop -> DP, args_dict_keyiterator_next_1 -> DT, entry_dict_keyiterator_next -> DW, args_list_extend_2 -> DY, slot_zip_next -> D4, args_tuple_iterator_next_1 -> D5, entry_list_extend -> Eb, entry_tuple_iterator_next -> Ef, slot_list_extend -> Er
open Ne renaming symm -> BE
open PySem.Obj renaming mapSeq -> BH, data_mapFields -> Dv, isFreed_of_fields -> Fw
open PySem.PyData renaming hasDict -> BR, shownAll -> BS, showableAll -> Eo, hasDictAll -> EE, showable -> Fh, depthAll -> Fi, depth -> F3
open False renaming elim -> BZ
open True renaming intro -> B6
open PySem.Calls renaming spliced_cons -> B7, spliced_nil -> CA, Name_function_global -> Es, callWith_builtin -> E3
open PySem.AutoSeq1 renaming wpAny_loadPart' -> B8, sub_list_tuple -> DZ
open PySem.Str renaming ofString -> Cb
open Or renaming inl -> Cg, inr -> Cr
open ForInStep renaming yield -> Cz
open Option renaming map_some -> CZ, isSome_some -> F0
open Array renaming getElem?_eq_getElem -> Di, length_toList -> Dn, getElem?_toList -> DR, perm_iff_toList_perm -> EA, getElem?_eq_none -> Ff
open PySem.SeqAt renaming EqAt -> DS
open And renaming right -> Ej
open PySem.SeqAt.RcNeAt renaming lists_lengths -> Em, lists -> FY
open PySem.SeqAt.EqAt renaming int_int -> En, of_refs -> FZ, same -> Gg
open PySem.Fin renaming done -> Ep
open PySem.EqBoolInt renaming of_rcne -> EG, of_rc -> Fj
open PySem.SeqAt.RcAt renaming lists_lengths -> EL, tuples -> F2, lists -> Gd
open PySem.Flow renaming ret -> EU
open Sum renaming inr -> F1, inl -> Gh
open PySem.Data renaming seq -> F4
open Except renaming error -> F9
open PyProof.Rows.IsTup renaming new -> Ge
set_option compiler.extract_closed false
set_option Elab.async false
set_option linter.all false
set_option bootstrap.genMatcherCode false
set_option maxRecDepth 100000
set_option maxHeartbeats 1000000
open Option renaming some→am,none→ce
open PyProof.Rows renaming IntsAre→wS,seqObj→xz,boot_str→Ch,envOfC→Gc,AllBare→Rs
open PySem renaming Value→ci,Shared→cr,Addr→db,wpAny→ga,model→gl,starEach→gt,mainGlobals→im,Expr→mo,Scope→nw,eval→o0,Heap→pc,bootBuiltins→pr,swapsWith→r9,compareOp→sn,attributeBase→ss,tupleKind→sw,behindInMarks→sB,cellsFrom→sK,cLine→tz,binaryOp→t0,backTo→ul,Stmt→ut,sliceBounds→u8,Builtin→v4,PassesOwn→wn,NameKind→wv,call_meets→ww,Program→wE,IntMulOk→wP,sysModules→wT,rawInt→xL,keywordEach→zn,plainId_quiet→BT,World→Db,Around→EQ,assignEach→Fa,codeAny_builtin→Fk,IsEnum→FB,slicePick→FM,typeLookup→FS,builtinsNs→GE,backToKw→GM,IsPair→GT,sizeLine_eq→IR,holding→KB,codeAny→KF,swapsWithSole→KM,swappedStores→Op,assign→Os,intItems→Pi,relabel→Pv,pyNext→PP,getItem→P3,codeAny_mono→Re,letOwnedTupleGo→Sc
set_option genSizeOf false
local macro_rules | `(command|def $i:declId $s:optDeclSig $v:declVal)=>`(command|noncomputable def $i:declId $s:optDeclSig $v:declVal)
local macro_rules | `(command|abbrev $i:declId $s:optDeclSig $v:declVal)=>`(command|noncomputable abbrev $i:declId $s:optDeclSig $v:declVal)
theorem rTq9(h:0=0:=by rfl):0=0:=h
local macro_rules | `(‹$p›)=>`(autoParam $p rTq9._auto_1)
local macro_rules | `(‹_›)=>`(by assumption)
theorem dTq9(h:0=0:=by decide):0=0:=h
local macro_rules | `(~~~$p)=>`(autoParam $p dTq9._auto_1)
local macro_rules | `(∅)=>`(by lia)
local macro_rules | `(⋯)=>`(by decide)
open PySem PySem.Spec PyProof.Rows
abbrev O.{u}(α:Type u):=List α
namespace L2
end L2
namespace My
end My
namespace PL
end PL
namespace FL
end FL
open L2 My PL FL
namespace L2
abbrev Key:=Sum Int Str
def xn:Key->ci->Bool
 |.inl k,v=>Value.isInt k v
 |.inr x,v=>Value.isStrOf x v
def ahZ(w:Db):Key->Int
 |.inl k=>hashInt k
 |.inr x=>hashStr w x
def ck:∀{k:Key}{v:ci},xn k v=true->(∃i t,k=Gh i/\v=CJ i t)\/(∃x t,k=F1 x/\v=Br x t)
 |.inl i,v,h=>by
  obtain⟨t,e⟩:=Value.isInt_shape h;exact .inl ⟨i,t,rfl,e⟩
 |.inr x,v,h=>by
  obtain⟨t,e⟩:=Value.isStrOf_shape (v:=v) h;exact .inr ⟨x,t,rfl,e⟩
def NY(i:Int)(t:Tok):xn (.inl i) (.int i t)=true:=by simp[xn,Value.isInt]
def NX(x:Str)(t:Tok):xn (.inr x) (.str x t)=true:=by simp[xn,Value.isStrOf]
def aai(a b:Int):decide ((Gh a:Key)=Gh b)=(a==b):=by
 by_cases e:a=b
 .subst e;simp
 .rw[decide_eq_false (λq=>e (Gh.inj q))];exact(beq_eq_false_iff_ne.mpr e).symm
def aaf(a b:Str):decide ((F1 a:Key)=F1 b)=decide (a=b):=by
 by_cases e:a=b
 .simp
 .rw[decide_eq_false (λq=>e (F1.inj q)),decide_eq_false e]
def aah(a:Int)(b:Str):decide ((Gh a:Key)=F1 b)=false:=decide_eq_false (λq=>nomatch q)
def aag(a:Str)(b:Int):decide ((F1 a:Key)=Gh b)=false:=decide_eq_false (λq=>nomatch q)
def bQ(prog:wE)(w:Db):PySem.KeyKind prog w Key where
 is:=xn
 hash:=ahZ w
 inj:=λv a b ha hb=>by
  rcases ck ha with⟨i,t,rfl,rfl⟩|⟨x,t,rfl,rfl⟩
  .rcases ck hb with⟨j,u,rfl,e⟩|⟨y,u,rfl,e⟩
   .injection e with e1 _;rw[e1]
   .exact nomatch e
  .rcases ck hb with⟨j,u,rfl,e⟩|⟨y,u,rfl,e⟩
   .exact nomatch e
   .injection e with e1 _;rw[e1]
 byValue:=λk v h=>by
  rcases ck h with⟨i,t,rfl,rfl⟩|⟨x,t,rfl,rfl⟩<;>rfl
 pyHash:=λhv h=>by
  rcases ck hv with⟨i,t,rfl,rfl⟩|⟨x,t,rfl,rfl⟩
  .exact wpAny_pyHash_int h
  .exact wpAny_pyHash_str h
 eqBool:=λhu hv h=>by
  rcases ck hu with⟨i,t,rfl,rfl⟩|⟨x,t,rfl,rfl⟩
  .rcases ck hv with⟨j,u,rfl,rfl⟩|⟨y,u,rfl,rfl⟩
   .rw[aai]at h;exact wpAny_eqBool_int h
   .rw[aah]at h;exact DS.int_str i t y u _ _ _ _ h
  .rcases ck hv with⟨j,u,rfl,rfl⟩|⟨y,u,rfl,rfl⟩
   .rw[aag]at h;exact DS.str_int x t j u _ _ _ _ h
   .rw[aaf]at h;exact DU h
 «strs»:=λk x t v h=>by
  rcases ck h with⟨i,u,rfl,e⟩|⟨y,u,rfl,e⟩
  .exact nomatch e
  .injection e with e1 _;subst e1;cases v<;>rfl
def Hv(prog:wE)(w:Db)(i:Int)(t:Tok):(bQ prog w).is (.inl i) (.int i t)=true:=NY i t
def Hu(prog:wE)(w:Db)(x:Str)(t:Tok):(bQ prog w).is (.inr x) (.str x t)=true:=NX x t
end L2
variable{us:O A8}{u:A8}{κ α β:Type}{a b e:Bq}{P:PySem.Program}{w:PySem.World}{h h':E4}{ob:FO}
namespace L2
inductive V where
 |aO|bl (b:Bool)|int (i:Int)|str (x:Str)|OU (b:Array UInt8)|flt (b:UInt64)|ref (a:db)|ty (n:String)
 deriving DecidableEq
def RelV:V->ci->Prop
 |.aO,u=>u=A7
 |.bl b,u=>u=FX b
 |.int i,u=>∃t,u=CJ i t
 |.str x,u=>∃t,u=Br x t
 |.OU b,u=>∃t,u=Value.bytes b t
 |.flt b,u=>∃t,u=Value.float b t
 |.ref a,u=>u=AV a
 |.ty n,u=>u=C5 n
abbrev Vals:O V->O ci->Prop:=Paired RelV
def Vals.length{xs:O V}(r:Vals xs us):xs.length=us.length:=Paired.length r
theorem Vals.get:∀{xs:O V}{us:O ci}{i:Nat}{x:V},Vals xs us->xs[i]?=am x->∃u,us[i]?=am u/\RelV x u
 |_,_,_,_,.nil,e=>by simp at e
 |_,_,0,_,.cons r _,e=>by simp at e;subst e;exact⟨_,rfl,r⟩
 |_,_,i+1,x,.cons _ t,e=>by
  obtain⟨u,h1,h2⟩:=Vals.get t (by simpa using e);exact⟨u,by simpa using h1,h2⟩
theorem Vals.set{x:V}(r:RelV x u):∀{xs:O V}{us:O ci} (i:Nat),Vals xs us->Vals (xs.set i x) (us.set i u)
 |_,_,_,.nil=>.nil
 |_,_,0,.cons _ t=>.cons r t
 |_,_,i+1,.cons q t=>.cons q (Vals.set r i t)
theorem Vals.append:∀{xs ys:O V}{us ws:O ci},Vals xs us->Vals ys ws->Vals (xs++ys) (us++ws)
 |_,_,_,_,.nil,s=>s
 |_,_,_,_,.cons r t,s=>.cons r (Vals.append t s)
theorem Vals.take:∀{xs:O V}{us:O ci} (n:Nat),Vals xs us->Vals (xs.take n) (us.take n)
 |_,_,0,_=>.nil
 |_,_,_+1,.nil=>.nil
 |_,_,n+1,.cons r t=>.cons r (Vals.take n t)
theorem Vals.drop:∀{xs:O V}{us:O ci} (n:Nat),Vals xs us->Vals (xs.drop n) (us.drop n)
 |_,_,0,r=>r
 |_,_,_+1,.nil=>.nil
 |_,_,n+1,.cons _ t=>Vals.drop n t
theorem Vals.none_of:∀{xs:O V}{us:O ci}{i:Nat},Vals xs us->xs[i]?=ce->us[i]?=ce:=λ{xs us i} r e=>by
 have h1:=r.length;have h2:=Dh.mp e;exact Dh.mpr ∅
def Gq:Option V->Option ci->Prop
 |some v,am u=>RelV v u
 |none,ce=>True
 |_,_=>False
def KV:O (κ×V)->O (κ×ci)->Prop:=Paired λ(p:κ×V) (q:κ×ci)=>p.1=q.1/\RelV p.2 q.2
def kV:Key->V
 |.inl i=>.int i
 |.inr x=>.str x
inductive HO where
 |lst (xs:List V)
 |tup (xs:List V)
 |dK (au:List (Key×V))|dT (au:List (List Key×V))
 |set (S:Int->Bool) (n:Nat)
 |ins (C dx:db) (fs:List (Str×V))
 |own (x:db)
 |xd (fs:List (Str×V))
 |met (f x:db)
 |rng (lo hi:Int)
 |cn (o:Obj) (u:HO)
 |GR (ps:Array ci)
 |ext (φ:pc->Prop)
abbrev Hp:=db->Option HO
def upd(H:Hp)(a:db)(o:HO):Hp:=λb=>if b=a then am o else H b
def aH{H:Hp}{o:HO}:upd H a o a=am o:=by unfold upd;rw[if_pos rfl]
def ak{H:Hp}{o:HO}(h:b≠a):upd H a o b=H b:=by unfold upd;rw[if_neg h]
def Mj{H:Hp}{o u:HO}(h:H a=am o)(h':H b=am u)(d:o≠u):a≠b:=by
 intro e;subst e;rw[h]at h';exact d (Option.some.inj h')
def bK{H:Hp}{o:HO}(h:H a=am o)(h':H b=ce):a≠b:=by
 intro e;subst e;rw[h]at h';cases h'
section
variable(P:wE)(w:Db)
def bC(H:Hp)(h:pc)(a:db):HO->Prop
 |.lst xs=>xs.length<=sizeLine/\∃(aq:O ci) (n:Nat),Vals xs aq/\h.get? a=am {cls:=.type "list",data:=.seq aq.toArray n}
 |.tup xs=>xs.length<=sizeLine/\∃aq:O ci,Vals xs aq/\IsTup h a aq.toArray/\∃o,h.get? a=am o/\o.dict=ce
 |.dK au=>au.length<=sizeLine/\(a==wT)=false/\∃vs,KV au vs/\h.DictOf (bQ P w) a vs
 |.dT au=>au.length<=sizeLine/\(a==wT)=false/\∃xs:O (O Key×db×ci),
   Paired (λ(p:O Key×V) (q:O Key×db×ci)=>p.1=q.1/\H q.2.1=am (.tup (p.1.map kV))/\RelV p.2 q.2.2) au xs/\
   ∃o es ep,h.get? a=am o/\o.ExactDict/\o.data=.dict es ep/\es.toList=xs.map (entryOfKey (sw (bQ P w)))/\(xs.map (·.1)).Nodup
 |.set S n=>h.SetOf (intKind P w) a S n
 |.ins C dx fs=>H dx=am (.own a)/\fs.length<=1000/\dx≠a/\h.get? a=am (Fg C dx)/\
   ∃mA,h.Ns1 dx mA/\(∀f,Gq (fs.lookup f) (mA f))/\PySem.Within mA (fs.map (·.1))
 |.own _=>∃o,h.get? a=am o
 |.xd fs=>∃mA,h.Ns1 a mA/\∀f,Gq (fs.lookup f) (mA f)
 |.rng lo hi=>∃t u v,h.get? a=am {cls:=.type "range",data:=.fields #[.int lo t,.int hi u,.int 1 v]}
 |.cn o u=>h.get? a=am o/\bC H h a u
 |.GR ps=>h.get? a=am {cls:=.none,data:=.fields ps}
 |.met f x=>h.get? a=am (EB (.ref f) (.ref x))
 |.ext φ=>φ h/\(∃o,h.get? a=am o)/\∀h1 h2:pc,φ h1->(∀o,h1.get? a=am o->h2.get? a=am o)->φ h2
def mH(H:Hp)(h:pc):Prop:=∀a o,H a=am o->bC P w H h a o
end
section
variable{H H':Hp}{o:HO}
def bC.lt(x:bC P w H h a o):a<h.objs.size:=by
 cases o with
 |lst xs=>obtain⟨_,_,_,_,e⟩:=x;exact Aq e
 |tup xs=>obtain⟨_,_,_,p,_⟩:=x;exact p.lt
 |dK au=>obtain⟨_,_,_,_,o,_,_,e,_⟩:=x;exact Aq e
 |dT au=>obtain⟨_,_,_,_,o,_,_,e,_⟩:=x;exact Aq e
 |set S n=>obtain⟨o,_,_,_,e,_⟩:=x;exact Aq e
 |ins C dx fs=>obtain⟨_,_,_,e,_⟩:=x;exact Aq e
 |own y=>obtain⟨_,e⟩:=x;exact Aq e
 |xd fs=>obtain⟨_,⟨_,_,_,e,_⟩,_⟩:=x;exact Aq e
 |rng lo hi=>obtain⟨_,_,_,e⟩:=x;exact Aq e
 |cn ob u=>obtain⟨e,_⟩:=x;exact Aq e
 |GR ps=>exact Aq (x)
 |met f y=>exact Aq (show h.get? a=am _ from x)
 |ext φ=>obtain⟨_,⟨_,e⟩,_⟩:=x;exact Aq e
theorem Paired.ZV{F G:α->β->Prop}:∀{l₁:List α}{l₂:List β},Paired F l₁ l₂->(∀a b,F a b->G a b)->Paired G l₁ l₂
 |_,_,.nil,_=>.nil
 |_,_,.cons r t,f=>.cons (f _ _ r) (Paired.ZV t f)
def bC.yb(x:bC P w H h a o)(k:∀b u,(b=a\/H b=am (.own a))->h.get? b=am u->h'.get? b=am u)(ho:∀b,H b=am (.own a)->H' b=am (.own a))(ht:∀b xs,H b=am (.tup xs)->H' b=am (.tup xs)):bC P w H' h' a o:=by
 induction o with
 |lst xs=>obtain⟨z,aq,n,r,e⟩:=x;exact⟨z,aq,n,r,k _ _ (.inl rfl) e⟩
 |tup xs=>obtain⟨z,aq,r,⟨ob,e,c⟩,od,e2,d⟩:=x;exact⟨z,aq,r,⟨ob,k _ _ (.inl rfl) e,c⟩,od,k _ _ (.inl rfl) e2,d⟩
 |dK au=>obtain⟨z,y,vs,r,ob,es,ep,e,c⟩:=x;exact⟨z,y,vs,r,ob,es,ep,k _ _ (.inl rfl) e,c⟩
 |dT au=>
  obtain⟨z,y,xs,r,ob,es,ep,e,c⟩:=x;exact⟨z,y,xs,Paired.ZV r λp q z=>⟨z.1,ht _ _ z.2.1,z.2.2⟩,ob,es,ep,k _ _ (.inl rfl) e,c⟩
 |set S n=>obtain⟨ob,es,ep,t,e,c⟩:=x;exact⟨ob,es,ep,t,k _ _ (.inl rfl) e,c⟩
 |ins C dx fs=>
  obtain⟨d,z,ne,e,mA,⟨od,es,ep,e2,c⟩,r⟩:=x;exact⟨ho _ d,z,ne,k _ _ (.inl rfl) e,mA,⟨od,es,ep,k _ _ (.inr d) e2,c⟩,r⟩
 |own y=>obtain⟨ob,e⟩:=x;exact⟨ob,k _ _ (.inl rfl) e⟩
 |xd fs=>obtain⟨mA,⟨od,es,ep,e,c⟩,r⟩:=x;exact⟨mA,⟨od,es,ep,k _ _ (.inl rfl) e,c⟩,r⟩
 |rng lo hi=>obtain⟨t,u,v,e⟩:=x;exact⟨t,u,v,k _ _ (.inl rfl) e⟩
 |cn ob u ih=>obtain⟨e,q⟩:=x;exact⟨k _ _ (.inl rfl) e,ih q⟩
 |GR ps=>
  have e:h.get? a=am {cls:=.none,data:=.fields ps}:=x;show h'.get? a=am {cls:=.none,data:=.fields ps};exact k a _ (.inl rfl) e
 |met f y=>
  have e:h.get? a=am (EB (.ref f) (.ref y)):=x;show h'.get? a=am (EB (.ref f) (.ref y));exact k a _ (.inl rfl) e
 |ext φ=>obtain⟨p,⟨o,e⟩,st⟩:=x;exact⟨st _ _ p λo q=>k _ _ (.inl rfl) q,⟨o,k _ _ (.inl rfl) e⟩,st⟩
def mH.lt(x:mH P w H h)(e:H a=am o):a<h.objs.size:=(x a o e).lt
def mH.fresh(x:mH P w H h)(e:h.objs.size<=a):H a=ce:=by
 cases q:H a with
 |none=>rfl
 |some u=>exact absurd (AG (x.lt q) e) (AI _)
def mH.kept(x:mH P w H h)(k:∀b u,h.get? b=am u->h'.get? b=am u):mH P w H h':=λa o e=>
 (x a o e).yb (λb u _ q=>k b u q) (λ_ q=>q) λ_ _ q=>q
def mH.laid(x:mH P w H h)(k:∀b u,h.get? b=am u->h'.get? b=am u)(hp:h.objs.size<=a)(new:bC P w (upd H a o) h' a o):mH P w (upd H a o) h':=λb u e=>by
 have hn:=x.fresh hp;by_cases hb:b=a
 .subst hb;rw[aH]at e;cases e;exact new
 .rw[ak hb]at e;exact(x b u e).yb (λc v _ q=>k c v q) (λc q=>by rw[ak (bK q hn)];exact q) λc xs q=>by rw[ak (bK q hn)];exact q
end
def Rd(H:Hp)(a:db)(u:HO):Prop:=H a=am u\/∃o,H a=am (.cn o u)
def Rd.ok{H:Hp}{u:HO}(r:Rd H a u)(x:mH P w H h):bC P w H h a u:=by
 rcases r with r|⟨o,r⟩
 .exact x a u r
 .obtain⟨_,q⟩:=x a _ r;exact q
def Mut:Option HO->Prop
 |some (.lst _)=>True
 |some (.dK _)=>True
 |some (.dT _)=>True
 |some (.set _ _)=>True
 |some (.ins _ _ _)=>True
 |some (.ext _)=>True
 |_=>False
section
variable{H:Hp}{x:db}{o':HO}
def mH.write(ok:mH P w H h)(mu:Mut (H x))(he:e=x\/H e=am (.own x))(k:∀b u,b≠e->h.get? b=am u->h'.get? b=am u)(ö:∃u,h'.get? e=am u)(new:bC P w (upd H x o') h' x o'):mH P w (upd H x o') h':=λb u q=>by
 have Vi:∀c y,H c=am (.own y)->c≠x:=λc y r z=>by subst z;rw[r]at mu;exact mu
 have ahH:∀c xs,H c=am (.tup xs)->c≠x:=λc xs r z=>by subst z;rw[r]at mu;exact mu
 by_cases hb:b=x
 .subst hb;rw[aH]at q;cases q;exact new
 .rw[ak hb]at q;by_cases hbe:b=e
  .have q':H b=am (.own x):=by
    rcases he with z|z
    .exact absurd (hbe.trans z) hb
    .rw[hbe];exact z
   rw[q]at q';cases q';obtain⟨v,hv⟩:=ö;exact⟨v,by rw[hbe];exact hv⟩
  .refine(ok b u q).yb (λc v hc r=>k c v ?_ r) (λc r=>by rw[ak (Vi c b r)];exact r) λc xs r=>by rw[ak (ahH c xs r)];exact r
   rcases hc with rfl|hc
   .exact hbe
   .rintro rfl;rcases he with z|z
    .exact Vi c b hc z
    .rw[hc]at z;cases z;exact hb rfl
end
structure Un(fs ex:List db)(H H':Hp)(h h':pc):Prop where
 keep:∀b o,h.get? b=am o->H b=ce->b∉fs->b∉ex->h'.get? b=am o
 slot:∀b o,h.get? b=am o->H b=ce->b∈fs->b∉ex->∃sl,h'.get? b=am {o with slots:=sl}
 free:∀b o,h.get? b=am o->H b=ce->b∉ex->H' b=ce
 there:∀b o,h.get? b=am o->b∉ex->∃o',h'.get? b=am o'
 di:∀b xs,H b=am (.tup xs)->H' b=am (.tup xs)
 uI:∀b o u,H b=am (.cn o u)->H' b=am (.cn o u)
 vD:∀b ps,H b=am (.GR ps)->∃more,H' b=am (.GR (ps++more))
section
variable{fs ex:O db}{H H1:Hp}{h1:pc}{x:db}{o:HO}
def Un.any(u:Un fs ex H H1 h h1)(q:h.get? b=am ob)(n:H b=ce)(hx:b∉ex):∃sl,h1.get? b=am {ob with slots:=sl}:=by
 by_cases hb:b∈fs
 .exact u.slot b ob q n hb hx
 .exact⟨ob.slots,u.keep b ob q n hb hx⟩
def Un.kept(k:∀b u,h.get? b=am u->h'.get? b=am u):Un fs ex H H h h':=
 ⟨λb ob q _ _ _=>k b ob q,λb ob q _ _ _=>⟨ob.slots,k b ob q⟩,λ_ _ _ n _=>n,λb ob q _=>⟨ob,k b ob q⟩,λ_ _ q=>q,λ_ _ _ q=>q,λ_ ps q=>⟨#[],by rw[q];simp⟩⟩
def Un.refl:Un fs ex H H h h:=Un.kept λ_ _ q=>q
def Un.laid(k:∀b u,h.get? b=am u->h'.get? b=am u)(hp:h.objs.size<=a)(hn:H a=ce):Un fs ex H (upd H a o) h h' where
 keep:=λb u q _ _ _=>k b u q
 slot:=λb u q _ _ _=>⟨u.slots,k b u q⟩
 free:=λb u q n _=>by rw[ak (AH (AG (Aq q) hp))];exact n
 there:=λb u q _=>⟨u,k b u q⟩
 di:=λb xs q=>by rw[ak (bK q hn)];exact q
 uI:=λb u xs q=>by rw[ak (bK q hn)];exact q
 vD:=λb ps q=>⟨#[],by rw[ak (bK q hn),q];simp⟩
def Un.write(mu:Mut (H x))(he:e=x\/H e=am (.own x))(k:∀b u,b≠e->h.get? b=am u->h'.get? b=am u)(ö:∃u,h'.get? e=am u):Un fs ex H (upd H x o) h h':=by
 have hx:∀b,H b=ce->b≠x:=λb n z=>by subst z;rw[n]at mu;exact mu
 have hb:∀b,H b=ce->b≠e:=λb n z=>by
  subst z;rcases he with r|r
  .exact hx b n r
  .rw[n]at r;cases r
 have hm:∀b u,H b=am u->¬Mut (am u)->b≠x:=λb u q nm z=>by subst z;rw[q]at mu;exact nm mu
 refine⟨λb u q n _ _=>k b u (hb b n) q,λb u q n _ _=>⟨u.slots,k b u (hb b n) q⟩,λb u q n _=>by rw[ak (hx b n)];exact n,λb u q _=>?_,
  λb xs q=>by rw[ak (hm b _ q λz=>z)];exact q,λb u xs q=>by rw[ak (hm b _ q λz=>z)];exact q,λb ps q=>⟨#[],by rw[ak (hm b _ q λz=>z),q];simp⟩⟩
 by_cases hbe:b=e
 .subst hbe;exact ö
 .exact⟨u,k b u hbe q⟩
end
def trk(h:pc)(H:Hp):O db:=(Aw h.objs.size).filter λa=>(H a).isSome
def zf(h:pc)(H:Hp):pc:=PySem.W.hideAll h (trk h H)
def Od(h:pc)(H:Hp):(zf h H).objs.size=h.objs.size:=PySem.W.hideAll_size _ _
def RV{H:Hp}{o:Obj}(e:h.get? b=am o)(n:H b=ce):(zf h H).get? b=am o:=
 PySem.W.hideAll_get _ e λhm=>by
  have q:=(Bl.mp hm).2;rw[n]at q;simp at q
def Vd{H:Hp}{o:Obj}(e:(zf h H).get? b=am o):h.get? b=am o/\H b=ce:=by
 have e':=PySem.W.of_hideAll (trk h H) e;refine⟨e',?_⟩;cases q:H b with
 |none=>rfl
 |some x=>
  have z:(zf h H).get? b=ce:=PySem.W.hideAll_none (trk h H) (Bl.mpr ⟨AN.mpr (Aq e'),by simp[q]⟩);rw[z]at e;cases e
def WO(g h:pc)(L:db):O (db×Obj):=(Aw h.objs.size).filterMap λa=>if a=L\/(g.get? a).isSome=true then ce else (h.get? a).map λo=>(a,o)
def rest(g h:pc)(L d:db):O (db×Obj):=(WO g h L).filter λp=>decide (p.1≠d)
end L2
variable{H H':L2.Hp}{o:FO}{U:O (Bq×FO)}{g':Array PySem.GenState}{ch:O Bq}{it:Bq}{i j:Nat}{M:PySem.Model}{A:PySem.Around}{E:A8->C9->Prop}{v:L2.V}{Q:Unit->C9->Prop}{s':C9}
namespace L2
structure Mod(K:Ab)(mg:Str->Option ci)(base:pc):Prop where
 kin:K.In base
 glob:base.Ns im mg
 blt:∃mb,base.Ns GE mb/\∀x:Str,x≠"__name__"->mb x=pr x
 nolimit:base.NoLimit
 bm:∃bm ob,mg "__builtins__"=am (.ref bm)/\bm≠GE/\base.get? bm=am ob/\ob.cls=.type "module"/\ob.dict=am GE/\ob.data=.plain
structure Cx where
 prog:wE
 w:Db
 K:Ab
 mg:Str->Option ci
 base:pc
 A:EQ
 N:List Str
 s₀:cr
 H₀:Hp
 env:Env
 outer:List Env
 stack:List Env
 ex:List db
 fn:Str->Bool
 calm:Bool
 pn:List (db×Obj)
 xe:ci->cr->Prop
abbrev jz(x:Str):Prop:=(x==("__debug__":Str))=false
abbrev LC(x:Str):Prop:=(x==("__classdict__":Str))=false
abbrev hV(X:Cx)(e:mo)(es:O mo):Prop:=gt (e::es) X.env=(false,o0 e X.env)::gt es X.env
abbrev mm(X:Cx)(p:Pos)(es:O mo):Prop:=(ul p (gt es X.env)).any (·.1)=false
abbrev rj(X:Cx)(e:mo):Prop:=∀x,foldedSetIterable e X.env x=pure x
abbrev HWa(X:Cx)(p:Pos)(l:O mo):Prop:=((ul p (gt l X.env)).all (λx=>!x.1)&&(GM p (zn [] X.env)).all (λx=>x.1.isSome)&&decide (l.length+([]:O Keyword).length+(if ([]:O Keyword).isEmpty then 0 else 1)<30))=true
abbrev TL(p q:Pos):Prop:=(p.endLine==q.line)=true
abbrev Tp(X:Cx)(y:Str):Prop:=X.fn y=true\/X.env.scope.names.lookup y=am .local
def Pe(l:O Env):O db:=l.filterMap (·.frame)
abbrev Cx.fs(X:Cx):O db:=Pe X.outer
def Jh(sc:nw)(x:Str):Prop:=sc.names.lookup x=am .local\/sc.names.lookup x=am .cell\/sc.names.lookup x=am .free
def Loc(sc:nw)(x:Str):Prop:=sc.names.lookup x=am .local\/sc.names.lookup x=am .cell
def Look(env:Env)(h:pc)(m:Str->Option ci)(x:Str)(u:ci):Prop:=
 (env.kindOf x=am .local/\m x=am u)\/((env.kindOf x=am .cell\/env.kindOf x=am .free)/\∃c,env.cells.lookup x=am c/\h.IsCell c (am u))
structure Cx.Ok(X:Cx):Prop where
 mod:Mod X.K X.mg X.base
 kind:X.env.scope.kind=.function
 glob:X.env.globals=im
 blt:X.env.builtins=GE
 above:X.s₀.heap.objs.size<=X.env.locals
 inj:∀x y c,X.env.cells.lookup x=am c->X.env.cells.lookup y=am c->x=y
 has:∀x,(X.env.kindOf x=am .cell\/X.env.kindOf x=am .free)->∃c,X.env.cells.lookup x=am c
 cab:∀x c,X.fn x=true->X.env.cells.lookup x=am c->X.s₀.heap.objs.size<=c
 hd:X.calm=true->X.A.handled=ce
 frames:X.A.frames=am X.stack
 stk:X.stack=X.outer\/(X.stack=X.env::X.outer/\X.env.frame=am X.env.locals)
 exf:∀b∈X.ex,b≠X.env.locals/\∀x c,X.env.cells.lookup x=am c->c≠b
 bs:∀b o,X.base.get? b=am o->X.s₀.heap.get? b=am o/\X.H₀ b=ce
 Yn:X.base.objs.size<=X.s₀.heap.objs.size
 Q7:∀b o,X.base.get? b=am o->b∉X.ex
 Sk:∀b∈X.ex,b∉X.fs
 uH:X.s₀.heap.FunFrames X.base X.outer
 frf:∀b∈X.fs,X.H₀ b=ce
structure Inv(X:Cx)(U:List (db×Obj))(σ:List (Option V))(H:Hp)(s:cr):Prop where
 ok:X.Ok
 os:s.os=X.s₀.os
 bare:Rs s.gens
 base:Un X.fs X.ex X.H₀ H X.s₀.heap s.heap
 loc:∃m,s.heap.Ns X.env.locals m/\∀(i:Nat) (x:Str) (v:V),X.N[i]?=am x->σ[i]?=am (am v)->Jh X.env.scope x->∃u,RelV v u/\Look X.env s.heap m x u
 cell:∀x c,X.env.cells.lookup x=am c->∃v,s.heap.IsCell c v
 free:H X.env.locals=ce
 kq:∀x c,X.env.cells.lookup x=am c->H c=ce
 pin:∀p∈X.pn++U,s.heap.get? p.1=am p.2/\H p.1=ce/\p.1≠X.env.locals/\p.1∉X.fs/\∀v,p.2.data≠.cell v
 bG:mH X.prog X.w H s.heap
 len:σ.length=X.N.length
section
variable{X:Cx}{σ:O (Option V)}{s:cr}
def Cx.Ok.ahK(ok:X.Ok)(e:X.base.get? b=am o):b∉X.fs:=λhb=>by
 have:=(ok.uH.mem hb).1;rw[e]at this;cases this
def Inv.bs(I:Inv X U σ H s):∀b o,X.base.get? b=am o->s.heap.get? b=am o/\H b=ce:=λb o e=>
 ⟨I.base.keep b o (I.ok.bs b o e).1 (I.ok.bs b o e).2 (I.ok.ahK e) (I.ok.Q7 b o e),I.base.free b o (I.ok.bs b o e).1 (I.ok.bs b o e).2 (I.ok.Q7 b o e)⟩
def Inv.bk(I:Inv X U σ H s):∀b o,X.base.get? b=am o->s.heap.get? b=am o:=λb o e=>(I.bs b o e).1
def Inv.mod(I:Inv X U σ H s):Mod X.K X.mg X.base:=I.ok.mod
def Inv.xo(I:Inv X U σ H s):X.K.In s.heap:=I.ok.mod.kin.keeps I.bk
def Inv.lt(I:Inv X U σ H s):X.env.locals<s.heap.objs.size:=let ⟨_,hn,_⟩:=I.loc;hn.lt
def Inv.sz(I:Inv X U σ H s):X.s₀.heap.objs.size<=s.heap.objs.size:=AD I.ok.above (E6 I.lt)
def Inv.ahJ(I:Inv X U σ H s)(h:s.heap.objs.size<=a):a∉X.fs:=λhb=>by
 obtain⟨_,o,ho,_⟩:=I.ok.uH.mem hb;exact absurd (AG (Aq ho) (AD I.sz h)) (AI _)
def Inv.cne(I:Inv X U σ H s):∀x c,X.env.cells.lookup x=am c->c≠X.env.locals:=λx c e z=>by
 obtain⟨v,o,ho,hd⟩:=I.cell x c e;obtain⟨m,⟨o',es,ep,å,ŕ,_⟩,_⟩:=I.loc;rw[z,å]at ho;cases ho;rw[ŕ]at hd;cases hd
def Inv.uH(I:Inv X U σ H s):s.heap.FunFrames X.base X.outer:=by
 have all:∀l,(∀b∈Pe l,b∈X.fs)->X.s₀.heap.FunFrames X.base l->s.heap.FunFrames X.base l:=by
  intro l
  induction l with
  |nil=>intro _ _;trivial
  |cons env r ih=>
   intro hs hl;obtain⟨hk,⟨L,o,hf,hn,ho,hd⟩,hr⟩:=hl;have hL:=hs L (by unfold Pe;rw[AL,hf];exact BK);obtain⟨sl,e⟩:=I.base.slot L o ho (I.ok.frf L hL) hL λz=>I.ok.Sk L z hL;exact⟨hk,⟨L,_,hf,hn,e,hd⟩,ih (λb hb=>hs b (by unfold Pe;rw[AL,hf];exact A4 _ hb)) hr⟩
 exact all X.outer (λ_ hb=>hb) I.ok.uH
def Inv.stack(I:Inv X U σ H s):s.heap.FunFrames X.base X.stack:=by
 rcases I.ok.stk with e|⟨e,hf⟩
 .rw[e];exact I.uH
 .rw[e];obtain⟨m,hn,_⟩:=I.loc;refine .cons (by rw[I.ok.kind];decide) hf hn ?_ I.uH;exact Heap.get?_none_of_le (AD I.ok.Yn I.ok.above)
def Inv.Jv(I:Inv X U σ H s):∀b∈Pe X.stack,b∈X.env.locals::X.fs:=λb hb=>by
 rcases I.ok.stk with e|⟨e,hf⟩
 .rw[e]at hb;exact A4 _ hb
 .rw[e]at hb;unfold Pe at hb;rw[AL,hf]at hb;exact hb
def Inv.LZ(I:Inv X U σ H s):∀b∈Pe X.stack,H b=ce:=λb hb=>by
 rcases AB.mp (I.Jv b hb) with e|hb
 .rw[e];exact I.free
 .obtain⟨_,o,ho,_⟩:=I.ok.uH.mem hb;exact I.base.free b o ho (I.ok.frf b hb) λz=>I.ok.Sk b z hb
def Inv.step{t':Nat}{d':Drawn}(I:Inv X U σ H s)(TH:∀b∈ch,(b∈X.ex\/X.s₀.heap.objs.size<=b)/\b≠X.env.locals/\(∀x c,X.env.cells.lookup x=am c->c≠b)/\∀p∈X.pn++U,p.1≠b)(keep:∀b o,b≠X.env.locals->b∉X.fs->b∉ch->s.heap.get? b=am o->H b=ce->h'.get? b=am o)(slot:∀b o,b≠X.env.locals->b∈X.fs->b∉ch->s.heap.get? b=am o->H b=ce->∃sl,h'.get? b=am {o with slots:=sl})(free:∀b o,b∉ch->s.heap.get? b=am o->H b=ce->H' b=ce)(there:∀b o,b∉ch->s.heap.get? b=am o->∃o',h'.get? b=am o')(di:∀b xs,H b=am (.tup xs)->H' b=am (.tup xs))(uI:∀b o u,H b=am (.cn o u)->H' b=am (.cn o u))(vD:∀b ps,H b=am (.GR ps)->∃more,H' b=am (.GR (ps++more)))(ns:∀m,s.heap.Ns X.env.locals m->h'.Ns X.env.locals m)(bG:mH X.prog X.w H' h')(hg:Rs g'):Inv X U σ H' {s with heap:=h',gens:=g',drawn:=d',toks:=t'}:=by
 have neL:∀b o,X.s₀.heap.get? b=am o->b≠X.env.locals:=λb o e=>AH (AG (Aq e) I.ok.above);have Ğ:∀b o,X.s₀.heap.get? b=am o->b∉X.ex->b∉ch:=λb o e hx hb=>by
  rcases (TH b hb).1 with z|z
  .exact hx z
  .exact absurd (AG (Aq e) z) (AI _)
 have Ü:∀x c,X.env.cells.lookup x=am c->∀v,s.heap.IsCell c v->h'.IsCell c v:=λx c e v ⟨o,ho,hd⟩=>by
  have Ĉ:c∉ch:=λz=>(TH c z).2.2.1 x c e rfl;by_cases hc:c∈X.fs
  .obtain⟨sl,q⟩:=slot c o (I.cne x c e) hc Ĉ ho (I.kq x c e);exact⟨_,q,hd⟩
  .exact⟨o,keep c o (I.cne x c e) hc Ĉ ho (I.kq x c e),hd⟩
 refine⟨I.ok,I.os,hg,⟨λb o e n hb hx=>?_,λb o e n hb hx=>?_,λb o e n hx=>?_,λb o e hx=>?_,λb xs e=>di b xs (I.base.di b xs e),λb o xs e=>uI b o xs (I.base.uI b o xs e),λb ps e=>?_⟩,?_,λx c e=>?_,?_,λx c e=>?_,λp hp=>?_,bG,I.len⟩
 .exact keep b o (neL b o e) hb (Ğ b o e hx) (I.base.keep b o e n hb hx) (I.base.free b o e n hx)
 .obtain⟨sl,e1⟩:=I.base.slot b o e n hb hx;obtain⟨sl',e2⟩:=slot b _ (neL b o e) hb (Ğ b o e hx) e1 (I.base.free b o e n hx);exact⟨sl',e2⟩
 .obtain⟨o',e1⟩:=I.base.there b o e hx;exact free b o' (Ğ b o e hx) e1 (I.base.free b o e n hx)
 .obtain⟨o',e1⟩:=I.base.there b o e hx;exact there b o' (Ğ b o e hx) e1
 .obtain⟨m1,e1⟩:=I.base.vD b ps e;obtain⟨m2,e2⟩:=vD b _ e1;exact⟨m1++m2,by rw[e2,Array.append_assoc]⟩
 .obtain⟨m,hn,hl⟩:=I.loc;refine⟨m,ns m hn,λi x v e1 e2 e3=>?_⟩;obtain⟨u,r,l⟩:=hl i x v e1 e2 e3;refine⟨u,r,?_⟩;rcases l with l|⟨k,c,e,z⟩
  .exact .inl l
  .exact .inr ⟨k,c,e,Ü x c e _ z⟩
 .obtain⟨v,z⟩:=I.cell x c e;exact⟨v,Ü x c e v z⟩
 .obtain⟨m,⟨o,_,_,ho,_⟩,_⟩:=I.loc;exact free _ o (λz=>(TH _ z).2.1 rfl) ho I.free
 .obtain⟨v,o,ho,hd⟩:=I.cell x c e;exact free c o (λz=>(TH c z).2.2.1 x c e rfl) ho (I.kq x c e)
 .obtain⟨e,n,ne,nf,d⟩:=I.pin p hp;have Ĉ:p.1∉ch:=λz=>(TH p.1 z).2.2.2 p hp rfl;exact⟨keep p.1 p.2 ne nf Ĉ e n,free p.1 p.2 Ĉ e n,ne,nf,d⟩
def Inv.un{t':Nat}(I:Inv X U σ H s)(u:Un X.fs [] H H' s.heap h')(bG:mH X.prog X.w H' h'):Inv X U σ H' {s with heap:=h',toks:=t'}:=by
 obtain⟨m,⟨o,es,ep,ho,r⟩,_⟩:=id I.loc;obtain⟨sl,hL⟩:=u.any ho I.free (by simp);exact I.step (g':=s.gens) (d':=s.drawn) (ch:=[]) (λ_ z=>nomatch z) (λb o _ hb _ e n=>u.keep b o e n hb (by simp)) (λb o _ hb _ e n=>u.slot b o e n hb (by simp)) (λb o _ e n=>u.free b o e n (by simp)) (λb o _ e=>u.there b o e (by simp)) u.di u.uI u.vD (λm' hm=>by
  obtain⟨o',Į,į,å,r'⟩:=hm;rw[ho]at å;cases å;exact⟨_,Į,į,hL,r'⟩) bG I.bare
def Inv.call{t':Nat}{d':Drawn}(I:Inv X U σ H s)(u:Un (Pe X.stack) ch H H' s.heap h')(bG:mH X.prog X.w H' h')(hg:Rs g')(TH:∀b∈ch,(b∈X.ex\/X.s₀.heap.objs.size<=b)/\b≠X.env.locals/\(∀x c,X.env.cells.lookup x=am c->c≠b)/\∀p∈X.pn++U,p.1≠b):Inv X U σ H' {s with heap:=h',gens:=g',drawn:=d',toks:=t'}:=by
 obtain⟨m,⟨o,es,ep,ho,r⟩,_⟩:=id I.loc;obtain⟨sl,hL⟩:=u.any ho I.free λz=>(TH _ z).2.1 rfl;exact I.step (ch:=ch) TH (λb o hL hb hc e n=>u.keep b o e n (λz=>(AB.mp (I.Jv b z)).elim hL hb) hc) (λb o _ _ hc e n=>u.any e n hc) (λb o hc e n=>u.free b o e n hc) (λb o hc e=>u.there b o e hc) u.di u.uI u.vD (λm' hm=>by
  obtain⟨o',Į,į,å,r'⟩:=hm;rw[ho]at å;cases å;exact⟨_,Į,į,hL,r'⟩) bG hg
def Inv.turned{t':Nat}(I:Inv X U σ H s)(k:∀b o,b≠it->s.heap.get? b=am o->h'.get? b=am o)(hn:H it=ce)(hL:it≠X.env.locals)(h1:it∈X.ex\/X.s₀.heap.objs.size<=it)(h2:∀x c,X.env.cells.lookup x=am c->c≠it)(h3:∀p∈X.pn++U,p.1≠it):Inv X U σ H {s with heap:=h',toks:=t'}:=by
 have Xx:∀b u,H b=am u->b≠it:=λb u e z=>by rw[z,hn]at e;cases e
 refine I.step (g':=s.gens) (d':=s.drawn) (ch:=[it]) (λb hb=>?_) (λb o _ _ hc e _=>k b o (λz=>hc (by simp[z])) e) (λb o _ _ hc e _=>⟨o.slots,k b o (λz=>hc (by simp[z])) e⟩) (λ_ _ _ _ n=>n)
  (λb o hc e=>⟨o,k b o (λz=>hc (by simp[z])) e⟩) (λ_ _ e=>e) (λ_ _ _ e=>e) (λb ps e=>⟨#[],by rw[e];simp⟩) (λm hm=>?_) (λb u e=>?_) I.bare
 .have e:b=it:=by simpa using hb
  subst e;exact⟨h1,hL,h2,h3⟩
 .obtain⟨o,es,ep,ho,r⟩:=hm;exact⟨o,es,ep,k _ o (BE hL) ho,r⟩
 .refine(I.bG b u e).yb (λc v hc q=>k c v ?_ q) (λ_ q=>q) λ_ _ q=>q;rcases hc with z|z
  .rw[z];exact Xx b u e
  .exact Xx c _ z
def Inv.tok(I:Inv X U σ H s)(t:Nat):Inv X U σ H {s with toks:=t}:=I.un Un.refl I.bG
def Inv.kept{t':Nat}(I:Inv X U σ H s)(k:∀b u,s.heap.get? b=am u->h'.get? b=am u):Inv X U σ H {s with heap:=h',toks:=t'}:=I.un (Un.kept k) (I.bG.kept k)
def Inv.laid{o:HO}{t':Nat}(I:Inv X U σ H s)(k:∀b u,s.heap.get? b=am u->h'.get? b=am u)(hp:s.heap.objs.size<=a)(new:bC X.prog X.w (upd H a o) h' a o):Inv X U σ (upd H a o) {s with heap:=h',toks:=t'}:=I.un (Un.laid k hp (I.bG.fresh hp)) (I.bG.laid k hp new)
def Inv.write{x:db}{o:HO}{t':Nat}(I:Inv X U σ H s)(mu:Mut (H x))(he:e=x\/H e=am (.own x))(k:∀b u,b≠e->s.heap.get? b=am u->h'.get? b=am u)(ö:∃u,h'.get? e=am u)(new:bC X.prog X.w (upd H x o) h' x o):Inv X U σ (upd H x o) {s with heap:=h',toks:=t'}:=I.un (Un.write mu he k ö) (I.bG.write mu he k ö new)
def Inv.Mc{Hd:O (db×Obj)}(I:Inv X U σ H s)(h:∀p∈Hd,s.heap.get? p.1=am p.2/\H p.1=ce/\p.1≠X.env.locals/\p.1∉X.fs/\∀v,p.2.data≠.cell v):Inv X Hd σ H s:=
 ⟨I.ok,I.os,I.bare,I.base,I.loc,I.cell,I.free,I.kq,λp hp=>(AO.mp hp).elim (λz=>I.pin p (Ba _ z)) (h p),I.bG,I.len⟩
def Hr{N:O Str}(hN:N.Nodup){x:Str}(a:N[i]?=am x)(b:N[j]?=am x):i=j:=by
 obtain⟨h1,e1⟩:=Aj.mp a;obtain⟨h2,e2⟩:=Aj.mp b;exact(EY hN).mp (e1.trans e2.symm)
def wO{x:Str}(I:Inv X U σ H s)(hN:X.N.Nodup)(hi:X.N[i]?=am x)(hx:Loc X.env.scope x)(r:RelV v u)(h:∀s',Inv X U (σ.set i (am v)) H s'->(∃a,Ci a s.heap s'.heap/\(a=X.env.locals\/X.env.cells.lookup x=am a))->Q () s')(hf:Tp X x:=by first|exact .inl rfl|exact .inr rfl|assumption):ga M A (storeName X.env x u) Q E s:=by
 obtain⟨m,hn,hl⟩:=id I.loc;have aiJ:(X.env.scope.kind==.class||(X.env.scope.kind==.module&&X.env.locals != X.env.globals))=false:=by rw[I.ok.kind];rfl
 have ael:i < σ.length:=by rw[I.len];exact(Aj.mp hi).1
 have cne:=I.cne;have Ó:∀{a:db}{h':pc},(∃o,s.heap.get? a=am o/\H a=ce)->Ci a s.heap h'->mH X.prog X.w H h':=λ{a h'} ha hs b ob e=>by
  obtain⟨_,_,X1⟩:=ha;refine(I.bG b ob e).yb (λc w' hc q=>(hs.2 c ?_).trans q) (λ_ q=>q) λ_ _ q=>q;rintro rfl;rcases hc with rfl|hc
  .rw[X1]at e;cases e
  .rw[X1]at hc;cases hc
 rcases hx with hk|hk
 .refine wpAny_storeName_local hk hn (λh' hn' hs=>?_) aiJ;obtain⟨oL,_,_,Ħ,_⟩:=id hn;refine h _ ⟨I.ok,I.os,I.bare,⟨λb o e n hb hx=>?_,λb o e n hb hx=>?_,I.base.free,λb o e hx=>?_,I.base.di,I.base.uI,I.base.vD⟩,⟨_,hn',λj y v' e1 e2 e3=>?_⟩,λy c e=>?_,I.free,I.kq,λp hp=>?_,Ó ⟨oL,Ħ,I.free⟩ hs,by simpa using I.len⟩ ⟨_,hs,.inl rfl⟩
  .exact(hs.2 b (AH (AG (Aq e) I.ok.above))).trans (I.base.keep b o e n hb hx)
  .obtain⟨sl,e1⟩:=I.base.slot b o e n hb hx;exact⟨sl,(hs.2 b (AH (AG (Aq e) I.ok.above))).trans e1⟩
  .obtain⟨o',e1⟩:=I.base.there b o e hx;exact⟨o',(hs.2 b (AH (AG (Aq e) I.ok.above))).trans e1⟩
  .by_cases hj:j=i
   .subst hj;rw[hi]at e1;cases e1;rw[CW ael]at e2;cases e2;exact⟨u,r,.inl ⟨hk,by simp⟩⟩
   .rw[Ce (BE hj)]at e2;obtain⟨u',r',q⟩:=hl j y v' e1 e2 e3;refine⟨u',r',?_⟩;rcases q with⟨k,e⟩|⟨k,c,e,z⟩
    .refine .inl ⟨k,?_⟩;have:y≠x:=λe=>hj (Hr hN e1 (e▸hi));simp[this,e]
    .exact .inr ⟨k,c,e,z.sameBut hs (cne y c e)⟩
  .obtain⟨w',z⟩:=I.cell y c e;exact⟨w',z.sameBut hs (cne y c e)⟩
  .obtain⟨e,n,ne,nf,d⟩:=I.pin p hp;exact⟨(hs.2 p.1 ne).trans e,n,ne,nf,d⟩
 .have ď:X.fn x=true:=by
   rcases hf with z|z
   .exact z
   .rw[z]at hk;cases hk
  obtain⟨c,hc⟩:=I.ok.has x (.inl hk);obtain⟨w',z⟩:=I.cell x c hc;refine wpAny_storeName_cell I.ok.kind hk hc z (λh' ø hs=>?_);obtain⟨oc,hoc,aip⟩:=id z;refine h {s with heap:=h'} ⟨I.ok,I.os,I.bare,⟨λb o e n hb hx=>?_,λb o e n hb hx=>?_,I.base.free,λb o e hx=>?_,I.base.di,I.base.uI,I.base.vD⟩,⟨m,hn.sameBut hs (BE (cne x c hc)),λj y v' e1 e2 e3=>?_⟩,λy c' e=>?_,I.free,I.kq,λp hp=>?_,Ó ⟨oc,hoc,I.kq x c hc⟩ hs,by simpa using I.len⟩ ⟨c,hs,.inr hc⟩
  .exact(hs.2 b (AH (AG (Aq e) (I.ok.cab x c ď hc)))).trans (I.base.keep b o e n hb hx)
  .obtain⟨sl,e1⟩:=I.base.slot b o e n hb hx;exact⟨sl,(hs.2 b (AH (AG (Aq e) (I.ok.cab x c ď hc)))).trans e1⟩
  .obtain⟨o',e1⟩:=I.base.there b o e hx;exact⟨o',(hs.2 b (AH (AG (Aq e) (I.ok.cab x c ď hc)))).trans e1⟩
  .by_cases hj:j=i
   .subst hj;rw[hi]at e1;cases e1;rw[CW ael]at e2;cases e2;exact⟨u,r,.inr ⟨.inl hk,c,hc,ø⟩⟩
   .rw[Ce (BE hj)]at e2;obtain⟨u',r',q⟩:=hl j y v' e1 e2 e3;refine⟨u',r',?_⟩;rcases q with q|⟨k,c',e,z'⟩
    .exact .inl q
    .refine .inr ⟨k,c',e,z'.sameBut hs ?_⟩;rintro rfl;exact hj (Hr hN e1 (I.ok.inj _ _ _ e hc▸hi))
  .by_cases ç:c'=c
   .subst ç;exact⟨_,ø⟩
   .obtain⟨w2,z2⟩:=I.cell y c' e;exact⟨w2,z2.sameBut hs ç⟩
  .obtain⟨e,n,ne,nf,d⟩:=I.pin p hp;refine⟨(hs.2 p.1 ?_).trans e,n,ne,nf,d⟩;intro q;rw[q,hoc]at e;have q':oc=p.2:=Option.some.inj e;exact d w' (by rw[<- q'];exact aip)
def n9{x:Str}(I:Inv X U σ H s)(hN:X.N.Nodup)(hi:X.N[i]?=am x)(hx:Loc X.env.scope x)(r:RelV v u)(h:∀s',Inv X U (σ.set i (am v)) H s'->Q () s')(hf:Tp X x:=by first|exact .inl rfl|exact .inr rfl|assumption):ga M A (storeName X.env x u) Q E s:=
 wO I hN hi hx r (λs' I' _=>h s' I') hf
def Inv.ae9(I:Inv X U σ H s)(ho:s'.os=s.os)(u:Un (Pe X.stack) ch H H' s.heap s'.heap)(bG:mH X.prog X.w H' s'.heap)(hg:Rs s'.gens)(TH:∀b∈ch,(b∈X.ex\/X.s₀.heap.objs.size<=b)/\b≠X.env.locals/\(∀x c,X.env.cells.lookup x=am c->c≠b)/\∀p∈X.pn++U,p.1≠b):Inv X U σ H' s':=by
 obtain⟨h',g',d',t',o'⟩:=s';have e:o'=s.os:=ho;subst e;exact I.call (g':=g') (t':=t') (d':=d') u bG hg TH
end
abbrev XK:=ci->Option db->Hp->Prop
abbrev St:=O (Option V)
abbrev VK:=V->Hp->Prop
abbrev TE:=St->Hp->VK->Prop
abbrev TT:=St->Hp->(Bool->Hp->Prop)->Prop
abbrev TA:=St->Hp->(O V->Hp->Prop)->Prop
structure Ends where
 nx:St->Hp->Prop
 rt:VK
 bk:St->Hp->Prop:=λ_ _=>False
 ct:St->Hp->Prop:=λ_ _=>False
abbrev TS:=Ends->St->Hp->Prop
def EP(X:Cx)(U:O (db×Obj))(σ:St)(Q:VK)(u:ci)(s':cr):Prop:=∃v H',Inv X U σ H' s'/\RelV v u/\Q v H'
def TP(X:Cx)(U:O (db×Obj))(σ:St)(Q:Bool->Hp->Prop)(b:Bool)(s':cr):Prop:=∃H',Inv X U σ H' s'/\Q b H'
def AP(X:Cx)(U:O (db×Obj))(σ:St)(Q:O V->Hp->Prop)(us:O ci)(s':cr):Prop:=∃vs H',Inv X U σ H' s'/\Vals vs us/\Q vs H'
def SP(X:Cx)(U:O (db×Obj))(D:Ends)(f:Flow)(s':cr):Prop:=
 match f with
 |.next=>∃σ' H',Inv X U σ' H' s'/\D.nx σ' H'
 |.brk=>∃σ' H',Inv X U σ' H' s'/\D.bk σ' H'
 |.cont=>∃σ' H',Inv X U σ' H' s'/\D.ct σ' H'
 |.ret u=>∃v σ' H',Inv X U σ' H' s'/\RelV v u/\D.rt v H'
def PE(X:Cx)(e:mo)(t:TE):Prop:=
 ∀(U:O (db×Obj)) (s:cr) (σ:St) (H:Hp) (Q:VK),Inv X U σ H s->t σ H Q->ga (gl X.prog X.w) X.A (o0 e X.env) (EP X U σ Q) X.xe s
def PT(X:Cx)(e:mo)(t:TT):Prop:=
 ∀(U:O (db×Obj)) (s:cr) (σ:St) (H:Hp) (Q:Bool->Hp->Prop),Inv X U σ H s->t σ H Q->ga (gl X.prog X.w) X.A (isTrue e X.env (o0 e X.env)) (TP X U σ Q) X.xe s
def PW(X:Cx)(e:mo)(t:TT):Prop:=
 ∀(Ä:Sem ci) (U:O (db×Obj)) (s:cr) (σ:St) (H:Hp) (Q:Bool->Hp->Prop),Inv X U σ H s->t σ H Q->ga (gl X.prog X.w) X.A (isTrue e X.env Ä) (TP X U σ Q) X.xe s
def PW.pt{X:Cx}{e:mo}{t:TT}(h:PW X e t):PT X e t:=h _
def PA(X:Cx)(es:O mo)(t:TA):Prop:=
 ∀(pos:Pos) (U:O (db×Obj)) (s:cr) (σ:St) (H:Hp) (Q:O V->Hp->Prop),Inv X U σ H s->t σ H Q->ga (gl X.prog X.w) X.A (spliced (ul pos (gt es X.env))) (AP X U σ Q) X.xe s
def PS(X:Cx)(st:ut)(t:TS):Prop:=
 ∀(U:O (db×Obj)) (s:cr) (σ:St) (H:Hp) (D:Ends),Inv X U σ H s->t D σ H->ga (gl X.prog X.w) X.A (exec st X.env) (SP X U D) X.xe s
def pO(X:Cx)(st:O ut)(t:TS):Prop:=
 ∀(U:O (db×Obj)) (s:cr) (σ:St) (H:Hp) (D:Ends),Inv X U σ H s->t D σ H->ga (gl X.prog X.w) X.A (execs st X.env) (SP X U D) X.xe s
def cf{t:Sem α}{Q Q':α->cr->Prop}{s:cr}(h:ga M A t Q E s)(hQ:∀a s,Q a s->Q' a s):ga M A t Q' E s:=BO h hQ λ_ _ x=>x
end L2
variable{x:Cf}{a:BC}{X:L2.Cx}{σ:L2.St}{Q:A8->C9->Prop}{ta tb:L2.TE}{R:L2.V->L2.V->L2.Hp->Prop}{pos:Cn}
namespace L2
section
def bin{b:mo}(ha:PE X a ta)(hb:PE X b tb){s:cr}(I:Inv X U σ H s)(h:ta σ H λx H1=>tb σ H1 λy H2=>R x y H2){Q:α->cr->Prop}{f:ci->ci->Sem α}(hf:∀v u s2 x y H2,Inv X U σ H2 s2->RelV x v->RelV y u->R x y H2->ga (gl X.prog X.w) X.A (f v u) Q X.xe s2):ga (gl X.prog X.w) X.A (o0 a X.env) (λv s₁=>ga (gl X.prog X.w) X.A (o0 b X.env) (λu s₂=>ga (gl X.prog X.w) X.A (f v u) Q X.xe s₂) X.xe s₁) X.xe s:=by
 refine cf (ha U s σ H _ I h) λv s1 ⟨x,H1,I1,r1,q1⟩=>?_;refine cf (hb U s1 σ H1 _ I1 q1) λu s2 ⟨y,H2,I2,r2,q2⟩=>?_;exact hf v u s2 x y H2 I2 r1 r2 q2
def YS(i:Nat):TE:=λσ H Q=>∃v,σ[i]?=am (am v)/\Q v H
def tC(v:V):TE:=λ_ H Q=>Q v H
def fX(hN:X.N[i]?=am x)(hv:Jh X.env.scope x)(hd: ~~~(jz x))(kD: ~~~(LC x)):PE X (.Name x pos) (YS i):=by
 intro U s σ H Q I h;obtain⟨v,e,h⟩:=h;obtain⟨m,hn,hl⟩:=I.loc;obtain⟨u,r,l⟩:=hl i x v hN e hv;have fin:EP X U σ Q u s:=⟨v,H,I,r,h⟩;rcases l with⟨hk,hm⟩|⟨hk,c,hc,X3⟩
 .exact wpAny_Name (wpAny_loadName_local I.ok.kind hk hn hm fin) hd
 .rcases hk with hk|hk
  .exact wpAny_Name (wpAny_loadName_cell I.ok.kind hk hc X3 fin) hd
  .exact wpAny_Name (wpAny_loadName_free I.ok.kind hk hc X3 fin kD) hd
def bf{i j pos}:PE X (.Constant (.int i) j pos) (tC (.int i)):=λ_ _ _ H _ I h=>wpAny_Constant_int ⟨.int i,H,I.tok _,⟨_,rfl⟩,h⟩
def ads{b j pos}:PE X (.Constant (.bool b) j pos) (tC (.bl b)):=λ_ _ _ H _ I h=>Constant_bool ⟨.bl b,H,I,rfl,h⟩
def QQ{j pos}:PE X (.Constant .none j pos) (tC .aO):=λ_ _ _ H _ I h=>Constant_none ⟨.aO,H,I,rfl,h⟩
def yx{x j pos}:PE X (.Constant (.str x) j pos) (tC (.str x)):=λ_ _ _ H _ I h=>Calls.Constant_str ⟨.str x,H,I.tok _,⟨_,rfl⟩,h⟩
def Gl(X:Cx)(x:Str):Prop:=X.env.kindOf x=am .globalImplicit
def Mr{s:cr}(I:Inv X U σ H s)(hg:Gl X x)(hm:X.mg x=am u)(h:Q u s)(hd: ~~~(jz x)):ga (gl X.prog X.w) X.A (o0 (.Name x pos) X.env) Q E s:=
 Es I.ok.kind hg (Calls.loadGlobal_global (by rw[I.ok.glob];exact I.mod.glob.keeps I.bk) hm h) hd
def gQ{s:cr}(I:Inv X U σ H s)(hg:Gl X x)(hm:X.mg x=ce)(hv:pr x=am u)(h:Q u s)(hn: ~~~(x≠"__name__"))(hd: ~~~(jz x)):ga (gl X.prog X.w) X.A (o0 (.Name x pos) X.env) Q E s:=by
 obtain⟨mb,h1,h2⟩:=I.mod.blt;exact Es I.ok.kind hg (Calls.loadGlobal_builtin (by rw[I.ok.glob];exact I.mod.glob.keeps I.bk) hm (by rw[I.ok.blt];exact h1.keeps I.bk) ((h2 x hn).trans hv) h) hd
def sC(hg:Gl X x)(hm:X.mg x=am u)(r:RelV v u)(hd: ~~~(jz x)):PE X (.Name x pos) (tC v):=
 λ_ _ _ H _ I h=>Mr I hg hm ⟨v,H,I,r,h⟩ hd
def U2(hg:Gl X x)(hm:X.mg x=ce)(hv:pr x=am u)(r:RelV v u)(hn: ~~~(x≠"__name__"))(hd: ~~~(jz x)):PE X (.Name x pos) (tC v):=
 λ_ _ _ H _ I h=>gQ I hg hm hv ⟨v,H,I,r,h⟩ hn hd
variable{b:mo}
variable{tA YV:TT}{rest:O mo}
def acP(t u:TT):TT:=λσ H Q=>t σ H λc H1=>if c=true then u σ H1 Q else Q false H1
def tOr(t u:TT):TT:=λσ H Q=>t σ H λc H1=>if c=true then Q true H1 else u σ H1 Q
def ag7(t:TT):TT:=λσ H Q=>t σ H λc H1=>Q (!c) H1
def L9(ha:PT X a tA):PW X (.BoolOp .And [a] pos) tA:=by
 intro wh U s σ H Q I h;refine isTrue_and (cf (ha U s σ H Q I h) λc s1 e=>?_);cases c with
 |true=>exact isTrue_and_nil e
 |false=>exact e
def Zs(ha:PT X a tA):PW X (.BoolOp .Or [a] pos) tA:=by
 intro wh U s σ H Q I h;refine isTrue_or (cf (ha U s σ H Q I h) λc s1 e=>?_);cases c with
 |false=>exact isTrue_or_nil e
 |true=>exact e
def Qx(ha:PT X a tA)(hb:PW X (.BoolOp .And (b::rest) pos) YV):PW X (.BoolOp .And (a::b::rest) pos) (acP tA YV):=by
 intro wh U s σ H Q I h;refine isTrue_and (cf (ha U s σ H _ I h) λc s1 ⟨H1,I1,q1⟩=>?_);cases c with
 |true=>exact hb wh U s1 σ H1 Q I1 q1
 |false=>exact⟨H1,I1,q1⟩
def adm(ha:PT X a tA)(hb:PW X (.BoolOp .Or (b::rest) pos) YV):PW X (.BoolOp .Or (a::b::rest) pos) (tOr tA YV):=by
 intro wh U s σ H Q I h;refine isTrue_or (cf (ha U s σ H _ I h) λc s1 ⟨H1,I1,q1⟩=>?_);cases c with
 |true=>exact⟨H1,I1,q1⟩
 |false=>exact hb wh U s1 σ H1 Q I1 q1
def Zt(ha:PT X a tA):PT X (.UnaryOp .Not a pos) (ag7 tA):=by
 intro U s σ H Q I h;exact isTrue_not (ha U s σ H (λc H1=>Q (!c) H1) I h)
def acO(ta tb:TE):TE:=λσ H Q=>ta σ H λx H1=>∃c,x=.bl c/\if c=true then tb σ H1 Q else Q (.bl false) H1
def Zy{op}{t:TE}(h:PE X a t):PE X (.BoolOp op [a] pos) t:=λU s σ H Q I hw=>BoolOp_one (h U s σ H Q I hw)
def ZA(ha:PE X a ta)(hb:PE X (.BoolOp .And (b::rest) pos) tb):PE X (.BoolOp .And (a::b::rest) pos) (acO ta tb):=by
 intro U s σ H Q I h;refine BoolOp_and (cf (ha U s σ H _ I h) λv s1 ⟨x,H1,I1,r1,q1⟩=>?_);obtain⟨c,rfl,q1⟩:=q1;cases r1;refine DG ?_;cases c with
 |true=>exact hb U s1 σ H1 Q I1 q1
 |false=>exact⟨.bl false,H1,I1,rfl,q1⟩
def tIf(t:TT)(ta tb:TE):TE:=λσ H Q=>t σ H λc H1=>if c=true then ta σ H1 Q else tb σ H1 Q
def Hf{c:mo}(hc:PT X c tA)(ha:PE X a ta)(hb:PE X b tb):PE X (.IfExp c a b pos) (tIf tA ta tb):=by
 intro U s σ H Q I h;refine wpAny_IfExp (cf (hc U s σ H _ I h) λd s1 ⟨H1,I1,q1⟩=>?_);cases d with
 |true=>exact ha U s1 σ H1 Q I1 q1
 |false=>exact hb U s1 σ H1 Q I1 q1
end
end L2
variable{xs ys:O L2.V}{e tg:BC}{y:L2.V}{D:L2.Ends}{te to:L2.TE}{es:O BC}{k n:Nat}{Ă px py pt:Cn}{body:O PySem.Stmt}
namespace L2
def b9(K:Ab)(H:Hp)(a:db)(xs:O V):Prop:=
 Rd H a (.lst xs)\/
  ∃(o:Obj) (aq:Array ci) (n:Nat),K.lookup a=am o/\o.cls=.type "list"/\o.dict=ce/\o.data=.seq aq n/\aq.size<=sizeLine/\Vals xs aq.toList
def dU(K:Ab)(H:Hp)(a:db)(xs:O V):Prop:=
 Rd H a (.tup xs)\/
  ∃(o:Obj) (aq:Array ci) (n:Nat),K.lookup a=am o/\o.cls=.type "tuple"/\o.data=.seq aq n/\aq.size<=sizeLine/\Vals xs aq.toList
def ajf:ci->Option V
 |.none=>am .aO
 |.bool b=>am (.bl b)
 |.int i _=>am (.int i)
 |.str x _=>am (.str x)
 |.bytes b _=>am (.OU b)
 |.float b _=>am (.flt b)
 |.ref a=>am (.ref a)
 |.type n=>am (.ty n)
 |_=>ce
def RelV.abs{x:V}(r:RelV x u):ajf u=am x:=by
 cases x with
 |aO=>cases r;rfl
 |bl _=>cases r;rfl
 |int _=>obtain⟨t,rfl⟩:=r;rfl
 |str _=>obtain⟨t,rfl⟩:=r;rfl
 |OU _=>obtain⟨t,rfl⟩:=r;rfl
 |flt _=>obtain⟨t,rfl⟩:=r;rfl
 |ref _=>cases r;rfl
 |ty _=>cases r;rfl
def RelV.inj{x:V}(r:RelV x u)(q:RelV y u):x=y:=Option.some.inj (r.abs.symm.trans q.abs)
theorem Vals.inj:∀{xs ys:O V}{us:O ci},Vals xs us->Vals ys us->xs=ys
 |_,_,_,.nil,.nil=>rfl
 |_,_,_,.cons r t,.cons r' t'=>by rw[r.inj r',Vals.inj t t']
section
variable{s:cr}{a:db}
def b9.of{K:Ab}(h:H a=am (.lst xs)):b9 K H a xs:=.inl (.inl h)
def dU.of{K:Ab}(h:H a=am (.tup xs)):dU K H a xs:=.inl (.inl h)
theorem Inv.list(I:Inv X U σ H s)(h:b9 X.K H a xs):∃aq:O ci,Vals xs aq/\PlainL s.heap a aq.toArray/\xs.length<=sizeLine:=by
 rcases h with h|⟨o,aq,n,hk,hc,hd,hs,hz,r⟩
 .obtain⟨z,aq,n,r,e⟩:=h.ok I.bG;exact⟨aq,r,⟨_,n,e,rfl,rfl,rfl⟩,z⟩
 .refine⟨aq.toList,r,⟨o,n,I.xo a o hk,hc,hd,by simpa using hs⟩,?_⟩;have e:=r.length;simp at e;lia
theorem Inv.tuple(I:Inv X U σ H s)(h:dU X.K H a xs):∃aq:O ci,Vals xs aq/\IsTup s.heap a aq.toArray/\xs.length<=sizeLine:=by
 rcases h with h|⟨o,aq,n,hk,hc,hs,hz,r⟩
 .obtain⟨z,aq,r,p,_⟩:=h.ok I.bG;exact⟨aq,r,p,z⟩
 .refine⟨aq.toList,r,⟨o,I.xo a o hk,hc,n,by simpa using hs⟩,?_⟩;have e:=r.length;simp at e;lia
def Inv.um(I:Inv X U σ H s)(h:b9 X.K H a xs)(h':b9 X.K H a ys):xs=ys:=by
 obtain⟨aq,r,⟨o,n,e,_,_,d⟩,_⟩:=I.list h;obtain⟨eW,r',⟨o',n',e',_,_,d'⟩,_⟩:=I.list h';rw[e]at e';cases e';rw[d]at d';injection d' with d1 _;have:aq=eW:=by simpa using congrArg Array.toList d1
 subst this;exact r.inj r'
def Inv.lM(I:Inv X U σ H s)(h:dU X.K H a xs)(h':dU X.K H a ys):xs=ys:=by
 obtain⟨aq,r,⟨o,e,_,n,d⟩,_⟩:=I.tuple h;obtain⟨eW,r',⟨o',e',_,n',d'⟩,_⟩:=I.tuple h';rw[e]at e';cases e';rw[d]at d';injection d' with d1 _;have:aq=eW:=by simpa using congrArg Array.toList d1
 subst this;exact r.inj r'
end
abbrev Cx.vB(X:Cx)(E:ci->cr->Prop):Cx:={X with xe:=E}
abbrev Cx.Xv(X:Cx):Cx:=X.vB λ_ _=>False
def Cx.Ok.vB(ok:X.Ok)(E:ci->cr->Prop):(X.vB E).Ok:=
 ⟨ok.mod,ok.kind,ok.glob,ok.blt,ok.above,ok.inj,ok.has,ok.cab,ok.hd,ok.frames,ok.stk,ok.exf,ok.bs,ok.Yn,ok.Q7,ok.Sk,ok.uH,ok.frf⟩
def Cx.Ok.kN(ok:(X.vB E).Ok):X.Ok:=
 ⟨ok.mod,ok.kind,ok.glob,ok.blt,ok.above,ok.inj,ok.has,ok.cab,ok.hd,ok.frames,ok.stk,ok.exf,ok.bs,ok.Yn,ok.Q7,ok.Sk,ok.uH,ok.frf⟩
section
variable{s:cr}
def Inv.vB(I:Inv X U σ H s)(E:ci->cr->Prop):Inv (X.vB E) U σ H s:=⟨I.ok.vB E,I.os,I.bare,I.base,I.loc,I.cell,I.free,I.kq,I.pin,I.bG,I.len⟩
def Inv.kN(I:Inv (X.vB E) U σ H s):Inv X U σ H s:=⟨I.ok.kN,I.os,I.bare,I.base,I.loc,I.cell,I.free,I.kq,I.pin,I.bG,I.len⟩
def SP.kN{f:Flow}(h:SP (X.vB E) U D f s'):SP X U D f s':=by
 cases f with
 |next=>obtain⟨σ',H',I,q⟩:=h;exact⟨σ',H',I.kN,q⟩
 |brk=>obtain⟨σ',H',I,q⟩:=h;exact⟨σ',H',I.kN,q⟩
 |cont=>obtain⟨σ',H',I,q⟩:=h;exact⟨σ',H',I.kN,q⟩
 |ret u=>obtain⟨v,σ',H',I,r,q⟩:=h;exact⟨v,σ',H',I.kN,r,q⟩
def pO.Xv{st:O ut}{t:TS}(h:pO X.Xv st t):pO X st t:=λU s σ H D I hw=>
 BO (h U s σ H D (I.vB _) hw) (λ_ _ q=>q.kN) λ_ _ z=>BZ z
end
section
variable{st:ut}{rest:O ut}{t u:TS}
def Xe:TS:=λD σ H=>D.nx σ H
def acF(t u:TS):TS:=λD σ H=>t {D with nx:=u D} σ H
def sA:pO X [] Xe:=λ_ _ σ H _ I h=>D6 ⟨σ,H,I,h⟩
def eO(h1:PS X st t)(h2:pO X rest u):pO X (st::rest) (acF t u):=by
 intro U s σ H D I h;refine wpAny_execs_cons (cf (h1 U s σ H {D with nx:=u D} I h) λf s1 q=>?_);cases f with
 |next=>
  obtain⟨σ',H',I',q⟩:=q;exact h2 U s1 σ' H' D I' q
 |ret v=>exact q
 |brk=>exact q
 |cont=>exact q
def su(h1:PS X st t):pO X [st] t:=by
 intro U s σ H D I h;refine wpAny_execs_cons (cf (h1 U s σ H D I h) λf s1 q=>?_);cases f with
 |next=>exact D6 q
 |ret v=>exact q
 |brk=>exact q
 |cont=>exact q
def acL:TS:=λD σ H=>D.ct σ H
def Hb:PS X (.Continue pos) acL:=λ_ _ σ H _ I h=>wpAny_Continue ⟨σ,H,I,h⟩
def Inv.quiet{s:cr}(I:Inv X U σ H s):interactive X.env=false:=by simp[interactive,I.ok.kind]
def Xg(te:TE):TS:=λD σ H=>te σ H λ_ H1=>D.nx σ H1
def ou(he:PE X e te)(hs:‹r9 e ce pos.line X.env=pure false›):PS X (.Expr e pos) (Xg te):=by
 intro U s σ H D I h;exact wpAny_Expr_any (cf (he U s σ H _ I h) λv s1 ⟨x,H1,I1,r1,q1⟩=>⟨σ,H1,I1,q1⟩) I.quiet hs
def acG(te:TE):TS:=λD σ H=>te σ H D.rt
def tH(he:PE X e te):PS X (.Return (am e) pos) (acG te):=by
 intro U s σ H D I h;exact wpAny_Return_some (cf (he U s σ H _ I h) λv s1 ⟨x,H1,I1,r1,q1⟩=>⟨x,σ,H1,I1,r1,q1⟩)
def acI(c:TT)(t u:TS):TS:=λD σ H=>c σ H λb H1=>if b=true then t D σ H1 else u D σ H1
def Ma{c:mo}{a b:O ut}{tc:TT}(hc:PT X c tc)(ha:pO X a t)(hb:pO X b u):PS X (.If c a b pos) (acI tc t u):=by
 intro U s σ H D I h;refine wpAny_If (cf (hc U s σ H _ I h) λd s1 ⟨H1,I1,q1⟩=>?_);cases d with
 |true=>exact ha U s1 σ H1 D I1 q1
 |false=>exact hb U s1 σ H1 D I1 q1
def YU:TS:=λ_ _ _=>False
end
abbrev TG:=V->St->Hp->(St->Hp->Prop)->Prop
abbrev TGs:=O V->St->Hp->(St->Hp->Prop)->Prop
def PG(X:Cx)(Ì:mo)(t:TG):Prop:=
 ∀(U:O (db×Obj)) (s:cr) (σ:St) (H:Hp) (v:V) (u:ci) (Q:St->Hp->Prop),Inv X U σ H s->RelV v u->t v σ H Q->
  ga (gl X.prog X.w) X.A (Os Ì X.env u) (λ_ s'=>∃σ' H',Inv X U σ' H' s'/\Q σ' H') X.xe s
def PGs(X:Cx)(ts:O mo)(t:TGs):Prop:=
 ∀(U:O (db×Obj)) (s:cr) (σ:St) (H:Hp) (vs:O V) (us:O ci) (Q:St->Hp->Prop),Inv X U σ H s->Vals vs us->t vs σ H Q->
  ga (gl X.prog X.w) X.A (assignInOrder ((Fa ts X.env).map (·.2)) us) (λ_ s'=>∃σ' H',Inv X U σ' H' s'/\Q σ' H') X.xe s
abbrev O1:=V->V->V->Hp->(Hp->Prop)->Prop
def O2(X:Cx)(t:O1):Prop:=
 ∀(U:O (db×Obj)) (s:cr) (σ:St) (H:Hp) (o i v:V) (ov iv u:ci) (Q:Hp->Prop),Inv X U σ H s->RelV o ov->RelV i iv->RelV v u->t o i v H Q->
  ga (gl X.prog X.w) X.A (setItem ov iv u) (λ_ s'=>∃H',Inv X U σ H' s'/\Q H') X.xe s
section
def eI(i:Nat):TG:=λv σ H Q=>Q (σ.set i (am v)) H
def UT(hN:X.N.Nodup)(hi:X.N[i]?=am x)(hx:Loc X.env.scope x)(hf:Tp X x:=by first|exact .inl rfl|exact .inr rfl|assumption):PG X (.Name x pos) (eI i):=by
 intro U s σ H v u Q I r h;exact wpAny_assign_Name (n9 I hN hi hx r (λs' I'=>⟨_,H,I',h⟩) hf)
def aaR:TGs:=λvs σ H Q=>vs=[]/\Q σ H
def uG(t:TG)(u:TGs):TGs:=λvs σ H Q=>∃v r,vs=v::r/\t v σ H λσ' H'=>u r σ' H' Q
def dm:PGs X [] aaR:=by
 intro U s σ H vs us Q I r h;obtain⟨e,h⟩:=h;subst e;cases r;exact assignInOrder_nil ⟨σ,H,I,h⟩
def aW{t:TG}{u:TGs}(h1:PG X e t)(h2:PGs X es u)(hs:‹(Fa (e::es) X.env).map (·.2)=Os e X.env::(Fa es X.env).map (·.2)›):PGs X (e::es) (uG t u):=by
 intro U s σ H vs us Q I r h;obtain⟨v,vr,e1,h⟩:=h;subst e1;cases r with
 |cons r rr=>
  rw[hs];exact assignInOrder_cons (cf (h1 U s σ H _ _ _ I r h) λ_ s1 ⟨σ1,H1,I1,q1⟩=>h2 U s1 σ1 H1 _ _ Q I1 rr q1)
def aaQ(K:Ab)(n:Nat)(t:TGs):TG:=λv σ H Q=>∃a xs,v=.ref a/\dU K H a xs/\xs.length=n/\t xs σ H Q
def fj{t:TGs}(hc:X.calm=true)(h:PGs X es t)(hn:‹(Fa es X.env).length=n›)(xw:‹(Fa es X.env).findIdx? (·.1)=ce›):PG X (.Tuple es k pos) (aaQ X.K n t):=by
 intro U s σ H v u Q I r hw;obtain⟨a,xs,e1,hq,hl,hw⟩:=hw;subst e1;cases r;obtain⟨aq,rv,ht,hz⟩:=I.tuple hq;exact assign_Tuple_tuple (I.ok.hd hc) ht (by simp[hn,<- hl,rv.length]) xw λh' hx=>h U _ σ H xs _ Q (I.kept λb o e=>hx b o (AH (Aq e)) e) (by simpa using rv) hw
def aez(to ti:TE)(t:O1):TG:=λv σ H Q=>to σ H λo H1=>ti σ H1 λi H2=>t o i v H2 λH3=>Q σ H3
def JG{o i:mo}{ti:TE}{t:O1}(ho:PE X o to)(hi:PE X i ti)(hs:O2 X t)(ha:∀v,Os (.Subscript o i pos) X.env v=(do
   let ov <- KB [v] (o0 o X.env)
   let iv <- KB [v,ov] (o0 i X.env)
   standAt pos
   KB [v,ov,iv] (setItem ov iv v)
   release [v,ov,iv] []):=by intro _;rfl):PG X (.Subscript o i pos) (aez to ti t):=by
 intro U s σ H v u Q I r h;exact Aa (Bh (cf (ho U s σ H _ I h) λov s1 ⟨x,H1,I1,r1,q1⟩=>Aa (Bh (cf (hi U s1 σ H1 _ I1 q1) λiv s2 ⟨y,H2,I2,r2,q2⟩=>Aa (DV (Aa (Bh (cf (hs U s2 σ H2 x y v ov iv u _ I2 r1 r2 r q2) λ_ s3 ⟨H3,I3,q3⟩=>wpAny_release ⟨σ,H3,I3,q3⟩))))))))
def Ua(te:TE)(g:TG):TS:=λD σ H=>te σ H λx H1=>g x σ H1 D.nx
def yq{g:TG}(he:PE X e te)(hg:PG X tg g)(hs:‹KM [tg] e pos.line X.env=pure false›)(hw:‹Op [tg] e X.env=pure ce›)(h1:‹(Fa [tg] X.env).map (·.2)=[Os tg X.env]›):PS X (.Assign [tg] e pos) (Ua te g):=by
 intro U s σ H D I h;refine wpAny_Assign_stores (cf (he U s σ H _ I h) λv s1 ⟨x,H1,I1,r1,q1⟩=>?_) hs hw;rw[h1];exact cf (hg U s1 σ H1 x v _ I1 r1 q1) λ_ s2 q=>q
def m7(hN:X.N.Nodup)(hi:X.N[i]?=am x)(hx:Loc X.env.scope x)(he:PE X e te)(hs:‹r9 e (am (.Name x Ă)) pos.line X.env=pure false›)(hf:Tp X x:=by first|exact .inl rfl|exact .inr rfl|assumption):PS X (.Assign [.Name x Ă] e pos) (Ua te (eI i)):=by
 intro U s σ H D I h;refine wpAny_Assign_Name (cf (he U s σ H _ I h) λv s1 ⟨y,H1,I1,r1,q1⟩=>?_) hs;exact n9 I1 hN hi hx r1 (λs2 I2=>⟨_,H1,I2,q1⟩) hf
def ag6(i j:Nat)(ta:TA):TS:=λD σ H=>ta σ H λvs H1=>∃v w,vs=[v,w]/\D.nx ((σ.set i (am v)).set j (am w)) H1
def Zv{y:Str}{b:mo}{ta:TA}{kt k2 Zu}(hc:X.calm=true)(hN:X.N.Nodup)(hi:X.N[i]?=am x)(hj:X.N[j]?=am y)(Ď:i≠j)(hx:X.env.scope.names.lookup x=am .local)(hy:X.env.scope.names.lookup y=am .local)(ha:PA X [a,b] ta)(hw:Op [.Tuple [.Name x px,.Name y py] kt pt] (.Tuple [a,b] k2 Zu) X.env=pure (am [x,y]))(hs:‹KM [.Tuple [.Name x px,.Name y py] kt pt] (.Tuple [a,b] k2 Zu) pos.line X.env=pure false›):PS X (.Assign [.Tuple [.Name x px,.Name y py] kt pt] (.Tuple [a,b] k2 Zu) pos) (ag6 i j ta):=by
 intro U s σ H D I h;refine Aa (DV ?_);refine Aa (Ag ?_);refine Aa (Tuple_ (cf (ha _ U s σ H _ I h) λus s1 ⟨vs,H1,I1,r1,q1⟩=>?_));obtain⟨v,w,e1,q1⟩:=q1;subst e1;obtain⟨u1,u2,rfl,rv,G3⟩:∃u1 u2,us=[u1,u2]/\RelV v u1/\RelV w u2:=by
  cases r1 with
  |cons p q=>
   cases q with
   |cons p' q'=>
    cases q';exact⟨_,_,rfl,p,p'⟩
 refine Bf ?_ (by show 2<=sizeLine;decide);rw[hw];refine Aa (Ag ?_);refine Aa (CV (Aa (unpackItems_tuple (items:=#[u1,u2]) (I.ok.hd hc) (Ge s1.heap _) λh' xv=>?_)));refine Aa (assignInOrder_cons (wpAny_bindName (n9 ((I1.kept λb o e=>Ai _ e).kept (t':=s1.toks) λb o e=>xv b o (AH (Aq e)) e) hN hj (.inl hy) G3 (λs2 I4=>?_) (.inr hy))));refine assignInOrder_cons (wpAny_bindName (n9 I4 hN hi (.inl hx) rv (λs3 I5=>assignInOrder_nil (Ag ?_)) (.inr hx)));rw[List.set_comm _ _ (BE Ď)]at I5;exact⟨_,H1,I5,q1⟩
end
section
def YR(c:TT)(tb:TS):TS:=λD σ H=>∃W:Nat->St->Hp->Prop,(∃m,W m σ H)/\∀m σ H,W m σ H->
 c σ H λb H1=>if b=true then ∃N:St->Hp->Prop,(∀σ' H',N σ' H'->∃m',m'<m/\W m' σ' H')/\tb {D with nx:=N,ct:=N,bk:=D.nx} σ H1 else D.nx σ H1
def Ha{c:mo}{tc:TT}{tb:TS}(hp:wn (gl X.prog X.w) X.A X.env X.xe)(hc:PT X c tc)(hb:pO X body tb):PS X (.While c body [] pos) (YR tc tb):=by
 intro U s σ H D I h;obtain⟨W,⟨m0,w0⟩,turn⟩:=h;refine wpAny_While (codeAny_whileLoop (λn s'=>∃σ' H',Inv X U σ' H' s'/\W n σ' H') ?_ m0 ⟨σ,H,I,w0⟩);rintro n s1 ⟨σ1,H1,I1,w1⟩;refine Cu hp (cf (hc U s1 σ1 H1 _ I1 (turn n σ1 H1 w1)) λb s2 ⟨H2,I2,q2⟩=>?_);cases b with
 |true=>
  obtain⟨N,hN,q2⟩:=q2;refine Cu hp (cf (hb U s2 σ1 H2 _ I2 q2) λf s3 q3=>?_);cases f with
  |next=>
   obtain⟨σ3,H3,I3,n3⟩:=q3;obtain⟨m',hm,w3⟩:=hN σ3 H3 n3;exact⟨m',hm,σ3,H3,I3,w3⟩
  |cont=>
   obtain⟨σ3,H3,I3,n3⟩:=q3;obtain⟨m',hm,w3⟩:=hN σ3 H3 n3;exact⟨m',hm,σ3,H3,I3,w3⟩
  |brk=>exact q3
  |ret v=>exact q3
 |false=>
  exact D6 ⟨σ1,H2,I2,q2⟩
end
structure It where
 go:Nat->Hp->Prop
 TR:Nat->Hp->V->Hp->Prop
 stop:Nat->Hp->Prop
def wH(X:Cx)(U:O (db×Obj))(H:Hp)(b:db):Prop:=
 H b=ce/\b≠X.env.locals/\b∉X.fs/\(b∈X.ex\/X.s₀.heap.objs.size<=b)/\(∀x c,X.env.cells.lookup x=am c->c≠b)/\∀p∈X.pn++U,p.1≠b
def Inv.zm{s:cr}(I:Inv X U σ H s)(hb:s.heap.objs.size<=b)(hn:H' b=ce):wH X U H' b:=by
 refine⟨hn,Nat.ne_of_gt (AG I.lt hb),I.ahJ hb,.inr (AD I.sz hb),λx c e z=>?_,λp hp z=>?_⟩
 .obtain⟨v,q⟩:=I.cell x c e;exact absurd (AG q.lt (by rw[z];exact hb)) (AI _)
 .exact absurd (AG (Aq (I.pin p hp).1) (by rw[z];exact hb)) (AI _)
structure Turn(P:wE)(w:Db)(K:Ab)(tg:mo)(J:It)(fp:List db)(it:db)(tn:Nat->pc->Prop):Prop where
 mem:it∈fp
 obj:∀i h,tn i h->∀b∈fp,∃o,h.get? b=am o/\∀v,o.data≠.cell v
 keep:∀i h h',tn i h->(∀b∈fp,∀o,h.get? b=am o->h'.get? b=am o)->tn i h'
 item:∀(X:Cx),X.prog=P->X.w=w->X.K=K->X.calm=true->∀(i:Nat) (U:List (db×Obj)) (s:cr) (σ:St) (H:Hp) (E:ci->cr->Prop),Inv X U σ H s->(∀b∈fp,wH X U H b)->tn i s.heap->J.go i H->
  ga (gl P w) X.A (PP (.ref it)) (λr s1=>∃u,r=am u/\
   ga (gl P w) X.A (Sc tg (.ref it) u) (λ_ s2=>∃x H',Inv X U σ H' s2/\RelV x u/\J.TR i H x H'/\tn (i+1) s2.heap/\∀b∈fp,H' b=ce) E s1) E s
 done:∀(X:Cx),X.prog=P->X.w=w->X.K=K->X.calm=true->∀(i:Nat) (U:List (db×Obj)) (s:cr) (σ:St) (H:Hp) (E:ci->cr->Prop),Inv X U σ H s->(∀b∈fp,wH X U H b)->tn i s.heap->J.stop i H->
  ga (gl P w) X.A (PP (.ref it)) (λr s1=>r=ce/\Inv X U σ H s1) E s
 self:∀(A:EQ) (i:Nat) (s:cr) (Q:ci->cr->Prop) (E:ci->cr->Prop),tn i s.heap->Q (.ref it) s->ga (gl P w) A (pyIter (.ref it)) Q E s
abbrev TI:=St->Hp->(It->Hp->Prop)->Prop
def PIE(X:Cx)(U:O (db×Obj))(σ:St)(tg:mo)(R:It->Hp->Prop)(Ġ:ci)(s2:cr):Prop:=
 ∃(it:db) (fp:O db) (tn:Nat->pc->Prop) (J:It) (H':Hp),Ġ=.ref it/\Inv X U σ H' s2/\Turn X.prog X.w X.K tg J fp it tn/\tn 0 s2.heap/\(∀b∈fp,wH X U H' b)/\R J H'
def PI(X:Cx)(tg iter:mo)(wi:TI):Prop:=
 ∀(U:O (db×Obj)) (s:cr) (σ:St) (H:Hp) (R:It->Hp->Prop),Inv X U σ H s->wi σ H R->
  ga (gl X.prog X.w) X.A (o0 iter X.env) (λv s1=>ga (gl X.prog X.w) X.A (pyIter v) (PIE X U σ tg R) X.xe s1) X.xe s
def HQ{s:cr}{n:String}{vs:Array ci}{Q:Unit->cr->Prop}(ho:s.heap.get? it=am o)(hc:o.cls=.type n)(hd:o.data=.fields vs)(hn:["enumerate","zip","dict_itemiterator","dict_reverseitemiterator","odict_iterator","itertools.zip_longest","itertools.pairwise"].contains n=false)(hQ:Q () s):ga M A (Sc tg (.ref it) u) Q E s:=by
 unfold Sc;cases tg<;>first
  |exact Ag hQ
  |(cases u<;>first
    |exact Ag hQ
    |(
      refine Aa (wpAny_load ho ?_);rw[hc,hd];show ga M A (if (["enumerate","zip","dict_itemiterator","dict_reverseitemiterator","odict_iterator","itertools.zip_longest","itertools.pairwise"].contains n&&vs[0]?==am (xL _))=true then _ else _) Q E s;rw[if_neg (by intro h;rw[hn,Ez]at h;cases h)];exact Ag hQ))
def Itl(K:Ab)(a:db):It:=
 ⟨λi H=>∃xs x,b9 K H a xs/\xs[i]?=am x,λi H x H'=>H'=H/\∀xs,b9 K H a xs->xs[i]?=am x,λi H=>∃xs,b9 K H a xs/\xs.length<=i⟩
def Itt(K:Ab)(a:db):It:=
 ⟨λi H=>∃xs x,dU K H a xs/\xs[i]?=am x,λi H x H'=>H'=H/\∀xs,dU K H a xs->xs[i]?=am x,λi H=>∃xs,dU K H a xs/\xs.length<=i⟩
def Itr(lo:Int)(n:Nat):It:=⟨λi _=>i<n,λi H x H'=>H'=H/\x=.int (lo+i),λi _=>n<=i⟩
theorem Nc{K:Ab}(a it:db):Turn P w K tg (Itl K a) [it] it (λi h=>h.IsListIter it a i) where
 mem:=by simp
 obj:=λi h st b hb=>by
  have e:b=it:=by simpa using hb
  subst e;obtain⟨o,e,c,d⟩:=st;exact⟨o,e,λv z=>by rw[d]at z;cases z⟩
 keep:=λi h h' st k=>st.at λo e=>k it (by simp) o e
 item:=by
  intro X hP hw hK hc i U s σ H E I hf st hg;subst hP hw hK;obtain⟨xs,x,hq,hx⟩:=hg;obtain⟨aq,rv,p,hz⟩:=I.list hq;obtain⟨u,hu,ru⟩:=rv.get hx;obtain⟨f0,f1,f2,f3,f4,f5⟩:=hf it (by simp);refine wpAny_pyNext_list_item st p.isList (by simpa using hu) λh' sf sb=>?_;obtain⟨o,e,c,d⟩:=id sf;exact⟨u,rfl,HQ e c d ⋯ ⟨x,H,(I.turned (λb o hb e=>(sb.2 b hb).trans e) f0 f1 f3 f4 f5),ru,⟨rfl,λys hy=>by rw[I.um hy hq];exact hx⟩,sf,λb hb=>(hf b hb).1⟩⟩
 done:=by
  intro X hP hw hK hc i U s σ H E I hf st hg;subst hP hw hK;obtain⟨xs,hq,hx⟩:=hg;obtain⟨aq,rv,p,hz⟩:=I.list hq;obtain⟨f0,f1,f2,f3,f4,f5⟩:=hf it (by simp);have hl:=rv.length;exact wpAny_pyNext_list_end (I.ok.hd hc) st p.isList (by simp;lia) λh' eb=>⟨rfl,I.turned (t':=s.toks) (λb o hb e=>eb b o hb e) f0 f1 f3 f4 f5⟩
 self:=λ_ _ _ _ _ st h=>wpAny_pyIter_listiter st h
theorem Jo{K:Ab}(a it:db):Turn P w K tg (Itt K a) [it] it (λi h=>h.IsTupleIter it a i) where
 mem:=by simp
 obj:=λi h st b hb=>by
  have e:b=it:=by simpa using hb
  subst e;obtain⟨o,e,c,d⟩:=st;exact⟨o,e,λv z=>by rw[d]at z;cases z⟩
 keep:=λi h h' st k=>st.at λo e=>k it (by simp) o e
 item:=by
  intro X hP hw hK hc i U s σ H E I hf st hg;subst hP hw hK;obtain⟨xs,x,hq,hx⟩:=hg;obtain⟨aq,rv,p,hz⟩:=I.tuple hq;obtain⟨u,hu,ru⟩:=rv.get hx;obtain⟨f0,f1,f2,f3,f4,f5⟩:=hf it (by simp);refine wpAny_pyNext_tuple_item st (p) (by simpa using hu) λh' sf sb=>?_;obtain⟨o,e,c,d⟩:=id sf;exact⟨u,rfl,HQ e c d ⋯ ⟨x,H,(I.turned (λb o hb e=>(sb.2 b hb).trans e) f0 f1 f3 f4 f5),ru,⟨rfl,λys hy=>by rw[I.lM hy hq];exact hx⟩,sf,λb hb=>(hf b hb).1⟩⟩
 done:=by
  intro X hP hw hK hc i U s σ H E I hf st hg;subst hP hw hK;obtain⟨xs,hq,hx⟩:=hg;obtain⟨aq,rv,p,hz⟩:=I.tuple hq;obtain⟨f0,f1,f2,f3,f4,f5⟩:=hf it (by simp);have hl:=rv.length;exact wpAny_pyNext_tuple_end (I.ok.hd hc) st (show s.heap.IsTuple a aq.toArray from p) (by simp;lia) λh' eb=>⟨rfl,I.turned (t':=s.toks) (λb o hb e=>eb b o hb e) f0 f1 f3 f4 f5⟩
 self:=λ_ _ _ _ _ st h=>wpAny_pyIter_tupleiter st h
theorem Jp{K:Ab}(it:db)(lo:Int)(n:Nat):Turn P w K tg (Itr lo n) [it] it (λi h=>IsRangeIter h it (lo+(i:Nat)*1) ((n:Int)-(i:Nat)) 1) where
 mem:=by simp
 obj:=λi h st b hb=>by
  have e:b=it:=by simpa using hb
  subst e;exact⟨_,st,λv z=>by
   have z':=z;cases z'⟩
 keep:=λi h h' st k=>k it (by simp) _ st
 item:=by
  intro X hP hw hK hc i U s σ H E I hf st hg;subst hP hw hK;obtain⟨f0,f1,f2,f3,f4,f5⟩:=hf it (by simp);refine(Walks.range (prog:=X.prog) (I.ok.hd hc) it lo 1 n).item i s _ _ hg st λv h' tk hv sf kk=>?_;obtain⟨t,rfl⟩:=hv;refine⟨_,rfl,HQ sf rfl rfl ⋯ ⟨.int (lo+i),H,(I.turned (λb o hb e=>kk b o (by simpa using hb) e) f0 f1 f3 f4 f5),⟨t,?_⟩,⟨rfl,rfl⟩,sf,λb hb=>(hf b hb).1⟩⟩;rw[FK]
 done:=by
  intro X hP hw hK hc i U s σ H E I hf st hg;obtain⟨f0,f1,f2,f3,f4,f5⟩:=hf it (by simp);exact wpAny_pyNext_range_end (I.ok.hd hc) st (by have:n<=i:=hg;lia) λh' eb=>⟨rfl,I.turned (λb o hb e=>eb b o hb e) f0 f1 f3 f4 f5⟩
 self:=λ_ _ _ _ _ st h=>wpAny_pyIter_rangeiter st h
end L2
variable{p:Cn}{fp:O Bq}{iter:BC}{wi:L2.TI}
namespace L2
section
theorem Qp{s:cr}{R:It->Hp->Prop}{lo hi:Int}{t u v:Tok}{tk:Nat}(I:Inv X U σ H s)(h1:-(2 ^ 62)<=lo)(h2:lo < 2 ^ 62)(h3:-(2 ^ 62)<=hi)(h4:hi < 2 ^ 62)(q:R (Itr lo (hi-lo).toNat) H):ga (gl X.prog X.w) X.A (pyIter (.ref s.heap.objs.size)) (PIE X U σ tg R) E {s with heap:=s.heap.push {cls:=.type "range",data:=.fields #[.int lo t,.int hi u,.int 1 v]},toks:=tk}:=by
 refine wpAny_pyIter_range (IsRange.new ..) (small_one h1 h2 h3 h4) ?_;have I1:Inv X U σ H {s with heap:=s.heap.push {cls:=.type "range",data:=.fields #[.int lo t,.int hi u,.int 1 v]},toks:=tk}:=I.kept λb o e=>Ai _ e;refine⟨(s.heap.push {cls:=.type "range",data:=.fields #[.int lo t,.int hi u,.int 1 v]}).objs.size,[(s.heap.push {cls:=.type "range",data:=.fields #[.int lo t,.int hi u,.int 1 v]}).objs.size],_,_,H,rfl,
  I1.kept (t':=tk) λb o e=>Ai _ e,Jp _ lo (hi-lo).toNat,?_,λb hb=>?_,q⟩
 .have e1:lo+((0:Nat):Int)*1=lo:=by simp
  have e2:(((hi-lo).toNat:Nat):Int)-((0:Nat):Int)=Builtin.Range.rangeSize lo hi 1:=by rw[rangeSize_one];split<;>lia
  show IsRangeIter _ _ (lo+((0:Nat):Int)*1) ((((hi-lo).toNat:Nat):Int)-((0:Nat):Int)) 1;rw[e1,e2];exact An _ rfl
 .have e:b=(s.heap.push {cls:=.type "range",data:=.fields #[.int lo t,.int hi u,.int 1 v]}).objs.size:=by simpa using hb
  subst e;exact I1.zm (Al _) (I1.bG.fresh (Al _))
def ad6(ta:TA):TI:=λσ H R=>ta σ H λvs H1=>∃j:Int,vs=[.int j]/\-(2 ^ 62)<=j/\j<2 ^ 62/\R (Itr 0 j.toNat) H1
theorem ND{ta:TA}(hg:Gl X "range")(hm:X.mg "range"=ce)(ha:PA X [a] ta)(hs:‹gt [a] X.env=[(false,o0 a X.env)]›):PI X tg (.Call (.Name "range" p) [a] [] pos) (ad6 ta):=by
 intro U s σ H R I h;refine Call_ (gQ I hg hm boot_range (Bs (cf (ha pos U s σ H _ I h) λus s1 ⟨vs,H1,I1,r1,q1⟩=>?_) hs rfl));obtain⟨j,e,q1,q2,q⟩:=q1;subst e;cases r1 with
 |cons r rr=>
  cases rr;obtain⟨t,rfl⟩:=r;exact call_range_1 (Qp I1 ∅ ∅ q1 q2 (by simpa using q))
def ag9(wi:TI)(g:TG)(tb:TS):TS:=λD σ H=>wi σ H λJ H1=>∃W:Nat->Nat->St->Hp->Prop,(∃m,W 0 m σ H1)/\∀i m σ H,W i m σ H->
 (J.stop i H/\D.nx σ H)\/(J.go i H/\∃N:St->Hp->Prop,(∀σ' H',N σ' H'->∃m',m'<m/\W (i+1) m' σ' H')/\∀x H',J.TR i H x H'->g x σ H' λσ2 H2=>tb {D with nx:=N,ct:=N,bk:=D.nx} σ2 H2)
def qb(fp:O db)(h:pc):O (db×Obj):=fp.filterMap λb=>(h.get? b).map λo=>(b,o)
def jH(hb:b∈fp)(e:h.get? b=am o):(b,o)∈qb fp h:=Ex.mpr ⟨b,hb,by rw[e];rfl⟩
def NK{p:db×Obj}(hp:p∈qb fp h):p.1∈fp/\h.get? p.1=am p.2:=by
 obtain⟨b,hb,e⟩:=Ex.mp hp;cases q:h.get? b with
 |none=>rw[q]at e;cases e
 |some o=>
  rw[q]at e;have e':=Option.some.inj e;subst e';exact⟨hb,q⟩
def Inv.pinned{s:cr}(I:Inv X U σ H s)(hf:∀b∈fp,wH X U H b)(ho:∀b∈fp,∃o,s.heap.get? b=am o/\∀v,o.data≠.cell v):Inv X (U++qb fp s.heap) σ H s:=
 I.Mc λp hp=>(AO.mp hp).elim (λz=>I.pin p (A1 _ z)) λz=>by
  obtain⟨hb,e⟩:=NK z;obtain⟨f0,f1,f2,_⟩:=hf p.1 hb;obtain⟨o,e',d⟩:=ho p.1 hb;rw[e]at e';cases e';exact⟨e,f0,f1,f2,d⟩
def Inv.kO{pl:O (db×Obj)}{s:cr}(I:Inv X (U++pl) σ H s):Inv X U σ H s:=I.Mc λp hp=>I.pin p (A1 _ (Ba _ hp))
def QD{g:TG}{tb:TS}(hp:wn (gl X.prog X.w) X.A X.env X.xe)(hc:X.calm=true)(hi:PI X tg iter wi)(hg:PG X tg g)(hb:pO X body tb)(hs:rj X iter:=by intro _;rfl):PS X (.For tg iter body [] pos) (ag9 wi g tb):=by
 intro U s σ H D I h;refine wpAny_For (cf (hi U s σ H _ I h) λv s1 h1=>cf h1 λĠ s2 h2=>?_) hs;obtain⟨it,fp,tn,J,H2,e,I2,T,Nk,f2,W,⟨m0,w0⟩,turn⟩:=h2;subst e;have YZ:∀{H':Hp},(∀b∈fp,H' b=ce)->∀b∈fp,wH X U H' b:=λhn b hb=>⟨hn b hb,(f2 b hb).2⟩;refine codeAny_forLoop_any (λn s'=>∃i σ' H',Inv X U σ' H' s'/\tn i s'.heap/\(∀b∈fp,H' b=ce)/\W i n σ' H') ?_ m0 ⟨0,σ,H2,I2,Nk,λb hb=>(f2 b hb).1,w0⟩;rintro n s3 ⟨i,σ3,H3,I3,þ,ē,w3⟩;rcases turn i n σ3 H3 w3 with⟨stop,qn⟩|⟨go,N,hN,step⟩
 .refine Cu hp (cf (T.done X rfl rfl rfl hc i U s3 σ3 H3 X.xe I3 (YZ ē) þ stop) λr s4 ⟨hr,I4⟩=>?_);subst hr;exact D6 ⟨σ3,H3,I4,qn⟩
 .refine Cu hp (cf (T.item X rfl rfl rfl hc i U s3 σ3 H3 X.xe I3 (YZ ē) þ go) λr s4 ⟨u,hr,h4⟩=>?_);subst hr;refine Cu hp (cf h4 λ_ s5 ⟨x,H5,I5,r5,y5,Y0,ś⟩=>?_);refine Cu hp (cf (hg _ s5 σ3 H5 x u _ (I5.pinned (YZ ś) (T.obj _ _ Y0)) r5 (step x H5 y5)) λ_ s6 ⟨σ6,H6,I6,q6⟩=>?_);refine Cu hp (cf (hb _ s6 σ6 H6 _ I6 q6) λf s7 q7=>?_);have again:∀{σ7:St}{H7:Hp},Inv X (U++qb fp s5.heap) σ7 H7 s7->N σ7 H7->∃m,m<n/\∃i σ' H',Inv X U σ' H' s7/\tn i s7.heap/\(∀b∈fp,H' b=ce)/\W i m σ' H':=λ{σ7 H7} I7 n7=>by
   obtain⟨m',hm,w7⟩:=hN σ7 H7 n7;refine⟨m',hm,i+1,σ7,H7,I7.kO,T.keep _ _ _ Y0 λb hb o e=>(I7.pin (b,o) (A1 _ (A1 _ (jH hb e)))).1,λb hb=>?_,w7⟩;obtain⟨o,e,d⟩:=T.obj _ _ Y0 b hb;exact(I7.pin (b,o) (A1 _ (A1 _ (jH hb e)))).2.1
  cases f with
  |next=>obtain⟨σ7,H7,I7,n7⟩:=q7;exact again I7 n7
  |cont=>obtain⟨σ7,H7,I7,n7⟩:=q7;exact again I7 n7
  |brk=>obtain⟨σ7,H7,I7,q7⟩:=q7;exact⟨σ7,H7,I7.kO,q7⟩
  |ret v=>obtain⟨x7,σ7,H7,I7,r7,q7⟩:=q7;exact⟨x7,σ7,H7,I7.kO,r7,q7⟩
end
end L2
variable{i:Int}{g:Int->Int->Int}{aq:O A8}
namespace L2
abbrev R2:=V->V->Hp->VK->Prop
def iX(X:Cx)(f:ci->ci->Sem ci)(r:R2):Prop:=
 ∀(U:O (db×Obj)) (s:cr) (σ:St) (H:Hp) (x y:V) (v u:ci) (Q:VK),Inv X U σ H s->RelV x v->RelV y u->r x y H Q->
  ga (gl X.prog X.w) X.A (f v u) (EP X U σ Q) X.xe s
def UnR(X:Cx)(f:ci->Sem ci)(r:V->Hp->VK->Prop):Prop:=
 ∀(U:O (db×Obj)) (s:cr) (σ:St) (H:Hp) (x:V) (v:ci) (Q:VK),Inv X U σ H s->RelV x v->r x H Q->
  ga (gl X.prog X.w) X.A (f v) (EP X U σ Q) X.xe s
def cB(X:Cx)(f:ci)(r:O V->Hp->VK->Prop):Prop:=
 ∀(U:O (db×Obj)) (s:cr) (σ:St) (H:Hp) (xs:O V) (us:O ci) (Q:VK),Inv X U σ H s->Vals xs us->r xs H Q->
  ga (gl X.prog X.w) X.A (call f us) (EP X U σ Q) X.xe s
def ajh(X:Cx)(r:V->Hp->(Bool->Hp->Prop)->Prop):Prop:=
 ∀(U:O (db×Obj)) (s:cr) (σ:St) (H:Hp) (x:V) (v:ci) (Q:Bool->Hp->Prop),Inv X U σ H s->RelV x v->r x H Q->
  ga (gl X.prog X.w) X.A (truthy v) (TP X U σ Q) X.xe s
def Xd(r:R2)(ta tb:TE):TE:=λσ H Q=>ta σ H λx H1=>tb σ H1 λy H2=>r x y H2 Q
def tUn(r:V->Hp->VK->Prop)(ta:TE):TE:=λσ H Q=>ta σ H λx H1=>r x H1 Q
def rI(C:Int->Int->Prop)(g:Int->Int->V):R2:=λx y H Q=>∃i j,x=.int i/\y=.int j/\C i j/\Q (g i j) H
def UK(g:Int->Int->V):R2:=λx y H Q=>∃i j,x=.int i/\y=.int j/\Q (g i j) H
def rU(g:Int->V):V->Hp->VK->Prop:=λx H Q=>∃i,x=.int i/\Q (g i) H
section
variable{b:mo}
def abq(ha:PE X a ta)(hb:PE X b tb){s:cr}(I:Inv X U σ H s)(h:ta σ H λx H1=>tb σ H1 λy H2=>R x y H2){f:ci->ci->Sem ci}(hf:∀v u s2 x y H2,Inv X U σ H2 s2->RelV x v->RelV y u->R x y H2->ga (gl X.prog X.w) X.A (f v u) Q X.xe s2):ga (gl X.prog X.w) X.A (o0 a X.env) (λv s₁=>ga (gl X.prog X.w) X.A (o0 b X.env) (λu s₂=>ga (gl X.prog X.w) X.A (f v u) Q X.xe s₂) X.xe s₁) X.xe s:=by
 exact cf (ha U s σ H _ I h) λv s1 ⟨x,H1,I1,r1,q1⟩=>cf (hb U s1 σ H1 _ I1 q1) λu s2 ⟨y,H2,I2,r2,q2⟩=>hf v u s2 x y H2 I2 r1 r2 q2
def dC{op:Operator}{r:R2}(ho:iX X (t0 op) r)(ha:PE X a ta)(hb:PE X b tb):PE X (.BinOp a op b pos) (Xd r ta tb):=by
 intro U s σ H Q I h;exact wpAny_BinOp (abq ha hb I h λv u s2 x y H2 I2 rx ry q=>ho U s2 σ H2 x y v u Q I2 rx ry q)
def ado{op:UnaryOp}{r:V->Hp->VK->Prop}(ho:UnR X (unaryOp op) r)(ha:PE X a ta):PE X (.UnaryOp op a pos) (tUn r ta):=by
 intro U s σ H Q I h;exact UnaryOp_ (cf (ha U s σ H _ I h) λv s1 ⟨x,H1,I1,r1,q1⟩=>ho U s1 σ H1 x v Q I1 r1 q1)
def opI{f:ci->ci->Sem ci}{C:Int->Int->Prop}(rule:∀(i j:Int) (t u:Tok) (s:cr) (Q:ci->cr->Prop) (E:ci->cr->Prop),C i j->Q (.int (g i j) s.toks) {s with toks:=s.toks+1}->ga (gl X.prog X.w) X.A (f (.int i t) (.int j u)) Q E s):iX X f (rI C λi j=>.int (g i j)):=by
 intro U s σ H x y v u Q I rx ry h;obtain⟨i,j,rfl,rfl,hc,q⟩:=h;obtain⟨t,rfl⟩:=rx;obtain⟨t',rfl⟩:=ry;exact rule i j t t' s _ _ hc ⟨.int (g i j),H,I.tok _,⟨_,rfl⟩,q⟩
def adE{f:ci->ci->Sem ci}(rule:∀(i j:Int) (t u:Tok) (s:cr) (Q:ci->cr->Prop) (E:ci->cr->Prop),Q (.int (g i j) s.toks) {s with toks:=s.toks+1}->ga (gl X.prog X.w) X.A (f (.int i t) (.int j u)) Q E s):iX X f (UK λi j=>.int (g i j)):=by
 intro U s σ H x y v u Q I rx ry h;obtain⟨i,j,rfl,rfl,q⟩:=h;obtain⟨t,rfl⟩:=rx;obtain⟨t',rfl⟩:=ry;exact rule i j t t' s _ _ ⟨.int (g i j),H,I.tok _,⟨_,rfl⟩,q⟩
def Vc{f:ci->ci->Sem ci}{g:Int->Int->Bool}(rule:∀(i j:Int) (t u:Tok) (s:cr) (Q:ci->cr->Prop) (E:ci->cr->Prop),Q (.bool (g i j)) s->ga (gl X.prog X.w) X.A (f (.int i t) (.int j u)) Q E s):iX X f (UK λi j=>.bl (g i j)):=by
 intro U s σ H x y v u Q I rx ry h;obtain⟨i,j,rfl,rfl,q⟩:=h;obtain⟨t,rfl⟩:=rx;obtain⟨t',rfl⟩:=ry;exact rule i j t t' s _ _ ⟨.bl (g i j),H,I,rfl,q⟩
def W6(i j:Int):Prop:=0<j/\j<1073741824
def O3(i j:Int):Prop:=0<=j/\j<=1000000/\i.natAbs<2 ^ 64
def W5(i j:Int):Prop:=(-(2 ^ 64)<i/\i<2 ^ 64)\/(-(2 ^ 64)<j/\j<2 ^ 64)
def W5.ok{j:Int}(h:W5 i j):wP i j:=by
 rcases h with⟨h1,h2⟩|⟨h1,h2⟩
 .exact .of_left (intBits_le_64 h1 h2)
 .exact .of_right (intBits_le_64 h1 h2)
def ZL:iX X (t0 .Add) (UK λi j=>.int (i+j)):=adE λ_ _ _ _ _ _ _ q=>add_int q
def ZE:iX X (t0 .Sub) (UK λi j=>.int (i-j)):=adE λ_ _ _ _ _ _ _ q=>sub_int q
theorem sE:iX X (t0 .FloorDiv) (rI W6 λi j=>.int (i / j)):=opI λi j _ _ _ _ _ hc q=>by
 have h1:(0:Int)<j:=hc.1;have h2:j<1073741824:=hc.2;exact floordiv_int ∅ (by rw[Int.fdiv_eq_ediv_of_nonneg i ∅];exact q) (.inl (PyProof.noPylong_small ∅))
theorem qe:iX X (t0 .Mod) (rI (λ_ j=>0<j) λi j=>.int (i % j)):=opI λi j _ _ _ _ _ hc q=>by
 have h1:(0:Int)<j:=hc;exact mod_int' ∅ (by rw[Int.fmod_eq_emod_of_nonneg i ∅];exact q)
def ZG:iX X (t0 .Pow) (rI O3 λi j=>.int (i ^ j.toNat)):=opI λ_ _ _ _ _ _ _ hc q=>pow_int_small hc.1 hc.2.1 hc.2.2 q
def unI{f:ci->Sem ci}{g:Int->Int}(rule:∀(i:Int) (t:Tok) (s:cr) (Q:ci->cr->Prop) (E:ci->cr->Prop),Q (.int (g i) s.toks) {s with toks:=s.toks+1}->ga (gl X.prog X.w) X.A (f (.int i t)) Q E s):UnR X f (rU λi=>.int (g i)):=by
 intro U s σ H x v Q I rx h;obtain⟨i,rfl,q⟩:=h;obtain⟨t,rfl⟩:=rx;exact rule i t s _ _ ⟨.int (g i),H,I.tok _,⟨_,rfl⟩,q⟩
def YI:UnR X (unaryOp .USub) (rU λi=>.int (-i)):=unI λ_ _ _ _ _ q=>neg_int q
end
def ahi:V->V->Bool
 |.aO,.aO=>true|.aO,.int _=>true|.int _,.aO=>true|.aO,.bl _=>true|.bl _,.aO=>true|.aO,.str _=>true|.str _,.aO=>true
 |.int _,.int _=>true|.bl _,.bl _=>true|.str _,.str _=>true|.OU _,.OU _=>true
 |.int _,.str _=>true|.str _,.int _=>true|.bl _,.str _=>true|.str _,.bl _=>true
 |_,_=>false
def rEq:R2:=λx y H Q=>ahi x y=true/\Q (.bl (decide (x=y))) H
def MY{j:Int}:decide (V.int i=V.int j)=(i==j):=by
 rw[Du];simp
def abf{i j:Bool}:decide (V.bl i=V.bl j)=(i==j):=by
 rw[Du];simp
def Wv{i j:Str}:decide (V.str i=V.str j)=(i==j):=by
 rw[Du];simp
def Ww{i j:Array UInt8}:decide (V.OU i=V.OU j)=(i.toList==j.toList):=by
 rw[Du];cases i;cases j;simp
section
variable{b c:mo}
def df{s:cr}{Q:VK}{k k':Bool}(I:Inv X U σ H s)(q:Q (.bl k) H)(e:k=k'):EP X U σ Q (.bool k') s:=by
 subst e;exact⟨.bl k,H,I,rfl,q⟩
def adD:iX X (sn .Eq) rEq:=by
 intro U s σ H x y v u Q I rx ry h;obtain⟨hs,q⟩:=h;cases x with
 |aO=>
  cases rx;cases y with
  |aO=>cases ry;exact PySem.EqNone.eq_none_none (df I q (by simp))
  |bl j=>cases ry;exact PySem.EqNone.eq_none_bool (df I q (by simp))
  |int j=>obtain⟨t',rfl⟩:=ry;exact PySem.EqNone.eq_none_int (df I q (by simp))
  |str j=>obtain⟨t',rfl⟩:=ry;exact PySem.EqNone.eq_none_str (df I q (by simp))
  |_=>exact absurd (hs) AX
 |bl i=>
  cases rx;cases y with
  |aO=>cases ry;exact PySem.EqNone.eq_bool_none (df I q (by simp))
  |bl j=>cases ry;exact eq_bool (df I q abf)
  |str j=>obtain⟨t',rfl⟩:=ry;exact PySem.EqMixed.eq_bool_str (df I q (by simp))
  |_=>exact absurd (show false=true from hs) AX
 |int i=>
  obtain⟨t,rfl⟩:=rx;cases y with
  |aO=>cases ry;exact PySem.EqNone.eq_int_none (df I q (by simp))
  |int j=>obtain⟨t',rfl⟩:=ry;exact eq_int (df I q MY)
  |str j=>obtain⟨t',rfl⟩:=ry;exact PySem.EqMixed.eq_int_str (df I q (by simp))
  |_=>exact absurd (show false=true from hs) AX
 |str i=>
  obtain⟨t,rfl⟩:=rx;cases y with
  |aO=>cases ry;exact PySem.EqNone.eq_str_none (df I q (by simp))
  |bl j=>cases ry;exact PySem.EqMixed.eq_str_bool (df I q (by simp))
  |int j=>obtain⟨t',rfl⟩:=ry;exact PySem.EqMixed.eq_str_int (df I q (by simp))
  |str j=>obtain⟨t',rfl⟩:=ry;exact eq_str (df I q Wv)
  |_=>exact absurd (show false=true from hs) AX
 |OU i=>
  obtain⟨t,rfl⟩:=rx;cases y with
  |OU j=>obtain⟨t',rfl⟩:=ry;exact PySem.W.eq_bytes (df I q Ww)
  |_=>exact absurd (show false=true from hs) AX
 |_=>cases y<;>exact absurd (show false=true from hs) AX
def adz:iX X (sn .Lt) (UK λi j=>.bl (decide (i<j))):=Vc λ_ _ _ _ _ _ _ q=>lt_int q
def adA:iX X (sn .LtE) (UK λi j=>.bl (decide (i<=j))):=Vc λ_ _ _ _ _ _ _ q=>le_int q
def adB:iX X (sn .Gt) (UK λi j=>.bl (decide (j<i))):=Vc λ_ _ _ _ _ _ _ q=>gt_int q
def adC:iX X (sn .GtE) (UK λi j=>.bl (decide (j<=i))):=Vc λ_ _ _ _ _ _ _ q=>ge_int q
def ZI:iX X (sn .Is) (λx y H Q=>y=.aO/\Q (.bl (decide (x=.aO))) H):=by
 intro U s σ H x y v u Q I rx ry h;obtain⟨rfl,q⟩:=h;cases ry;refine is_none_gen (df I q ?_);cases x<;>first
  |(cases rx;rfl)
  |(obtain⟨t,rfl⟩:=rx;rfl)
def U7:iX X (sn .IsNot) (λx y H Q=>y=.aO/\Q (.bl (!decide (x=.aO))) H):=by
 intro U s σ H x y v u Q I rx ry h;obtain⟨rfl,q⟩:=h;cases ry;refine isnot_none_gen (df I q ?_);cases x<;>first
  |(cases rx;rfl)
  |(obtain⟨t,rfl⟩:=rx;rfl)
def iX.or{f:ci->ci->Sem ci}{r r':R2}(h:iX X f r)(h':iX X f r'):iX X f (λx y H Q=>r x y H Q\/r' x y H Q):=by
 intro U s σ H x y v u Q I rx ry q;rcases q with q|q
 .exact h U s σ H x y v u Q I rx ry q
 .exact h' U s σ H x y v u Q I rx ry q
def gJ(b:mo){op:CmpOp}(h: ~~~(op≠.In))(h2: ~~~(op≠.NotIn)):sB op b=false:=by
 have e1:(op==CmpOp.In)=false:=by cases op<;>first|rfl|exact absurd rfl h
 have e2:(op==CmpOp.NotIn)=false:=by cases op<;>first|rfl|exact absurd rfl h2
 cases b<;>simp[sB,e1,e2]
def Md{op:CmpOp}{r:R2}(ho:iX X (sn op) r)(ha:PE X a ta)(hb:PE X b tb)(hm:sB op b=false):PE X (.Compare a [op] [b] pos) (Xd r ta tb):=by
 intro U s σ H Q I h;exact wpAny_Compare1 (abq ha hb I h λv u s2 x y H2 I2 rx ry q=>ho U s2 σ H2 x y v u Q I2 rx ry q) hm
def Xc(t:TE):TT:=λσ H Q=>t σ H λx H'=>∃k,x=.bl k/\Q k H'
def ib{op:CmpOp}{r:R2}(ho:iX X (sn op) r)(ha:PE X a ta)(hb:PE X b tb)(hm:sB op b=false):PT X (.Compare a [op] [b] pos) (Xc (Xd r ta tb)):=by
 intro U s σ H Q I h;refine wpAny_isTrue_Compare1 (cf (ha U s σ H _ I h) λv s1 ⟨x,H1,I1,r1,q1⟩=>cf (hb U s1 σ H1 _ I1 q1) λu s2 ⟨y,H2,I2,r2,q2⟩=>
  cf (ho U s2 σ H2 x y v u _ I2 r1 r2 q2) λc s3 ⟨z,H3,I3,r3,k,e,q3⟩=>?_) hm
 subst e;cases r3;exact DG ⟨H3,I3,q3⟩
def abw(K:Ab)(x:V)(H:Hp)(k:Bool):Prop:=
 match x with
 |.aO=>k=false
 |.bl b=>k=b
 |.int i=>k=(i != 0)
 |.str y=>y.length<=sizeLine/\k=((y.length:Int) != 0)
 |.OU y=>y.size<=sizeLine/\k=((y.size:Int) != 0)
 |.ref p=>(∃xs,b9 K H p xs/\k=!xs.isEmpty)\/(∃xs,dU K H p xs/\k=!xs.isEmpty)\/∃au,H p=am (.dK au)/\k=!au.isEmpty
 |_=>False
def Kk{au:O (κ×V)}{vs:O (κ×ci)}(r:KV au vs):(!vs.isEmpty)=!au.isEmpty:=by
 cases r<;>rfl
def uy(r:Vals xs aq):(!aq.toArray.isEmpty)=!xs.isEmpty:=by
 cases r<;>simp
def yS:(sizeLine:Nat)<2 ^ 63:=by rw[IR];decide
theorem YN:ajh X (λx H Q=>∃k,abw X.K x H k/\Q k H):=by
 intro U s σ H x v Q I rx h;obtain⟨k,e,q⟩:=h;have hs:=IR;cases x with
 |aO=>
  cases rx;have e':=e;subst e';exact truthy_none ⟨H,I,q⟩
 |bl b=>
  cases rx;have e':=e;subst e';exact DG ⟨H,I,q⟩
 |int i=>
  obtain⟨t,rfl⟩:=rx;have e':=e;subst e';exact PySem.P.truthy_int ⟨H,I,q⟩
 |str y=>
  obtain⟨t,rfl⟩:=rx;obtain⟨hy,e'⟩:y.length<=sizeLine/\k=((y.length:Int) != 0):=e;subst e';exact PySem.P.truthy_str ∅ ⟨H,I.tok _,q⟩
 |OU y=>
  obtain⟨t,rfl⟩:=rx;obtain⟨hy,e'⟩:y.size<=sizeLine/\k=((y.size:Int) != 0):=e;subst e';exact PySem.W.truthy_bytes ∅ ⟨H,I.tok _,q⟩
 |ref p=>
  cases rx;have e':=e;rcases e' with⟨xs,hx,e'⟩|⟨xs,hx,e'⟩|⟨au,hx,e'⟩
  .subst e';obtain⟨aq,r,pl,hz⟩:=I.list hx;have Á:=r.length;exact wpAny_truthy_list pl.isList (by simp;lia) ⟨H,I.tok _,by rw[uy r];exact q⟩
  .subst e';obtain⟨aq,r,pl,hz⟩:=I.tuple hx;have Á:=r.length;exact truthy_tuple pl (by simp only[Am];lia) ⟨H,I.tok _,by rw[uy r];exact q⟩
  .subst e';obtain⟨hz,hS,vs,r,m⟩:au.length<=sizeLine/\(p==wT)=false/\∃vs,KV au vs/\s.heap.DictOf (bQ X.prog X.w) p vs:=I.bG p _ hx;have Á:=Paired.length r;exact wpAny_truthy_dict hS m ∅ ⟨H,I.tok _,by rw[Kk r];exact q⟩
 |_=>exact(e).elim
def QB(ha:PE X a ta)(he:∀Ä,isTrue a X.env Ä=(do let v <- Ä;standAt a.pos;KB [v] (truthy v))):PT X a (λσ H Q=>ta σ H λx H'=>∃k,abw X.K x H' k/\Q k H'):=by
 intro U s σ H Q I h;exact isTrue_plain (cf (ha U s σ H _ I h) λv s1 ⟨x,H1,I1,r1,q1⟩=>YN U s1 σ H1 x v Q I1 r1 q1) (he _)
def JK:iX X (t0 .Add) (λx y H Q=>∃i j,x=.str i/\y=.str j/\i.length+j.length<=sizeLine/\Q (.str (i++j)) H):=by
 intro U s σ H x y v u Q I rx ry h;obtain⟨i,j,rfl,rfl,hz,q⟩:=h;obtain⟨t,rfl⟩:=rx;obtain⟨t',rfl⟩:=ry;exact add_str (λt' tk=>⟨.str (i++j),H,I.tok _,⟨_,rfl⟩,q⟩) hz
def vals1{x:V}(r:Vals [x] us):∃u,us=[u]/\RelV x u:=by
 cases r with
 |cons r1 r2=>cases r2;exact⟨_,rfl,r1⟩
def vals2{x:V}(r:Vals [x,y] us):∃u w',us=[u,w']/\RelV x u/\RelV y w':=by
 cases r with
 |cons r1 r2=>
  cases r2 with
  |cons r3 r4=>cases r4;exact⟨_,_,rfl,r1,r3⟩
def OT:cB X (.type "int") (λxs H Q=>(∃i,xs=[.int i]/\Q (.int i) H)\/∃k,xs=[.bl k]/\Q (.int (if k then 1 else 0)) H):=by
 intro U s σ H xs us Q I r h;rcases h with⟨i,rfl,q⟩|⟨k,rfl,q⟩
 .obtain⟨u,rfl,t,rfl⟩:=vals1 r;exact call_int_int ⟨.int i,H,I,⟨_,rfl⟩,q⟩
 .obtain⟨u,rfl,r1⟩:=vals1 r;cases r1;exact call_int_bool ⟨.int (if k then 1 else 0),H,I.tok _,⟨_,rfl⟩,q⟩
def afj(K:Ab)(x:V)(H:Hp)(n:Nat):Prop:=
 match x with
 |.str y=>y.length<=sizeLine/\n=y.length
 |.OU y=>y.size<=sizeLine/\n=y.size
 |.ref p=>(∃xs,b9 K H p xs/\n=xs.length)\/∃xs,dU K H p xs/\n=xs.length
 |_=>False
theorem S5:cB X (.builtin "len") (λxs H Q=>∃x n,xs=[x]/\afj X.K x H n/\Q (.int n) H):=by
 intro U s σ H xs us Q I r h;obtain⟨x,n,rfl,e,q⟩:=h;obtain⟨u,rfl,rx⟩:=vals1 r;have hs:=IR;cases x with
 |str y=>
  obtain⟨t,rfl⟩:=rx;obtain⟨hy,e'⟩:y.length<=sizeLine/\n=y.length:=e;subst e';exact len_str ∅ ⟨.int _,H,I.tok _,⟨_,rfl⟩,q⟩
 |OU y=>
  obtain⟨t,rfl⟩:=rx;obtain⟨hy,e'⟩:y.size<=sizeLine/\n=y.size:=e;subst e';exact PySem.W.len_bytes ∅ ⟨.int _,H,I.tok _,⟨_,rfl⟩,q⟩
 |ref p=>
  cases rx;have e':=e;rcases e' with⟨xs,hx,e'⟩|⟨xs,hx,e'⟩
  .subst e';obtain⟨aq,r',pl,hz⟩:=I.list hx;have Á:=r'.length;exact Calls.call_len_list pl.isList (by simp;lia) ⟨.int xs.length,H,I.tok _,⟨_,by simp only[Am];rw[Á]⟩,q⟩
  .subst e';obtain⟨aq,r',pl,hz⟩:=I.tuple hx;have Á:=r'.length;exact len_tuple pl (by simp only[Am];lia) ⟨.int xs.length,H,I.tok _,⟨_,by simp only[Am];rw[Á]⟩,q⟩
 |_=>exact(e).elim
end
end L2
variable{a:Bq}{mA:Cf->Option A8}
namespace L2
structure abz(h:pc)(x dx C:db)(mA:Str->Option ci):Prop where
 obj:h.get? x=am (Fg C dx)
 ns:h.Ns1 dx mA
 ne:dx≠x
def NU{dx:db}(n:h.Ns1 dx mA):∃od,h.get? dx=am od/\∀name,FC name od=am (mA name):=by
 obtain⟨o,es,ep,ho,hd,hk,_,hm⟩:=n;refine⟨o,ho,λname=>?_⟩;have e:=hm name;unfold nsFind findBy at e;rw[<- Array.find?_toList]at e;unfold FC;rw[hd];dsimp only
 split
 .rename_i y q;rw[q]at e;exact congrArg am e
 .rename_i q;rw[q]at e;have a:es.toList.any (·.refKey)=false:=by
   rw[List.any_eq_false];intro y hy;obtain⟨z,t,aiw⟩:=hk y (Array.mem_toList_iff.mp hy);simp[DictEntry.refKey,aiw]
  have a':¬es.toList.any (·.refKey)=true:=by rw[a];exact AX
  rw[if_neg a'];exact congrArg am e
def abz.look{x dx C:db}(I:abz h x dx C mA):∃od,PySem.W.InstAt h x (Fg C dx) C (am od)/\∀name,FC name od=am (mA name):=
 let ⟨od,ho,hl⟩:=NU I.ns
 ⟨od,⟨I.obj,rfl,rfl,ho⟩,hl⟩
def Gq.some_of{o:Option ci}(r:Gq (am v) o):∃u,o=am u/\RelV v u:=by
 cases o with
 |none=>exact(r).elim
 |some u=>exact⟨u,rfl,r⟩
section
variable{C dx:db}{fs:O (Str×V)}
def VQ(bG:mH P w H h)(e:H a=am (.ins C dx fs)):∃mA,abz h a dx C mA/\(∀f,Gq (fs.lookup f) (mA f))/\PySem.Within mA (fs.map (·.1))/\fs.length<=1000/\H dx=am (.own a):=by
 obtain⟨d,z,ne,ob,mA,n,r,q⟩:=(bG a _ e);exact⟨mA,⟨ob,n,ne⟩,r,q,z,d⟩
end
structure Cls(K:Ab)(C:db):Prop where
 pg:Ga K C Str.empty=true
 hd:PySem.W.hasDictIn K C=true
 po:PySem.W.plainOver K C=true
 sa:FE K (.ref C) "__setattr__"=am (am (.builtin "object.__setattr__"))
def Cls.get{K:Ab}{C:db}(c:Cls K C)(f:Str):Ga K C f=true:=c.pg
def Tn(K:Ab)(C:db)(f:Str):Prop:=FE K (.ref C) f=am ce
section
variable{s:cr}{c:ci}{b:Bool}
inductive mG(K:Ab)(H:Hp):V->ci->Prop where
 |aO:mG K H .aO (.type "NoneType")
 |bl (x:Bool):mG K H (.bl x) (.type "bool")
 |int (i:Int):mG K H (.int i) (.type "int")
 |str (x:Str):mG K H (.str x) (.type "str")
 |flt (x:UInt64):mG K H (.flt x) (.type "float")
 |lst {a:db}{xs:List V} (e:H a=am (.lst xs)):mG K H (.ref a) (.type "list")
 |cn {a:db}{o:Obj}{xs:List V} (e:H a=am (.cn o (.lst xs))):mG K H (.ref a) (.type "list")
 |tup {a:db}{xs:List V} (e:H a=am (.tup xs)):mG K H (.ref a) (.type "tuple")
 |dK {a:db}{au:List (Key×V)} (e:H a=am (.dK au)):mG K H (.ref a) (.type "dict")
 |dT {a:db}{au:List (List Key×V)} (e:H a=am (.dT au)):mG K H (.ref a) (.type "dict")
 |ins {a C dx:db}{fs:List (Str×V)} (e:H a=am (.ins C dx fs)) (cl:Cls K C) (ha:FE K (.ref C) "__class__"=am (am (.builtin "object.__class__")))
   (hn:PySem.W.specialIn K (.builtin "object.__class__") "__get__"=am (am (.builtin "getset_descriptor.__get__"))) (htk:PySem.W.takesIn K (.builtin "object.__class__")=am true)
   (hm:PySem.W.mroIn K C (.type "object")=am true):mG K H (.ref a) (.ref C)
def N4{x:V}{t:ci}(I:Inv X U σ H s)(rx:RelV x u)(ty:mG X.K H x t)(e:BG X.K t c=am b)(h:∀tk,Q (.bool b) {s with toks:=tk}):ga (gl X.prog X.w) A (call (.builtin "isinstance") [u,c]) Q E s:=by
 cases ty with
 |aO=>cases (show u=A7 from rx);exact Bj PySem.W.kitx_none I.xo B6 e (λz=>nomatch z) h
 |bl y=>cases (show u=FX y from rx);exact Bj PySem.W.kitx_bool I.xo B6 e (λz=>nomatch z) h
 |int i=>obtain⟨t,q⟩:=(show ∃t,u=CJ i t from rx);cases q;exact Bj PySem.W.kitx_int I.xo B6 e (λz=>nomatch z) h
 |str y=>obtain⟨t,q⟩:=(show ∃t,u=Br y t from rx);cases q;exact Bj PySem.W.kitx_str I.xo B6 e (λz=>nomatch z) h
 |flt y=>obtain⟨t,q⟩:=(show ∃t,u=Value.float y t from rx);cases q;exact Bj PySem.W.kitx_float I.xo B6 e (λz=>nomatch z) h
 | @lst a xs ea=>
  cases (show u=AV a from rx);obtain⟨_,_,n,_,h1⟩:=(show bC X.prog X.w H s.heap a (.lst xs) from I.bG a _ ea);exact Bj EC I.xo ⟨_,h1,rfl⟩ e (λz=>nomatch z) h
 | @cn a ob xs ea=>
  cases (show u=AV a from rx);obtain⟨_,_,_,n,_,h1⟩:=(show bC X.prog X.w H s.heap a (.cn ob (.lst xs)) from I.bG a _ ea);exact Bj EC I.xo ⟨_,h1,rfl⟩ e (λz=>nomatch z) h
 | @tup a xs ea=>
  cases (show u=AV a from rx);obtain⟨_,_,_,p,_⟩:=(show bC X.prog X.w H s.heap a (.tup xs) from I.bG a _ ea);obtain⟨o,h1,h2,_⟩:=p;exact Bj FW I.xo ⟨o,h1,h2⟩ e (λz=>nomatch z) h
 | @dK a au ea=>
  cases (show u=AV a from rx);obtain⟨_,_,vs,_,p⟩:=(show bC X.prog X.w H s.heap a (.dK au) from I.bG a _ ea);obtain⟨o,es,ep,h1,h2,_⟩:=p;exact Bj ED I.xo ⟨o,h1,h2.1⟩ e (λz=>nomatch z) h
 | @dT a au ea=>
  cases (show u=AV a from rx);obtain⟨_,_,xs,_,o,es,ep,h1,h2,_⟩:=(show bC X.prog X.w H s.heap a (.dT au) from I.bG a _ ea);exact Bj ED I.xo ⟨o,h1,h2.1⟩ e (λz=>nomatch z) h
 | @ins a C dx fs ea cl ha hn htk hm=>
  cases (show u=AV a from rx);obtain⟨mA,O_,_⟩:=VQ I.bG ea;obtain⟨od,J,_⟩:=O_.look;exact Bj (PySem.W.kitx_own (cl.get _) cl.hd ha hn htk hm) I.xo J e (λz=>nomatch z) h
end
end L2
variable{o:BC}{v Ê pm fU ct oc:A8}{vs:O L2.V}{mg:Cf->Option A8}{base:E4}{fd:PySem.FuncData}{ps:O Cf}{Â:Cn}{qual:Cf}{scope:PySem.Scope}{an od:Option Bq}{Tv:Array (Option A8)}
namespace L2
structure eG(k:Nat)(A:EQ):Prop where
 hd:A.handled=ce
 dp:A.depth+3*k+5<recursionLimit
 un:A.units+16*k+200<tz
 gd:A.guards=am []
theorem eG.mono(r:eG k A)(h:j<=k):eG j A:=⟨r.hd,by have:=r.dp;lia,by have:=r.un;lia,r.gd⟩
theorem eG.deeper(r:eG (k+1) A)(env:Env):eG k (A.deeper env):=
 ⟨r.hd,by have:=r.dp;show A.depth+1+3*k+5<_;lia,by have:=r.un;show A.units+3+16*k+200<_;lia,r.gd⟩
theorem eG.depth(r:eG k A):A.depth<recursionLimit:=by have:=r.dp;lia
theorem eG.Po(r:eG k A):A.units<tz:=by have:=r.un;lia
def YT:TA:=λ_ H Q=>Q [] H
def PF(ta:TE)(tr:TA):TA:=λσ H Q=>ta σ H λx H1=>tr σ H1 λxs H2=>Q (x::xs) H2
section
variable{t:TA}
def bP:PA X [] YT:=λ_ _ _ _ H Q I h=>CA ⟨[],H,I,.nil,h⟩
def a6(ha:PE X e te)(hr:PA X es t)(hs:‹hV X e es›):PA X (e::es) (PF te t):=by
 intro pos U s σ H Q I h;rw[hs];exact B7 (cf (ha U s σ H _ I h) λu s1 ⟨x,H1,I1,r1,q1⟩=>cf (hr pos U s1 σ H1 _ I1 q1) λus s2 ⟨xs,H2,I2,r2,q2⟩=>⟨x::xs,H2,I2,.cons r1 r2,q2⟩)
end
abbrev Sp:=O V->Hp->VK->XK->Prop
abbrev W4:=O Env->Hp->cr->XK->ci->cr->Prop
structure W0(P:wE)(w:Db)(K:Ab)(mg:Str->Option ci)(base:pc)(A:EQ)(outer:List Env)(s:cr)(H:Hp):Prop where
 frames:A.frames=am outer
 mod:Mod K mg base
 bs:∀b o,base.get? b=am o->s.heap.get? b=am o/\H b=ce
 Yn:base.objs.size<=s.heap.objs.size
 uH:s.heap.FunFrames base outer
 frf:∀b∈Pe outer,H b=ce
 bG:mH P w H s.heap
 bare:Rs s.gens
def CE(outer:O Env)(P:wE)(w:Db)(H:Hp)(s:cr)(Q:VK)(u:ci)(s':cr):Prop:=
 ∃v H',s'.os=s.os/\Rs s'.gens/\Un (Pe outer) [] H H' s.heap s'.heap/\mH P w H' s'.heap/\RelV v u/\Q v H'
def CR(CX:W4)(outer:O Env)(P:wE)(w:Db)(H:Hp)(s:cr)(Q:VK)(E:XK)(r:Result)(s':cr):Prop:=
 match r with
 |.ok (.ret u)=>CE outer P w H s Q u s'
 |.ok _=>False
 |.error e=>CX outer H s E e s'
structure lL(P:wE)(w:Db)(K:Ab)(mg:Str->Option ci)(base:pc)(CX:W4)(k:Nat)(f:db)(fd:FuncData)(ps:List Str)(sp:Sp):Prop where
 len:∀vs H Q E,sp vs H Q E->vs.length=ps.length
 run:∀(A:EQ) (outer:List Env) (s:cr) (H:Hp) (args:Args) (us:List ci) (vs:List V) (Q:VK) (E:XK),eG k A->W0 P w K mg base A outer s H->BindsTo s fd args (ps.zip us)->Vals vs us->sp vs H Q E->
  KF (gl P w) A (.call (.ref f) args) (CR CX outer P w H s Q E) s
def lL.imp{K:Ab}{CX:W4}{f:db}{sp sp':Sp}(F:lL P w K mg base CX k f fd ps sp)(h:∀vs H Q E,sp' vs H Q E->sp vs H Q E):lL P w K mg base CX k f fd ps sp':=
 ⟨λvs H Q E q=>F.len vs H Q E (h _ _ _ _ q),λA outer s H args us vs Q E hr he hb hv hs=>F.run A outer s H args us vs Q E hr he hb hv (h _ _ _ _ hs)⟩
section
variable{s:cr}
def Inv.aja(I:Inv X U σ H s):W0 X.prog X.w X.K X.mg X.base X.A X.stack s H:=
 ⟨I.ok.frames,I.ok.mod,I.bs,AD I.ok.Yn I.sz,I.stack,I.LZ,I.bG,I.bare⟩
def Inv.after{Q:VK}(I:Inv X U σ H s)(h:CE X.stack X.prog X.w H s Q u s'):EP X U σ Q u s':=by
 obtain⟨v,H',os,bare,un,bG,r,q⟩:=h;obtain⟨hh,g,d,t,os'⟩:=s';obtain rfl:os'=s.os:=os;exact⟨v,H',I.call (h':=hh) (g':=g) (d':=d) (t':=t) (ch:=[]) un bG bare (λb z=>absurd z (by simp)),r,q⟩
end
def Binds(K:Ab)(fd:FuncData)(ps:O Str)(ds:O ci):Prop:=
 ∀(s:cr) (us:O ci),K.In s.heap->(us++ds).length=ps.length->BindsTo s fd ⟨us,[]⟩ (ps.zip (us++ds))
def Binds.all{K:Ab}(h:∀us:O ci,us.length=ps.length->bindArgs fd ⟨us,[]⟩=pure (ps.zip us)):Binds K fd ps []:=λs us _ hl=>by
 rw[C0]at hl ⊢;exact .of_eq (h us hl)
def Passes(CX:W4)(X:Cx)(E:XK):Prop:=∀(U:O (db×Obj)) (σ:St) (H:Hp) (s:cr) (e:ci) (s':cr),Inv X U σ H s->CX X.stack H s E e s'->X.xe e s'
section
variable{CX:W4}{f:db}{sp:Sp}{Ĳ:O V}{ds:O ci}{E:XK}
def Y8{s:cr}{Q:VK}(F:lL X.prog X.w X.K X.mg X.base CX k f fd ps sp)(hr:eG k X.A)(hb:Binds X.K fd ps ds)(hd:Vals Ĳ ds)(hx:Passes CX X E)(I:Inv X U σ H s)(r:Vals vs us)(h:sp (vs++Ĳ) H Q E):ga (gl X.prog X.w) X.A (call (.ref f) us) (EP X U σ Q) X.xe s:=by
 have r2:Vals (vs++Ĳ) (us++ds):=r.append hd;have hl:(us++ds).length=ps.length:=by rw[<- r2.length];exact F.len _ _ _ _ h
 refine wpAny_call (Re (F.run X.A X.stack s H ⟨us,[]⟩ (us++ds) (vs++Ĳ) Q E hr I.aja (hb s us I.xo hl) r2 h) λr s' hq=>?_);cases r with
 |error e=>exact hx U σ H s e s' I hq
 |ok fl=>
  cases fl with
  |ret u=>exact I.after hq
  |next=>exact BZ hq
  |brk=>exact BZ hq
  |cont=>exact BZ hq
end
structure fe(N P:List Str)(sc:nw):Prop where
 kind:sc.kind=.function
 co:sc.isCoroutine=false
 gen:sc.isGenerator=false
 nd:N.Nodup
 pre:N.take P.length=P
 par:∀x∈P,sc.names.lookup x=am .local\/sc.names.lookup x=am .cell
 ZO:∀y∈sc.names,y.2≠.free
theorem xK{kindOf:Str->Option wv}:∀{binds:O (Str×ci)}{m:Str->Option ci},(∀v,(x,v)∉binds)->bindL kindOf binds m x=m x
 |[],_,_=>rfl
 |(n,v)::r,m,h=>by
  unfold bindL;rw[xK λw hw=>h w (A4 _ hw)]
  split
  .have:x≠n:=by rintro rfl;exact h v BK
   simp[this]
  .rfl
theorem xN{kindOf:Str->Option wv}:∀{binds:O (Str×ci)}{m:Str->Option ci},(∀v,(x,v)∉binds)->bindC kindOf binds m x=m x
 |[],_,_=>rfl
 |(n,v)::r,m,h=>by
  unfold bindC;rw[xN λw hw=>h w (A4 _ hw)]
  split
  .rfl
  .have:x≠n:=by rintro rfl;exact h v BK
   simp[this]
theorem xM{kindOf:Str->Option wv}:∀{P:O Str}{vs:O ci}{i:Nat}{m:Str->Option ci},P.Nodup->P[i]?=am x->vs[i]?=am v->kindOf x=am .local->bindL kindOf (P.zip vs) m x=am v
 |[],_,_,_,_,h,_,_=>by simp at h
 |_::_,[],_,_,_,_,h,_=>by simp at h
 |p::P,w::vs,0,m,nd,h1,h2,hk=>by
  simp at h1 h2;subst h1;subst h2;show bindL kindOf ((p,w)::P.zip vs) m p=_;unfold bindL;rw[xK λv hv=>(D7.mp nd).1 (Ft hv).1,if_pos hk];simp
 |p::P,w::vs,i+1,m,nd,h1,h2,hk=>by
  unfold bindL;exact xM (D7.mp nd).2 (by simpa using h1) (by simpa using h2) hk
theorem xO{kindOf:Str->Option wv}:∀{P:O Str}{vs:O ci}{i:Nat}{m:Str->Option ci},P.Nodup->P[i]?=am x->vs[i]?=am v->kindOf x≠am .local->bindC kindOf (P.zip vs) m x=am v
 |[],_,_,_,_,h,_,_=>by simp at h
 |_::_,[],_,_,_,_,h,_=>by simp at h
 |p::P,w::vs,0,m,nd,h1,h2,hk=>by
  simp at h1 h2;subst h1;subst h2;show bindC kindOf ((p,w)::P.zip vs) m p=_;unfold bindC;rw[xN λv hv=>(D7.mp nd).1 (Ft hv).1,if_neg hk];simp
 |p::P,w::vs,i+1,m,nd,h1,h2,hk=>by
  unfold bindC;exact xO (D7.mp nd).2 (by simpa using h1) (by simpa using h2) hk
def start(N:O Str)(vs:O V):St:=vs.map am++Ap (N.length-vs.length) ce
def wq(CX:W4)(P:wE)(w:Db)(K:Ab)(mg:Str->Option ci)(base:pc)(N:O Str)(qual:Str)(scope:nw)(f:db)(cd:ci)(A:EQ)(outer:O Env)(s:cr)(H:Hp)(E:XK):Cx where
 prog:=P
 w:=w
 K:=K
 mg:=mg
 base:=base
 A:=A.deeper (Gc qual scope s.heap.objs.size f cd)
 N:=N
 s₀:=s
 H₀:=H
 env:=Gc qual scope s.heap.objs.size f cd
 outer:=outer
 stack:=Gc qual scope s.heap.objs.size f cd::outer
 ex:=[]
 calm:=true
 fn:=λ_=>true
 pn:=[]
 xe:=λe s'=>ga (gl P w) (A.deeper (Gc qual scope s.heap.objs.size f cd)) (leaving (Gc qual scope s.heap.objs.size f cd) e) (λ_ Ā=>CX outer H s E e Ā) (λe' Ā=>CX outer H s E e' Ā) s'
def ID{sc:nw}(h:sc.names.lookup x=am .cell):∃c,(sK n sc.names []).lookup x=am c:=by
 exact Option.isSome_iff_exists.mp (E2 sc.names n [] (.inl h))
theorem N5{CX:W4}{K:Ab}{N:O Str}{f:db}{cd:ci}{outer:O Env}{s s1:cr}{E:XK}(S:fe N ps scope)(hd:A.handled=ce)(e0:W0 P w K mg base A outer s H)(hl:vs.length=ps.length)(r:Vals vs us)(x:InCallC s s.heap.objs.size (bindL (Gc qual scope s.heap.objs.size f cd).kindOf (ps.zip us) λ_=>ce) (sK (s.heap.objs.size+1) scope.names []) (bindC (Gc qual scope s.heap.objs.size f cd).kindOf (ps.zip us) λ_=>ce) s1):Inv (wq CX P w K mg base N qual scope f cd A outer s H E) [] (start N vs) H s1:=by
 have eB:ps.length<=N.length:=by have:=congrArg Ck S.pre;rw[Co]at this;lia
 obtain⟨h1,tk,rfl,hk⟩:=x.done;have ć:∀b:db,b∉(wq CX P w K mg base N qual scope f cd A outer s H E).ex:=λb z=>absurd (show b∈([]) from z) (by simp);refine⟨⟨e0.mod,S.kind,rfl,rfl,Al _,λy z c h1 h2=>?_,λy hy=>?_,λy c _ h=>?_,λ_=>hd,Around.frames_deeper e0.frames,.inr ⟨rfl,rfl⟩,λb z=>absurd z (ć b),e0.bs,e0.Yn,λb _ _=>ć b,λb z=>absurd z (ć b),e0.uH,e0.frf⟩,
  rfl,e0.bare,Un.kept hk,⟨_,x.toInCall.ns,λi y v h1 h2 h3=>?_⟩,λy c h=>⟨_,x.cell y c h⟩,e0.bG.fresh (Al _),λy c h=>?_,λp hp=>absurd (show p∈([]) from hp) (by simp),e0.bG.kept hk,?_⟩
 .exact name_of_addr x.apart (BN h1) (BN h2)
 .rcases hy with hy|hy
  .exact ID hy
  .exact absurd rfl (S.ZO _ (BN hy))
 .exact E6 (x.above y c (BN h))
 .have hi:i<vs.length:=by
   unfold start at h2;by_cases hi:i<vs.length
   .exact hi
   .rw[Bg (by simpa using hi)]at h2;rw[CS]at h2
    split at h2<;>cases h2
  have ha:vs[i]?=am v:=by
   unfold start at h2;rw[A6 (by simpa using hi),Ah]at h2;cases e:vs[i]? with
   |none=>rw[e]at h2;cases h2
   |some a=>rw[e]at h2;cases h2;rfl
  obtain⟨u,hu,rv⟩:=r.get ha;have hp:ps[i]?=am y:=by
   rw[<- S.pre,List.getElem?_take_of_lt ∅];exact h1
  have ndP:ps.Nodup:=by rw[<- S.pre];exact S.nd.sublist (EI _ _)
  refine⟨u,rv,?_⟩;rcases S.par y (Bd hp) with k|k
  .exact .inl ⟨k,xM ndP hp hu k⟩
  .obtain⟨c,e⟩:=ID k;refine .inr ⟨.inl k,c,e,?_⟩;have q:=x.cell y c e;rw[xO ndP hp hu (by show scope.names.lookup y≠_;rw[k];decide)]at q;exact q
 .exact e0.bG.fresh (E6 (x.above y c (BN h)))
 .unfold start;show _=N.length;rw[Ak,Af,B4];lia
def aeH{CX:W4}{K:Ab}{f:db}{name:Str}{params:Arguments}{dV kV:ci}{N:O Str}{sp:Sp}(lk:K.lookup f=am ⟨oc,od,.func (Ca name qual params body scope dV kV Ê pm an fU ct),Tv⟩)(kD:El K fU qual=true)(S:fe N ps scope)(len:∀vs H Q E,sp vs H Q E->vs.length=ps.length)(RZ:∀(A:EQ) (outer:O Env) (s:cr) (H:Hp) (vs:O V) (Q:VK) (E:XK),eG k (A.deeper (Gc qual scope s.heap.objs.size f fU))->sp vs H Q E->
   ∃t,pO (wq CX P w K mg base N qual scope f fU A outer s H E) body t/\t {nx:=λ_ H'=>Q .aO H',rt:=Q} (start N vs) H):lL P w K mg base CX (k+1) f (Ca name qual params body scope dV kV Ê pm an fU ct) ps sp:=by
 refine⟨len,λA outer s H args us vs Q E hr e0 hb r á=>?_⟩;have hl:=len _ _ _ _ á;have KX:K.In s.heap:=e0.mod.kin.keeps λb o e=>(e0.bs b o e).1;have lim:s.heap.NoLimit:=e0.mod.nolimit.keeps λb o e=>(e0.bs b o e).1;have aej:∀y∈ps.zip us,scope.names.lookup y.1=am .local\/(scope.names.lookup y.1=am .cell/\((sK (s.heap.objs.size+1) scope.names []).lookup y.1).isSome=true):=λ⟨n,v⟩ hy=>by
  rcases S.par n (Ft hy).1 with q|q
  .exact .inl q
  .exact .inr ⟨q,E2 _ _ _ (.inl q)⟩
 refine codeAny_call_function hr.depth (KX _ _ lk) rfl S.co S.gen rfl (PySem.W.codeRec_of KX kD) (hb _ _ _ _ ?_);refine wpAny_newFunctionEnv_cells S.kind aej λenv he s1 x=>?_;subst he;refine⟨lim.keeps x.toInCall.keep,codeAny_func ?_⟩;obtain⟨t,ht,hq⟩:=RZ A outer s H vs Q E (hr.deeper _) á;have I:Inv (wq CX P w K mg base N qual scope f fU A outer s H E) [] (start N vs) H s1:=N5 S hr.hd e0 hl r x;refine BO (ht [] s1 (start N vs) H _ I hq) (λfl s' hs=>?_) λe s' hs=>hs;have fin:∀{σ':St}{H':Hp}{v:V}{u:ci},Inv (wq CX P w K mg base N qual scope f fU A outer s H E) [] σ' H' s'->RelV v u->Q v H'->CE outer P w H s Q u s':=
  λ{σ' H' v u} J rv q=>⟨v,H',J.os,J.bare,J.base,J.bG,rv,q⟩
 cases fl with
 |ret u=>
  obtain⟨v,σ',H',J,rv,q⟩:=hs;exact fin J rv q
 |next=>
  obtain⟨σ',H',J,q⟩:=hs;exact fin (v:=V.aO) (u:=A7) J rfl q
 |brk=>
  obtain⟨_,_,_,q⟩:=hs;exact BZ q
 |cont=>
  obtain⟨_,_,_,q⟩:=hs;exact BZ q
end L2
variable{T:String}
namespace L2
section
variable{t:TA}{id:String}{r:O V->Hp->VK->Prop}
def tCB(r:O V->Hp->VK->Prop)(t:TA):TE:=λσ H Q=>t σ H λvs H1=>r vs H1 Q
def eQ(hc:cB X (.builtin id) r)(hg:Gl X x)(hm:X.mg x=ce)(hv:pr x=am (.builtin id))(ha:PA X (e::es) t)(hn: ~~~(x≠"__name__"))(mz: ~~~(jz x))(he:‹hV X e es›)(eB:‹mm X pos es›):PE X (.Call (.Name x p) (e::es) [] pos) (tCB r t):=by
 intro U s σ H Q I h;refine BJ (gQ I hg hm hv ?_ hn mz);exact PyProof.Rows.callWith_builtin1 (cf (ha pos U s σ H _ I h) λus s1 ⟨vs,H1,I1,r1,q1⟩=>hc U s1 σ H1 vs us Q I1 r1 q1) he eB
def lO(hc:cB X (.type T) r)(hg:Gl X x)(hm:X.mg x=ce)(hv:pr x=am (.type T))(ha:PA X (e::es) t)(hn: ~~~(x≠"__name__"))(mz: ~~~(jz x))(he:‹hV X e es›)(eB:‹mm X pos es›):PE X (.Call (.Name x p) (e::es) [] pos) (tCB r t):=by
 intro U s σ H Q I h;refine BJ (gQ I hg hm hv ?_ hn mz);exact Bs (cf (ha pos U s σ H _ I h) λus s1 ⟨vs,H1,I1,r1,q1⟩=>hc U s1 σ H1 vs us Q I1 r1 q1) he eB
end
end L2
variable{hi:Option Int}{prog:PySem.Program}{items:Array A8}{ns ms:O Int}{vl vu:A8}
namespace HT
open PySem PyProof.Rows
def lexLt:O Int->O Int->Bool
 |[],[]=>false
 |[],_::_=>true
 |_::_,[]=>false
 |x::xs,y::ys=>if x=y then lexLt xs ys else decide (x<y)
theorem J1(x y:Int)(xs ys:O Int):lexLt (x::xs) (y::ys)=if x=y then lexLt xs ys else decide (x<y):=rfl
def Sr(A:EQ)(s:cr)(a:Int)(t:Tok)(c:Int)(u:Tok):∃e,DS A s (.int a t) (.int c u) e/\(e=true↔a=c):=
 ⟨(a==c),En a t c u,by simp⟩
def Qo(A:EQ)(s:cr)(a:Int)(t:Tok)(c:Int)(u:Tok)(prog:wE)(w:Db)(E:ci->cr->Prop)(Q:ci->cr->Prop)(h:Q (.bool (decide (a<c))) s):ga (gl prog w) A (richCompare .Lt (.int a t) (.int c u)) Q E s:=
 (PyProof.Rows.lt_int h)
section
open PySem.SeqAt
open PySem.AutoSeq1 (wpAny_loadPart')
open PySem.MeetsSeq PySem.MeetsSeq2 PySem.MeetsSeq3
theorem vC(l b:db)(items cF:Array ci)(n n2:Nat)(dd Wx:Option db)(sl Tu:Array (Option ci))(ns ms:O Int)(hi:wS items.toList ns)(hj:wS cF.toList ms):Meets (v4.«tuple.__lt__» ⟨[.ref l,.ref b],[]⟩) (λ_ R s=>s.heap.get? l=am {cls:=.type "tuple",dict:=dd,data:=.seq items n,slots:=sl}/\s.heap.get? b=am {cls:=.type "tuple",dict:=Wx,data:=.seq cF n2,slots:=Tu}/\
    R (.ok (.ret (.bool (lexLt ns ms)))) s):=
 .of_wp λprog w A R s h=>by
  obtain⟨hp,g,d,tk,os⟩:=s;obtain⟨hl,hb,h⟩:=h;have f2:=AutoSeq1.sub_tuple_tuple;have z1:items.size=ns.length:=by rw[<- hi.length];simp
  have z2:cF.size=ms.length:=by rw[<- hj.length];simp
  wp_walk using Fo hl,Fo hb,wpAny_forIn_list _ (λrest b s'=>b.1=ce/\s'=⟨hp,g,d,tk,os⟩/\∃(vs ws:O ci) (Tw ð:O Int),rest=vs.zip ws/\
   wS vs Tw/\wS ws ð/\Tw.length+cF.size=ð.length+items.size/\R (.ok (.ret (.bool (lexLt Tw ð)))) ⟨hp,g,d,tk,os⟩) _
  case turn=>
   rintro⟨y,x⟩ rest b s' ⟨ī,rfl,vs,ws,Tw,ð,hz,hvi,hwi,Á,hR⟩;cases hvi with
   |nil=>rw[List.zip_nil_left]at hz;cases hz
   |cons a t aif=>
    cases hwi with
    |nil=>rw[List.zip_nil_right]at hz;cases hz
    |cons c u aie=>
     rw[List.zip_cons_cons]at hz;injection hz with hyx RS;injection hyx with hy hx;subst hy hx;rw[J1]at hR;simp at Á;obtain⟨e,he,aeo⟩:=Sr A.in1 ⟨hp,g,d,tk,os⟩ a t c u;refine Aa (he prog w _ _ ?_);cases e with
     |true=>
      rw[if_pos (aeo.mp rfl)]at hR
      wp_walk
      exact⟨rfl,rfl,_,_,_,_,RS,aif,aie,by lia,hR⟩
     |false=>
      rw[if_neg (λq=>absurd (aeo.mpr q) AX)]at hR;have hri:=Qo A.in1 ⟨hp,g,d,tk,os⟩ a t c u prog w
      wp_walk using hri
      exact⟨_,rfl,by simpa using hR⟩
  case fin=>
   rintro⟨b1,b2⟩ s' ⟨ī,rfl,vs,ws,Tw,ð,hz,hvi,hwi,Á,hR⟩;subst ī;have hv:lexLt Tw ð=decide (items.size<cF.size):=by
    cases hvi with
    |nil=>
     cases hwi with
     |nil=>
      exact(decide_eq_false ∅).symm
     |cons c u hw=>
      simp at Á;exact(decide_eq_true ∅).symm
    |cons a t hv=>
     cases hwi with
     |nil=>
      simp only[D9]at Á;exact(decide_eq_false ∅).symm
     |cons c u hw=>
      cases hz
   rw[hv]at hR
   wp_walk
   exact⟨_,rfl,by simpa[Builtin.Tuple.tupleCompareSizes]using hR⟩
  case h=>
   exact⟨rfl,rfl,items.toList,cF.toList,ns,ms,rfl,hi,hj,by lia,h⟩
end
section
variable{s:cr}
def JX{l:db}{cF:Array ci}(hl:IsTup s.heap l items)(hb:IsTup s.heap b cF)(hi:wS items.toList ns)(hj:wS cF.toList ms)(hu:A.units<tz)(h:Q (.bool (lexLt ns ms)) s):ga (gl prog w) A (sn .Lt (.ref l) (.ref b)) Q E s:=by
 obtain⟨⟨cls,dd,data,sl⟩,ho,hc,n,hd⟩:=id hl;obtain⟨⟨Š,Wx,data2,Tu⟩,Oc,X4,n2,Î⟩:=id hb;subst hc hd X4 Î;exact richCompare_meets_room (op:=.Lt) ⟨_,ho,rfl⟩ ⟨_,Oc,rfl⟩ PySem.F.slot_tuple_lt PySem.F.entry_tuple_lt (PySem.F.args_tuple_lt_2 _ _) (vC l b items cF n n2 dd Wx sl Tu ns ms hi hj)
  ⟨ho,Oc,show FX (lexLt ns ms)≠Value.notImplemented/\Q (.bool (lexLt ns ms)) s from⟨(λx=>nomatch x),h⟩⟩ hu
def WE{t:db}{vs ws:O ci}(ht:IsTup s.heap t vs.toArray)(hb:IsTup s.heap b ws.toArray)(hv:vs≠[])(h1:ws=[]->Q (.ref t) s)(h2:ws≠[]->Q (.ref s.heap.objs.size) {s with heap:=s.heap.push {cls:=.type "tuple",data:=.seq (vs++ws).toArray}})(uA:vs.length+ws.length<=sizeLine):ga (gl prog w) A (t0 .Add (.ref t) (.ref b)) Q E s:=by
 obtain⟨⟨cls,dd,data,sl⟩,ho,hc,n,hd⟩:=id ht;obtain⟨⟨Š,Wx,data2,Tu⟩,Oc,X4,n2,Î⟩:=id hb;simp only at hc hd X4 Î;subst hc hd X4 Î;have e:vs.toArray++ws.toArray=(vs++ws).toArray:=by simp
 by_cases hw:ws=[]
 .exact concat_meets ⟨_,ho,rfl⟩ ⟨_,Oc,rfl⟩ noFill_tuple_add seq_tuple_add DE Dy (Dp _ _)
   (tuple_addW1 t b vs.toArray ws.toArray n n2 dd Wx sl Tu (by simpa using hv) (by simp[hw])) ⟨ho,Oc,h1 hw⟩
 .refine concat_meets ⟨_,ho,rfl⟩ ⟨_,Oc,rfl⟩ noFill_tuple_add seq_tuple_add DE Dy (Dp _ _)
   (tuple_addW2 t b vs.toArray ws.toArray n n2 dd Wx sl Tu (by simpa using hv) (by simpa using hw) (by rw[Am,Am];exact uA)) ⟨ho,Oc,?_⟩
  rw[e];exact h2 hw
def dD(n d:Nat):Option Int->Nat
 |none=>d
 |some v=>if v<0 then (v+(n:Int)).toNat else min v.toNat n
theorem G1(n d:Nat):dD n d ce=d:=rfl
theorem Uu(n d k:Nat):dD n d (am (k:Int))=min k n:=by
 show(if k<0 then ((k:Int)+n).toNat else min (k:Int).toNat n)=min k n;rw[if_neg ∅,Bp]
theorem MZ(v:Int)(n d:Nat):(if v<0 then max (v+(n:Int)) 0 else min v (n:Int))=((dD n d (am v):Nat):Int):=by
 show(if v<0 then max (v+n) 0 else min v (n:Int))=(((if v<0 then (v+(n:Int)).toNat else min v.toNat n)));by_cases hv:v<0
 .simp only[if_pos hv];lia
 .simp only[if_neg hv];lia
def Ls(lo hi:Option Int)(n:Nat):Builtin.Slice.sliceAdjust lo hi 1 (n:Int)=(((dD n 0 lo:Nat):Int),((dD n n hi:Nat):Int)):=by
 unfold Builtin.Slice.sliceAdjust;refine Prod.ext ?_ ?_
 .cases lo with
  |none=>rfl
  |some v=>exact MZ v n 0
 .cases hi with
  |none=>rfl
  |some v=>exact MZ v n n
theorem JD(i j:Nat):Builtin.Slice.slicePlaces (i:Int) (j:Int) 1=j-i:=by
 unfold Builtin.Slice.slicePlaces
 split<;>lia
def tB{o:Option Int}{Q:Option Int->cr->Prop}(p:IsPart v o)(h:Q o s):ga (gl prog w) A (Builtin.Slice.slicePartIndex v) Q E s:=by
 cases p with
 |none=>exact slicePart_none h
 |int i t=>exact slicePart_int h
def i7{sl:db}{lo:Option Int}{Q:Int×Int×Nat->cr->Prop}(hs:s.heap.IsSliceOf sl vl vu .none)(pl:IsPart vl lo)(pu:IsPart vu hi)(h:Q (((dD n 0 lo:Nat):Int),1,dD n n hi-dD n 0 lo) s):ga (gl prog w) A (Builtin.Slice.sliceApplied (.ref sl) (pure (n:Int))) Q E s:=by
 obtain⟨os,ä,Ī,Đ⟩:=id hs;refine Aa (Aa (A2 ä Đ rfl (Aa (A2 ä Đ rfl (Aa (A2 ä Đ rfl (Ag ?_)))))));refine Aa (slicePart_none ?_);refine Aa (tB pl (Aa (tB pu (Aa (Ag ?_)))));show ga _ _ (match Builtin.Slice.sliceAdjust lo hi 1 n with|(lo,hi)=>pure (lo,(1:Int),Builtin.Slice.slicePlaces lo hi 1)) _ _ s;rw[Ls lo hi n];show ga _ _ (pure (((dD n 0 lo):Int),(1:Int),Builtin.Slice.slicePlaces ((dD n 0 lo:Nat):Int) ((dD n n hi:Nat)) 1)) _ _ s;rw[JD];exact Ag h
theorem QK(xs:Array ci)(i k:Nat):((Aw k).filterMap λ(m:Nat)=>xs[((i:Int)+(m:Int)*1).toNat]?).toArray=((xs.toList.drop i).take k).toArray:=by
 have e:(λ(m:Nat)=>xs[(i+(m:Int)*1).toNat]?)=λm=>xs[i+m]?:=by
  funext m;have:((i:Int)+(m:Int)*1).toNat=i+m:=by lia
  rw[this]
 rw[e];have:=pick_run xs i k;rw[Ey]at this;have e2:((λx=>xs[x]?)∘λx=>i+x)=λm=>xs[i+m]?:=rfl;rw[e2]at this;rw[this]
theorem oY{t sl:db}{lo:Option Int}(ht:IsTup s.heap t items)(hs:s.heap.IsSliceOf sl vl vu .none)(pl:IsPart vl lo)(pu:IsPart vu hi)(hw:¬(dD items.size 0 lo=0/\dD items.size items.size hi=items.size))(h:Q (.ref s.heap.objs.size) {s with heap:=s.heap.push {cls:=.type "tuple",data:=.seq ((items.toList.drop (dD items.size 0 lo)).take (dD items.size items.size hi-dD items.size 0 lo)).toArray}})(uA:items.size<=sizeLine):ga (gl prog w) A (P3 (.ref t) (.ref sl)) Q E s:=by
 have Mw:sizeOk (.seq ((items.toList.drop (dD items.size 0 lo)).take (dD items.size items.size hi-dD items.size 0 lo)).toArray):=by
  show((items.toList.drop (dD items.size 0 lo)).take (dD items.size items.size hi-dD items.size 0 lo)).toArray.size<=sizeLine;rw[Am,Co,CP,Dn];lia
 obtain⟨os,ä,Ī,Đ⟩:=id hs;unfold P3
 try with_reducible refine Bh ?_
 first|refine Aa (Ag ?_)|skip
 refine Aa (wpAny_sequenceKey ht.typeIs ⋯ ?_);refine Aa (AY ht.typeIs Bt
  (Be Bt ht.typeIs entry_tuple_getitem ?_ (args_tuple_getitem _ _)))
 show ga _ _ (Builtin.Tuple.tupleItemsOf (.ref t) >>= _) _ _ s;refine Aa (tupleItemsOf_ ht ?_);refine Aa (Dc (⟨os,ä,Ī⟩) ?_);refine Aa (i7 hs pl pu ?_);have hno:¬((((dD items.size 0 lo):Int)==0&&(1:Int)==1&&(dD items.size items.size hi-dD items.size 0 lo)==items.size)=true):=by
  intro q;rw[AR,AR]at q;have q1:=eq_of_beq q.1.1;have q2:=eq_of_beq q.2;exact hw ⟨by lia,by lia⟩
 show ga _ _ (if (((dD items.size 0 lo:Nat):Int)==0&&(1:Int)==1&&(dD items.size items.size hi-dD items.size 0 lo)==items.size)=true then _ else _) _ _ s;rw[if_neg hno,QK]
 first
  |exact Aa (Bf (Ag ⟨_,rfl,Ag h⟩) Mw)
  |exact Aa (m:=Builtin.Tuple.tupleExact _) (Bf (Aa (Ag (Ag ⟨_,rfl,Ag h⟩))) Mw)
  |exact Aa (Aa (m:=Builtin.Tuple.tupleExact _) (Bf (Ag (Ag ⟨_,rfl,Ag h⟩)) Mw))
  |exact Aa (Aa (m:=Builtin.Tuple.tupleExact _) (Bf (Ag ⟨_,rfl,Ag h⟩) Mw))
end
end HT
namespace L2
abbrev TO:=St->Hp->(Option Int->Hp->Prop)->Prop
def PO(X:Cx)(e:Option mo)(t:TO):Prop:=
 ∀(U:O (db×Obj)) (s:cr) (σ:St) (H:Hp) (Q:Option Int->Hp->Prop),Inv X U σ H s->t σ H Q->
  ga (gl X.prog X.w) X.A (evalPart e X.env) (λu s'=>∃o H',Inv X U σ H' s'/\IsPart u o/\Q o H') X.xe s
def T9:TO:=λ_ H Q=>Q ce H
def acH(t:TE):TO:=λσ H Q=>t σ H λx H1=>∃i,x=.int i/\Q (am i) H1
def intsAre_of:∀{us:O ci},Vals (ns.map V.int) us->wS us ns:=by
 induction ns with
 |nil=>intro us r;rw[CF]at r;cases r;exact .nil
 |cons n ns ih=>
  intro us r;cases r with
  |cons r1 r2=>
   obtain⟨t,e⟩:=r1;subst e;exact .cons n t (ih r2)
section
variable{lo hi:Option mo}{tl th:TO}{p2:Pos}
def UR:PO X ce T9:=by
 intro U s σ H Q I h;exact Ag ⟨ce,H,I,.none,h⟩
def UQ(h:PE X e te):PO X (am e) (acH te):=by
 intro U s σ H Q I hw;refine cf (h U s σ H _ I hw) λu s1 ⟨x,H1,I1,r1,q1⟩=>?_;obtain⟨i,rfl,q⟩:=q1;obtain⟨t,rfl⟩:=r1;exact⟨am i,H1,I1,.int i t,q⟩
def WV(X:Cx)(r:V->Option Int->Option Int->Hp->VK->Prop):Prop:=
 ∀(U:O (db×Obj)) (s:cr) (σ:St) (H:Hp) (x:V) (v vl vu:ci) (lo hi:Option Int) (sl:db) (Q:VK),Inv X U σ H s->RelV x v->s.heap.IsSliceOf sl vl vu .none->IsPart vl lo->IsPart vu hi->r x lo hi H Q->
  ∃T id,FS (.type T) "__getitem__"=pure (am (.builtin id))/\s.TypeIs v T/\ga (gl X.prog X.w) X.A (P3 v (.ref sl)) (EP X U σ Q) X.xe s
def tSl(r:V->Option Int->Option Int->Hp->VK->Prop)(te:TE)(tl th:TO):TE:=λσ H Q=>te σ H λx H1=>tl σ H1 λl H2=>th σ H2 λu H3=>r x l u H3 Q
def He{r:V->Option Int->Option Int->Hp->VK->Prop}(hr:WV X r)(he:PE X e te)(hl:PO X lo tl)(hu:PO X hi th):PE X (.Subscript e (.Slice lo hi ce p2) pos) (tSl r te tl th):=by
 intro U s σ H Q I h;refine Subscript_ (cf (he U s σ H _ I h) λv s1 ⟨x,H1,I1,r1,q1⟩=>?_);refine wpAny_Slice (cf (hl U s1 σ H1 _ I1 q1) λvl s2 ⟨l,H2,I2,pl,q2⟩=>cf (hu U s2 σ H2 _ I2 q2) λvu s3 ⟨u,H3,I3,pu,q3⟩=>?_);rw[evalPart_none];refine Ag ?_;have I4:Inv X U σ H3 {s3 with heap:=s3.heap.push {cls:=.type "slice",data:=.fields #[vl,vu,.none]}}:=I3.kept (t':=s3.toks) λb ob q=>Ai _ q;obtain⟨T,id,hT,ht,hg⟩:=hr U {s3 with heap:=s3.heap.push {cls:=.type "slice",data:=.fields #[vl,vu,.none]}} σ H3 x v vl vu l u s3.heap.objs.size Q I4 r1 (Heap.IsSliceOf.new ..) pl pu q3;show ga (gl X.prog X.w) X.A (subscriptTail e (.Slice lo hi ce p2) v (.ref s3.heap.objs.size)) (EP X U σ Q) X.xe {s3 with heap:=s3.heap.push {cls:=.type "slice",data:=.fields #[vl,vu,.none]}};exact tail_any (ops:=[.ref s3.heap.objs.size,v]) ht hT hg (by with_unfolding_all rfl)
def IC(xs:O V)(lo hi:Option Int):O V:=(xs.drop (HT.dD xs.length 0 lo)).take (HT.dD xs.length xs.length hi-HT.dD xs.length 0 lo)
theorem qY(xs:O V)(lo hi:Option Int):(IC xs lo hi).length<=xs.length:=by
 unfold IC;rw[Co,CP];lia
def ahz(K:Ab):V->Option Int->Option Int->Hp->VK->Prop:=λx lo hi H Q=>∃a xs,x=.ref a/\dU K H a xs/\
 ¬(HT.dD xs.length 0 lo=0/\HT.dD xs.length xs.length hi=xs.length)/\∀p,H p=ce->Q (.ref p) (upd H p (.tup (IC xs lo hi)))
def Y1:WV X (ahz X.K):=by
 intro U s σ H x v vl vu lo hi sl Q I rx hs pl pu h;obtain⟨a,xs,rfl,hx,hw,q⟩:=h;cases rx;obtain⟨aq,r,ht,hz⟩:=I.tuple hx;have Á:aq.toArray.size=xs.length:=by rw[Am];exact r.length.symm
 refine⟨"tuple",_,Bt.lookup,ht.typeIs,?_⟩;refine HT.oY ht hs pl pu (by rw[Á];exact hw) ?_ (by rw[Á];exact hz);rw[Á];refine⟨.ref s.heap.objs.size,_,I.laid (λb ob q=>Ai _ q) (Al _) ?_,rfl,q _ (I.bG.fresh (Al _))⟩;exact⟨AD (qY xs lo hi) hz,_,(r.drop (HT.dD xs.length 0 lo)).take (HT.dD xs.length xs.length hi-HT.dD xs.length 0 lo),Ge _ _,_,An _ rfl,rfl⟩
def Xq(K:Ab):R2:=λx y H Q=>∃a b xs ys,x=.ref a/\y=.ref b/\dU K H a xs/\dU K H b ys/\xs≠[]/\xs.length+ys.length<=sizeLine/\
 (ys=[]->Q (.ref a) H)/\(ys≠[]->∀p,H p=ce->Q (.ref p) (upd H p (.tup (xs++ys))))
def Vals.jF(r:Vals xs us):us=[]↔xs=[]:=by
 cases r with
 |nil=>simp
 |cons _ _=>simp
def Mh:iX X (t0 .Add) (Xq X.K):=by
 intro U s σ H x y v u Q I rx ry h;obtain⟨a,b,xs,ys,rfl,rfl,ha,hb,hx,hz,q1,q2⟩:=h;cases rx;cases ry;obtain⟨aq,r1,p1,_⟩:=I.tuple ha;obtain⟨du,r2,p2,_⟩:=I.tuple hb;refine HT.WE p1 p2 (λz=>hx (r1.jF.mp z)) (λz=>⟨.ref a,H,I,rfl,q1 (r2.jF.mp z)⟩) (λz=>?_) (by rw[<- r1.length,<- r2.length];exact hz);refine⟨.ref s.heap.objs.size,_,I.laid (λb ob q=>Ai _ q) (Al _) ?_,rfl,q2 (λw=>z (r2.jF.mpr w)) _ (I.bG.fresh (Al _))⟩;exact⟨by rw[Ak];exact hz,_,r1.append r2,Ge _ _,_,An _ rfl,rfl⟩
end
end L2
variable{p:Bq}{eW:O A8}
namespace L2
def ux(n:Nat)(i:Int):Option Nat:=if 0<=i then (if i<n then am i.toNat else ce) else if -(n:Int)<=i then am (i+n).toNat else ce
def cR(xs:List α)(i:Int):Option α:=(ux xs.length i).bind λj=>xs[j]?
theorem sM(h:ux n i=am j):seqIndex? i n=am j/\j<n/\-(n:Int)<=i/\i<n:=by
 unfold ux at h;by_cases h0:0<=i
 .rw[if_pos h0]at h;by_cases h1:i<n
  .rw[if_pos h1]at h;have e:=Option.some.inj h;exact⟨by rw[seqIndex_of h0 h1,e],by lia,by lia,h1⟩
  .rw[if_neg h1]at h;cases h
 .rw[if_neg h0]at h;by_cases h1:-n<=i
  .rw[if_pos h1]at h;have e:=Option.some.inj h;exact⟨by rw[seqIndex_neg ∅ h1,e],by lia,h1,by lia⟩
  .rw[if_neg h1]at h;cases h
def zX{xs:List α}{v:α}(h:cR xs i=am v):∃j,seqIndex? i xs.length=am j/\xs[j]?=am v/\j<xs.length/\-(xs.length:Int)<=i/\i<xs.length:=by
 unfold cR at h;cases e:ux xs.length i with
 |none=>rw[e]at h;cases h
 |some j=>
  rw[e]at h;obtain⟨h1,h2,h3,h4⟩:=sM e;exact⟨j,h1,h,h2,h3,h4⟩
theorem cQ{xs:List α}{v:α}(h:xs[j]?=am v):cR xs (j:Int)=am v:=by
 have hj:=(Aj.mp h).1;have e:ux xs.length j=am j:=by
  unfold ux;rw[if_pos ∅,if_pos ∅];simp
 unfold cR;rw[e];exact h
def M5(b:mo):Prop:=∀o i,subscripted b false o i=operate [o,i] (P3 o i)
def TK(X:Cx)(r:R2):Prop:=
 ∀(È Å:mo) (U:O (db×Obj)) (s:cr) (σ:St) (H:Hp) (x y:V) (v u:ci) (Q:VK),Inv X U σ H s->RelV x v->RelV y u->r x y H Q->
  subscripted Å false v u=operate [v,u] (P3 v u)->ga (gl X.prog X.w) X.A (subscriptTail È Å v u) (EP X U σ Q) X.xe s
def MtR(X:Cx)(id:String)(r:V->O V->Hp->VK->Prop):Prop:=
 ∀(U:O (db×Obj)) (s:cr) (σ:St) (H:Hp) (x:V) (xs:O V) (v:ci) (us:O ci) (Q:VK),Inv X U σ H s->RelV x v->Vals xs us->r x xs H Q->
  ga (gl X.prog X.w) X.A (call (.builtin id) (v::us)) (EP X U σ Q) X.xe s
section
variable{X:Cx}{a b:mo}{ta tb:TE}{pos:Pos}
def TK.or{r r':R2}(h:TK X r)(h':TK X r'):TK X (λx y H Q=>r x y H Q\/r' x y H Q):=by
 intro È Å U s σ H x y v u Q I rx ry q hs;rcases q with q|q
 .exact h È Å U s σ H x y v u Q I rx ry q hs
 .exact h' È Å U s σ H x y v u Q I rx ry q hs
def gc{r:R2}(hr:TK X r)(ha:PE X a ta)(hb:PE X b tb)(hs:M5 b):PE X (.Subscript a b pos) (Xd r ta tb):=by
 intro U s σ H Q I h;exact Subscript_ (abq ha hb I h λv u s2 x y H2 I2 rx ry q=>hr a b U s2 σ H2 x y v u Q I2 rx ry q (hs _ _))
def adg(K:Ab):R2:=λx y H Q=>∃p xs i v,x=.ref p/\y=.int i/\b9 K H p xs/\cR xs i=am v/\Q v H
def ade(K:Ab):R2:=λx y H Q=>∃p xs i v,x=.ref p/\y=.int i/\dU K H p xs/\cR xs i=am v/\Q v H
def adf:R2:=λx y H Q=>∃z i c,x=.str z/\y=.int i/\z.length<=sizeLine/\cR z.cps.toList i=am c/\Q (.str ⟨#[c]⟩) H
theorem VM:TK X (adg X.K):=by
 intro È Å U s σ H x y v u Q I rx ry h hs;obtain⟨p,xs,i,z,rfl,rfl,hq,he,q⟩:=h;cases rx;obtain⟨t,rfl⟩:=ry;obtain⟨aq,r,pl,hz⟩:=I.list hq;obtain⟨j,h1,h2,h3,h4,h5⟩:=zX he;obtain⟨w,ew,G3⟩:=r.get h2;have hl:=r.length;have hn:=yS;have fin:EP X U σ Q w s:=⟨z,H,I,G3,q⟩;by_cases h0:0<=i
 .have hj:i.toNat=j:=by
   rw[seqIndex_of h0 h5]at h1;exact Option.some.inj h1
  exact item_listR pl.isList h0 ∅ (by rw[hj];simpa using ew) fin hs
 .have hj:(i+aq.toArray.size).toNat=j:=by
   rw[seqIndex_neg ∅ h4]at h1;rw[Am,<- hl];exact Option.some.inj h1
  exact subscriptTail_builtinR pl.isList.typeIs slot_list_getitem.lookup
   (wpAny_getItem_list_neg pl.isList ∅ (by rw[Am]<;>lia) ∅ (by rw[hj];simpa using ew) ⟨rfl,fin⟩) hs
theorem aal:TK X (ade X.K):=by
 intro È Å U s σ H x y v u Q I rx ry h hs;obtain⟨p,xs,i,z,rfl,rfl,hq,he,q⟩:=h;cases rx;obtain⟨t,rfl⟩:=ry;obtain⟨aq,r,pl,hz⟩:=I.tuple hq;obtain⟨j,h1,h2,h3,h4,h5⟩:=zX he;obtain⟨w,ew,G3⟩:=r.get h2;have hn:=yS;have fin:EP X U σ Q w s:=⟨z,H,I,G3,q⟩;exact subscriptTail_builtinR pl.typeIs slot_tuple_getitem.lookup
  (getItem_tuple pl ∅ ∅ (by rw[Am,<- r.length];exact h1) (by simpa using ew) ⟨rfl,fin⟩) hs
theorem aam:TK X adf:=by
 intro È Å U s σ H x y v u Q I rx ry h hs;obtain⟨z,i,c,rfl,rfl,hz,he,q⟩:=h;obtain⟨t,rfl⟩:=rx;obtain⟨t',rfl⟩:=ry;obtain⟨j,h1,h2,h3,h4,h5⟩:=zX he;have hl:z.cps.toList.length=z.length:=by simp[Str.length]
 rw[hl]at h1 h4 h5;have hn:=yS;exact tail_any (typeIs_str s z t) slot_str_getitem.lookup (getItem_str (by
  rw[(decide_eq_false ∅),(decide_eq_false ∅),Bool.or_false]) (by rw[h1];simpa using h2) ⟨.str ⟨#[c]⟩,H,I.tok _,⟨_,rfl⟩,q⟩) hs
def rIx(K:Ab):R2:=λx y H Q=>adg K x y H Q\/ade K x y H Q\/adf x y H Q
def aan:TK X (rIx X.K):=VM.or (aal.or aam)
def JV(aq:O ci)(n j:Nat)(u:ci):BH (·.setIfInBounds j u) {cls:=.type "list",data:=.seq aq.toArray n}={cls:=.type "list",data:=.seq (aq.set j u).toArray n}:=by
 simp[BH]
def Inv.lst{U:O (db×Obj)}{σ:St}{H:Hp}{s:cr}{p:db}{xs:O V}(I:Inv X U σ H s)(h:H p=am (.lst xs)):∃(aq:O ci) (n:Nat),Vals xs aq/\s.heap.get? p=am {cls:=.type "list",data:=.seq aq.toArray n}/\xs.length<=sizeLine:=by
 obtain⟨z,aq,n,r,e⟩:=I.bG p _ h;exact⟨aq,n,r,e,z⟩
def Inv.ZX{s:cr}{n':Nat}{f:Obj->Obj}(I:Inv X U σ H s)(h:H p=am (.lst xs))(ho:s.heap.get? p=am {cls:=.type "list",data:=.seq aq.toArray n})(hf:f {cls:=.type "list",data:=.seq aq.toArray n}={cls:=.type "list",data:=.seq eW.toArray n'})(r:Vals ys eW)(hz:ys.length<=sizeLine)(t:Nat):Inv X U σ (upd H p (.lst ys)) {s with heap:=s.heap.update p f,toks:=t}:=by
 have e:(s.heap.update p f).get? p=am {cls:=.type "list",data:=.seq eW.toArray n'}:=by
  rw[B3 f ho (by rw[hf]<;>rfl),hf]
 refine I.write (x:=p) (e:=p) (by rw[h];trivial) (.inl rfl) (λb u hb q=>(BX _ _ (BE hb)).trans q) ⟨_,e⟩ ?_;exact⟨hz,eW,n',r,e⟩
def ac9:V->V->V->Hp->(Hp->Prop)->Prop:=λo i v H Q=>∃p xs k j,o=.ref p/\i=.int k/\H p=am (.lst xs)/\ux xs.length k=am j/\Q (upd H p (.lst (xs.set j v)))
theorem set_list:O2 X ac9:=by
 intro U s σ H o i v ov iv u Q I ro ri rv h;obtain⟨p,xs,k,j,rfl,rfl,hp,hj,q⟩:=h;cases ro;obtain⟨t,rfl⟩:=ri;obtain⟨aq,n,r,ho,hz⟩:=I.lst hp;obtain⟨h1,h2,h3,h4⟩:=sM hj;have hl:=r.length;have hn:=yS;have I':=
  I.ZX hp ho (JV aq n j u) (r.set rv j) (by rw[BL];exact hz) s.toks
 by_cases h0:0<=k
 .have hk:k.toNat=j:=by
   rw[seqIndex_of h0 h4]at h1;exact Option.some.inj h1
  exact PySem.W.ki_setAt ho h0 ∅ (by rw[Am,<- hl];exact h4) (by rw[hk];exact⟨_,I',q⟩)
 .have hk:(k+aq.toArray.size).toNat=j:=by
   rw[seqIndex_neg ∅ h3]at h1;rw[Am,<- hl];exact Option.some.inj h1
  exact PySem.W.ki_setBack ho ∅ (by rw[Am,<- hl];exact h3) ∅ (by rw[hk];exact⟨_,I',q⟩)
theorem yh(lo hi:Option Int)(n:Nat):(u8 lo hi ce n).1=((HT.dD n 0 lo:Nat):Int)/\(u8 lo hi ce n).2.1=((HT.dD n n hi:Nat):Int)/\(u8 lo hi ce n).2.2=1:=by
 refine⟨?_,?_,rfl⟩
 .cases lo with
  |none=>simp[u8,HT.dD]
  |some i=>
   simp only[u8,HT.dD,Option.getD_none];by_cases h:i<0
   .simp only[h,if_true]<;>lia
   .simp only[h,if_false]<;>lia
 .cases hi with
  |none=>simp[u8,HT.dD]
  |some i=>
   simp only[u8,HT.dD,Option.getD_none,if_true];by_cases h:i<0
   .simp only[h,if_true]<;>lia
   .simp only[h,if_false]<;>lia
def vE(aq:O ci)(lo hi:Option Int):FM aq.toArray lo hi ce=((aq.drop (HT.dD aq.length 0 lo)).take (HT.dD aq.length aq.length hi-HT.dD aq.length 0 lo)).toArray:=by
 obtain⟨h1,h2,h3⟩:=yh lo hi aq.toArray.size;unfold FM;rw[h1,h2,h3];simp only[sliceRange_one,pick_run]<;>rfl
def ahA(K:Ab):V->Option Int->Option Int->Hp->VK->Prop:=λx lo hi H Q=>∃a xs,x=.ref a/\b9 K H a xs/\∀p,H p=ce->Q (.ref p) (upd H p (.lst (IC xs lo hi)))
theorem Uq:WV X (ahA X.K):=by
 intro U s σ H x v vl vu lo hi sl Q I rx hs pl pu h;obtain⟨a,xs,rfl,hx,q⟩:=h;cases rx;obtain⟨aq,r,ht,hz⟩:=I.list hx;have Á:=r.length;refine⟨"list",_,slot_list_getitem.lookup,ht.isList.typeIs,?_⟩;refine EN ht.isList hs pl pu .none (by simp) ?_ (by rw[Am] <;> lia);rw[vE,<- Á];refine⟨.ref s.heap.objs.size,_,I.laid (λb ob q=>Ai _ q) (Al _) ?_,rfl,q _ (I.bG.fresh (Al _))⟩;exact⟨AD (qY xs lo hi) hz,_,0,(r.drop (HT.dD xs.length 0 lo)).take (HT.dD xs.length xs.length hi-HT.dD xs.length 0 lo),An _ rfl⟩
theorem zS:cB X (.type "list") (λxs H Q=>∃p ys,xs=[.ref p]/\(b9 X.K H p ys\/dU X.K H p ys)/\∀l,H l=ce->Q (.ref l) (upd H l (.lst ys))):=by
 intro U s σ H xs us Q I r h;obtain⟨p,ys,rfl,hq,q⟩:=h;obtain⟨u,rfl,rx⟩:=vals1 r;cases rx;have fin:∀aq,Vals ys aq->ys.length<=sizeLine->∀(h':pc) c',(∀b o',s.heap.get? b=am o'->h'.get? b=am o')->
   h'.get? s.heap.objs.size=am {cls:=.type "list",dict:=ce,data:=.seq aq.toArray c',slots:=#[]}->EP X U σ Q (.ref s.heap.objs.size) {s with heap:=h'}:=λaq r' hz h' c' kp e=>
  ⟨.ref s.heap.objs.size,_,I.laid (t':=s.toks) kp (Al _) (show bC X.prog X.w _ h' _ (.lst ys) from⟨hz,aq,c',r',e⟩),rfl,q _ (I.bG.fresh (Al _))⟩
 rcases hq with hq|hq
 .obtain⟨aq,r',pl,hz⟩:=I.list hq;have Á:=r'.length;obtain⟨o,ho,hc,n,hd⟩:=pl.isList;exact call_list_seq p (.inl rfl) ho hc hd (λh' c' kp e=>fin aq r' hz h' c' kp e) (by simp only[Am]<;>lia)
 .obtain⟨aq,r',pl,hz⟩:=I.tuple hq;have Á:=r'.length;obtain⟨o,ho,hc,n,hd⟩:=pl;exact call_list_seq p (.inr rfl) ho hc hd (λh' c' kp e=>fin aq r' hz h' c' kp e) (by simp only[Am]<;>lia)
theorem wu:cB X (.type "tuple") (λxs H Q=>∃p ys,xs=[.ref p]/\((b9 X.K H p ys/\∀l,H l=ce->Q (.ref l) (upd H l (.tup ys)))\/(dU X.K H p ys/\Q (.ref p) H))):=by
 intro U s σ H xs us Q I r h;obtain⟨p,ys,rfl,h⟩:=h;obtain⟨u,rfl,rx⟩:=vals1 r;cases rx;rcases h with⟨hq,q⟩|⟨hq,q⟩
 .obtain⟨aq,r',pl,hz⟩:=I.list hq;have Á:=r'.length;refine call_tuple_list pl.isList (λh' kp=>?_) (by simp<;>lia);have I1:=I.kept (t':=s.toks) kp;have I2:=
   I1.laid (t':=s.toks) (λb o e=>Ai _ e) (Al _) (show bC X.prog X.w _ _ _ (.tup ys) from⟨hz,aq,r',Ge _ _,_,An _ rfl,rfl⟩)
  exact⟨.ref h'.objs.size,_,I2,rfl,q _ (I1.bG.fresh (Al _))⟩
 .obtain⟨aq,r',pl,hz⟩:=I.tuple hq;exact call_tuple_same pl ⟨.ref p,H,I,rfl,q⟩
def tyV(K:Ab)(T:String)(x:V)(H:Hp):Prop:=match x with
 |.str _=>T="str"
 |.int _=>T="int"
 |.ref p=>(T="list"/\∃xs,b9 K H p xs)\/(T="tuple"/\∃o,K.lookup p=am o/\o.cls=.type "tuple"/\o.dict=ce)\/
   (T="dict"/\((∃au,H p=am (.dK au))\/∃au,H p=am (.dT au)))\/(T="set"/\∃S n,H p=am (.set S n))
 |_=>False
def Pp{s:cr}{x:V}(I:Inv X U σ H s)(r:RelV x v)(ty:tyV X.K T x H):s.TypeIs v T/\∀a,v=.ref a->∃ob,s.heap.get? a=am ob/\ob.dict=ce:=by
 cases x with
 |str z=>
  obtain⟨t,rfl⟩:=r;cases (ty);exact⟨typeIs_str s z t,λ_ e=>nomatch e⟩
 |int i=>
  obtain⟨t,rfl⟩:=r;cases (ty);exact⟨typeIs_int s i t,λ_ e=>nomatch e⟩
 |ref p=>
  cases r;rcases ty with⟨rfl,xs,hq⟩|⟨rfl,o,hk,hc,hd⟩|⟨rfl,hk⟩|⟨rfl,S,n,hk⟩
  .obtain⟨aq,_,pl,_⟩:=I.list hq;refine⟨pl.isList.typeIs,λa e=>?_⟩;cases e;obtain⟨o,n,e,c,hd,_⟩:=pl;exact⟨o,e,hd⟩
  .refine⟨⟨o,I.xo p o hk,hc⟩,λa e=>?_⟩;cases e;exact⟨o,I.xo _ o hk,hd⟩
  .have z:∃o,s.heap.get? p=am o/\o.ExactDict:=by
    rcases hk with⟨au,hk⟩|⟨au,hk⟩
    .obtain⟨_,_,_,_,o,_,_,e,ex,_⟩:=I.bG p _ hk;exact⟨o,e,ex⟩
    .obtain⟨_,_,_,_,o,_,_,e,ex,_⟩:=I.bG p _ hk;exact⟨o,e,ex⟩
   obtain⟨o,e,ex⟩:=z;refine⟨⟨o,e,ex.1⟩,λa e2=>?_⟩;cases e2;exact⟨o,e,ex.2.1⟩
  .obtain⟨o,_,_,_,e,ex,_⟩:=I.bG p _ hk;refine⟨⟨o,e,ex.1⟩,λa e2=>?_⟩;cases e2;exact⟨o,e,ex.2.1⟩
 |_=>exact BZ ty
def acN(K:Ab)(T:String)(r:V->O V->Hp->VK->Prop)(to:TE):TE:=λσ H Q=>to σ H λx H1=>tyV K T x H1/\r x [] H1 Q
def tBM(K:Ab)(T:String)(r:V->O V->Hp->VK->Prop)(to:TE)(t:TA):TE:=λσ H Q=>to σ H λx H1=>tyV K T x H1/\t σ H1 λxs H2=>r x xs H2 Q
variable{o e:mo}{es:O mo}{to:TE}{t:TA}{name:Str}{Â bV:Pos}{T id:String}{r:V->O V->Hp->VK->Prop}
def Zz(pa:PlainAttrs T)(slot:Slot T name id)(à:typeOf (.builtin id)=pure (.type "method_descriptor"))(hm:MtR X id r)(ho:PE X o to)(eZ:‹ss o name X.env (o0 o X.env)=o0 o X.env›)(eY:‹TL Â bV›):PE X (.Call (.Attribute o name Â) [] [] bV) (acN X.K T r to):=by
 intro U s σ H Q I h;refine wpAny_Call_method0_late eZ eY (cf (ho U s σ H _ I h) λv s1 ⟨x,H1,I1,r1,ty,q1⟩=>?_);obtain⟨h1,h2⟩:=Pp I1 r1 ty;exact⟨T,id,pa,slot,à,h1,h2,E3 rfl (PySem.evalArgs_none (hm U s1 σ H1 x [] v [] Q I1 r1 .nil q1))⟩
def adq(pa:PlainAttrs T)(slot:Slot T name id)(à:typeOf (.builtin id)=pure (.type "method_descriptor"))(hm:MtR X id r)(ho:PE X o to)(ha:PA X (e::es) t)(eZ:‹ss o name X.env (o0 o X.env)=o0 o X.env›)(qt:‹HWa X bV (e::es)›)(eY:‹TL Â bV›)(hs:‹hV X e es›)(eA:‹mm X bV es›):PE X (.Call (.Attribute o name Â) (e::es) [] bV) (tBM X.K T r to t):=by
 intro U s σ H Q I h;refine wpAny_Call_method_late eZ qt eY rfl (cf (ho U s σ H _ I h) λv s1 ⟨x,H1,I1,r1,ty,q1⟩=>?_);obtain⟨h1,h2⟩:=Pp I1 r1 ty;refine⟨T,id,pa,slot,à,h1,h2,?_⟩;have hA:=ha bV U s1 σ H1 _ I1 q1;rw[hs]at hA ⊢;exact E3 (by show(false||(ul bV (gt es X.env)).any (·.1))=false;rw[eA]<;>rfl) (Calls.evalArgs_plain (cf hA λus s2 ⟨vs,H2,I2,r2,q2⟩=>hm U s2 σ H2 x vs v us Q I2 r1 r2 q2))
end
def M6(X:Cx)(id:String)(r:V->O V->Hp->VK->Prop):Prop:=
 ∀(U:O (db×Obj)) (s:cr) (σ:St) (H:Hp) (x:V) (xs:O V) (v:ci) (us:O ci) (Q:VK),Inv X U σ H s->RelV x v->Vals xs us->r x xs H Q->
  ga (gl X.prog X.w) X.A (call (.builtin id) (v::us)) (EP X U σ Q) X.xe s
def Vals.one:∀{x:V}{us:O ci},Vals [x] us->∃u,us=[u]/\RelV x u
 |_,_,.cons r .nil=>⟨_,rfl,r⟩
def Vals.zero:∀{us:O ci},Vals [] us->us=[]
 |_,.nil=>rfl
def Vals.dropLast(h:Vals xs us):Vals xs.dropLast us.dropLast:=by
 induction h with
 |nil=>exact .nil
 |cons r t ih=>
  cases t with
  |nil=>exact .nil
  |cons q t'=>exact .cons r ih
theorem Vals.eraseIdx:∀{xs:O V}{us:O ci} (i:Nat),Vals xs us->Vals (xs.eraseIdx i) (us.eraseIdx i)
 |_,_,_,.nil=>.nil
 |_,_,0,.cons _ t=>t
 |_,_,i+1,.cons r t=>.cons r (Vals.eraseIdx i t)
theorem Vals.rep(h:Vals xs us):∀k:Nat,Vals (Ap k xs).flatten (Ap k us).flatten
 |0=>.nil
 |k+1=>by
  exact Vals.append h (Vals.rep h k)
theorem KQ(l:List α):l.eraseIdx (l.length-1)=l.dropLast:=by
 induction l with
 |nil=>rfl
 |cons a r ih=>
  cases r with
  |nil=>rfl
  |cons b r=>
   have e:(a::b::r).length-1=((b::r).length-1)+1:=by
    have h1:(a::b::r).length=r.length+2:=rfl;have h2:(b::r).length=r.length+1:=rfl;lia
   rw[e,DB,ih]
   all_goals rfl
theorem xi:∀(l:List α) (i:Nat),(l.eraseIdx i).length<=l.length
 |[],_=>Al _
 |_::_,0=>Dz _
 |_::r,i+1=>Nat.succ_le_succ (xi r i)
theorem foldl_rep(aq:O ci):∀(k:Nat) (Z:O ci),List.foldl (λx1 x2=>x1++x2) Z.toArray (Ap k aq.toArray)=(Z++(Ap k aq).flatten).toArray
 |0,Z=>by simp
 |k+1,Z=>by
  have e:Z.toArray++aq.toArray=(Z++aq).toArray:=by simp
  have e2:(Z++aq)++(Ap k aq).flatten=Z++(Ap (k+1) aq).flatten:=by
   rw[Dj,EK,AA]
  rw[<- e2,<- foldl_rep aq k (Z++aq),<- e,Dj,Ds]
section
variable{s:cr}{l:db}
def Inv.JY{f:Array ci->Array ci}{t':Nat}(I:Inv X U σ H s)(hH:H l=am (.lst xs))(e:s.heap.get? l=am {cls:=.type "list",data:=.seq aq.toArray n})(hf:f aq.toArray=eW.toArray)(hv:Vals ys eW)(hz:ys.length<=sizeLine):Inv X U σ (upd H l (.lst ys)) {s with heap:=s.heap.update l (BH f),toks:=t'}:=by
 have q:=PySem.IsL.update e f;rw[hf]at q;refine I.write (by rw[hH];exact trivial) (.inl rfl) (λb' u hb hu=>(BX s.heap (BH f) (BE hb)).trans hu) ⟨_,q⟩ ?_;exact⟨hz,eW,_,hv,q⟩
def Inv.ZZ{t':Nat}(I:Inv X U σ H s)(hv:Vals ys aq)(hz:ys.length<=sizeLine):Inv X U σ (upd H s.heap.objs.size (.lst ys)) {s with heap:=s.heap.push {cls:=.type "list",data:=.seq aq.toArray},toks:=t'}:=
 I.laid (λ_ _ q=>Ai _ q) (Al _) ⟨hz,aq,0,hv,An _ rfl⟩
def Inv.fresh(I:Inv X U σ H s):H s.heap.objs.size=ce:=I.bG.fresh (Al _)
def Inv.rD(I:Inv X U σ H s)(hH:H l=am (.lst xs)):xs.length<=sizeLine/\∃(aq:O ci) (n:Nat),Vals xs aq/\xs.length=aq.length/\s.heap.get? l=am {cls:=.type "list",data:=.seq aq.toArray n}:=by
 obtain⟨z,aq,n,r,e⟩:=I.bG l _ hH;exact⟨z,aq,n,r,r.length,e⟩
theorem oA(h:n<=sizeLine):Builtin.List.listTooLong n=false:=by
 exact decide_eq_false ∅
end
section
def UN:V->O V->Hp->VK->Prop:=λx vs H Q=>∃l xs y,x=.ref l/\vs=[y]/\H l=am (.lst xs)/\xs.length<sizeLine/\Q .aO (upd H l (.lst (xs++[y])))
theorem NM:M6 X "list.append" UN:=by
 intro U s σ H x vs v us Q I rx rv h;obtain⟨l,xs,y,rfl,rfl,hH,hz,q⟩:=h;cases rx;obtain⟨u,rfl,ru⟩:=rv.one;obtain⟨z,aq,n,r,hl,e⟩:=I.rD hH;refine ww F.slot_list_append ⟨_,e,rfl⟩ F.entry_list_append (F.args_list_append_2 _ _) (PySem.list_append l aq.toArray n u (by rw[Am];lia)) ⟨e,?_⟩;refine⟨.aO,_,I.JY hH e (by simp) (r.append (.cons ru .nil)) ?_,rfl,q⟩;rw[Ak,Fy];lia
def UL:V->O V->Hp->VK->Prop:=λx vs H Q=>∃l b xs zs,x=.ref l/\vs=[.ref b]/\H l=am (.lst xs)/\H b=am (.lst zs)/\xs.length+zs.length<=sizeLine/\Q .aO (upd H l (.lst (xs++zs)))
theorem abP:M6 X "list.extend" UL:=by
 intro U s σ H x vs v us Q I rx rv h;obtain⟨l,b,xs,zs,rfl,rfl,hH,hB,hz,q⟩:=h;cases rx;obtain⟨u,rfl,ru⟩:=rv.one;cases ru;obtain⟨z,aq,n,r,hl,e⟩:=I.rD hH;obtain⟨z2,du,n2,r2,XY,e2⟩:=I.rD hB;have uA:aq.toArray.size+du.toArray.size<=sizeLine:=by rw[Am,Am];lia
 have uB:¬(!aq.toArray.isEmpty&&Builtin.List.listTooLong (aq.toArray.size+du.toArray.size))=true:=by
  rw[oA uA,C7];exact AX
 refine ww Er ⟨_,e,rfl⟩ Eb (DY _ _)
  (AutoSeq1.list_extend_list_list_0 l aq.toArray n b du.toArray n2 uB (by rw[Am];lia) ∅) ⟨e,e2,?_⟩
 refine⟨.aO,_,I.JY hH e (by simp) (r.append r2) ?_,rfl,q⟩;rw[Ak];lia
def ahC:V->O V->Hp->VK->Prop:=λx vs H Q=>∃l xs y,x=.ref l/\vs=[]/\H l=am (.lst xs)/\xs[xs.length-1]?=am y/\Q y (upd H l (.lst xs.dropLast))
theorem ZU:M6 X "list.pop" ahC:=by
 intro U s σ H x vs v us Q I rx rv h;obtain⟨l,xs,y,rfl,rfl,hH,hy,q⟩:=h;cases rx;have hus:=rv.zero;subst hus;obtain⟨z,aq,n,r,hl,e⟩:=I.rD hH;obtain⟨u,hu,ru⟩:=r.get hy;have hy':aq.toArray[aq.toArray.size-1]?=am u:=by
  show aq.toArray[aq.length-1]?=am u;rw[<- DR,<- hl];exact hu
 refine ww F.slot_list_pop ⟨_,e,rfl⟩ F.entry_list_pop (F.args_list_pop_1 _) (MeetsSeq.list_pop_last l aq.toArray n u hy' (by rw[Am];lia)) ⟨e,?_⟩;refine⟨y,_,I.JY hH e ?_ r.dropLast ?_,ru,q⟩
 .rw[Am,DM,KQ]
 .rw[List.length_dropLast];lia
def Zm:V->O V->Hp->VK->Prop:=λx vs H Q=>∃l xs i k y,x=.ref l/\vs=[.int i]/\H l=am (.lst xs)/\-(2 ^ 63)<=i/\i<2 ^ 63/\seqIndex? i xs.length=am k/\xs[k]?=am y/\Q y (upd H l (.lst (xs.eraseIdx k)))
theorem Hs:M6 X "list.pop" Zm:=by
 intro U s σ H x vs v us Q I rx rv h;obtain⟨l,xs,i,k,y,rfl,rfl,hH,h1,h2,hk,hy,q⟩:=h;cases rx;obtain⟨u,rfl,ru⟩:=rv.one;obtain⟨t,rfl⟩:=ru;obtain⟨z,aq,n,r,hl,e⟩:=I.rD hH;obtain⟨w,hw,G3⟩:=r.get hy;refine ww F.slot_list_pop ⟨_,e,rfl⟩ F.entry_list_pop (F.args_list_pop_2 _ _)
  (MeetsSeq.list_pop_at l aq.toArray n i t k w (fitsIndex_both h1 h2) (by rw[Am,<- hl];exact hk) (by rw[<- DR];exact hw) (by rw[Am];lia)) ⟨e,?_⟩
 refine⟨y,_,I.JY hH e ?_ (r.eraseIdx k) ?_,G3,q⟩
 .rw[DM]
 .have:=xi xs k;lia
def ahE:R2:=λx y H Q=>∃l b xs zs,x=.ref l/\y=.ref b/\H l=am (.lst xs)/\H b=am (.lst zs)/\xs.length+zs.length<=sizeLine/\∀p,H p=ce->Q (.ref p) (upd H p (.lst (xs++zs)))
theorem ZK:iX X (t0 .Add) ahE:=by
 intro U s σ H x y v u Q I rx ry h;obtain⟨l,b,xs,zs,rfl,rfl,hH,hB,hz,q⟩:=h;cases rx;cases ry;obtain⟨z,aq,n,r,hl,e⟩:=I.rD hH;obtain⟨z2,du,n2,r2,XY,e2⟩:=I.rD hB;refine PySem.P.add_list e e2 ?_ (by rw[Am,Am];lia);have ea:aq.toArray++du.toArray=(aq++du).toArray:=by simp
 rw[ea];exact⟨.ref _,_,I.ZZ (r.append r2) (by rw[Ak];lia),rfl,q _ I.fresh⟩
def ahB:R2:=λx y H Q=>∃l k xs,x=.ref l/\y=.int k/\H l=am (.lst xs)/\-(2 ^ 63)<=k/\k<2 ^ 63/\xs.length*k.toNat<=sizeLine/\
 ∀p,H p=ce->Q (.ref p) (upd H p (.lst (Ap k.toNat xs).flatten))
def len_rep(xs:List α)(k:Nat):(Ap k xs).flatten.length=k*xs.length:=by
 induction k with
 |zero=>simp
 |succ k ih=>rw[Dj,EK,Ak,ih,Eg,F7]
theorem ZF:iX X (t0 .Mult) ahB:=by
 intro U s σ H x y v u Q I rx ry h;obtain⟨l,k,xs,rfl,rfl,hH,h1,h2,hz,q⟩:=h;cases rx;obtain⟨t,rfl⟩:=ry;obtain⟨z,aq,n,r,hl,e⟩:=I.rD hH;have Á:aq.toArray.size*k.toNat<=sizeLine:=by rw[Am,<- hl];exact hz
 have aiK:¬aq.toArray.size*k.toNat > (2 ^ 63-1) / 8:=by
  have:(sizeLine:Nat)<=(2 ^ 63-1) / 8:=by decide
  lia
 have aiC:¬(!Builtin.List.listFitsIndex k)=true:=by
  rw[fitsIndex_both h1 h2];exact AX
 have uB:¬Builtin.List.listTooLong (aq.toArray.size*k.toNat)=true:=by
  rw[oA Á];exact AX
 have VY:List.foldl (λx1 x2=>x1++x2) #[] (Ap (if aq.toArray.isEmpty=true then 0 else k.toNat) aq.toArray)=(Ap k.toNat aq).flatten.toArray:=by
  have f0:∀m:Nat,List.foldl (λx1 x2=>x1++x2) #[] (Ap m aq.toArray)=(Ap m aq).flatten.toArray:=λm=>by
   have:=foldl_rep aq m [];exact this
  rw[f0];cases aq with
  |nil=>simp
  |cons a r'=>rw[if_neg (by simp)]
 refine wpAny_binaryOp_repeat_ref (T:="list") ⋯ ⟨_,e,rfl⟩ (λs'=>typeIs_int s' k t) noFill_list_mul F.fills_int_mul F.slot_int_rmul repeat_list F.slot_int_index.lookup
  (ww F.slot_int_rmul (typeIs_int s k t) F.entry_int_rmul (F.args_int_rmul_2 _ _) (int___rmul___int_list k t l aq.toArray n)
   ⟨e,rfl,⟨_,e,rfl⟩,ww F.slot_list_mul ⟨_,e,rfl⟩ F.entry_list_mul (F.args_list_mul_2 _ _) (AutoListH.list___mul___list_int_3 l aq.toArray n k t aiC aiK uB) ⟨e,?_⟩⟩)
 rw[VY];exact⟨.ref _,_,I.ZZ (r.rep k.toNat) (by rw[len_rep,E5];exact hz),rfl,q _ I.fresh⟩
end
end L2
variable{xs:O (O L2.Key×Bq×A8)}{v:L2.V}{au:O (O L2.Key×L2.V)}{env:PySem.Env}{È:BC}{Js:Cn}{Xa:O (L2.TE×L2.TE)}{Æ:O (Option BC)}{Ç:O BC}
namespace L2
section
variable{κ:Type}[DecidableEq κ]
def iZ(au:O (κ×V))(k:κ):Option V:=(au.find? λkv=>decide (kv.1=k)).map (·.2)
def putK(au:O (κ×V))(k:κ)(v:V):O (κ×V):=
 if (au.any λkv=>decide (kv.1=k))=true then au.map (λkv=>if kv.1=k then (kv.1,v) else kv) else au++[(k,v)]
def kL{p:κ×V}{r:O (κ×V)}{k:κ}(e:p.1=k):iZ (p::r) k=am p.2:=by simp[iZ,e]
def kM{p:κ×V}{r:O (κ×V)}{k:κ}(e:¬p.1=k):iZ (p::r) k=iZ r k:=by simp[iZ,e]
theorem GL(k:κ):∀au:O (κ×V),(au.any λkv=>decide (kv.1=k))=(iZ au k).isSome
 |[]=>rfl
 |p::r=>by
  rw[Cm];by_cases e:p.1=k
  .simp only[kL e,decide_eq_true e,Bool.true_or,F0]
  .rw[kM e,decide_eq_false e,Bool.false_or];exact GL k r
theorem HC(au:O (κ×V))(k:κ)(v:V):(putK au k v).length<=au.length+1:=by
 unfold putK
 split
 .rw[Af];lia
 .rw[Ak,Au,D9];lia
def KV.val{au:O (κ×V)}{vs:O (κ×ci)}(r:KV au vs)(k:κ):Gq (iZ au k) (valueAt vs k):=by
 unfold KV at r
 induction r with
 |nil=>exact B6
 | @cons p q ps qs h t ih=>
  obtain⟨h1,h2⟩:=h;by_cases e:p.1=k
  .have e':q.1=k:=h1.symm.trans e;have b:valueAt (q::qs) k=am q.2:=by simp[valueAt,Ea,e']
   rw[kL e,b];exact h2
  .have e':¬q.1=k:=λz=>e (h1.trans z);have b:valueAt (q::qs) k=valueAt qs k:=by simp[valueAt,Ea,e']
   rw[kM e,b];exact ih
def KV.any{au:O (κ×V)}{vs:O (κ×ci)}(r:KV au vs)(k:κ):(au.any λkv=>decide (kv.1=k))=vs.any λkv=>decide (kv.1=k):=by
 induction r with
 |nil=>rfl
 |cons h t ih=>rw[Cm,Cm,ih,h.1]
def KV.ahm{au:O (κ×V)}{vs:O (κ×ci)}(r:KV au vs)(k:κ)(ry:RelV y u):KV (au.map λkv=>if kv.1=k then (kv.1,y) else kv) (vs.map λkv=>if kv.1=k then (kv.1,u) else kv):=by
 induction r with
 |nil=>exact .nil
 | @cons p q ps qs h t ih=>
  rw[Av,Av];refine .cons ?_ ih;obtain⟨h1,h2⟩:=h;by_cases e:p.1=k
  .rw[if_pos e,if_pos (h1.symm.trans e)];exact⟨h1,ry⟩
  .rw[if_neg e,if_neg (λz=>e (h1.trans z))];exact⟨h1,h2⟩
def KV.put{au:O (κ×V)}{vs:O (κ×ci)}(r:KV au vs)(k:κ)(ry:RelV y u):KV (putK au k y) (stored vs k u):=by
 unfold putK stored;rw[r.any k];by_cases e:(vs.any λkv=>decide (kv.1=k))=true
 .rw[if_pos e,if_pos e];exact r.ahm k ry
 .rw[if_neg e,if_neg e];exact Paired.snoc r ⟨rfl,ry⟩
end
def RE{k:Key}(r:RelV (kV k) u):(bQ P w).is k u=true:=by
 cases k with
 |inl i=>obtain⟨t,e⟩:=(r);subst e;exact Hv P w i t
 |inr x=>obtain⟨t,e⟩:=(r);subst e;exact Hu P w x t
theorem xq:∀{ks:O Key}{us:O ci},Vals (ks.map kV) us->ItemsAre (bQ P w) ks us
 |[],_,r=>by rw[CF]at r;cases r;exact .nil
 |k::ks,_,r=>by
  cases r with
  |cons h t=>exact .cons (RE h) (xq t)
abbrev KT(H:Hp):O (O Key×V)->O (O Key×db×ci)->Prop:=Paired λp q=>p.1=q.1/\H q.2.1=am (.tup (p.1.map kV))/\RelV p.2 q.2.2
def KT.val(r:KT H au xs)(k:O Key):Gq (iZ au k) ((atKey xs k).map (·.2)):=by
 induction r with
 |nil=>exact B6
 | @cons p q ps qs h t ih=>
  obtain⟨h1,_,h2⟩:=h;by_cases e:p.1=k
  .have e':=h1.symm.trans e;have b:atKey (q::qs) k=am q.2:=by simp[atKey,Ea,e']
   rw[kL e,b];exact h2
  .have e':¬q.1=k:=λz=>e (h1.trans z);have b:atKey (q::qs) k=atKey qs k:=by simp[atKey,Ea,e']
   rw[kM e,b];exact ih
def KT.keeps(r:KT H au xs)(ht:∀b ys,H b=am (.tup ys)->H' b=am (.tup ys)):KT H' au xs:=
 Paired.ZV r λ_ _ z=>⟨z.1,ht _ _ z.2.1,z.2.2⟩
section
def Xn{u:HO}(ok:mH P w H h)(e:Rd H a u):bC P w H h a u:=e.ok ok
def xI{au:O (Key×V)}(ok:mH P w H h)(e:Rd H a (.dK au)):au.length<=sizeLine/\(a==wT)=false/\∃vs,KV au vs/\h.DictOf (bQ P w) a vs:=
 show bC P w H h a (.dK au) from Xn ok e
def ae2{au:O (Key×V)}(ok:mH P w H h)(e:H a=am (.dK au)):au.length<=sizeLine/\(a==wT)=false/\∃vs,KV au vs/\h.DictOf (bQ P w) a vs:=xI ok (.inl e)
def J6{ks:O Key}(ok:mH P w H h)(e:H a=am (.tup (ks.map kV))):(sw (bQ P w)).is h ks a:=by
 obtain⟨_,aq,r,⟨o,h1,h2,n,h3⟩,_⟩:=(show bC P w H h a (.tup (ks.map kV)) from ok a _ e);exact⟨o,aq.toArray,n,h1,h2,h3,by simpa using xq r⟩
def IA(ok:mH P w H h)(e:Rd H a (.dT au)):au.length<=sizeLine/\(a==wT)=false/\ ∃xs,KT H au xs/\h.DictOfH (sw (bQ P w)) a xs:=by
 obtain⟨z,y,xs,r,o,es,ep,h1,h2,h3,h4,h5⟩:=(Xn ok e);refine⟨z,y,xs,r,o,es,ep,h1,h2,h3,h4,λx hx=>?_,h5⟩;have all:∀{l:O (O Key×V)}{m:O (O Key×db×ci)},KT H l m->∀x∈m,(sw (bQ P w)).is h x.1 x.2.1:=by
  intro l m q
  induction q with
  |nil=>intro x hx;exact nomatch hx
  | @cons p q ps qs hq t ih=>
   intro x hx;rcases AB.mp hx with e|hx
   .subst e;exact J6 ok (by rw[<- hq.1];exact hq.2.1)
   .exact ih x hx
 exact all r x hx
end
def W3(H:Hp)(a:db)(y:V)(r:Option V):Prop:=
 (∃au k,Rd H a (.dK au)/\y=kV k/\r=iZ au k)\/∃au k b,Rd H a (.dT au)/\y=.ref b/\H b=am (.tup (k.map kV))/\r=iZ au k
section
variable{s:cr}{o:Option V}
def Inv.big(I:Inv X U σ H s):wT<s.heap.objs.size:=by
 exact Nat.lt_trans ⋯ ((I.mod.glob.keeps I.bk).lt)
def OG(hu:A.units+1<tz)(I:Inv X U σ H s)(g:W3 H a y (am v))(ry:RelV y u)(h:∀w' s',Inv X U σ H s'->RelV v w'->Q w' s'):ga (gl X.prog X.w) A (P3 (.ref a) u) Q E s:=by
 rcases g with⟨au,k,e,ey,l⟩|⟨au,k,b,e,ey,eb,l⟩
 .subst ey;obtain⟨z,hd,vs,rel,dd⟩:=xI I.bG e;obtain⟨w',hw,G3⟩:=Gq.some_of (v:=v) (o:=valueAt vs k) (by rw[l];exact rel.val k);exact wpAny_getItem_of (RE ry) dd.mapOf hw (h w' _ (I.tok _) G3)
 .subst ey;cases (show u=AV b from ry);obtain⟨z,hd,xs,rel,dd⟩:=IA I.bG e;obtain⟨w',hw,G3⟩:=Gq.some_of (v:=v) (o:=(atKey xs k).map (·.2)) (by rw[l];exact rel.val k);obtain⟨p,hp,Gy⟩:=Option.map_eq_some_iff.mp hw;refine wpAny_getItem_heap (tupleKind_room_in1 hu) (J6 I.bG eb) dd hp ?_;rw[Gy];exact h w' _ (I.tok _) G3
def Wz{t':Nat}{ob:HO}(I:Inv X U σ H s)(mu:Mut (H a))(hs:Ci a s.heap h')(he:∃q,h'.get? a=am q)(new:bC X.prog X.w (upd H a ob) h' a ob):Inv X U σ (upd H a ob) {s with heap:=h',toks:=t'}:=
 I.write (x:=a) (e:=a) mu (.inl rfl) (λb q hb z=>(hs.2 b hb).trans z) he new
def abd{au:O (Key×V)}{vs:O (Key×ci)}(z:au.length<=sizeLine)(hd:(a==wT)=false)(rel:KV au vs)(dd:h'.DictOf (bQ P w) a vs):bC P w H' h' a (.dK au):=⟨z,hd,vs,rel,dd⟩
end
def abA(i:mo):Prop:=∀ov iv,subscripted i false ov iv=operate [ov,iv] (P3 ov iv)
def Uc{s:cr}{Å:mo}{id:String}(hl:FS (.type T) "__getitem__"=pure (am (.builtin id)))(hs:abA Å)(h:ga (gl prog w) A (o0 È env) (λo s₁=>ga (gl prog w) A (o0 Å env) (λi s₂=>s₂.TypeIs o T/\ga (gl prog w) A (P3 o i) Q E s₂) E s₁) E s):ga (gl prog w) A (o0 (.Subscript È Å pos) env) Q E s:=by
 refine Subscript_ (BO h (λo s₁ h₁=>BO h₁ (λi s₂ h₂=>?_) λ_ _ x=>x) λ_ _ x=>x);obtain⟨hT,h₂⟩:=h₂;refine Aa ?_;refine Aa (Fm hT hl ?_);have fin:ga (gl prog w) A (subscripted Å false o i) (λr s₃=>ga (gl prog w) A (letTemporaryGo È o r >>= λ_=>pure r) Q E s₃) E s₂:=by
  rw[hs o i];exact wpAny_operating (BO h₂ (λr s₃ h₃=>Aa (wpAny_letTemporaryGo (Ag h₃))) λ_ _ x=>x)
 first
  |exact Ag (Aa fin)
  |exact Aa (Ag (Aa fin))
  |exact Aa fin
def IB{s:cr}{o:Option V}(I:Inv X U σ H s)(g:W3 H a y o):s.TypeIs (.ref a) "dict":=by
 rcases g with⟨au,k,e,_,_⟩|⟨au,k,b,e,_,_,_⟩
 .obtain⟨_,_,vs,_,dd⟩:=xI I.bG e;exact dd.typeIs
 .obtain⟨_,_,xs,_,dd⟩:=IA I.bG e;exact dd.typeIs
def acK(td ty:TE):TE:=λσ H Q=>td σ H λx H1=>ty σ H1 λy H2=>∃a v,x=.ref a/\W3 H2 a y (am v)/\Q v H2
section
variable{i:mo}{td ty:TE}
def U0(hu:X.A.units+1<tz)(ho:PE X o td)(hi:PE X i ty)(hs:abA i):PE X (.Subscript o i pos) (acK td ty):=by
 intro U s σ H Q I h;refine Uc PySem.F.slot_dict_getitem.lookup hs (cf (ho U s σ H _ I h) λu s1 ⟨x,H1,I1,rx,q1⟩=>cf (hi U s1 σ H1 _ I1 q1) λiv s2 ⟨y,H2,I2,ry,a,v,ex,g,q2⟩=>?_);subst ex;obtain rfl:u=AV a:=rx;exact⟨IB I2 g,OG hu I2 g ry λw' s3 I3 G3=>⟨v,H2,I3,G3,q2⟩⟩
end
def SS(h:pc)(hb:wT < h.objs.size):bC P w H (h.push {cls:=.type "dict",data:=.dict #[]}) h.objs.size (.dK []):=
 ⟨A9 _,beq_eq_false_iff_ne.mpr (BE (AH hb)),[],.nil,Heap.DictOf.new h⟩
def xY:O (TE×TE)->St->Hp->(O (V×V)->Hp->Prop)->Prop
 |[],_,H,Q=>Q [] H
 |(tk,tv)::r,σ,H,Q=>tk σ H λx H1=>tv σ H1 λy H2=>xY r σ H2 λps H3=>Q ((x,y)::ps) H3
abbrev VV:O (V×V)->O (ci×ci)->Prop:=Paired λp q=>RelV p.1 q.1/\RelV p.2 q.2
def PPs(X:Cx)(pos:Pos)(Æ:O (Option mo))(Ç:O mo)(Xa:O (TE×TE)):Prop:=
 ∀(U:O (db×Obj)) (s:cr) (σ:St) (H:Hp) (Q:O (V×V)->Hp->Prop),Inv X U σ H s->xY Xa σ H Q->
  ga (gl X.prog X.w) X.A (evalPairs (pairTrees Æ Ç X.env pos)) (λvs s'=>∃ps H',Inv X U σ H' s'/\VV ps vs/\Q ps H') X.xe s
def UO:PPs X pos [] [] []:=λU s σ H Q I h=>pairTrees_nil_walk ⟨[],H,I,.nil,h⟩
def tJ{k v:mo}{ks:O (Option mo)}{vs:O mo}{tk tv:TE}(hk:PE X k tk)(hv:PE X v tv)(hr:PPs X pos ks vs Xa):PPs X pos (am k::ks) (v::vs) ((tk,tv)::Xa):=λU s σ H Q I h=>
 pairTrees_cons_walk (cf (hk U s σ H _ I h) λu s1 ⟨x,H1,I1,rx,q1⟩=>cf (hv U s1 σ H1 _ I1 q1) λw2 s2 ⟨y,H2,I2,ry,q2⟩=>
  cf (hr U s2 σ H2 _ I2 q2) λws s3 ⟨ps,H3,I3,rel,q3⟩=>⟨(x,y)::ps,H3,I3,.cons ⟨rx,ry⟩ rel,q3⟩)
def iE(au more:O (Key×V)):O (Key×V):=more.foldl (λZ kv=>putK Z kv.1 kv.2) au
def KV.merge:∀{more:O (Key×V)}{rs:O (Key×ci)}{au:O (Key×V)}{vs:O (Key×ci)},KV more rs->KV au vs->KV (iE au more) (merged vs rs):=by
 intro more rs au vs r
 induction r generalizing au vs with
 |nil=>intro q;exact q
 | @cons p q ps qs h t ih=>
  intro r0;have e:KV (putK au p.1 p.2) (stored vs q.1 q.2):=by
   have:=r0.put p.1 h.2;rw[<- h.1];exact this
  exact ih e
theorem mK:∀(more au:O (Key×V)),(iE au more).length<=au.length+more.length
 |[],au=>by show au.length<=au.length+0;lia
 |p::r,au=>by
  have h1:=mK r (putK au p.1 p.2);have h2:=HC au p.1 p.2;show(iE (putK au p.1 p.2) r).length<=_;rw[Au];lia
theorem u4{P:wE}{w:Db}:∀{au:O (Key×V)}{ws:O (ci×ci)},VV (au.map λkv=>(kV kv.1,kv.2)) ws->∃rs,Carries (bQ P w) ws rs/\KV au rs
 |[],_,r=>by rw[CF]at r;cases r;exact⟨[],B6,.nil⟩
 |p::au,_,r=>by
  rw[Av]at r;cases r with
  | @cons a b as bs h t=>
   obtain⟨rs,c,q⟩:=u4 t;obtain⟨b1,b2⟩:=b;exact⟨(p.1,b2)::rs,⟨RE h.1,rfl,c⟩,.cons ⟨rfl,h.2⟩ q⟩
def acJ(Xa:O (TE×TE)):TE:=λσ H Q=>∀p,H p=ce->xY Xa σ (upd H p (.dK [])) λps H2=>H2 p=am (.dK [])/\∃au:O (Key×V),ps=au.map (λkv=>(kV kv.1,kv.2))/\au.length<=15/\Q (.ref p) (upd H2 p (.dK (iE [] au)))
theorem UZ(h:PPs X pos Æ Ç Xa)(Ku:Æ.all (·.isSome)=true)(hl:Æ.length=Ç.length)(h0:Æ≠[])(Ś:Æ.length<=15):PE X (.Dict Æ Ç pos) (acJ Xa):=by
 intro U s σ H Q I q;have hn:=I.bG.fresh (Al s.heap.objs.size);refine wpAny_Dict_walk (knd:=bQ X.prog X.w) Ku hl h0 Ś (cf (h U _ σ _ _ (I.laid (a:=s.heap.objs.size) (t':=s.toks) (λ_ _ q=>Ai _ q) (Al _) (SS s.heap I.big)) (q _ hn)) λws s2 ⟨ps,H2,I2,rel,e,au,ep,lk,q2⟩=>?_);subst ep;obtain⟨rs,c,rk⟩:=u4 rel;obtain⟨z,hd,vs0,r0,dd⟩:=ae2 I2.bG e;cases r0;refine⟨rs,c,dd,λh' dd' hs=>⟨.ref s.heap.objs.size,_,?_,rfl,q2⟩⟩;have hz:(iE [] au).length<=sizeLine:=by
  have h1:=mK au [];rw[D9]at h1;rw[IR];lia
 have he:∃q,h'.get? s.heap.objs.size=am q:=let ⟨q,_,_,hq,_⟩:=dd';⟨q,hq⟩;exact Wz I2 (by rw[e];exact B6) hs he (abd hz hd (rk.merge .nil) dd')
structure M2(X:Cx)(o:mo)(m:Str)(Â:Pos)(e f:mo)(bV:Pos):Prop where
 base:ss o m X.env (o0 o X.env)=o0 o X.env
 few:((ul bV (gt [e,f] X.env)).all (λx=>!x.1)&&(GM bV (zn [] X.env)).all (λx=>x.1.isSome)
  && decide (([e,f]:List mo).length+([]:List Keyword).length+(if ([]:List Keyword).isEmpty then 0 else 1)<30))=true
 line:(Â.endLine==bV.line)=true
 trees:ul bV (gt [e,f] X.env)=[(false,o0 e X.env),(false,o0 f X.env)]
def IsD(H:Hp)(a:db):Prop:=(∃au,Rd H a (.dK au))\/∃au,Rd H a (.dT au)
end L2
variable{Ö:O Cf}{XP:(Cf->Option A8)->E4->Prop}{YP:PySem.World->E4->Prop}
namespace Att
open PySem PySem.W PySem.Calls PyProof.Rows
def rJ{P:Params}:∀(ns:O Int) (vs:O ci),WellAll P h vs (ns.map WData.int)->wS vs ns:=by
 intro ns
 induction ns with
 |nil=>
  intro vs w;cases w;exact .nil
 |cons n ns ih=>
  intro vs w;cases w with
  |cons a b=>
   cases a;exact .cons _ _ (ih _ b)
theorem Nq{l:OpenLaw}(hn:l.most=am n){P:Params}{args:O WData}{Ý:O ci}(VW:l.row.toRowW.claim.pre args=true)(Ń:WellAll P h Ý args):∃a vs ns,Ý=[AV a]/\args=[WData.list (ns.map WData.int)]/\h.get? a=am {cls:=.type "list",data:=.seq vs.toArray}/\wS vs ns/\ns.length<=n:=by
 have hc:l.pre.holds [] {args:=args}=true:=(pre_splitW VW).2;obtain⟨d,r,rfl,h1,h2⟩:=hasAllW_cons ((pre_splitW VW).1);obtain rfl:=hasAllW_nil h2;obtain⟨xs,rfl,h3⟩:=hasW_list h1;obtain⟨ns,rfl⟩:=items_int h3;have Á:ns.length<=n:=by
  unfold OpenLaw.pre at hc;have h4:(WTm.not (.lt (.lit (.int (n:Int))) (.len (.arg 0)))).holds [] {args:=[.list (ns.map .int)]}=true:=by
   have h4:=(holds_andW hc).1;rw[hn]at h4;exact h4
  have h5:=condW_of h4 (w_not (w_lt w_lit (w_len_list (w_arg rfl))));refine Nat.le_of_not_lt λq=>?_
  first
   |(rw[decide_eq_true q']at h5;exact absurd h5 ⋯)
   |(simp at h5;lia)
 cases Ń with
 |cons w1 w2=>
  cases w2;cases w1 with
  |list ho Ku=>exact⟨_,_,ns,rfl,rfl,ho,rJ ns _ Ku,Á⟩
def NA(l:OpenLaw)(args:O WData):l.row.toRowW.claim.post args (.bool true) args=true:=
 postW_of
  (show WShape.has [] (.bool true) .bool=true by first|rfl|decide|simp[WShape.has,WShape.arms])
  (w_eq_bool (w_res rfl) w_lit) rfl
def IJ{l:OpenLaw}{q:wE}{d:DefRec}(hn:l.most=am n)(Ŕ:d.params.defaults=[])(call:∀(w:Db) (s₀ s₁:cr) (mg mb:Str->Option ci) (fa:db) (o:Obj) (pm cd Ê:ci) (a:db) (vs:O ci) (ns:O Int),
   Ground q Ö [] XP w s₀ mg mb s₁.heap->YP w s₁.heap->
   s₁.heap.get? fa=am o->o.data=.func (docDef d.name d.params d.body d.scope pm cd Ê)->s₁.heap.CodeRec cd d.name->mg d.name=am (.ref fa)->
   s₁.heap.get? a=am {cls:=.type "list",data:=.seq vs.toArray}->wS vs ns->ns.length<=n->s₁.gens=#[]->
   KF (gl l.prog w) callerA (.call (.ref fa) ⟨[.ref a],[]⟩) (λr s'=>r=.ok (.ret (.bool true))/\OldK s₁.heap s'.heap/\s'.os=s₁.os/\Rs s'.gens) s₁):WalkO q Ö XP YP l.row.toRowW d [] (λf vs=>PySem.call f vs):=by
 intro w s₀ s₁ mg mb G Y fa o pm cd Ê dV kV ho hd kD hD hmg hg args Ý as VW amd hrd Ń hlo;obtain rfl:dV=.none:=Dflts.none hD Ŕ;obtain rfl:kV=.none:=Dflts.noKw hD;obtain⟨a,vs,ns,rfl,rfl,Ť,Ø,Á⟩:=Nq hn VW Ń;refine enter_call (Re (call w s₀ s₁ mg mb fa o pm cd Ê a vs ns G Y ho (fd_plain hd) kD hmg Ť Ø Á hg) λr s' hq=>?_);obtain⟨rfl,h2,h3,h4⟩:=hq;exact⟨.inl ⟨.bool true,.bool true,[],rfl,λ_=>rfl,.bool true,NA l _,λ_=>⟨List.Pairwise.nil,λ_ hm=>(nomatch hm)⟩⟩,h2,h3,h4⟩
end Att
namespace L2
theorem pT:∀{vs:O ci}{ns:O Int},wS vs ns->Vals (ns.map V.int) vs
 |_,_,.nil=>.nil
 |_,_,.cons n t h=>.cons ⟨t,rfl⟩ (pT h)
end L2
variable{sp:L2.Sp}{B:Prop}
namespace L2
def fH(s:ut):Arguments:=match s with
 |.FunctionDef _ a _ _ _ _ _ _ _ _=>a
 |_=>{posonlyargs:=[],args:=[],vararg:=ce,kwonlyargs:=[],kw_defaults:=[],kwarg:=ce,defaults:=[]}
def cZ(s:ut):O ut:=match s with
 |.FunctionDef _ _ b _ _ _ _ _ _ _=>b
 |_=>[]
def aQ(s:ut):nw:=match s with
 |.FunctionDef _ _ _ _ _ _ sc _ _ _=>sc
 |_=>{kind:=.function,names:=[],isGenerator:=false,isCoroutine:=false}
abbrev GB:W4:=λ_ _ _ _ _ _=>False
abbrev E0:XK:=λ_ _ _=>False
def adt:Passes GB X E0:=λ_ _ _ _ _ _ _ h=>h.elim
structure WZ(K:Ab)(x qual:Str)(st:ut)(f:db)(fd:FuncData):Prop where
 ex:∃(oc:ci) (od:Option db) (kV Ê pm:ci) (an:Option db) (fU ct:ci) (Tv:Array (Option ci)),
  fd=Ca x qual (fH st) (cZ st) (aQ st) .none kV Ê pm an fU ct/\K.lookup f=am ⟨oc,od,.func fd,Tv⟩/\El K fU qual=true
 kp:Ek K (.ref f)=true
section
variable{K:Ab}
def WZ.ok{st:ut}{f:db}{N:O Str}(F:WZ K x qual st f fd)(S:fe N ps (aQ st))(len:∀vs H Q E,sp vs H Q E->vs.length=ps.length)(RZ:∀(fU:ci) (A:EQ) (outer:O Env) (s:cr) (H:Hp) (vs:O V) (Q:VK) (E:XK),eG k (A.deeper (Gc qual (aQ st) s.heap.objs.size f fU))->sp vs H Q E->
   ∃t,pO (wq GB P w K mg base N qual (aQ st) f fU A outer s H E).Xv (cZ st) t/\t {nx:=λ_ H'=>Q .aO H',rt:=Q} (start N vs) H):lL P w K mg base GB (k+1) f fd ps sp:=by
 obtain⟨oc,od,kV,Ê,pm,an,fU,ct,Tv,rfl,lk,kD⟩:=F.ex;refine aeH lk kD S len λA outer s H vs Q E hr á=>?_;obtain⟨t,h,q⟩:=RZ fU A outer s H vs Q E hr á;exact⟨t,h.Xv,q⟩
def WZ.binds{st:ut}{f:db}(F:WZ K x qual st f fd)(h:∀(kV Ê pm:ci) (an:Option db) (fU ct:ci) (us:O ci),us.length=ps.length->bindArgs (Ca x qual (fH st) (cZ st) (aQ st) .none kV Ê pm an fU ct) ⟨us,[]⟩=pure (ps.zip us)):Binds K fd ps []:=by
 obtain⟨oc,od,kV,Ê,pm,an,fU,ct,Tv,rfl,lk,kD⟩:=F.ex;exact .all (h kV Ê pm an fU ct)
def aaS{st:ut}{f:db}{kV:ci}(l:K.lookup f=am ⟨oc,od,.func (Ca x qual (fH st) (cZ st) (aQ st) .none kV Ê pm an fU ct),Tv⟩)(c:El K fU qual=true)(k:Ek K (.ref f)=true):WZ K x qual st f (Ca x qual (fH st) (cZ st) (aQ st) .none kV Ê pm an fU ct):=⟨⟨oc,od,kV,Ê,pm,an,fU,ct,Tv,rfl,l,c⟩,k⟩
end
def Nm(h:n<=1000):n<sizeLine:=Nat.lt_of_le_of_lt h ⋯
section
def pv(i:Nat)(hN:‹X.N[i]?=am x›)(hv:Jh X.env.scope x:=by first|exact Cg rfl|exact Cr (Cg rfl)|exact Cr (Cr rfl))(hd: ~~~(jz x))(kD: ~~~(LC x)):PE X (.Name x pos) (YS i):=fX hN hv hd kD
end
def za{A:Prop}(h:B):if false=true then A else B:=by
 exact h
def y9{A:Prop}(h:A):if true=true then A else B:=by
 exact h
def jy(H H':Hp):Prop:=∀b o,H b=am o->H' b=am o
def jy.refl(H:Hp):jy H H:=λ_ _ h=>h
end L2
variable{b:Nat}{H2:L2.Hp}{R:PySem.Result->C9->Prop}{Xs:PySem.Scope}{N':O Cf}{ix:O (Option Nat)}{cl:O (Cf×Bq)}{Ã:BC}{É:O BC}{rz:Cn}
namespace L2
def lsz{o:Obj}(e:h.get? b=am o):b<h.objs.size:=Aq e
def neN{a:Nat}(h:a≠b):a≠b:=h
def ltN{a:Nat}(h:a<b):a<b:=h
def Yl{c:Nat}{v:Option ci}(q:h.IsCell c v):c<h.objs.size:=q.lt
structure a7(Xs:nw)(N:List Str)(sc:nw)(N':List Str)(ix:List (Option Nat)):Prop where
 kind:sc.kind=.function
 nc:∀y∈sc.names,y.2=.cell->sc.names.lookup y.1=am .cell
 loc:∀y∈sc.names,y.2=.local->sc.names.lookup y.1=am .local
 fr:∀y∈sc.names,y.2=.free->(Xs.names.lookup y.1=am .cell\/Xs.names.lookup y.1=am .free)
 nd:N'.Nodup
 len:ix.length=N'.length
 map:((ix.zip N').all λp=>match p.1 with|none=>true|some j=>decide (N[j]?=am p.2)&&decide (sc.names.lookup p.2=am .free))=true
def a7.at{N:O Str}{sc:nw}(S:a7 Xs N sc N' ix){i:Nat}(h1:ix[i]?=am (am j))(h2:N'[i]?=am x):N[j]?=am x/\sc.names.lookup x=am .free:=by
 have hm:((am j,x):Option Nat×Str)∈ix.zip N':=by
  refine Bd (i:=i) ?_;rw[List.getElem?_zip_eq_some];exact⟨h1,h2⟩
 have q:=Dg.mp S.map _ hm;simp at q;exact q
def pF(ix:O (Option Nat))(σ:St):St:=ix.map λo=>match o with|some j=>(σ[j]?).getD ce|none=>ce
def fg(X:Cx)(sc:nw)(N':O Str)(cl:O (Str×db))(C:db)(s2:cr)(H2:Hp)(fp:O db):Cx where
 prog:=X.prog
 w:=X.w
 K:=X.K
 mg:=X.mg
 base:=X.base
 A:=X.A
 N:=N'
 s₀:=s2
 H₀:=H2
 env:=compEnvC sc cl C X.env
 outer:=X.stack
 stack:=X.stack
 ex:=fp
 calm:=X.calm
 fn:=λx=>sc.names.lookup x==am .cell
 pn:=[]
 xe:=λ_ _=>False
theorem nQ:∀(names:O (Str×wv)) (cs:O (Str×db)),(∀y∈names,y.2=.free->∃c,env.cells.lookup y.1=am c)->
  ∃cl,(forIn names cs λ(x:Str×wv) (c:O (Str×db))=>(match x with|(name,kind)=>do
    let c <- if (kind==Bw)=true then do let a <- cellOf env name;pure ((name,a)::c) else pure c
    pure (Cz c):Sem (ForInStep (O (Str×db)))))=pure cl/\(∀x c,cl.lookup x=am c->cs.lookup x=am c\/(env.cells.lookup x=am c/\(x,Bw)∈names))/\(∀x,((x,Bw)∈names\/(∃c,cs.lookup x=am c))->∃c,cl.lookup x=am c)
 |[],cs,_=>⟨cs,rfl,λ_ _ h=>.inl h,λx h=>h.elim (λz=>nomatch z) λz=>z⟩
 |(n,k)::r,cs,h=>by
  by_cases hk:k=.free
  .subst hk;obtain⟨c,hc⟩:=h (n,.free) BK rfl;obtain⟨cl,e,h1,h2⟩:=nQ r ((n,c)::cs) λy hy=>h y (A4 _ hy);refine⟨cl,?_,λx d hd=>?_,λx hx=>?_⟩
   .rw[Cy,<- e];simp only[beq_self_eq_true,if_true,cellOf,hc,pure_bind]
   .rcases h1 x d hd with z|⟨z1,z2⟩
    .rw[A0]at z;by_cases hx:(x==n)=true
     .rw[hx]at z;have xv:x=n:=eq_of_beq hx;subst xv;cases z;exact .inr ⟨hc,BK⟩
     .have xv:(x==n)=false:=by simpa using hx
      rw[xv]at z;exact .inl z
    .exact .inr ⟨z1,A4 _ z2⟩
   .refine h2 x ?_;rcases hx with hx|⟨d,hd⟩
    .rcases AB.mp hx with z|z
     .injection z with z1 _;subst z1;exact .inr ⟨c,by rw[A0];simp⟩
     .exact .inl z
    .by_cases hx:(x==n)=true
     .exact .inr ⟨c,by rw[A0,hx]⟩
     .have xv:(x==n)=false:=by simpa using hx
      exact .inr ⟨d,by rw[A0,xv];exact hd⟩
  .obtain⟨cl,e,h1,h2⟩:=nQ r cs λy hy=>h y (A4 _ hy);refine⟨cl,?_,λx d hd=>?_,λx hx=>?_⟩
   .have hb:(k==Bw)=false:=by simpa using hk
    rw[Cy,<- e];simp only[hb,Ay,if_false,pure_bind]
   .rcases h1 x d hd with z|⟨z1,z2⟩
    .exact .inl z
    .exact .inr ⟨z1,A4 _ z2⟩
   .refine h2 x ?_;rcases hx with hx|hx
    .rcases AB.mp hx with z|z
     .injection z with _ z2;exact absurd z2.symm hk
     .exact .inl z
    .exact .inr hx
def mY{sc:nw}(h:∀y∈sc.names,y.2=.free->∃c,env.cells.lookup y.1=am c):∃cl,closureFor sc env=pure cl/\(∀x c,cl.lookup x=am c->env.cells.lookup x=am c/\(x,Bw)∈sc.names)/\(∀x,(x,Bw)∈sc.names->∃c,cl.lookup x=am c):=by
 obtain⟨cl,e,h1,h2⟩:=nQ sc.names [] h;refine⟨cl,?_,λx c hc=>(h1 x c hc).resolve_left (λz=>nomatch z),λx hx=>h2 x (.inl hx)⟩;unfold closureFor;have e':(forIn sc.names ([]) λx r=>(match x with|(name,kind)=>if (kind==Bw)=true then do let a <- cellOf env name;pure (Cz ((name,a)::r)) else pure (Cz r):Sem (ForInStep (O (Str×db)))))=pure cl:=by
  rw[<- e]
  first
   |rfl
   |(
     congr 1;funext x r;by_cases hk)
   |simp
 simpa using e'
theorem zQ:∀(names:O (Str×wv)) (n:Nat) (Z:O (Str×db)) (x:Str) (c:db),(sK n names Z).lookup x=am c->(Z.lookup x=am c/\(x,C1)∉names)\/((x,C1)∈names/\n<=c)
 |[],_,_,_,_,e=>.inl ⟨e,λh=>nomatch h⟩
 |(y,k)::r,n,Z,x,c,e=>by
  unfold sK at e
  split at e
  .rename_i hk;have V0:k=.cell:=eq_of_beq hk;subst V0;rcases zQ r _ _ x c e with⟨a,b⟩|⟨a,b⟩
   .rw[A0]at a;cases hx:x==y with
    |true=>
     rw[hx]at a;cases a;exact .inr ⟨by rw[eq_of_beq hx];exact BK,Al _⟩
    |false=>
     rw[hx]at a;refine .inl ⟨a,λh=>?_⟩;rcases AB.mp h with z|z
     .cases z;simp at hx
     .exact b z
   .exact .inr ⟨A4 _ a,Nat.le_of_succ_le b⟩
  .rename_i hk;rcases zQ r _ _ x c e with⟨a,b⟩|⟨a,b⟩
   .refine .inl ⟨a,λh=>?_⟩;rcases AB.mp h with z|z
    .cases z;simp at hk
    .exact b z
   .exact .inr ⟨A4 _ a,b⟩
theorem Ld:∀(names:O (Str×wv)) (n:Nat) (Z:O (Str×db)) (x:Str),((x,C1)∈names\/∃c,Z.lookup x=am c)->∃c,(sK n names Z).lookup x=am c
 |[],_,_,_,h=>h.elim (λz=>nomatch z) id
 |(y,k)::r,n,Z,x,h=>by
  unfold sK
  split
  .refine Ld r _ _ x ?_;cases hx:x==y with
   |true=>exact .inr ⟨n,by rw[A0,hx]⟩
   |false=>
    rcases h with h|⟨c,h⟩
    .rcases AB.mp h with z|z
     .cases z;simp at hx
     .exact .inl z
    .exact .inr ⟨c,by rw[A0,hx];exact h⟩
  .rename_i hk;refine Ld r _ _ x ?_;rcases h with h|h
   .rcases AB.mp h with z|z
    .cases z;simp at hk
    .exact .inl z
   .exact .inr h
theorem Lc:∀(names:O (Str×wv)) (n:Nat) (Z:O (Str×db)),(∀x y c,Z.lookup x=am c->Z.lookup y=am c->x=y)->(∀x c,Z.lookup x=am c->c<n)->∀x y c,(sK n names Z).lookup x=am c->(sK n names Z).lookup y=am c->x=y
 |[],_,_,h,_=>h
 |(z,k)::r,n,Z,h,hl=>by
  unfold sK
  split
  .refine Lc r _ _ (λx y c e1 e2=>?_) λx c e=>?_
   .rw[A0]at e1 e2;cases hx:x==z<;>cases hy:y==z<;>rw[hx]at e1<;>rw[hy]at e2
    .exact h x y c e1 e2
    .cases e2;exact absurd (hl _ _ e1) (AI _)
    .cases e1;exact absurd (hl _ _ e2) (AI _)
    .rw[eq_of_beq hx,eq_of_beq hy]
   .rw[A0]at e;cases hx:x==z<;>rw[hx]at e
    .exact CD (hl _ _ e)
    .cases e;exact Df _
  .exact Lc r _ _ h hl
theorem zR:∀(names:O (Str×wv)) (h:pc) (Z:O (Str×db)) (x:Str) (c:db),(sK h.objs.size names Z).lookup x=am c->Z.lookup x=am c\/(pushCells h names).IsCell c ce
 |[],_,_,_,_,e=>.inl e
 |(y,k)::r,h,Z,x,c,e=>by
  unfold sK at e;unfold pushCells
  split at e
  .rename_i hk;rw[if_pos hk];rw[<- Bv h {cls:=.type "cell",data:=.cell ce}]at e;rcases zR r _ _ x c e with a | a
   .rw[A0]at a;cases hx:x==y<;>rw[hx]at a
    .exact .inl a
    .cases a;exact .inr ⟨_,pushCells_keeps _ _ _ _ (by rw[Bv]at *;exact An _ rfl),rfl⟩
   .exact .inr a
  .rename_i hk;rw[if_neg hk];exact zR r h Z x c e
def sY{s:cr}{sc:nw}{globals:db}{builtins:db}{Q:Env->cr->Prop}(hQ:∀h',h'.Ns s.heap.objs.size (λ_=>ce)->(∀b o,s.heap.get? b=am o->h'.get? b=am o)->(∀x c,(sK (s.heap.objs.size+1) sc.names cl).lookup x=am c->cl.lookup x=am c\/h'.IsCell c ce)->
   Q (newEnv sc s.heap.objs.size globals (sK (s.heap.objs.size+1) sc.names cl) qual ce .none (am env) builtins) {s with heap:=h'}):ga M A (newFunctionEnv sc globals cl [] qual ce .none (am env) builtins) Q E s:=by
 simp only[newFunctionEnv,F0,if_true];refine Aa (wpAny_alloc ?_);refine Aa (wpAny_layCells _ (λname kind cells=>by cases hkc:kind==C1 <;> simp[hkc]) _ _ _ _ ?_);rw[List.forIn_nil,show({s with heap:=s.heap.push {cls:=.type "dict",data:=.dict #[]}}:cr).heap.objs.size=s.heap.objs.size+1 from Bv ..];refine Aa (Ag (Ag (hQ _ ((Heap.Ns.new s.heap (.type "dict")).keeps (pushCells_keeps _ _)) (λb o e=>pushCells_keeps _ _ b o (Ai _ e)) λx c e=>?_)));rw[<- Bv s.heap {cls:=.type "dict",data:=.dict #[]}]at e;exact zR _ _ _ _ _ e
theorem eV{env:Env}:∀{names:O (Str×wv)}{x:Str},(names.map λ(n,k)=>if (k==Bw&&env.scope.kind==.function&&env.kindOf n==am .cell) then (n,C1) else (n,k)).lookup x = (names.lookup x).map λk=>if (k==Bw&&env.scope.kind==.function&&env.kindOf x==am .cell) then C1 else k
 |[],_=>rfl
 |(n,k)::r,x=>by
  have ih:=@eV env r x;show List.lookup x ((if (k==Bw&&env.scope.kind==.function&&env.kindOf n==am .cell)=true then (n,C1) else (n,k))::_)=_;cases hx:x==n with
  |true=>
   have e:=eq_of_beq hx;subst e;by_cases hc:(k==Bw&&env.scope.kind==.function&&env.kindOf x==am .cell)=true
   .rw[if_pos hc,A0,A0,hx];simp only[CZ,hc,if_true]
   .rw[if_neg hc,A0,A0,hx];simp only[CZ,hc];simp
  |false=>
   by_cases hc:(k==Bw&&env.scope.kind==.function&&env.kindOf n==am .cell)=true
   .rw[if_pos hc,A0,A0,hx];exact ih
   .rw[if_neg hc,A0,A0,hx];exact ih
def PFs(X:Cx)(É:O mo)(t:TT):Prop:=
 ∀(U:O (db×Obj)) (s:cr) (σ:St) (H:Hp) (Q:Bool->Hp->Prop),Inv X U σ H s->t σ H Q->
  ga (gl X.prog X.w) X.A (forIn É true λc r=>if r=true then do let ok <- isTrue c X.env (o0 c X.env);pure (Cz ok) else pure (Cz r)) (TP X U σ Q) X.xe s
def ahc:TT:=λ_ H Q=>Q true H
def UW:PFs X [] ahc:=λU s σ H Q I h=>by
 exact Ag ⟨H,I,h⟩
def UU{c:mo}{t:TT}(hc:PT X c t):PFs X [c] t:=λU s σ H Q I h=>by
 rw[Cy];simp only[if_true,bind_assoc];exact Aa (cf (hc U s σ H Q I h) λb s1 q=>Ag q)
def tLc(ix:O (Option Nat))(wi:TI)(g:TG)(tf:TT)(te:TE):TE:=λσ H Q=>wi σ H λJ H1=>∀D,H1 D=ce->∃W:Nat->Nat->St->O V->Hp->Prop,
 (∃m,W 0 m (pF ix σ) [] (upd H1 D (.lst [])))/\∀i m σ' ys H,W i m σ' ys H->H D=am (.lst ys)/\
  ((J.stop i H/\Q (.ref D) H)\/(J.go i H/\∀x H',J.TR i H x H'->g x σ' H' λσ2 H2=>tf σ2 H2 λb H3=>
   if b=true then te σ2 H3 λy H4=>H4 D=am (.lst ys)/\ys.length+1<=sizeLine/\∃m',m'<m/\W (i+1) m' σ2 (ys++[y]) (upd H4 D (.lst (ys++[y]))) else ∃m',m'<m/\W (i+1) m' σ2 ys H3))
def mF{s:cr}{Ì:mo}{it Z:ci}(I:Nat->cr->Prop)(turn:∀n s,I n s->ga (gl prog w) A (PP it) (λr s₁=>match r with
   |none=>R (.ok .next) s₁
   |some v=>ga (gl prog w) A (Sc Ì it v) (λ_ Xh=>ga (gl prog w) A (Os Ì env v) (λ_ s₂=>
     ga (gl prog w) A (forIn É true λc r=>if r=true then do let ok <- isTrue c env (o0 c env);pure (Cz ok) else pure (Cz r)) (λok s₃=>
      if ok=true then ga (gl prog w) A (o0 Ã env) (λx s₄=>
       ga (gl prog w) A (call (.builtin "list.append") [Z,x]) (λ_ s₅=>∃m,m < n/\I m s₅) (λ_ _=>False) s₄) (λ_ _=>False) s₃
      else ∃m,m<n/\I m s₃) (λ_ _=>False) s₂) (λ_ _=>False) Xh) (λ_ _=>False) s₁) (λ_ _=>False) s) n(h:I n s):KF (gl prog w) A (.compLoop (.ListComp Ã [⟨Ì,iter,É,0⟩] scope pos) 0 it Z env) R s:=by
 refine codeAny_loop rfl I (λn s hI=>?_) n h;refine wpAny_noted ?_;refine Aa (DV (Aa (BO (turn n s hI) (λr s₁ h₁=>?_) λ_ _ h'=>h'.elim)));cases r with
 |none=>exact Ag h₁
 |some v=>
  refine Aa (BO h₁ (λ_ Xh ad7=>?_) λ_ _ h'=>h'.elim);refine Aa (BO ad7 (λ_ s₂ h₂=>Aa (BO h₂ (λok s₃ h₃=>?_) λ_ _ h'=>h'.elim)) λ_ _ h'=>h'.elim);cases ok with
  |false=>exact Ag ⟨rfl,h₃⟩
  |true=>
   exact Aa (Aa (BO h₃ (λx s₄ h₄=>Aa (BO h₄ (λ_ s₅ h₅=>Ag (Ag ⟨rfl,h₅⟩)) λ_ _ h'=>h'.elim)) λ_ _ h'=>h'.elim))
section
variable{sc:nw}{g:TG}{tf:TT}
structure afp(X:Cx)(U:List (db×Obj))(H:Hp)(C:db):Prop where
 hn:H C=ce
 hL:C≠X.env.locals
 ab:X.s₀.heap.objs.size<=C
 cl:∀x c,X.env.cells.lookup x=am c->c≠C
 pn:∀p∈X.pn++U,p.1≠C
theorem Ms(hc:X.calm=true)(S:a7 X.env.scope X.N sc N' ix)(hg:∀cl C s2 H2 fp,PG (fg X sc N' cl C s2 H2 fp) tg g)(hf:∀cl C s2 H2 fp,PFs (fg X sc N' cl C s2 H2 fp) É tf)(he:∀cl C s2 H2 fp,PE (fg X sc N' cl C s2 H2 fp) Ã te){s2:cr}(vT:∀x c,cl.lookup x=am c->X.env.cells.lookup x=am c/\(x,Bw)∈sc.names)(Og:∀x,(x,Bw)∈sc.names->∃c,cl.lookup x=am c){tn:Nat->pc->Prop}{J:It}{Q:VK}(I2:Inv X U σ H2 s2)(T:Turn X.prog X.w X.K tg J fp it tn)(Nk:tn 0 s2.heap)(f2:∀b∈fp,wH X U H2 b)(hW:∀D,H2 D=ce->∃W:Nat->Nat->St->O V->Hp->Prop,
   (∃m,W 0 m (pF ix σ) [] (upd H2 D (.lst [])))/\∀i m σ' ys H,W i m σ' ys H->H D=am (.lst ys)/\
    ((J.stop i H/\Q (.ref D) H)\/(J.go i H/\∀x H',J.TR i H x H'->g x σ' H' λσ2 H2=>tf σ2 H2 λb H3=>
     if b=true then te σ2 H3 λy H4=>H4 D=am (.lst ys)/\ys.length+1<=sizeLine/\∃m',m'<m/\W (i+1) m' σ2 (ys++[y]) (upd H4 D (.lst (ys++[y]))) else ∃m',m'<m/\W (i+1) m' σ2 ys H3))){RR:ci->db->Result->cr->Prop}{E:ci->cr->Prop}(hRR:∀D C m s' H',Inv X U σ H' s'->Q (.ref D) H'->s'.heap.Ns C m->afp X U H' C->RR (.ref D) C (.ok .next) s'):ga (gl X.prog X.w) X.A (newList []) (λZ s₃=>ga (gl X.prog X.w) X.A (newFunctionEnv sc X.env.globals cl [] X.env.qual ce .none (am X.env)) (λae8 s₄=>
   KF (gl X.prog X.w) X.A (.compStart (.ListComp Ã [⟨tg,iter,É,0⟩] sc pos) 0 (.ref it) Z {ae8 with scope:=Pv sc X.env}) (RR Z ae8.locals) s₄) E s₃) E s2:=by
 refine Bf (sY λh₁ Kq zd ç=>?_);generalize hH2:s2.heap.push {cls:=.type "list",dict:=ce,data:=.seq ([]).toArray}=G2 at Kq zd ç ⊢;have hC:G2.objs.size=s2.heap.objs.size+1:=by rw[<- hH2,Bv]
 obtain⟨D,hD⟩:∃D:Nat,s2.heap.objs.size=D:=⟨_,rfl⟩;obtain⟨C,hCC⟩:∃C:Nat,G2.objs.size=C:=⟨_,rfl⟩;simp only[hD,hCC]at Kq zd ç hC ⊢;have hDC:D≠C:=by lia
 have k1:=zQ sc.names (C+1) cl;have k2:=Ld sc.names (C+1) cl;have k3:=Lc sc.names (C+1) cl;generalize sK (C+1) sc.names cl=S1 at ç k1 k2 k3 ⊢;have Ë:∀b o,s2.heap.get? b=am o->h₁.get? b=am o:=λb o e=>zd b o (hH2▸Ai _ e);have ţ:h₁.get? D=am {cls:=.type "list",data:=.seq ([]:O ci).toArray}:=by
  refine zd D _ ?_;rw[<- hH2,<- hD];exact An _ rfl
 have hD2:H2 D=ce:=I2.bG.fresh ∅;obtain⟨W,⟨m0,w0⟩,turn⟩:=hW D hD2;have Yk:∀x c,cl.lookup x=am c->∃v,s2.heap.IsCell c v:=λx c e=>I2.cell x c (vT x c e).1;have ae5:∀x c,cl.lookup x=am c->c<D:=λx c e=>by
  obtain⟨v,q⟩:=Yk x c e;have:=Yl q;exact ltN ∅
 have ĭ:∀b∈fp,b<D:=λb hb=>by
  obtain⟨o,e,_⟩:=T.obj 0 _ Nk b hb;have:=lsz e;exact ltN ∅
 have fpC:∀b∈fp,∀x c,S1.lookup x=am c->c≠b:=λb hb x c e=>by
  rcases k1 x c e with⟨z,_⟩|⟨_,z⟩
  .exact(f2 b hb).2.2.2.2.1 x c (vT x c z).1
  .have:=ltN (ĭ b hb);exact neN (a:=c) (b:=b) ∅
 have Yok:(fg X sc N' S1 C s2 H2 fp).Ok:=by
  refine⟨I2.ok.mod,S.kind,I2.ok.glob,I2.ok.blt,?_,?_,?_,?_,I2.ok.hd,I2.ok.frames,.inl rfl,?_,I2.bs,?_,?_,?_,I2.stack,I2.LZ⟩
  .show s2.heap.objs.size<=C;lia
  .exact k3 (λx y c e1 e2=>I2.ok.inj x y c (vT x c e1).1 (vT y c e2).1) λx c e=>by
    have h1:C=D+1:=by lia
    exact h1▸CD (CD (ae5 x c e))
  .intro x hx;have xv:(Pv sc X.env).names.lookup x=am .cell\/(Pv sc X.env).names.lookup x=am .free:=hx;unfold Pv at xv;rw[eV]at xv;cases q:sc.names.lookup x with
   |none=>rw[q]at xv;simp at xv
   |some k=>
    have hm:=BN q;refine k2 x ?_;by_cases hk:k=.free
    .subst hk;exact .inr (Og x hm)
    .rw[q]at xv;have hb:(k==Bw)=false:=by simpa using hk
     simp only[CZ,hb,Ez,Ay,if_false]at xv;rcases xv with z|z
     .rw[Option.some.inj z]at hm;exact .inl hm
     .exact absurd (Option.some.inj z) hk
  .intro x c ď e;have aiB:sc.names.lookup x=am .cell:=eq_of_beq ď;rcases k1 x c e with⟨_,z⟩|⟨_,z⟩
   .exact absurd (BN aiB) z
   .show s2.heap.objs.size<=c;lia
  .intro b hb;refine⟨?_,λx c e z=>fpC b hb x c e z⟩;show b≠C;have:=ltN (ĭ b hb);exact neN ∅
  .exact AD I2.ok.Yn I2.sz
  .intro b o e hb;rcases (f2 b hb).2.2.2.1 with z|z
   .exact I2.ok.Q7 b o e z
   .have h1:=lsz (h:=X.base) e;have h2:=I2.ok.Yn;lia
  .intro b hb z;rcases AB.mp (I2.Jv b z) with q|q
   .exact(f2 b hb).2.1 q
   .exact(f2 b hb).2.2.1 q
 have un0:Un (Pe X.stack) fp H2 (upd H2 D (.lst [])) s2.heap h₁:=Un.laid Ë ∅ hD2;have IY:∀tk,Inv (fg X sc N' S1 C s2 H2 fp) [] (pF ix σ) (upd H2 D (.lst [])) {s2 with heap:=h₁,toks:=tk}:=λtk=>by
  refine⟨Yok,rfl,I2.bare,un0,⟨_,Kq,λi x v e1 e2 e3=>?_⟩,λx c e=>?_,?_,λx c e=>?_,λp hp=>absurd (show p∈([]) from hp) (by simp),(I2.bG.laid Ë ∅ ⟨A9 _,[],0,.nil,ţ⟩),?_⟩
  .have sR:=e1;unfold pF at e2;rw[Ah]at e2;cases q:ix[i]? with
   |none=>rw[q]at e2;cases e2
   |some o=>
    cases o with
    |none=>rw[q]at e2;cases e2
    |some j=>
     rw[q]at e2;have ı:(σ[j]?).getD ce=am v:=Option.some.inj e2;have e4:σ[j]?=am (am v):=by
      cases z:σ[j]? with
      |none=>rw[z]at ı;cases ı
      |some y=>rw[z]at ı;exact congrArg am ı
     obtain⟨a1,a2⟩:=S.at q sR;have aei:=BN a2;have hk:=S.fr _ aei rfl;obtain⟨m,_,hl⟩:=I2.loc;obtain⟨u,r,l⟩:=hl j x v a1 e4 (.inr hk);refine⟨u,r,.inr ⟨?_,?_⟩⟩
     .show(Pv sc X.env).names.lookup x=am .cell\/(Pv sc X.env).names.lookup x=am .free;unfold Pv;rw[eV,a2];by_cases hb:(X.env.scope.kind==.function&&X.env.kindOf x==am .cell)=true
      .left
       simp only[CZ,beq_self_eq_true,ES,hb,if_true]
      .right
       simp only[CZ,beq_self_eq_true,ES,hb,if_false,Ay]
     .obtain⟨c,Ŗ⟩:=Og x aei;have hcy:S1.lookup x=am c:=by
       obtain⟨c',q'⟩:=k2 x (.inr ⟨c,Ŗ⟩);rcases k1 x c' q' with⟨z,_⟩|⟨z,_⟩
       .rw[Ŗ]at z;cases z;exact q'
       .rw[S.nc _ z rfl]at a2;cases a2
      refine⟨c,hcy,?_⟩;rcases l with⟨k,_⟩|⟨k,c',e',z⟩
      .have k':X.env.scope.names.lookup x=am .local:=k;rcases hk with y|y<;>rw[k']at y<;>cases y
      .rw[((vT x c Ŗ).1)]at e';cases e';obtain⟨o,ho,hd⟩:=z;exact⟨o,Ë _ _ ho,hd⟩
  .rcases ç x c e with z|z
   .obtain⟨v,o,ho,hd⟩:=Yk x c z;exact⟨v,o,Ë _ _ ho,hd⟩
   .exact⟨_,z⟩
  .show upd H2 D (.lst []) C=ce;rw[ak (BE hDC)];exact(I2.bG.fresh ∅)
  .rcases k1 x c e with⟨z,_⟩|⟨_,z⟩
   .have iY:=ltN (ae5 x c z);rw[ak (neN ∅)];exact I2.kq x c (vT x c z).1
   .rw[ak (neN (a:=c) (b:=D) ∅)];exact I2.bG.fresh ∅
  .unfold pF;rw[Af];exact S.len
 have Ŝ:∀{Hd:O (db×Obj)}{H':Hp},(∀b∈fp,H' b=ce)->(∀p∈Hd,p.1∉fp)->∀b∈fp,wH (fg X sc N' S1 C s2 H2 fp) Hd H' b:=λhn hp b hb=>by
  refine⟨hn b hb,?_,?_,.inl hb,λx c e z=>fpC b hb x c e z,λp XU z=>?_⟩
  .show b≠C;have:=ltN (ĭ b hb);exact neN ∅
  .exact Yok.Sk b hb
  .exact hp p XU (z▸hb)
 have ĉ:∀s₃:cr,s₃={s2 with heap:=h₁}->
   KF (gl X.prog X.w) X.A (.compLoop (.ListComp Ã [⟨tg,iter,É,0⟩] sc pos) 0 (.ref it) (.ref D) (compEnvC sc S1 C X.env)) (RR (.ref D) C) s₃:=by
  rintro s₃ rfl;refine mF (λn s'=>∃i σ' ys H',Inv (fg X sc N' S1 C s2 H2 fp) [] σ' H' s'/\tn i s'.heap/\(∀b∈fp,H' b=ce)/\W i n σ' ys H') ?_ m0
   ⟨0,_,[],_,IY _,T.keep _ _ _ Nk (λb _ o e=>Ë b o e),λb hb=>by rw[ak (AH (ĭ b hb))];exact(f2 b hb).1,w0⟩
  rintro n s3 ⟨i,σ3,ys,H3,I3,þ,ē,w3⟩;obtain⟨hDl,w3⟩:=turn i n σ3 ys H3 w3;rcases w3 with⟨stop,qn⟩|⟨go,step⟩
  .refine cf (T.done (fg X sc N' S1 C s2 H2 fp) rfl rfl rfl hc i [] s3 σ3 H3 _ I3 (Ŝ ē (by simp)) þ stop) λr s4 ⟨hr,I4⟩=>?_;subst hr;obtain⟨m,hn,_⟩:=I4.loc;refine hRR D C m s4 H3 (I2.ae9 I4.os I4.base I4.bG I4.bare λb hb=>?_) qn hn ?_
   .obtain⟨a0,a1,a2,a3,a4,a5⟩:=f2 b hb;exact⟨a3,a1,a4,a5⟩
   .refine⟨I4.free,?_,?_,λx c e z=>?_,λp hp z=>?_⟩
    .have:=ltN I2.lt;exact neN ∅
    .have:=I2.sz;lia
    .obtain⟨v,q⟩:=I2.cell x c e;have:=Yl q;exact neN (a:=c) (b:=C) ∅ z
    .have:=lsz (I2.pin p hp).1;exact neN (b:=C) ∅ z
  .refine cf (T.item (fg X sc N' S1 C s2 H2 fp) rfl rfl rfl hc i [] s3 σ3 H3 (λ_ _=>False) I3 (Ŝ ē (by simp)) þ go) λr s4 ⟨u,hr,h4⟩=>?_;subst hr;refine cf h4 λ_ s5 ⟨x,H5,I5,r5,y5,Y0,ś⟩=>?_;refine cf (hg _ _ _ _ _ _ s5 σ3 H5 x u _ (I5.pinned (Ŝ ś (by simp)) (T.obj _ _ Y0)) r5 (step x H5 y5)) λ_ s6 ⟨σ6,H6,I6,q6⟩=>?_;refine cf (hf _ _ _ _ _ _ s6 σ6 H6 _ I6 q6) λb s7 ⟨H7,I7,q7⟩=>?_;have Rt:∀{s8:cr}{σ8:St}{H8:Hp},Inv (fg X sc N' S1 C s2 H2 fp) ([]++qb fp s5.heap) σ8 H8 s8->tn (i+1) s8.heap/\∀b∈fp,H8 b=ce:=λ{s8 σ8 H8} I8=>by
    refine⟨T.keep _ _ _ Y0 λb hb o e=>(I8.pin (b,o) (A1 _ (A1 _ (jH hb e)))).1,λb hb=>?_⟩;obtain⟨o,e,d⟩:=T.obj _ _ Y0 b hb;exact(I8.pin (b,o) (A1 _ (A1 _ (jH hb e)))).2.1
   cases b with
   |false=>
    obtain⟨m',hm,w7⟩:=q7;obtain⟨t7,fr7⟩:=Rt I7;exact⟨m',hm,i+1,σ6,ys,H7,I7.kO,t7,fr7,w7⟩
   |true=>
    refine cf (he _ _ _ _ _ _ s7 σ6 H7 _ I7 q7) λyv s8 ⟨y,H8,I8,r8,hD8,hz8,m',hm,w8⟩=>?_;obtain⟨z,aq,k,rv,hl8,e8⟩:=I8.rD hD8;obtain⟨t8,fr8⟩:=Rt I8;refine wpAny_list_append_plain (s:=s8) ⟨_,e8⟩ λh9 hl9 hs9=>?_;obtain⟨k9,e9⟩:=hl9;have I9:Inv (fg X sc N' S1 C s2 H2 fp) ([]++qb fp s5.heap) σ6 (upd H8 D (.lst (ys++[y]))) {s8 with heap:=h9,toks:=s8.toks}:=by
     refine I8.write (x:=D) (e:=D) (by rw[hD8];exact trivial) (.inl rfl) (λb u hb hu=>(hs9.2 b hb).trans hu) ⟨_,e9⟩ ?_;refine⟨by rw[Ak,Fy];exact hz8,aq++[yv],k9,(Vals.append rv (.cons r8 .nil)),?_⟩;rw[e9];simp
    obtain⟨t9,fr9⟩:=Rt I9;exact⟨m',hm,i+1,σ6,_,_,I9.kO,t9,fr9,w8⟩
 exact codeAny_compStart_list (ĉ _ rfl) (T.self _ 0 _ _ _ (T.keep _ _ _ Nk λb _ o e=>Ë b o e) (ĉ _ rfl))
def adp(hc:X.calm=true)(S:a7 X.env.scope X.N sc N' ix)(hi:PI X tg iter wi)(hg:∀cl C s2 H2 fp,PG (fg X sc N' cl C s2 H2 fp) tg g)(hf:∀cl C s2 H2 fp,PFs (fg X sc N' cl C s2 H2 fp) É tf)(he:∀cl C s2 H2 fp,PE (fg X sc N' cl C s2 H2 fp) Ã te)(hs:rj X iter:=by intro _;rfl):PE X (.ListComp Ã [⟨tg,iter,É,0⟩] sc pos) (tLc ix wi g tf te):=by
 intro U s σ H Q I h;obtain⟨cl,RY,vT,Og⟩:=mY (λy hy hk=>I.ok.has y.1 (S.fr y hy hk));refine EO rfl hs RY S.kind S.loc (cf (hi U s σ H _ I h) λv s1 h1=>cf h1 λĠ s2 h2=>?_);obtain⟨it,fp,tn,J,H2,rfl,I2,T,Nk,f2,hW⟩:=h2;exact Ms hc S hg hf he vT Og I2 T Nk f2 hW λD C m s' H' I' q hn F=>⟨m,hn,λh' XT=>⟨.ref D,H',I'.turned (λb o hb e=>(XT.2 b hb).trans e) F.hn F.hL (.inr F.ab) F.cl F.pn,rfl,q⟩⟩
def QC{i:Nat}(hc:X.calm=true)(hN:X.N.Nodup)(Kt:X.N[i]?=am x)(hx:X.env.scope.names.lookup x=am .local)(S:a7 X.env.scope X.N sc N' ix)(hi:PI X tg iter wi)(hg:∀cl C s2 H2 fp,PG (fg X sc N' cl C s2 H2 fp) tg g)(hf:∀cl C s2 H2 fp,PFs (fg X sc N' cl C s2 H2 fp) É tf)(he:∀cl C s2 H2 fp,PE (fg X sc N' cl C s2 H2 fp) Ã te)(sN:‹r9 (.ListComp Ã [⟨tg,iter,É,0⟩] sc pos) (am (.Name x px)) rz.line X.env=pure true›)(hs:rj X iter:=by intro _;rfl):PS X (.Assign [.Name x px] (.ListComp Ã [⟨tg,iter,É,0⟩] sc pos) rz) (Ua (tLc ix wi g tf te) (eI i)):=by
 intro U s σ H D0 I h;rw[exec_Assign_Name_used _ _ _ _ sN];refine Aa (DV (Aa ?_));show ga _ X.A (do let _ <- comprehension (.ListComp Ã [⟨tg,iter,É,0⟩] sc pos) sc X.env _ (newList []) false (o0 iter X.env) (am (Os (.Name x px) X.env))) _ _ s;have aaJ:∀y∈sc.names,y.2=.free->∃c,X.env.cells.lookup y.1=am c:=λy hy hk=>I.ok.has y.1 (S.fr y hy hk);obtain⟨cl,RY,vT,Og⟩:=mY aaJ;refine Aa (BO (EO (use:=am (Os (.Name x px) X.env)) (Q:=λ_ s'=>SP X U D0 .next s') rfl hs RY S.kind S.loc (cf (hi U s σ H _ I h) λv s1 h1=>cf h1 λĠ s2 h2=>?_)) (λ_ s' hq=>Ag (Ag hq)) λ_ _ e=>e);obtain⟨it,fp,tn,J,H2,rfl,I2,T,Nk,f2,hW⟩:=h2;refine Ms (RR:=λZ C=>compPost (gl X.prog X.w) X.A X.xe (am (Os (.Name x px) X.env)) (λ_ s'=>SP X U D0 .next s') Z C) (Q:=λx H1=>eI i x σ H1 D0.nx) hc S hg hf he vT Og I2 T Nk f2 hW λD C m s' H' I' q hn F=>?_;show ga _ X.A (Os (.Name x px) X.env (.ref D)) _ _ _;refine wpAny_assign_Name (wO (v:=.ref D) I' hN Kt (.inl hx) rfl (λĀ I'' ņ=>?_) (.inr hx));obtain⟨a,ņ,ha⟩:=ņ;have haC:C≠a:=by
  rcases ha with z|z
  .rw[z];exact F.hL
  .exact BE (F.cl _ _ z)
 refine⟨m,hn.sameBut ņ haC,λh' XT=>⟨_,H',?_,q⟩⟩;exact I''.turned (it:=C) (t':=Ā.toks) (λb o hb e=>(XT.2 b hb).trans e) F.hn F.hL (.inr F.ab) F.cl F.pn
end
section
variable{b:mo}
def q9:cB X (.builtin "isinstance") (λxs H Q=>∃x c t b,xs=[x,.ty c]/\mG X.K H x t/\BG X.K t (.type c)=am b/\Q (.bl b) H):=by
 intro U s σ H xs us Q I r h;obtain⟨x,c,t,b,rfl,ty,hk,q⟩:=h;obtain⟨u,w',rfl,ru,G3⟩:=vals2 r;cases (G3);exact N4 I ru ty hk λtk=>⟨.bl b,H,I.tok _,rfl,q⟩
def NJ(hu:X.A.units<tz):iX X (sn .NotEq) (λx y H Q=>∃p q xs,x=.ref p/\y=.ref q/\b9 X.K H p xs/\b9 X.K H q []/\Q (.bl (!xs.isEmpty)) H):=by
 intro U s σ H x y v u Q I rx ry h;obtain⟨p,q,xs,rfl,rfl,hp,hq,k⟩:=h;cases rx;cases ry;obtain⟨aq,r,pl,hz⟩:=I.list hp;obtain⟨du,r2,ă,ġ⟩:=I.list hq;cases r2;cases xs with
 |nil=>
  cases r;exact EG (FY (e:=λ_=>true) pl.isList ă.isList rfl hu λj h1=>absurd h1 (by simp)) ⟨.bl false,H,I,rfl,k⟩
 |cons y ys=>
  have hl:=r.length;exact EG (Em pl.isList ă.isList (by simp at hl ⊢;intro z;subst z;simp at hl) hu) ⟨.bl true,H,I,rfl,k⟩
def rF(l:db)(items:Array ci)(n:Nat)(b:db)(cF:Array ci)(n2:Nat)(dd:Option db)(sl:Array (Option ci))(hs0:¬(!items.isEmpty&&Builtin.List.listTooLong (items.size+cF.size))=true)(pN:items.size<=sizeLine)(vn:items.size+cF.size<=sizeLine+1):Meets (v4.«list.extend» ⟨[.ref l,.ref b],[]⟩) (λ_ R s=>s.heap.get? l=am {cls:=.type "list",dict:=ce,data:=.seq items n,slots:=#[]}/\s.heap.get? b=am {cls:=.type "tuple",dict:=dd,data:=.seq cF n2,slots:=sl}/\R (.ok (.ret A7)) {s with heap:=s.heap.update l (BH λx=>x++cF),toks:=s.toks}):=
 .of_wp λprog w A R s h=>by
  obtain⟨hp,g,d,tk,os⟩:=s;obtain⟨hl,hb,h⟩:=h;have f5:=DZ;
  wp_walk using (CY hl rfl),B8 hl,B8 hb;exact⟨_,rfl,h⟩
def Qv(K:Ab):V->O V->Hp->VK->Prop:=λx vs H Q=>∃l b xs zs,x=.ref l/\vs=[.ref b]/\H l=am (.lst xs)/\dU K H b zs/\xs.length+zs.length<=sizeLine/\Q .aO (upd H l (.lst (xs++zs)))
theorem JS:M6 X "list.extend" (Qv X.K):=by
 intro U s σ H x vs v us Q I rx rv h;obtain⟨l,b,xs,zs,rfl,rfl,hH,hB,hz,q⟩:=h;cases rx;obtain⟨u,rfl,ru⟩:=rv.one;cases ru;obtain⟨z,aq,n,r,hl,e⟩:=I.rD hH;obtain⟨du,r2,⟨⟨cls,dd,data,sl⟩,e2,hc,n2,hd⟩,z2⟩:=I.tuple hB;subst hc hd;have XY:=r2.length;have uA:aq.toArray.size+du.toArray.size<=sizeLine:=by rw[Am,Am];lia
 have uB:¬(!aq.toArray.isEmpty&&Builtin.List.listTooLong (aq.toArray.size+du.toArray.size))=true:=by
  rw[oA uA,C7];exact AX
 refine ww Er ⟨_,e,rfl⟩ Eb (DY _ _)
  (rF l aq.toArray n b du.toArray n2 dd sl uB (by rw[Am];lia) ∅) ⟨e,e2,?_⟩
 refine⟨.aO,_,I.JY hH e (by simp) (r.append r2) ?_,rfl,q⟩;rw[Ak];lia
end
end L2
variable{xs:O L2.V}{b:Int}{k':Nat}{bV:Cn}
namespace L2
def lK(l:db)(H H':Hp):Prop:=∀b u,b≠l->H b=am u->H' b=am u
def i8(h:H p=ce)(o:HO):jy H (upd H p o):=λb u q=>by rw[ak (bK q h)];exact q
def wR(o:HO):lK p H (upd H p o):=λb u n q=>by rw[ak n];exact q
def jG(H:Hp)(o:HO)(Q:VK):Prop:=∀p H',jy H H'->H' p=am o->H p=ce->Q (.ref p) H'
def jG.at{o:HO}{Q:VK}(h:jG H o Q)(p:db)(hp:H p=ce):Q (.ref p) (upd H p o):=h p _ (i8 hp o) aH hp
def GO(H:Hp)(l:db)(o:HO)(Q:Hp->Prop):Prop:=∀H',lK l H H'->H' l=am o->Q H'
def GO.at{l:db}{o:HO}{Q:Hp->Prop}(h:GO H l o Q):Q (upd H l o):=h _ (wR o) aH
def iX.mono{f:ci->ci->Sem ci}{r r':R2}(h:iX X f r)(hr:∀x y H Q,r' x y H Q->r x y H Q):iX X f r':=λU s σ H x y v u Q I rx ry q=>h U s σ H x y v u Q I rx ry (hr _ _ _ _ q)
def cB.mono{f:ci}{r r':O V->Hp->VK->Prop}(h:cB X f r)(hr:∀xs H Q,r' xs H Q->r xs H Q):cB X f r':=λU s σ H xs us Q I rx q=>h U s σ H xs us Q I rx (hr _ _ _ q)
def M6.mono{id:String}{r r':V->O V->Hp->VK->Prop}(h:M6 X id r)(hr:∀x xs H Q,r' x xs H Q->r x xs H Q):M6 X id r':=λU s σ H x xs v us Q I rx rv q=>h U s σ H x xs v us Q I rx rv (hr _ _ _ _ q)
def O2.mono{r r':O1}(h:O2 X r)(hr:∀o i v H Q,r' o i v H Q->r o i v H Q):O2 X r':=λU s σ H o i v ov iv u Q I ro ri rv q=>h U s σ H o i v ov iv u Q I ro ri rv (hr _ _ _ _ _ q)
def WV.mono{r r':V->Option Int->Option Int->Hp->VK->Prop}(h:WV X r)(hr:∀x lo hi H Q,r' x lo hi H Q->r x lo hi H Q):WV X r':=λU s σ H x v vl vu lo hi sl Q I rx hs pl pu q=>h U s σ H x v vl vu lo hi sl Q I rx hs pl pu (hr _ _ _ _ _ q)
section
variable{t:TA}
def acE(t:TA):TE:=λσ H Q=>t σ H λxs H1=>xs.length<=sizeLine/\jG H1 (.tup xs) Q
def Xf(t:TA):TE:=λσ H Q=>t σ H λxs H1=>xs.length<=sizeLine/\jG H1 (.lst xs) Q
def UX{x1}(h:PA X es t):PE X (.Tuple es x1 pos) (acE t):=by
 intro U s σ H Q I hq;refine wpAny_Tuple_spliced (cf (h pos U s σ H _ I hq) λus s1 ⟨xs,H1,I1,r,z,q⟩=>⟨by rw[<- r.length];exact z,?_⟩);have hf:=I1.bG.fresh (Al _);refine⟨.ref s1.heap.objs.size,upd H1 s1.heap.objs.size (.tup xs),I1.laid (λb u e=>Ai _ e) (Al _) ?_,rfl,q.at _ hf⟩;exact⟨z,us,r,⟨_,An _ rfl,rfl,_,rfl⟩,_,An _ rfl,rfl⟩
def yz(h:PA X es t):PE X (.List es pos) (Xf t):=by
 intro U s σ H Q I hq;refine wpAny_List_spliced (cf (h pos U s σ H _ I hq) λus s1 ⟨xs,H1,I1,r,z,q⟩=>⟨by rw[<- r.length];exact z,?_⟩);have hf:=I1.bG.fresh (Al _);refine⟨.ref s1.heap.objs.size,upd H1 s1.heap.objs.size (.lst xs),I1.laid (λb u e=>Ai _ e) (Al _) ?_,rfl,q.at _ hf⟩;exact⟨z,us,0,r,An _ rfl⟩
def Qs(K:Ab):R2:=λx y H Q=>match x with
 |.int i=>∃j,y=.int j/\Q (.int (i+j)) H
 |.str i=>∃j,y=.str j/\i.length+j.length<=sizeLine/\Q (.str (i++j)) H
 |.ref a=>(∃b xs zs,y=.ref b/\H a=am (.lst xs)/\H b=am (.lst zs)/\xs.length+zs.length<=sizeLine/\jG H (.lst (xs++zs)) Q)\/Xq K x y H Q
 |_=>False
def Vb:iX X (t0 .Add) (Qs X.K):=by
 refine((ZL.or JK).or (ZK.or Mh)).mono λx y H Q h=>?_;cases x with
 |int i=>obtain⟨j,rfl,q⟩:=h;exact .inl (.inl ⟨i,j,rfl,rfl,q⟩)
 |str i=>obtain⟨j,rfl,hl,q⟩:=h;exact .inl (.inr ⟨i,j,rfl,rfl,hl,q⟩)
 |ref a=>
  rcases h with⟨b,xs,zs,rfl,h1,h2,hz,q⟩|h
  .exact .inr (.inl ⟨a,b,xs,zs,rfl,rfl,h1,h2,hz,λp hp=>q.at p hp⟩)
  .exact .inr (.inr h)
 |_=>exact h.elim
def lP:iX X (t0 .Mult) (rI wP λi j=>.int (i*j)):=opI λ_ _ _ _ _ _ _ hc q=>mul_int q hc
def Xo(K:Ab):V->Option Int->Option Int->Hp->VK->Prop:=λx lo hi H Q=>∃a xs,x=.ref a/\b9 K H a xs/\jG H (.lst (IC xs lo hi)) Q
def P6:WV X (Xo X.K):=Uq.mono λx lo hi H Q ⟨a,xs,e,h,q⟩=>⟨a,xs,e,h,λp hp=>q.at p hp⟩
def Lj:cB X (.type "list") (λxs H Q=>∃p ys,xs=[.ref p]/\(b9 X.K H p ys\/dU X.K H p ys)/\jG H (.lst ys) Q):=zS.mono λxs H Q ⟨p,ys,e,h,q⟩=>⟨p,ys,e,h,λl hl=>q.at l hl⟩
def Qw:V->O V->Hp->VK->Prop:=λx vs H Q=>∃l xs y,x=.ref l/\vs=[y]/\H l=am (.lst xs)/\xs.length<sizeLine/\GO H l (.lst (xs++[y])) (Q .aO)
def JT:M6 X "list.append" Qw:=NM.mono λx xs H Q ⟨l,ys,y,e1,e2,h,hz,q⟩=>⟨l,ys,y,e1,e2,h,hz,q.at⟩
def Nx(K:Ab):V->O V->Hp->VK->Prop:=λx vs H Q=>∃l b xs zs,x=.ref l/\vs=[.ref b]/\H l=am (.lst xs)/\dU K H b zs/\xs.length+zs.length<=sizeLine/\GO H l (.lst (xs++zs)) (Q .aO)
def Ht:M6 X "list.extend" (Nx X.K):=JS.mono λx xs H Q ⟨l,b,ys,zs,e1,e2,h1,h2,hz,q⟩=>⟨l,b,ys,zs,e1,e2,h1,h2,hz,q.at⟩
def ada:V->O V->Hp->VK->Prop:=λx vs H Q=>∃l xs y,x=.ref l/\vs=[]/\H l=am (.lst (xs++[y]))/\GO H l (.lst xs) (Q y)
def Vl:M6 X "list.pop" ada:=ZU.mono λx xs H Q ⟨l,ys,y,e1,e2,h,q⟩=>⟨l,ys++[y],y,e1,e2,h,by simp,by rw[List.dropLast_concat];exact q.at⟩
def Qr:O1:=λo i v H Q=>∃p xs k j,o=.ref p/\i=.int k/\H p=am (.lst xs)/\ux xs.length k=am j/\GO H p (.lst (xs.set j v)) Q
def pX:O2 X Qr:=set_list.mono λo i v H Q ⟨p,xs,k,j,e1,e2,h,hj,q⟩=>⟨p,xs,k,j,e1,e2,h,hj,q.at⟩
end
section
variable(K:Ab)(hK:X.K=K){a:mo}{t:TA}{name:Str}{ò:String}{r:V->O V->Hp->VK->Prop}
include hK
def cC:TK X (rIx K):=hK▸aan
def lQ:iX X (t0 .Add) (Qs K):=hK▸Vb
def P5:WV X (Xo K):=hK▸P6
def Zo(K:Ab):O V->Hp->VK->Prop:=λxs H Q=>∃x n,xs=[x]/\afj K x H n/\Q (.int n) H
def xJ:cB X (.builtin "len") (Zo K):=hK▸S5
def Qt(K:Ab):O V->Hp->VK->Prop:=λxs H Q=>∃p ys,xs=[.ref p]/\(b9 K H p ys\/dU K H p ys)/\jG H (.lst ys) Q
def Li:cB X (.type "list") (Qt K):=hK▸Lj
def Zn(K:Ab):R2:=λx y H Q=>∃p q xs,x=.ref p/\y=.ref q/\b9 K H p xs/\b9 K H q []/\Q (.bl (!xs.isEmpty)) H
def ng(hu:X.A.units<tz):iX X (sn .NotEq) (Zn K):=hK▸NJ hu
def ag4(K:Ab)(ta:TE):TT:=λσ H Q=>ta σ H λx H'=>∃k,abw K x H' k/\Q k H'
def wW(ha:PE X a ta)(he:∀Ä,isTrue a X.env Ä=(do let v <- Ä;standAt a.pos;KB [v] (truthy v))):PT X a (ag4 K ta):=hK▸QB ha he
def U1(pa:PlainAttrs T)(slot:Slot T name ò)(à:typeOf (.builtin ò)=pure (.type "method_descriptor"))(hm:MtR X ò r)(ho:PE X o to)(eZ:‹ss o name X.env (o0 o X.env)=o0 o X.env›)(eY:‹TL Â bV›):PE X (.Call (.Attribute o name Â) [] [] bV) (acN K T r to):=hK▸Zz pa slot à hm ho eZ eY
def qc(pa:PlainAttrs T)(slot:Slot T name ò)(à:typeOf (.builtin ò)=pure (.type "method_descriptor"))(hm:MtR X ò r)(ho:PE X o to)(ha:PA X (e::es) t)(eZ:‹ss o name X.env (o0 o X.env)=o0 o X.env›)(qt:‹HWa X bV (e::es)›)(eY:‹TL Â bV›)(hs:‹hV X e es›)(eA:‹mm X bV es›):PE X (.Call (.Attribute o name Â) (e::es) [] bV) (tBM K T r to t):=hK▸adq pa slot à hm ho ha eZ qt eY hs eA
omit hK
end
structure Ts(P:wE)(w:Db)(K:Ab)(mg:Str->Option ci)(base:pc)(x:Str)(k:Nat)(ps:List Str)(sp:Sp) where
 f:db
 fd:FuncData
 ok:lL P w K mg base GB k f fd ps sp
 bi:Binds K fd ps []
 kp:Ek K (.ref f)=true
 at':mg x=am (.ref f)
section
variable{p:Pos}{t:TA}
def acM(sp:Sp)(t:TA):TE:=λσ H Q=>t σ H λvs H1=>sp vs H1 Q E0
def JI(G:Ts X.prog X.w X.K X.mg X.base x k ps sp)(hr:eG k' X.A)(hk:k<=k')(hg:Gl X x)(ha:PA X (e::es) t)(mz: ~~~(jz x))(he:‹hV X e es›)(eB:‹mm X pos es›):PE X (.Call (.Name x p) (e::es) [] pos) (acM sp t):=by
 intro U s σ H Q I h;refine BJ (Mr I hg G.at' ?_ mz);refine PySem.W.callWith_K I.ok.mod.kin G.kp (cf (ha pos U s σ H _ I h) λus s1 ⟨vs,H1,I1,r,q⟩=>⟨I1.xo,?_⟩) he eB;refine Y8 G.ok (hr.mono hk) G.bi .nil adt I1 r ?_;rw[C0];exact q
end
section
variable{t u:TS}{tA YV:TT}{g:TG}{Q:VK}{QT:Bool->Hp->Prop}{QA:O V->Hp->Prop}{QS:St->Hp->Prop}{i:Nat}{ts:TA}
def Zd(h:t {D with nx:=u D} σ H):acF t u D σ H:=h
def UD(h:D.nx σ H):Xe D σ H:=h
def Zi(h:te σ H λx H1=>g x σ H1 D.nx):Ua te g D σ H:=h
def UE(h:QS (σ.set i (am v)) H):eI i v σ H QS:=h
def Za(e:σ[i]?=am (am v))(h:Q v H):YS i σ H Q:=⟨v,e,h⟩
def ahv(h:Q v H):tC v σ H Q:=h
def ac2{r:R2}(h:ta σ H λx H1=>tb σ H1 λy H2=>r x y H2 Q):Xd r ta tb σ H Q:=h
def ahy{C:Int->Int->Prop}{f:Int->Int->V}{a:Int}(c:C a b)(h:Q (f a b) H):rI C f (.int a) (.int b) H Q:=⟨a,b,rfl,rfl,c,h⟩
def Ze(h:te σ H D.rt):acG te D σ H:=h
def UG(h:te σ H λ_ H1=>D.nx σ H1):Xg te D σ H:=h
def Zh(h:tA σ H λb H1=>if b=true then t D σ H1 else u D σ H1):acI tA t u D σ H:=h
def UC(h:te σ H λx H'=>∃k,x=.bl k/\QT k H'):Xc te σ H QT:=h
def Zj(h:tA σ H λc H1=>if c=true then YV σ H1 QT else QT false H1):acP tA YV σ H QT:=h
def Zf(h:QA [] H):YT σ H QA:=h
def UH(h:ta σ H λx H1=>ts σ H1 λxs H2=>QA (x::xs) H2):PF ta ts σ H QA:=h
def Zg(h:ts σ H λxs H1=>xs.length<=sizeLine/\jG H1 (.lst xs) Q):Xf ts σ H Q:=h
def ac6{k:Bool}{R:Bool->Prop}(h:R k):∃c,V.bl k=.bl c/\R c:=⟨k,rfl,h⟩
def ac5{K:Ab}{r:V->O V->Hp->VK->Prop}(h:te σ H λx H1=>tyV K T x H1/\ts σ H1 λxs H2=>r x xs H2 Q):tBM K T r te ts σ H Q:=h
def Zc{ti:TE}{tt:O1}(h:to σ H λo H1=>ti σ H1 λi H2=>tt o i v H2 λH3=>QS σ H3):aez to ti tt v σ H QS:=h
def UI{K:Ab}{a:Int}(h:Q (.int (a+b)) H):Qs K (.int a) (.int b) H Q:=⟨b,rfl,h⟩
def dE{K:Ab}{n:Int}(h1:b9 K H a xs)(h2:cR xs n=am v)(h:Q v H):rIx K (.ref a) (.int n) H Q:=.inl ⟨a,xs,n,v,rfl,rfl,h1,h2,h⟩
end
section
def L8{k:Int}{QH:Hp->Prop}(h1:H p=am (.lst xs))(hj:ux xs.length k=am j)(h:∀H',lK p H H'->H' p=am (.lst (xs.set j v))->QH H'):Qr (.ref p) (.int k) v H QH:=⟨p,xs,k,j,rfl,rfl,h1,hj,h⟩
def Zb{K:Ab}{l:db}(h:H l=am (.lst xs)):tyV K "list" (.ref l) H:=.inl ⟨rfl,_,b9.of h⟩
def Xy{j:Int}(h1:-18446744073709551616<i)(h2:i<18446744073709551616):wP i j:=W5.ok (.inl ⟨h1,h2⟩)
def mul_r{j:Int}(h1:-18446744073709551616<j)(h2:j<18446744073709551616):wP i j:=W5.ok (.inr ⟨h1,h2⟩)
end
def bM(h:n<=1000):n<=sizeLine:=E6 (Nm h)
section
variable(K:Ab)(hK:X.K=K)
include hK
def Zq(K:Ab):R2:=λx y H Q=>∃p q xs,x=.ref p/\y=.ref q/\b9 K H p xs/\b9 K H q []/\Q (.bl xs.isEmpty) H
def JJ(hu:X.A.units<tz):iX X (sn .Eq) (Zq K):=by
 subst hK;intro U s σ H x y v u Q I rx ry h;obtain⟨p,q,xs,rfl,rfl,hp,hq,k⟩:=h;cases rx;cases ry;obtain⟨aq,r,pl,hz⟩:=I.list hp;obtain⟨du,r2,ă,ġ⟩:=I.list hq;cases r2;cases xs with
 |nil=>
  cases r;refine Fj (Gd (e:=λ_=>true) pl.isList ă.isList rfl hu λj h1=>absurd h1 (by simp)) ?_;exact⟨.bl true,H,I,rfl,k⟩
 |cons y ys=>
  have hl:=r.length;refine Fj (EL pl.isList ă.isList (by simp at hl ⊢;intro z;subst z;simp at hl) hu) ?_;exact⟨.bl false,H,I,rfl,k⟩
omit hK
end
end L2
variable{p1:Cn}
namespace L2
theorem Vals.G6:∀{xs:O V}{us:O ci},Vals xs us->Vals xs.reverse us.reverse
 |_,_,.nil=>.nil
 |_,_,.cons h t=>by rw[DK,DK];exact(Vals.G6 t).append (.cons h .nil)
def Z0:FS (.type "list_reverseiterator") (Cb "__len__")=pure ce:=by kernel_rfl
def Vs:FS (.type "list_reverseiterator") (Cb "__length_hint__")=pure (am (.builtin "list_reverseiterator.__length_hint__")):=by kernel_rfl
def Uj:splitId "list_reverseiterator.__length_hint__"=am ("list_reverseiterator","__length_hint__"):=by kernel_rfl
def Ub:isSubtype (.type "list_reverseiterator") (.type "list_reverseiterator")=pure true:=by kernel_rfl
def RU{s:cr}{r l:db}{Q:Bool->cr->Prop}(h:s.heap.IsRevIter r l i)(q:Q false s):ga (gl prog w) A (Builtin.List.listLengthHint (AV r)) Q E s:=by
 refine Aa (Fm h.typeIs Z0 ?_);refine Aa (Fm h.typeIs Vs ?_);dsimp only;rw[Uj];dsimp only;exact Aa (De h.typeIs Ub (Ag q))
def vM{s:cr}{r l S:db}(hA:A.handled=ce)(h:s.heap.IsRevIter r l (items.size-1))(hl:s.heap.IsList l items)(Ks:l≠r)(ŗ:S≠r)(hSl:S≠l)(hz:items.size<=sizeLine)(hS:s.heap.get? S=am {cls:=C5 "list",data:=F4 #[]})(q:∀(h':pc) (tk:Nat) (Z:Array ci) (c:Nat),(∀b o,b≠S->b≠r->s.heap.get? b=am o->h'.get? b=am o)->h'.get? S=am {cls:=C5 "list",data:=F4 Z c}->ItemsOf (λi v=>items[items.size-1-i]?=am v) Z items.size->R (.ok (.ret .none)) {s with heap:=h',toks:=tk}):
  ga (gl prog w) A.in1 (v4.«list.__init__» {pos:=[AV S,AV r]})
   (λfin s'=>match fin with|Ep f=>R (Except.ok f) s'|Fin.again c'=>c'.quiet=true/\KF (gl prog w) A c' R s') (λe s'=>R (F9 e) s') s:=by
 unfold v4.«list.__init__»;refine Aa (wpAny_listItems hS rfl ?_);refine Aa ?_;refine CY hS rfl ?_ (by simp) (by simp);refine Aa (CC ?_);have k1:∀b o,b≠S->s.heap.get? b=am o->(s.heap.update S (BH λ_=>#[])).get? b=am o:=λb o hb e=>by rw[BX _ _ (BE hb)];exact e
 have hS1:=B3 (BH λ_=>#[]) hS rfl;generalize s.heap.update S (BH λ_=>#[])=h1 at k1 hS1 ⊢;have Ĥ:h1.IsRevIter r l (items.size-1):=let ⟨o,e,p⟩:=h;⟨o,k1 _ _ (BE ŗ) e,p⟩;have ō:h1.IsList l items:=let ⟨o,e,p⟩:=hl;⟨o,k1 _ _ (BE hSl) e,p⟩;unfold Builtin.List.listExtendWith;refine Aa (Dc Ĥ.typeIs ?_);rw[if_neg (by
  have e1:Builtin.List.listSameRef (AV S) (AV r)=false:=by
   unfold Builtin.List.listSameRef;simpa using ŗ
  rw[e1];decide)]
 refine Aa (wpAny_pyIter_revIter Ĥ ?_);refine Aa (Bh (RU Ĥ ?_));refine Ag ⟨BT F.plain_extend_loop _,?_⟩;refine codeAny_extend_loopS (Walks.toS (Walks.listRev (A:=A.in1) hA r l Ks items)) hz S (by simp[ŗ,hSl]) .none items.size 0 _ #[] _ (Eh _) (A9 _) ⟨A9 _,by simpa using Ĥ,ō⟩ hS1 (ItemsOf.nil _) ?_;intro s' Z c mv e io;rw[mv.eq_with];exact q s'.heap s'.toks Z c (λb o n1 n2 e'=>mv.heap b o (by simp[n1,n2]) (k1 b o n1 e')) e io
def wx{s:cr}{r l:db}(hA:A.handled=ce)(h:s.heap.IsRevIter r l (items.size-1))(hl:s.heap.IsList l items)(Ks:l≠r)(hz:items.size<=sizeLine)(q:∀(h':pc) (tk:Nat) (Z:Array ci) (c:Nat),(∀b o,b≠r->s.heap.get? b=am o->h'.get? b=am o)->h'.get? s.heap.objs.size=am {cls:=C5 "list",data:=F4 Z c}->ItemsOf (λi v=>items[items.size-1-i]?=am v) Z items.size->Q (.ref s.heap.objs.size) {s with heap:=h',toks:=tk}):ga (gl prog w) A (call (C5 "list") [AV r]) Q E s:=by
 have lr:=let ⟨_,e,_⟩:=h;Aq e;have ll:=let ⟨_,e,_⟩:=hl;Aq e;refine callType_codes F.called_list (F.typeCall_list_1 _) F.entry_list_init (code_list_new (Q₁:=λv s₁=>v=.ref s.heap.objs.size/\s₁={s with heap:=s.heap.push {cls:=C5 "list",data:=F4 #[]}}) _ ⟨rfl,rfl⟩) ?_;rintro obj s₁ ⟨rfl,rfl⟩;refine⟨⟨_,An _ rfl,rfl⟩,F.args_list_init_2 _ _,?_⟩;have kp:∀b o,s.heap.get? b=am o->(s.heap.push {cls:=C5 "list",data:=F4 #[]}).get? b=am o:=λb o e=>Ai _ e;refine vM hA (let ⟨o,e,p⟩:=h;⟨o,kp _ _ e,p⟩) (let ⟨o,e,p⟩:=hl;⟨o,kp _ _ e,p⟩) Ks (λz=>by rw[z]at lr;exact AI _ lr) (λz=>by rw[z]at ll;exact AI _ ll) hz (An _ rfl) ?_;intro h' tk Z c k e io;exact⟨rfl,q h' tk Z c (λb o n e'=>k b o (λz=>by rw[z]at e';exact AI _ (Aq e')) n (kp b o e')) e io⟩
def tLR(K:Ab)(te:TE):TE:=λσ H Q=>te σ H λx H1=>∃p ys,x=.ref p/\b9 K H1 p ys/\jG H1 (.lst ys.reverse) Q
section
variable(K:Ab)(hK:X.K=K){p2 q1 q2:Pos}
include hK
theorem JH(hc:X.calm=true)(ő:Gl X "list")(Ō:X.mg "list"=ce)(Ő:Gl X "reversed")(XX:X.mg "reversed"=ce)(he:PE X e te)(pN:‹gt [.Call (.Name "reversed" q1) [e] [] q2] X.env=(false,o0 (.Call (.Name "reversed" q1) [e] [] q2) X.env)::gt [] X.env›)(vn:‹hV X e []›):PE X (.Call (.Name "list" p1) [.Call (.Name "reversed" q1) [e] [] q2] [] p2) (tLR K te):=by
 intro U s σ H Q I h;subst hK;refine BJ (gQ I ő Ō boot_list ?_ ⋯ ⋯);refine Bs ?_ pN rfl;refine B7 ?_;refine BJ (gQ I Ő XX boot_reversed ?_ ⋯ ⋯);refine Bs ?_ vn rfl;rw[vn];refine B7 (cf (he U s σ H _ I h) λu s1 ⟨x,H1,I1,r1,pa,ys,ex,hS,q⟩=>CA ?_);subst ex;cases r1;obtain⟨aq,rv,pl,hz⟩:=I1.list hS;have Á:=rv.length;have lp:=let ⟨_,e,_⟩:=pl.isList;Aq e;refine call_reversed_list pl.isList ?_;refine CA ?_;have kp:∀b o,s1.heap.get? b=am o->(s1.heap.push (revObj pa (aq.toArray.size-1))).get? b=am o:=λb o e=>Ai _ e;refine wx (I1.ok.hd hc) ⟨_,An _ rfl,rfl,rfl⟩ (let ⟨o,e,p⟩:=pl.isList;⟨o,kp _ _ e,p⟩) (λz=>by rw[z]at lp;exact AI _ lp) (by rw[Am];lia) ?_;intro h' tk Z c k e io;have ea:Z=aq.reverse.toArray:=by
  obtain⟨z1,z2⟩:=io;apply Array.ext
  .rw[z1,Am,Am,CI]
  .intro j h1 h2;have:=z2 j Z[j] (Di h1);rw[Am]at this;have hj:j<aq.length:=by rw[z1,Am]at h1;exact h1
   rw[Fz]at this;have e3:aq.reverse[j]?=am Z[j]:=by rw[DQ hj];exact this
   rw[List.getElem_toArray];exact(Option.some.inj (((Ad (by rw[CI];exact hj)).symm.trans e3))).symm
 subst ea;have vn:s1.heap.objs.size<=(s1.heap.push (revObj pa (aq.toArray.size-1))).objs.size:=by simp
 exact⟨.ref _,upd H1 _ (.lst ys.reverse),I1.laid (λb o eb=>k b o (λz=>by rw[z]at eb;exact AI _ (Aq eb)) (kp b o eb)) vn ⟨by rw[CI];exact hz,aq.reverse,c,rv.G6,e⟩,rfl,q.at _ (I1.bG.fresh vn)⟩
end
end L2
namespace My
inductive Tr where
 |leaf (x:Str)
 |node (l r:Tr)
def Tr.ay:Tr->O Str
 |.leaf x=>[x]
 |.node l r=>l.ay++r.ay
def Tr.size:Tr->Nat
 |.leaf _=>1
 |.node l r=>l.size+r.size+1
def Tr.depth:Tr->Nat
 |.leaf _=>0
 |.node l r=>max l.depth r.depth+1
theorem Tr.gP:∀t:Tr,1<=t.ay.length
 |.leaf _=>Al _
 |.node l r=>by have:=l.gP;show 1<=(l.ay++r.ay).length;rw[Ak];lia
theorem Tr.ph:∀t:Tr,t.depth<t.ay.length
 |.leaf _=>Df 0
 |.node l r=>by
  have h1:=l.ph;have h2:=r.ph;have h4:=r.gP;show max l.depth r.depth+1<(l.ay++r.ay).length;rw[Ak];lia
theorem Tr.size_eq:∀t:Tr,t.size+1=2*t.ay.length
 |.leaf _=>rfl
 |.node l r=>by
  have h1:=l.size_eq;have h2:=r.size_eq;show l.size+r.size+1+1=2*(l.ay++r.ay).length;rw[Ak];lia
def bI(ts:O Tr):Nat:=(ts.map Tr.size).sum
def gn(a b:O Tr):bI (a++b)=bI a+bI b:=by unfold bI;rw[Az,List.sum_append]
def pV(t:Tr):bI [t]=t.size:=by simp[bI]
theorem Tr.size_pos:∀t:Tr,1<=t.size
 |.leaf _=>Al _
 |.node l r=>by show 1<=l.size+r.size+1;lia
theorem lW:∀ts:O Tr,ts.length<=bI ts
 |[]=>Al _
 |t::r=>by have:=lW r;have:=t.size_pos;show r.length+1<=t.size+bI r;lia
end My
variable{x:A8}{σ:L2.St}{i:Nat}
namespace L2
def ig{s:cr}{t:db}(h:s.heap.IsTupleIter it t i)(ht:s.heap.IsTuple t items)(hx:items[i]?=am x)(q:∀h':pc,h'.IsTupleIter it t (i+1)->Ci it s.heap h'->Q x {s with heap:=h'}):ga (gl prog w) A (Builtin.SmallTypes.nextOf (.ref it)) Q E s:=by
 unfold Builtin.SmallTypes.nextOf;refine Aa (AY h.typeIs Cq (Be Cq h.typeIs Ef ?_ (D5 _)));obtain⟨o,ho,hc,hd⟩:=id h;obtain⟨ot,ň,htc,n,Ņ⟩:=id ht;show ga _ _ (field (.ref it) 0 >>= λseq=>_) _ _ s;refine Aa (A2 ho hd rfl ?_);refine Aa (A2 ho hd rfl ?_);refine Aa (BI ň Ņ ?_);show ga _ _ (match items[i]? with|some x=>(do setField (.ref it) 1 (xL (i+1));ret x)|none=>_) _ _ s;rw[hx];refine Aa (Eu ho hd (show 1<2 by decide) ?_);refine Ag ⟨x,rfl,Ag (q _ ⟨_,B3 _ ho (by rw[Fw (Dv hd _)]),by rw[Obj.cls_mapFields];exact hc,by rw[Dv hd];rfl⟩ (Ci.update ..))⟩
def Ue{s:cr}{Q:α->cr->Prop}(hA:A.handled=ce)(q:∀(h':pc) (e:db),(∀b o,s.heap.get? b=am o->h'.get? b=am o)->(∃o,h'.get? e=am o/\o.cls=.type "StopIteration")->E (.ref e) {s with heap:=h'}):ga (gl prog w) A (Builtin.SmallTypes.stopIteration (α:=α)) Q E s:=by
 refine Aa ?_;refine Aa (CM ?_ ⋯);refine Aa (Bx rfl ?_);refine Bf ?_ (sizeOk_excFields ..);unfold raiseNew;refine Aa (wpAny_handled ?_);rw[hA];refine wpAny_throw (q _ _ (λb o e=>Ai _ (Ai _ e)) ⟨_,An _ rfl,rfl⟩)
def jd{s:cr}{t:db}(hA:A.handled=ce)(h:s.heap.IsTupleIter it t i)(ht:s.heap.IsTuple t items)(hx:items[i]?=ce)(q:∀(h':pc) (e:db),FG it s.heap h'->(∃o,h'.get? e=am o/\o.cls=.type "StopIteration")->E (.ref e) {s with heap:=h'}):ga (gl prog w) A (Builtin.SmallTypes.nextOf (.ref it)) Q E s:=by
 unfold Builtin.SmallTypes.nextOf;refine Aa (AY h.typeIs Cq (Be Cq h.typeIs Ef ?_ (D5 _)));obtain⟨o,ho,hc,hd⟩:=id h;obtain⟨ot,ň,htc,n,Ņ⟩:=id ht;show ga _ _ (field (.ref it) 0 >>= λseq=>_) _ _ s;refine Aa (A2 ho hd rfl ?_);refine Aa (A2 ho hd rfl ?_);refine Aa (BI ň Ņ ?_);show ga _ _ (match items[i]? with|some x=>(do setField (.ref it) 1 (xL (i+1));ret x)|none=>(do rule _;setField (.ref it) 0 .none;Builtin.SmallTypes.stopIteration)) _ _ s;rw[hx];refine Aa (CV ?_);refine Aa (Eu ho hd (show 0<2 by decide) ?_);refine Ue hA λh' e k ex=>q h' e (λb o n eb=>k b o ?_) ex;rw[(Ci.update _ _ _).2 b n];exact eb
def Inv.n6{s:cr}{t':Nat}{o:HO}(I:Inv X U σ H s)(hf:∀b∈ch,wH X U H b)(k:∀b u,b∉ch->s.heap.get? b=am u->h'.get? b=am u)(hp:s.heap.objs.size<=a)(new:bC X.prog X.w (upd H a o) h' a o):Inv X U σ (upd H a o) {s with heap:=h',toks:=t'}:=by
 have hn:=I.bG.fresh hp;have Xx:∀b u,H b=am u->b∉ch:=λb u e z=>by rw[(hf b z).1]at e;cases e
 refine I.step (λb hb=>⟨(hf b hb).2.2.2.1,(hf b hb).2.1,(hf b hb).2.2.2.2.1,(hf b hb).2.2.2.2.2⟩) (λb u _ _ hc e _=>k b u hc e) (λb u _ _ hc e _=>⟨u.slots,k b u hc e⟩)
  (λb u _ e n=>by rw[ak (AH (AG (Aq e) hp))];exact n) (λb u hc e=>⟨u,k b u hc e⟩) (λb xs e=>by rw[ak (bK e hn)];exact e) (λb u xs e=>by rw[ak (bK e hn)];exact e)
  (λb ps e=>⟨#[],by rw[ak (bK e hn),e];simp⟩) (λm hm=>?_) (λb u e=>?_) I.bare
 .obtain⟨o',es,ep,ho,r⟩:=hm;exact⟨o',es,ep,k _ o' (λz=>(hf _ z).2.1 rfl) ho,r⟩
 .by_cases hb:b=a
  .subst hb;rw[aH]at e;cases e;exact new
  .rw[ak hb]at e;refine(I.bG b u e).yb (λc v hc q=>k c v ?_ q) (λc q=>by rw[ak (bK q hn)];exact q) λc xs q=>by rw[ak (bK q hn)];exact q
   rcases hc with z|z
   .rw[z];exact Xx b u e
   .exact Xx c _ z
def Inv.rZ{s:cr}{t':Nat}(I:Inv X U σ H s)(hf:∀b∈ch,wH X U H b)(k:∀b u,b∉ch->s.heap.get? b=am u->h'.get? b=am u):Inv X U σ H {s with heap:=h',toks:=t'}:=by
 have Xx:∀b u,H b=am u->b∉ch:=λb u e z=>by rw[(hf b z).1]at e;cases e
 refine I.step (λb hb=>⟨(hf b hb).2.2.2.1,(hf b hb).2.1,(hf b hb).2.2.2.2.1,(hf b hb).2.2.2.2.2⟩) (λb u _ _ hc e _=>k b u hc e) (λb u _ _ hc e _=>⟨u.slots,k b u hc e⟩)
  (λ_ _ _ _ n=>n) (λb u hc e=>⟨u,k b u hc e⟩) (λ_ _ e=>e) (λ_ _ _ e=>e) (λb ps e=>⟨#[],by rw[e];simp⟩) (λm hm=>?_) (λb u e=>?_) I.bare
 .obtain⟨o',es,ep,ho,r⟩:=hm;exact⟨o',es,ep,k _ o' (λz=>(hf _ z).2.1 rfl) ho,r⟩
 .refine(I.bG b u e).yb (λc v hc q=>k c v ?_ q) (λ_ q=>q) λ_ _ q=>q;rcases hc with z|z
  .rw[z];exact Xx b u e
  .exact Xx c _ z
def kK(h:Vals xs us):∀{i:Nat}{x:V},xs[i]?=am x->∃u,us[i]?=am u/\RelV x u:=by
 induction h with
 |nil=>intro i x e;simp at e
 |cons r t ih=>
  intro i x e;cases i with
  |zero=>simp at e;subst e;exact⟨_,rfl,r⟩
  |succ i=>exact ih (by simpa using e)
end L2
variable{e:Bq}{Ë:A8}{Í:O BC}
namespace L2
def rN{E:ci->cr->Prop}{s:cr}{t:db}(vo:e≠it)(ģ:t≠e)(VU:t≠it)(hz:FB s.heap e it i Ë)(hi:s.heap.IsTupleIter it t i)(ht:s.heap.IsTuple t items)(hx:items[i]?=am x)(q:∀(h':pc) (tk:Nat),IsEnumOut h' e it (i+1:Nat) x s.heap.objs.size->h'.IsTupleIter it t (i+1)->GT h' s.heap.objs.size (.int i s.toks) x->(∀c o,c≠e->c≠it->s.heap.get? c=am o->h'.get? c=am o)->Q (.ref s.heap.objs.size) {s with heap:=h',toks:=tk}):ga (gl prog w) A (v4.«enumerate.__next__» {pos:=[.ref e]}) (λfin s'=>∃v,fin=Ep (EU v)/\Q v s') E s:=by
 show ga _ _ (field (.ref e) 2 >>= λr=>_) _ _ s;refine Aa (A2 hz rfl rfl ?_);refine Aa (ig hi ht hx λh1 j1 b1=>?_);have z1:=(b1.2 _ vo).trans hz;refine Aa (A2 z1 rfl rfl ?_);refine Aa (A2 z1 rfl rfl ?_);refine Aa (wpAny_mkInt ?_);refine Aa (AW z1 (show 3 < 6 by decide) λh2 z2 b2=>?_);refine Aa (AW z2 (show 4 < 6 by decide) λh3 z3 b3=>?_);refine Aa (CM ?_ (by show 2<=sizeLine;decide));have kp:∀b o,h3.get? b=am o->(h3.push {cls:=.type "tuple",data:=.seq [CJ i s.toks,x].toArray}).get? b=am o:=λb o e=>Ai _ e;have JP:(h3.push {cls:=.type "tuple",data:=.seq [CJ i s.toks,x].toArray}).get? h3.objs.size=am {cls:=.type "tuple",data:=.seq #[.int i s.toks,x]}:=An _ rfl;generalize h3.push {cls:=.type "tuple",data:=.seq [CJ i s.toks,x].toArray}=h4 at kp JP ⊢;have z4:=kp _ _ z3;refine Aa ?_;refine Aa (A2 z4 rfl rfl ?_);refine Ag ?_;refine Aa (CV ?_);refine Aa (A2 z4 rfl rfl ?_);refine Aa (AW z4 (show 5 < 6 by decide) λh5 z5 b5=>?_);refine Aa ?_;refine Aa (AW z5 (show 0 < 6 by decide) λh6 z6 b6=>?_);refine AW z6 (show 1 < 6 by decide) λh7 z7 b7=>?_;refine Aa (CC ?_);have Kv:∀b,b≠e->h7.get? b=h4.get? b:=λb n=>(b7.2 b n).trans ((b6.2 b n).trans (b5.2 b n));have ne:s.heap.objs.size≠e:=λz=>by have:=Aq hz;rw[<- z]at this;exact AI _ this
 refine Ag ⟨.ref h3.objs.size,rfl,?_⟩;rw[(b3.1.trans (b2.1.trans b1.1))]at z7 JP ⊢;refine q h7 _ ?_ ?_ ?_ ?_
 .exact z7
 .obtain⟨o,eo,p⟩:=j1;refine⟨o,?_,p⟩;rw[Kv _ (BE vo)];exact kp _ _ ((b3.2 _ (BE vo)).trans ((b2.2 _ (BE vo)).trans eo))
 .rw[GT,Kv _ ne];exact JP
 .intro c o n1 n2 ec;rw[Kv _ n1];exact kp _ _ (((λb n1 n2=>(b3.2 b n1).trans ((b2.2 b n1).trans (b1.2 b n2))) _ n1 n2).trans ec)
def uQ{s:cr}{t:db}{Q:PySem.Fin->cr->Prop}(hA:A.handled=ce)(hz:FB s.heap e it i Ë)(hi:s.heap.IsTupleIter it t i)(ht:s.heap.IsTuple t items)(hx:items[i]?=ce)(q:∀(h':pc) (x:db),(∀c o,c≠it->s.heap.get? c=am o->h'.get? c=am o)->(∃o,h'.get? x=am o/\o.cls=.type "StopIteration")->E (.ref x) {s with heap:=h'}):ga (gl prog w) A (v4.«enumerate.__next__» {pos:=[.ref e]}) Q E s:=by
 show ga _ _ (field (.ref e) 2 >>= λr=>_) _ _ s;exact Aa (A2 hz rfl rfl (Aa (jd hA hi ht hx λh' x k ex=>q h' x (λc o n e'=>k c o n e') ex)))
def oo{s:cr}{t:db}{Q:Option ci->cr->Prop}(vo:e≠it)(ģ:t≠e)(VU:t≠it)(hz:FB s.heap e it i Ë)(hi:s.heap.IsTupleIter it t i)(ht:s.heap.IsTuple t items)(hx:items[i]?=am x)(q:∀(h':pc) (tk:Nat),IsEnumOut h' e it (i+1:Nat) x s.heap.objs.size->h'.IsTupleIter it t (i+1)->GT h' s.heap.objs.size (.int i s.toks) x->(∀c o,c≠e->c≠it->s.heap.get? c=am o->h'.get? c=am o)->Q (am (.ref s.heap.objs.size)) {s with heap:=h',toks:=tk}):ga (gl prog w) A (PP (.ref e)) Q E s:=by
 have ty:s.TypeIs (.ref e) "enumerate":=⟨_,hz,rfl⟩;refine Aa (CH (AY ty BA (Be BA ty CU ?_ (CK _))));exact rN vo ģ VU hz hi ht hx λh' tk a b c d=>Ag (q h' tk a b c d)
def pZ{s:cr}{t:db}{Q:Option ci->cr->Prop}(hA:A.handled=ce)(hz:FB s.heap e it i Ë)(hi:s.heap.IsTupleIter it t i)(ht:s.heap.IsTuple t items)(hx:items[i]?=ce)(q:∀h':pc,(∀c o,c≠it->s.heap.get? c=am o->h'.get? c=am o)->Q ce {s with heap:=h'}):ga (gl prog w) A (PP (.ref e)) Q E s:=by
 have ty:s.TypeIs (.ref e) "enumerate":=⟨_,hz,rfl⟩;refine Aa (CH (AY ty BA (Be BA ty CU ?_ (CK _))));refine uQ hA hz hi ht hx λh' x k ex=>?_;obtain⟨o,eo,hc⟩:=ex;exact Aa (De ⟨o,eo,hc⟩ isSubtype_stop (Ag (q h' k)))
def rC(t:db)(items:Array ci):Meets (v4.«enumerate.__new__» {pos:=[.type "enumerate",.ref t]}) (λ_ R s=>s.heap.IsTuple t items/\
  ∀h':pc,FB h' (s.heap.objs.size+1) s.heap.objs.size (0:Nat) .none->h'.IsTupleIter s.heap.objs.size t 0->(∀b o,s.heap.get? b=am o->h'.get? b=am o)->R (.ok (.ret (.ref (s.heap.objs.size+1)))) {s with heap:=h'}):=
 .of_wp λprog w A R s h=>by
  obtain⟨h1,q⟩:=h;refine Aa ?_;refine Aa (Bx rfl ?_);refine Aa (Bx sub_enumerate ?_);refine Ag ?_;refine Aa ?_;refine Aa (wpAny_stack_any λst=>Ag ?_);have fin:ga (gl prog w) A.in1 (pyIter (.ref t) >>= λit=>(Builtin.SmallTypes.newRecord (.type "enumerate") (Builtin.SmallTypes.ownedTupleFields++[it,xL 0,.none,.none]) >>= λr=>ret r)) (λfin s'=>∃v,fin=Ep (EU v)/\R (Except.ok (EU v)) s') (λe s'=>R (F9 e) s') s:=by
   refine Aa (Dx h1 ?_);have k1:∀b o,s.heap.get? b=am o->(s.heap.push {cls:=.type "tuple_iterator",data:=.fields #[.ref t,.int 0 0]}).get? b=am o:=λb o e=>Ai _ e;have g1:(s.heap.push {cls:=.type "tuple_iterator",data:=.fields #[.ref t,.int 0 0]}).get? s.heap.objs.size=am {cls:=.type "tuple_iterator",data:=.fields #[.ref t,.int 0 0]}:=An _ rfl;have z1:(s.heap.push {cls:=.type "tuple_iterator",data:=.fields #[.ref t,.int 0 0]}).objs.size=s.heap.objs.size+1:=Bv ..;generalize s.heap.push {cls:=.type "tuple_iterator",data:=.fields #[.ref t,.int 0 0]}=Gz at k1 g1 z1 ⊢;show ga _ _ (newObj (.type "enumerate") (.fields #[.none,.bool false,.ref s.heap.objs.size,xL 0,.none,.none]) >>= λr=>ret r) _ _ _;refine Aa (Bf ?_ (by simp[sizeOk];decide));have g2:(Gz.push {cls:=.type "enumerate",data:=.fields #[.none,.bool false,.ref s.heap.objs.size,xL 0,.none,.none]}).get? Gz.objs.size=am {cls:=.type "enumerate",data:=.fields #[.none,.bool false,.ref s.heap.objs.size,xL 0,.none,.none]}:=An _ rfl;refine Ag ⟨.ref Gz.objs.size,rfl,?_⟩;rw[z1]at g2 ⊢;exact q _ g2 ⟨_,Ai _ g1,rfl,rfl⟩ λb o e=>Ai _ (k1 _ _ e)
  refine wpAny_ite_split (λ_=>?_) (λ_=>?_)
  .exact Aa (Bx rfl fin)
  .exact Aa (Bx rfl fin)
def Lk{s:cr}{t:db}(h1:s.heap.IsTuple t items)(q:∀h':pc,FB h' (s.heap.objs.size+1) s.heap.objs.size (0:Nat) .none->h'.IsTupleIter s.heap.objs.size t 0->(∀b o,s.heap.get? b=am o->h'.get? b=am o)->Q (.ref (s.heap.objs.size+1)) {s with heap:=h'}):ga (gl prog w) A (call (.type "enumerate") [.ref t]) Q E s:=
 callType_new Dw ⋯ (F.typeCall_enumerate_1 _) (F.newCall_enumerate_1 _) (λo=>F.args_object_init_2 o _) F.entry_enumerate_new (rC t items) ⟨h1,λh' z i k=>⟨⟨_,z,rfl⟩,q h' z i k⟩⟩
def Ite(K:Ab)(a:db):It where
 go:=λi H=>∃xs x,dU K H a xs/\xs[i]?=am x
 TR:=λi H v H'=>∃p x,v=.ref p/\H p=ce/\H'=upd H p (.tup [.int i,x])/\∀xs,dU K H a xs->xs[i]?=am x
 stop:=λi H=>∃xs,dU K H a xs/\xs.length<=i
theorem Nd{K:Ab}{kk:Nat}{t:db}(vo:e≠it)(ģ:t≠e)(VU:t≠it):Turn P w K (.Tuple Í kk pos) (Ite K t) [e,it] e (λi h=>(∃Ë,FB h e it (i:Nat) Ë)/\h.IsTupleIter it t i) where
 mem:=by simp
 obj:=λi h st b hb=>by
  simp at hb;rcases hb with rfl|rfl
  .obtain⟨⟨_,e⟩,_⟩:=st;exact⟨_,e,λv z=>by cases z⟩
  .obtain⟨_,⟨o,e,_,d⟩⟩:=st;exact⟨o,e,λv z=>by rw[d]at z;cases z⟩
 keep:=λi h h' st k=>⟨let ⟨o,e'⟩:=st.1;⟨o,k e (by simp) _ e'⟩,let ⟨o,e',p⟩:=st.2;⟨o,k it (by simp) _ e',p⟩⟩
 item:=by
  intro X hP hw hK hc i U s σ H E I hf st hg;subst hP hw hK;obtain⟨xs,x,hx,gx⟩:=hg;obtain⟨aq,rx,tx,_⟩:=I.tuple hx;obtain⟨u,gu,ru⟩:=kK rx gx;obtain⟨⟨Ë,hz⟩,hi⟩:=st;refine oo vo ģ VU hz hi tx (by simpa using gu) λh' tk zo j np k=>?_;refine⟨_,rfl,?_⟩;refine C6 zo λh2 z2 b2=>?_;have le:=Aq hz;have li:=let ⟨_,e',_⟩:=hi;Aq e';have lt:∀b∈[e,it],b<s.heap.objs.size:=λb hb=>by
   simp at hb;rcases hb with rfl|rfl
   .exact le
   .exact li
  have ß:∀b o,b∉[e,it]->s.heap.get? b=am o->h2.get? b=am o:=λb o hb e'=>by
   have RP:b≠e:=λq=>hb (by simp[q]);rw[b2.2 b RP];exact k b o RP (λq=>hb (by simp[q])) e'
  refine⟨.ref s.heap.objs.size,upd H s.heap.objs.size (.tup [.int i,x]),I.n6 hf ß (Al _) ⟨by show 2<=sizeLine;decide,[.int i s.toks,u],.cons ⟨_,rfl⟩ (.cons ru .nil),⟨_,((b2.2 _ (λz=>AI _ (by have:=le;rw[<- z]at this;exact this))).trans np),rfl,_,rfl⟩,_,((b2.2 _ (λz=>AI _ (by have:=le;rw[<- z]at this;exact this))).trans np),rfl⟩,rfl,⟨_,x,rfl,(I.bG.fresh (Al s.heap.objs.size)),rfl,λxs' h'=>by rw[I.lM h' hx];exact gx⟩,⟨⟨_,z2⟩,let ⟨o,e',p⟩:=j;⟨o,(b2.2 _ (BE vo)).trans e',p⟩⟩,λb hb=>?_⟩;rw[ak (AH (lt b hb))];exact(hf b hb).1
 done:=by
  intro X hP hw hK hc i U s σ H E I hf st hg;subst hP hw hK;obtain⟨xs,hx,hl⟩:=hg;obtain⟨aq,rx,tx,_⟩:=I.tuple hx;have el:=rx.length;obtain⟨⟨Ë,hz⟩,hi⟩:=st;refine pZ (I.ok.hd hc) hz hi tx (by simp;lia) λh' k=>⟨rfl,I.rZ hf λb o hb e'=>k b o (λz=>hb (by simp[z])) e'⟩
 self:=λA i s Q E st h=>let ⟨_,e'⟩:=st.1;CB e' h
end L2
namespace My
def Tr.post:Tr->O Tr
 |.leaf x=>[.leaf x]
 |.node l r=>l.post++r.post++[.node l r]
def Tr.kT:∀t:Tr,t.post.length=t.size
 |.leaf _=>rfl
 |.node l r=>by show(l.post++r.post++[_]).length=l.size+r.size+1;rw[Ak,Ak,l.kT,r.kT];rfl
def jc(ts:O Tr):O Tr:=(ts.map Tr.post).flatten
def jD(a b:O Tr):jc (a++b)=jc a++jc b:=by unfold jc;rw[Az,List.flatten_append]
def p0(t:Tr):jc [t]=t.post:=by simp[jc]
def Nz(t u:Tr):jc [t,u]=t.post++u.post:=by simp[jc]
inductive Ent where
 |word (x:Str)
 |pair (a b:Nat)
def Tr.nd:Tr->Nat->O Ent
 |.leaf x,_=>[.word x]
 |.node l r,o=>l.nd o++r.nd (o+l.size)++[.pair (o+l.size-1) (o+l.size+r.size-1)]
def Tr.bL:∀(t:Tr) (o:Nat),(t.nd o).length=t.size
 |.leaf _,_=>rfl
 |.node l r,o=>by show(l.nd o++r.nd (o+l.size)++[_]).length=l.size+r.size+1;rw[Ak,Ak,l.bL,r.bL];rfl
def run:O Tr->O Ent->O Nat->Option (O Ent×O Nat)
 |[],À,ls=>am (À,ls)
 |.leaf x::k,À,ls=>run k (À++[.word x]) (À.length::ls)
 |.node _ _::k,À,b::a::ls=>run k (À++[.pair a b]) (À.length::ls)
 |.node _ _::_,_,_=>ce
theorem tD:∀(t:Tr) (k:O Tr) (À:O Ent) (ls:O Nat),run (t.post++k) À ls=run k (À++t.nd À.length) ((À.length+t.size-1)::ls)
 |.leaf x,k,À,ls=>rfl
 |.node l r,k,À,ls=>by
  have e1:(Tr.node l r).post++k=l.post++(r.post++(Tr.node l r::k)):=by show l.post++r.post++[_]++k=_;simp
  rw[e1,tD l,tD r];have e2:(À++l.nd À.length).length=À.length+l.size:=by rw[Ak,l.bL]
  rw[e2];show run k _ _=run k _ _;have e3:(À++l.nd À.length++r.nd (À.length+l.size)).length=À.length+(Tr.node l r).size-1:=by
   rw[Ak,Ak,l.bL,r.bL];show _=À.length+(l.size+r.size+1)-1;lia
  rw[e3];have e4:À++(Tr.node l r).nd À.length=À++l.nd À.length++r.nd (À.length+l.size)++[.pair (À.length+l.size-1) (À.length+l.size+r.size-1)]:=by
   show À++(l.nd À.length++r.nd (À.length+l.size)++[_])=_;simp
  rw[e4]
def Nr(t:Tr):run t.post [] []=am (t.nd 0,[t.size-1]):=by
 have:=tD t [] [] [];rw[C0]at this;rw[this];show am ([]++t.nd 0,[0+t.size-1])=_;simp
def Tf(l:O V)(i:Nat):Ent->O V
 |.word _=>l
 |.pair a b=>(l.set a (.int i)).set b (.int i)
def ah:O Ent->Nat->O V->O V
 |[],_,l=>l
 |e::es,i,l=>ah es (i+1) (Tf l i e)
theorem z9:∀(es:O Ent) (e:Ent) (i:Nat) (l:O V),ah (es++[e]) i l=Tf (ah es i l) (i+es.length) e
 |[],e,i,l=>rfl
 |x::es,e,i,l=>by
  show ah (es++[e]) (i+1) (Tf l i x)=Tf (ah es (i+1) (Tf l i x)) (i+(es.length+1)) e;rw[z9 es e];congr 1;lia
def WQ(l:O V)(i:Nat)(e:Ent):(Tf l i e).length=l.length:=by cases e with
 |word=>rfl
 |pair=>show((l.set _ _).set _ _).length=_;rw[BL,BL]
theorem Lq:∀(es:O Ent) (i:Nat) (l:O V),(ah es i l).length=l.length
 |[],_,_=>rfl
 |e::es,i,l=>by show(ah es (i+1) (Tf l i e)).length=_;rw[Lq es,WQ]
end My
variable{b:BC}{p:Cn}
namespace L2
def Itd(lo:Int)(n:Nat):It:=⟨λi _=>i<n,λi H x H'=>H'=H/\x=.int (lo-i),λi _=>n<=i⟩
theorem GQ{K:Ab}(it:db)(lo:Int)(n:Nat):Turn P w K tg (Itd lo n) [it] it (λi h=>IsRangeIter h it (lo+(i:Nat)*(-1)) ((n:Int)-(i:Nat)) (-1)) where
 mem:=by simp
 obj:=λi h st b hb=>by
  have e:b=it:=by simpa using hb
  subst e;exact⟨_,st,λv z=>by
   have z':=z;cases z'⟩
 keep:=λi h h' st k=>k it (by simp) _ st
 item:=by
  intro X hP hw hK hc i U s σ H E I hf st hg;subst hP hw hK;obtain⟨f0,f1,f2,f3,f4,f5⟩:=hf it (by simp);refine(Walks.range (prog:=X.prog) (I.ok.hd hc) it lo (-1) n).item i s _ _ hg st λv h' tk hv sf kk=>?_;obtain⟨t,rfl⟩:=hv;refine⟨_,rfl,HQ sf rfl rfl ⋯ ⟨.int (lo-i),H,(I.turned (λb o hb e=>kk b o (by simpa using hb) e) f0 f1 f3 f4 f5),⟨t,?_⟩,⟨rfl,rfl⟩,sf,λb hb=>(hf b hb).1⟩⟩;rw[show lo+i*(-1)=lo-i by lia]
 done:=by
  intro X hP hw hK hc i U s σ H E I hf st hg;obtain⟨f0,f1,f2,f3,f4,f5⟩:=hf it (by simp);exact wpAny_pyNext_range_end (I.ok.hd hc) st (by have:n<=i:=hg;lia) λh' eb=>⟨rfl,I.turned (λb o hb e=>eb b o hb e) f0 f1 f3 f4 f5⟩
 self:=λ_ _ _ _ _ st h=>wpAny_pyIter_rangeiter st h
section
theorem Nw{σ:St}{s:cr}{R:It->Hp->Prop}{lo hi:Int}{t u v:Tok}{tk:Nat}(I:Inv X U σ H s)(h1:-(2 ^ 62)<=lo)(h2:lo < 2 ^ 62)(h3:-(2 ^ 62)<=hi)(h4:hi < 2 ^ 62)(q:R (Itd lo (lo-hi).toNat) H):ga (gl X.prog X.w) X.A (pyIter (.ref s.heap.objs.size)) (PIE X U σ tg R) E {s with heap:=s.heap.push {cls:=.type "range",data:=.fields #[.int lo t,.int hi u,.int (-1) v]},toks:=tk}:=by
 refine wpAny_pyIter_range (IsRange.new ..) (PySem.W.small_down h1 h2 h3 h4) ?_;have I1:Inv X U σ H {s with heap:=s.heap.push {cls:=.type "range",data:=.fields #[.int lo t,.int hi u,.int (-1) v]},toks:=tk}:=I.kept λb o e=>Ai _ e;refine⟨(s.heap.push {cls:=.type "range",data:=.fields #[.int lo t,.int hi u,.int (-1) v]}).objs.size,[(s.heap.push {cls:=.type "range",data:=.fields #[.int lo t,.int hi u,.int (-1) v]}).objs.size],_,_,H,rfl,
  I1.kept λb o e=>Ai _ e,GQ _ lo (lo-hi).toNat,?_,λb hb=>?_,q⟩
 .have e1:lo+((0:Nat))*(-1)=lo:=by simp
  have e2:(((lo-hi).toNat))-((0:Nat):Int)=Builtin.Range.rangeSize lo hi (-1):=by rw[PySem.W.rangeSize_down];split<;>lia
  rw[e1,e2];exact An _ rfl
 .have e:b=(s.heap.push {cls:=.type "range",data:=.fields #[.int lo t,.int hi u,.int (-1) v]}).objs.size:=by simpa using hb
  subst e;exact I1.zm (Al _) (I1.bG.fresh (Al _))
def ad5(ta:TA):TI:=λσ H R=>ta σ H λvs H1=>∃i j:Int,vs=[.int i,.int j,.int (-1)]/\(-(2 ^ 62)<=i/\i<2 ^ 62/\-(2 ^ 62)<=j/\j<2 ^ 62)/\R (Itd i (i-j).toNat) H1
def NC{a c:mo}{ta:TA}(hg:Gl X "range")(hm:X.mg "range"=ce)(ha:PA X [a,b,c] ta)(hs:‹gt [a,b,c] X.env=[(false,o0 a X.env),(false,o0 b X.env),(false,o0 c X.env)]›)(vn:‹gt [b,c] X.env=[(false,o0 b X.env),(false,o0 c X.env)]›):PI X tg (.Call (.Name "range" p) [a,b,c] [] pos) (ad5 ta):=by
 intro U s σ H R I h;refine Call_ (gQ I hg hm boot_range (Bs (cf (ha pos U s σ H _ I h) λus s1 ⟨vs,H1,I1,r1,q1⟩=>?_) (by show gt _ _=_;rw[hs,vn]) (by rw[vn];rfl)));obtain⟨i,j,e,⟨q1,q2,q3,q4⟩,q⟩:=q1;subst e;cases r1 with
 |cons r rr=>
  cases rr with
  |cons r' rr=>
   cases rr with
   |cons r'' rr=>
    cases rr;obtain⟨t,rfl⟩:=r;obtain⟨t',rfl⟩:=r';obtain⟨t'',rfl⟩:=r'';refine call_range_3 ⋯ (Nw I1 q1 q2 q3 q4 q) (.inl ?_);unfold Builtin.divisionGoesByPylong;have e1:decide ((if ((-1)==0)=true then 0 else (-1:Int).natAbs.log2 / 30+1) > 300)=false:=by decide
    simp only[e1,Ez]
end
def afl(K:Ab)(a:db):It where
 go:=λi H=>∃xs x,b9 K H a xs/\xs[i]?=am x
 TR:=λi H v H'=>∃p x,v=.ref p/\H p=ce/\H'=upd H p (.tup [.int i,x])/\∀xs,b9 K H a xs->xs[i]?=am x
 stop:=λi H=>∃xs,b9 K H a xs/\xs.length<=i
theorem Jr{K:Ab}{kk:Nat}{t:db}(vo:e≠it):Turn P w K (.Tuple Í kk pos) (afl K t) [e,it] e (λi h=>(∃Ë,FB h e it (i:Nat) Ë)/\h.IsListIter it t i) where
 mem:=by simp
 obj:=λi h st b hb=>by
  simp at hb;rcases hb with rfl|rfl
  .obtain⟨⟨_,e⟩,_⟩:=st;exact⟨_,e,λv z=>by cases z⟩
  .obtain⟨_,⟨o,e,_,d⟩⟩:=st;exact⟨o,e,λv z=>by rw[d]at z;cases z⟩
 keep:=λi h h' st k=>⟨let ⟨o,e'⟩:=st.1;⟨o,k e (by simp) _ e'⟩,let ⟨o,e',p⟩:=st.2;⟨o,k it (by simp) _ e',p⟩⟩
 item:=by
  intro X hP hw hK hc i U s σ H E I hf st hg;subst hP hw hK;obtain⟨xs,x,hx,gx⟩:=hg;obtain⟨aq,rx,tx,_⟩:=I.list hx;obtain⟨u,gu,ru⟩:=kK rx gx;obtain⟨⟨Ë,hz⟩,hi⟩:=st;refine wpAny_pyNext_enum_item hz hi tx.isList (by simpa using gu) vo λh' zo j np _ k=>?_;refine⟨_,rfl,?_⟩;refine C6 zo λh2 z2 b2=>?_;have le:=Aq hz;have li:=let ⟨_,e',_⟩:=hi;Aq e';have lt:∀b∈[e,it],b<s.heap.objs.size:=λb hb=>by
   simp only[AB,CO,or_false]at hb;rcases hb with rfl|rfl
   .exact le
   .exact li
  have ß:∀b o,b∉[e,it]->s.heap.get? b=am o->h2.get? b=am o:=λb o hb e'=>by
   have RP:b≠e:=λq=>hb (by simp[q]);rw[b2.2 b RP];exact k b o RP (λq=>hb (by simp[q])) e'
  refine⟨.ref s.heap.objs.size,upd H s.heap.objs.size (.tup [.int i,x]),I.n6 hf ß (Al _) ⟨by show 2<=sizeLine;decide,[.int i s.toks,u],.cons ⟨_,rfl⟩ (.cons ru .nil),⟨_,((b2.2 _ (λz=>AI _ (by have:=le;rw[<- z]at this;exact this))).trans np),rfl,_,rfl⟩,_,((b2.2 _ (λz=>AI _ (by have:=le;rw[<- z]at this;exact this))).trans np),rfl⟩,rfl,⟨_,x,rfl,(I.bG.fresh (Al s.heap.objs.size)),rfl,λxs' h'=>by rw[I.um h' hx];exact gx⟩,⟨⟨_,z2⟩,let ⟨o,e',p⟩:=j;⟨o,(b2.2 _ (BE vo)).trans e',p⟩⟩,λb hb=>?_⟩;rw[ak (AH (lt b hb))];exact(hf b hb).1
 done:=by
  intro X hP hw hK hc i U s σ H E I hf st hg;subst hP hw hK;obtain⟨xs,hx,hl⟩:=hg;obtain⟨aq,rx,tx,_⟩:=I.list hx;have el:=rx.length;obtain⟨⟨Ë,hz⟩,hi⟩:=st;refine wpAny_pyNext_enum_end (I.ok.hd hc) hz hi tx.isList (by simp;lia) λh' k=>⟨rfl,I.rZ hf λb o hb e'=>k b o (λz=>hb (by simp[z])) e'⟩
 self:=λA i s Q E st h=>let ⟨_,e'⟩:=st.1;CB e' h
def a7.rel{so:nw}{N:O Str}{sc:nw}(S:a7 so N sc N' ix):a7 (Pv so env) N sc N' ix:=by
 refine⟨S.kind,S.nc,S.loc,λy hy hk=>?_,S.nd,S.len,S.map⟩;unfold Pv;rw[eV];rcases S.fr y hy hk with h|h
 .rw[h];left;rfl
 .rw[h];by_cases c:(env.scope.kind==.function&&env.kindOf y.1==am .cell)=true
  .left;simpa using c
  .right;simp at c ⊢;exact c
end L2
namespace My
def en:Tr->Nat->Nat->Ent
 |.leaf x,_,_=>.word x
 |.node l r,o,j=>if j<l.size then en l o j else if j<l.size+r.size then en r (o+l.size) (j-l.size) else .pair (o+l.size-1) (o+l.size+r.size-1)
def up:Tr->Nat->Nat->O Nat->O Nat
 |.leaf _,o,_,ab=>o::ab
 |.node l r,o,j,ab=>if j<l.size then up l o j ((o+l.size+r.size)::ab) else if j<l.size+r.size then up r (o+l.size) (j-l.size) ((o+l.size+r.size)::ab) else (o+l.size+r.size)::ab
def kF:Tr->Nat->Nat->V->V
 |.leaf _,_,_,p=>p
 |.node l r,o,j,p=>if j<l.size then kF l o j (.int (o+l.size+r.size:Nat)) else if j<l.size+r.size then kF r (o+l.size) (j-l.size) (.int (o+l.size+r.size:Nat)) else p
def be:Tr->Nat->Nat->O Nat
 |.leaf _,o,_=>[o]
 |.node l r,o,j=>if j<l.size then be l o j else if j<l.size+r.size then be r (o+l.size) (j-l.size) else be l o (l.size-1)++be r (o+l.size) (r.size-1)
theorem je:∀(t:Tr) (o j:Nat),j<t.size->(t.nd o)[j]?=am (en t o j)
 |.leaf x,o,j,h=>by
  have:j=0:=by have:j<1:=h;lia
  subst this;rfl
 |.node l r,o,j,h=>by
  have es:(Tr.node l r).size=l.size+r.size+1:=rfl;have hn:(Tr.node l r).nd o=l.nd o++r.nd (o+l.size)++[.pair (o+l.size-1) (o+l.size+r.size-1)]:=rfl;have ln:=l.bL o;have rn:=r.bL (o+l.size);unfold en;by_cases c1:j<l.size
  .rw[if_pos c1,hn,AA,A6 ∅];exact je l o j c1
  .rw[if_neg c1];by_cases c2:j<l.size+r.size
   .rw[if_pos c2,hn,AA,Bg ∅,A6 ∅,ln];exact je r _ _ ∅
   .rw[if_neg c2,hn,Bg (by rw[Ak];lia),Ak,ln,rn];have:j-(l.size+r.size)=0:=by lia
    rw[this];rfl
theorem Tb:∀(t:Tr) (o j:Nat),j<t.size->(∃x,en t o j=.word x/\be t o j=[o+j])\/∃a b,en t o j=.pair (o+a) (o+b)/\a<j/\b<j/\be t o j=be t o a++be t o b
 |.leaf x,o,j,h=>by
  have:j=0:=by have:j<1:=h;lia
  subst this;exact .inl ⟨x,rfl,rfl⟩
 |.node l r,o,j,h=>by
  have es:(Tr.node l r).size=l.size+r.size+1:=rfl;have lp:=l.size_pos;have rp:=r.size_pos;by_cases c1:j<l.size
  .have e1:en (.node l r) o j=en l o j:=by rw[en,if_pos c1]
   have e2:∀k,k<l.size->be (.node l r) o k=be l o k:=λk hk=>by rw[be,if_pos hk]
   rw[e1];rcases Tb l o j c1 with⟨x,q1,q2⟩|⟨a,b,q1,q2,q3,q4⟩
   .exact .inl ⟨x,q1,by rw[e2 j c1];exact q2⟩
   .exact .inr ⟨a,b,q1,q2,q3,by rw[e2 j c1,e2 a ∅,e2 b ∅];exact q4⟩
  .by_cases c2:j<l.size+r.size
   .have e1:en (.node l r) o j=en r (o+l.size) (j-l.size):=by rw[en,if_neg c1,if_pos c2]
    have e2:∀k,k<r.size->be (.node l r) o (l.size+k)=be r (o+l.size) k:=λk hk=>by
     rw[be,if_neg ∅,if_pos ∅];congr 1;lia
    have ej:j=l.size+(j-l.size):=by lia
    rw[e1];rcases Tb r (o+l.size) (j-l.size) ∅ with⟨x,q1,q2⟩|⟨a,b,q1,q2,q3,q4⟩
    .refine .inl ⟨x,q1,?_⟩;rw[ej,e2 _ ∅,q2];congr 1;lia
    .refine .inr ⟨l.size+a,l.size+b,?_,by lia,by lia,?_⟩
     .rw[q1,Bb,Bb]
     .rw[e2 a ∅,e2 b ∅,ej,e2 _ ∅,q4]
   .have ej:j=l.size+r.size:=by lia
    refine .inr ⟨l.size-1,l.size+r.size-1,?_,by lia,by lia,?_⟩
    .rw[en,if_neg c1,if_neg c2];congr 1<;>lia
    .rw[be,if_neg c1,if_neg c2,be,if_pos ∅,be,if_neg ∅,if_pos ∅];congr 2;lia
theorem tq:∀(t:Tr) (o j:Nat) (p:V) (ab:O Nat),j<t.size->(j=t.size-1/\kF t o j p=p/\up t o j ab=(o+j)::ab)\/∃a,j<a/\a<t.size/\kF t o j p=.int (o+a:Nat)/\up t o j ab=(o+j)::up t o a ab
 |.leaf x,o,j,p,ab,h=>by
  have:j=0:=by have:j<1:=h;lia
  subst this;exact .inl ⟨rfl,rfl,rfl⟩
 |.node l r,o,j,p,ab,h=>by
  have es:(Tr.node l r).size=l.size+r.size+1:=rfl;have lp:=l.size_pos;have rp:=r.size_pos;have er:up (.node l r) o (l.size+r.size) ab=(o+l.size+r.size)::ab:=by rw[up,if_neg ∅,if_neg ∅]
  by_cases c1:j<l.size
  .have e1:kF (.node l r) o j p=kF l o j (.int (o+l.size+r.size:Nat)):=by rw[kF,if_pos c1]
   have e2:∀k,k<l.size->up (.node l r) o k ab=up l o k ((o+l.size+r.size)::ab):=λk hk=>by rw[up,if_pos hk]
   rw[e1,e2 j c1];rcases tq l o j (.int (o+l.size+r.size:Nat)) ((o+l.size+r.size)::ab) c1 with⟨q1,q2,q3⟩|⟨a,q1,q2,q3,q4⟩
   .refine .inr ⟨l.size+r.size,by lia,by lia,by rw[q2,Bb],by rw[q3,er]⟩
   .exact .inr ⟨a,q1,by lia,q3,by rw[q4,e2 a q2]⟩
  .by_cases c2:j<l.size+r.size
   .have e1:kF (.node l r) o j p=kF r (o+l.size) (j-l.size) (.int (o+l.size+r.size:Nat)):=by rw[kF,if_neg c1,if_pos c2]
    have e2:∀k,k<r.size->up (.node l r) o (l.size+k) ab=up r (o+l.size) k ((o+l.size+r.size)::ab):=λk hk=>by
     rw[up,if_neg ∅,if_pos ∅];congr 1;lia
    obtain⟨i,rfl⟩:∃i,j=l.size+i:=⟨j-l.size,by lia⟩;have ei:l.size+i-l.size=i:=by lia
    rw[e1,e2 i ∅,ei];rcases tq r (o+l.size) i (.int (o+l.size+r.size:Nat)) ((o+l.size+r.size)::ab) ∅ with⟨q1,q2,q3⟩|⟨a,q1,q2,q3,q4⟩
    .refine .inr ⟨l.size+r.size,by lia,by lia,by rw[q2,Bb],by rw[q3,er,Bb]⟩
    .exact .inr ⟨l.size+a,by lia,by lia,by rw[q3,Bb],by rw[q4,e2 a q2,Bb]⟩
   .have ej:j=l.size+r.size:=by lia
    refine .inl ⟨by lia,by rw[kF,if_neg c1,if_neg c2],?_⟩;rw[ej,er,Bb]
def mZ:Tr->Nat->V->O V
 |.leaf _,_,p=>[p]
 |.node l r,o,p=>mZ l o (.int (o+l.size+r.size:Nat))++mZ r (o+l.size) (.int (o+l.size+r.size:Nat))++[p]
theorem j9:∀(t:Tr) (o:Nat) (p:V),(mZ t o p).length=t.size
 |.leaf _,_,_=>rfl
 |.node l r,o,p=>by
  unfold mZ;rw[Ak,Ak,j9 l,j9 r];rfl
theorem M0(t:Tr)(o:Nat)(p q:V)(A B:O V):(A++mZ t o p++B).set (A.length+t.size-1) q=A++mZ t o q++B:=by
 have key:∃I,mZ t o p=I++[p]/\mZ t o q=I++[q]:=by
  cases t with
  |leaf _=>exact⟨[],rfl,rfl⟩
  |node l r=>exact⟨_,rfl,rfl⟩
 obtain⟨I,e1,e2⟩:=key;have h1:=j9 t o p;rw[e1,Ak]at h1;have gw:I.length+1=t.size:=h1;rw[e1,e2];have ei:A.length+t.size-1=(A++I).length:=by rw[Ak];lia
 rw[ei,show A++(I++[p])++B=(A++I)++p::B by simp,List.set_append_right _ _ (Al _),F5];simp
theorem Te:∀(es fs:O Ent) (i:Nat) (l:O V),ah (es++fs) i l=ah fs (i+es.length) (ah es i l)
 |[],fs,i,l=>rfl
 |e::es,fs,i,l=>by
  show ah (es++fs) (i+1) (Tf l i e)=ah fs (i+(es.length+1)) (ah es (i+1) (Tf l i e));rw[Te es fs];congr 1;lia
theorem Lr:∀(t:Tr) (A B:O V),ah (t.nd A.length) A.length (A++Ap t.size .aO++B)=A++mZ t A.length .aO++B
 |.leaf x,A,B=>rfl
 |.node l r,A,B=>by
  have es:(Tr.node l r).size=l.size+r.size+1:=rfl;have hn:(Tr.node l r).nd A.length=l.nd A.length++r.nd (A.length+l.size)++[.pair (A.length+l.size-1) (A.length+l.size+r.size-1)]:=rfl;have ln:=l.bL A.length;have h1:=Lr l A (Ap r.size .aO++([V.aO]++B));have e0:A++Ap (Tr.node l r).size V.aO++B=A++Ap l.size .aO++(Ap r.size .aO++([V.aO]++B)):=by
   rw[es,<- DL,<- DL];simp only[AA];rfl
  rw[hn,z9,Te,e0,h1,ln];have la:(A++mZ l A.length V.aO).length=A.length+l.size:=by rw[Ak,j9]
  have h2:=Lr r (A++mZ l A.length V.aO) ([V.aO]++B);rw[la]at h2;have e1:A++mZ l A.length V.aO++(Ap r.size V.aO++([V.aO]++B))=A++mZ l A.length V.aO++Ap r.size V.aO++([V.aO]++B):=by simp[AA]
  rw[e1,h2,Ak,ln,(r.bL (A.length+l.size))];show((_:O V).set (A.length+l.size-1) _).set (A.length+l.size+r.size-1) _=_;have e2:A++mZ l A.length V.aO++mZ r (A.length+l.size) V.aO++([V.aO]++B)=A++mZ l A.length V.aO++(mZ r (A.length+l.size) V.aO++([V.aO]++B)):=by simp[AA]
  rw[e2,(M0 l A.length .aO (.int (A.length+(l.size+r.size):Nat)) A (mZ r (A.length+l.size) V.aO++([V.aO]++B)))];have lb:(A++mZ l A.length (V.int (A.length+(l.size+r.size):Nat))).length=A.length+l.size:=by rw[Ak,j9]
  have s2:=M0 r (A.length+l.size) .aO (.int (A.length+(l.size+r.size):Nat)) (A++mZ l A.length (V.int (A.length+(l.size+r.size):Nat))) ([V.aO]++B);rw[lb]at s2;have e3:A++mZ l A.length (V.int (A.length+(l.size+r.size):Nat))++(mZ r (A.length+l.size) V.aO++([V.aO]++B))=A++mZ l A.length (V.int (A.length+(l.size+r.size):Nat))++mZ r (A.length+l.size) V.aO++([V.aO]++B):=by simp[AA]
  rw[e3,s2];have e4:mZ (.node l r) A.length .aO=mZ l A.length (.int (A.length+l.size+r.size:Nat))++mZ r (A.length+l.size) (.int (A.length+l.size+r.size:Nat))++[.aO]:=rfl;rw[e4,Bb A.length l.size r.size];simp[AA]
theorem zY:∀(t:Tr) (o j:Nat) (p:V),j<t.size->(mZ t o p)[j]?=am (kF t o j p)
 |.leaf x,o,j,p,h=>by
  have:j=0:=by have:j<1:=h;lia
  subst this;rfl
 |.node l r,o,j,p,h=>by
  have es:(Tr.node l r).size=l.size+r.size+1:=rfl;have ln:=j9 l o (.int (o+l.size+r.size:Nat));have rn:=j9 r (o+l.size) (.int (o+l.size+r.size:Nat));unfold mZ kF;by_cases c1:j<l.size
  .rw[if_pos c1,AA,A6 ∅];exact zY l _ _ _ c1
  .rw[if_neg c1];by_cases c2:j<l.size+r.size
   .rw[if_pos c2,AA,Bg ∅,A6 ∅,ln];exact zY r _ _ _ ∅
   .rw[if_neg c2,Bg (by rw[Ak];lia),Ak,ln,rn];have:j-(l.size+r.size)=0:=by lia
    rw[this];rfl
def abu(t:Tr)(h:j<t.size):(ah (t.nd 0) 0 (Ap t.size .aO))[j]?=am (kF t 0 j .aO):=by
 have q:=Lr t [] [];have e:([]:O V)++Ap t.size .aO++[]=Ap t.size .aO:=by simp
 have e2:([]:O V)++mZ t ([]:O V).length .aO++[]=mZ t 0 .aO:=by simp
 rw[e,e2]at q;have q':ah (t.nd 0) 0 (Ap t.size .aO)=mZ t 0 .aO:=q;rw[q'];exact zY t 0 j .aO h
end My
variable{H1:L2.Hp}{ι:O Bq}
namespace PL
section
variable{K:Ab}
def Jj(K:Ab)(H:Hp)(a:db)(xs:O V):Prop:=(∃o,H a=am (.cn o (.lst xs)))\/
  ∃(o:Obj) (aq:Array ci) (n:Nat),K.lookup a=am o/\o.cls=.type "list"/\o.dict=ce/\o.data=.seq aq n/\aq.size<=sizeLine/\Vals xs aq.toList
def Jj.sq(h:Jj K H a xs):b9 K H a xs:=h.elim (λh=>.inl (.inr h)) .inr
def Ja(b:db)(h:pc):Prop:=∃(ns:O Int) (aq:O ci) (n:Nat),ns.length<=sizeLine/\Vals (ns.map V.int) aq/\h.get? b=am {cls:=.type "list",data:=.seq aq.toArray n}
def dW(H:Hp)(b:db):Prop:=H b=am (.ext (Ja b))
def xk(h:∀p φ,H p=am (.ext φ)->H' p=am (.ext φ)):∀b,dW H b->dW H' b:=λ_ e=>h _ _ e
structure bz(K:Ab)(H H':Hp):Prop where
 t:∀p vs,H p=am (.tup vs)->H' p=am (.tup vs)
 z:∀p o u,H p=am (.cn o u)->H' p=am (.cn o u)
 x:∀b,dW H b->dW H' b
def bz.f{H H':Hp}(t:bz K H H')(p:db)(vs:O V)(h:Jj K H p vs):Jj K H' p vs:=h.elim (λ⟨o,h⟩=>.inl ⟨o,t.z _ _ _ h⟩) .inr
def bz.refl(H:Hp):bz K H H:=⟨λ_ _ h=>h,λ_ _ _ h=>h,λ_ h=>h⟩
def bz.trans(a:bz K H H1)(b:bz K H1 H2):bz K H H2:=⟨λp vs h=>b.t p vs (a.t p vs h),λp o w h=>b.z p o w (a.z p o w h),λp h=>b.x p (a.x p h)⟩
def _root_.L2.jy.eL(s:jy H H'):bz K H H':=⟨λp vs h=>s _ _ h,λp o u h=>s _ _ h,xk λp φ h=>s _ _ h⟩
inductive PV where
 |aO|bl (b:Bool)|int (i:Int)|str (x:Str)|tup (l:List PV)|ref (n:Nat)|ty (n:String)|cl (l:List PV)|dv (ks vs:List PV)|ob (ns:List Str) (l:List PV)|hand
def kP:Key->PV
 |.inl i=>.int i
 |.inr x=>.str x
inductive PO where
 |lst (xs:List PV)|dk (au:List (Key×PV))|dt (au:List (List Key×PV))|opq (φ:List V->Prop)
abbrev PH:=O PO
abbrev GA:=O (Option PV)
mutual
inductive VR(K:Ab)(ι:List db)(H:Hp):V->PV->Prop
 |aO:VR K ι H .aO .aO
 |bl (b:Bool):VR K ι H (.bl b) (.bl b)
 |int (i:Int):VR K ι H (.int i) (.int i)
 |str (x:Str):VR K ι H (.str x) (.str x)
 |ty (n:String):VR K ι H (.ty n) (.ty n)
 |tup {p:db}{vs:List V}{l:List PV} (h:H p=am (.tup vs)) (r:aF K ι H vs l):VR K ι H (.ref p) (.tup l)
 |ref {n:Nat}{a:db} (h:ι[n]?=am a):VR K ι H (.ref a) (.ref n)
 |cl {a:db}{vs:List V}{l:List PV} (h:Jj K H a vs) (r:aF K ι H vs l):VR K ι H (.ref a) (.cl l)
 |dk {a:db}{o:Obj}{au:List (Key×V)}{ks l:List PV} (h:H a=am (.cn o (.dK au))) (e:ks=au.map λkv=>kP kv.1) (r:aF K ι H (au.map (·.2)) l):VR K ι H (.ref a) (.dv ks l)
 |dt {a:db}{o:Obj}{au:List (List Key×V)}{ks l:List PV} (h:H a=am (.cn o (.dT au))) (e:ks=au.map λkv=>.tup (kv.1.map kP)) (r:aF K ι H (au.map (·.2)) l):VR K ι H (.ref a) (.dv ks l)
 |ob {a C dx:db}{o:Obj}{fs:List (Str×V)}{ns:List Str}{l:List PV} (h:H a=am (.cn o (.ins C dx fs))) (c:Cls K C) (na:∀f∈ns,Tn K C f) (e:ns=fs.map (·.1)) (r:aF K ι H (fs.map (·.2)) l):VR K ι H (.ref a) (.ob ns l)
 |hand {a:db} (h:dW H a):VR K ι H (.ref a) .hand
inductive aF(K:Ab)(ι:List db)(H:Hp):List V->List PV->Prop
 |nil:aF K ι H [] []
 |cons {v:V}{p:PV}{vs:List V}{ps:List PV} (r:VR K ι H v p) (t:aF K ι H vs ps):aF K ι H (v::vs) (p::ps)
end
section
variable{ι':O db}
mutual
theorem VR.mono(ht:bz K H H')(hi:∀(n:Nat) (a:db),ι[n]?=am a->ι'[n]?=am a):∀{v:V}{p:PV},VR K ι H v p->VR K ι' H' v p
 |_,_,.aO=>.aO
 |_,_,.bl b=>.bl b
 |_,_,.int i=>.int i
 |_,_,.str x=>.str x
 |_,_,.ty n=>.ty n
 |_,_,.tup h r=>.tup (ht.t _ _ h) (aF.mono ht hi r)
 |_,_,.cl h r=>.cl (ht.f _ _ h) (aF.mono ht hi r)
 |_,_,.dk h e r=>.dk (ht.z _ _ _ h) e (aF.mono ht hi r)
 |_,_,.dt h e r=>.dt (ht.z _ _ _ h) e (aF.mono ht hi r)
 |_,_,.ob h c na e r=>.ob (ht.z _ _ _ h) c na e (aF.mono ht hi r)
 |_,_,.ref h=>.ref (hi _ _ h)
 |_,_,.hand h=>.hand (ht.x _ h)
theorem aF.mono(ht:bz K H H')(hi:∀(n:Nat) (a:db),ι[n]?=am a->ι'[n]?=am a):∀{vs:O V}{ps:O PV},aF K ι H vs ps->aF K ι' H' vs ps
 |_,_,.nil=>.nil
 |_,_,.cons r t=>.cons (VR.mono ht hi r) (aF.mono ht hi t)
end
theorem aF.length:∀{vs:O V}{ps:O PV},aF K ι H vs ps->vs.length=ps.length
 |_,_,.nil=>rfl
 |_,_,.cons _ t=>by rw[Au,Au,aF.length t]
theorem aF.get:∀{vs:O V}{ps:O PV}{i:Nat}{p:PV},aF K ι H vs ps->ps[i]?=am p->∃v,vs[i]?=am v/\VR K ι H v p
 |_,_,_,_,.nil,e=>by simp at e
 |_,_,0,_,.cons r _,e=>by simp at e;subst e;exact⟨_,rfl,r⟩
 |_,_,i+1,p,.cons _ t,e=>by
  obtain⟨v,h1,h2⟩:=aF.get t (by simpa using e);exact⟨v,by simpa using h1,h2⟩
theorem aF.aex:∀{vs:O V}{ps:O PV}{i:Nat}{v:V},aF K ι H vs ps->vs[i]?=am v->∃p,ps[i]?=am p/\VR K ι H v p
 |_,_,_,_,.nil,e=>by simp at e
 |_,_,0,_,.cons r _,e=>by simp at e;subst e;exact⟨_,rfl,r⟩
 |_,_,i+1,p,.cons _ t,e=>by
  obtain⟨v,h1,h2⟩:=aF.aex t (by simpa using e);exact⟨v,by simpa using h1,h2⟩
theorem aF.set{p:PV}(r:VR K ι H v p):∀{vs:O V}{ps:O PV} (i:Nat),aF K ι H vs ps->aF K ι H (vs.set i v) (ps.set i p)
 |_,_,_,.nil=>.nil
 |_,_,0,.cons _ t=>.cons r t
 |_,_,i+1,.cons q t=>.cons q (aF.set r i t)
theorem aF.append:∀{xs ys:O V}{us ws:O PV},aF K ι H xs us->aF K ι H ys ws->aF K ι H (xs++ys) (us++ws)
 |_,_,_,_,.nil,s=>s
 |_,_,_,_,.cons r t,s=>.cons r (aF.append t s)
theorem aF.take:∀{xs:O V}{us:O PV} (n:Nat),aF K ι H xs us->aF K ι H (xs.take n) (us.take n)
 |_,_,0,_=>.nil
 |_,_,_+1,.nil=>.nil
 |_,_,n+1,.cons r t=>.cons r (aF.take n t)
theorem aF.drop:∀{xs:O V}{us:O PV} (n:Nat),aF K ι H xs us->aF K ι H (xs.drop n) (us.drop n)
 |_,_,0,r=>r
 |_,_,_+1,.nil=>.nil
 |_,_,n+1,.cons _ t=>aF.drop n t
theorem aF.reverse:∀{xs:O V}{us:O PV},aF K ι H xs us->aF K ι H xs.reverse us.reverse
 |_,_,.nil=>.nil
 |_,_,.cons r t=>by rw[DK,DK];exact(aF.reverse t).append (.cons r .nil)
def aF.one{p:PV}(r:VR K ι H v p):aF K ι H [v] [p]:=.cons r .nil
end
structure Go(ι ι':List db)(H H':Hp):Prop where
 ext:∃m,ι'=ι++m
 new:∀a,a∈ι'->a∉ι->H a=ce
 keep:∀a o,a∉ι->H a=am o->H' a=am o
def Go.refl(ι:O db)(H:Hp):Go ι ι H H:=⟨⟨[],by simp⟩,λa h n=>absurd h n,λ_ _ _ h=>h⟩
def OR(K:Ab)(ι:O db)(H:Hp)(a:db):PO->Prop
 |.lst xs=>∃vs,H a=am (.lst vs)/\aF K ι H vs xs
 |.dk au=>∃vs:O (Key×V),H a=am (.dK vs)/\vs.map (·.1)=au.map (·.1)/\aF K ι H (vs.map (·.2)) (au.map (·.2))
 |.dt au=>∃vs:O (O Key×V),H a=am (.dT vs)/\vs.map (·.1)=au.map (·.1)/\aF K ι H (vs.map (·.2)) (au.map (·.2))
 |.opq φ=>∃vs,H a=am (.lst vs)/\φ vs
structure HR(K:Ab)(ι:List db)(H:Hp)(h:PH):Prop where
 nd:ι.Nodup
 len:ι.length=h.length
 obj:∀(n:Nat) (a:db) (o:PO),ι[n]?=am a->h[n]?=am o->OR K ι H a o
end
end PL
variable{a e:BC}
namespace PL
section
variable{K:Ab}
abbrev QV:=PV->PH->Prop
structure ME where
 run:GA->PH->QV->Prop
 mono:∀{ps h}{Q Q':QV},(∀v h',Q v h'->Q' v h')->run ps h Q->run ps h Q'
structure MT where
 run:GA->PH->(Bool->PH->Prop)->Prop
 mono:∀{ps h}{Q Q':Bool->PH->Prop},(∀v h',Q v h'->Q' v h')->run ps h Q->run ps h Q'
structure MA where
 run:GA->PH->(List PV->PH->Prop)->Prop
 mono:∀{ps h}{Q Q':List PV->PH->Prop},(∀v h',Q v h'->Q' v h')->run ps h Q->run ps h Q'
structure ML where
 run:GA->PH->(List PV->PH->Prop)->Prop
 mono:∀{ps h}{Q Q':List PV->PH->Prop},(∀v h',Q v h'->Q' v h')->run ps h Q->run ps h Q'
structure Src where
 items:List PV
 ok:PH->Prop
 fz:Bool
structure MI where
 run:GA->PH->(Src->PH->Prop)->Prop
 mono:∀{ps h}{Q Q':Src->PH->Prop},(∀v h',Q v h'->Q' v h')->run ps h Q->run ps h Q'
structure PD where
 nx:GA->PH->Prop
 rt:QV
 bk:GA->PH->Prop
 ct:GA->PH->Prop
structure PD.Le(D D':PD):Prop where
 nx:∀ps h,D.nx ps h->D'.nx ps h
 rt:∀v h,D.rt v h->D'.rt v h
 bk:∀ps h,D.bk ps h->D'.bk ps h
 ct:∀ps h,D.ct ps h->D'.ct ps h
structure MS where
 run:PD->GA->PH->Prop
 mono:∀{D D' ps h},PD.Le D D'->run D ps h->run D' ps h
structure MG where
 run:PV->GA->PH->(GA->PH->Prop)->Prop
 mono:∀{v ps h}{Q Q':GA->PH->Prop},(∀ps h,Q ps h->Q' ps h)->run v ps h Q->run v ps h Q'
def pQ(K:Ab)(ι:O db)(H:Hp)(Q:VK):QV:=λp h'=>∀ι' v H',Go ι ι' H H'->HR K ι' H' h'->VR K ι' H' v p->Q v H'
def PE.imp{t t':TE}(h:PE X e t)(f:∀σ H Q,t' σ H Q->t σ H Q):PE X e t':=λU s σ H Q I q=>h U s σ H Q I (f _ _ _ q)
def PT.imp{t t':TT}(h:PT X e t)(f:∀σ H Q,t' σ H Q->t σ H Q):PT X e t':=λU s σ H Q I q=>h U s σ H Q I (f _ _ _ q)
def PW.imp{t t':TT}(h:PW X e t)(f:∀σ H Q,t' σ H Q->t σ H Q):PW X e t':=λw U s σ H Q I q=>h w U s σ H Q I (f _ _ _ q)
def PA.imp{e:O mo}{t t':TA}(h:PA X e t)(f:∀σ H Q,t' σ H Q->t σ H Q):PA X e t':=λpos U s σ H Q I q=>h pos U s σ H Q I (f _ _ _ q)
def PS.imp{e:ut}{t t':TS}(h:PS X e t)(f:∀D σ H,t' D σ H->t D σ H):PS X e t':=λU s σ H D I q=>h U s σ H D I (f _ _ _ q)
def pO.imp{e:O ut}{t t':TS}(h:pO X e t)(f:∀D σ H,t' D σ H->t D σ H):pO X e t':=λU s σ H D I q=>h U s σ H D I (f _ _ _ q)
def PG.imp{t t':TG}(h:PG X e t)(f:∀v σ H Q,t' v σ H Q->t v σ H Q):PG X e t':=λU s σ H v u Q I r q=>h U s σ H v u Q I r (f _ _ _ _ q)
def PI.imp{t t':TI}(h:PI X tg e t)(f:∀σ H Q,t' σ H Q->t σ H Q):PI X tg e t':=λU s σ H R I q=>h U s σ H R I (f _ _ _ q)
section
abbrev P2:=PV->PV->PH->QV->Prop
structure M2 where
 f:P2
 mono:∀{x y h}{Q Q':QV},(∀v h',Q v h'->Q' v h')->f x y h Q->f x y h Q'
def M2.Ok(K:Ab)(r:R2)(m:M2):Prop:=∀{ι H h u v x y Q},HR K ι H h->VR K ι H u x->VR K ι H v y->m.f x y h (pQ K ι H Q)->r u v H Q
end
end
section
variable{K:Ab}
section
def k8:∀{vs:O V}{l:O PV},aF K ι H vs l->(!l.isEmpty)=!vs.isEmpty
 |_,_,.nil=>rfl
 |_,_,.cons _ _=>rfl
structure MQ where
 run:GA->PH->(Src->PH->Prop)->Prop
 mono:∀{ps h}{Q Q':Src->PH->Prop},(∀v h',Q v h'->Q' v h')->run ps h Q->run ps h Q'
end
end
section
structure MGs where
 run:List PV->GA->PH->(GA->PH->Prop)->Prop
 mono:∀{v ps h}{Q Q':GA->PH->Prop},(∀ps h,Q ps h->Q' ps h)->run v ps h Q->run v ps h Q'
end
section
variable{K:Ab}
section
structure M7 where
 f:List PV->PH->QV->Prop
 mono:∀{l h}{Q Q':QV},(∀v h',Q v h'->Q' v h')->f l h Q->f l h Q'
def M7.Ok(K:Ab)(r:O V->Hp->VK->Prop)(m:M7):Prop:=∀{ι H h vs l Q},HR K ι H h->aF K ι H vs l->m.f l h (pQ K ι H Q)->r vs H Q
end
end
end PL
variable{g':Int->Int->L2.V}{g:Int->Int->PL.PV}
namespace PL
section
variable{K:Ab}
def aI(g:Int->Int->PV):M2:=⟨λx y h Q=>match x,y with|.int i,.int j=>Q (g i j) h|_,_=>False,λf q=>by
 revert q
 split
 .exact f _ _
 .exact λz=>z⟩
def aIc(C:Int->Int->Prop)(g:Int->Int->PV):M2:=⟨λx y h Q=>match x,y with|.int i,.int j=>C i j/\Q (g i j) h|_,_=>False,λf q=>by
 revert q
 split
 .exact λq=>⟨q.1,f _ _ q.2⟩
 .exact λz=>z⟩
def IP(hg:∀ι H i j,VR K ι H (g' i j) (g i j)):M2.Ok K (UK g') (aI g):=by
 intro ι H h u v x y Q hr hu hv q;unfold aI at q;dsimp only at q;revert q
 split
 .intro q;cases hu;cases hv;exact⟨_,_,rfl,rfl,q ι _ H (Go.refl _ _) hr (hg _ _ _ _)⟩
 .exact BZ
def Fl{C:Int->Int->Prop}(hg:∀ι H i j,VR K ι H (g' i j) (g i j)):M2.Ok K (rI C g') (aIc C g):=by
 intro ι H h u v x y Q hr hu hv q;unfold aIc at q;dsimp only at q;revert q
 split
 .intro q;cases hu;cases hv;exact⟨_,_,rfl,rfl,q.1,q.2 ι _ H (Go.refl _ _) hr (hg _ _ _ _)⟩
 .exact BZ
def vG:=aI λi j=>.int (i-j)
def Q5:=aIc wP λi j=>.int (i*j)
def oDiv:=aIc W6 λi j=>.int (i / j)
def oMod:=aIc (λ_ j=>0<j) λi j=>.int (i % j)
def Q3:=aIc O3 λi j=>.int (i ^ j.toNat)
def oLt:=aI λi j=>.bl (decide (i<j))
def oLe:=aI λi j=>.bl (decide (i<=j))
def ZN:=aI λi j=>.bl (decide (j<i))
def oGe:=aI λi j=>.bl (decide (j<=i))
section
def aF.jF:∀{vs:O V}{l:O PV},aF K ι H vs l->(vs=[]↔l=[])
 |_,_,.nil=>by simp
 |_,_,.cons _ _=>by simp
end
mutual
def PV.dat:PV->Bool
 |.tup l=>Wy l
 |.ref _=>false
 |.ty _=>false
 |.cl _=>false
 |.dv _ _=>false
 |.ob _ _=>false
 |.hand=>false
 |_=>true
def Wy:O PV->Bool
 |[]=>true
 |x::l=>x.dat&&Wy l
end
end
section
variable{K:Ab}
section
def PV.mU:PV->Bool
 |.aO=>true
 |_=>false
def Q6:M2:=⟨λx y h Q=>match y with|.aO=>Q (.bl x.mU) h|_=>False,λf q=>by
 revert q
 split
 .exact f _ _
 .exact λz=>z⟩
def Hn:M2:=⟨λx y h Q=>match y with|.aO=>Q (.bl (!x.mU)) h|_=>False,λf q=>by
 revert q
 split
 .exact f _ _
 .exact λz=>z⟩
def xr{x:PV}(h:VR K ι H v x):decide (v=.aO)=x.mU:=by cases h<;>simp[PV.mU]
def Vf:M2.Ok K (λx y H Q=>y=.aO/\Q (.bl (decide (x=.aO))) H) Q6:=by
 intro ι H h u v x y Q hr hu hv q;cases hv with
 |aO=>exact⟨rfl,q ι _ H (Go.refl _ _) hr (by rw[xr hu];exact .bl _)⟩
 |_=>exact q.elim
def Q4:M2.Ok K (λx y H Q=>y=.aO/\Q (.bl (!decide (x=.aO))) H) Hn:=by
 intro ι H h u v x y Q hr hu hv q;cases hv with
 |aO=>exact⟨rfl,q ι _ H (Go.refl _ _) hr (by rw[xr hu];exact .bl _)⟩
 |_=>exact q.elim
end
end
section
variable{K:Ab}
section
def Qn{v':V}{w:ci}(h:RelV v w)(h':RelV v' w):v=v':=Option.some.inj (h.abs.symm.trans h'.abs)
end
section
variable{c:mo}
def mIx(a:MQ)(b:ME):ME:=⟨λps h Q=>a.run ps h λS h1=>b.run ps h1 λy h2=>match y with
 |.int k=>S.ok h2/\match cR S.items k with|some v=>Q v h2|none=>False
 |_=>False,λf q=>a.mono (λ_ _ q=>b.mono (λ_ _ q=>by
  revert q
  split
  .rintro⟨q0,q⟩;refine⟨q0,?_⟩;revert q
   split
   .exact f _ _
   .exact λz=>z
  .exact λz=>z) q) q⟩
def aF.cR{l:O PV}(r:aF K ι H vs l){k:Int}{p:PV}(e:L2.cR l k=am p):∃v,L2.cR vs k=am v/\VR K ι H v p:=by
 unfold L2.cR at e ⊢;rw[r.length];cases z:ux l.length k with
 |none=>rw[z]at e;cases e
 |some j=>
  rw[z]at e;exact r.get e
def ala:M2:=⟨λx y h Q=>match x,y with
 |.str z,.int k=>z.length<=sizeLine/\match L2.cR z.cps.toList k with|some c=>Q (.str ⟨#[c]⟩) h|none=>False
 |_,_=>False,λf q=>by
  revert q
  split
  .rintro⟨q0,q⟩;refine⟨q0,?_⟩;revert q
   split
   .exact f _ _
   .exact λz=>z
  .exact λz=>z⟩
def cO:M7:=⟨λl h Q=>match l with
 |[.str y]=>y.length<=sizeLine/\Q (.int y.length) h
 |[.tup l]=>Q (.int l.length) h
 |[.cl l]=>Q (.int l.length) h
 |[.ref n]=>match h[n]? with
  |some (.lst xs)=>Q (.int xs.length) h
  |_=>False
 |_=>False,λf q=>by
  revert q
  split
  .exact λq=>⟨q.1,f _ _ q.2⟩
  .exact f _ _
  .exact f _ _
  .split
   .exact f _ _
   .exact λz=>z
  .exact λz=>z⟩
def WK(K:Ab):M7.Ok K (Zo K) cO:=by
 intro ι H h vs l Q hr hv q;unfold cO at q;dsimp only at q;revert q
 split
 .intro q;cases hv with
  |cons x t=>cases t;cases x;exact⟨_,_,rfl,⟨q.1,rfl⟩,q.2 ι _ H (Go.refl _ _) hr (.int _)⟩
 .intro q;cases hv with
  |cons x t=>
   cases t;cases x with
   |tup e r=>exact⟨_,_,rfl,.inr ⟨_,dU.of e,r.length.symm⟩,q ι _ H (Go.refl _ _) hr (.int _)⟩
 .intro q;cases hv with
  |cons x t=>
   cases t;cases x with
   |cl e r=>exact⟨_,_,rfl,.inl ⟨_,e.sq,r.length.symm⟩,q ι _ H (Go.refl _ _) hr (.int _)⟩
 .rename_i n;cases hv with
  |cons x t=>
   cases t;cases x with
   | @ref _ a e=>
   split
   .rename_i xs hn;intro q;obtain⟨ws,e1,e2⟩:=hr.obj n a _ e hn;exact⟨_,_,rfl,.inl ⟨ws,b9.of e1,e2.length.symm⟩,q ι _ H (Go.refl _ _) hr (.int _)⟩
   .exact BZ
 .exact BZ
inductive Kd where
 |str|tup|int|bool
def Kd.name:Kd->String
 |.str=>"str" | .tup=>"tuple" | .int=>"int" | .bool=>"bool"
def Kd.is:Kd->PV->Bool
 |.str,.str _=>true
 |.tup,.tup _=>true
 |.int,.int _=>true
 |.int,.bl _=>true
 |.bool,.bl _=>true
 |_,_=>false
def adh(K:Ab):O V->Hp->VK->Prop:=λxs H Q=>∃x c t b,xs=[x,.ty c]/\(mG K H x t\/(t=.type "tuple"/\∃a vs,x=.ref a/\dU K H a vs))/\BG K t (.type c)=am b/\Q (.bl b) H
def OP(K:Ab)(hK:X.K=K):cB X (.builtin "isinstance") (adh K):=by
 subst hK;intro U s σ H xs us Q I r h;obtain⟨x,c,t,b,rfl,ty|⟨rfl,a,vs,rfl,hT⟩,e,q⟩:=h
 .exact q9 U s σ H _ us Q I r ⟨x,c,t,b,rfl,ty,e,q⟩
 .obtain⟨u,w,rfl,r1,r2⟩:=vals2 r;cases r1;cases r2;obtain⟨aq,_,⟨o,h1,h2,_⟩,_⟩:=I.tuple hT;exact Bj FW I.xo ⟨o,h1,h2⟩ e (λz=>nomatch z) λtk=>⟨.bl b,H,I.tok _,rfl,q⟩
def sJ(K:Ab):(∀k:Kd,BG K (.type "NoneType") (.type k.name)=am false)/\(∀k:Kd,BG K (.type "list") (.type k.name)=am false)/\(∀k:Kd,BG K (.type "dict") (.type k.name)=am false):=
 ⟨λk=>by cases k<;>kernel_rfl,λk=>by cases k<;>kernel_rfl,λk=>by cases k<;>kernel_rfl⟩
def aae(K:Ab)(b:Bool)(k:Kd):BG K (.type "bool") (.type k.name)=am (k.is (.bl b)):=by cases k <;> kernel_rfl
def VE(K:Ab)(b:Int)(k:Kd):BG K (.type "int") (.type k.name)=am (k.is (.int b)):=by cases k <;> kernel_rfl
def VD(K:Ab)(b:Str)(k:Kd):BG K (.type "str") (.type k.name)=am (k.is (.str b)):=by cases k <;> kernel_rfl
def VC(K:Ab)(b:O PV)(k:Kd):BG K (.type "tuple") (.type k.name)=am (k.is (.tup b)):=by cases k <;> kernel_rfl
def OW:M7:=⟨λl h Q=>match l with|[.int i]=>Q (.int i) h|[.bl k]=>Q (.int (if k then 1 else 0)) h|_=>False,λf q=>by
 revert q
 split
 .exact f _ _
 .exact f _ _
 .exact λz=>z⟩
def WM:M7.Ok K (λxs H Q=>(∃i,xs=[.int i]/\Q (.int i) H)\/∃k,xs=[.bl k]/\Q (.int (if k then 1 else 0)) H) OW:=by
 intro ι H h vs l Q hr hv q;unfold OW at q;dsimp only at q;revert q
 split
 .intro q;cases hv with
  |cons x t=>cases t;cases x;exact .inl ⟨_,rfl,q ι _ H (Go.refl _ _) hr (.int _)⟩
 .intro q;cases hv with
  |cons x t=>cases t;cases x;exact .inr ⟨_,rfl,q ι _ H (Go.refl _ _) hr (.int _)⟩
 .exact BZ
end
end
section
variable{K:Ab}
section
def Qq(K:Ab):O V->Hp->VK->Prop:=λxs H Q=>∃p ys,xs=[.ref p]/\((b9 K H p ys/\jG H (.tup ys) Q)\/(dU K H p ys/\Q (.ref p) H))
def OM(K:Ab)(hK:X.K=K):cB X (.type "tuple") (Qq K):=by
 subst hK;exact wu.mono λxs H Q ⟨p,ys,e,h⟩=>⟨p,ys,e,h.imp (λ⟨h1,h2⟩=>⟨h1,λl hl=>h2.at l hl⟩) λz=>z⟩
structure MQL where
 run:GA->PH->(Src->PH->Prop)->Prop
 mono:∀{ps h}{Q Q':Src->PH->Prop},(∀v h',Q v h'->Q' v h')->run ps h Q->run ps h Q'
structure MO where
 run:GA->PH->(Option Int->PH->Prop)->Prop
 mono:∀{ps h}{Q Q':Option Int->PH->Prop},(∀v h',Q v h'->Q' v h')->run ps h Q->run ps h Q'
def PO.imp{e:Option mo}{t t':TO}(h:L2.PO X e t)(f:∀σ H Q,t' σ H Q->t σ H Q):L2.PO X e t':=λU s σ H Q I q=>h U s σ H Q I (f _ _ _ q)
def eJ(xs:O PV)(lo hi:Option Int):O PV:=(xs.drop (HT.dD xs.length 0 lo)).take (HT.dD xs.length xs.length hi-HT.dD xs.length 0 lo)
def aF.cut{l:O PV}(r:aF K ι H vs l)(lo hi:Option Int):aF K ι H (IC vs lo hi) (eJ l lo hi):=by
 unfold IC eJ;rw[r.length];exact(r.drop _).take _
end
end
end PL
variable{e1:BC}{t1:L2.TE}{tp:Cn}
namespace PL
section
variable{K:Ab}
section
variable{c:mo}
def km(lo:Int)(n:Nat):O PV:=(Aw n).map λ(i:Nat)=>.int (lo+(i:Int))
def jo(lo:Int)(n:Nat):(km lo n).length=n:=by unfold km;simp
def qr{lo:Int}{p:PV}(h:(km lo n)[i]?=am p):i<n/\p=.int (lo+i):=by
 unfold km at h;rw[Ah]at h;cases z:(Aw n)[i]? with
 |none=>rw[z]at h;cases h
 |some k=>
  rw[z]at h;obtain⟨h1,h2⟩:=Aj.mp z;simp at h1 h2;subst h2;exact⟨h1,(Option.some.inj h).symm⟩
def qX(lo:Int)(n:Nat):O PV:=(Aw n).map λ(i:Nat)=>.int (lo-(i:Int))
def xG(lo:Int)(n:Nat):(qX lo n).length=n:=by unfold qX;simp
def xH{lo:Int}{p:PV}(h:(qX lo n)[i]?=am p):i<n/\p=.int (lo-i):=by
 unfold qX at h;rw[Ah]at h;cases z:(Aw n)[i]? with
 |none=>rw[z]at h;cases h
 |some k=>
  rw[z]at h;obtain⟨h1,h2⟩:=Aj.mp z;simp at h1 h2;subst h2;exact⟨h1,(Option.some.inj h).symm⟩
def Uo(i:Int):Prop:=-(2 ^ 62)<=i/\i<2 ^ 62
def afT(m:MA):MI:=⟨λps h Q=>m.run ps h λl h1=>match l with|[.int j]=>Uo j/\Q ⟨km 0 j.toNat,λ_=>True,false⟩ h1|_=>False,λf q=>m.mono (λl h1 q=>by
 revert q
 split
 .exact λq=>⟨q.1,f _ _ q.2⟩
 .exact λz=>z) q⟩
def cY(k:Nat):O PV->O PV
 |[]=>[]
 |x::l=>.tup [.int (k:Int),x]::cY (k+1) l
theorem bE:∀(k:Nat) (l:O PV),(cY k l).length=l.length
 |_,[]=>rfl
 |k,x::l=>by rw[cY,Au,Au,bE]
theorem dz:∀{k:Nat}{l:O PV}{i:Nat}{p:PV},(cY k l)[i]?=am p->∃x,l[i]?=am x/\p=.tup [.int ((k+i:Nat):Int),x]
 |_,[],_,_,h=>by simp[cY]at h
 |k,x::l,0,p,h=>by simp[cY]at h;subst h;exact⟨x,rfl,by simp⟩
 |k,x::l,i+1,p,h=>by
  obtain⟨y,h1,h2⟩:=dz (by simpa[cY]using h);exact⟨y,by simpa using h1,by rw[h2,show k+1+i=k+(i+1) by lia]⟩
def aax(K:Ab)(t1:TE):TI:=λσ H R=>t1 σ H λx H1=>∃a,x=.ref a/\(((∃xs,b9 K H1 a xs)/\R (afl K a) H1)\/((∃xs,dU K H1 a xs)/\R (Ite K a) H1))
def QM{X:Cx}(K:Ab)(hK:X.K=K){kk:Nat}{p2:Pos}(hg:Gl X "enumerate")(hm:X.mg "enumerate"=ce)(h1:PE X e1 t1)(pN:‹hV X e1 []›):PI X (.Tuple Í kk tp) (.Call (.Name "enumerate" p1) [e1] [] p2) (aax K t1):=by
 subst hK;intro U s σ H R I h;refine BJ (gQ I hg hm boot_enumerate ?_ ⋯ ⋯);refine Bs ?_ pN rfl;rw[pN];refine B7 (cf (h1 U s σ H _ I h) λu1 s1 ⟨x,H1,I1,r1,a,ex,hh⟩=>CA ?_);subst ex;cases r1;have d1:s1.heap.objs.size+1≠s1.heap.objs.size:=Nat.succ_ne_self _;rcases hh with⟨⟨xs,hx⟩,q⟩|⟨⟨xs,hx⟩,q⟩
 .obtain⟨aq,rx,tx,_⟩:=I1.list hx;refine call_enumerate_list tx.isList λh' ze hi _ k=>?_;refine CB ze ?_;refine⟨_,_,_,_,H1,rfl,I1.kept k,Jr d1,⟨⟨_,ze⟩,hi⟩,λc hc=>?_,q⟩;have Ñ:s1.heap.objs.size<=c:=by
   simp at hc;rcases hc with rfl|rfl
   .exact Bk _ _
   .exact Al _
  exact I1.zm Ñ (I1.bG.fresh Ñ)
 .obtain⟨aq,rx,tx,_⟩:=I1.tuple hx;have l1:=let ⟨_,e,_⟩:=tx;Aq e;refine Lk tx λh' ze hi k=>?_;refine CB ze ?_;refine⟨_,_,_,_,H1,rfl,I1.kept k,Nd d1 (AH (AG l1 (Bk _ 1))) (AH l1),⟨⟨_,ze⟩,hi⟩,λc hc=>?_,q⟩;have Ñ:s1.heap.objs.size<=c:=by
   simp at hc;rcases hc with rfl|rfl
   .exact Bk _ _
   .exact Al _
  exact I1.zm Ñ (I1.bG.fresh Ñ)
def pR:O PV->O PV->O PV
 |x::l,y::m=>.tup [x,y]::pR l m
 |_,_=>[]
theorem sW:∀{l m:O PV}{i:Nat}{p:PV},(pR l m)[i]?=am p->∃x y,l[i]?=am x/\m[i]?=am y/\p=.tup [x,y]
 |[],m,i,p,h=>by simp[pR]at h
 |x::l,[],i,p,h=>by simp[pR]at h
 |x::l,y::m,0,p,h=>by simp[pR]at h;subst h;exact⟨x,y,rfl,rfl,rfl⟩
 |x::l,y::m,i+1,p,h=>by
  obtain⟨u,w,h1,h2,h3⟩:=sW (by simpa[pR]using h);exact⟨u,w,by simpa using h1,by simpa using h2,h3⟩
end
end
end PL
variable{op:PySem.CmpOp}{p3 p4:Cn}
namespace PL
section
variable{K:Ab}
section
structure JC(X:Cx)(K:Ab)(op:CmpOp)(b:mo)(m:M2):Prop where
 p:∃r,iX X (sn op) r/\M2.Ok K r m
 k:sB op b=false
def XQ:JC X K .Lt b oLt:=⟨⟨_,adz,IP λ_ _ _ _=>.bl _⟩,gJ _⟩
def ad1:JC X K .LtE b oLe:=⟨⟨_,adA,IP λ_ _ _ _=>.bl _⟩,gJ _⟩
def Mu:JC X K .Gt b ZN:=⟨⟨_,adB,IP λ_ _ _ _=>.bl _⟩,gJ _⟩
def ad2:JC X K .GtE b oGe:=⟨⟨_,adC,IP λ_ _ _ _=>.bl _⟩,gJ _⟩
def RH:JC X K .Is b Q6:=⟨⟨_,ZI,Vf⟩,gJ _⟩
def VL:JC X K .IsNot b Hn:=⟨⟨_,U7,Q4⟩,gJ _⟩
end
end
end PL
namespace L2
def kU(xs:List α)(lo hi st:Option Int):List α:=(sliceRange (u8 lo hi st xs.length).1 (u8 lo hi st xs.length).2.1 (u8 lo hi st xs.length).2.2).filterMap (xs[·]?)
def wX(r:Vals xs aq)(lo hi st:Option Int):Vals (kU xs lo hi st) (FM aq.toArray lo hi st).toList:=by
 unfold kU FM;rw[Am,r.length];generalize sliceRange _ _ _=l
 induction l with
 |nil=>exact .nil
 |cons k l ih=>
  rw[AL,AL];cases e:xs[k]? with
  |none=>
   have e2:=r.none_of e;have e3:aq.toArray[k]?=ce:=by simpa using e2
   rw[e3];exact ih
  |some x=>
   obtain⟨u,hu,ru⟩:=r.get e;have e3:aq.toArray[k]?=am u:=by simpa using hu
   rw[e3];exact .cons ru ih
section
variable{st:mo}{lo hi:Option mo}{tl th ts:TO}{p2:Pos}
def ag5(K:Ab)(te:TE)(tl th ts:TO):TE:=λσ H Q=>te σ H λx H1=>tl σ H1 λl H2=>th σ H2 λu H3=>ts σ H3 λs H4=>∃a xs,x=.ref a/\b9 K H4 a xs/\s≠am 0/\jG H4 (.lst (kU xs l u s)) Q
theorem NF(K:Ab)(hK:X.K=K)(he:PE X e te)(hl:PO X lo tl)(hu:PO X hi th)(hs:PO X (am st) ts):PE X (.Subscript e (.Slice lo hi (am st) p2) pos) (ag5 K te tl th ts):=by
 subst hK;intro U s σ H Q I h;refine Subscript_ (cf (he U s σ H _ I h) λv s1 ⟨x,H1,I1,r1,q1⟩=>?_);refine wpAny_Slice (cf (hl U s1 σ H1 _ I1 q1) λvl s2 ⟨l,H2,I2,pl,q2⟩=>cf (hu U s2 σ H2 _ I2 q2) λvu s3 ⟨u,H3,I3,pu,q3⟩=>cf (hs U s3 σ H3 _ I3 q3) λvs s4 ⟨c,H4,I4,ps,a,xs,ea,hx,c0,q⟩=>?_);subst ea;cases r1;have I5:Inv X U σ H4 {s4 with heap:=s4.heap.push {cls:=.type "slice",data:=.fields #[vl,vu,vs]}}:=I4.kept λb ob q=>Ai _ q;obtain⟨aq,r,pL,hz⟩:=I5.list hx;have Á:=r.length;refine tail_any pL.isList.typeIs list_getitem_lookup ?_ (by with_unfolding_all rfl);refine EN pL.isList (Heap.IsSliceOf.new ..) pl pu ps c0 ?_ (by simp;lia);have ġ:(kU xs l u c).length<=sizeLine:=by
  have h1:=(wX r l u c).length;have h2:=slicePick_size_le aq.toArray l u c;have h3:(FM aq.toArray l u c).toList.length=(FM aq.toArray l u c).size:=by simp
  have h4:aq.toArray.size=aq.length:=by simp
  lia
 refine⟨.ref _,upd H4 _ (.lst (kU xs l u c)),I5.laid (t':=s4.toks) (λb ob q=>Ai _ q) (Al _) ?_,rfl,q.at _ (I5.bG.fresh (Al _))⟩;exact⟨ġ,_,0,wX r l u c,by rw[show(FM aq.toArray l u c).toList.toArray=FM aq.toArray l u c by simp];exact An _ rfl⟩
end
end L2
namespace PL
section
variable{K:Ab}
section
variable{st:mo}
def aF.pick{l:O PV}(r:aF K ι H vs l)(lo hi st:Option Int):aF K ι H (kU vs lo hi st) (kU l lo hi st):=by
 unfold kU;rw[r.length];generalize sliceRange _ _ _=ks
 induction ks with
 |nil=>exact .nil
 |cons k ks ih=>
  rw[AL,AL];cases e:l[k]? with
  |none=>
   have e2:vs[k]?=ce:=by
    rw[Dh]at e ⊢;rw[r.length];exact e
   rw[e2];exact ih
  |some x=>
   obtain⟨u,hu,ru⟩:=r.get e;rw[hu];exact .cons ru ih
end
end
section
variable{K:Ab}
section
def Su{l:O PV}(h:aF K ι H vs l):vs.isEmpty=l.isEmpty:=by cases h<;>rfl
def aF.rep{l:O PV}(h:aF K ι H vs l):∀k:Nat,aF K ι H (Ap k vs).flatten (Ap k l).flatten
 |0=>.nil
 |k+1=>by
  exact h.append (h.rep k)
theorem lX:∀{ns:O Int}{vs:O V},aF K ι H vs (ns.map PV.int)->vs=ns.map V.int
 |[],_,h=>by cases h;rfl
 |b::bs,_,h=>by
  cases h with
  |cons x t=>cases x;rw[lX t];rfl
theorem zb(ι:O db)(H:Hp):∀ns:O Int,aF K ι H (ns.map V.int) (ns.map PV.int)
 |[]=>.nil
 |n::ns=>.cons (.int n) (zb ι H ns)
def Zl(K:Ab):O V->Hp->VK->Prop:=λxs H Q=>∃(p:db) (ns:O Int),xs=[.ref p]/\b9 K H p (ns.map V.int)/\ns.length<64/\∀ms:O Int,ms.Perm ns->ms.Pairwise (·<=·)->jG H (.lst (ms.map V.int)) Q
theorem Lg(K:Ab)(hK:X.K=K):cB X (.builtin "sorted") (Zl K):=by
 subst hK;intro U s σ H xs us Q I r h;obtain⟨p,ns,rfl,hq,Ē,q⟩:=h;obtain⟨u,rfl,rx⟩:=vals1 r;cases rx;obtain⟨aq,r',pl,hz⟩:=I.list hq;have hl:=r'.length;rw[Af]at hl hz;refine PyProof.Rows.sorted_ints pl.isList (intsAre_of r') ∅ λout ms a1 a2 a3=>?_;obtain⟨e,he⟩:=sortedAll_at s.heap aq out;refine⟨.ref (s.heap.objs.size+1),_,I.laid (λ_ _=>sortedAll_old) (Dz _) (show bC X.prog X.w _ _ _ (.lst (ms.map V.int)) from⟨?_,out.toList,e,pT a1,?_⟩),rfl,(q ms a2 a3).at _ (I.bG.fresh (Dz _))⟩
 .rw[Af,a2.length_eq];exact hz
 .exact he
end
end
end PL
variable{xs:Array A8}{a:Bq}{o:FO}
namespace L2
def nA{s:cr}{name:Str}{Q:Option ci->cr->Prop}(hx:s.heap.get? a=am o)(hc:o.cls=.type "list")(rL:o.data=.seq xs k)(hd:o.dict=ce)(aeh:FS (.type "list") name=pure ce)(aeg:(["__module__","__name__","__qualname__","__doc__","__annotations__"]:O Str).contains name=false)(hA:A.handled=ce)(h:∀h' tk e,Heap.NewExcOf s.heap h' e "AttributeError"->Q ce {s with heap:=h',toks:=tk})(uA:name.length+100<=sizeLine:=by size_fits):ga (gl prog w) A (getAttr? (.ref a) name) Q E s:=by
 obtain⟨c,ĳ,dat,sl⟩:=o;simp only at hc rL hd;subst hc rL hd;obtain⟨hp,g,d,tk,os⟩:=s;have hT:∀Ė,(⟨hp,g,d,Ė,os⟩:cr).TypeIs (.ref a) "list":=λ_=>⟨_,hx,rfl⟩;have f1:=sub_AttributeError;have f3:=Dq.lookup;have f4:=Dq.bind (.ref a);have f5:=am_list_getattr_none
 repeat (any_goals (first | assumption | exact hT _ | ((with_reducible show ga _ _ (call (Value.builtin "list.__getattribute__") _ _) _ _ _);refine ww Dq (hT _) am_entry_list_getattribute (F.args_list_getattribute_2 _ _) (meets_getattribute_miss_list a xs k sl name _ aeh aeg uA) ⟨hx,hA,λh' Ė e xv=>?_⟩) | wp_step))
 obtain⟨t',u',he⟩:=xv.there;unfold getattributeRaised
 repeat (any_goals (first|assumption|wp_step))
 exact h _ _ _ xv.of
end L2
variable{b d:Bq}{v:A8}
namespace L2
def iw:entryFor table "dict.update.loop"=am v4.«dict.update.loop»:=entryFor_of_fast (by kernel_rfl)
def ic:plainId "dict.update.loop"=true:=by decide +kernel
section
variable{K:Type}[DecidableEq K]{knd:KeyKind prog w K}
def Gr(knd:KeyKind prog w K)(h:pc)(it d:db)(v:ci)(x:O K×db×ci):Prop:=
 ∃pa o n,v=.ref pa/\pa≠it/\pa≠d/\x.2.1≠it/\x.2.1≠d/\h.get? pa=am o/\o.cls=.type "tuple"/\o.data=.seq #[.ref x.2.1,x.2.2] n/\(sw knd).is h x.1 x.2.1
def xW{k:O K}(x:(sw knd).is h k b)(kp:∀o,h.get? b=am o->h'.get? b=am o):(sw knd).is h' k b:=by
 obtain⟨o,aq,n,h1,h2⟩:=x;exact⟨o,aq,n,kp _ h1,h2⟩
def Gr.keep{x:O K×db×ci}(p:Gr knd h it d v x)(kp:∀b o,b≠it->b≠d->h.get? b=am o->h'.get? b=am o):Gr knd h' it d v x:=by
 obtain⟨pa,o,n,e,n1,n2,n3,n4,h1,h2,h3,h4⟩:=p;exact⟨pa,o,n,e,n1,n2,n3,n4,kp _ _ n1 n2 h1,h2,h3,xW h4 λo q=>kp _ _ n3 n4 q⟩
def zI{xs:O (O K×db×ci)}(m:h.DictOfH (sw knd) d xs)(hd:d≠it)(hx:∀x∈xs,x.2.1≠it)(kp:∀b o,b≠it->h.get? b=am o->h'.get? b=am o):h'.DictOfH (sw knd) d xs:=by
 obtain⟨o,es,ep,ho,hc,ŕ,he,XZ,hn⟩:=m;exact⟨o,es,ep,kp _ _ hd ho,hc,ŕ,he,λx q=>xW (XZ x q) λo z=>kp _ _ (hx x q) z,hn⟩
def GV{xs:O (O K×db×ci)}{k:O K}(hx:∀x∈xs,x.2.1≠it)(hb:b≠it):∀x∈storedH xs k b v,x.2.1≠it:=by
 intro x q;unfold storedH at q
 split at q
 .obtain⟨y,hy,rfl⟩:=Ao.mp q;have e:(putAt k v y).2.1=y.2.1:=by unfold putAt;split<;>rfl
  rw[e];exact hx y hy
 .rcases AO.mp q with q|q
  .exact hx x q
  .rw[AM.mp q];exact hb
def GW{xs:O (O K×db×ci)}{k:O K}:(storedH xs k b v).length<=xs.length+1:=by
 unfold storedH
 split<;>simp
theorem GN(hA:A.handled=ce)(hu:A.units+1 < tz){l:db}(hz:items.size+items.size<=sizeLine)(œ:d≠it)(hli:l≠it)(hld:l≠d):∀(k i:Nat) (ys xs:O (O K×db×ci)) (s:cr),items.size-i=k->i<=items.size->ys.length=items.size-i->xs.length<=i->s.heap.IsListIter it l i->s.heap.IsList l items->s.heap.DictOfH (sw knd) d xs->(∀x∈xs,x.2.1≠it)->(∀j x,ys[j]?=am x->∃v,items[i+j]?=am v/\Gr knd s.heap it d v x)->(∀h' tk,h'.DictOfH (sw knd) d (ys.foldl (λa y=>storedH a y.1 y.2.1 y.2.2) xs)->(∀b o,b≠it->b≠d->s.heap.get? b=am o->h'.get? b=am o)->R (.ok (.ret .none)) {s with heap:=h',toks:=tk})->KF (gl prog w) A (.builtin "dict.update.loop" ⟨[.ref d,.ref it,xL i,.none],[]⟩) R s:=by
 intro k
 induction k with
 |zero=>
  intro i ys xs s hk hi hy hxl Õ hl hd hx hp q;have e0:ys=[]:=BQ ∅;subst e0;refine Fk iw ?_;refine Aa (wpAny_pyNext_list_end hA Õ hl (by rw[Ff];lia) λh' ex=>?_);have kp:=ex;exact Aa (Ag (Ag (q h' s.toks (zI hd œ hx kp) λb o n1 _ e=>kp b o n1 e)))
 |succ k ih=>
  intro i ys xs s hk hi hy hxl Õ hl hd hx hp q
  match ys,hy,hp,q with
  |[],hy,_,_=>exact absurd hy (by simp;lia)
  |y::ys,hy,hp,q=>
  obtain⟨v,hv,pa⟩:=hp 0 y rfl;refine Fk iw ?_;refine Aa (wpAny_pyNext_list_item Õ hl (by simpa using hv) λh1 aix sb=>?_);have VB:∀b o,b≠it->s.heap.get? b=am o->h1.get? b=am o:=λb o hb e=>(sb.2 b hb).trans e;have ō:h1.IsList l items:=let ⟨o,e,p⟩:=hl;⟨o,VB _ _ hli e,p⟩;obtain⟨p,o,n,rfl,n1,n2,n3,n4,g1,g2,g3,g4⟩:=(pa.keep λb o n1 _ e=>VB b o n1 e);refine Aa (Bh (Aa (Et ?_)));refine Aa (Dc ⟨_,g1,g2⟩ ?_);refine Aa (BI g1 g3 (Ag ?_));refine Bh (wpAny_dictSet_heap (tupleKind_room_in1 hu) g4 (zI hd œ hx VB) (λh2 Î sb2=>?_) ∅);have Ľ:∀b o,b≠d->h1.get? b=am o->h2.get? b=am o:=λb o hb e=>(sb2.2 b hb).trans e;refine Ag ⟨BT ic _,?_⟩;have kp:∀b o,b≠it->b≠d->s.heap.get? b=am o->h2.get? b=am o:=λb o a1 a2 e=>Ľ _ _ a2 (VB _ _ a1 e);refine ih (i+1) ys (storedH xs y.1 y.2.1 y.2.2) _ ∅ ∅ (by rw[Au]at hy;lia) (AD GW ∅) ?_ ?_ Î (GV hx n3) (λj x hj=>?_) (λh' tk dd k3=>?_)
  .obtain⟨o',e1,e2⟩:=aix;exact⟨o',Ľ _ _ (BE œ) e1,e2⟩
  .obtain⟨o',e1,e2⟩:=ō;exact⟨o',Ľ _ _ hld e1,e2⟩
  .obtain⟨v',h3,h4⟩:=hp (j+1) x hj;exact⟨v',by rw[show i+1+j=i+(j+1) by lia];exact h3,h4.keep kp⟩
  .exact q h' tk dd λb o a1 a2 e=>k3 b o a1 a2 (kp b o a1 a2 e)
end
def yQ:FS (.type "list") (Cb "keys")=pure ce:=am_miss_of_fast (by decide +kernel)
section
variable{K:Type}[DecidableEq K]{knd:KeyKind prog w K}{s:cr}
theorem rQ{l:db}{ys:O (O K×db×ci)}(hA:A.handled=ce)(hu:A.units+2 < tz)(ho:s.heap.get? l=am o)(hc:o.cls=.type "list")(rL:o.data=.seq items n)(hd:o.dict=ce)(hz:items.size+items.size<=sizeLine)(hy:ys.length=items.size)(hp:∀(j:Nat) (x:O K×db×ci),ys[j]?=am x->∃(pa:db) (op:Obj) (m:Nat),items[j]?=am (AV pa)/\s.heap.get? pa=am op/\op.cls=.type "tuple"/\op.data=.seq #[AV x.2.1,x.2.2] m/\(sw knd).is s.heap x.1 x.2.1)(q:∀h' tk,(∀b o,s.heap.get? b=am o->h'.get? b=am o)->h'.DictOfH (sw knd) s.heap.objs.size (ys.foldl (λa y=>storedH a y.1 y.2.1 y.2.2) [])->Q (.ref s.heap.objs.size) {s with heap:=h',toks:=tk}):ga (gl prog w) A (call (.type "dict") [.ref l]) Q E s:=by
 refine callType_codes (Q₁:=λobj s₁=>obj=.ref s.heap.objs.size/\s₁={s with heap:=s.heap.push {cls:=.type "dict",data:=.dict #[]}}) F.kt_called_dict (F.kt_typeCall_dict_1 _) F.entry_dict_init (kt_code_dict_new _ ⟨rfl,rfl⟩) ?_;rintro obj s₁ ⟨rfl,rfl⟩;have ğ:∀b o,s.heap.get? b=am o->(s.heap.push {cls:=.type "dict",data:=.dict #[]}).get? b=am o:=λb o e=>Ai _ e;have VY:(s.heap.push {cls:=.type "dict",data:=.dict #[]}).DictOf knd s.heap.objs.size []:=Heap.DictOf.new s.heap;have ls:∀b o,s.heap.get? b=am o->b≠s.heap.objs.size:=λb o e z=>by subst z;exact AI _ (Aq e)
 refine⟨VY.typeIs,F.args_dict_init_2 _ _,?_⟩;refine Aa ?_;refine Aa (wpAny_notOrdered_dict VY.typeIs ?_);refine Ag ?_;refine Aa (Dc ⟨_,ğ _ _ ho,hc⟩ ?_);refine Aa (nA (ğ _ _ ho) hc rL hd yQ (by decide +kernel) hA (λh1 tk e nx=>?_) ⋯);refine Aa (CV (Aa ?_));refine DH ⟨_,nx.keeps _ _ (ğ _ _ ho),hc,n,rL⟩ ?_;have uA:=Aq (nx.keeps _ _ (An s.heap rfl));have VB:∀b o,s.heap.get? b=am o->(h1.push {cls:=.type "list_iterator",data:=.fields #[.ref l,.int 0 0]}).get? b=am o:=λb o e=>Ai _ (nx.keeps _ _ (ğ _ _ e));have ni:∀b o,s.heap.get? b=am o->b≠h1.objs.size:=λb o e z=>by
  subst z;exact AI _ (Nat.lt_trans (Aq e) uA)
 refine Ag ⟨BT ic _,?_⟩;refine GN (A:=A.in1) (knd:=knd) hA (by show A.units+1+1<_;lia) (items:=items) (l:=l) hz (AH uA) (ni _ _ ho) (ls _ _ ho) items.size 0 ys [] _ (Eh _) (A9 _) (by rw[hy];rfl) (Al _)
  ⟨_,An _ rfl,rfl,rfl⟩ ⟨_,VB _ _ ho,hc,n,rL⟩ ?_ (λx hx=>nomatch hx) (λj x hj=>?_) (λh' Ė dd kp=>?_)
 .refine zI (it:=h1.objs.size) (⟨_,#[],0,An _ rfl,⟨rfl,rfl,rfl⟩,rfl,rfl,λx hx=>absurd hx (CO),FI⟩) (AH uA) (λx hx=>nomatch hx) λb o _ e=>Ai _ (nx.keeps _ _ e)
 .obtain⟨pa,op,m,e1,e2,e3,e4,e5⟩:=hp j x hj;have kb:∃ob,s.heap.get? x.2.1=am ob:=let ⟨ob,_,_,z,_⟩:=e5;⟨ob,z⟩;obtain⟨ob,eb⟩:=kb;exact⟨.ref pa,by rw[A5];exact e1,pa,op,m,rfl,ni _ _ e2,ls _ _ e2,ni _ _ eb,ls _ _ eb,VB _ _ e2,e3,e4,xW e5 λo z=>VB _ _ z⟩
 .exact⟨rfl,q h' Ė (λb o e=>kp b o (ni _ _ e) (ls _ _ e) (VB _ _ e)) dd⟩
end
structure Pz where
 pa:db
 k:List Key
 b:db
 v:V
def Pz.At(H:Hp)(z:Pz):Prop:=H z.pa=am (.tup [.ref z.b,z.v])/\H z.b=am (.tup (z.k.map kV))
def Zr(K:Ab):O V->Hp->VK->Prop:=λxs H Q=>∃(p:db) (zs:O Pz),xs=[.ref p]/\b9 K H p (zs.map λz=>.ref z.pa)/\(∀z∈zs,z.At H)/\(zs.map (·.k)).Nodup/\zs.length<=1000/\jG H (.dT (zs.map λz=>(z.k,z.v))) Q
theorem qT{K:Type}[DecidableEq K]:∀(ys xs:O (K×db×ci)),((xs++ys).map (·.1)).Nodup->ys.foldl (λa y=>storedH a y.1 y.2.1 y.2.2) xs=xs++ys
 |[],xs,_=>by simp
 |y::ys,xs,h=>by
  have hn:atKey xs y.1=ce:=by
   cases e:atKey xs y.1 with
   |none=>rfl
   |some p=>
    exfalso;rw[Az,Av]at h;have hm:y.1∈xs.map (·.1):=by
     by_cases hc:y.1∈xs.map (·.1)
     .exact hc
     .rw[atKey_none_of_get (λj q hj=>?_)]at e
      .cases e
      .exact hc (Ao.mpr ⟨_,Bd hj,rfl⟩)
    exact((C4.mp h).2.2) _ hm _ BK rfl
  rw[Ds,storedH_new hn,qT ys (xs++[(y.1,y.2.1,y.2.2)]) (by simpa using h)];simp
section
theorem Ll(K:Ab)(hK:X.K=K)(hc:X.calm=true)(hu:X.A.units+2 < tz):cB X (.type "dict") (Zr K):=by
 subst hK;intro U s σ H xs us Q I r h;obtain⟨p,zs,rfl,hq,hz,hn,hl,q⟩:=h;obtain⟨u,rfl,rx⟩:=vals1 r;cases rx;obtain⟨aq,rv,pl,uA⟩:=I.list hq;obtain⟨o,n,ho,ø,hd,rL⟩:=pl;have ĕ:∀(zs:O Pz) aq,(∀z∈zs,z.At H)->Vals (zs.map λz=>V.ref z.pa) aq->∃ys:O (O Key×db×ci),ys.map (·.1)=zs.map (·.k)/\KT H (zs.map λz=>(z.k,z.v)) ys/\
   ∀(j:Nat) x,ys[j]?=am x->∃(pa:db) (op:Obj) (m:Nat),aq[j]?=am (AV pa)/\s.heap.get? pa=am op/\op.cls=.type "tuple"/\op.data=.seq #[AV x.2.1,x.2.2] m/\(sw (bQ X.prog X.w)).is s.heap x.1 x.2.1:=by
  intro zs
  induction zs with
  |nil=>intro aq _ _;exact⟨[],rfl,.nil,λj x h=>by simp at h⟩
  |cons z zs ih=>
   intro aq ha hv;cases hv with
   | @cons _ u _ us ru rus=>
   cases ru;obtain⟨ys,e1,e2,e3⟩:=ih us (λy hy=>ha y (A4 _ hy)) rus;obtain⟨a1,a2⟩:=ha z BK;obtain⟨_,eW,r',⟨op,h1,h2,m,h3⟩,_⟩:=(I.bG _ _ a1);obtain⟨w,rfl,G3⟩:∃w,eW=[AV z.b,w]/\RelV z.v w:=by
    cases r' with
    |cons q1 q2=>cases q1;cases q2 with
     |cons q3 q4=>cases q4;exact⟨_,rfl,q3⟩
   refine⟨(z.k,z.b,w)::ys,by rw[Av,Av,e1],.cons ⟨rfl,a2,G3⟩ e2,λj x hj=>?_⟩;cases j with
   |zero=>
    cases hj;exact⟨z.pa,op,m,rfl,h1,h2,h3,J6 I.bG a2⟩
   |succ j=>exact e3 j x hj
 obtain⟨ys,e1,e2,e3⟩:=ĕ zs aq hz rv;have Á:=rv.length;rw[Af]at Á;have Ģ:ys.length=zs.length:=by have:=congrArg Ck e1;simpa using this
 have hs:1000+1000<=sizeLine:=by decide
 refine rQ (knd:=bQ X.prog X.w) (ys:=ys) (I.ok.hd hc) hu ho ø rL hd (by rw[Am];lia) (by rw[Am];lia) (λj x hj=>?_) (λh' tk kp dd=>?_)
 .obtain⟨pa,op,m,g1,g2⟩:=e3 j x hj;exact⟨pa,op,m,by rw[Fz];exact g1,g2⟩
 .rw[qT ys [] (by rw[D8,e1];exact hn),D8]at dd;obtain⟨od,es,ep,ĥ,h2,h3,h4,_,h5⟩:=dd;have fr:=I.bG.fresh (Al s.heap.objs.size);refine⟨.ref s.heap.objs.size,_,I.laid kp (Al _) (show bC X.prog X.w (upd H s.heap.objs.size (.dT (zs.map λz=>(z.k,z.v)))) h' _ (.dT _) from⟨?_,(beq_eq_false_iff_ne.mpr (BE (AH I.big))),ys,?_,od,es,ep,ĥ,h2,h3,h4,h5⟩),rfl,q.at _ fr⟩
  .rw[Af];exact AD hl ⋯
  .refine e2.keeps λc xs ec=>?_;rw[ak (λz=>by subst z;rw[fr]at ec;cases ec)];exact ec
end
end L2
variable{es:Array PySem.DictEntry}{ep:Nat}
namespace L2
section
variable{s:cr}
def WW(h:pc)(d:db)(es:Array DictEntry)(ep:Nat):Prop:=∃o,h.get? d=am o/\o.ExactDict/\o.data=.dict es ep
def Q9{Q:Option ci->cr->Prop}(Õ:s.heap.IsKeyIter it d i es.size ep)(hm:WW s.heap d es ep)(hi:i<es.size)(q:∀h',h'.IsKeyIter it d (i+1) es.size ep->Ci it s.heap h'->Q (am es[i].key) {s with heap:=h'}):ga (gl prog w) A (PP (.ref it)) Q E s:=by
 have ty:=Õ.typeIs;obtain⟨o,ho,hc,hd⟩:=id Õ;obtain⟨od,Ob,-,RX⟩:=hm;have aem:(s.heap.update it (Obj.mapFields (·.setIfInBounds 1 (xL (i+1))))).IsKeyIter it d (i+1) es.size ep:=⟨_,B3 _ ho (Fw (Dv hd _)),(Obj.cls_mapFields ..).trans hc,by rw[Dv hd];simp[xL]⟩;refine Aa (CH (AY ty BU (Be BU ty DW ?_ (DT _))));refine Aa (Ag (Aa (Aa ?_)))
 first|refine Aa (Cc ty (Ag ?_))|refine Aa (CG ty (Ag ?_))
 refine Aa (wpAny_fieldsOf ho hd ?_);show ga _ _ (if (AV d==A7)=true then _ else _) _ _ s;refine Aa (Ag (Aa (EH Ob RX ?_)));rw[if_neg (by simp)];refine Aa (Ag (Aa (Fp Ob RX ?_)));rw[if_neg (by simp)];refine Ag ?_;simp only[if_false,Bp,Di hi];refine Aa ?_
 first|refine Aa (Cc ty (Ag ?_))|refine Aa (CG ty (Ag ?_))
 refine Aa (wpAny_isOneOf_keyiter ty ?_);show ga _ _ (setField (.ref it) 1 (xL ((i:Int)+1)) >>= _) _ _ s;exact Aa (Eu ho hd (by simp) (Aa (Bh (Aa (wpAny_isOneOf_keyiter aem.typeIs (Ag (Ag ⟨_,rfl,Ag (q _ aem (Ci.update ..))⟩)))))))
def Wg{Q:Option ci->cr->Prop}(hh:A.handled=ce)(Õ:s.heap.IsKeyIter it d i es.size ep)(hm:WW s.heap d es ep)(hi:es.size<=i)(q:∀h',FG it s.heap h'->Q ce {s with heap:=h'}):ga (gl prog w) A (PP (.ref it)) Q E s:=by
 have ty:=Õ.typeIs;obtain⟨o,ho,hc,hd⟩:=id Õ;obtain⟨od,Ob,-,RX⟩:=hm;refine Aa (CH (AY ty BU (Be BU ty DW ?_ (DT _))));refine Aa (Ag (Aa (Aa ?_)))
 first|refine Aa (Cc ty (Ag ?_))|refine Aa (CG ty (Ag ?_))
 refine Aa (wpAny_fieldsOf ho hd ?_);show ga _ _ (if (AV d==A7)=true then _ else _) _ _ s;refine Aa (Ag (Aa (EH Ob RX ?_)));rw[if_neg (by simp)];refine Aa (Ag (Aa (Fp Ob RX ?_)));rw[if_neg (by simp)];refine Ag ?_;simp only[if_false,Bp,Ff hi];refine Aa ?_
 first|refine Aa (Cc ty (Ag ?_))|refine Aa (CG ty (Ag ?_))
 show ga _ _ (setField (.ref it) 0 .none >>= _) _ _ s;refine Aa (Eu ho hd (by simp) ?_);refine Aa ?_;refine Aa (Bf (Aa (Bx (by first|rfl|(simp;rfl)) (Bf ?_ (by size_fits)))) (by size_fits));unfold raiseNew;refine Aa (wpAny_handled ?_);rw[show A.in1.handled=ce from hh];refine Aa (Ag (wpAny_throw ?_));refine Aa (De ⟨_,An _ rfl,rfl⟩ isSubtype_stop ?_);exact Ag (q _ (((Ci.update ..).extBut.push _).push _))
def RJ(hs:(d==wT)=false)(hm:WW s.heap d es ep)(q:Q (.ref s.heap.objs.size) {s with heap:=s.heap.push {cls:=.type "dict_keyiterator",data:=.fields #[.ref d,.int 0 0,.int es.size 0,.int ep 0]}}):ga (gl prog w) A (pyIter (.ref d)) Q E s:=by
 obtain⟨od,Ob,hx,RX⟩:=hm;have ty:s.TypeIs (.ref d) "dict":=⟨_,Ob,hx.1⟩;refine wpAny_pyIter_slot ty F.slot_dict_iter (Be F.slot_dict_iter ty F.entry_dict_iter ?_ (F.args_dict_iter_1 _));refine Aa ?_;refine Aa (wpAny_notOrdered_dict ty ?_);refine Ag ?_;show ga _ _ (Builtin.Dict.showsAll d >>= _) _ _ s;unfold Builtin.Dict.showsAll;rw[if_neg (by rw[hs];exact AX)];exact Aa (Ag (Aa (EH Ob RX (Aa (Fp Ob RX (Aa (Bf (Ag ⟨_,rfl,"dict_keyiterator",_,⟨_,An _ rfl,rfl⟩,BU.lookup,q⟩))))))))
end
end L2
variable{u:L2.HO}
namespace L2
section
variable{σ:St}{s:cr}
def Inv.freeze(I:Inv X U σ H s)(e:H a=am (.dT au)):∃o,Inv X U σ (upd H a (.cn o (.dT au))) s:=by
 obtain⟨z,hs,xs,r,o,es,ep,h1,h2,h3,h4,h5⟩:=(show bC X.prog X.w H s.heap a (.dT au) from I.bG a _ e);refine⟨o,?_⟩;have q:=I.write (x:=a) (e:=a) (o:=.cn o (.dT au)) (h':=s.heap) (t':=s.toks) (by rw[e];exact B6) (.inl rfl) (λb u _ z=>z) ⟨o,h1⟩
  ⟨h1,z,hs,xs,KT.keeps r λb ys eb=>by rw[ak (Mj eb e (λz=>nomatch z))];exact eb,o,es,ep,h1,h2,h3,h4,h5⟩
 exact q
def Inv.YO(I:Inv X U σ H s)(e:H a=am (.cn o u))(h0:∀o u,X.H₀ a≠am (.cn o u))(hu:bC X.prog X.w (upd H a u) s.heap a u)(bG:mH X.prog X.w (upd H a u) s.heap):Inv X U σ (upd H a u) s:=by
 have ne:∀b v,H b=v->v≠am (.cn o u)->b≠a:=λb v q n z=>by subst z;exact n (q.symm.trans e)
 refine⟨I.ok,I.os,I.bare,⟨I.base.keep,I.base.slot,λb ob q n hx=>?_,I.base.there,λb xs q=>?_,λb ob xs q=>?_,λb ps q=>?_⟩,I.loc,I.cell,?_,λx c q=>?_,λp hp=>?_,bG,I.len⟩
 .have:=I.base.free b ob q n hx;rw[ak (ne b _ this (by simp))];exact this
 .have:=I.base.di b xs q;rw[ak (ne b _ this (by simp))];exact this
 .have:=I.base.uI b ob xs q;have hb:b≠a:=λz=>by subst z;exact h0 _ _ q
  rw[ak hb];exact this
 .obtain⟨m,this⟩:=I.base.vD b ps q;exact⟨m,by rw[ak (ne b _ this (by simp))];exact this⟩
 .rw[ak (ne _ _ I.free (by simp))];exact I.free
 .rw[ak (ne _ _ (I.kq x c q) (by simp))];exact I.kq x c q
 .obtain⟨p1,p2,p3⟩:=I.pin p hp;exact⟨p1,by rw[ak (ne _ _ p2 (by simp))];exact p2,p3⟩
def RT(ok:mH P w H h)(e:H a=am (.cn o u)):mH P w (upd H a u) h:=λb u' q=>by
 have ne:∀c v,H c=am v->v≠.cn o u->upd H a u c=am v:=λc v z n=>by
  rw[ak (λy=>by subst y;rw[e]at z;cases z;exact n rfl)];exact z
 by_cases hb:b=a
 .subst hb;rw[aH]at q;cases q;exact bC.yb (ok b _ e).2 (λ_ _ _ z=>z) (λc z=>ne c _ z (by simp)) λc xs z=>ne c _ z (by simp)
 .rw[ak hb]at q;exact bC.yb (ok b _ q) (λ_ _ _ z=>z) (λc z=>ne c _ z (by simp)) λc xs z=>ne c _ z (by simp)
end
def afm(a:db)(o:Obj):It:=
 ⟨λi H=>∃au,H a=am (.cn o (.dT au))/\i<au.length,λi H x H'=>H'=H/\∀au,H a=am (.cn o (.dT au))->∃b k v,x=.ref b/\au[i]?=am (k,v)/\H b=am (.tup (k.map kV)),λi H=>∃au,H a=am (.cn o (.dT au))/\au.length<=i⟩
theorem R6(x:bC P w H h a (.cn o (.dT au)))(hd:o.data=.dict es ep):WW h a es ep/\es.size=au.length/\∀(i:Nat) (hi:i<es.size),∃b k v,es[i].key=.ref b/\au[i]?=am (k,v)/\H b=am (.tup (k.map kV)):=by
 obtain⟨e,z,hs,xs,r,o',Į,į,h1,h2,h3,h4,h5⟩:=x;rw[e]at h1;cases h1;rw[hd]at h3;cases h3;have hl:es.size=xs.length:=by have:=congrArg Ck h4;simpa using this
 refine⟨⟨o,e,h2,hd⟩,hl.trans (Paired.length r).symm,λi hi=>?_⟩;have hx:xs[i]?=am (xs[i]'∅):=Ad _;have pg:∀{l:O (O Key×V)}{m:O (O Key×db×ci)}{i:Nat}{q:O Key×db×ci},KT H l m->m[i]?=am q->∃v,l[i]?=am (q.1,v)/\H q.2.1=am (.tup (q.1.map kV)):=by
  intro l m i q t
  induction t generalizing i with
  |nil=>intro h;simp at h
  | @cons p q' ps qs hq t ih=>
   intro h;cases i with
   |zero=>
    cases h;obtain⟨p1,p2⟩:=p;have e1:=hq.1;subst e1;exact⟨p2,rfl,hq.2.1⟩
   |succ i=>exact ih (by simpa using h)
 obtain⟨v,g1,g2⟩:=pg r hx;refine⟨_,_,v,?_,g1,g2⟩;have:es[i]=entryOfKey (sw (bQ P w)) (xs[i]'∅):=by
  have h6:es.toList[i]?=am (entryOfKey (sw (bQ P w)) (xs[i]'∅)):=by rw[h4,Ah,hx];rfl
  rw[DR,Di hi]at h6;exact Option.some.inj h6
 rw[this];rfl
theorem Nf{K:Ab}(a it:db)(o:Obj)(hd:o.data=.dict es ep):Turn P w K tg (afm a o) [it] it (λi h=>h.IsKeyIter it a i es.size ep) where
 mem:=by simp
 obj:=λi h st b hb=>by
  have e:b=it:=by simpa using hb
  subst e;obtain⟨o,e,c,d⟩:=st;exact⟨o,e,λv z=>by rw[d]at z;cases z⟩
 keep:=λi h h' st k=>st.at λo e=>k it (by simp) o e
 item:=by
  intro X hP hw hK hc i U s σ H E I hf st hg;obtain⟨au,hq,hx⟩:=hg;obtain⟨Ļ,hl,ky⟩:=R6 (I.bG a _ hq) hd;obtain⟨b,k,v,k1,k2,k3⟩:=ky i ∅;obtain⟨f0,f1,f2,f3,f4,f5⟩:=hf it (by simp);refine Q9 st Ļ ∅ λh' sf sb=>?_;obtain⟨oi,e,c,d⟩:=id sf;refine⟨_,rfl,HQ e c d ⋯ ⟨.ref b,H,(I.turned (λb o hb e=>(sb.2 b hb).trans e) f0 f1 f3 f4 f5),k1,⟨rfl,λalu ĥ=>?_⟩,sf,λb hb=>(hf b hb).1⟩⟩;rw[hq]at ĥ;cases ĥ;exact⟨b,k,v,rfl,k2,k3⟩
 done:=by
  intro X hP hw hK hc i U s σ H E I hf st hg;obtain⟨au,hq,hx⟩:=hg;obtain⟨Ļ,hl,ky⟩:=R6 (I.bG a _ hq) hd;obtain⟨f0,f1,f2,f3,f4,f5⟩:=hf it (by simp);exact Wg (I.ok.hd hc) st Ļ ∅ λh' eb=>⟨rfl,I.turned (t':=s.toks) (λb o hb e=>eb b o hb e) f0 f1 f3 f4 f5⟩
 self:=λ_ _ _ _ _ st h=>wpAny_pyIter_keyiter st h
def aay(tl:TE):TI:=λσ H R=>tl σ H λx H1=>∃a o au,x=.ref a/\H1 a=am (.cn o (.dT au))/\R (afm a o) H1
def QN{l:mo}{tl:TE}(hl:PE X l tl):PI X tg l (aay tl):=by
 intro U s σ H R I h;refine cf (hl U s σ H _ I h) λv s1 ⟨x,H1,I1,r1,q1⟩=>?_;obtain⟨a,o,au,e,hq,q⟩:=q1;subst e;cases r1;obtain⟨eo,z,hs,xs,r,o',es,ep,h1,h2,h3,h4,h5⟩:=(I1.bG a _ hq);rw[eo]at h1;cases h1;refine RJ hs ⟨o,eo,h2,h3⟩ ?_;refine⟨s1.heap.objs.size,[s1.heap.objs.size],_,_,H1,rfl,I1.kept λb o e=>Ai _ e,Nf a _ o h3,⟨_,An _ rfl,rfl,rfl⟩,λb hb=>?_,q⟩;have e:b=s1.heap.objs.size:=by simpa using hb
 subst e;exact I1.zm (Al _) (I1.bG.fresh (Al _))
end L2
variable{x:Bq}{o:L2.HO}{v:PL.PV}{ws:O (Cf×L2.V)}{fz:O (Bq×FO)}{ψ:Nat->O L2.V->Prop}{φ:E4->Prop}
noncomputable section
namespace FL
section
variable{K:Ab}
structure W(α:Type) where
 run:(α->Prop)->Prop
 mono:∀{Q Q':α->Prop},(∀a,Q a->Q' a)->run Q->run Q'
namespace W
variable{α β γ:Type}
def ext'{a b:W α}(h:∀Q,a.run Q↔b.run Q):a=b:=by
 cases a;cases b;congr;funext Q;exact propext (h Q)
noncomputable def ret(a:α):W α:=⟨λQ=>Q a,λh q=>h _ q⟩
noncomputable def bind(w:W α)(k:α->W β):W β:=⟨λQ=>w.run λa=>(k a).run Q,λh q=>w.mono (λa q=>(k a).mono h q) q⟩
def fail:W α:=⟨λ_=>False,λ_ q=>q⟩
def eK(p:Prop)(w:W α):W α:=⟨λQ=>p/\w.run Q,λh q=>⟨q.1,w.mono h q.2⟩⟩
def any(p:α->Prop):W α:=⟨λQ=>∀a,p a->Q a,λh q a pa=>h a (q a pa)⟩
def Q1:Option α->W α
 |some a=>ret a
 |none=>fail
@[simp] theorem aa(a:α)(k:α->W β):bind (ret a) k=k a:=(rfl)
@[simp] theorem bind_assoc(w:W α)(f:α->W β)(g:β->W γ):bind (bind w f) g=bind w λa=>bind (f a) g:=(rfl)
@[simp] theorem afc(w:W α):bind w ret=w:=(rfl)
@[simp] theorem ab6(k:α->W β):bind fail k=fail:=(rfl)
@[simp] theorem ag(a:α)(Q:α->Prop):(ret a).run Q=Q a:=(rfl)
@[simp] theorem run_bind(w:W α)(k:α->W β)(Q:β->Prop):(bind w k).run Q=w.run λa=>(k a).run Q:=(rfl)
@[simp] theorem ac0(Q:α->Prop):(fail:W α).run Q=False:=(rfl)
@[simp] theorem afA(p Q:α->Prop):(any p).run Q=∀a,p a->Q a:=(rfl)
@[simp] theorem sg(p:Prop)(w:W α)(Q:α->Prop):(eK p w).run Q=(p/\w.run Q):=(rfl)
@[simp] theorem ae7(p:Prop)(w:W α)(k:α->W β):bind (eK p w) k=eK p (bind w k):=(rfl)
def ao{p:Prop}{w:W α}(h:p):eK p w=w:=ext' λQ=>⟨λq=>q.2,λq=>⟨h,q⟩⟩
@[simp] theorem ae6{w:W α}:eK True w=w:=ao trivial
@[simp] theorem aJ(a:α):Q1 (am a)=ret a:=(rfl)
@[simp] theorem adH:Q1 (ce:Option α)=fail:=(rfl)
end W
inductive FD where
 |v (p:PV)|o (b:db) (l:List PV)
def fdB:O (Str×FD)->O db
 |[]=>[]
 |(_,.v _)::l=>fdB l
 |(_,.o b _)::l=>b::fdB l
inductive Tq(K:Ab)(H:Hp):List (Str×V)->List (Str×FD)->Prop
 |nil:Tq K H [] []
 |v {n:Str}{u:V}{p:PV}{ws:List (Str×V)}{fd:List (Str×FD)} (r:VR K [] H u p) (t:Tq K H ws fd):Tq K H ((n,u)::ws) ((n,.v p)::fd)
 |o {n:Str}{b:db}{vs:List V}{l:List PV}{ws:List (Str×V)}{fd:List (Str×FD)} (e:H b=am (.lst vs)) (r:aF K [] H vs l) (t:Tq K H ws fd):Tq K H ((n,.ref b)::ws) ((n,.o b l)::fd)
inductive SL where
 |val (v:PV)|adr (b:db) (us:List V) (ps:List PV) (fz:List (db×Obj))|ol (q:Option db) (l:List PV)|oll (bs:List db) (ls:List (List PV))|od (au:List (Key×PV))|ot (au:List (List Key×PV))|dB (ψ:Nat->List V->Prop) (n m:Nat)|ob (q C:db) (fd:List (Str×FD))
abbrev aR:=O (Option SL)
def FzO(H:Hp)(fz:O (db×Obj)):Prop:=∀p∈fz,∃u,H p.1=am (.cn p.2 u)
def FzO.tk(h:FzO H fz)(t:bz K H H'):FzO H' fz:=λp hp=>let ⟨u,e⟩:=h p hp;⟨u,t.z _ _ _ e⟩
def _root_.L2.HO.nt:HO->Bool
 |.GR _=>false
 |_=>true
def _root_.L2.HO.ow:HO->Bool
 |.lst _=>true
 |.dK _=>true
 |.dT _=>true
 |.ins _ _ _=>true
 |_=>false
def QW(h:o.ow=true):o.nt=true:=by cases o<;>first|rfl|cases h
def ady(k:bC P w H h a o)(e:h.get? a=am ob)(ho:o.ow=true)(vs:Array ci):ob.data≠.fields vs:=by
 cases o with
 |lst xs=>obtain⟨_,_,_,_,q⟩:=k;rw[e]at q;cases q;nofun
 |dK xs=>obtain⟨_,_,_,_,o,_,_,q,_,q2,_⟩:=k;rw[e]at q;cases q;rw[q2];nofun
 |dT xs=>obtain⟨_,_,_,_,o,_,_,q,_,q2,_⟩:=k;rw[e]at q;cases q;rw[q2];nofun
 |ins C dx fs=>obtain⟨_,_,_,q,_⟩:=k;rw[e]at q;cases q;nofun
 |_=>cases ho
class cx where
 ts:List (db×Str)
def FzC(H:Hp)(c:ci)(q:Str):Prop:=∃a o u vs t,c=.ref a/\H a=am (.cn o u)/\o.data=.fields vs/\vs[1]?=am (.str q t)
variable[cx]
def TB(H:Hp):Prop:=∀p∈cx.ts,∃ps,H p.1=am (.GR ps)/\TriplesOk ps.toList/\∀pos c,codeAmong pos ps.toList=am c->FzC H c p.2
def TB.mono(h:TB H)(h1:∀a ps,H a=am (.GR ps)->H' a=am (.GR ps))(h2:∀a o u vs,H a=am (.cn o u)->o.data=.fields vs->∃u,H' a=am (.cn o u)):TB H':=λp hp=>by
 obtain⟨ps,e,q,k⟩:=h p hp;refine⟨ps,h1 _ _ e,q,λpos c z=>?_⟩;obtain⟨a,o,u,vs,t,e1,e2,e3,e4⟩:=k pos c z;obtain⟨u',e5⟩:=h2 a o u vs e2 e3;exact⟨a,o,u',vs,t,e1,e5,e3,e4⟩
def TB.same(h:TB H)(s:jy H H'):TB H':=h.mono (λa _ z=>s a _ z) λa _ _ _ z _=>⟨_,s a _ z⟩
def TB.YO(t:TB H)(k:mH P w H h)(e:H a=am (.cn ob o))(ho:o.ow=true):TB (upd H a o):=
 t.mono (λb _ z=>by rw[ak (λy=>by subst y;rw[e]at z;cases z)];exact z) λb o' u vs z d=>⟨u,by
  rw[ak (λy=>by subst y;rw[e]at z;cases z;exact ady (k b _ e).2 (k b _ e).1 ho vs d)];exact z⟩
def TB.L5{ob:HO}(h:TB H)(s:lK a H H')(e:H a=am ob)(n1:ob.nt=true)(n2:∀o u,ob≠.cn o u):TB H':=
 h.mono (λb _ z=>s b _ (λy=>by subst y;rw[e]at z;cases z;cases n1) z) λb _ _ _ z _=>⟨_,s b _ (λy=>by subst y;rw[e]at z;cases z;exact n2 _ _ rfl) z⟩
def SL.own:SL->Bool
 |.val _=>false
 |.adr _ _ _ _=>false
 |_=>true
def SL.RN:SL->O db
 |.oll bs _=>bs
 |.ob _ _ fd=>fdB fd
 |_=>[]
def SL.has(s:SL)(x a:db):Prop:=a=x\/a∈s.RN
def JA:Nat:=2 ^ 250
def I0(H:Hp)(a:db)(ψ:Nat->O V->Prop)(n:Nat):Prop:=∃j vs,j<=n/\H a=am (.lst vs)/\ψ j vs/\∀b,V.ref b∈vs->dW H b
def iz(K:Ab)(H:Hp)(a:db):SL->Prop
 |.val _=>False
 |.adr b us ps fz=>a=b/\aF K [] H us ps/\FzO H fz
 |.oll bs ls=>H a=am (.lst (bs.map V.ref))/\a∉bs/\bs.Nodup/\bs.length=ls.length/\∀(j:Nat) (b:db) (l:O PV),bs[j]?=am b->ls[j]?=am l->∃ws,H b=am (.lst ws)/\aF K [] H ws l
 |.ol q l=>(∀b,q=am b->a=b)/\∃vs,H a=am (.lst vs)/\aF K [] H vs l
 |.od au=>∃vs:O (Key×V),H a=am (.dK vs)/\vs.map (·.1)=au.map (·.1)/\aF K [] H (vs.map (·.2)) (au.map (·.2))
 |.ot au=>∃vs:O (O Key×V),H a=am (.dT vs)/\vs.map (·.1)=au.map (·.1)/\aF K [] H (vs.map (·.2)) (au.map (·.2))
 |.dB ψ n m=>I0 H a ψ n/\n<=m/\m<=JA
 |.ob q C fd=>a=q/\Cls K C/\(∀p∈fd,Tn K C p.1)/\a∉fdB fd/\(fdB fd).Nodup/\∃dx ws,H a=am (.ins C dx ws)/\Tq K H ws fd
def rh(K:Ab)(H:Hp)(u:V)(s:SL):Prop:=(∃v,s=.val v/\VR K [] H u v)\/∃a,u=.ref a/\iz K H a s
def cy(σ:L2.St)(fs:aR)(a:db):Prop:=∃(i:Nat) (s:SL) (x:db),fs[i]?=am (am s)/\s.own=true/\σ[i]?=am (am (.ref x))/\s.has x a
def g9(σ:L2.St)(fs:aR)(ψ:Nat->O V->Prop)(m:Nat)(a:db):Prop:=∃i n:Nat,fs[i]?=am (am (.dB ψ n m))/\σ[i]?=am (am (.ref a))
structure Ev(fs aP:aR):Prop where
 len:fs.length=aP.length
 at':∀i:Nat,fs[i]?=aP[i]?\/∃ψ n n' m,fs[i]?=am (am (.dB ψ n m))/\aP[i]?=am (am (.dB ψ n' m))
structure aY(K:Ab)(H:Hp)(σ:L2.St)(fs:aR):Prop where
 len:σ.length=fs.length
 at':∀(i:Nat) (s:SL),fs[i]?=am (am s)->∃u,σ[i]?=am (am u)/\rh K H u s
 nd:∀(i j:Nat) (s t:SL) (x y a:db),fs[i]?=am (am s)->fs[j]?=am (am t)->s.own=true->t.own=true->σ[i]?=am (am (.ref x))->σ[j]?=am (am (.ref y))->s.has x a->t.has y a->i=j
 tb:TB H
structure cU(σ:L2.St)(fs:aR)(H:Hp)(σ':L2.St)(aP:aR)(H':Hp):Prop where
 keep:∀a o,H a=am o->¬cy σ fs a->(o.nt=true->H' a=am o)/\¬cy σ' aP a
 there:∀a,H' a=ce->H a=ce
 pk:∀a ψ m,g9 σ fs ψ m a->g9 σ' aP ψ m a\/(¬cy σ' aP a/\I0 H' a ψ m)
 x:∀b,dW H b->dW H' b
structure cE(σ:L2.St)(fs:aR)(H H':Hp)(aP:aR:=fs):Prop where
 keep:∀a o,H a=am o->(∀ψ m,¬g9 σ fs ψ m a)->(nt:‹o.nt=true›)->H' a=am o
 there:∀a,H' a=ce->H a=ce
 ev:Ev fs aP
 x:∀b,dW H b->dW H' b
section
variable{σ σ' σ1 σ2:L2.St}{fs aP aA fs2:aR}{H H' H1 H2:Hp}
def g9.fm{m:Nat}(p:g9 σ fs ψ m a):cy σ fs a:=let ⟨i,n,e1,e2⟩:=p;⟨i,_,_,e1,rfl,e2,.inl rfl⟩
def Ev.refl(fs:aR):Ev fs fs:=⟨rfl,λ_=>.inl rfl⟩
def Ev.symm(e:Ev fs aP):Ev aP fs:=⟨e.len.symm,λi=>(e.at' i).imp Eq.symm λ⟨ψ,n,n',m,a,b⟩=>⟨ψ,n',n,m,b,a⟩⟩
def Ev.trans(e:Ev fs aA)(k:Ev aA fs2):Ev fs fs2:=⟨e.len.trans k.len,λi=>by
 rcases e.at' i with h|⟨ψ,n,n',m,h1,h2⟩
 .rw[h];exact k.at' i
 .rcases k.at' i with h|⟨ψ',j,j',m',h3,h4⟩
  .exact .inr ⟨ψ,n,n',m,h1,h▸h2⟩
  .rw[h2]at h3;cases h3;exact .inr ⟨ψ,n,j',m,h1,h4⟩⟩
def Ev.get(e:Ev fs aP){t:SL}(h:aP[i]?=am (am t)):(fs[i]?=am (am t))\/∃ψ n n' m,t=.dB ψ n' m/\fs[i]?=am (am (.dB ψ n m)):=by
 rcases e.at' i with h2|⟨ψ,n,n',m,h1,h2⟩
 .exact .inl (h2.trans h)
 .rw[h]at h2;cases h2;exact .inr ⟨ψ,n,n',m,rfl,h1⟩
def Ev.same(e:Ev fs aP){t:SL}(h:fs[i]?=am (am t))(n:∀ψ j m,t≠.dB ψ j m):aP[i]?=am (am t):=(e.symm.get h).resolve_right λ⟨_,_,_,_,z,_⟩=>n _ _ _ z
def Ev.dB(e:Ev fs aP){m:Nat}(p:g9 σ aP ψ m a):g9 σ fs ψ m a:=by
 obtain⟨i,n,h1,h2⟩:=p;rcases e.get h1 with h|⟨_,j,_,_,h,k⟩
 .exact⟨i,n,h,h2⟩
 .cases h;exact⟨i,j,k,h2⟩
def Ev.fm(e:Ev fs aP)(p:cy σ aP a):cy σ fs a:=by
 obtain⟨i,t,x,h1,h2,h3,h4⟩:=p;rcases e.get h1 with h|⟨_,j,_,_,rfl,k⟩
 .exact⟨i,t,x,h,h2,h3,h4⟩
 .exact⟨i,_,x,k,rfl,h3,h4⟩
def cE.refl:cE σ fs H H:=⟨λ_ _ h _ _=>h,λ_ h=>h,.refl _,λ_ h=>h⟩
def cE.trans(a:cE σ fs H H1 aA)(b:cE σ aA H1 H2 fs2):cE σ fs H H2 fs2:=⟨λx o h n t=>b.keep x o (a.keep x o h n t) (λψ m p=>n ψ m (a.ev.dB p)) t,λx h=>a.there x (b.there x h),a.ev.trans b.ev,λx h=>b.x x (a.x x h)⟩
def cE.f(g:cE σ fs H H' aP):cU σ fs H σ aP H':=⟨λa o h n=>⟨λt=>g.keep a o h (λ_ _ p=>n p.fm) t,λz=>n (g.ev.fm z)⟩,g.there,λa ψ m p=>.inl (g.ev.symm.dB p),g.x⟩
def cE.uw(g:cE σ fs H H' aP)(h:H a=am o)(n:¬cy σ fs a)(t:‹o.nt=true›):H' a=am o:=g.keep a o h (λ_ _ p=>n p.fm) t
def cE.same(h:jy H H'):cE σ fs H H':=⟨λa o e _ _=>h a o e,λa e=>(by
 cases z:H a with
 |none=>rfl
 |some o=>rw[h a o z]at e;cases e),.refl _,λ_ z=>h _ _ z⟩
def Tq.ex{fd:O (Str×FD)}(h:Tq K H ws fd){c:db}(hc:c∈fdB fd):∃vs,H c=am (.lst vs):=by
 induction h with
 |nil=>cases hc
 |v r t ih=>exact ih hc
 | @o n b vs l ws fd e r t ih=>
  rcases AB.mp (hc) with rfl|hc
  .exact⟨vs,e⟩
  .exact ih hc
def iz.ex{c:db}{s:SL}(h:iz K H a s)(ho:s.own=true)(hc:s.has a c):∃o,H c=am o/\(∀vs,o≠.tup vs)/\(∀ob u,o≠.cn ob u)/\o.ow=true:=by
 cases s with
 |val _=>exact h.elim
 |adr _ _ _ _=>cases ho
 |ol q l=>obtain⟨_,vs,e,_⟩:=h;rcases hc with rfl|hc;exact⟨_,e,by simp,by simp,rfl⟩;cases hc
 |oll bs ls=>
  obtain⟨e,_,_,hl,hb⟩:=h;rcases hc with rfl|hc
  .exact⟨_,e,by simp,by simp,rfl⟩
  .obtain⟨j,hj⟩:=List.getElem?_of_mem (hc);obtain⟨ws,e,_⟩:=hb j c _ hj (Ad (by rw[<- hl];exact((Aj.mp hj).1)));exact⟨_,e,by simp,by simp,rfl⟩
 |od l=>obtain⟨vs,e,_⟩:=h;rcases hc with rfl|hc;exact⟨_,e,by simp,by simp,rfl⟩;cases hc
 |ot l=>obtain⟨vs,e,_⟩:=h;rcases hc with rfl|hc;exact⟨_,e,by simp,by simp,rfl⟩;cases hc
 |dB ψ n m=>obtain⟨⟨_,vs,_,e,_⟩,_⟩:=h;rcases hc with rfl|hc;exact⟨_,e,by simp,by simp,rfl⟩;cases hc
 |ob q C fd=>
  obtain⟨_,_,_,_,_,dx,ws,e,r⟩:=h;rcases hc with rfl|hc
  .exact⟨_,e,by simp,by simp,rfl⟩
  .obtain⟨vs,e⟩:=r.ex hc;exact⟨_,e,by simp,by simp,rfl⟩
def aY.ownAt(s:aY K H σ fs){t:SL}(h1:fs[i]?=am (am t))(h2:t.own=true)(h3:σ[i]?=am (am (.ref a))):iz K H a t:=by
 obtain⟨u,e,r⟩:=s.at' i t h1;rw[h3]at e;cases e;rcases r with⟨v,rfl,_⟩|⟨b,e,r⟩
 .cases h2
 .cases e;exact r
def aY.fm(s:aY K H σ fs)(h:cy σ fs a):∃o,H a=am o/\(∀vs,o≠.tup vs)/\(∀ob u,o≠.cn ob u)/\o.ow=true:=by
 obtain⟨i,t,x,h1,h2,h3,h4⟩:=h;exact(s.ownAt h1 h2 h3).ex h2 h4
def aY.noOwn(s:aY K H σ fs)(h:H a=ce):¬cy σ fs a:=λz=>by
 obtain⟨o,e,_⟩:=s.fm z;rw[h]at e;cases e
def aY.ZQ(s:aY K H σ fs)(h:H a=am (.tup vs)):¬cy σ fs a:=λz=>by
 obtain⟨o,e,n,_⟩:=s.fm z;rw[h]at e;cases e;exact n vs rfl
def aY.ZR(s:aY K H σ fs)(h:H a=am (.cn ob u)):¬cy σ fs a:=λz=>by
 obtain⟨o,e,_,n,_⟩:=s.fm z;rw[h]at e;cases e;exact n ob u rfl
def aY.ZP(s:aY K H σ fs)(h:H a=am (.ext φ)):¬cy σ fs a:=λz=>by
 obtain⟨o,e,_,_,n⟩:=s.fm z;rw[h]at e;cases e;cases n
def cU.refl:cU σ fs H σ fs H:=⟨λ_ _ h n=>⟨λ_=>h,n⟩,λ_ h=>h,λ_ _ _ h=>.inl h,λ_ h=>h⟩
def cU.Vi(a:cU σ fs H σ1 aA H1)(b:cU σ1 aA H1 σ2 fs2 H2)(h:H x=am o)(n:¬cy σ fs x):¬cy σ2 fs2 x:=by
 cases z:H1 x with
 |none=>rw[a.there x z]at h;cases h
 |some o1=>exact(b.keep x o1 z ((a.keep x o h n).2)).2
def cU.trans(a:cU σ fs H σ1 aA H1)(b:cU σ1 aA H1 σ2 fs2 H2):cU σ fs H σ2 fs2 H2:=
 ⟨λx o h n=>⟨λt=>let ⟨h1,n1⟩:=a.keep x o h n;(b.keep x o (h1 t) n1).1 t,a.Vi b h n⟩,λx h=>a.there x (b.there x h),λx ψ m h=>(a.pk x ψ m h).elim (b.pk x ψ m) λ⟨n,j,vs,hj,e,p,q⟩=>.inr (let ⟨h1,n1⟩:=b.keep x _ e n;⟨n1,j,vs,hj,h1 rfl,p,λc hc=>b.x c (q c hc)⟩),λc h=>b.x c (a.x c h)⟩
def cU.di(g:cU σ fs H σ' aP H')(s:aY K H σ fs):bz K H H':=
 ⟨λa vs h=>(g.keep a _ h (s.ZQ h)).1 rfl,λa o u h=>(g.keep a _ h (s.ZR h)).1 rfl,g.x⟩
def VR.tk{u:V}(t:bz K H H')(r:VR K [] H u v):VR K [] H' u v:=r.mono t λ_ _ e=>e
def aF.tk{u:O V}{v:O PV}(t:bz K H H')(r:aF K [] H u v):aF K [] H' u v:=r.mono t λ_ _ e=>e
def cU.vr(g:cU σ fs H σ' aP H')(s:aY K H σ fs){u:V}(r:VR K [] H u v):VR K [] H' u v:=VR.tk (g.di s) r
def cE.di(g:cE σ fs H H' aP)(s:aY K H σ fs):bz K H H':=g.f.di s
def cE.vr(g:cE σ fs H H' aP)(s:aY K H σ fs){u:V}(r:VR K [] H u v):VR K [] H' u v:=VR.tk (g.di s) r
def cE.Na(g:cE σ fs H H' aP)(s:aY K H σ fs){u:O V}{v:O PV}(r:aF K [] H u v):aF K [] H' u v:=aF.tk (g.di s) r
def Tq.mono{fd:O (Str×FD)}(t:bz K H H')(h:Tq K H ws fd)(e:∀c vs,c∈fdB fd->H c=am (.lst vs)->H' c=am (.lst vs)):Tq K H' ws fd:=by
 induction h with
 |nil=>exact .nil
 |v r _ ih=>exact .v (VR.tk t r) (ih e)
 | @o n b vs l ws fd q r _ ih=>exact .o (e b vs (.head _) q) (aF.tk t r) (ih λc vs hc=>e c vs (.tail _ hc))
def iz.mono{s:SL}(t:bz K H H')(e:∀c o,s.own=true->s.has a c->H c=am o->o.nt=true->H' c=am o)(h:iz K H a s):iz K H' a s:=by
 cases s with
 |val _=>exact h
 |adr _ _ _ _=>exact⟨h.1,aF.tk t h.2.1,h.2.2.tk t⟩
 |ol _ l=>obtain⟨z,vs,q,r⟩:=h;exact⟨z,vs,e _ _ rfl (.inl rfl) q rfl,aF.tk t r⟩
 |oll bs ls=>
  obtain⟨z,h1,h2,h3,h4⟩:=h;refine⟨e _ _ rfl (.inl rfl) z rfl,h1,h2,h3,λj b l hb hl=>?_⟩;obtain⟨ws,q,r⟩:=h4 j b l hb hl;exact⟨ws,e _ _ rfl (.inr (Bd hb)) q rfl,aF.tk t r⟩
 |od l=>obtain⟨vs,q,k,r⟩:=h;exact⟨vs,e _ _ rfl (.inl rfl) q rfl,k,aF.tk t r⟩
 |ot l=>obtain⟨vs,q,k,r⟩:=h;exact⟨vs,e _ _ rfl (.inl rfl) q rfl,k,aF.tk t r⟩
 |dB ψ n m=>obtain⟨⟨j,vs,hj,q,k,z⟩,r⟩:=h;exact⟨⟨j,vs,hj,e _ _ rfl (.inl rfl) q rfl,k,λb hb=>t.x b (z b hb)⟩,r⟩
 |ob q C fd=>obtain⟨h0,h1,h2,h3,h4,dx,ws,q,r⟩:=h;exact⟨h0,h1,h2,h3,h4,dx,ws,e _ _ rfl (.inl rfl) q rfl,r.mono t λc vs hc q=>e c _ rfl (.inr hc) q rfl⟩
def rh.mono{u:V}{s:SL}(t:bz K H H')(e:∀x a o,u=.ref x->s.own=true->s.has x a->H a=am o->o.nt=true->H' a=am o)(h:rh K H u s):rh K H' u s:=by
 rcases h with⟨v,q,r⟩|⟨a,q,r⟩
 .exact .inl ⟨v,q,VR.tk t r⟩
 .exact .inr ⟨a,q,r.mono t (λc o z y w nt=>e a c o q z y w nt)⟩
def aY.same(s:aY K H σ fs)(h:jy H H'):aY K H' σ fs:=⟨s.len,λi t e=>let ⟨u,h1,h2⟩:=s.at' i t e;⟨u,h1,h2.mono h.eL (λ_ a o _ _ _ z _=>h a o z)⟩,s.nd,s.tb.same h⟩
def cU.same(h:jy H H')(s:aY K H σ fs):cU σ fs H σ fs H':=⟨λa o e n=>⟨λ_=>h a o e,n⟩,λa e=>(by
 cases z:H a with
 |none=>rfl
 |some o=>rw[h a o z]at e;cases e),λa ψ m p=>.inl p,λ_ z=>h _ _ z⟩
inductive dH:aR->aR->Prop
 |nil:dH [] []
 |drop {s:Option SL}{a b:aR} (h:dH a b):dH (s::a) (ce::b)
 |keep {s:Option SL}{a b:aR} (h:dH a b):dH (s::a) (s::b)
 |bump {ψ:Nat->List V->Prop}{n n' m:Nat}{a b:aR} (h:dH a b) (k:n<=n'/\n'<=m):dH (am (.dB ψ n m)::a) (am (.dB ψ n' m)::b)
def LeS(s t:SL):Prop:=s=t\/∃ψ n n' m,s=.dB ψ n m/\t=.dB ψ n' m/\n<=n'/\n'<=m
theorem dH.at{a b:aR}(h:dH a b):∀(i:Nat) (s:SL),b[i]?=am (am s)->∃t,a[i]?=am (am t)/\LeS t s:=by
 induction h with
 |nil=>intro i s e;simp at e
 |drop h ih=>intro i s e;cases i with|zero=>simp at e|succ i=>simp at e ⊢;exact ih i s e
 |keep h ih=>intro i s e;cases i with|zero=>exact⟨s,by simpa using e,.inl rfl⟩|succ i=>simp at e ⊢;exact ih i s e
 | @bump ψ n n' m a b h k ih=>intro i s e;cases i with|zero=>(simp at e;subst e;exact⟨_,rfl,.inr ⟨ψ,n,n',m,rfl,rfl,k⟩⟩)|succ i=>simp at e ⊢;exact ih i s e
theorem dH.length{a b:aR}(h:dH a b):a.length=b.length:=by induction h<;>simp_all
theorem dH.refl:∀a:aR,dH a a
 |[]=>.nil
 |_::a=>.keep (dH.refl a)
def LeS.own{s t:SL}(h:LeS s t):s.own=t.own:=by rcases h with rfl|⟨_,_,_,_,rfl,rfl,_⟩<;>rfl
def LeS.has{s t:SL}(h:LeS s t)(k:t.has x a):s.has x a:=by
 rcases h with rfl|⟨_,_,_,_,rfl,rfl,_⟩
 .exact k
 .exact k
def LeS.slot{s t:SL}(h:LeS s t){u:V}(k:rh K H u s):rh K H u t:=by
 rcases h with rfl|⟨ψ,n,n',m,rfl,rfl,h1,h2⟩
 .exact k
 .rcases k with⟨v,e,_⟩|⟨a,e,⟨j,vs,hj,q⟩,_,hm⟩
  .cases e
  .exact .inr ⟨a,e,⟨j,vs,AD hj h1,q⟩,h2,hm⟩
def aY.le(s:aY K H σ fs)(h:dH fs aP):aY K H σ aP:=⟨s.len.trans h.length,λi t e=>let ⟨_,e2,l⟩:=h.at i t e;let ⟨u,h1,h2⟩:=s.at' i _ e2;⟨u,h1,l.slot h2⟩,λi j t u x y a e1 e2 o1 o2 q1 q2 z1 z2=>let ⟨_,f1,l1⟩:=h.at i t e1;let ⟨_,f2,l2⟩:=h.at j u e2;s.nd i j _ _ x y a f1 f2 (l1.own▸o1) (l2.own▸o2) q1 q2 (l1.has z1) (l2.has z2),s.tb⟩
def cy.le(h:dH fs aP)(o:cy σ aP a):cy σ fs a:=let ⟨i,t,x,e1,e2,e3,e4⟩:=o;let ⟨t',f1,l⟩:=h.at i t e1;⟨i,t',x,f1,l.own▸e2,e3,l.has e4⟩
def aY.free(s:aY K H σ fs){m:Nat}(p:g9 σ fs ψ m a):I0 H a ψ m:=by
 obtain⟨i,n,e1,e2⟩:=p;obtain⟨⟨j,vs,hj,q⟩,h1,_⟩:=s.ownAt e1 rfl e2;exact⟨j,vs,AD hj h1,q⟩
def cU.le(s:aY K H σ fs)(h:dH fs aP):cU σ fs H σ aP H:=⟨λa o e n=>⟨λ_=>e,λz=>n (z.le h)⟩,λ_ e=>e,λa ψ m p=>by
 have fr:=s.free p;obtain⟨i,n,e1,e2⟩:=p;by_cases c:cy σ aP a
 .obtain⟨j,t,x,c1,c2,c3,c4⟩:=c;obtain⟨t',f1,l⟩:=h.at j t c1;have ij:=s.nd i j _ t' a x a e1 f1 rfl (l.own▸c2) e2 c3 (.inl rfl) (l.has c4);subst ij;rw[e1]at f1;cases f1;rcases l with rfl|⟨_,_,n',_,l1,rfl,_⟩
  .exact .inl ⟨i,n,c1,e2⟩
  .cases l1;exact .inl ⟨i,n',c1,e2⟩
 .exact .inr ⟨c,fr⟩,λ_ h=>h⟩
def cH{l:O (Option α)}{x y:α}(h:(l.set i (am x))[j]?=am (am y)):(j=i/\y=x)\/(j≠i/\l[j]?=am (am y)):=by
 by_cases c:j=i
 .subst c;rw[EJ]at h;simp at h;exact .inl ⟨rfl,h.2.symm⟩
 .rw[Ce (λz=>c z.symm)]at h;exact .inr ⟨c,h⟩
def bc{l:List α}{x:α}(h:i<l.length):(l.set i x)[i]?=am x:=by rw[EJ];simp[h]
def aD{l:List α}{x:α}(h:j≠i):(l.set i x)[j]?=l[j]?:=Ce (λz=>h z.symm)
def aY.put(s:aY K H σ fs){u:V}{t:SL}(hr:rh K H u t)(hf:∀x a,u=.ref x->t.own=true->t.has x a->∀(j:Nat) (w:SL) (y:db),j≠i->fs[j]?=am (am w)->w.own=true->σ[j]?=am (am (.ref y))->¬w.has y a):aY K H (σ.set i (am u)) (fs.set i (am t)):=by
 refine⟨by simp[s.len],λj w e=>?_,λj k w x b1 b2 a e1 e2 o1 o2 q1 q2 z1 z2=>?_,s.tb⟩
 .rcases cH e with⟨rfl,rfl⟩|⟨n,e⟩
  .have hl:j < σ.length:=by
    have:=(Aj.mp e).1;rw[BL]at this;rw[s.len];exact this
   exact⟨u,bc hl,hr⟩
  .obtain⟨v,h1,h2⟩:=s.at' j w e;exact⟨v,by rw[aD n];exact h1,h2⟩
 .rcases cH e1 with⟨y1,y2⟩|⟨n1,f1⟩<;>rcases cH e2 with⟨y3,y4⟩|⟨n2,f2⟩
  .exact y1.trans y3.symm
  .subst y1;subst y2;rw[aD n2]at q2;have hl:j < σ.length:=by have:=(Aj.mp q1).1;simpa using this
   rw[bc hl]at q1;cases q1;exact absurd z2 (hf _ a rfl o1 z1 k x b2 n2 f2 o2 q2)
  .subst y3;subst y4;rw[aD n1]at q1;have hl:k < σ.length:=by have:=(Aj.mp q2).1;simpa using this
   rw[bc hl]at q2;cases q2;exact absurd z1 (hf _ a rfl o2 z2 j w b1 n1 f1 o1 q1)
  .rw[aD n1]at q1;rw[aD n2]at q2;exact s.nd j k w x b1 b2 a f1 f2 o1 o2 q1 q2 z1 z2
def aY.hJ(s:aY K H σ fs){u:V}(hr:VR K [] H u v)(i:Nat):aY K H (σ.set i (am u)) (fs.set i (am (.val v))):=s.put (.inl ⟨v,rfl,hr⟩) λ_ _ _ z=>by cases z
def kW{u:V}{t:SL}(o:cy (σ.set i (am u)) (fs.set i (am t)) a)(hl:σ.length=fs.length):cy σ fs a\/∃x,u=.ref x/\t.own=true/\t.has x a:=by
 obtain⟨j,w,x,e1,e2,e3,e4⟩:=o;rcases cH e1 with⟨rfl,rfl⟩|⟨n,e1⟩
 .have h2:j < σ.length:=by have:=(Aj.mp e3).1;simpa using this
  rw[bc h2]at e3;cases e3;exact .inr ⟨x,rfl,e2,e4⟩
 .rw[aD n]at e3;exact .inl ⟨j,w,x,e1,e2,e3,e4⟩
def yt(s:aY K H σ fs){u:V}{t:SL}{m:Nat}(p:g9 σ fs ψ m a)(hu:∀x,u=.ref x->t.own=true->t.has x a->∃n,t=.dB ψ n m):g9 (σ.set i (am u)) (fs.set i (am t)) ψ m a\/¬cy (σ.set i (am u)) (fs.set i (am t)) a:=by
 obtain⟨j,n,e1,e2⟩:=p;by_cases c:j=i
 .subst c;by_cases c2:∃x,u=.ref x/\t.own=true/\t.has x a
  .obtain⟨x,c3,c4,c5⟩:=c2;obtain⟨n',rfl⟩:=hu x c3 c4 c5;rcases c5 with rfl|c5
   .exact .inl ⟨j,n',by rw[bc ((Aj.mp e1).1)],by rw[bc ((Aj.mp e2).1),c3]⟩
   .cases c5
  .refine .inr λo=>?_;obtain⟨k,w,y,q1,q2,q3,q4⟩:=o;rcases cH q1 with⟨rfl,rfl⟩|⟨n,q1⟩
   .rw[bc ((Aj.mp e2).1)]at q3;cases q3;exact c2 ⟨y,rfl,q2,q4⟩
   .rw[aD n]at q3;exact n (s.nd k j w _ y a a q1 e1 q2 rfl q3 e2 q4 (.inl rfl))
 .exact .inl ⟨j,n,by rw[aD c];exact e1,by rw[aD c];exact e2⟩
def cU.hJ(s:aY K H σ fs)(u:V)(v:PV)(i:Nat):cU σ fs H (σ.set i (am u)) (fs.set i (am (.val v))) H:=
 ⟨λa o e n=>⟨λ_=>e,λz=>(kW z s.len).elim n λ⟨_,_,z,_⟩=>by cases z⟩,λ_ e=>e,λa ψ m p=>(yt s p (λ_ _ z=>by cases z)).imp id λn=>⟨n,s.free p⟩,λ_ h=>h⟩
def aY.Qz(s:aY K H σ fs){t:SL}(hr:iz K H a t)(hn:∀c,t.has a c->¬cy σ fs c)(i:Nat):aY K H (σ.set i (am (.ref a))) (fs.set i (am t)):=s.put (.inr ⟨a,rfl,hr⟩) λx c e _ hc j w y n e1 e2 e3 z=>by
 cases e;exact hn c hc ⟨j,w,y,e1,e2,e3,z⟩
def zg{t:SL}(hi:t.RN=[]){c:db}(h:t.has a c):c=a:=by
 rcases h with h|h
 .exact h
 .rw[hi]at h;cases h
def aY.yp(s:aY K H σ fs){t:SL}(hr:iz K H a t)(hn:¬cy σ fs a)(i:Nat)(hi:‹t.RN=[]›):aY K H (σ.set i (am (.ref a))) (fs.set i (am t)):=s.Qz hr (λc hc=>by rw[zg hi hc];exact hn) i
def cU.Qz(s:aY K H1 σ aA)(g:cE σ fs H H1 aA){t:SL}(hn:∀c,t.has a c->¬cy σ aA c)(h0:∀c,t.has a c->H c=ce)(i:Nat):cU σ fs H (σ.set i (am (.ref a))) (aA.set i (am t)) H1:=by
 refine⟨λb o e n=>⟨(g.f.keep b o e n).1,λz=>(kW z s.len).elim (g.f.keep b o e n).2 λ⟨x,z,_,y⟩=>?_⟩,g.there,λb ψ m p=>?_,g.x⟩
 .cases z;rw[h0 b y]at e;cases e
 .have p:=g.ev.symm.dB p;refine(yt s p (λx z o y=>?_)).imp id λn=>⟨n,s.free p⟩;cases z;exact absurd p.fm (hn b y)
def cU.yp(s:aY K H1 σ aA)(g:cE σ fs H H1 aA){t:SL}(hn:¬cy σ aA a)(h0:H a=ce)(i:Nat)(hi:‹t.RN=[]›):cU σ fs H (σ.set i (am (.ref a))) (aA.set i (am t)) H1:=cU.Qz s g (λc hc=>by rw[zg hi hc];exact hn) (λc hc=>by rw[zg hi hc];exact h0) i
inductive pP:aR->aR->Prop
 |refl (a:aR):pP a a
 |keep {s:Option SL}{a b:aR} (h:pP a b):pP (s::a) (s::b)
 |bump {ψ:Nat->List V->Prop}{n n' m:Nat}{a b:aR} (k:n<=n'/\n'<=m) (h:pP a b):pP (am (.dB ψ n m)::a) (am (.dB ψ n' m)::b)
def pP.f{a b:aR}(h:pP a b):dH a b:=by
 induction h with
 |refl a=>exact .refl a
 |keep _ ih=>exact .keep ih
 |bump k _ ih=>exact .bump ih k
def Ev.cons{a b:aR}(e:Ev a b){s t:Option SL}(h:s=t\/∃ψ n n' m,s=am (.dB ψ n m)/\t=am (.dB ψ n' m)):Ev (s::a) (t::b):=⟨by simp[e.len],λi=>by
 cases i with
 |zero=>exact h.imp (λz=>by rw[z];rfl) λ⟨ψ,n,n',m,z,y⟩=>⟨ψ,n,n',m,by rw[z];rfl,by rw[y];rfl⟩
 |succ i=>simpa using e.at' i⟩
def pP.ev{a b:aR}(h:pP a b):Ev a b:=by
 induction h with
 |refl a=>exact .refl a
 |keep _ ih=>exact ih.cons (.inl rfl)
 | @bump ψ n n' m _ _ _ _ ih=>exact ih.cons (.inr ⟨ψ,n,n',m,rfl,rfl⟩)
def Ev.nd(ev:Ev fs aP)(s:aY K H σ fs)(i j:Nat)(t u:SL)(x y a:db)(e1:aP[i]?=am (am t))(e2:aP[j]?=am (am u))(o1:t.own=true)(o2:u.own=true)(q1:σ[i]?=am (am (.ref x)))(q2:σ[j]?=am (am (.ref y)))(z1:t.has x a)(z2:u.has y a):i=j:=by
 have f:∀{j:Nat}{t:SL}{x:db},aP[j]?=am (am t)->t.own=true->t.has x a->∃t',fs[j]?=am (am t')/\t'.own=true/\t'.has x a:=λ{j t x} e o z=>by
  rcases ev.get e with k|⟨_,_,_,_,rfl,k⟩
  .exact⟨t,k,o,z⟩
  .exact⟨_,k,rfl,z⟩
 obtain⟨t',a1,a2,a3⟩:=f e1 o1 z1;obtain⟨u',b1,b2,b3⟩:=f e2 o2 z2;exact s.nd i j t' u' x y a a1 b1 a2 b2 q1 q2 a3 b3
def cE.le{a b:aR}(g:cE σ fs H H' a)(h:pP a b):cE σ fs H H' b:=⟨λc o e n t=>g.keep c o e n t,g.there,g.ev.trans h.ev,g.x⟩
def Hk(s:aY K H σ fs){t t':SL}{c:db}(e1:fs[i]?=am (am t))(o:t.own=true)(np:∀ψ n m,t≠.dB ψ n m)(e2:σ[i]?=am (am (.ref a)))(hc:t.has a c)(ø:t'.has a c)(sP:∀b,t'.has a b->t.has a b)(o':t'.own=true)(sx:lK c H H')(ht:bz K H H'->iz K H' a t'):aY K H' σ (fs.set i (am t'))/\cU σ fs H σ (fs.set i (am t')) H':=by
 have oa:=s.ownAt e1 o e2;obtain⟨ob,q,n1,n2,n3⟩:=oa.ex o hc;have tk:bz K H H':=⟨λb vs z=>sx b _ (λy=>by subst y;rw[q]at z;cases z;exact n1 _ rfl) z,λb o u z=>sx b _ (λy=>by subst y;rw[q]at z;cases z;exact n2 _ _ rfl) z,xk λb φ z=>sx b _ (λy=>by subst y;rw[q]at z;cases z;cases n3) z⟩;have ï:=ht tk;have hi:i<fs.length:=(Aj.mp e1).1;have U5:∀b,cy σ (fs.set i (am t')) b->cy σ fs b:=λb z=>by
  obtain⟨j,w,x,z1,z2,z3,z4⟩:=z;rcases cH z1 with⟨rfl,rfl⟩|⟨n,z1⟩
  .rw[e2]at z3;cases z3;exact⟨j,t,a,e1,o,e2,sP b z4⟩
  .exact⟨j,w,x,z1,z2,z3,z4⟩
 refine⟨⟨by simp[s.len],λj w e=>?_,λj k w x b1 b2 b z1 z2 o1 o2 q1 q2 y1 y2=>?_,s.tb.L5 sx q (QW n3) n2⟩,⟨λb ob e n=>⟨λ_=>sx b ob (λz=>by subst z;exact n ⟨i,t,a,e1,o,e2,hc⟩) e,λz=>n (U5 b z)⟩,λb e=>?_,λb ψ m p=>?_,tk.x⟩⟩
 .rcases cH e with⟨rfl,rfl⟩|⟨n,e⟩
  .exact⟨_,e2,.inr ⟨a,rfl,ï⟩⟩
  .obtain⟨u,h1,h2⟩:=s.at' j w e;refine⟨u,h1,h2.mono tk (λx b ob eb ow hb z _=>sx b ob (λy=>?_) z)⟩;subst y;subst eb;exact n (s.nd j i w t x a b e e1 ow o h1 e2 hb hc)
 .have f:∀{j:Nat}{w:SL}{y:db},(fs.set i (am t'))[j]?=am (am w)->w.own=true->σ[j]?=am (am (.ref y))->w.has y b->∃w',fs[j]?=am (am w')/\w'.own=true/\w'.has y b:=λ{j w y} z ow qy hy=>by
   rcases cH z with⟨rfl,rfl⟩|⟨n,z⟩
   .rw[e2]at qy;cases qy;exact⟨t,e1,o,sP b hy⟩
   .exact⟨w,z,ow,hy⟩
  obtain⟨w',a1,a2,a3⟩:=f z1 o1 q1 y1;obtain⟨x',c1,c2,c3⟩:=f z2 o2 q2 y2;exact s.nd j k w' x' b1 b2 b a1 c1 a2 c2 q1 q2 a3 c3
 .cases z:H b with
  |none=>rfl
  |some ob=>
   by_cases cc:b=c
   .subst cc;obtain⟨o2,y,_⟩:=ï.ex o' ø;rw[e]at y;cases y
   .rw[sx b ob cc z]at e;cases e
 .obtain⟨j,k,p1,p2⟩:=p;have ji:j≠i:=λz=>by subst z;rw[e1]at p1;cases p1;exact np ψ k m rfl
  exact .inl ⟨j,k,by rw[aD ji];exact p1,p2⟩
def m9(s:aY K H σ fs){t t':SL}(e1:fs[i]?=am (am t))(o:t.own=true)(np:∀ψ n m,t≠.dB ψ n m)(e2:σ[i]?=am (am (.ref a)))(sx:lK a H H')(ht:bz K H H'->iz K H' a t')(hi:‹t'.RN=t.RN›)(o':‹t'.own=true›):aY K H' σ (fs.set i (am t'))/\cU σ fs H σ (fs.set i (am t')) H':=
 Hk s e1 o np e2 (.inl rfl) (.inl rfl) (λb h=>by unfold SL.has at h ⊢;rw[hi]at h;exact h) o' sx ht
end
end
end FL
open FL.W renaming bind→bn,ret→ca,run_bind→f8,aa→lc,ag→nn,ao→re,aJ→Da,mono→Ix,ext'→Ps
local macro_rules | `($a\$b)=>`(bn (ca $a) $b)
variable{x:Cf}{u:L2.V}{b:BC}{fs aP aA fs2 fs3:FL.aR}{es:O BC}{σ':L2.St}{wa wb wc:FL.W PL.PV}{wl:FL.W (O PL.PV)}
namespace FL
section
variable[cx]
variable{K:Ab}
def fE(K:Ab)(fs:aR)(w:W PV)(aP:aR:=fs):TE:=λσ H Q=>aY K H σ fs/\w.run λv=>∀u H',cE σ fs H H' aP->aY K H' σ aP->VR K [] H' u v->Q u H'
def fT(K:Ab)(fs:aR)(w:W Bool)(aP:aR:=fs):TT:=λσ H Q=>aY K H σ fs/\w.run λb=>∀H',cE σ fs H H' aP->aY K H' σ aP->Q b H'
def fO(K:Ab)(fs:aR)(w:W (Option Int))(aP:aR:=fs):TO:=λσ H Q=>aY K H σ fs/\w.run λb=>∀H',cE σ fs H H' aP->aY K H' σ aP->Q b H'
def fL(K:Ab)(fs:aR)(w:W (O PV))(aP:aR:=fs):TE:=λσ H Q=>aY K H σ fs/\w.run λl=>∀a vs H',cE σ fs H H' aP->aY K H' σ aP->H a=ce->H' a=am (.lst vs)->aF K [] H' vs l->Q (.ref a) H'
def SqI(K:Ab)(H:Hp)(u:V)(l:O PV):Prop:=∃a vs,u=.ref a/\(Jj K H a vs\/H a=am (.tup vs))/\aF K [] H vs l
def WU(K:Ab)(σ:L2.St)(fs:aR)(H:Hp)(u:V)(l:O PV):Prop:=SqI K H u l\/∃a,u=.ref a/\((¬cy σ fs a/\∃vs,H a=am (.lst vs)/\aF K [] H vs l)\/∃(i:Nat) (q:Option db),fs[i]?=am (am (.ol q l))/\σ[i]?=am (am (.ref a)))
def fQ(K:Ab)(fs:aR)(w:W (O PV))(aP:aR:=fs):TE:=λσ H Q=>aY K H σ fs/\w.run λl=>∀u H',cE σ fs H H' aP->aY K H' σ aP->WU K σ aP H' u l->Q u H'
def fI(K:Ab)(fs:aR)(w:W (O PV))(aP:aR:=fs):TE:=λσ H Q=>aY K H σ fs/\w.run λl=>∀u H',cE σ fs H H' aP->aY K H' σ aP->SqI K H' u l->Q u H'
inductive AK where
 |v|p (ψ:Nat->List V->Prop) (d:Nat)|f (a:db) (us:List V) (ps:List PV) (fz:List (db×Obj))
inductive gj(K:Ab)(H:Hp):List V->List AK->List PV->Prop
 |nil:gj K H [] [] []
 |v {u:V}{x:PV}{vs:List V}{ks:List AK}{l:List PV} (r:VR K [] H u x) (t:gj K H vs ks l):gj K H (u::vs) (.v::ks) (x::l)
 |f {a:db}{us vs:List V}{ps:List PV}{fz:List (db×Obj)}{ks:List AK}{l:List PV} (r:aF K [] H us ps) (z:FzO H fz) (t:gj K H vs ks l):gj K H (.ref a::vs) (.f a us ps fz::ks) l
def fA(K:Ab)(fs:aR)(ks:O AK)(w:W (O PV))(aP:aR:=fs):TA:=λσ H Q=>aY K H σ fs/\w.run λl=>∀vs H',cE σ fs H H' aP->aY K H' σ aP->gj K H' vs ks l->Q vs H'
structure EF(X:Cx)(K:Ab)(fs:aR)(e:mo)(w:W PV)(aP:aR:=fs):Prop where p:PE X e (fE K fs w aP)
structure LF(X:Cx)(K:Ab)(fs:aR)(e:mo)(w:W (List PV))(aP:aR:=fs):Prop where p:PE X e (fL K fs w aP)
structure QF(X:Cx)(K:Ab)(fs:aR)(e:mo)(w:W (List PV))(aP:aR:=fs):Prop where p:PE X e (fQ K fs w aP)
structure IF(X:Cx)(K:Ab)(fs:aR)(e:mo)(w:W (List PV))(aP:aR:=fs):Prop where p:PE X e (fI K fs w aP)
structure TF(X:Cx)(K:Ab)(fs:aR)(e:mo)(w:W Bool)(aP:aR:=fs):Prop where p:PT X e (fT K fs w aP)
structure M4(X:Cx)(K:Ab)(fs:aR)(e:mo)(w:W Bool)(aP:aR:=fs):Prop where p:PW X e (fT K fs w aP)
structure OF(X:Cx)(K:Ab)(fs:aR)(e:Option mo)(w:W (Option Int))(aP:aR:=fs):Prop where p:L2.PO X e (fO K fs w aP)
structure AF(X:Cx)(K:Ab)(fs:aR)(es:List mo)(ks:List AK){R:Type}(B:(List PV->W R)->W R)(aP:aR:=fs):Prop where
 p:∃w:W (List PV),PA X es (fA K fs ks w aP)/\∀k,B k=bn w k
section
def SqI.tk{l:O PV}(t:bz K H H')(h:SqI K H u l):SqI K H' u l:=by
 obtain⟨a,vs,e,q,r⟩:=h;exact⟨a,vs,e,q.imp (t.f _ _) (t.t _ _),aF.tk t r⟩
def WU.go{l:O PV}(h:WU K σ fs H u l)(s:aY K H σ fs)(g:cE σ fs H H' aP):WU K σ aP H' u l:=by
 rcases h with h|⟨a,e,⟨n,vs,q,r⟩|q⟩
 .exact .inl (h.tk (g.di s))
 .exact .inr ⟨a,e,.inl ⟨λz=>n (g.ev.fm z),vs,(g.uw q n),g.Na s r⟩⟩
 .obtain⟨i,q0,h1,h2⟩:=q;exact .inr ⟨a,e,.inr ⟨i,q0,g.ev.same h1 (by simp),h2⟩⟩
def WU.sq{l:O PV}(h:WU K σ fs H u l)(s:aY K H σ fs):∃a vs,u=.ref a/\(b9 K H a vs\/dU K H a vs)/\aF K [] H vs l:=by
 rcases h with⟨a,vs,e,q,r⟩|⟨a,e,⟨n,vs,q,r⟩|⟨i,_,q1,q2⟩⟩
 .exact⟨a,vs,e,q.elim (λq=>.inl q.sq) λq=>.inr (dU.of q),r⟩
 .exact⟨a,vs,e,.inl (b9.of q),r⟩
 .obtain⟨_,vs,q,r⟩:=s.ownAt q1 rfl q2;exact⟨a,vs,e,.inl (b9.of q),r⟩
end
section
variable{a c o:mo}{rest:O mo}{w:W PV}
def EF.le(h:EF X K fs e w aA)(l:pP aA fs2):EF X K fs e w fs2:=⟨PE.imp h.p λσ H Q ⟨sr,q⟩=>⟨sr,w.mono (λv q u H' g s r=>q u H' (g.le l) (s.le l.f) r) q⟩⟩
def ae(i:Nat)(hs:‹fs[i]?=am (am (.val v))›)(hN:‹X.N[i]?=am x›)(hv:Jh X.env.scope x:=by first|exact Cg rfl|exact Cr (Cg rfl)|exact Cr (Cr rfl))(hd: ~~~(jz x))(kD: ~~~(LC x)):EF X K fs (.Name x pos) (.ret v):=
 ⟨PE.imp (fX hN hv hd kD) λσ H Q ⟨sr,q⟩=>by
  obtain⟨u,e1,r⟩:=sr.at' i _ hs;rcases r with⟨w,e,r⟩|⟨a,_,r⟩
  .cases e;exact⟨u,e1,q u H .refl sr r⟩
  .exact r.elim⟩
def f_c{v:V}{p:PV}(hv:∀H,VR K [] H v p)(h:PE X e (tC v)):EF X K fs e (.ret p):=⟨PE.imp h λσ H Q ⟨sr,q⟩=>q v H .refl sr (hv _)⟩
def aj{i j}:EF X K fs (.Constant (.int i) j pos) (.ret (.int i)):=f_c (λ_=>.int i) bf
def SN{b j}:EF X K fs (.Constant (.bool b) j pos) (.ret (.bl b)):=f_c (λ_=>.bl b) ads
def o9{j}:EF X K fs (.Constant .none j pos) (.ret .aO):=f_c (λ_=>.aO) QQ
def jt{x j}:EF X K fs (.Constant (.str x) j pos) (.ret (.str x)):=f_c (λ_=>.str x) yx
def zA{i:Int}{t:Tok}(hm:X.mg x=am (.int i t))(hg:Gl X x)(hd: ~~~(jz x)):EF X K fs (.Name x pos) (.ret (.int i)):=f_c (λ_=>.int i) (sC hg hm ⟨_,rfl⟩ hd)
def zy{i:Str}{t:Tok}(hm:X.mg x=am (.str i t))(hg:Gl X x)(hd: ~~~(jz x)):EF X K fs (.Name x pos) (.ret (.str i)):=f_c (λ_=>.str i) (sC hg hm ⟨_,rfl⟩ hd)
def of2(m:M2)(x y:PV):W PV:=⟨λQ=>m.f x y [] λz h=>h=[]/\Q z,λf q=>m.mono (λ_ _ q=>⟨q.1,f _ q.2⟩) q⟩
def hr0(H:Hp):HR K [] H []:=⟨FI,rfl,λn a o e _=>by simp at e⟩
def pq0{Q:VK}{z:PV}{h:PH}(sr:aY K H σ fs)(q:h=[]/\∀u H',cE σ fs H H'->aY K H' σ fs->VR K [] H' u z->Q u H'):pQ K [] H Q z h:=λι' v H' g r x=>by
 obtain⟨e,q⟩:=q;subst e;have:ι'=[]:=BQ r.len;subst this;have sm:jy H H':=λa o z=>g.keep a o (by simp) z;exact q v H' (cE.same sm) (sr.same sm) x
def ZM{r:R2}{m:M2}(hm:M2.Ok K r m){Q:VK}{v:V}{x y:PV}(sr:aY K H σ fs)(hu:VR K [] H u x)(hv:VR K [] H v y)(q:(of2 m x y).run λz=>∀u H',cE σ fs H H'->aY K H' σ fs->VR K [] H' u z->Q u H'):r u v H Q:=
 hm (hr0 H) hu hv (m.mono (λz h q=>pq0 sr q) q)
def Sj{r:R2}{m:M2}(hm:M2.Ok K r m):∀σ H Q,fE K fs (.bind wa λx=>.bind wb λy=>of2 m x y) fs2 σ H Q->Xd r (fE K fs wa aA) (fE K aA wb fs2) σ H Q:=λσ H Q ⟨sr,q⟩=>
 ⟨sr,wa.mono (λx q1 u1 H1 g1 s1 v1=>⟨s1,wb.mono (λy q2 u2 H2 g2 s2 v2=>ZM hm s2 (g2.vr s1 v1) v2 ((of2 m x y).mono (λz q u3 H3 g3 s3 v3=>q u3 H3 ((g1.trans g2).trans g3) s3 v3) q2)) q1⟩) q⟩
def SA{op:Operator}{r:R2}{m:M2}(ho:iX X (t0 op) r)(hm:M2.Ok K r m)(ha:EF X K fs a wa aA)(hb:EF X K aA b wb fs2):EF X K fs (.BinOp a op b pos) (.bind wa λx=>.bind wb λy=>of2 m x y) fs2:=⟨PE.imp (dC ho ha.p hb.p) (Sj hm)⟩
def qW(ha:EF X K fs a wa aA)(hb:EF X K aA b wb fs2):EF X K fs (.BinOp a .Sub b pos) (.bind wa λx=>.bind wb λy=>of2 vG x y) fs2:=SA ZE (IP λ_ _ _ _=>.int _) ha hb
def SD(ha:EF X K fs a wa aA)(hb:EF X K aA b wb fs2):EF X K fs (.BinOp a .Mult b pos) (.bind wa λx=>.bind wb λy=>of2 Q5 x y) fs2:=SA lP (Fl λ_ _ _ _=>.int _) ha hb
def aeZ(ha:EF X K fs a wa aA)(hb:EF X K aA b wb fs2):EF X K fs (.BinOp a .FloorDiv b pos) (.bind wa λx=>.bind wb λy=>of2 oDiv x y) fs2:=SA sE (Fl λ_ _ _ _=>.int _) ha hb
def Yg(ha:EF X K fs a wa aA)(hb:EF X K aA b wb fs2):EF X K fs (.BinOp a .Mod b pos) (.bind wa λx=>.bind wb λy=>of2 oMod x y) fs2:=SA qe (Fl λ_ _ _ _=>.int _) ha hb
def Sz(ha:EF X K fs a wa aA)(hb:EF X K aA b wb fs2):EF X K fs (.BinOp a .Pow b pos) (.bind wa λx=>.bind wb λy=>of2 Q3 x y) fs2:=SA ZG (Fl λ_ _ _ _=>.int _) ha hb
def vI:PV->W PV
 |.int i=>.ret (.int (-i))
 |_=>.fail
def uU(ha:EF X K fs a wa aA):EF X K fs (.UnaryOp .USub a pos) (.bind wa vI) aA:=⟨PE.imp (ado YI ha.p) λσ H Q ⟨sr,q⟩=>⟨sr,wa.mono (λx q1 u1 H1 g1 s1 v1=>by
 cases v1 with
 |int i=>exact⟨_,rfl,q1 _ H1 g1 s1 (.int _)⟩
 |_=>exact q1.elim) q⟩⟩
def asB:PV->W Bool
 |.bl b=>.ret b
 |_=>.fail
def Iv{m:M2}(hc:JC X K op b m)(ha:EF X K fs a wa aA)(hb:EF X K aA b wb fs2):EF X K fs (.Compare a [op] [b] pos) (.bind wa λx=>.bind wb λy=>of2 m x y) fs2:=let ⟨_,h1,h2⟩:=hc.p;⟨PE.imp (Md h1 ha.p hb.p hc.k) (Sj h2)⟩
def aeO{w:W PV}:∀σ H Q,fT K fs (.bind w asB) aA σ H Q->(fE K fs w aA) σ H λx H'=>∃k,x=.bl k/\Q k H':=λσ H Q ⟨sr,q⟩=>⟨sr,w.mono (λx q1 u1 H1 g1 s1 v1=>by
 cases v1 with
 |bl b=>exact⟨b,rfl,q1 H1 g1 s1⟩
 |_=>exact q1.elim) q⟩
def cW{m:M2}(hc:JC X K op b m)(ha:EF X K fs a wa aA)(hb:EF X K aA b wb fs2):TF X K fs (.Compare a [op] [b] pos) (.bind wa λx=>.bind wb λy=>.bind (of2 m x y) asB) fs2:=let ⟨_,h1,h2⟩:=hc.p
 ⟨PT.imp (ib h1 ha.p hb.p hc.k) λσ H Q q=>Sj h2 σ H _ (aeO σ H Q q)⟩
def S3(z:PV)(w:W PV):W PV:=match z with
 |.bl true=>w
 |.bl false=>.ret (.bl false)
 |_=>.fail
def WN(x:PV)(w:W PV):W PV:=match x with
 |.bl true=>w
 |.bl false=>.ret (.bl false)
 |_=>.fail
def Yh(ha:EF X K fs a wa aA)(hb:EF X K aA (.BoolOp .And (b::rest) pos) wb fs2)(hl:pP aA fs2:=by exact .refl _):EF X K fs (.BoolOp .And (a::b::rest) pos) (.bind wa λx=>WN x wb) fs2:=⟨PE.imp (ZA ha.p hb.p) λσ H Q ⟨sr,q⟩=>⟨sr,wa.mono (λx q1 u1 H1 g1 s1 v1=>by
 cases v1 with
 |bl k=>
  cases k with
  |true=>exact⟨true,rfl,by rw[if_pos rfl];exact⟨s1,wb.mono (λ_ q u H' g s v=>q u H' (g1.trans g) s v) q1⟩⟩
  |false=>exact⟨false,rfl,by rw[if_neg AX];exact q1 _ H1 (g1.le hl) (s1.le hl.f) (.bl _)⟩
 |_=>exact q1.elim) q⟩⟩
def Yf{op}(h:EF X K fs a wa aA):EF X K fs (.BoolOp op [a] pos) wa aA:=⟨Zy h.p⟩
variable{ta tb tc:W Bool}
def rY(h:TF X K fs a ta aA):M4 X K fs (.BoolOp .And [a] pos) ta aA:=⟨L9 h.p⟩
def Pq(h:TF X K fs a ta aA):M4 X K fs (.BoolOp .Or [a] pos) ta aA:=⟨Zs h.p⟩
def xV(ha:TF X K fs a ta aA)(hb:M4 X K aA (.BoolOp .And (b::rest) pos) tb fs2)(hl:pP aA fs2:=by exact .refl _):M4 X K fs (.BoolOp .And (a::b::rest) pos) (.bind ta λk=>if k=true then tb else .ret false) fs2:=⟨PW.imp (Qx ha.p hb.p) λσ H Q ⟨sr,q⟩=>⟨sr,ta.mono (λk q1 H1 g1 s1=>by
 cases k with
 |true=>exact y9 ⟨s1,tb.mono (λ_ q H' g s=>q H' (g1.trans g) s) q1⟩
 |false=>exact za (q1 H1 (g1.le hl) (s1.le hl.f))) q⟩⟩
def W9(ha:TF X K fs a ta aA)(hb:M4 X K aA (.BoolOp .Or (b::rest) pos) tb fs2)(hl:pP aA fs2:=by exact .refl _):M4 X K fs (.BoolOp .Or (a::b::rest) pos) (.bind ta λk=>if k=true then .ret true else tb) fs2:=⟨PW.imp (adm ha.p hb.p) λσ H Q ⟨sr,q⟩=>⟨sr,ta.mono (λk q1 H1 g1 s1=>by
 cases k with
 |true=>exact y9 (q1 H1 (g1.le hl) (s1.le hl.f))
 |false=>exact za ⟨s1,tb.mono (λ_ q H' g s=>q H' (g1.trans g) s) q1⟩) q⟩⟩
def M4.t(h:M4 X K fs a ta aA):TF X K fs a ta aA:=⟨PW.pt h.p⟩
def LR(ha:TF X K fs a ta aA):TF X K fs (.UnaryOp .Not a pos) (.bind ta λk=>.ret (!k)) aA:=⟨PT.imp (Zt ha.p) λσ H Q ⟨sr,q⟩=>⟨sr,q⟩⟩
def v5(hc:TF X K fs c tc aA)(ha:EF X K aA a wa fs2)(hb:EF X K aA b wb fs2):EF X K fs (.IfExp c a b pos) (.bind tc λk=>if k=true then wa else wb) fs2:=⟨PE.imp (Hf hc.p ha.p hb.p) λσ H Q ⟨sr,q⟩=>⟨sr,tc.mono (λk q1 H1 g1 s1=>by
 cases k with
 |true=>exact y9 ⟨s1,wa.mono (λ_ q u H' g s v=>q u H' (g1.trans g) s v) q1⟩
 |false=>exact za ⟨s1,wb.mono (λ_ q u H' g s v=>q u H' (g1.trans g) s v) q1⟩) q⟩⟩
def adT{la lb:W (O PV)}(hc:TF X K fs c tc aA)(ha:LF X K aA a la fs2)(hb:LF X K aA b lb fs2):LF X K fs (.IfExp c a b pos) (.bind tc λk=>if k=true then la else lb) fs2:=⟨PE.imp (Hf hc.p ha.p hb.p) λσ H Q ⟨sr,q⟩=>⟨sr,tc.mono (λk q1 H1 g1 s1=>by
 cases k with
 |true=>exact y9 ⟨s1,la.mono (λ_ q a vs H' g s n e v=>q a vs H' (g1.trans g) s (g1.there a n) e v) q1⟩
 |false=>exact za ⟨s1,lb.mono (λ_ q a vs H' g s n e v=>q a vs H' (g1.trans g) s (g1.there a n) e v) q1⟩) q⟩⟩
def hG:PV->W Bool
 |.aO=>.ret false
 |.bl b=>.ret b
 |.int i=>.ret (i != 0)
 |.str y=>.eK (y.length<=sizeLine) (.ret ((y.length:Int) != 0))
 |.tup l=>.ret (!l.isEmpty)
 |.cl l=>.ret (!l.isEmpty)
 |_=>.fail
def gH(hK:X.K=K)(ha:EF X K fs a wa aA)(he:∀Ä,isTrue a X.env Ä=(do let v <- Ä;standAt a.pos;KB [v] (truthy v))):TF X K fs a (.bind wa hG) aA:=⟨PT.imp (wW K hK ha.p he) λσ H Q ⟨sr,q⟩=>⟨sr,wa.mono (λx q1 u1 H1 g1 s1 v1=>by
 cases v1 with
 |aO=>exact⟨false,rfl,q1 H1 g1 s1⟩
 |bl b=>exact⟨b,rfl,q1 H1 g1 s1⟩
 |int i=>exact⟨_,rfl,q1 H1 g1 s1⟩
 |str y=>exact⟨_,⟨q1.1,rfl⟩,q1.2 H1 g1 s1⟩
 |ty _=>exact q1.elim
 |dk _ _ _=>exact q1.elim
 |dt _ _ _=>exact q1.elim
 |ob _ _ _ _ _=>exact q1.elim
 |hand _=>exact q1.elim
 |ref _=>exact q1.elim
 | @tup p vs l e rs=>
  refine⟨!vs.isEmpty,.inr (.inl ⟨_,dU.of e,rfl⟩),?_⟩;rw[<- k8 rs];exact q1 H1 g1 s1
 | @cl p vs l e rs=>
  refine⟨!vs.isEmpty,.inl ⟨_,e.sq,rfl⟩,?_⟩;rw[<- k8 rs];exact q1 H1 g1 s1) q⟩⟩
def acB(hK:X.K=K)(ha:QF X K fs a wl aA)(he:∀Ä,isTrue a X.env Ä=(do let v <- Ä;standAt a.pos;KB [v] (truthy v))):TF X K fs a (.bind wl λl=>.ret (!l.isEmpty)) aA:=⟨PT.imp (wW K hK ha.p he) λσ H Q ⟨sr,q⟩=>⟨sr,wl.mono (λl q1 u1 H1 g1 s1 v1=>by
 obtain⟨b,vs,rfl,h,rs⟩:=v1.sq s1;refine⟨!vs.isEmpty,?_,?_⟩
 .exact h.elim (λh=>.inl ⟨_,h,rfl⟩) λh=>.inr (.inl ⟨_,h,rfl⟩)
 .rw[<- k8 rs];exact q1 H1 g1 s1) q⟩⟩
variable{R:Type}{ks:O AK}{B:(O PV->W R)->W R}
def af:AF X K fs [] [] (R:=R) (λk=>k []):=⟨.ret [],PA.imp bP λσ H Q ⟨sr,q⟩=>q [] H .refl sr .nil,λk=>rfl⟩
def ai(ha:EF X K fs e w aA)(hr:AF X K aA es ks B fs2)(hs:‹hV X e es›):AF X K fs (e::es) (.v::ks) (λk=>.bind w λx=>B λl=>k (x::l)) fs2:=by
 obtain⟨wr,hp,hB⟩:=hr.p;refine⟨.bind w λx=>.bind wr λl=>.ret (x::l),PA.imp (a6 ha.p hp hs) λσ H Q ⟨sr,q⟩=>?_,λk=>?_⟩
 .exact⟨sr,w.mono (λx q1 u1 H1 g1 s1 v1=>⟨s1,wr.mono (λl q2 vs H2 g2 s2 v2=>q2 _ H2 (g1.trans g2) s2 (.v (g2.vr s1 v1) v2)) q1⟩) q⟩
 .have:(λx=>B λl=>k (x::l))=λx=>bn wr λl=>k (x::l):=funext λx=>hB _;rw[this];rfl
theorem gj.Na:∀{vs:O V}{n:Nat}{l:O PV},gj K H vs (Ap n .v) l->aF K [] H vs l/\l.length=n
 |_,0,_,.nil=>⟨.nil,rfl⟩
 |_,n+1,_,.v r t=>⟨.cons r (gj.Na t).1,by rw[Au,(gj.Na t).2]⟩
def aeV{x1}{B:(O PV->W PV)->W PV}(h:AF X K fs es (Ap n .v) B aA)(hn: ~~~(n<=1000)):EF X K fs (.Tuple es x1 pos) (B λl=>.ret (.tup l)) aA:=by
 obtain⟨w,hp,hB⟩:=h.p;rw[hB];refine⟨PE.imp (UX hp) λσ H Q ⟨sr,q⟩=>⟨sr,w.mono (λl q1 vs H1 g1 s1 v1=>?_) q⟩⟩;obtain⟨v2,hl⟩:=v1.Na;exact⟨by rw[v2.length,hl];exact bM hn,λp H2 s2 e2 n2=>q1 _ H2 (g1.trans (cE.same s2)) (s1.same s2) (.tup e2 (aF.tk s2.eL v2))⟩
def XG{B:(O PV->W (O PV))->W (O PV)}(h:AF X K fs es (Ap n .v) B aA)(hn: ~~~(n<=1000)):LF X K fs (.List es pos) (B λl=>.ret l) aA:=by
 obtain⟨w,hp,hB⟩:=h.p;rw[hB];refine⟨PE.imp (yz hp) λσ H Q ⟨sr,q⟩=>⟨sr,w.mono (λl q1 vs H1 g1 s1 v1=>?_) q⟩⟩;obtain⟨v2,hl⟩:=v1.Na;exact⟨by rw[v2.length,hl];exact bM hn,λp H2 s2 e2 n2=>q1 _ _ H2 (g1.trans (cE.same s2)) (s1.same s2) (g1.there p n2) e2 (aF.tk s2.eL v2)⟩
end
end
end FL
namespace L2
def Inv.MB{σ:St}{s:cr}(I:Inv X U σ H s)(e:H a=am (.lst vs)):∃o,Inv X U σ (upd H a (.cn o (.lst vs))) s:=by
 obtain⟨z,aq,n,r,h1⟩:=(I.bG a _ e);exact⟨_,I.write (by rw[e];exact B6) (.inl rfl) (λb u _ z=>z) ⟨_,h1⟩ ⟨h1,z,aq,n,r,h1⟩⟩
def Inv.MC{σ:St}{s:cr}{au:O (Key×V)}(I:Inv X U σ H s)(e:H a=am (.dK au)):∃o,Inv X U σ (upd H a (.cn o (.dK au))) s:=by
 obtain⟨z,hs,vs,r,o,es,ep,h1,h2⟩:=(I.bG a _ e);exact⟨o,I.write (by rw[e];exact B6) (.inl rfl) (λb u _ z=>z) ⟨o,h1⟩ ⟨h1,z,hs,vs,r,o,es,ep,h1,h2⟩⟩
end L2
variable{t:FL.SL}{ks:O FL.AK}{B:(O PL.PV->FL.W PL.PV)->FL.W PL.PV}{q0:Option Bq}
namespace FL
section
variable[cx]
variable{K:Ab}
section
def se(o':HO)(e:H a=am (.lst vs)):bz K H (upd H a o'):=⟨λb ws q=>by rw[ak (Mj q e (by intro z;cases z))];exact q,λb o u q=>by rw[ak (Mj q e (by intro z;cases z))];exact q,xk λb φ q=>by rw[ak (Mj q e (by intro z;cases z))];exact q⟩
def dvK(au:O (Key×PV)):PV:=.dv (au.map λkv=>kP kv.1) (au.map (·.2))
def SO(au:O (O Key×PV)):PV:=.dv (au.map λkv=>.tup (kv.1.map kP)) (au.map (·.2))
def adx(h:o.ow=true):∀φ,o≠.ext φ:=λφ e=>by subst e;cases h
def gG{oh:HO}(o':HO)(e:H a=am oh)(n1:∀vs,oh≠.tup vs)(n2:∀o u,oh≠.cn o u)(n3:∀φ,oh≠.ext φ:=by first|(intro φ z;cases z;done)|exact adx (by assumption)):bz K H (upd H a o'):=⟨λb ws q=>by rw[ak (λz=>by subst z;rw[e]at q;cases q;exact n1 _ rfl)];exact q,λb o u q=>by rw[ak (λz=>by subst z;rw[e]at q;cases q;exact n2 _ _ rfl)];exact q,xk λb φ q=>by rw[ak (λz=>by subst z;rw[e]at q;cases q;exact n3 _ rfl)];exact q⟩
def XI{vs:O (O Key×V)}{au:O (O Key×PV)}(h:vs.map (·.1)=au.map (·.1)):(au.map λkv=>PV.tup (kv.1.map kP))=vs.map λkv=>PV.tup (kv.1.map kP):=by
 have:=congrArg (FJ λk:O Key=>PV.tup (k.map kP)) h;rw[AQ,AQ]at this;exact this.symm
def XJ{vs:O (Key×V)}{au:O (Key×PV)}(h:vs.map (·.1)=au.map (·.1)):(au.map λkv=>kP kv.1)=vs.map λkv=>kP kv.1:=by
 have:=congrArg (FJ kP) h;rw[AQ,AQ]at this;exact this.symm
def SL.bw:SL->Bool
 |.ol _ _=>true
 |.od _=>true
 |.ot _=>true
 |_=>false
def SL.bv:SL->PV
 |.ol _ l=>.cl l
 |.od au=>dvK au
 |.ot au=>SO au
 |_=>.aO
def SL.Ta(h:t.bw=true):t.own=true:=by cases t<;>first|rfl|cases h
def aeC{s:cr}(I:Inv X U σ' H s)(oa:iz K H a t)(hb:t.bw=true):∃ob o,H a=am o/\(∀vs,o≠.tup vs)/\(∀ob u,o≠.cn ob u)/\Inv X U σ' (upd H a (.cn ob o)) s/\VR K [] (upd H a (.cn ob o)) (.ref a) t.bv:=by
 cases t with
 |ol q l=>
  obtain⟨_,vs,e,r⟩:=oa;obtain⟨ob,I2⟩:=I.MB e;exact⟨ob,_,e,by simp,by simp,I2,.cl (.inl ⟨ob,aH⟩) (aF.tk (gG _ e (by simp) (by simp)) r)⟩
 |od l=>
  obtain⟨vs,e,k,r⟩:=oa;obtain⟨ob,I2⟩:=I.MC e;exact⟨ob,_,e,by simp,by simp,I2,.dk aH (XJ k) (aF.tk (gG _ e (by simp) (by simp)) r)⟩
 |ot l=>
  obtain⟨vs,e,k,r⟩:=oa;obtain⟨ob,I2⟩:=I.freeze e;exact⟨ob,_,e,by simp,by simp,I2,.dt aH (XI k) (aF.tk (gG _ e (by simp) (by simp)) r)⟩
 |_=>cases hb
def aY.aeB{u:HO}(sr:aY K H σ fs)(hs:fs[i]?=am (am t))(ho:t.own=true)(e1:σ[i]?=am (am (.ref a)))(h1:H a=am o)(n1:∀vs,o≠.tup vs)(n2:∀ob u,o≠.cn ob u)(vr:VR K [] (upd H a u) (.ref a) v):aY K (upd H a u) σ (fs.set i (am (.val v))):=by
 have ow:o.ow=true:=by
  obtain⟨o',z1,_,_,z2⟩:=(sr.ownAt hs ho e1).ex ho (.inl rfl);rw[h1]at z1;cases z1;exact z2
 have nt:o.nt=true:=QW ow;refine⟨by simp[sr.len],λj t' z=>?_,λj k t' u b1 b2 b z1 z2 o1 o2=>?_,sr.tb.L5 (λb o n z=>by rw[ak n];exact z) h1 nt n2⟩
 .rcases cH z with⟨rfl,rfl⟩|⟨n,z⟩
  .exact⟨_,e1,.inl ⟨_,rfl,vr⟩⟩
  .obtain⟨u,k1,k2⟩:=sr.at' j t' z;exact⟨u,k1,k2.mono (gG _ h1 n1 n2) (λx b o eb ow hb zz _=>by
    subst eb;rw[ak (λy=>by subst y;exact n (sr.nd j i t' _ x b b z hs ow ho k1 e1 hb (.inl rfl)))];exact zz)⟩
 .rcases cH z1 with⟨rfl,rfl⟩|⟨n1,z1⟩
  .cases o1
  .rcases cH z2 with⟨rfl,rfl⟩|⟨n2,z2⟩
   .cases o2
   .exact sr.nd j k t' u b1 b2 b z1 z2 o1 o2
def aY.side(s:aY K H σ fs)(n:¬cy σ fs a)(e:H a=am (.lst vs))(o':HO):aY K (upd H a o') σ fs:=⟨s.len,λi t q=>by
 obtain⟨u,h1,h2⟩:=s.at' i t q;exact⟨u,h1,h2.mono (se o' e) (λx b o eb ow hb z _=>by subst eb;rw[ak (λy:b=a=>n ⟨i,t,x,q,ow,h1,y▸hb⟩)];exact z)⟩,s.nd,s.tb.L5 (λb o n z=>by rw[ak n];exact z) e rfl (by simp)⟩
def cE.side(g:cE σ fs H H1 aP)(h0:H a=ce)(e0:∀φ,H1 a≠am (.ext φ))(o':HO):cE σ fs H (upd H1 a o') aP:=⟨λb o e n t=>by rw[ak (bK e h0)];exact g.keep b o e n t,λb e=>by
 by_cases c:b=a
 .subst c;exact h0
 .rw[ak c]at e;exact g.there b e,g.ev,λb z=>by
 have z:=g.x b z;unfold dW at z ⊢;rw[ak (λy=>by subst y;exact e0 _ z)];exact z⟩
end
section
variable{a:mo}{w:W PV}
def gZ(h:LF X K fs e wl aA):EF X K fs e (.bind wl λl=>.ret (.cl l)) aA:=⟨λU s σ H Q I ⟨sr,q⟩=>by
 refine cf (h.p U s σ H (λu H1=>∃a vs l,u=.ref a/\cE σ fs H H1 aA/\aY K H1 σ aA/\H a=ce/\H1 a=am (.lst vs)/\aF K [] H1 vs l/\∀u H',cE σ fs H H' aA->aY K H' σ aA->VR K [] H' u (.cl l)->Q u H') I ⟨sr,wl.mono (λl q1 a vs H1 g1 s1 n e v=>⟨a,vs,l,rfl,g1,s1,n,e,v,q1⟩) q⟩) λu s1 ⟨v,H1,I1,r1,a,vs,l,e,g1,Uv,n,ea,vr,q1⟩=>?_;subst e;obtain⟨ob,I2⟩:=I1.MB ea;exact⟨.ref a,_,I2,r1,q1 _ _ (g1.side n (λφ=>by rw[ea];simp) _) (Uv.side (λz=>sr.noOwn n (g1.ev.fm z)) ea _) (.cl (.inl ⟨ob,aH⟩) (aF.tk (se _ ea) vr))⟩⟩
def aw:PV->W (O PV)
 |.tup l=>.ret l
 |.cl l=>.ret l
 |_=>.fail
def bB(h:EF X K fs e w aA):IF X K fs e (.bind w aw) aA:=⟨PE.imp h.p λσ H Q ⟨sr,q⟩=>⟨sr,w.mono (λx q1 u1 H1 g1 s1 v1=>by
 cases v1 with
 |tup e r=>exact q1 _ H1 g1 s1 ⟨_,_,rfl,.inr e,r⟩
 |cl e r=>exact q1 _ H1 g1 s1 ⟨_,_,rfl,.inl e,r⟩
 |_=>exact q1.elim) q⟩⟩
def ko(h:LF X K fs e wl aA):IF X K fs e wl aA:=bB (gZ h)
theorem IF.q(h:IF X K fs e wl aA):QF X K fs e wl aA:=⟨PE.imp h.p λσ H Q ⟨sr,q⟩=>⟨sr,wl.mono (λl q1 u1 H1 g1 s1 v1=>q1 u1 H1 g1 s1 (.inl v1)) q⟩⟩
def az(h:EF X K fs e w aA):QF X K fs e (.bind w aw) aA:=(bB h).q
def mI(h:LF X K fs e wl aA):QF X K fs e wl aA:=⟨PE.imp h.p λσ H Q ⟨sr,q⟩=>⟨sr,wl.mono (λl q1 a vs H1 g1 s1 n e v=>q1 _ H1 g1 s1 (.inr ⟨a,rfl,.inl ⟨λz=>sr.noOwn n (g1.ev.fm z),vs,e,v⟩⟩)) q⟩⟩
def dA(i:Nat){l:O PV}(hs:‹fs[i]?=am (am (.ol q0 l))›)(hN:‹X.N[i]?=am x›)(hv:Jh X.env.scope x:=by first|exact Cg rfl|exact Cr (Cg rfl)|exact Cr (Cr rfl))(hd: ~~~(jz x))(kD: ~~~(LC x)):QF X K fs (.Name x pos) (.ret l):=
 ⟨PE.imp (fX hN hv hd kD) λσ H Q ⟨sr,q⟩=>by
  obtain⟨u,e1,r⟩:=sr.at' i _ hs;rcases r with⟨w,e,r⟩|⟨a,e,r⟩
  .cases e
  .subst e;exact⟨_,e1,q _ H .refl sr (.inr ⟨a,rfl,.inr ⟨i,q0,hs,e1⟩⟩)⟩⟩
def Tz(l:O PV):PV->W PV
 |.int i=>.Q1 (cR l i)
 |_=>.fail
def aM(hK:X.K=K)(ha:QF X K fs a wl aA)(hb:EF X K aA b wb fs2)(hs:M5 b:=by exact λ_ _=>rfl):EF X K fs (.Subscript a b pos) (.bind wl λl=>.bind wb λy=>Tz l y) fs2:=⟨PE.imp (gc (cC K hK) ha.p hb.p hs) λσ H Q ⟨sr,q⟩=>⟨sr,wl.mono (λl q1 u1 H1 g1 s1 v1=>⟨s1,wb.mono (λy q2 u2 H2 g2 s2 v2=>by
 cases v2 with
 |int i=>
  have q2:(W.Q1 (cR l i)).run _:=q2;cases z:cR l i with
  |none=>rw[z]at q2;exact q2.elim
  |some x=>
   rw[z]at q2;obtain⟨ad,vs,rfl,h,rs⟩:=(v1.go s1 g2).sq s2;obtain⟨v,e1,e2⟩:=aF.cR rs z;have q3:=q2 v H2 (g1.trans g2) s2 e2;exact h.elim (λh=>.inl ⟨ad,vs,i,v,rfl,rfl,h,e1,q3⟩) λh=>.inr (.inl ⟨ad,vs,i,v,rfl,rfl,h,e1,q3⟩)
 |_=>exact q2.elim) q1⟩) q⟩⟩
def yG(m:M7)(l:O PV):W PV:=⟨λQ=>m.f l [] λz h=>h=[]/\Q z,λf q=>m.mono (λ_ _ q=>⟨q.1,f _ q.2⟩) q⟩
section
variable{id:String}{r:O V->Hp->VK->Prop}
def Q2{m:M7}(hm:M7.Ok K r m){Q:VK}{us:O V}{l:O PV}(sr:aY K H σ fs)(hu:aF K [] H us l)(q:(yG m l).run λz=>∀u H',cE σ fs H H'->aY K H' σ fs->VR K [] H' u z->Q u H'):r us H Q:=hm (hr0 H) hu (m.mono (λz h q=>pq0 sr q) q)
def Wo{m:M7}(hc:cB X (.builtin id) r)(hB:M7.Ok K r m)(hg:Gl X x)(hm:X.mg x=ce)(hv:pr x=am (.builtin id))(ha:AF X K fs (e::es) (Ap n .v) B aA)(hn: ~~~(x≠"__name__"))(mz: ~~~(jz x))(he:‹hV X e es›)(eB:‹mm X pos es›):EF X K fs (.Call (.Name x p) (e::es) [] pos) (B (yG m)) aA:=by
 obtain⟨w,hp,ř⟩:=ha.p;rw[ř];exact⟨PE.imp (eQ hc hg hm hv hp hn mz he eB) λσ H Q ⟨sr,q⟩=>⟨sr,w.mono (λl q1 vs H1 g1 s1 v1=>Q2 hB s1 v1.Na.1 ((yG m l).mono (λz q u H' g s v=>q u H' (g1.trans g) s v) q1)) q⟩⟩
def SK{m:M7}(hc:cB X (.type id) r)(hB:M7.Ok K r m)(hg:Gl X x)(hm:X.mg x=ce)(hv:pr x=am (.type id))(ha:AF X K fs (e::es) (Ap n .v) B aA)(hn: ~~~(x≠"__name__"))(mz: ~~~(jz x))(he:‹hV X e es›)(eB:‹mm X pos es›):EF X K fs (.Call (.Name x p) (e::es) [] pos) (B (yG m)) aA:=by
 obtain⟨w,hp,ř⟩:=ha.p;rw[ř];exact⟨PE.imp (lO hc hg hm hv hp hn mz he eB) λσ H Q ⟨sr,q⟩=>⟨sr,w.mono (λl q1 vs H1 g1 s1 v1=>Q2 hB s1 v1.Na.1 ((yG m l).mono (λz q u H' g s v=>q u H' (g1.trans g) s v) q1)) q⟩⟩
def CQ(K:Ab)(r:O V->Hp->VK->Prop)(m:O PV->W PV):Prop:=∀{fs:aR}{σ:L2.St}{H:Hp}{Q:VK}{u:V}{l:O PV},aY K H σ fs->WU K σ fs H u l->((m l).run λz=>∀u H',cE σ fs H H'->aY K H' σ fs->VR K [] H' u z->Q u H')->r [u] H Q
def CL(K:Ab)(r:O V->Hp->VK->Prop)(m:O PV->W (O PV)):Prop:=∀{fs:aR}{σ:L2.St}{H:Hp}{Q:VK}{u:V}{l:O PV},aY K H σ fs->WU K σ fs H u l->((m l).run λz=>∀a vs H',cE σ fs H H'->aY K H' σ fs->H a=ce->H' a=am (.lst vs)->aF K [] H' vs z->Q (.ref a) H')->r [u] H Q
def SM{m:O PV->W PV}(hc:cB X (.builtin id) r)(hB:CQ K r m)(hg:Gl X x)(hm:X.mg x=ce)(hv:pr x=am (.builtin id))(ha:QF X K fs e wl aA)(hn: ~~~(x≠"__name__"))(mz: ~~~(jz x))(he:‹hV X e []›)(eB:‹mm X pos []›):EF X K fs (.Call (.Name x p) [e] [] pos) (.bind wl m) aA:=⟨PE.imp (eQ hc hg hm hv (a6 ha.p bP he) hn mz he eB) λσ H Q ⟨sr,q⟩=>⟨sr,wl.mono (λl q1 u H1 g1 s1 v1=>hB s1 v1 ((m l).mono (λz q u H' g s v=>q u H' (g1.trans g) s v) q1)) q⟩⟩
def Ow{m:O PV->W PV}(hc:cB X (.type id) r)(hB:CQ K r m)(hg:Gl X x)(hm:X.mg x=ce)(hv:pr x=am (.type id))(ha:QF X K fs e wl aA)(hn: ~~~(x≠"__name__"))(mz: ~~~(jz x))(he:‹hV X e []›)(eB:‹mm X pos []›):EF X K fs (.Call (.Name x p) [e] [] pos) (.bind wl m) aA:=⟨PE.imp (lO hc hg hm hv (a6 ha.p bP he) hn mz he eB) λσ H Q ⟨sr,q⟩=>⟨sr,wl.mono (λl q1 u H1 g1 s1 v1=>hB s1 v1 ((m l).mono (λz q u H' g s v=>q u H' (g1.trans g) s v) q1)) q⟩⟩
def afU{m:O PV->W (O PV)}(hc:cB X (.builtin id) r)(hB:CL K r m)(hg:Gl X x)(hm:X.mg x=ce)(hv:pr x=am (.builtin id))(ha:QF X K fs e wl aA)(hn: ~~~(x≠"__name__"))(mz: ~~~(jz x))(he:‹hV X e []›)(eB:‹mm X pos []›):LF X K fs (.Call (.Name x p) [e] [] pos) (.bind wl m) aA:=⟨PE.imp (eQ hc hg hm hv (a6 ha.p bP he) hn mz he eB) λσ H Q ⟨sr,q⟩=>⟨sr,wl.mono (λl q1 u H1 g1 s1 v1=>hB s1 v1 ((m l).mono (λz q a vs H' g s n e v=>q a vs H' (g1.trans g) s (g1.there a n) e v) q1)) q⟩⟩
def Rp{m:O PV->W (O PV)}(hc:cB X (.type id) r)(hB:CL K r m)(hg:Gl X x)(hm:X.mg x=ce)(hv:pr x=am (.type id))(ha:QF X K fs e wl aA)(hn: ~~~(x≠"__name__"))(mz: ~~~(jz x))(he:‹hV X e []›)(eB:‹mm X pos []›):LF X K fs (.Call (.Name x p) [e] [] pos) (.bind wl m) aA:=⟨PE.imp (lO hc hg hm hv (a6 ha.p bP he) hn mz he eB) λσ H Q ⟨sr,q⟩=>⟨sr,wl.mono (λl q1 u H1 g1 s1 v1=>hB s1 v1 ((m l).mono (λz q a vs H' g s n e v=>q a vs H' (g1.trans g) s (g1.there a n) e v) q1)) q⟩⟩
end
def uo(l:O PV):W PV:=.ret (.int l.length)
def Vt(K:Ab):CQ K (Zo K) uo:=λ{fs σ H Q u l} s v q=>by
 obtain⟨a,vs,rfl,h,rs⟩:=v.sq s;refine⟨_,vs.length,rfl,?_,?_⟩
 .exact h.elim (λh=>.inl ⟨_,h,rfl⟩) λh=>.inr ⟨_,h,rfl⟩
 .rw[rs.length];exact q _ H .refl s (.int _)
def ku(l:O PV):W PV:=.ret (.tup l)
def T6(K:Ab):CQ K (Qq K) ku:=λ{fs σ H Q u l} s v q=>by
 have fresh:∀{a:db}{vs:O V},b9 K H a vs->aF K [] H vs l->Qq K [.ref a] H Q:=λ{a vs} h rs=>⟨a,vs,rfl,.inl ⟨h,λp H2 s2 e2 n2=>q _ H2 (cE.same s2) (s.same s2) (.tup e2 (aF.tk s2.eL rs))⟩⟩;rcases v with⟨a,vs,rfl,h|h,rs⟩|⟨a,rfl,⟨n,vs,h,rs⟩|⟨i,_,q1,q2⟩⟩
 .exact fresh h.sq rs
 .exact⟨a,vs,rfl,.inr ⟨dU.of h,q _ H .refl s (.tup h rs)⟩⟩
 .exact fresh (b9.of h) rs
 .obtain⟨_,vs,h,rs⟩:=s.ownAt q1 rfl q2;exact fresh (b9.of h) rs
end
end
end FL
variable{R:Type}{y:Cf}{d:Nat}
namespace FL
section
variable[cx]
variable{K:Ab}
def vj(vs:O V)(ks:O AK)(ψ:Nat->O V->Prop)(d:Nat)(a:db):Prop:=∃i:Nat,ks[i]?=am (.p ψ d)/\vs[i]?=am (.ref a)
structure Yt(n:Nat)(vs:List V)(ks:List AK)(H H':Hp):Prop where
 keep:∀a o,H a=am o->(∀ψ d,¬vj vs ks ψ d a)->(nt:‹o.nt=true›)->H' a=am o
 tb:TB H'
 there:∀a,H' a=ce->H a=ce
 Zw:∀a ψ d,vj vs ks ψ d a->I0 H' a ψ (n+d)
 x:∀b,dW H b->dW H' b
inductive jA(K:Ab)(H:Hp)(n:Nat):List V->List AK->List PV->Prop
 |nil:jA K H n [] [] []
 |v {u:V}{x:PV}{vs:List V}{ks:List AK}{l:List PV} (r:VR K [] H u x) (t:jA K H n vs ks l):jA K H n (u::vs) (.v::ks) (x::l)
 |p {a:db}{ψ:Nat->List V->Prop}{d:Nat}{vs:List V}{ks:List AK}{l:List PV} (e:I0 H a ψ n) (r:n+d<=JA) (t:jA K H n vs ks l):jA K H n (.ref a::vs) (.p ψ d::ks) l
 |f {a:db}{us vs:List V}{ps:List PV}{fz:List (db×Obj)}{ks:List AK}{l:List PV} (r:aF K [] H us ps) (z:FzO H fz) (t:jA K H n vs ks l):jA K H n (.ref a::vs) (.f a us ps fz::ks) l
def PY(K:Ab)(ks:O AK)(m:O PV->W PV):Sp:=λvs H Q _=>TB H/\∃n l,jA K H n vs ks l/\(m l).run λv=>∀u H',Yt n vs ks H H'->VR K [] H' u v->Q u H'
def yf(K:Ab)(ks:O AK)(m:O PV->W (O PV)):Sp:=λvs H Q _=>TB H/\∃n l,jA K H n vs ks l/\(m l).run λz=>∀a ws H',Yt n vs ks H H'->H a=ce->H' a=am (.lst ws)->aF K [] H' ws z->Q (.ref a) H'
def Jk(R:Type):Nat->Type
 |0=>W R
 |n+1=>PV->Jk R n
def wJ:(n:Nat)->Jk R n->O PV->W R
 |0,m,[]=>m
 |n+1,m,x::l=>wJ n (m x) l
 |0,_,_::_=>.fail
 |_+1,_,[]=>.fail
section
variable{l:O PV}
def gj.nop(h:gj K H vs ks l):¬vj vs ks ψ d a:=by
 rintro⟨i,e1,e2⟩
 induction h generalizing i with
 |nil=>simp at e1
 |v r t ih=>cases i with|zero=>simp at e1|succ i=>exact ih i (by simpa using e1) (by simpa using e2)
 |f r z t ih=>cases i with|zero=>simp at e1|succ i=>exact ih i (by simpa using e1) (by simpa using e2)
def gj.c(h:gj K H vs ks l):jA K H n vs ks l:=by
 induction h with
 |nil=>exact .nil
 |v r t ih=>exact .v r ih
 |f r z t ih=>exact .f r z ih
def Yt.caller(g:Yt n vs ks H H')(h:gj K H vs ks l)(s:aY K H σ fs):aY K H' σ fs/\cE σ fs H H':=by
 have gf:cE σ fs H H':=⟨λa o e _ t=>g.keep a o e (λ_ _=>h.nop) t,g.there,.refl _,g.x⟩;refine⟨⟨s.len,λi t e=>?_,s.nd,g.tb⟩,gf⟩;obtain⟨u,h1,h2⟩:=s.at' i t e;exact⟨u,h1,h2.mono (gf.di s) λx a o _ _ _ z nt=>g.keep a o z (λ_ _=>h.nop) nt⟩
def Yt.WI{m:Nat}(g:Yt n (.ref a::vs) (.p ψ d::ks) H H')(h:gj K H vs ks l)(s:aY K H σ fs)(e1:fs[i]?=am (am (.dB ψ n m)))(e2:σ[i]?=am (am (.ref a)))(hd:n+d<=m):aY K H' σ (fs.set i (am (.dB ψ (n+d) m)))/\cE σ fs H H' (fs.set i (am (.dB ψ (n+d) m))):=by
 have pa:∀{b ψ' d'},vj (.ref a::vs) (.p ψ d::ks) ψ' d' b->b=a:=λ{b ψ' d'} ⟨j,z1,z2⟩=>by
  cases j with
  |zero=>simp at z2;exact z2.symm
  |succ j=>exact(h.nop ⟨j,by simpa using z1,by simpa using z2⟩).elim
 have hi:i<fs.length:=(Aj.mp e1).1;have ev:Ev fs (fs.set i (am (.dB ψ (n+d) m))):=⟨by simp,λj=>by
  by_cases c:j=i
  .subst c;exact .inr ⟨ψ,n,n+d,m,e1,bc hi⟩
  .exact .inl (aD c).symm⟩
 have gf:cE σ fs H H' (fs.set i (am (.dB ψ (n+d) m))):=⟨λb o e q t=>g.keep b o e (λψ' d' p=>q ψ m ⟨i,n,e1,by rw[pa p];exact e2⟩) t,g.there,ev,g.x⟩;have tk:=gf.di s;obtain⟨_,_,hm⟩:=s.ownAt e1 rfl e2;refine⟨⟨by simp[s.len],λj t e=>?_,ev.nd s,g.tb⟩,gf⟩
 .rcases cH e with⟨rfl,rfl⟩|⟨c,e⟩
  .exact⟨_,e2,.inr ⟨a,rfl,g.Zw a ψ d ⟨0,rfl,rfl⟩,hd,hm⟩⟩
  .obtain⟨u,h1,h2⟩:=s.at' j t e;refine⟨u,h1,h2.mono tk λx b o eb ow hb z nt=>g.keep b o z (λψ' d' p=>?_) nt⟩;subst eb;exact c (s.nd j i t _ x a b e e1 ow rfl h1 e2 hb (.inl (pa p)))
end
section
variable{n0 mx:Nat}
def aa7{m:O PV->W PV}(G:Ts X.prog X.w X.K X.mg X.base x k ps (PY K ks m))(hr:eG k' X.A)(hk:k<=k')(hg:Gl X x)(ha:AF X K fs (e::es) ks B aA)(mz: ~~~(jz x))(he:‹hV X e es›)(eB:‹mm X pos es›):EF X K fs (.Call (.Name x p) (e::es) [] pos) (B m) aA:=by
 obtain⟨w,hp,hB⟩:=ha.p;rw[hB];exact⟨PE.imp (JI G hr hk hg hp mz he eB) λσ H Q ⟨sr,q⟩=>⟨sr,w.mono (λl q1 vs H1 g1 s1 v1=>⟨s1.tb,0,l,v1.c,(m l).mono (λz q2 u H2 g2 r2=>let ⟨s2,g3⟩:=g2.caller v1 s1;q2 u H2 (g1.trans g3) s2 r2) q1⟩) q⟩⟩
def Z7{m:O PV->W (O PV)}{B:(O PV->W (O PV))->W (O PV)}(G:Ts X.prog X.w X.K X.mg X.base x k ps (yf K ks m))(hr:eG k' X.A)(hk:k<=k')(hg:Gl X x)(ha:AF X K fs (e::es) ks B aA)(mz: ~~~(jz x))(he:‹hV X e es›)(eB:‹mm X pos es›):LF X K fs (.Call (.Name x p) (e::es) [] pos) (B m) aA:=by
 obtain⟨w,hp,hB⟩:=ha.p;rw[hB];exact⟨PE.imp (JI G hr hk hg hp mz he eB) λσ H Q ⟨sr,q⟩=>⟨sr,w.mono (λl q1 vs H1 g1 s1 v1=>⟨s1.tb,0,l,v1.c,(m l).mono (λz q2 a ws H2 g2 n2 e2 r2=>let ⟨s2,g3⟩:=g2.caller v1 s1;q2 a ws H2 (g1.trans g3) s2 (g1.there a n2) e2 r2) q1⟩) q⟩⟩
def aaX{m:Nat}(s:aY K H σ fs)(e:Ev fs aA)(h:aA[i]?=am (am (.dB ψ n m))):∃a,σ[i]?=am (am (.ref a))/\aA[i]?=am (am (.dB ψ n m)):=by
 rcases e.get h with z|⟨_,j,_,_,z,y⟩
 .obtain⟨u,e1,r⟩:=s.at' i _ z;rcases r with⟨v,e,_⟩|⟨a,rfl,_⟩
  .cases e
  .exact⟨a,e1,h⟩
 .cases z;obtain⟨u,e1,r⟩:=s.at' i _ y;rcases r with⟨v,e,_⟩|⟨a,rfl,_⟩
  .cases e
  .exact⟨a,e1,h⟩
def Wn(i:Nat){m:O PV->W PV}(G:Ts X.prog X.w X.K X.mg X.base x k ps (PY K (.p ψ d::ks) m))(hr:eG k' X.A)(hk:k<=k')(hg:Gl X x)(hs:fs[i]?=am (am (.dB ψ n0 mx)))(ha:AF X K fs es ks B aA)(pN:aA[i]?=am (am (.dB ψ n mx)))(hd:n+d<=mx)(mz: ~~~(jz x))(hN:‹X.N[i]?=am y›)(hv:Jh X.env.scope y:=by first|exact Cg rfl|exact Cr (Cg rfl)|exact Cr (Cr rfl))(ł: ~~~(jz y))(kD: ~~~(LC y))(he:‹gt (.Name y py::es) X.env=(false,o0 (.Name y py) X.env)::gt es X.env›)(eB:‹mm X pos es›):EF X K fs (.Call (.Name x p) (.Name y py::es) [] pos) (B m) (aA.set i (am (.dB ψ (n+d) mx))):=by
 obtain⟨w,hp,hB⟩:=ha.p;rw[hB];refine⟨PE.imp (JI G hr hk hg (a6 (fX hN hv ł kD) hp he) mz he eB) λσ H Q ⟨sr,q⟩=>?_⟩;obtain⟨a,e1,_⟩:=aaX sr (.refl _) hs;refine⟨_,e1,sr,w.mono (λl q1 vs H1 g1 s1 v1=>?_) q⟩;obtain⟨pt,h1,h2⟩:=s1.ownAt pN rfl e1;exact⟨s1.tb,n,l,.p pt (AD hd h2) v1.c,(m l).mono (λz q2 u H2 g2 r2=>let ⟨s2,g3⟩:=g2.WI v1 s1 pN e1 hd;q2 u H2 (g1.trans g3) s2 r2) q1⟩
end
end
end FL
variable{p':Cn}
namespace FL
section
variable[cx]
variable{K:Ab}
inductive End where
 |nx (fs:aR)|nc (fs:aR)|ct (fs:aR)|rt (v:PV)|rl (l:List PV)|bk (fs:aR)|ro (v:PV) (a:db) (l:List PV)
def Gs(σ:L2.St)(fs:aR)(H:Hp)(a:db):Prop:=H a=ce\/∃(i:Nat) (s:SL) (x:db),fs[i]?=am (am s)/\s.own=true/\(∀ψ n m,s≠.dB ψ n m)/\σ[i]?=am (am (.ref x))/\s.has x a
def cz(K:Ab)(x:Bool)(σ:L2.St)(fs:aR)(H:Hp)(D:Ends):End->Prop
 |.nx aP=>x=false->∀σ' H',cU σ fs H σ' aP H'->aY K H' σ' aP->D.nx σ' H'
 |.nc aP=>∀σ' H',cU σ fs H σ' aP H'->aY K H' σ' aP->(x=false->D.nx σ' H')/\D.ct σ' H'
 |.ct aP=>∀σ' H',cU σ fs H σ' aP H'->aY K H' σ' aP->D.ct σ' H'
 |.bk aP=>∀σ' H',cU σ fs H σ' aP H'->aY K H' σ' aP->D.bk σ' H'
 |.rt v=>∀u σ' aP H',cU σ fs H σ' aP H'->aY K H' σ' aP->VR K [] H' u v->D.rt u H'
 |.ro v a l=>∀u σ' aP H',cU σ fs H σ' aP H'->aY K H' σ' aP->(∃i:Nat,aP[i]?=am (am (.ol (am a) l)))->VR K [] H' u v->D.rt u H'
 |.rl l=>∀a ws σ' aP H',cU σ fs H σ' aP H'->aY K H' σ' aP->Gs σ fs H a->H' a=am (.lst ws)->aF K [] H' ws l->D.rt (.ref a) H'
def fS(K:Ab)(x:Bool)(fs:aR){T:Type}(w:W T)(out:T->End):TS:=λD σ H=>aY K H σ fs/\w.run λt=>cz K x σ fs H D (out t)
structure SF(X:Cx)(K:Ab)(x:Bool)(fs:aR)(Tt:List ut){T:Type}(w:W T)(out:T->End):Prop where p:pO X Tt (fS K x fs w out)
section
variable{σ1:L2.St}{x:Bool}
def Gs.go(g:cU σ fs H σ1 aA H1)(s:aY K H σ fs)(s1:aY K H1 σ1 aA)(h:Gs σ1 aA H1 a):Gs σ fs H a:=by
 rcases h with h|⟨i,t,x,e1,e2,np,e3,e4⟩
 .exact .inl (g.there a h)
 .cases z:H a with
  |none=>exact .inl z
  |some o=>
   by_cases c:cy σ fs a
   .obtain⟨j,t',y,c1,c2,c3,c4⟩:=c;by_cases d:∃ψ n m,t'=.dB ψ n m
    .obtain⟨ψ,n,m,rfl⟩:=d;rcases c4 with rfl|c4
     .rcases g.pk a ψ m ⟨j,n,c1,c3⟩ with⟨k,_,k1,k2⟩|⟨n,_⟩
      .have:=s1.nd i k t _ x a a e1 k1 e2 rfl e3 k2 e4 (.inl rfl);subst this;rw[e1]at k1;cases k1;exact absurd rfl (np _ _ _)
      .exact absurd ⟨i,t,x,e1,e2,e3,e4⟩ n
     .cases c4
    .exact .inr ⟨j,t',y,c1,c2,λψ n m e=>d ⟨ψ,n,m,e⟩,c3,c4⟩
   .exact absurd ⟨i,t,x,e1,e2,e3,e4⟩ (g.keep a o z c).2
def cz.go(g:cU σ fs H σ1 aA H1)(s:aY K H σ fs)(s1:aY K H1 σ1 aA){E:End}(h:cz K x σ fs H D E):cz K x σ1 aA H1 D E:=by
 cases E with
 |nx aP=>exact λhx σ' H' g' s'=>h hx σ' H' (g.trans g') s'
 |nc aP=>exact λσ' H' g' s'=>h σ' H' (g.trans g') s'
 |bk aP=>exact λσ' H' g' s'=>h σ' H' (g.trans g') s'
 |ct aP=>exact λσ' H' g' s'=>h σ' H' (g.trans g') s'
 |rt v=>exact λu σ' aP H' g' s' r=>h u σ' aP H' (g.trans g') s' r
 |ro v a l=>exact λu σ' aP H' g' s' o r=>h u σ' aP H' (g.trans g') s' o r
 |rl l=>exact λa ws σ' aP H' g' s' f e r=>h a ws σ' aP H' (g.trans g') s' (f.go g s s1) e r
def cz.exit{D':Ends}(h1:D'.rt=D.rt)(h2:D'.ct=D.ct)(h3:D'.bk=D.bk){E:End}(h:cz K x σ fs H D E):cz K true σ fs H D' E:=by
 cases E with
 |nx aP=>exact λhx=>nomatch hx
 |nc aP=>exact λσ' H' g' s'=>⟨λhx=>(nomatch hx),h2▸(h σ' H' g' s').2⟩
 |bk aP=>exact λσ' H' g' s'=>h3▸h σ' H' g' s'
 |ct aP=>exact λσ' H' g' s'=>h2▸h σ' H' g' s'
 |rt v=>exact λu σ' aP H' g' s' r=>h1▸h u σ' aP H' g' s' r
 |ro v a l=>exact λu σ' aP H' g' s' o r=>h1▸h u σ' aP H' g' s' o r
 |rl l=>exact λa ws σ' aP H' g' s' f e r=>h1▸h a ws σ' aP H' g' s' f e r
end
section
variable{X:Cx}{a b c e o:mo}{pos p:Pos}{fs aP aA:aR}{st:ut}{Tt rest sa sb:O ut}{T T1:Type}{w wk:W T}{out:T->End}{we:W PV}{wl:W (O PV)}{x:Bool}
def End.HM:End->Prop
 |.rt _=>True
 |.rl _=>True
 |.ro _ _ _=>True
 |_=>False
def cz.ahF{D':Ends}{y:Bool}{E:End}(ho:E.HM)(e:D'.rt=D.rt)(h:cz K x σ fs H D E):cz K y σ fs H D' E:=by
 cases E with
 |rt v=>exact λu σ' aP H' g s r=>e▸h u σ' aP H' g s r
 |rl v=>exact λa ws σ' aP H' g s f ea r=>e▸h a ws σ' aP H' g s f ea r
 |ro v a l=>exact λu σ' aP H' g s o r=>e▸h u σ' aP H' g s o r
 |_=>exact ho.elim
def GP(X:Cx)(K:Ab)(x:Bool)(rest:O ut){T:Type}(out:T->End):TS:=λD σ H=>∃aP w',SF X K x aP rest w' out/\fS K x aP w' out D σ H
def UA:pO X rest (GP X K x rest out):=λU s σ H D I ⟨aP,w',h,q⟩=>h.p U s σ H D I q
def Ra:pO X rest YU:=λ_ _ _ _ _ _ h=>h.elim
def SF.step{t:TS}(h:PS X st t)(hq:∀D σ H,fS K x fs w out D σ H->t {D with nx:=GP X K x rest out D} σ H):SF X K x fs (st::rest) w out:=⟨pO.imp (eO h UA) λD σ H q=>hq D σ H q⟩
def SF.last{t:TS}(h:PS X st t)(hq:∀D σ H,fS K x fs w out D σ H->t {D with nx:=λ_ _=>False} σ H):SF X K x fs (st::rest) w out:=⟨pO.imp (eO h Ra) λD σ H q=>hq D σ H q⟩
def SF.nil{t:T}(h:out t=.nx aP)(hl:dH fs aP):SF X K false fs [] (.ret t) out:=⟨pO.imp sA λD σ H ⟨sr,q⟩=>by
 have q:cz K false σ fs H D (out t):=q;rw[h]at q;exact q rfl σ H (cU.le sr hl) (sr.le hl)⟩
def SF.c7{t:T}(h:out t=.nc aP)(hl:dH fs aP):SF X K false fs [] (.ret t) out:=⟨pO.imp sA λD σ H ⟨sr,q⟩=>by
 have q:cz K false σ fs H D (out t):=q;rw[h]at q;exact(q σ H (cU.le sr hl) (sr.le hl)).1 rfl⟩
def SF.cont{t:T}(h:out t=.nc aP\/out t=.ct aP)(hl:dH fs aP):SF X K x fs (.Continue pos::rest) (.ret t) out:=SF.last Hb λD σ H ⟨sr,q⟩=>by
 have q:cz K x σ fs H D (out t):=q;rcases h with h|h
 .rw[h]at q;exact(q σ H (cU.le sr hl) (sr.le hl)).2
 .rw[h]at q;exact q σ H (cU.le sr hl) (sr.le hl)
def SF.ret{k:PV->T}(he:EF X K fs e we aA)(h:∀v,out (k v)=.rt v):SF X K x fs (.Return (am e) pos::rest) (.bind we λv=>.ret (k v)) out:=SF.last (tH he.p) λD σ H ⟨sr,q⟩=>⟨sr,we.mono (λv q1 u H1 g1 s1 v1=>by
 have q1:cz K x σ fs H D (out (k v)):=q1;rw[h]at q1;exact q1 u σ aA H1 g1.f s1 v1) q⟩
def SF.dJ{out:PV->End}(he:EF X K fs e we aA)(h:∀v,out v=.rt v):SF X K x fs (.Return (am e) pos::rest) we out:=SF.ret (k:=λv=>v) he h
def SF.ahl{k:O PV->T}(he:LF X K fs e wl aA)(h:∀l,out (k l)=.rl l):SF X K x fs (.Return (am e) pos::rest) (.bind wl λl=>.ret (k l)) out:=SF.last (tH he.p) λD σ H ⟨sr,q⟩=>⟨sr,wl.mono (λl q1 a ws H1 g1 s1 n e v1=>by
 have q1:cz K x σ fs H D (out (k l)):=q1;rw[h]at q1;exact q1 a ws σ aA H1 g1.f s1 (.inl n) e v1) q⟩
def SF.kS{out:O PV->End}(he:LF X K fs e wl aA)(h:∀v,out v=.rl v):SF X K x fs (.Return (am e) pos::rest) wl out:=SF.ahl he h
def SF.ym(i:Nat){l:O PV}{t:T}(hs:fs[i]?=am (am (.ol q0 l)))(h:out t=.rl l)(hN:‹X.N[i]?=am y›)(hv:Jh X.env.scope y:=by first|exact Cg rfl|exact Cr (Cg rfl)|exact Cr (Cr rfl))(hd: ~~~(jz y))(kD: ~~~(LC y)):SF X K x fs (.Return (am (.Name y p)) pos::rest) (.ret t) out:=SF.last (tH (fX hN hv hd kD)) λD σ H ⟨sr,q⟩=>by
 have q:cz K x σ fs H D (out t):=q;rw[h]at q;obtain⟨u,e1,r⟩:=sr.at' i _ hs;rcases r with⟨v,e,_⟩|⟨a,e,r⟩
 .cases e
 .subst e;obtain⟨_,ws,q1,q2⟩:=r;exact⟨_,e1,q a ws σ fs H .refl sr (.inr ⟨i,_,_,hs,rfl,by simp,e1,.inl rfl⟩) q1 q2⟩
def SF.expr{k:PV->W T}(he:EF X K fs e we aA)(hr:∀v,SF X K x aA rest (k v) out)(hs:‹r9 e ce pos.line X.env=pure false›):SF X K x fs (.Expr e pos::rest) (.bind we k) out:=SF.step (ou he.p hs) λD σ H ⟨sr,q⟩=>
 ⟨sr,we.mono (λv q1 u H1 g1 s1 v1=>⟨aA,k v,hr v,s1,(k v).mono (λt q2=>q2.go g1.f sr s1) q1⟩) q⟩
def SF.set{k:PV->W T}(hN:X.N.Nodup)(hi:X.N[i]?=am y)(hx:Loc X.env.scope y)(he:EF X K fs e we aA)(hr:∀v,SF X K x (aA.set i (am (.val v))) rest (k v) out)(hs:‹r9 e (am (.Name y p')) pos.line X.env=pure false›)(hf:Tp X y:=by first|exact .inl rfl|exact .inr rfl|assumption):SF X K x fs (.Assign [.Name y p'] e pos::rest) (.bind we k) out:=SF.step (m7 hN hi hx he.p hs hf) λD σ H ⟨sr,q⟩=>
 ⟨sr,we.mono (λv q1 u H1 g1 s1 v1=>⟨_,k v,hr v,s1.hJ v1 i,(k v).mono (λt q2=>q2.go (g1.f.trans (cU.hJ s1 u v i)) sr (s1.hJ v1 i)) q1⟩) q⟩
def SF.ahh{k:O PV->W T}(hN:X.N.Nodup)(hi:X.N[i]?=am y)(hx:Loc X.env.scope y)(he:LF X K fs e wl aA)(hr:∀l,SF X K x (aA.set i (am (.ol ce l))) rest (k l) out)(hs:‹r9 e (am (.Name y p')) pos.line X.env=pure false›)(hf:Tp X y:=by first|exact .inl rfl|exact .inr rfl|assumption):SF X K x fs (.Assign [.Name y p'] e pos::rest) (.bind wl k) out:=SF.step (m7 hN hi hx he.p hs hf) λD σ H ⟨sr,q⟩=>by
 refine⟨sr,wl.mono (λl q1 a ws H1 g1 s1 n e v1=>?_) q⟩;have no:¬cy σ aA a:=λz=>sr.noOwn n (g1.ev.fm z);have s2:=s1.yp (t:=.ol ce l) ⟨by simp,ws,e,v1⟩ no i;exact⟨_,k l,hr l,s2,(k l).mono (λt q2=>q2.go (cU.yp s1 g1 no n i) sr s2) q1⟩
def SF.cn(i:Nat){t:SL}(hs:fs[i]?=am (am t))(hr:SF X K x (fs.set i (am (.val t.bv))) Tt w out)(hb:‹t.bw=true›):SF X K x fs Tt w out:=⟨λU s σ H D I ⟨sr,q⟩=>by
 obtain⟨u,e1,r⟩:=sr.at' i _ hs;have ho:=SL.Ta hb;rcases r with⟨v,e,_⟩|⟨a,e,oa⟩
 .subst e;cases hb
 .subst e;obtain⟨ob,o,h1,n1,n2,I2,vr⟩:=aeC I oa hb;have ow:∀b,cy σ (fs.set i (am (.val t.bv))) b->cy σ fs b:=λb z=>by
   obtain⟨j,t,x,z1,z2,z3,z4⟩:=z;rcases cH z1 with⟨rfl,rfl⟩|⟨n,z1⟩
   .cases z2
   .exact⟨j,t,x,z1,z2,z3,z4⟩
  have s2:=sr.aeB hs ho e1 h1 n1 n2 vr;have g2:cU σ fs H σ (fs.set i (am (.val t.bv))) (upd H a (.cn ob o)):=by
   refine⟨λb o z n=>⟨?_,λy=>n (ow b y)⟩,λb z=>?_,λb ψ m z=>?_,λb z=>?_⟩
   .intro _;rw[ak (λy=>by subst y;exact n ⟨i,_,_,hs,ho,e1,.inl rfl⟩)];exact z
   .by_cases c:b=a
    .subst c;rw[aH]at z;cases z
    .rw[ak c]at z;exact z
   .obtain⟨j,k,z1,z2⟩:=z;have:j≠i:=λy=>by subst y;rw[hs]at z1;cases z1;cases hb
    exact .inl ⟨j,k,by rw[aD this];exact z1,z2⟩
   .have z':H b=_:=z;show upd H a _ b=_;rw[ak (λy=>by subst y;exact sr.ZP z' ⟨i,_,_,hs,ho,e1,.inl rfl⟩)];exact z'
  exact hr.p U s σ _ D I2 ⟨s2,w.mono (λt q3=>q3.go g2 sr s2) q⟩⟩
variable{tc:W Bool}
def SF.ifT(hc:TF X K fs c tc aA)(ha:SF X K x aA sa w out)(hb:SF X K x aA sb wk out):SF X K x fs [.If c sa sb pos] (.bind tc λb=>if b=true then w else wk) out:=⟨pO.imp (su (Ma hc.p ha.p hb.p)) λD σ H ⟨sr,q⟩=>⟨sr,tc.mono (λk q1 H1 g1 s1=>by
 cases k with
 |true=>exact y9 ⟨s1,w.mono (λt q2=>q2.go g1.f sr s1) q1⟩
 |false=>exact za ⟨s1,wk.mono (λt q2=>q2.go g1.f sr s1) q1⟩) q⟩⟩
def SF.ifR(hc:TF X K fs c tc aA)(ha:SF X K true aA sa w out)(hb:SF X K x aA rest wk out):SF X K x fs (.If c sa [] pos::rest) (.bind tc λb=>if b=true then w else wk) out:=SF.step (Ma hc.p ha.p sA) λD σ H ⟨sr,q⟩=>⟨sr,tc.mono (λk q1 H1 g1 s1=>by
 cases k with
 |true=>exact y9 ⟨s1,w.mono (λt q2=>cz.exit (D:=D) (D':={D with nx:=GP X K x rest out D}) rfl rfl rfl (q2.go g1.f sr s1)) q1⟩
 |false=>exact za ⟨aA,wk,hb,s1,wk.mono (λt q2=>q2.go g1.f sr s1) q1⟩) q⟩
def abE(X:Cx)(K:Ab)(x:Bool)(rest:O ut){T:Type}(w:W T)(out:T->End):End->Prop
 |.nx aP=>SF X K x aP rest w out
 |.nc aP=>False
 |.bk aP=>∃t,w=.ret t/\out t=.bk aP
 |.ct aP=>∃t,w=.ret t/\(out t=.ct aP\/out t=.nc aP)
 |.rt v=>∃t,w=.ret t/\out t=.rt v
 |.rl l=>∃t,w=.ret t/\out t=.rl l
 |.ro v a l=>∃t,w=.ret t/\out t=.ro v a l
def abE.r{E:End}(sr:aY K H σ fs)(h:abE X K x rest w out E)(q:w.run λt=>cz K x σ fs H D (out t)):cz K false σ fs H {D with nx:=GP X K x rest out D} E:=by
 cases E with
 |nx aP=>exact λ_ σ' H' g' s'=>⟨aP,w,h,s',w.mono (λt q2=>q2.go g' sr s') q⟩
 |nc aP=>exact h.elim
 |bk aP=>
  obtain⟨t,rfl,h⟩:=h;have q:cz K x σ fs H D (out t):=q;rw[h]at q;exact q
 |ct aP=>
  obtain⟨t,rfl,h⟩:=h;have q:cz K x σ fs H D (out t):=q;rcases h with h|h
  .rw[h]at q;exact q
  .rw[h]at q;exact λσ' H' g s=>(q σ' H' g s).2
 |rt v=>
  obtain⟨t,rfl,h⟩:=h;have q:cz K x σ fs H D (out t):=q;rw[h]at q;exact q
 |rl v=>
  obtain⟨t,rfl,h⟩:=h;have q:cz K x σ fs H D (out t):=q;rw[h]at q;exact q
 |ro v a l=>
  obtain⟨t,rfl,h⟩:=h;have q:cz K x σ fs H D (out t):=q;rw[h]at q;exact q
variable{w1 w2:W T1}{out1:T1->End}{k:T1->W T}
def SF.ifS(hc:TF X K fs c tc aA)(ha:SF X K false aA sa w1 out1)(hb:SF X K false aA sb w2 out1)(hr:∀t,abE X K x rest (k t) out (out1 t)):SF X K x fs (.If c sa sb pos::rest) (.bind tc λb=>.bind (if b=true then w1 else w2) k) out:=SF.step (Ma hc.p ha.p hb.p) λD σ H ⟨sr,q⟩=>⟨sr,tc.mono (λb q1 H1 g1 s1=>by
 have fin:∀t,(k t).run (λt=>cz K x σ fs H D (out t))->cz K false σ fs H {D with nx:=GP X K x rest out D} (out1 t):=λt q=>(hr t).r sr q;cases b with
 |true=>exact y9 ⟨s1,w1.mono (λt q2=>(fin t q2).go g1.f sr s1) q1⟩
 |false=>exact za ⟨s1,w2.mono (λt q2=>(fin t q2).go g1.f sr s1) q1⟩) q⟩
end
end
end FL
variable{is:O Nat}
namespace FL
section
variable[cx]
variable{K:Ab}
def JF(K:Ab)(H:Hp)(J:It)(l:O PV):Prop:=l.length<=sizeLine/\∀H',bz K H H'->(∀(i:Nat) (p:PV),l[i]?=am p->J.go i H'/\∀x H2,J.TR i H' x H2->jy H' H2/\VR K [] H2 x p)/\J.stop l.length H'
def JF.tk{J:It}{l:O PV}(t:bz K H H')(h:JF K H J l):JF K H' J l:=⟨h.1,λH2 t2=>h.2 H2 (bz.trans t t2)⟩
def fIt(K:Ab)(fs:aR)(w:W (O PV))(aP:aR:=fs):TI:=λσ H R=>aY K H σ fs/\w.run λl=>∀J H',cE σ fs H H' aP->aY K H' σ aP->JF K H' J l->R J H'
structure nW(X:Cx)(K:Ab)(fs:aR)(tg e:mo)(w:W (List PV))(aP:aR:=fs):Prop where p:PI X tg e (fIt K fs w aP)
section
variable{a c:mo}{p2:Pos}
def WY{ad:db}{l:O PV}(h:Jj K H ad vs)(r:aF K [] H vs l)(hz:l.length<=sizeLine):JF K H (Itl K ad) l:=⟨hz,λH' t=>by
 have e1:=(t.f _ _ h).sq;have e2:=aF.tk t r;refine⟨λi p hp=>?_,vs,e1,by rw[e2.length];exact Al _⟩;obtain⟨v,h3,h4⟩:=e2.get hp;refine⟨⟨vs,v,e1,h3⟩,λx H3 y=>?_⟩;obtain⟨rfl,y⟩:=y;have:=y vs e1;rw[h3]at this;cases this;exact⟨jy.refl _,h4⟩⟩
def abC{ad:db}{l:O PV}(h:H ad=am (.tup vs))(r:aF K [] H vs l)(hz:l.length<=sizeLine):JF K H (Itt K ad) l:=⟨hz,λH' t=>by
 have e1:=dU.of (K:=K) (t.t _ _ h);have e2:=aF.tk t r;refine⟨λi p hp=>?_,vs,e1,by rw[e2.length];exact Al _⟩;obtain⟨v,h3,h4⟩:=e2.get hp;refine⟨⟨vs,v,e1,h3⟩,λx H3 y=>?_⟩;obtain⟨rfl,y⟩:=y;have:=y vs e1;rw[h3]at this;cases this;exact⟨jy.refl _,h4⟩⟩
def bg(hK:X.K=K)(h:IF X K fs e wl aA):nW X K fs tg e wl aA:=⟨by
 subst hK;intro U s σ H R I ⟨sr,q⟩;refine cf (h.p U s σ H (λu H1=>∃l,SqI X.K H1 u l/\∀J,JF X.K H1 J l->R J H1) I ⟨sr,wl.mono (λl q1 u H1 g1 s1 v1=>⟨l,v1,λJ j=>q1 J H1 g1 s1 j⟩) q⟩) λv s1 ⟨x,H1,I1,r1,l,⟨ad,vs,e,hh,rs⟩,q1⟩=>?_;subst e;cases r1;rcases hh with hh|hh
 .obtain⟨aq,rv,pl,hz⟩:=I1.list hh.sq;refine DH pl.isList ?_;refine⟨s1.heap.objs.size,[s1.heap.objs.size],_,_,H1,rfl,I1.kept λb o e=>Ai _ e,Nc ad _,⟨_,An _ rfl,rfl,rfl⟩,λb hb=>?_,q1 _ (WY hh rs (by rw[<- rs.length];exact hz))⟩;have e:b=s1.heap.objs.size:=by simpa using hb
  subst e;exact I1.zm (Al _) (I1.bG.fresh (Al _))
 .obtain⟨aq,rv,pl,hz⟩:=I1.tuple (dU.of hh);refine Dx (pl) ?_;refine⟨s1.heap.objs.size,[s1.heap.objs.size],_,_,H1,rfl,I1.kept (t':=s1.toks) λb o e=>Ai _ e,Jo ad _,⟨_,An _ rfl,rfl,rfl⟩,λb hb=>?_,q1 _ (abC hh rs (by rw[<- rs.length];exact hz))⟩;have e:b=s1.heap.objs.size:=by simpa using hb
  subst e;exact I1.zm (Al _) (I1.bG.fresh (Al _))⟩
def okN(i j:Int):Prop:=-(2 ^ 62)<=i/\i<2 ^ 62/\-(2 ^ 62)<=j/\j<2 ^ 62/\(j-i).toNat<=sizeLine
def jb:PV->W (O PV)
 |.int j=>.eK (okN 0 j) (.ret (km 0 j.toNat))
 |_=>.fail
def Qh:PV->PV->PV->W (O PV)
 |.int i,.int j,.int k=>.eK (k = -1/\okN j i) (.ret (qX i (i-j).toNat))
 |_,_,_=>.fail
def abD(lo:Int)(n:Nat)(hz:n<=sizeLine):JF K H (Itr lo n) (km lo n):=⟨by rw[jo];exact hz,λH' t=>⟨λi p hp=>by
  obtain⟨h1,rfl⟩:=qr hp;refine⟨h1,λx H2 y=>?_⟩;obtain⟨rfl,rfl⟩:=y;exact⟨jy.refl _,.int _⟩,by rw[jo];exact Al _⟩⟩
theorem eX(hg:Gl X "range")(hm:X.mg "range"=ce)(ha:EF X K fs a wa aA)(hs:‹gt [a] X.env=[(false,o0 a X.env)]›):nW X K fs tg (.Call (.Name "range" p) [a] [] pos) (.bind wa jb) aA:=
 ⟨PI.imp (ND hg hm (a6 ha.p bP hs) hs) λσ H R ⟨sr,q⟩=>⟨sr,wa.mono (λx q1 u1 H1 g1 s1 v1=>by
  cases v1 with
  |int j=>exact⟨_,rfl,q1.1.2.2.1,q1.1.2.2.2.1,q1.2 _ H1 g1 s1 (abD _ _ (by have:=q1.1.2.2.2.2;lia))⟩
  |_=>exact q1.elim) q⟩⟩
def VN(hg:Gl X "range")(hm:X.mg "range"=ce)(ha:EF X K fs a wa aA)(hb:EF X K aA b wb fs2)(hc:EF X K fs2 c wc fs3)(hs:‹gt [a,b,c] X.env=[(false,o0 a X.env),(false,o0 b X.env),(false,o0 c X.env)]›)(vn:‹gt [b,c] X.env=[(false,o0 b X.env),(false,o0 c X.env)]›)(hs3:‹gt [c] X.env=[(false,o0 c X.env)]›):nW X K fs tg (.Call (.Name "range" p) [a,b,c] [] pos) (.bind wa λx=>.bind wb λy=>.bind wc λz=>Qh x y z) fs3:=
 ⟨PI.imp (NC hg hm (a6 ha.p (a6 hb.p (a6 hc.p bP hs3) (by show gt _ _=_;rw[vn,hs3])) (by show gt _ _=_;rw[hs,vn])) hs vn) λσ H R ⟨sr,q⟩=>⟨sr,wa.mono (λx q1 u1 H1 g1 s1 v1=>⟨s1,wb.mono (λy q2 u2 H2 g2 s2 v2=>⟨s2,wc.mono (λz q3 u3 H3 g3 s3 v3=>by
  cases v1 with
  |int i=>
   cases v2 with
   |int j=>
    cases v3 with
    |int k=>
     obtain⟨⟨rfl,k1,k2,k3,k4,k5⟩,q3⟩:=q3;refine⟨_,_,rfl,⟨k3,k4,k1,k2⟩,q3 _ H3 ((g1.trans g2).trans g3) s3 ⟨by rw[xG];exact k5,λH' t=>⟨λi p hp=>?_,?_⟩⟩⟩
     .obtain⟨h1,rfl⟩:=xH hp;refine⟨h1,λx H2 y=>?_⟩;obtain⟨rfl,rfl⟩:=y;exact⟨jy.refl _,.int _⟩
     .exact F6 (xG _ _).symm
    |_=>exact q3.elim
   |_=>exact q3.elim
  |_=>exact q3.elim) q2⟩) q1⟩) q⟩⟩
def jP(hK:X.K=K){kk:Nat}(hg:Gl X "enumerate")(hm:X.mg "enumerate"=ce)(h:IF X K fs e wl aA)(pN:‹hV X e []›):nW X K fs (.Tuple Í kk tp) (.Call (.Name "enumerate" p1) [e] [] p2) (.bind wl λl=>.eK (l.length<=sizeLine) (.ret (cY 0 l))) aA:=
 ⟨PI.imp (QM K hK hg hm h.p pN) λσ H R ⟨sr,q⟩=>⟨sr,wl.mono (λl q1 u1 H1 g1 s1 v1=>by
  obtain⟨ad,vs,rfl,hh,rs⟩:=v1;have yl:∀{H':Hp}{i:Nat}{x v:V}{y:PV}{pp:db},H' pp=ce->VR K [] H' v y->jy H' (upd H' pp (.tup [.int i,v]))/\VR K [] (upd H' pp (.tup [.int (i:Int),v])) (.ref pp) (.tup [.int ((0+i:Nat)),y]):=λ{H' i x v y pp} hn h4=>
   have sm:=i8 hn (.tup [.int (i:Int),v])
   ⟨sm,.tup aH (.cons (by rw[A5];exact .int _) (.cons (VR.tk sm.eL h4) .nil))⟩
  refine⟨ad,rfl,?_⟩;rcases hh with hh|hh
  .refine .inl ⟨⟨vs,hh.sq⟩,q1.2 _ H1 g1 s1 ⟨by rw[bE];exact q1.1,λH' t=>⟨λi p hp=>?_,vs,(t.f _ _ hh).sq,by rw[rs.length,bE];exact Al _⟩⟩⟩;obtain⟨y,hy,rfl⟩:=dz hp;obtain⟨v,h3,h4⟩:=(aF.tk t rs).get hy;refine⟨⟨vs,v,(t.f _ _ hh).sq,h3⟩,λx H3 z=>?_⟩;obtain⟨pp,x0,rfl,hn,rfl,hz⟩:=z;have:=hz vs (t.f _ _ hh).sq;rw[h3]at this;cases this;exact yl (x:=.aO) hn h4
  .refine .inr ⟨⟨vs,dU.of hh⟩,q1.2 _ H1 g1 s1 ⟨by rw[bE];exact q1.1,λH' t=>⟨λi p hp=>?_,vs,dU.of (t.t _ _ hh),by rw[rs.length,bE];exact Al _⟩⟩⟩;obtain⟨y,hy,rfl⟩:=dz hp;obtain⟨v,h3,h4⟩:=(aF.tk t rs).get hy;refine⟨⟨vs,v,dU.of (t.t _ _ hh),h3⟩,λx H3 z=>?_⟩;obtain⟨pp,x0,rfl,hn,rfl,hz⟩:=z;have:=hz vs (dU.of (t.t _ _ hh));rw[h3]at this;cases this;exact yl (x:=.aO) hn h4) q⟩⟩
end
def yj:O Nat->O V->L2.St->L2.St
 |i::is,u::us,σ=>yj is us (σ.set i (am u))
 |_,_,σ=>σ
def fG(K:Ab)(fs:aR)(is:O Nat){T:Type}(wt:PV->W T)(fs2:T->aR):TG:=λv σ H Q=>∃p,aY K H σ fs/\VR K [] H v p/\(wt p).run λt=>∀us,cU σ fs H (yj is us σ) (fs2 t) H->aY K H (yj is us σ) (fs2 t)->Q (yj is us σ) H
structure GF(X:Cx)(K:Ab)(fs:aR)(tg:mo)(is:List Nat){T:Type}(wt:PV->W T)(fs2:T->aR):Prop where p:PG X tg (fG K fs is wt fs2)
def vm:PV->W (PV×PV)
 |.tup [a,b]=>.ret (a,b)
 |_=>.fail
def un4:PV->W (PV×PV×PV×PV)
 |.tup [a,b,c,d]=>.ret (a,b,c,d)
 |_=>.fail
section
def g_1(h:PG X tg (eI i)):GF X K fs tg [i] .ret (λp=>fs.set i (am (.val p))):=⟨PG.imp h λv σ H Q ⟨p,sr,r,q⟩=>q [v] (cU.hJ sr v p i) (sr.hJ r i)⟩
def Pc(hK:X.K=K)(h:PG X tg (aaQ X.K 2 (uG (eI i) (uG (eI j) aaR)))):GF X K fs tg [i,j] vm (λt=>(fs.set i (am (.val t.1))).set j (am (.val t.2))):=⟨PG.imp h λv σ H Q ⟨p,sr,r,q⟩=>by
 unfold vm at q
 split at q
 .cases r with
  |tup e rs=>
   cases rs with
   |cons ra t=>
   cases t with
   |cons rb t=>
   cases t;have s1:=sr.hJ ra i;exact⟨_,_,rfl,dU.of e,rfl,_,_,rfl,_,_,rfl,rfl,q [_,_] ((cU.hJ sr _ _ i).trans (cU.hJ s1 _ _ j)) (s1.hJ rb j)⟩
 .exact q.elim⟩
def g_4{l:Nat}(hK:X.K=K)(h:PG X tg (aaQ X.K 4 (uG (eI i) (uG (eI j) (uG (eI k) (uG (eI l) aaR)))))):GF X K fs tg [i,j,k,l] un4 (λt=>(((fs.set i (am (.val t.1))).set j (am (.val t.2.1))).set k (am (.val t.2.2.1))).set l (am (.val t.2.2.2))):=⟨PG.imp h λv σ H Q ⟨p,sr,r,q⟩=>by
 unfold un4 at q
 split at q
 .cases r with
  |tup e rs=>
   cases rs with
   |cons ra t=>
   cases t with
   |cons rb t=>
   cases t with
   |cons rc t=>
   cases t with
   |cons rd t=>
   cases t;have s1:=sr.hJ ra i;have s2:=s1.hJ rb j;have s3:=s2.hJ rc k;exact⟨_,_,rfl,dU.of e,rfl,_,_,rfl,_,_,rfl,_,_,rfl,_,_,rfl,rfl,q [_,_,_,_] ((((cU.hJ sr _ _ i).trans (cU.hJ s1 _ _ j)).trans (cU.hJ s2 _ _ k)).trans (cU.hJ s3 _ _ l)) (s3.hJ rd l)⟩
 .exact q.elim⟩
end
section
variable{S T:Type}
def bU:O PV->S->(PV->S->W S)->W S
 |[],s,_=>.ret s
 |x::r,s,f=>.bind (f x s) λs'=>bU r s' f
inductive Lp(S T:Type) where
 |go (s:S)|out (t:T)
def mD:O PV->S->(PV->S->W (Lp S T))->W (Lp S T)
 |[],s,_=>.ret (.go s)
 |x::r,s,f=>.bind (f x s) λo=>match o with
  |.go s'=>mD r s' f
  |.out t=>.ret (.out t)
def Pb(k:S->W T)(inj:R->T):Lp S R->W T
 |.go s=>k s
 |.out r=>.ret (inj r)
@[simp] theorem aiT(k:S->W T)(inj:R->T)(s:S):Pb k inj (.go s)=k s:=(rfl)
@[simp] theorem agd(k:S->W T)(inj:R->T)(r:R):Pb k inj (.out r)=.ret (inj r):=(rfl)
def lpE(hd:S->aR)(out:R->End):Lp S R->End
 |.go s=>.nc (hd s)
 |.out r=>out r
def iA(c:S->W Bool)(b:S->W S):Nat->S->W S
 |0,_=>.fail
 |n+1,s=>.bind (c s) λk=>if k=true then .bind (b s) (iA c b n) else .ret s
def xU(c:S->W Bool)(b:S->W S)(s:S):W S:=⟨λQ=>∃n,(iA c b n s).run Q,λh ⟨n,q⟩=>⟨n,(iA c b n s).mono h q⟩⟩
end
section
variable{c:mo}{rest:O ut}{S T T2:Type}{hd:S->aR}{s0:S}{wt:PV->W T2}{fs2:S->T2->aR}{k:S->W T}{out:T->End}{x:Bool}{R:Type}{inj:R->T}
theorem SF.aeF{hd:Nat->S->aR}{hE:S->aR}{fs2:Nat->S->T2->aR}{f:PV->S->W S}{wb:T2->S->W S}(hp:wn (gl X.prog X.w) X.A X.env X.xe)(hc:X.calm=true)(hi:nW X K fs tg iter wl aA)(hl:dH aA (hd 0 s0))(hg:∀i s,GF X K (hd i s) tg is wt (fs2 i s))(hf:∀p s,f p s=.bind (wt p) λt=>wb t s)(hb:∀i s t,i<sizeLine->SF X K false (fs2 i s t) body (wb t s) λs'=>.nc (hd (i+1) s'))(hx:∀i s,i<=sizeLine->dH (hd i s) (hE s))(hr:∀s,SF X K x (hE s) rest (k s) out)(hs:rj X iter:=by intro _;rfl):SF X K x fs (.For tg iter body [] pos::rest) (.bind wl λl=>.bind (bU l s0 f) k) out:=by
 refine SF.step (QD (g:=λv σ H Q=>∃i s,fG K (hd i s) is wt (fs2 i s) v σ H Q) (tb:=λD σ H=>∃i s t,i<sizeLine/\fS K false (fs2 i s t) (wb t s) (λs'=>.nc (hd (i+1) s')) D σ H) hp hc hi.p (λU s σ H v u Q I r ⟨i1,s1,q⟩=>(hg i1 s1).p U s σ H v u Q I r q) (λU s σ H D I ⟨i1,s1,t1,h1,q⟩=>(hb i1 s1 t1 h1).p U s σ H D I q) hs) λD σ H ⟨sr,q⟩=>?_;refine⟨sr,wl.mono (λl q1 J H1 g1 s1 jf=>?_) q⟩;have hz:=jf.1;refine⟨λi m σ' H'=>∃s,aY K H' σ' (hd i s)/\cU σ fs H σ' (hd i s) H'/\JF K H' J l/\m=l.length-i/\i<=l.length/\(bU (l.drop i) s f).run λs'=>(k s').run λt=>cz K x σ fs H D (out t),⟨l.length,s0,s1.le hl,g1.f.trans (cU.le s1 hl),jf,by simp,A9 _,by simpa using q1⟩,?_⟩;rintro i m σ2 H2 ⟨s,s2,g2,VJ,rfl,hi,q2⟩;obtain⟨j1,j2⟩:=VJ.2 H2 (bz.refl H2);by_cases iY:i<l.length
 .obtain⟨go,yl⟩:=j1 i _ (Ad iY);rw[(B2 iY)]at q2;refine .inr ⟨go,λσ3 H3=>∃s',aY K H3 σ3 (hd (i+1) s')/\cU σ fs H σ3 (hd (i+1) s') H3/\JF K H3 J l/\(bU (l.drop (i+1)) s' f).run λs'=>(k s').run λt=>cz K x σ fs H D (out t),λσ3 H3 ⟨s',a1,a2,a3,a4⟩=>⟨l.length-(i+1),by lia,s',a1,a2,a3,rfl,iY,a4⟩,λv H3 y=>?_⟩;obtain⟨sm,vx⟩:=yl v H3 y;have q2:(f l[i] s).run λs'=>(bU (l.drop (i+1)) s' f).run λs'=>(k s').run λt=>cz K x σ fs H D (out t):=q2;rw[hf]at q2;have s3:=s2.same sm;refine⟨i,s,_,s3,vx,(wt l[i]).mono (λt q4 us g4 s4=>?_) q2⟩;refine⟨i,s,t,by lia,s4,(wb t s).mono (λs' q5 σ5 H5 g5 s5=>?_) q4⟩;have fin:∃s',aY K H5 σ5 (hd (i+1) s')/\cU σ fs H σ5 (hd (i+1) s') H5/\JF K H5 J l/\(bU (l.drop (i+1)) s' f).run λs'=>(k s').run λt=>cz K x σ fs H D (out t):=⟨s',s5,((g2.trans (cU.same sm s2)).trans g4).trans g5,VJ.tk (bz.trans sm.eL (bz.trans (g4.di s3) (g5.di s4))),q5⟩;exact⟨λ_=>fin,fin⟩
 .have e:i=l.length:=by lia
  subst e;rw[EZ]at q2;have le:=hx l.length s hz;exact .inl ⟨j2,hE s,k s,hr s,s2.le le,(k s).mono (λt q3=>q3.go (g2.trans (cU.le s2 le)) sr (s2.le le)) q2⟩
def SF.for{f:PV->S->W S}{wb:T2->S->W S}(hp:wn (gl X.prog X.w) X.A X.env X.xe)(hc:X.calm=true)(hi:nW X K fs tg iter wl aA)(hl:dH aA (hd s0))(hg:∀s,GF X K (hd s) tg is wt (fs2 s))(hf:∀p s,f p s=.bind (wt p) λt=>wb t s)(hb:∀s t,SF X K false (fs2 s t) body (wb t s) λs'=>.nc (hd s'))(hr:∀s,SF X K x (hd s) rest (k s) out)(hs:rj X iter:=by intro _;rfl):SF X K x fs (.For tg iter body [] pos::rest) (.bind wl λl=>.bind (bU l s0 f) k) out:=SF.aeF (hd:=λ_=>hd) (fs2:=λ_=>fs2) hp hc hi hl (λ_=>hg) hf (λ_ s t _=>hb s t) (λ_ s _=>.refl _) hr hs
theorem SF.X5{hd:Nat->S->aR}{hE:S->aR}{fs2:Nat->S->T2->aR}{f:PV->S->W (Lp S R)}{wb:T2->S->W (Lp S R)}(hp:wn (gl X.prog X.w) X.A X.env X.xe)(hc:X.calm=true)(hi:nW X K fs tg iter wl aA)(hl:dH aA (hd 0 s0))(hg:∀i s,GF X K (hd i s) tg is wt (fs2 i s))(hf:∀p s,f p s=.bind (wt p) λt=>wb t s)(ho:∀t,(out (inj t)).HM)(hb:∀i s t,i<sizeLine->SF X K false (fs2 i s t) body (wb t s) (lpE (hd (i+1)) λr=>out (inj r)))(hx:∀i s,i<=sizeLine->dH (hd i s) (hE s))(hr:∀s,SF X K x (hE s) rest (k s) out)(hs:rj X iter:=by intro _;rfl):SF X K x fs (.For tg iter body [] pos::rest) (.bind wl λl=>.bind (FL.mD l s0 f) (Pb k inj)) out:=by
 refine SF.step (QD (g:=λv σ H Q=>∃i s,fG K (hd i s) is wt (fs2 i s) v σ H Q) (tb:=λD σ H=>∃i s t,i<sizeLine/\fS K false (fs2 i s t) (wb t s) (lpE (hd (i+1)) λr=>out (inj r)) D σ H) hp hc hi.p (λU s σ H v u Q I r ⟨i1,s1,q⟩=>(hg i1 s1).p U s σ H v u Q I r q) (λU s σ H D I ⟨i1,s1,t1,h1,q⟩=>(hb i1 s1 t1 h1).p U s σ H D I q) hs) λD σ H ⟨sr,q⟩=>?_;refine⟨sr,wl.mono (λl q1 J H1 g1 s1 jf=>?_) q⟩;have hz:=jf.1;have lo:∀D' y t,D'.rt=D.rt->cz K x σ fs H D (out (inj t))->cz K y σ fs H D' (out (inj t)):=λD' y t e h=>cz.ahF (ho t) e h;refine⟨λi m σ' H'=>∃s,aY K H' σ' (hd i s)/\cU σ fs H σ' (hd i s) H'/\JF K H' J l/\m=l.length-i/\i<=l.length/\(FL.mD (l.drop i) s f).run λo=>(Pb k inj o).run λt=>cz K x σ fs H D (out t),⟨l.length,s0,s1.le hl,g1.f.trans (cU.le s1 hl),jf,by simp,A9 _,by simpa using q1⟩,?_⟩;rintro i m σ2 H2 ⟨s,s2,g2,VJ,rfl,hi,q2⟩;obtain⟨j1,j2⟩:=VJ.2 H2 (bz.refl H2);by_cases iY:i<l.length
 .obtain⟨go,yl⟩:=j1 i _ (Ad iY);rw[(B2 iY)]at q2;refine .inr ⟨go,λσ3 H3=>∃s',aY K H3 σ3 (hd (i+1) s')/\cU σ fs H σ3 (hd (i+1) s') H3/\JF K H3 J l/\(FL.mD (l.drop (i+1)) s' f).run λo=>(Pb k inj o).run λt=>cz K x σ fs H D (out t),λσ3 H3 ⟨s',a1,a2,a3,a4⟩=>⟨l.length-(i+1),by lia,s',a1,a2,a3,rfl,iY,a4⟩,λv H3 y=>?_⟩;obtain⟨sm,vx⟩:=yl v H3 y;have q2:(f l[i] s).run λo=>(match o with|.go s'=>FL.mD (l.drop (i+1)) s' f|.out t=>ca (.out t)).run λo=>(Pb k inj o).run λt=>cz K x σ fs H D (out t):=q2;rw[hf]at q2;have s3:=s2.same sm;have g3:=g2.trans (cU.same sm s2);refine⟨i,s,_,s3,vx,(wt l[i]).mono (λt q4 us g4 s4=>?_) q2⟩;refine⟨i,s,t,by lia,s4,(wb t s).mono (λo q5=>?_) q4⟩;cases o with
  |out t5=>
   refine cz.go (g3.trans g4) sr s4 (lo _ false t5 ?_ q5);rfl
  |go s'=>
   intro σ5 H5 g5 s5;have fin:∃s',aY K H5 σ5 (hd (i+1) s')/\cU σ fs H σ5 (hd (i+1) s') H5/\JF K H5 J l/\(FL.mD (l.drop (i+1)) s' f).run λo=>(Pb k inj o).run λt=>cz K x σ fs H D (out t):=⟨s',s5,(g3.trans g4).trans g5,VJ.tk (bz.trans sm.eL (bz.trans (g4.di s3) (g5.di s4))),q5⟩;exact⟨λ_=>fin,fin⟩
 .have e:i=l.length:=by lia
  subst e;rw[EZ]at q2;have le:=hx l.length s hz;exact .inl ⟨j2,hE s,k s,hr s,s2.le le,(k s).mono (λt q3=>q3.go (g2.trans (cU.le s2 le)) sr (s2.le le)) q2⟩
def SF.mD{f:PV->S->W (Lp S R)}{wb:T2->S->W (Lp S R)}(hp:wn (gl X.prog X.w) X.A X.env X.xe)(hc:X.calm=true)(hi:nW X K fs tg iter wl aA)(hl:dH aA (hd s0))(hg:∀s,GF X K (hd s) tg is wt (fs2 s))(hf:∀p s,f p s=.bind (wt p) λt=>wb t s)(ho:∀t,(out (inj t)).HM)(hb:∀s t,SF X K false (fs2 s t) body (wb t s) (lpE hd λr=>out (inj r)))(hr:∀s,SF X K x (hd s) rest (k s) out)(hs:rj X iter:=by intro _;rfl):SF X K x fs (.For tg iter body [] pos::rest) (.bind wl λl=>.bind (FL.mD l s0 f) (Pb k inj)) out:=SF.X5 (hd:=λ_=>hd) (fs2:=λ_=>fs2) hp hc hi hl (λ_=>hg) hf ho (λ_ s t _=>hb s t) (λ_ s _=>.refl _) hr hs
def kJ(N:Nat)(c:S->W Bool)(b:S->W S)(s:S):W S:=⟨λQ=>∃n,n<=N/\(iA c b n s).run Q,λh ⟨n,l,q⟩=>⟨n,l,(iA c b n s).mono h q⟩⟩
theorem SF.kJ{N:Nat}{hd:Nat->S->aR}{hE:S->aR}{cw:S->W Bool}{b:S->W S}(hp:wn (gl X.prog X.w) X.A X.env X.xe)(hl:dH fs (hd 0 s0))(hc:∀i s,TF X K (hd i s) c (cw s))(hb:∀i s,i<N->SF X K false (hd i s) body (b s) λs'=>.nc (hd (i+1) s'))(hx:∀i s,i<=N->dH (hd i s) (hE s))(hr:∀s,SF X K x (hE s) rest (k s) out):SF X K x fs (.While c body [] pos::rest) (.bind (FL.kJ N cw b s0) k) out:=by
 refine SF.step (Ha (tc:=λσ H Q=>∃i s,fT K (hd i s) (cw s) (hd i s) σ H Q) (tb:=λD σ H=>∃i s,i<N/\fS K false (hd i s) (b s) (λs'=>.nc (hd (i+1) s')) D σ H) hp (λU s σ H Q I ⟨i1,s1,q⟩=>(hc i1 s1).p U s σ H Q I q) (λU s σ H D I ⟨i1,s1,h1,q⟩=>(hb i1 s1 h1).p U s σ H D I q)) λD σ H ⟨sr,n,hn,q⟩=>?_;refine⟨λm σ' H'=>∃i s,i+m<=N/\aY K H' σ' (hd i s)/\cU σ fs H σ' (hd i s) H'/\(iA cw b m s).run λs'=>(k s').run λt=>cz K x σ fs H D (out t),⟨n,0,s0,by lia,sr.le hl,cU.le sr hl,q⟩,?_⟩;rintro m σ1 H1 ⟨i,s,him,s1,g1,q1⟩;cases m with
 |zero=>exact q1.elim
 |succ m=>
  refine⟨i,s,s1,(cw s).mono (λkk q2 H2 g2 s2=>?_) q1⟩;cases kk with
  |false=>
   have le:=hx i s ∅;exact za ⟨hE s,k s,hr s,s2.le le,(k s).mono (λt q3=>q3.go ((g1.trans g2.f).trans (cU.le s2 le)) sr (s2.le le)) q2⟩
  |true=>
   refine y9 ?_;refine⟨λσ3 H3=>∃s,aY K H3 σ3 (hd (i+1) s)/\cU σ fs H σ3 (hd (i+1) s) H3/\(iA cw b m s).run λs'=>(k s').run λt=>cz K x σ fs H D (out t),λσ3 H3 ⟨s,a⟩=>⟨m,Df m,i+1,s,by lia,a⟩,i,s,by lia,s2,(b s).mono (λs' q5 σ5 H5 g5 s5=>?_) q2⟩;have fin:∃s,aY K H5 σ5 (hd (i+1) s)/\cU σ fs H σ5 (hd (i+1) s) H5/\(iA cw b m s).run λs'=>(k s').run λt=>cz K x σ fs H D (out t):=⟨s',s5,(g1.trans g2.f).trans g5,q5⟩;exact⟨λ_=>fin,fin⟩
def SF.W8{cw:S->W Bool}{b:S->W S}(hp:wn (gl X.prog X.w) X.A X.env X.xe)(hl:dH fs (hd s0))(hc:∀s,TF X K (hd s) c (cw s))(hb:∀s,SF X K false (hd s) body (b s) λs'=>.nc (hd s'))(hr:∀s,SF X K x (hd s) rest (k s) out):SF X K x fs (.While c body [] pos::rest) (.bind (xU cw b s0) k) out:=⟨λU s σ H D I ⟨sr,n,q⟩=>(SF.kJ (N:=n) (hd:=λ_=>hd) hp hl (λ_=>hc) (λ_ s _=>hb s) (λ_ s _=>.refl _) hr).p U s σ H D I ⟨sr,n,Al n,q⟩⟩
end
end
end FL
variable{f:PL.PV->FL.W (Option PL.PV)}{qS Pd:FL.aR}{hd:Nat->FL.aR}
namespace FL
section
variable[cx]
variable{K:Ab}
def kz:O PV->(PV->W (Option PV))->W (O PV)
 |[],_=>.ret []
 |x::r,f=>.bind (f x) λo=>.bind (kz r f) λl=>.ret (o.toList++l)
def bx:O PV->(PV->W PV)->W (O PV)
 |[],_=>.ret []
 |x::r,f=>.bind (f x) λy=>.bind (bx r f) λl=>.ret (y::l)
theorem yK(f:PV->W PV):∀l,bx l f=kz l λp=>.bind (f p) λv=>.ret (am v)
 |[]=>rfl
 |x::r=>by
  show bn (f x) (λy=>bn (bx r f) λl=>ca (y::l))=bn (f x) λy=>bn (kz r _) λl=>ca (y::l);rw[yK f r]
def bh(ix:O (Option Nat))(fs:aR):aR:=ix.map λo=>match o with|some j=>(fs[j]?).getD ce|none=>ce
section
def pG{s:SL}(h:(bh ix fs)[i]?=am (am s)):∃j,ix[i]?=am (am j)/\fs[j]?=am (am s):=by
 unfold bh at h;rw[Ah]at h;cases q:ix[i]? with
 |none=>rw[q]at h;cases h
 |some o=>
  rw[q]at h;cases o with
  |none=>cases h
  |some j=>
   refine⟨j,rfl,?_⟩;have h:(fs[j]?).getD ce=am s:=Option.some.inj h;cases z:fs[j]? with
   |none=>rw[z]at h;cases h
   |some y=>rw[z]at h;exact congrArg am h
def ml(h:ix[i]?=am (am j))(e:σ[j]?=am (am u)):(pF ix σ)[i]?=am (am u):=by
 unfold pF;rw[Ah,h];show am ((σ[j]?).getD ce)=_;rw[e];rfl
def aY.fg(s:aY K H σ fs)(inj:∀i i' j:Nat,ix[i]?=am (am j)->ix[i']?=am (am j)->i=i'):aY K H (pF ix σ) (bh ix fs):=by
 refine⟨by unfold pF bh;simp,λi t e=>?_,λi i' t u x y a e1 e2 o1 o2 q1 q2 z1 z2=>?_,s.tb⟩
 .obtain⟨j,h1,h2⟩:=pG e;obtain⟨u,h3,h4⟩:=s.at' j t h2;exact⟨u,ml h1 h3,h4⟩
 .obtain⟨j,h1,h2⟩:=pG e1;obtain⟨j',gw,vq⟩:=pG e2;obtain⟨u1,h3,_⟩:=s.at' j t h2;obtain⟨u2,R1,_⟩:=s.at' j' u vq;rw[ml h1 h3]at q1;rw[ml gw R1]at q2;cases q1;cases q2;have:=s.nd j j' t u x y a h2 vq o1 o2 h3 R1 z1 z2;subst this;exact inj i i' j h1 gw
structure Ys(ix:List (Option Nat))(σ:L2.St)(fs:aR)(σ':L2.St)(aP:aR):Prop where
 own:∀(i:Nat) (t:SL),aP[i]?=am (am t)->t.own=true->∃j,ix[i]?=am (am j)/\fs[j]?=am (am t)/\σ'[i]?=σ[j]?
def Cap(ix:O (Option Nat))(σ σ':L2.St):Prop:=∀(i j:Nat) (u:V),ix[i]?=am (am j)->σ[j]?=am (am u)->σ'[i]?=am (am u)
def Cap.RN(c:Cap ix σ σ')(s:aY K H σ fs):Ys ix σ fs σ' (bh ix fs):=⟨λi t e _=>by
 obtain⟨j,h1,h2⟩:=pG e;obtain⟨u,h3,_⟩:=s.at' j t h2;exact⟨j,h1,h2,by rw[c i j u h1 h3,h3]⟩⟩
def Ys.fm(h:Ys ix σ fs σ' aP)(o:cy σ' aP a):cy σ fs a:=by
 obtain⟨i,t,x,e1,e2,e3,e4⟩:=o;obtain⟨j,h1,h2,h3⟩:=h.own i t e1 e2;exact⟨j,t,x,h2,e2,h3▸e3,e4⟩
def Ys.dB(h:Ys ix σ fs σ' aP){m:Nat}(o:g9 σ' aP ψ m a):g9 σ fs ψ m a:=by
 obtain⟨i,n,e1,e3⟩:=o;obtain⟨j,h1,h2,h3⟩:=h.own i _ e1 rfl;exact⟨j,n,h2,h3▸e3⟩
def Ys.out{V7 fsC:aR}(h:Ys ix σ fs σ' aP)(cp:Cap ix σ σ')(s:aY K H1 σ fs)(g:cE σ' aP H1 H2 fsC)(s2:aY K H2 σ' (bh ix V7))(ev:Ev fs V7)(hc:∀j:Nat,fs[j]?=V7[j]?\/∃i':Nat,ix[i']?=am (am j)):aY K H2 σ V7/\cE σ fs H1 H2 V7:=by
 have gf:cE σ fs H1 H2 V7:=⟨λa o e n t=>g.keep a o e (λψ m z=>n ψ m (h.dB z)) t,g.there,ev,g.x⟩;have fg:∀{i j:Nat}{t:SL},ix[i]?=am (am j)->V7[j]?=am (am t)->(bh ix V7)[i]?=am (am t):=λ{i j t} e1 e2=>by
  unfold bh;rw[Ah,e1];show am ((V7[j]?).getD ce)=_;rw[e2];rfl
 have tk:=gf.di s;refine⟨⟨s.len.trans ev.len,λj t e=>?_,ev.nd s,s2.tb⟩,gf⟩
 .rcases hc j with e0|⟨i,hi⟩
  .rw[<- e0]at e;obtain⟨u,h1,h2⟩:=s.at' j t e;refine⟨u,h1,?_⟩;rcases h2 with⟨v,q,r⟩|⟨a,q,r⟩
   .exact .inl ⟨v,q,VR.tk tk r⟩
   .subst q;refine .inr ⟨a,rfl,?_⟩;by_cases c:∃b,t.own=true/\t.has a b/\cy σ' aP b
    .obtain⟨b,ow,hb,i,t',x,c1,c2,c3,c4⟩:=c;obtain⟨j',k1,k2,k3⟩:=h.own i t' c1 c2;have jj:=s.nd j j' t t' a x b e k2 ow c2 h1 (k3▸c3) hb c4;subst jj;rw[e]at k2;cases k2;exact s2.ownAt (fg k1 (e0▸e)) c2 (k3.trans h1)
    .exact r.mono tk (λb o ow hb z nt=>g.uw z (λy=>c ⟨b,ow,hb,y⟩) nt)
  .obtain⟨u',h3,h4⟩:=s2.at' i t (fg hi e);have he:∃t',fs[j]?=am (am t'):=by
    rcases ev.get e with z|⟨_,_,_,_,_,z⟩
    .exact⟨_,z⟩
    .exact⟨_,z⟩
   obtain⟨t',he⟩:=he;obtain⟨u,h1,_⟩:=s.at' j t' he;have:=cp i j u hi h1;rw[h3]at this;cases this;exact⟨_,h1,h4⟩
theorem m6:∀{is:O Nat}{us:O V}{σ:L2.St}{i:Nat},i∉is->(yj is us σ)[i]?=σ[i]?
 |[],us,σ,i,_=>by cases us<;>rfl
 |j::is,[],σ,i,_=>rfl
 |j::is,u::us,σ,i,h=>by
  rw[yj,m6 (λz=>h (A4 _ z))];exact aD (λz=>h (by rw[z];exact BK))
end
section
variable{sc:nw}{T2:Type}{wt:PV->W T2}{fs2:T2->aR}{tf:T2->W Bool}{te:T2->W PV}
structure FF(X:Cx)(K:Ab)(fs:aR)(É:List mo)(w:W Bool):Prop where p:PFs X É (fT K fs w)
def KJ:FF X K fs [] (.ret true):=⟨λU s σ H Q I ⟨sr,q⟩=>UW U s σ H Q I (q H .refl sr)⟩
def Sb{c:mo}{w:W Bool}(h:TF X K fs c w):FF X K fs [c] w:=⟨UU h.p⟩
def qE(is:O Nat)(qS:aR)(fs2:T2->aR):Prop:=∀t,(fs2 t).length=qS.length/\∀(i:Nat) (s:SL),(fs2 t)[i]?=am (am s)->(i∈is/\s.own=false)\/(i∉is/\qS[i]?=am (am s))
theorem Yc{fs2 fs3:Nat->T2->aR}(S:a7 X.env.scope X.N sc N' ix)(h0:pP aA (hd 0))(hx:∀i,i<=sizeLine->pP (hd i) Pd)(hv:∀i,i<sizeLine->Ev (hd i) (hd (i+1)))(X2:∀i j:Nat,(hd i)[j]?=(hd (i+1))[j]?\/∃i':Nat,ix[i']?=am (am j))(hf:∀p,f p=.bind (wt p) λt=>.bind (tf t) λk=>if k=true then .bind (te t) λv=>.ret (am v) else .ret ce)(hl:∀i,qE is (bh ix (hd i)) (fs2 i))(ã:∀i t,i<sizeLine->dH (fs2 i t) (bh ix (hd (i+1))))(â:∀i t,i<sizeLine->dH (fs3 i t) (bh ix (hd (i+1))))(sP:∀j∈is,ix[j]?=am ce):∀σ H Q,fL K fs (.bind wl λl=>kz l f) Pd σ H Q->tLc ix (fIt K fs wl aA) (λv σ H Q=>∃i,fG K (bh ix (hd i)) is wt (fs2 i) v σ H Q) (λσ H Q=>∃i t,fT K (fs2 i t) (tf t) (fs2 i t) σ H Q) (λσ H Q=>∃i t,i<sizeLine/\fE K (fs2 i t) (te t) (fs3 i t) σ H Q) σ H Q:=by
 rintro σ H Q ⟨sr,q⟩;refine⟨sr,wl.mono (λl q1 J H1 g1 s1 jf D hD=>?_) q⟩;have hz:=jf.1;have inj:∀i i' j:Nat,ix[i]?=am (am j)->ix[i']?=am (am j)->i=i':=λi i' j h1 h2=>by
  have hi:i<N'.length:=by rw[<- S.len];exact(Aj.mp h1).1
  have Kt:i'<N'.length:=by rw[<- S.len];exact(Aj.mp h2).1
  have e2:=(S.at h2 (Ad Kt)).1;rw[((S.at h1 (Ad hi)).1)]at e2;exact(EY S.nd).mp (Option.some.inj e2)
 have g1:=g1.le h0;have s1:=s1.le h0.f;have nD:∀i,Ev (hd 0) (hd i)->¬cy σ (hd i) D:=λi e z=>s1.noOwn hD (e.fm z);refine⟨λi m σ' ys H'=>∃Z,Ev (hd 0) (hd i)/\aY K H' σ (hd i)/\cE σ fs H H' (hd i)/\aY K H' σ' (bh ix (hd i))/\Cap ix σ σ'/\JF K H' J l/\H' D=am (.lst ys)/\aF K [] H' ys Z/\Z.length<=i/\m=l.length-i/\i<=l.length/\
  (kz (l.drop i) f).run λr=>∀a vs H',cE σ fs H H' Pd->aY K H' σ Pd->H a=ce->H' a=am (.lst vs)->aF K [] H' vs (Z++r)->Q (.ref a) H',⟨l.length,[],?_⟩,?_⟩
 .have sm:=i8 hD (.lst []);exact⟨.refl _,s1.same sm,g1.trans (cE.same sm),(s1.same sm).fg inj,λi j u h1 h3=>ml h1 h3,jf.tk sm.eL,aH,.nil,A9 _,by simp,A9 _,by simpa using q1⟩
 rintro i m σ2 ys H2 ⟨Z,ev0,sO,gO,s2,cp,VJ,hy,vy,ţ,rfl,hi,q2⟩;refine⟨hy,?_⟩;obtain⟨j1,j2⟩:=VJ.2 H2 (bz.refl H2);have RN:=cp.RN sO;by_cases iY:i<l.length
 .have XZ:i<sizeLine:=by lia
  have ŝ:=ev0.trans (hv i XZ);obtain⟨go,yl⟩:=j1 i _ (Ad iY);rw[(B2 iY)]at q2;refine .inr ⟨go,λv H3 y=>?_⟩;obtain⟨sm,vx⟩:=yl v H3 y;have q2:(f l[i]).run λo=>(kz (l.drop (i+1)) f).run λr=>∀a vs H',cE σ fs H H' Pd->aY K H' σ Pd->H a=ce->H' a=am (.lst vs)->aF K [] H' vs (Z++(o.toList++r))->Q (.ref a) H':=q2;rw[hf]at q2;refine⟨_,_,(s2.same sm),vx,(wt l[i]).mono (λt q4 us g4 s4=>?_) q2⟩;have Ĕ:Cap ix σ (yj is us σ2):=λi' j u h1 h3=>by
   rw[m6 λz=>by have:=sP i' z;rw[h1]at this;cases this];exact cp i' j u h1 h3
  have Ţ:Ys ix σ (hd i) (yj is us σ2) (fs2 i t):=⟨λj u e o=>by
   rcases (hl i t).2 j u e with⟨_,z⟩|⟨n,z⟩
   .rw[z]at o;cases o
   .obtain⟨j',k1,k2,k3⟩:=RN.own j u z o;exact⟨j',k1,k2,by rw[m6 n];exact k3⟩⟩
  refine⟨i,t,s4,(tf t).mono (λkk q5 H5 g5 s5=>?_) q4⟩;have nD4:¬cy (yj is us σ2) (fs2 i t) D:=λz=>nD i ev0 (Ţ.fm z);have hy5:=g5.uw (sm _ _ hy) nD4;have vy5:=aF.tk (g5.di s4) (aF.tk sm.eL vy);have jf5:=(VJ.tk sm.eL).tk (g5.di s4);have x5:∀φ,H2 D≠am (.ext φ):=λφ=>by rw[hy];simp
  cases kk with
  |false=>
   have s5':=s5.le (ã i t XZ);obtain⟨sO5,gO5⟩:=Ţ.out Ĕ (sO.same sm) g5 s5' (hv i XZ) (X2 i);exact za ⟨l.length-(i+1),by lia,Z,ŝ,sO5,(gO.trans (cE.same sm)).trans gO5,s5',Ĕ,jf5,hy5,vy5,by lia,rfl,iY,q5⟩
  |true=>
   refine y9 ⟨i,t,XZ,s5,(te t).mono (λv6 q6 u6 H6 g6 s6 v6'=>?_) q5⟩;have s6':=s6.le (â i t XZ);obtain⟨sO6,aiU⟩:=Ţ.out Ĕ (sO.same sm) (g5.trans g6) s6' (hv i XZ) (X2 i);have gO6:=(gO.trans (cE.same sm)).trans aiU;have ó:=g6.uw hy5 nD4;have vy6:=aF.tk (g6.di s5) vy5;have x6:∀φ,H6 D≠am (.ext φ):=λφ=>by rw[ó];simp
   have nDi:=nD (i+1) ŝ;refine⟨ó,by rw[vy6.length];have:=VJ.1;lia,l.length-(i+1),by lia,Z++[v6],ŝ,sO6.side nDi ó _,gO6.side (g1.there D hD) x6 _,s6'.side (λz=>nDi ((Ĕ.RN sO6).fm z)) ó _,Ĕ,(jf5.tk (g6.di s5)).tk (se _ ó),aH,aF.tk (se (.lst (ys++[u6])) ó) (vy6.append (.cons v6' .nil)),by rw[Ak];simp;lia,rfl,iY,?_⟩;refine(kz (l.drop (i+1)) f).mono (λr q7 a vs H7 g7 s7 n e v7=>q7 a vs H7 g7 s7 n e ?_) q6;simpa using v7
 .have e:i=l.length:=by lia
  subst e;rw[EZ]at q2;have le:=hx l.length hz;exact .inl ⟨j2,q2 D ys H2 (gO.le le) (sO.le le.f) (g1.there D hD) hy (by simpa using vy)⟩
end
end
end FL
namespace L2
def rG(l:db)(items:Array ci)(n:Nat)(b:db)(cF:Array ci)(n2:Nat)(sl:Array (Option ci))(hc0:¬(!items.isEmpty&&Builtin.List.listTooLong (items.size+cF.size))=true)(hc1:items.size<=sizeLine)(vn:items.size+cF.size<=sizeLine+1):Meets (v4.«list.extend» ⟨[.ref l,.ref b],[]⟩) (λ_ R s=>s.heap.get? l=am {cls:=.type "list",dict:=ce,data:=.seq items n,slots:=#[]}/\s.heap.get? b=am {cls:=.type "list",dict:=ce,data:=.seq cF n2,slots:=sl}/\R (.ok (.ret A7)) {s with heap:=s.heap.update l (BH λx=>x++cF),toks:=s.toks}):=
 .of_wp λprog w A R s h=>by
  obtain⟨hp,g,d,tk,os⟩:=s;obtain⟨hl,hb,h⟩:=h;have f5:=DZ;
  wp_walk using (CY hl rfl),B8 hl,B8 hb;exact⟨_,rfl,h⟩
def adj(K:Ab):V->O V->Hp->VK->Prop:=λx vs H Q=>∃l b xs zs,x=.ref l/\vs=[.ref b]/\H l=am (.lst xs)/\(b9 K H b zs\/dU K H b zs)/\xs.length+zs.length<=sizeLine/\GO H l (.lst (xs++zs)) (Q .aO)
theorem Vn(K:Ab)(hK:X.K=K):M6 X "list.extend" (adj K):=by
 subst hK;intro U s σ H x vs v us Q I rx rv h;obtain⟨l,b,xs,zs,rfl,rfl,hH,hB|hB,hz,q⟩:=h
 .cases rx;obtain⟨u,rfl,ru⟩:=rv.one;cases ru;obtain⟨z,aq,n,r,hl,e⟩:=I.rD hH;obtain⟨du,r2,⟨⟨cls,dd,data,sl⟩,n2,e2,hc,hd,rL⟩,z2⟩:=I.list hB;subst hc hd rL;have XY:=r2.length;have uA:aq.toArray.size+du.toArray.size<=sizeLine:=by rw[Am,Am];lia
  have uB:¬(!aq.toArray.isEmpty&&Builtin.List.listTooLong (aq.toArray.size+du.toArray.size))=true:=by
   rw[oA uA,C7];exact AX
  refine ww Er ⟨_,e,rfl⟩ Eb (DY _ _)
   (rG l aq.toArray n b du.toArray n2 sl uB (by rw[Am];lia) ∅) ⟨e,e2,?_⟩
  refine⟨.aO,_,I.JY hH e (by simp) (r.append r2) ?_,rfl,q.at⟩;rw[Ak];lia
 .exact Ht U s σ H _ _ v us Q I rx rv ⟨l,b,xs,zs,rfl,rfl,hH,hB,hz,q⟩
end L2
variable{wi we:FL.W PL.PV}
namespace FL
section
variable[cx]
variable{K:Ab}
section
variable{sc:nw}{T2:Type}{wt:PV->W T2}{fs2:T2->aR}{tf:T2->W Bool}{te:T2->W PV}
def XH{fs2 fs3:Nat->T2->aR}(hc:X.calm=true)(S:a7 X.env.scope X.N sc N' ix)(hi:nW X K fs tg iter wl aA)(hg:∀cl C s2 H2 fp i,GF (fg X sc N' cl C s2 H2 fp) K (bh ix (hd i)) tg is wt (fs2 i))(Oe:∀cl C s2 H2 fp i t,FF (fg X sc N' cl C s2 H2 fp) K (fs2 i t) É (tf t))(he:∀cl C s2 H2 fp i t,i<sizeLine->EF (fg X sc N' cl C s2 H2 fp) K (fs2 i t) Ã (te t) (fs3 i t))(hf:∀p,f p=.bind (wt p) λt=>.bind (tf t) λk=>if k=true then .bind (te t) λv=>.ret (am v) else .ret ce)(hl:∀i,qE is (bh ix (hd i)) (fs2 i))(sP:∀j∈is,ix[j]?=am ce)(h0:pP aA (hd 0))(hx:∀i,i<=sizeLine->pP (hd i) Pd)(hv:∀i,i<sizeLine->Ev (hd i) (hd (i+1)))(X2:∀i j:Nat,(hd i)[j]?=(hd (i+1))[j]?\/∃i':Nat,ix[i']?=am (am j))(ã:∀i t,i<sizeLine->dH (fs2 i t) (bh ix (hd (i+1))))(â:∀i t,i<sizeLine->dH (fs3 i t) (bh ix (hd (i+1))))(hs:rj X iter:=by intro _;rfl):LF X K fs (.ListComp Ã [⟨tg,iter,É,0⟩] sc pos) (.bind wl λl=>kz l f) Pd:=
 ⟨PE.imp (adp hc S hi.p (λcl C s2 H2 fp U s σ H v u Q I r ⟨i,q⟩=>(hg cl C s2 H2 fp i).p U s σ H v u Q I r q) (λcl C s2 H2 fp U s σ H Q I ⟨i,t,q⟩=>(Oe cl C s2 H2 fp i t).p U s σ H Q I q) (λcl C s2 H2 fp U s σ H Q I ⟨i,t,h,q⟩=>(he cl C s2 H2 fp i t h).p U s σ H Q I q) hs) (Yc S h0 hx hv X2 hf hl ã â sP)⟩
def Z6(hc:X.calm=true)(S:a7 X.env.scope X.N sc N' ix)(hi:nW X K fs tg iter wl aA)(hg:∀cl C s2 H2 fp,GF (fg X sc N' cl C s2 H2 fp) K (bh ix aA) tg is wt fs2)(Oe:∀cl C s2 H2 fp t,FF (fg X sc N' cl C s2 H2 fp) K (fs2 t) É (tf t))(he:∀cl C s2 H2 fp t,EF (fg X sc N' cl C s2 H2 fp) K (fs2 t) Ã (te t))(hf:∀p,f p=.bind (wt p) λt=>.bind (tf t) λk=>if k=true then .bind (te t) λv=>.ret (am v) else .ret ce)(hl:qE is (bh ix aA) fs2/\∀t,dH (fs2 t) (bh ix aA))(sP:∀j∈is,ix[j]?=am ce)(hs:rj X iter:=by intro _;rfl):LF X K fs (.ListComp Ã [⟨tg,iter,É,0⟩] sc pos) (.bind wl λl=>kz l f) aA:=XH (hd:=λ_=>aA) (fs2:=λ_=>fs2) (fs3:=λ_=>fs2) hc S hi (λcl C s2 H2 fp _=>hg cl C s2 H2 fp) (λcl C s2 H2 fp _=>Oe cl C s2 H2 fp) (λcl C s2 H2 fp _ t _=>he cl C s2 H2 fp t) hf (λ_=>hl.1) sP (.refl _) (λ_ _=>.refl _) (λ_ _=>.refl _) (λ_ _=>.inl rfl) (λ_ t _=>hl.2 t) (λ_ t _=>hl.2 t) hs
def Mn{f:PV->W PV}(hf:∀p,f p=.bind (wt p) te):(λl=>bx l f)=λl=>kz l λp=>.bind (wt p) λt=>.bind (.ret true) λk=>if k=true then .bind (te t) λv=>.ret (am v) else .ret ce:=funext λl=>by
 rw[yK];congr 1;funext p;rw[hf];rfl
def Z5{fs2 fs3:Nat->T2->aR}{f:PV->W PV}(hc:X.calm=true)(S:a7 X.env.scope X.N sc N' ix)(hi:nW X K fs tg iter wl aA)(hg:∀cl C s2 H2 fp i,GF (fg X sc N' cl C s2 H2 fp) K (bh ix (hd i)) tg is wt (fs2 i))(he:∀cl C s2 H2 fp i t,i<sizeLine->EF (fg X sc N' cl C s2 H2 fp) K (fs2 i t) Ã (te t) (fs3 i t))(hf:∀p,f p=.bind (wt p) te)(hl:∀i,qE is (bh ix (hd i)) (fs2 i))(sP:∀j∈is,ix[j]?=am ce)(h0:pP aA (hd 0))(hx:∀i,i<=sizeLine->pP (hd i) Pd)(hv:∀i,i<sizeLine->Ev (hd i) (hd (i+1)))(X2:∀i j:Nat,(hd i)[j]?=(hd (i+1))[j]?\/∃i':Nat,ix[i']?=am (am j))(ã:∀i t,i<sizeLine->dH (fs2 i t) (bh ix (hd (i+1))))(â:∀i t,i<sizeLine->dH (fs3 i t) (bh ix (hd (i+1))))(hs:rj X iter:=by intro _;rfl):LF X K fs (.ListComp Ã [⟨tg,iter,[],0⟩] sc pos) (.bind wl λl=>bx l f) Pd:=by
 rw[Mn hf];exact XH hc S hi hg (λ_ _ _ _ _ _ _=>KJ) he (λp=>rfl) hl sP h0 hx hv X2 ã â hs
def XF{f:PV->W PV}(hc:X.calm=true)(S:a7 X.env.scope X.N sc N' ix)(hi:nW X K fs tg iter wl aA)(hg:∀cl C s2 H2 fp,GF (fg X sc N' cl C s2 H2 fp) K (bh ix aA) tg is wt fs2)(he:∀cl C s2 H2 fp t,EF (fg X sc N' cl C s2 H2 fp) K (fs2 t) Ã (te t))(hf:∀p,f p=.bind (wt p) te)(hl:qE is (bh ix aA) fs2/\∀t,dH (fs2 t) (bh ix aA))(sP:∀j∈is,ix[j]?=am ce)(hs:rj X iter:=by intro _;rfl):LF X K fs (.ListComp Ã [⟨tg,iter,[],0⟩] sc pos) (.bind wl λl=>bx l f) aA:=by
 rw[Mn hf];exact Z6 hc S hi hg (λ_ _ _ _ _ _=>KJ) he (λp=>rfl) hl sP hs
def fAs(K:Ab)(fs:aR)(i:Nat)(w:W (O PV))(aP:aR:=fs):TS:=λD σ H=>aY K H σ fs/\w.run λl=>∀a vs H',cE σ fs H H' aP->aY K H' σ aP->H a=ce->H' a=am (.lst vs)->aF K [] H' vs l->D.nx (σ.set i (am (.ref a))) H'
structure AS(X:Cx)(K:Ab)(fs:aR)(st:ut)(i:Nat)(w:W (List PV))(aP:aR:=fs):Prop where p:PS X st (fAs K fs i w aP)
variable{rest:O ut}{T:Type}{out:T->End}{x:Bool}{k:O PV->W T}
def SF.as{st:ut}(h:AS X K fs st i wl aA)(hr:∀l,SF X K x (aA.set i (am (.ol ce l))) rest (k l) out):SF X K x fs (st::rest) (.bind wl k) out:=SF.step h.p λD σ H ⟨sr,q⟩=>⟨sr,wl.mono (λl q1 a ws H1 g1 s1 n e v1=>by
 have no:¬cy σ aA a:=λz=>sr.noOwn n (g1.ev.fm z);have s2:=s1.yp (t:=.ol ce l) ⟨by simp,ws,e,v1⟩ no i;exact⟨_,k l,hr l,s2,(k l).mono (λt q2=>q2.go (cU.yp s1 g1 no n i) sr s2) q1⟩) q⟩
def abt{fs2 fs3:Nat->T2->aR}(hc:X.calm=true)(hN:X.N.Nodup)(Kt:X.N[i]?=am y)(xv:X.env.scope.names.lookup y=am .local)(S:a7 X.env.scope X.N sc N' ix)(hi:nW X K fs tg iter wl aA)(hg:∀cl C s2 H2 fp i,GF (fg X sc N' cl C s2 H2 fp) K (bh ix (hd i)) tg is wt (fs2 i))(Oe:∀cl C s2 H2 fp i t,FF (fg X sc N' cl C s2 H2 fp) K (fs2 i t) É (tf t))(he:∀cl C s2 H2 fp i t,i<sizeLine->EF (fg X sc N' cl C s2 H2 fp) K (fs2 i t) Ã (te t) (fs3 i t))(hf:∀p,f p=.bind (wt p) λt=>.bind (tf t) λk=>if k=true then .bind (te t) λv=>.ret (am v) else .ret ce)(hl:∀i,qE is (bh ix (hd i)) (fs2 i))(sP:∀j∈is,ix[j]?=am ce)(h0:pP aA (hd 0))(hx:∀i,i<=sizeLine->pP (hd i) Pd)(hv:∀i,i<sizeLine->Ev (hd i) (hd (i+1)))(X2:∀i j:Nat,(hd i)[j]?=(hd (i+1))[j]?\/∃i':Nat,ix[i']?=am (am j))(ã:∀i t,i<sizeLine->dH (fs2 i t) (bh ix (hd (i+1))))(â:∀i t,i<sizeLine->dH (fs3 i t) (bh ix (hd (i+1))))(sN:‹r9 (.ListComp Ã [⟨tg,iter,É,0⟩] sc pos) (am (.Name y px)) rz.line X.env=pure true›)(hs:rj X iter:=by intro _;rfl):AS X K fs (.Assign [.Name y px] (.ListComp Ã [⟨tg,iter,É,0⟩] sc pos) rz) i (.bind wl λl=>kz l f) Pd:=
 ⟨PS.imp (QC hc hN Kt xv S hi.p (λcl C s2 H2 fp U s σ H v u Q I r ⟨i,q⟩=>(hg cl C s2 H2 fp i).p U s σ H v u Q I r q) (λcl C s2 H2 fp U s σ H Q I ⟨i,t,q⟩=>(Oe cl C s2 H2 fp i t).p U s σ H Q I q) (λcl C s2 H2 fp U s σ H Q I ⟨i,t,h,q⟩=>(he cl C s2 H2 fp i t h).p U s σ H Q I q) sN hs) λD σ H ⟨sr,q⟩=>Yc (K:=K) S h0 hx hv X2 hf hl ã â sP σ H _ ⟨sr,q⟩⟩
def afe(hc:X.calm=true)(hN:X.N.Nodup)(Kt:X.N[i]?=am y)(hx:X.env.scope.names.lookup y=am .local)(S:a7 X.env.scope X.N sc N' ix)(hi:nW X K fs tg iter wl aA)(hg:∀cl C s2 H2 fp,GF (fg X sc N' cl C s2 H2 fp) K (bh ix aA) tg is wt fs2)(Oe:∀cl C s2 H2 fp t,FF (fg X sc N' cl C s2 H2 fp) K (fs2 t) É (tf t))(he:∀cl C s2 H2 fp t,EF (fg X sc N' cl C s2 H2 fp) K (fs2 t) Ã (te t))(hf:∀p,f p=.bind (wt p) λt=>.bind (tf t) λk=>if k=true then .bind (te t) λv=>.ret (am v) else .ret ce)(hl:qE is (bh ix aA) fs2/\∀t,dH (fs2 t) (bh ix aA))(sP:∀j∈is,ix[j]?=am ce)(sN:‹r9 (.ListComp Ã [⟨tg,iter,É,0⟩] sc pos) (am (.Name y px)) rz.line X.env=pure true›)(hs:rj X iter:=by intro _;rfl):AS X K fs (.Assign [.Name y px] (.ListComp Ã [⟨tg,iter,É,0⟩] sc pos) rz) i (.bind wl λl=>kz l f) aA:=
 abt (hd:=λ_=>aA) (fs2:=λ_=>fs2) (fs3:=λ_=>fs2) hc hN Kt hx S hi (λcl C s2 H2 fp _=>hg cl C s2 H2 fp) (λcl C s2 H2 fp _=>Oe cl C s2 H2 fp) (λcl C s2 H2 fp _ t _=>he cl C s2 H2 fp t) hf (λ_=>hl.1) sP (.refl _) (λ_ _=>.refl _) (λ_ _=>.refl _) (λ_ _=>.inl rfl) (λ_ t _=>hl.2 t) (λ_ t _=>hl.2 t) sN hs
def SF.acU(hc:X.calm=true)(hN:X.N.Nodup)(Kt:X.N[i]?=am y)(hx:X.env.scope.names.lookup y=am .local)(S:a7 X.env.scope X.N sc N' ix)(hi:nW X K fs tg iter wl aA)(hg:∀cl C s2 H2 fp,GF (fg X sc N' cl C s2 H2 fp) K (bh ix aA) tg is wt fs2)(Oe:∀cl C s2 H2 fp t,FF (fg X sc N' cl C s2 H2 fp) K (fs2 t) É (tf t))(he:∀cl C s2 H2 fp t,EF (fg X sc N' cl C s2 H2 fp) K (fs2 t) Ã (te t))(hf:∀p,f p=.bind (wt p) λt=>.bind (tf t) λk=>if k=true then .bind (te t) λv=>.ret (am v) else .ret ce)(hl:qE is (bh ix aA) fs2/\∀t,dH (fs2 t) (bh ix aA))(sP:∀j∈is,ix[j]?=am ce)(hr:∀l,SF X K x (aA.set i (am (.ol ce l))) rest (k l) out)(sN:‹r9 (.ListComp Ã [⟨tg,iter,É,0⟩] sc pos) (am (.Name y px)) rz.line X.env=pure true›)(hs:rj X iter:=by intro _;rfl):SF X K x fs (.Assign [.Name y px] (.ListComp Ã [⟨tg,iter,É,0⟩] sc pos) rz::rest) (.bind (.bind wl λl=>kz l f) k) out:=SF.as (afe hc hN Kt hx S hi hg Oe he hf hl sP sN hs) hr
end
section
theorem yT:∀{l:aR}{i:Nat} (s:Option SL),l[i]?=am ce->dH (l.set i s) l
 |[],_,_,h=>by simp at h
 |x::l,0,s,h=>by
  simp at h;subst h;exact .drop (dH.refl l)
 |x::l,i+1,s,h=>by
  exact .keep (yT s (by simpa using h))
def dH.trans{a b c:aR}(h1:dH a b)(h2:dH b c):dH a c:=by
 induction h1 generalizing c with
 |nil=>exact h2
 |drop h ih=>cases h2 with|drop h2=>exact .drop (ih h2)|keep h2=>exact .drop (ih h2)
 |keep h ih=>cases h2 with|drop h2=>exact .drop (ih h2)|keep h2=>exact .keep (ih h2)|bump h2 k=>exact .bump (ih h2) k
 |bump h k ih=>cases h2 with|drop h2=>exact .drop (ih h2)|keep h2=>exact .bump (ih h2) k|bump h2 k2=>exact .bump (ih h2) ⟨AD k.1 k2.1,k2.2⟩
def ur{l:aR}(hl:l.length=qS.length/\∀(j:Nat) (s:SL),l[j]?=am (am s)->(j∈is/\s.own=false)\/(j∉is/\qS[j]?=am (am s)))(hi:qS[i]?=am ce):(l.set i (am (.val v))).length=qS.length/\∀(j:Nat) (s:SL),(l.set i (am (.val v)))[j]?=am (am s)->(j∈is++[i]/\s.own=false)\/(j∉is++[i]/\qS[j]?=am (am s)):=by
 refine⟨by rw[BL];exact hl.1,λj s e=>?_⟩;rcases cH e with⟨rfl,rfl⟩|⟨n,e⟩
 .exact .inl ⟨by simp,rfl⟩
 .rcases hl.2 j s e with⟨h1,h2⟩|⟨h1,h2⟩
  .exact .inl ⟨by simp[h1],h2⟩
  .exact .inr ⟨by simp[h1,n],h2⟩
def XC(qS:aR):qS.length=qS.length/\∀(j:Nat) (s:SL),qS[j]?=am (am s)->(j∈([]:O Nat)/\s.own=false)\/(j∉([]:O Nat)/\qS[j]?=am (am s)):=⟨rfl,λj s e=>.inr ⟨by simp,e⟩⟩
def Rn(hi:qS[i]?=am ce):qE [i] qS (λp=>qS.set i (am (.val p)))/\∀t,dH (qS.set i (am (.val t))) qS:=⟨λt=>ur (XC qS) hi,λt=>yT _ hi⟩
def P9{l:aR}{s:Option SL}(h:l[j]?=am ce)(n:j≠i):(l.set i s)[j]?=am ce:=by rw[aD n];exact h
def Z3(hi:qS[i]?=am ce)(hj:qS[j]?=am ce)(n:j≠i):qE [i,j] qS (λt:PV×PV=>(qS.set i (am (.val t.1))).set j (am (.val t.2)))/\∀t:PV×PV,dH ((qS.set i (am (.val t.1))).set j (am (.val t.2))) qS:=
 ⟨λt=>ur (ur (XC qS) hi) hj,λt=>(yT _ (P9 hj n)).trans (yT _ hi)⟩
end
section
variable{rest:O ut}{T:Type}{out:T->End}{x:Bool}{l:O PV}
def d8(sr:aY K H σ fs)(hs:fs[i]?=am (am (.ol q0 l))):∃a ws,σ[i]?=am (am (.ref a))/\H a=am (.lst ws)/\aF K [] H ws l:=by
 obtain⟨u,e1,r⟩:=sr.at' i _ hs;rcases r with⟨v,e,_⟩|⟨a,e,z,ws,q1,q2⟩
 .cases e
 .subst e;exact⟨a,ws,e1,q1,q2⟩
def ox{Gu:O V}{l':O PV}(sr:aY K H σ fs)(hs:fs[i]?=am (am (.ol q0 l)))(e1:σ[i]?=am (am (.ref a)))(sx:lK a H H')(h':H' a=am (.lst Gu))(r:aF K [] H Gu l'):aY K H' σ (fs.set i (am (.ol q0 l')))/\cU σ fs H σ (fs.set i (am (.ol q0 l'))) H':=
 m9 sr hs rfl (by simp) e1 sx λtk=>⟨(sr.ownAt hs rfl e1).1,Gu,h',aF.tk tk r⟩
def gD(l:O PV)(v:PV):W (O PV):=.eK (l.length<sizeLine) (.ret (l++[v]))
theorem SF.append(i:Nat){k:O PV->W T}(hs:fs[i]?=am (am (.ol q0 l)))(hK:X.K=K)(hN:X.N[i]?=am y)(hv:Jh X.env.scope y)(he:EF X K fs e we aA)(hr:∀l',SF X K x (aA.set i (am (.ol q0 l'))) rest (k l') out)(hd: ~~~(jz y))(kD: ~~~(LC y))(eZ:‹ss (.Name y p) "append" X.env (o0 (.Name y p) X.env)=o0 (.Name y p) X.env›)(qt:‹HWa X bV [e]›)(eY:‹TL Â bV›)(xw:‹hV X e []›)(eA:‹mm X bV []›)(sN:‹r9 (.Call (.Attribute (.Name y p) "append" Â) [e] [] bV) ce pos.line X.env=pure false›):SF X K x fs (.Expr (.Call (.Attribute (.Name y p) "append" Â) [e] [] bV) pos::rest) (.bind we λv=>.bind (gD l v) k) out:=
 SF.step (ou (qc K hK BV PySem.F.slot_list_append PySem.F.type_list_append JT (fX hN hv hd kD) (a6 he.p bP xw) eZ qt eY xw eA) sN) λD σ H ⟨sr,q⟩=>by
  obtain⟨a,ws,e1,h1,r1⟩:=d8 sr hs;refine⟨_,e1,.inl ⟨rfl,_,b9.of h1⟩,sr,we.mono (λv q1 u H1 g1 s1 v1=>?_) q⟩;obtain⟨a',Gu,sR,gw,Gx⟩:=d8 s1 (g1.ev.same hs (by simp));rw[e1]at sR;cases sR;refine⟨a,Gu,u,rfl,rfl,gw,by rw[Gx.length];exact q1.1,λH2 sx h2=>?_⟩;obtain⟨s2,g2⟩:=ox s1 (g1.ev.same hs (by simp)) e1 sx h2 (Gx.append (.one v1));exact⟨_,k _,hr _,s2,(k _).mono (λt q2=>q2.go (g1.f.trans g2) sr s2) q1.2⟩
def Im(l m:O PV):W (O PV):=.eK (l.length+m.length<=sizeLine) (.ret (l++m))
theorem SF.extend(i:Nat){k:O PV->W T}(hs:fs[i]?=am (am (.ol q0 l)))(hK:X.K=K)(hN:X.N[i]?=am y)(hv:Jh X.env.scope y)(he:QF X K fs e wl aA)(hr:∀l',SF X K x (aA.set i (am (.ol q0 l'))) rest (k l') out)(hd: ~~~(jz y))(kD: ~~~(LC y))(eZ:‹ss (.Name y p) "extend" X.env (o0 (.Name y p) X.env)=o0 (.Name y p) X.env›)(qt:‹HWa X bV [e]›)(eY:‹TL Â bV›)(xw:‹hV X e []›)(eA:‹mm X bV []›)(sN:‹r9 (.Call (.Attribute (.Name y p) "extend" Â) [e] [] bV) ce pos.line X.env=pure false›):SF X K x fs (.Expr (.Call (.Attribute (.Name y p) "extend" Â) [e] [] bV) pos::rest) (.bind wl λm=>.bind (Im l m) k) out:=
 SF.step (ou (qc K hK BV PySem.F.slot_list_extend PySem.F.type_list_extend (Vn K hK) (fX hN hv hd kD) (a6 he.p bP xw) eZ qt eY xw eA) sN) λD σ H ⟨sr,q⟩=>by
  obtain⟨a,ws,e1,h1,r1⟩:=d8 sr hs;refine⟨_,e1,.inl ⟨rfl,_,b9.of h1⟩,sr,wl.mono (λm q1 u H1 g1 s1 v1=>?_) q⟩;obtain⟨a',Gu,sR,gw,Gx⟩:=d8 s1 (g1.ev.same hs (by simp));rw[e1]at sR;cases sR;obtain⟨b,zs,rfl,hb,rb⟩:=v1.sq s1;refine⟨a,b,Gu,zs,rfl,rfl,gw,hb,by rw[Gx.length,rb.length];exact q1.1,λH2 sx h2=>?_⟩;obtain⟨s2,g2⟩:=ox s1 (g1.ev.same hs (by simp)) e1 sx h2 (Gx.append rb);exact⟨_,k _,hr _,s2,(k _).mono (λt q2=>q2.go (g1.f.trans g2) sr s2) q1.2⟩
def tM(l:O PV):W (O PV×PV):=match l.getLast? with
 |some v=>.ret (l.dropLast,v)
 |none=>.fail
def P4{l:O PV}(h:l.getLast?=am v):l=l.dropLast++[v]:=by
 rw[List.getLast?_eq_some_iff]at h;obtain⟨ys,rfl⟩:=h;simp
theorem aF.snoc:∀{ws:O V}{l:O PV}{v:PV},aF K [] H ws (l++[v])->∃ì u,ws=ì++[u]/\aF K [] H ì l/\VR K [] H u v
 |_,[],_,.cons r .nil=>⟨[],_,rfl,.nil,r⟩
 |_,x::l,v,.cons r t=>by
  obtain⟨ì,u,rfl,h1,h2⟩:=aF.snoc t;exact⟨_::ì,u,rfl,.cons r h1,h2⟩
def SF.yu(i j:Nat){z:Str}{k:O PV×PV->W T}(hs:fs[i]?=am (am (.ol q0 l)))(Ď:j≠i)(hK:X.K=K)(hN:X.N[i]?=am y)(hv:Jh X.env.scope y)(Ř:X.N.Nodup)(hj:X.N[j]?=am z)(hx:Loc X.env.scope z)(hr:∀t:O PV×PV,SF X K x ((fs.set i (am (.ol q0 t.1))).set j (am (.val t.2))) rest (k t) out)(hd: ~~~(jz y))(kD: ~~~(LC y))(eZ:‹ss (.Name y p) "pop" X.env (o0 (.Name y p) X.env)=o0 (.Name y p) X.env›)(eY:‹TL Â bV›)(sN:‹r9 (.Call (.Attribute (.Name y p) "pop" Â) [] [] bV) (am (.Name z p')) pos.line X.env=pure false›)(hf:Tp X z:=by first | exact .inl rfl | exact .inr rfl | assumption):SF X K x fs (.Assign [.Name z p'] (.Call (.Attribute (.Name y p) "pop" Â) [] [] bV) pos::rest) (.bind (tM l) k) out:=
 SF.step (m7 Ř hj hx (U1 K hK BV DP DN Vl (fX hN hv hd kD) eZ eY) sN hf) λD σ H ⟨sr,q⟩=>by
  obtain⟨a,ws,e1,h1,r1⟩:=d8 sr hs;have q:(tM l).run λt=>(k t).run λt=>cz K x σ fs H D (out t):=q;unfold tM at q;cases hl:l.getLast? with
  |none=>rw[hl]at q;exact q.elim
  |some v=>
   rw[hl]at q;have el:=P4 hl;rw[el]at r1;obtain⟨ì,u,rfl,r0,ru⟩:=aF.snoc r1;refine⟨_,e1,.inl ⟨rfl,_,b9.of h1⟩,a,ì,u,rfl,rfl,h1,λH2 sx h2=>?_⟩;obtain⟨s2,g2⟩:=ox sr hs e1 sx h2 r0;have ru2:VR K [] H2 u v:=g2.vr sr ru;have s3:=s2.hJ ru2 j;exact⟨_,k _,hr (l.dropLast,v),s3,(k _).mono (λt q2=>q2.go (g2.trans (cU.hJ s2 _ _ j)) sr s3) q⟩
def oj(l:O PV)(i v:PV):W (O PV):=match i with
 |.int k=>match ux l.length k with
  |some j=>.ret (l.set j v)
  |none=>.fail
 |_=>.fail
def SF.Np(i:Nat){ei:mo}{k:O PV->W T}(hs:fs[i]?=am (am (.ol q0 l)))(hN:X.N[i]?=am y)(hv:Jh X.env.scope y)(he:EF X K fs e we aA)(hi:EF X K aA ei wi fs2)(hr:∀l',SF X K x (fs2.set i (am (.ol q0 l'))) rest (k l') out)(ha:∀v,Os (.Subscript (.Name y p) ei Js) X.env v=(do
   let ov <- KB [v] (o0 (.Name y p) X.env)
   let iv <- KB [v,ov] (o0 ei X.env)
   standAt Js
   KB [v,ov,iv] (setItem ov iv v)
   release [v,ov,iv] []):=by intro _;rfl)(hd: ~~~(jz y))(kD: ~~~(LC y))(hss:‹KM [.Subscript (.Name y p) ei Js] e pos.line X.env=pure false›)(hw:‹Op [.Subscript (.Name y p) ei Js] e X.env=pure ce›)(h1:‹(Fa [.Subscript (.Name y p) ei Js] X.env).map (·.2)=[Os (.Subscript (.Name y p) ei Js) X.env]›):SF X K x fs (.Assign [.Subscript (.Name y p) ei Js] e pos::rest) (.bind we λv=>.bind wi λn=>.bind (oj l n v) k) out:=
 SF.step (yq he.p (JG (fX hN hv hd kD) hi.p pX ha) hss hw h1) λD σ H ⟨sr,q⟩=>by
  refine⟨sr,we.mono (λv q1 u H1 g1 s1 v1=>?_) q⟩;obtain⟨a,ws,e1,h1,r1⟩:=d8 s1 (g1.ev.same hs (by simp));refine⟨_,e1,s1,wi.mono (λn q2 u2 H2 g2 s2 v2=>?_) q1⟩;obtain⟨a',Gu,sR,gw,Gx⟩:=d8 s2 ((g1.trans g2).ev.same hs (by simp));rw[e1]at sR;cases sR;cases v2 with
  |int kk=>
   have q2:(match ux l.length kk with|some j=>ca (l.set j v)|none=>W.fail).run _:=q2;cases hj:ux l.length kk with
   |none=>rw[hj]at q2;exact q2.elim
   |some j=>
    rw[hj]at q2;refine⟨a,Gu,kk,j,rfl,rfl,gw,by rw[Gx.length];exact hj,λH3 sx h3=>?_⟩;obtain⟨s3,g3⟩:=ox s2 ((g1.trans g2).ev.same hs (by simp)) e1 sx h3 (Gx.set (g2.vr s1 v1) j);exact⟨_,k _,hr _,s3,(k _).mono (λt q3=>q3.go ((g1.trans g2).f.trans g3) sr s3) q2⟩
  |_=>exact q2.elim
end
end
section
variable[cx]
variable{K:Ab}
def hU(n:Nat):O AK->O PV->aR
 |[],_=>[]
 |.v::ks,x::l=>am (.val x)::hU n ks l
 |.v::_,[]=>[]
 |.p ψ d::ks,l=>am (.dB ψ n (n+d))::hU n ks l
 |.f a us ps fz::ks,l=>am (.adr a us ps fz)::hU n ks l
def vf(n:Nat)(ks:O AK)(l:O PV)(N:Nat):aR:=hU n ks l++Ap (N-ks.length) ce
def vk(ks:O AK):Prop:=∀i j:Nat,(∃ψ d,ks[i]?=am (.p ψ d))->(∃ψ d,ks[j]?=am (.p ψ d))->i=j
theorem rX:∀{n:Nat}{m:Jk R n}{l:O PV}{Q:R->Prop},(wJ n m l).run Q->l.length=n
 |0,_,[],_,_=>rfl
 |0,_,_::_,_,h=>h.elim
 |n+1,_,[],_,h=>h.elim
 |n+1,m,x::l,Q,h=>by rw[Au,rX (n:=n) h]
section
variable{l:O PV}
theorem jA.len(h:jA K H n vs ks l):vs.length=ks.length:=by induction h<;>simp_all
def jA.slot(h:jA K H n vs ks l):(hU n ks l).length=vs.length/\∀(i:Nat) (s:SL),(hU n ks l)[i]?=am (am s)->∃u,vs[i]?=am u/\rh K H u s/\(s.own=true->∃ψ d,s=.dB ψ n (n+d)/\ks[i]?=am (.p ψ d)):=by
 induction h with
 |nil=>exact⟨rfl,λi s e=>by simp[hU]at e⟩
 | @v u x vs ks l r t ih=>
  refine⟨by simp[hU,ih.1],λi s e=>?_⟩;cases i with
  |zero=>simp[hU]at e;subst e;exact⟨u,rfl,.inl ⟨x,rfl,r⟩,λz=>by cases z⟩
  |succ i=>simp[hU]at e;obtain⟨w,h1,h2,h3⟩:=ih.2 i s e;exact⟨w,by simpa using h1,h2,by simpa using h3⟩
 | @p a ψ d vs ks l e0 r t ih=>
  refine⟨by simp[hU,ih.1],λi s e=>?_⟩;cases i with
  |zero=>simp[hU]at e;subst e;exact⟨_,rfl,.inr ⟨a,rfl,e0,Bk _ _,r⟩,λ_=>⟨ψ,d,rfl,rfl⟩⟩
  |succ i=>simp[hU]at e;obtain⟨w,h1,h2,h3⟩:=ih.2 i s e;exact⟨w,by simpa using h1,h2,by simpa using h3⟩
 | @f a us vs ps fz ks l r z t ih=>
  refine⟨by simp[hU,ih.1],λi s e=>?_⟩;cases i with
  |zero=>simp[hU]at e;subst e;exact⟨_,rfl,.inr ⟨a,rfl,rfl,r,z⟩,λz=>by cases z⟩
  |succ i=>simp[hU]at e;obtain⟨w,h1,h2,h3⟩:=ih.2 i s e;exact⟨w,by simpa using h1,h2,by simpa using h3⟩
def jA.Zw(h:jA K H n vs ks l)(e:ks[i]?=am (.p ψ d)):(hU n ks l)[i]?=am (am (.dB ψ n (n+d))):=by
 induction h generalizing i with
 |nil=>simp at e
 |v r t ih=>cases i with|zero=>simp at e|succ i=>simp[hU];exact ih (by simpa using e)
 |p e0 r t ih=>cases i with|zero=>simp at e;obtain⟨rfl,rfl⟩:=e;rfl|succ i=>simp[hU];exact ih (by simpa using e)
 |f r z t ih=>cases i with|zero=>simp at e|succ i=>simp[hU];exact ih (by simpa using e)
theorem pH{N:Nat}{s:SL}(h:(vf n ks l N)[i]?=am (am s)):(hU n ks l)[i]?=am (am s):=by
 unfold vf at h;by_cases c:i<(hU n ks l).length
 .rw[A6 c]at h;exact h
 .rw[Bg ∅,CS]at h
  split at h<;>cases h
def wQ{N:O Str}(h:vs[i]?=am u):(L2.start N vs)[i]?=am (am u):=by
 unfold L2.start;rw[A6 (by rw[Af];exact(Aj.mp h).1),Ah,h];rfl
def Ni{N:O Str}(h:(L2.start N vs)[i]?=am (am u)):vs[i]?=am u:=by
 unfold L2.start at h;by_cases c:i<vs.length
 .rw[A6 (by simpa using c),Ah]at h;cases z:vs[i]? with
  |none=>rw[z]at h;cases h
  |some q=>rw[z]at h;cases h;rfl
 .rw[Bg (by simpa using c),CS]at h
  split at h<;>cases h
def jA.beg(h:jA K H n vs ks l)(tb:TB H)(one:vk ks)(N:O Str):aY K H (L2.start N vs) (vf n ks l N.length):=by
 obtain⟨hl,hs⟩:=h.slot;refine⟨?_,λi s e=>?_,λi j s t x y a e1 e2 o1 o2 q1 q2 z1 z2=>?_,tb⟩
 .unfold L2.start vf;rw[Ak,Ak,Af,hl,B4,B4,h.len]
 .obtain⟨u,h1,h2,_⟩:=hs i s (pH e);exact⟨u,wQ h1,h2⟩
 .obtain⟨_,_,_,h3⟩:=hs i s (pH e1);obtain⟨_,_,_,h4⟩:=hs j t (pH e2);obtain⟨φ,d,_,k1⟩:=h3 o1;obtain⟨ψ,d',_,k2⟩:=h4 o2;exact one i j ⟨φ,d,k1⟩ ⟨ψ,d',k2⟩
def jA.go(h:jA K H n vs ks l){N:O Str}(g:cU (L2.start N vs) (vf n ks l N.length) H σ' aP H')(s':aY K H' σ' aP):Yt n vs ks H H':=by
 obtain⟨hl,hs⟩:=h.slot;refine⟨λa o e q=>(g.keep a o e λz=>?_).1,s'.tb,g.there,λa ψ d p=>?_,g.x⟩
 .obtain⟨i,s,x,e1,e2,e3,e4⟩:=z;obtain⟨u,h1,h2,h3⟩:=hs i s (pH e1);obtain⟨ψ,d,rfl,k⟩:=h3 e2;rcases e4 with rfl|e4
  .exact q ψ d ⟨i,k,Ni e3⟩
  .cases e4
 .obtain⟨i,e1,e2⟩:=p;have e3:=h.Zw e1;have e4:(vf n ks l N.length)[i]?=am (am (.dB ψ n (n+d))):=by unfold vf;rw[A6 ((Aj.mp e3).1)];exact e3
  rcases g.pk a ψ (n+d) ⟨i,n,e4,wQ e2⟩ with p|⟨_,k⟩
  .exact s'.free p
  .exact k
end
section
variable{st:ut}{f:db}{N:O Str}
def fnV{m:Jk PV n}(Fn:WZ K x qual st f fd)(S:fe N ps (aQ st))(VZ:ks.length=ps.length)(one:vk ks)(Ï:∀(j:Nat) (l:O PV),l.length=n->∀(fU:ci) (A:EQ) (outer:O Env) (s:cr) (H:Hp) (E:XK),eG k (A.deeper (Gc qual (aQ st) s.heap.objs.size f fU))->SF (wq GB P w K mg base N qual (aQ st) f fU A outer s H E).Xv K false (vf j ks l N.length) (cZ st) (wJ n m l) .rt):lL P w K mg base GB (k+1) f fd ps (PY K ks (wJ n m)):=by
 refine Fn.ok S (λvs H Q E h=>?_) (λfU A outer s H vs Q E hr h=>?_)
 .obtain⟨_,_,l,h,_⟩:=h;rw[h.len];exact VZ
 obtain⟨tb,j,l,h,q⟩:=h;refine⟨_,(Ï j l (rX q) fU A outer s H E hr).p,h.beg tb one N,(wJ n m l).mono (λv q1 u σ' aP H' g s' r=>q1 u H' (h.go g s') r) q⟩
def fnL{m:Jk (O PV) n}(Fn:WZ K x qual st f fd)(S:fe N ps (aQ st))(VZ:ks.length=ps.length)(one:vk ks)(Ï:∀(j:Nat) (l:O PV),l.length=n->∀(fU:ci) (A:EQ) (outer:O Env) (s:cr) (H:Hp) (E:XK),eG k (A.deeper (Gc qual (aQ st) s.heap.objs.size f fU))->SF (wq GB P w K mg base N qual (aQ st) f fU A outer s H E).Xv K false (vf j ks l N.length) (cZ st) (wJ n m l) .rl):lL P w K mg base GB (k+1) f fd ps (yf K ks (wJ n m)):=by
 refine Fn.ok S (λvs H Q E h=>?_) (λfU A outer s H vs Q E hr h=>?_)
 .obtain⟨_,_,l,h,_⟩:=h;rw[h.len];exact VZ
 obtain⟨tb,j,l,h,q⟩:=h;refine⟨_,(Ï j l (rX q) fU A outer s H E hr).p,(h.beg tb one N),(wJ n m l).mono (λz q1 a ws σ' aP H' g s' fr e r=>q1 a ws H' (h.go g s') ?_ e r) q⟩;rcases fr with fr|⟨i,t,x,e1,e2,np,e3,e4⟩
 .exact fr
 .obtain⟨_,_,_,h3⟩:=h.slot.2 i t (pH e1);obtain⟨ψ,d,e,_⟩:=h3 e2;exact absurd e (np _ _ _)
end
def yF:vk []:=λi j ⟨_,_,h⟩=>by simp at h
def Xt{k:AK}(h:vk ks)(hk:∀ψ d,k≠.p ψ d):vk (k::ks):=λi j ⟨φ,d,a⟩ ⟨ψ,d',b⟩=>by
 cases i with
 |zero=>simp at a;exact absurd a (hk _ _)
 |succ i=>
  cases j with
  |zero=>simp at b;exact absurd b (hk _ _)
  |succ j=>rw[h i j ⟨φ,d,by simpa using a⟩ ⟨ψ,d',by simpa using b⟩]
def tQ(h:vk ks):vk (.v::ks):=Xt h (by simp)
def adF{fa:db}{us:O V}{qs:O PV}(h:vk ks):vk (.f fa us qs fz::ks):=Xt h (by simp)
end
end FL
namespace L2
def adl(K:Ab):R2:=λx y H Q=>∃a b xs zs,x=.ref a/\y=.ref b/\b9 K H a xs/\b9 K H b zs/\xs.length+zs.length<=sizeLine/\jG H (.lst (xs++zs)) Q
theorem Va(K:Ab)(hK:X.K=K):iX X (t0 .Add) (adl K):=by
 subst hK;intro U s σ H x y v u Q I rx ry h;obtain⟨l,b,xs,zs,rfl,rfl,hH,hB,hz,q⟩:=h;cases rx;cases ry;obtain⟨aq,r,⟨⟨cls,dd,data,sl⟩,n,ho,hc,hd,rL⟩,_⟩:=I.list hH;obtain⟨du,r2,⟨⟨Š,Wx,data2,Tu⟩,n2,Oc,X4,Î,aes⟩,_⟩:=I.list hB;subst hc hd rL X4 Î aes;have e:aq.toArray++du.toArray=(aq++du).toArray:=by simp
 have hl:=r.length;have XY:=r2.length;refine concat_meets ⟨_,ho,rfl⟩ ⟨_,Oc,rfl⟩ noFill_list_add seq_list_add PySem.F.slot_list_add PySem.F.entry_list_add (PySem.F.args_list_add_2 _ _) (list_addW l b aq.toArray du.toArray n n2 ce ce sl Tu (by simp;lia)) ⟨ho,Oc,?_⟩;rw[e];exact⟨.ref _,_,I.ZZ (r.append r2) (by rw[Ak];lia),rfl,q.at _ I.fresh⟩
end L2
variable{o:BC}{hi:FL.W (Option Int)}{neg:Bool}
namespace FL
section
variable[cx]
variable{K:Ab}
section
variable{a c:mo}{p2:Pos}{w:W PV}{wm:W (O PV)}
def kE(l m:O PV):W (O PV):=.eK (l.length+m.length<=sizeLine) (.ret (l++m))
def fQL(K:Ab)(fs:aR)(w:W (O PV))(aP:aR:=fs):TE:=λσ H Q=>aY K H σ fs/\w.run λl=>∀u H',cE σ fs H H' aP->aY K H' σ aP->WU K σ aP H' u l->(∀f2 Ķ,cE σ aP H' Ķ f2->aY K Ķ σ f2->∃a vs,u=.ref a/\b9 K Ķ a vs/\aF K [] Ķ vs l)->Q u H'
structure Ji(X:Cx)(K:Ab)(fs:aR)(e:mo)(w:W (List PV))(aP:aR:=fs):Prop where p:PE X e (fQL K fs w aP)
def bN(h:LF X K fs e wl aA):Ji X K fs e wl aA:=⟨PE.imp h.p λσ H Q ⟨sr,q⟩=>⟨sr,wl.mono (λl q1 a vs H1 g1 s1 n e v=>q1 _ H1 g1 s1 (.inr ⟨a,rfl,.inl ⟨λz=>sr.noOwn n (g1.ev.fm z),vs,e,v⟩⟩) λ_ H2 g2 s2=>⟨a,vs,rfl,b9.of (g2.uw e λz=>sr.noOwn n (g1.ev.fm z)),g2.Na s1 v⟩) q⟩⟩
def tG(i:Nat){l:O PV}(hs:‹fs[i]?=am (am (.ol q0 l))›)(hN:‹X.N[i]?=am x›)(hv:Jh X.env.scope x:=by first|exact Cg rfl|exact Cr (Cg rfl)|exact Cr (Cr rfl))(hd: ~~~(jz x))(kD: ~~~(LC x)):Ji X K fs (.Name x pos) (.ret l):=
 ⟨PE.imp (fX hN hv hd kD) λσ H Q ⟨sr,q⟩=>by
  obtain⟨a,ws,e1,h1,r1⟩:=d8 sr hs;refine⟨_,e1,q _ H .refl sr (.inr ⟨a,rfl,.inr ⟨i,q0,hs,e1⟩⟩) λ_ H2 g2 s2=>?_⟩;obtain⟨a',Gu,sR,gw,Gx⟩:=d8 s2 (g2.ev.same hs (by simp));rw[e1]at sR;cases sR;exact⟨a,Gu,rfl,b9.of gw,Gx⟩⟩
def nr:PV->W (O PV)
 |.cl l=>.ret l
 |_=>.fail
def fW(h:EF X K fs e w aA):Ji X K fs e (.bind w nr) aA:=⟨PE.imp h.p λσ H Q ⟨sr,q⟩=>⟨sr,w.mono (λx q1 u1 H1 g1 s1 v1=>by
 cases v1 with
 |cl e r=>exact q1 _ H1 g1 s1 (.inl ⟨_,_,rfl,.inl e,r⟩) λ_ H2 g2 s2=>⟨_,_,rfl,((g2.di s1).f _ _ e).sq,g2.Na s1 r⟩
 |_=>exact q1.elim) q⟩⟩
def kl(hK:X.K=K)(ha:Ji X K fs a wl aA)(hb:Ji X K aA b wm fs2):LF X K fs (.BinOp a .Add b pos) (.bind wl λl=>.bind wm λm=>kE l m) fs2:=⟨PE.imp (dC (Va K hK) ha.p hb.p) λσ H Q ⟨sr,q⟩=>⟨sr,wl.mono (λl q1 u1 H1 g1 s1 _ v1=>⟨s1,wm.mono (λm q2 u2 H2 g2 s2 _ v2=>by
 obtain⟨a,vs,rfl,h1,r1⟩:=v1 _ H2 g2 s2;obtain⟨b,ws,rfl,h2,r2⟩:=v2 _ H2 .refl s2;refine⟨a,b,vs,ws,rfl,rfl,h1,h2,by rw[r1.length,r2.length];exact q2.1,λp H3 s3 h3 n3=>?_⟩;have gg:=g1.trans g2;exact q2.2 p _ H3 (gg.trans (cE.same s3)) (s2.same s3) (gg.there p n3) h3 (aF.tk s3.eL (r1.append r2))) q1⟩) q⟩⟩
def w4{Q:VK}{l:O PV}(g1:cE σ fs H H1 aA)(s1:aY K H1 σ aA)(r:aF K [] H1 vs l)(q:∀a vs H',cE σ fs H H' aA->aY K H' σ aA->H a=ce->H' a=am (.lst vs)->aF K [] H' vs l->Q (.ref a) H'):jG H1 (.lst vs) Q:=λp H2 s2 h2 n2=>q p vs H2 (g1.trans (cE.same s2)) (s1.same s2) (g1.there p n2) h2 (aF.tk s2.eL r)
def Rk(K:Ab):CL K (Qt K) .ret:=λ{fs σ H Q u l} s v q=>by
 obtain⟨a,vs,rfl,h,rs⟩:=v.sq s;exact⟨a,vs,rfl,h,w4 .refl s rs q⟩
def J5(hK:X.K=K)(hg:Gl X "list")(hm:X.mg "list"=ce)(ha:QF X K fs e wl aA)(he:‹hV X e []›)(eB:‹mm X pos []›):LF X K fs (.Call (.Name "list" p) [e] [] pos) wl aA:=Rp (Li K hK) (Rk K) hg hm boot_list ha ⋯ ⋯ he eB
def d6(hK:X.K=K)(hg:Gl X "tuple")(hm:X.mg "tuple"=ce)(ha:QF X K fs e wl aA)(he:‹hV X e []›)(eB:‹mm X pos []›):EF X K fs (.Call (.Name "tuple" p) [e] [] pos) (.bind wl ku) aA:=Ow (OM K hK) (T6 K) hg hm boot_tuple ha ⋯ ⋯ he eB
def nF(hK:X.K=K)(hg:Gl X "len")(hm:X.mg "len"=ce)(ha:QF X K fs e wl aA)(he:‹hV X e []›)(eB:‹mm X pos []›):EF X K fs (.Call (.Name "len" p) [e] [] pos) (.bind wl uo) aA:=SM (xJ K hK) (Vt K) hg hm boot_len ha ⋯ ⋯ he eB
def Yq(ha:EF X K fs e w aA)(he:gt [e] X.env=(false,o0 e X.env)::gt [] X.env):AF X K fs [e] (Ap 1 .v) (R:=R) (λk=>.bind w λx=>k [x]) aA:=ai ha af he
def cS(hK:X.K=K)(hg:Gl X "len")(hm:X.mg "len"=ce)(ha:EF X K fs e w aA)(he:‹hV X e []›)(eB:‹mm X pos []›):EF X K fs (.Call (.Name "len" p) [e] [] pos) (.bind w λx=>yG cO [x]) aA:=Wo (xJ K hK) (WK K) hg hm boot_len (Yq ha he) ⋯ ⋯ he eB
def Wh(hg:Gl X "int")(hm:X.mg "int"=ce)(ha:EF X K fs e w aA)(he:‹hV X e []›)(eB:‹mm X pos []›):EF X K fs (.Call (.Name "int" p) [e] [] pos) (.bind w λx=>yG OW [x]) aA:=SK OT WM hg hm boot_int (Yq ha he) ⋯ ⋯ he eB
def adR(hK:X.K=K)(hc:X.calm=true)(ő:Gl X "list")(Ō:X.mg "list"=ce)(Ő:Gl X "reversed")(XX:X.mg "reversed"=ce)(he:Ji X K fs e wl aA)(pN:‹gt [.Call (.Name "reversed" p3) [e] [] p4] X.env=(false,o0 (.Call (.Name "reversed" p3) [e] [] p4) X.env)::gt [] X.env›)(vn:‹hV X e []›):LF X K fs (.Call (.Name "list" p1) [.Call (.Name "reversed" p3) [e] [] p4] [] p2) (.bind wl λl=>.ret l.reverse) aA:=⟨PE.imp (JH K hK hc ő Ō Ő XX he.p pN vn) λσ H Q ⟨sr,q⟩=>⟨sr,wl.mono (λl q1 u1 H1 g1 s1 _ v1=>by
 obtain⟨a,vs,rfl,h1,r1⟩:=v1 _ H1 .refl s1;exact⟨a,vs,rfl,h1,w4 g1 s1 r1.reverse q1⟩) q⟩⟩
def jl(k:Kd)(x:PV):W PV:=match x with
 |.ref _=>.fail
 |.ty _=>.fail
 |.ob _ _=>.fail
 |.hand=>.fail
 |x=>.ret (.bl (k.is x))
def Xp(K:Ab):O V->Hp->VK->Prop:=λxs H Q=>∃x c t b,xs=[x,.ty c]/\(mG K H x t\/(t=.type "tuple"/\∃a vs,x=.ref a/\dU K H a vs)\/(t=.type "list"/\∃a vs,x=.ref a/\b9 K H a vs)\/(t=.type "dict"/\∃a,x=.ref a/\IsD H a))/\BG K t (.type c)=am b/\Q (.bl b) H
def OQ(hK:X.K=K):cB X (.builtin "isinstance") (Xp K):=by
 subst hK;intro U s σ H xs us Q I r h;obtain⟨x,c,t,b,rfl,ty|ty|⟨rfl,a,vs,rfl,hL⟩|⟨rfl,a,rfl,hD⟩,e,q⟩:=h
 .exact q9 U s σ H _ us Q I r ⟨x,c,t,b,rfl,ty,e,q⟩
 .exact OP X.K rfl U s σ H _ us Q I r ⟨x,c,t,b,rfl,.inr ty,e,q⟩
 .obtain⟨u,w,rfl,r1,r2⟩:=vals2 r;cases r1;cases r2;obtain⟨aq,_,⟨o,n,h1,h2,_⟩,_⟩:=I.list hL;exact Bj EC I.xo ⟨o,h1,h2⟩ e (λz=>nomatch z) λtk=>⟨.bl b,H,I.tok _,rfl,q⟩
 .obtain⟨u,w,rfl,r1,r2⟩:=vals2 r;cases r1;cases r2;have:∃o,s.heap.get? a=am o/\o.cls=.type "dict":=by
   rcases hD with⟨au,e⟩|⟨au,e⟩
   .obtain⟨_,_,vs,_,o,_,_,h1,h2,_⟩:=xI I.bG e;exact⟨o,h1,h2.1⟩
   .obtain⟨_,_,xs,_,o,_,_,h1,h2,_⟩:=IA I.bG e;exact⟨o,h1,h2.1⟩
  obtain⟨o,h1,h2⟩:=this;exact Bj ED I.xo ⟨o,h1,h2⟩ e (λz=>nomatch z) λtk=>⟨.bl b,H,I.tok _,rfl,q⟩
def kr(hK:X.K=K)(k:Kd)(hg:Gl X "isinstance")(hm:X.mg "isinstance"=ce)(ha:EF X K fs a wa aA)(hgx:Gl X x)(hmx:X.mg x=ce)(hv:pr x=am (.type k.name))(hn: ~~~(x≠"__name__"))(hd: ~~~(jz x))(he:‹gt [a,.Name x p2] X.env=(false,o0 a X.env)::gt [.Name x p2] X.env›)(Œ:‹gt [Expr.Name x p2] X.env=(false,o0 (.Name x p2) X.env)::gt [] X.env›)(eB:‹(ul pos (gt [Expr.Name x p2] X.env)).any (·.1)=false›):EF X K fs (.Call (.Name "isinstance" p) [a,.Name x p2] [] pos) (.bind wa (jl k)) aA:=
 ⟨PE.imp (eQ (OQ hK) hg hm boot_isinstance (a6 ha.p (a6 (U2 (v:=.ty k.name) hgx hmx hv rfl hn hd) bP Œ) he) ⋯ ⋯ he eB) λσ H Q ⟨sr,q⟩=>⟨sr,wa.mono (λx q1 u1 H1 g1 s1 v1=>by
  have fin:∀{t:ci}{y:PV},mG K H1 u1 t->BG K t (.type k.name)=am (k.is y)->Q (.bl (k.is y)) H1->Xp K [u1,.ty k.name] H1 Q:=λty e q=>⟨_,_,_,_,rfl,.inl ty,e,q⟩;cases v1 with
  |aO=>exact fin .aO (by rw[(sJ K).1 k];cases k<;>rfl) (q1 _ H1 g1 s1 (.bl _))
  |bl b=>exact fin (.bl b) (aae K b k) (q1 _ H1 g1 s1 (.bl _))
  |int b=>exact fin (.int b) (VE K b k) (q1 _ H1 g1 s1 (.bl _))
  |str b=>exact fin (.str b) (VD K b k) (q1 _ H1 g1 s1 (.bl _))
  |ty n=>exact q1.elim
  |ref n=>exact q1.elim
  |ob _ _ _ _ _=>exact q1.elim
  |hand _=>exact q1.elim
  | @dk a o au ks l e k1 r=>exact⟨_,_,_,_,rfl,.inr (.inr (.inr ⟨rfl,_,rfl,.inl ⟨_,.inr ⟨_,e⟩⟩⟩)),(show _=am (k.is (.dv ks l)) by rw[(sJ K).2.2 k];cases k<;>rfl),q1 _ H1 g1 s1 (.bl _)⟩
  | @dt a o au ks l e k1 r=>exact⟨_,_,_,_,rfl,.inr (.inr (.inr ⟨rfl,_,rfl,.inr ⟨_,.inr ⟨_,e⟩⟩⟩)),(show _=am (k.is (.dv ks l)) by rw[(sJ K).2.2 k];cases k<;>rfl),q1 _ H1 g1 s1 (.bl _)⟩
  | @cl p vs l e r=>exact⟨_,_,_,_,rfl,.inr (.inr (.inl ⟨rfl,_,_,rfl,e.sq⟩)),(show _=am (k.is (.cl l)) by rw[(sJ K).2.1 k];cases k<;>rfl),q1 _ H1 g1 s1 (.bl _)⟩
  | @tup p vs l e r=>exact⟨_,_,_,_,rfl,.inr (.inl ⟨rfl,_,_,rfl,dU.of e⟩),VC K _ k,q1 _ H1 g1 s1 (.bl _)⟩) q⟩⟩
def Nv(l:O PV):PV->W (O PV)
 |.int k=>.eK (-(2 ^ 63)<=k/\k<2 ^ 63/\l.length*k.toNat<=sizeLine) (.ret (Ap k.toNat l).flatten)
 |_=>.fail
def XD(ha:LF X K fs a wl aA)(hb:EF X K aA b wb fs2):LF X K fs (.BinOp a .Mult b pos) (.bind wl λl=>.bind wb λy=>Nv l y) fs2:=⟨PE.imp (dC ZF ha.p hb.p) λσ H Q ⟨sr,q⟩=>⟨sr,wl.mono (λl q1 a vs H1 g1 s1 n e v=>⟨s1,wb.mono (λy q2 u2 H2 g2 s2 v2=>by
 cases v2 with
 |int k=>
  have r2:=g2.Na s1 v;refine⟨a,k,vs,rfl,rfl,((g2.uw e (λz=>sr.noOwn n (g1.ev.fm z)))),q2.1.1,q2.1.2.1,by rw[r2.length];exact q2.1.2.2,λp hp=>?_⟩;have sm:=i8 hp (.lst (Ap k.toNat vs).flatten);have gg:=g1.trans g2;exact q2.2 p _ _ (gg.trans (cE.same sm)) (s2.same sm) (gg.there p hp) aH (aF.tk sm.eL (r2.rep k.toNat))
 |_=>exact q2.elim) q1⟩) q⟩⟩
def part:PV->W (Option Int)
 |.int i=>.ret (am i)
 |_=>.fail
def iD:OF X K fs ce (.ret ce):=⟨PO.imp UR λσ H Q ⟨sr,q⟩=>q H .refl sr⟩
def jE(h:EF X K fs e w aA):OF X K fs (am e) (.bind w part) aA:=⟨PO.imp (UQ h.p) λσ H Q ⟨sr,q⟩=>⟨sr,w.mono (λx q1 u1 H1 g1 s1 v1=>by
 cases v1 with
 |int i=>exact⟨_,rfl,q1 H1 g1 s1⟩
 |_=>exact q1.elim) q⟩⟩
variable{el eh:Option mo}{lo:W (Option Int)}
def Z4(hK:X.K=K)(he:Ji X K fs e wl aA)(hl:OF X K aA el lo fs2)(hh:OF X K fs2 eh hi fs3):LF X K fs (.Subscript e (.Slice el eh ce p2) pos) (.bind wl λl=>.bind lo λi=>.bind hi λj=>.ret (eJ l i j)) fs3:=⟨PE.imp (He (P5 K hK) he.p hl.p hh.p) λσ H Q ⟨sr,q⟩=>⟨sr,wl.mono (λl q1 u1 H1 g1 s1 _ v1=>⟨s1,lo.mono (λi q2 H2 g2 s2=>⟨s2,hi.mono (λj q3 H3 g3 s3=>by
 obtain⟨a,vs,rfl,h1,r1⟩:=v1 _ H3 (g2.trans g3) s3;exact⟨a,vs,rfl,h1,w4 ((g1.trans g2).trans g3) s3 (r1.cut i j) q3⟩) q2⟩) q1⟩) q⟩⟩
def qV(h:Ji X K fs e wl aA):∀σ H Q,fE K fs (.bind wl λl=>.ret (.bl (if neg then !l.isEmpty else l.isEmpty))) aA σ H Q->Xd (λx y H Q=>∃p q xs,x=.ref p/\y=.ref q/\b9 K H p xs/\b9 K H q []/\Q (.bl (if neg then !xs.isEmpty else xs.isEmpty)) H) (fQL K fs wl aA) (fL K aA (.ret [])) σ H Q:=λσ H Q ⟨sr,q⟩=>
 ⟨sr,wl.mono (λl q1 u1 H1 g1 s1 _ v1=>⟨s1,λa2 vs2 H2 g2 s2 n2 e2 r2=>by
  cases r2;obtain⟨a,vs,rfl,h1,r1⟩:=v1 _ H2 g2 s2;refine⟨a,a2,vs,rfl,rfl,h1,b9.of e2,?_⟩;rw[Su r1];exact q1 _ H2 (g1.trans g2) s2 (.bl _)⟩) q⟩
def XE:LF X K fs (.List [] pos) (.ret []):=XG (n:=0) af
theorem akt(hK:X.K=K)(hu:X.A.units+200<tz)(h:Ji X K fs e wl aA)(hk:‹sB .Eq (.List [] p2)=false›):EF X K fs (.Compare e [.Eq] [.List [] p2] pos) (.bind wl λl=>.ret (.bl l.isEmpty)) aA:=⟨PE.imp (Md (JJ K hK ∅) h.p XE.p hk) (qV (neg:=false) h)⟩
theorem Xb(hK:X.K=K)(hu:X.A.units+200<tz)(h:Ji X K fs e wl aA)(hk:‹sB .NotEq (.List [] p2)=false›):TF X K fs (.Compare e [.NotEq] [.List [] p2] pos) (.bind wl λl=>.ret (!l.isEmpty)) aA:=⟨PT.imp (ib (ng K hK ∅) h.p XE.p hk) λσ H Q q=>qV (neg:=true) h σ H _ (aeO σ H Q q)⟩
def qQ:O PV->W (O Int)
 |[]=>.ret []
 |.int i::r=>.bind (qQ r) λl=>.ret (i::l)
 |_=>.fail
theorem lY:∀{l:O PV}{Q:O Int->Prop},(qQ l).run Q->∃ns:O Int,l=ns.map PV.int/\Q ns
 |[],Q,h=>⟨[],rfl,h⟩
 |.int b::r,Q,h=>by
  obtain⟨bs,e,q⟩:=lY (l:=r) h;exact⟨b::bs,by rw[e];rfl,q⟩
 |.aO::r,Q,h=>h.elim
 |.bl _::r,Q,h=>h.elim
 |.str _::r,Q,h=>h.elim
 |.tup _::r,Q,h=>h.elim
 |.ref _::r,Q,h=>h.elim
 |.ty _::r,Q,h=>h.elim
 |.cl _::r,Q,h=>h.elim
@[simp] theorem fv:∀bs:O Int,qQ (bs.map PV.int)=.ret bs
 |[]=>rfl
 |b::bs=>by
  show bn (qQ (bs.map PV.int)) _=_;rw[fv bs];rfl
end
end
end FL
variable{f1 f2:FL.aR}
namespace FL
section
variable[cx]
variable{K:Ab}
abbrev b2(m:M2)(wa wb:W PV):W PV:=.bind wa λx=>.bind wb λy=>of2 m x y
abbrev t2(m:M2)(wa wb:W PV):W Bool:=.bind wa λx=>.bind wb λy=>.bind (of2 m x y) asB
abbrev c1(m:M7)(w:W PV):W PV:=.bind w λx=>yG m [x]
abbrev bJ(wl:W (O PV))(wb:W PV):W PV:=.bind wl λl=>.bind wb λy=>Tz l y
abbrev T8(a b:W Bool):W Bool:=.bind a λk=>if k=true then b else .ret false
abbrev tor(a b:W Bool):W Bool:=.bind a λk=>if k=true then .ret true else b
abbrev T7(a:W Bool):W Bool:=.bind a λk=>.ret (!k)
abbrev ff{α:Type}(t:W Bool)(a b:W α):W α:=.bind t λk=>if k=true then a else b
section
variable{a c:mo}{rest:O ut}{S T T2:Type}{hd:S->aR}{s0:S}{w:W PV}{wt:PV->W T2}{fs2:S->T2->aR}{k:S->W T}{out:T->End}{x:Bool}
def SF.mE{f:PV->S->W S}(hp:wn (gl X.prog X.w) X.A X.env X.xe)(hc:X.calm=true)(hi:nW X K fs tg iter wl f1)(hl:dH f1 (hd s0))(hg:PG X tg (eI i))(hb:∀s p,SF X K false ((hd s).set i (am (.val p))) body (f p s) λs'=>.nc (hd s'))(hr:∀s,SF X K x (hd s) rest (k s) out)(hs:rj X iter:=by intro _;rfl):SF X K x fs (.For tg iter body [] pos::rest) (.bind wl λl=>.bind (bU l s0 f) k) out:=SF.for hp hc hi hl (λs=>g_1 hg) (λ_ _=>rfl) hb hr hs
def SF.KI{wb:T2->S->W S}(hp:wn (gl X.prog X.w) X.A X.env X.xe)(hc:X.calm=true)(hi:nW X K fs tg iter wl f1)(hl:dH f1 (hd s0))(hg:∀s,GF X K (hd s) tg is wt (fs2 s))(hb:∀s t,SF X K false (fs2 s t) body (wb t s) λs'=>.nc (hd s'))(hr:∀s,SF X K x (hd s) rest (k s) out)(hs:rj X iter:=by intro _;rfl):SF X K x fs (.For tg iter body [] pos::rest) (.bind wl λl=>.bind (bU l s0 λp s=>.bind (wt p) λt=>wb t s) k) out:=SF.for hp hc hi hl hg (λ_ _=>rfl) hb hr hs
def SF.aeE{inj:R->T}{wb:T2->S->W (Lp S R)}(hp:wn (gl X.prog X.w) X.A X.env X.xe)(hc:X.calm=true)(hi:nW X K fs tg iter wl f1)(hl:dH f1 (hd s0))(hg:∀s,GF X K (hd s) tg is wt (fs2 s))(ho:∀t,(out (inj t)).HM)(hb:∀s t,SF X K false (fs2 s t) body (wb t s) (lpE hd λr=>out (inj r)))(hr:∀s,SF X K x (hd s) rest (k s) out)(hs:rj X iter:=by intro _;rfl):SF X K x fs (.For tg iter body [] pos::rest) (.bind wl λl=>.bind (FL.mD l s0 λp s=>.bind (wt p) λt=>wb t s) (Pb k inj)) out:=SF.mD hp hc hi hl hg (λ_ _=>rfl) ho hb hr hs
def SF.acV{fs3:T2->aR}{k:T2->W T}(he:EF X K fs e we f1)(hg:GF X K f1 tg is wt fs3)(hr:∀t,SF X K x (fs3 t) rest (k t) out)(hs:‹KM [tg] e pos.line X.env=pure false›)(hw:‹Op [tg] e X.env=pure ce›)(h1:‹(Fa [tg] X.env).map (·.2)=[Os tg X.env]›):SF X K x fs (.Assign [tg] e pos::rest) (.bind we λv=>.bind (wt v) k) out:=SF.step (yq he.p hg.p hs hw h1) λD σ H ⟨sr,q⟩=>
 ⟨sr,we.mono (λv q1 u H1 g1 s1 v1=>⟨v,s1,v1,(wt v).mono (λt q2 us g2 s2=>⟨_,k t,hr t,s2,(k t).mono (λt' q3=>q3.go (g1.f.trans g2) sr s2) q2⟩) q1⟩) q⟩
def Pu(v:PV):W PV:=.eK (v.dat=true) (.ret v)
mutual
theorem VR.pj{ι:O db}{H H':Hp}(t:∀p vs,H p=am (.tup vs)->H' p=am (.tup vs)):∀{v:V}{q:PV},VR K ι H v q->q.dat=true->VR K [] H' v q
 |_,_,.aO,_=>.aO
 |_,_,.bl b,_=>.bl b
 |_,_,.int i,_=>.int i
 |_,_,.str x,_=>.str x
 |_,_,.ty n,h=>by rw[PV.dat]at h;cases h
 |_,_,.tup e r,h=>.tup (t _ _ e) (aF.pj t r (by rw[PV.dat]at h;exact h))
 |_,_,.cl e r,h=>by rw[PV.dat]at h;cases h
 |_,_,.dk _ _ _,h=>by rw[PV.dat]at h;cases h
 |_,_,.dt _ _ _,h=>by rw[PV.dat]at h;cases h
 |_,_,.ob _ _ _ _ _,h=>by rw[PV.dat]at h;cases h
 |_,_,.hand _,h=>by rw[PV.dat]at h;cases h
 |_,_,.ref e,h=>by rw[PV.dat]at h;cases h
theorem aF.pj{ι:O db}{H H':Hp}(t:∀p vs,H p=am (.tup vs)->H' p=am (.tup vs)):∀{v:O V}{q:O PV},aF K ι H v q->Wy q=true->aF K [] H' v q
 |_,_,.nil,_=>.nil
 |_,_,.cons r s,h=>by
  rw[Wy,AR]at h;exact .cons (VR.pj t r h.1) (aF.pj t s h.2)
end
def bor{s:cr}(I:Inv X U σ H s)(sr:aY K H σ fs)(hs:fs[i]?=am (am t))(hb:t.bw=true):∃a o ob,Inv X U σ (upd H a (.cn ob o)) s/\aY K (upd H a (.cn ob o)) σ (fs.set i (am (.val t.bv)))/\ ∀σ' s' H1 f1,Inv X U σ' H1 s'->cE σ (fs.set i (am (.val t.bv))) (upd H a (.cn ob o)) H1 f1->aY K H1 σ f1->Inv X U σ' (upd H1 a o) s'/\cE σ fs H (upd H1 a o) (f1.set i (am t))/\aY K (upd H1 a o) σ (f1.set i (am t))/\(∀p vs,H1 p=am (.tup vs)->upd H1 a o p=am (.tup vs))/\∀p vs,p≠a->H1 p=am (.lst vs)->upd H1 a o p=am (.lst vs):=by
 have ho:=SL.Ta hb;obtain⟨u,e1,⟨v,e,_⟩|⟨a,e,oa⟩⟩:=sr.at' i _ hs
 .subst e;cases hb
 subst e;obtain⟨ob,o,h1,n1,n2,I2,vr⟩:=aeC I oa hb;have h0:∀o u,X.H₀ a≠am (.cn o u):=λo u z=>by
  have:=I.base.uI a o u z;rw[h1]at this;exact n2 _ _ (Option.some.inj this)
 refine⟨a,o,ob,I2,sr.aeB hs ho e1 h1 n1 n2 vr,λσ' s' H1 f1 J g s1=>?_⟩;have pf:∀ψ m b,g9 σ (fs.set i (am (.val t.bv))) ψ m b->g9 σ fs ψ m b:=λψ m b ⟨j,k,z1,z3⟩=>by
  rcases cH z1 with⟨_,z⟩|⟨n,z1⟩
  .cases z
  .exact⟨j,k,z1,z3⟩
 have npa:∀ψ m,¬g9 σ fs ψ m a:=λψ m ⟨j,k,z1,z3⟩=>by
  have:=sr.nd j i _ _ a a a z1 hs rfl ho z3 e1 (.inl rfl) (.inl rfl);subst this;rw[hs]at z1;cases z1;cases hb
 have e2:=g.keep a _ aH λψ m p=>npa ψ m (pf ψ m a p);have hk:=RT J.bG e2;have ow:o.ow=true:=by
  obtain⟨o',z1,_,_,z2⟩:=oa.ex ho (.inl rfl);rw[h1]at z1;cases z1;exact z2
 have hi:i<fs.length:=(Aj.mp hs).1;have æ:i<f1.length:=by rw[<- g.ev.len,BL];exact hi
 have ev:Ev fs (f1.set i (am t)):=⟨by rw[BL,<- g.ev.len,BL],λj=>by
  by_cases c:j=i
  .subst c;exact .inl (by rw[hs,bc æ])
  .have:=g.ev.at' j;rw[aD c]at this;rw[aD c];exact this⟩
 have xx:∀b,dW H1 b->dW (upd H1 a o) b:=λb z=>by
  have z':H1 b=_:=z;show upd H1 a o b=_;rw[ak (λy=>by subst y;rw[e2]at z';cases z')];exact z'
 have ge:cE σ fs H (upd H1 a o) (f1.set i (am t)):=by
  refine⟨λb o z n nt=>?_,λb z=>?_,ev,λb z=>xx b (g.x b ?_)⟩
  .by_cases c:b=a
   .subst c;rw[h1]at z;cases z;exact aH
   .rw[ak c];exact g.keep b o (by rw[ak c];exact z) (λψ m p=>n ψ m (pf ψ m b p)) nt
  .by_cases c:b=a
   .subst c;rw[aH]at z;cases z
   .rw[ak c]at z;have:=g.there b z;rw[ak c]at this;exact this
  .have z':H b=_:=z;show upd H a _ b=_;rw[ak (λy=>by subst y;rw[h1]at z';cases z';cases ow)];exact z'
 refine⟨J.YO e2 h0 (hk a _ aH) hk,ge,⟨sr.len.trans ev.len,λj t' z=>?_,ev.nd sr,s1.tb.YO J.bG e2 ow⟩,λp vs z=>?_,λp vs n z=>by rw[ak n];exact z⟩
 .by_cases c:∃ψ k m,t'=.dB ψ k m
  .obtain⟨ψ,k,m,rfl⟩:=c;have ji:j≠i:=λy=>by subst y;rw[bc æ]at z;cases z;cases hb
   rw[aD ji]at z;obtain⟨u,k1,⟨v,y,_⟩|⟨b,y,⟨j',vs,y1,y2,y3,y4⟩,y5⟩⟩:=s1.at' j _ z
   .cases y
   .exact⟨u,k1,.inr ⟨b,y,⟨j',vs,y1,by rw[ak (λw=>by subst w;rw[e2]at y2;cases y2)];exact y2,y3,λb hb=>xx b (y4 b hb)⟩,y5⟩⟩
  .have z0:=ev.symm.same z λψ k m y=>c ⟨ψ,k,m,y⟩;obtain⟨u,k1,k2⟩:=sr.at' j t' z0;refine⟨u,k1,k2.mono (ge.di sr) (λx b o eb ow hb zz nt=>ge.keep b o zz (λψ m ⟨j',k,p1,p3⟩=>?_) nt)⟩;subst eb;have:=sr.nd j j' t' _ x b b z0 p1 ow rfl k1 p3 hb (.inl rfl);subst this;rw[z0]at p1;cases p1;exact c ⟨ψ,k,m,rfl⟩
 .rw[ak (λy=>by subst y;rw[e2]at z;cases z)];exact z
def ae0(i:Nat)(hs:fs[i]?=am (am t))(h:EF X K (fs.set i (am (.val t.bv))) e w aA)(hb:‹t.bw=true›):EF X K fs e (.bind w Pu) (aA.set i (am t)):=⟨λU s σ H Q I ⟨sr,q⟩=>by
 obtain⟨a,o,ob,I2,s2,ë⟩:=bor I sr hs hb;refine cf (h.p U s σ _ (λu H1=>∃v,cE σ (fs.set i (am (.val t.bv))) (upd H a (.cn ob o)) H1 aA/\aY K H1 σ aA/\VR K [] H1 u v/\v.dat=true/\∀u H',cE σ fs H H' (aA.set i (am t))->aY K H' σ (aA.set i (am t))->VR K [] H' u v->Q u H') I2 ⟨s2,w.mono (λv q1 u H1 g1 s1 v1=>⟨v,g1,s1,v1,q1.1,q1.2⟩) q⟩) λu s1 ⟨x,H1,I1,r1,v,g1,Uv,v1,d,q1⟩=>?_;obtain⟨I3,g3,s3,t3,_⟩:=ë σ s1 H1 _ I1 g1 Uv;exact⟨x,_,I3,r1,q1 x _ g3 s3 (VR.pj t3 v1 d)⟩⟩
end
end
section
variable[cx]
variable{K:Ab}
abbrev afg(wa wb:W PV):W PV:=.bind wa λx=>WN x wb
abbrev gz(wl:W (O PV)):W PV:=.bind wl λl=>.ret (.cl l)
abbrev J4(t:W Bool)(w:W PV):W (Option PV):=.bind t λk=>if k=true then .bind w λv=>.ret (am v) else .ret ce
section
variable{c:mo}{W':W PV}{WL:W (O PV)}
def Wm{m:O PV->W PV}(G:Ts X.prog X.w X.K X.mg X.base x k ps (PY K ks m))(hr:eG k' X.A)(hk:k<=k')(hg:Gl X x)(ha:AF X K fs (e::es) ks B f1)(hW:W'=B m)(mz: ~~~(jz x))(he:‹hV X e es›)(eB:‹mm X pos es›):EF X K fs (.Call (.Name x p) (e::es) [] pos) W' f1:=hW▸aa7 G hr hk hg ha mz he eB
def Vz{m:O PV->W (O PV)}{B:(O PV->W (O PV))->W (O PV)}(G:Ts X.prog X.w X.K X.mg X.base x k ps (yf K ks m))(hr:eG k' X.A)(hk:k<=k')(hg:Gl X x)(ha:AF X K fs (e::es) ks B f1)(hW:WL=B m)(mz: ~~~(jz x))(he:‹hV X e es›)(eB:‹mm X pos es›):LF X K fs (.Call (.Name x p) (e::es) [] pos) WL f1:=hW▸Z7 G hr hk hg ha mz he eB
def aX{x1}(h:AF X K fs es (Ap n .v) B f1)(hW:W'=B λl=>.ret (.tup l))(hn: ~~~(n<=1000)):EF X K fs (.Tuple es x1 pos) W' f1:=hW▸aeV h hn
def aU{B:(O PV->W (O PV))->W (O PV)}(h:AF X K fs es (Ap n .v) B f1)(hW:WL=B λl=>.ret l)(hn: ~~~(n<=1000)):LF X K fs (.List es pos) WL f1:=hW▸XG h hn
variable{sc:nw}{T2:Type}{wt:PV->W T2}{fs2:T2->aR}{tf:T2->W Bool}{te:T2->W PV}
def fY{f:PV->W PV}(hc:X.calm=true)(S:a7 X.env.scope X.N sc N' ix)(hi:nW X K fs tg iter wl f1)(hg:∀cl C s2 H2 fp,PG (fg X sc N' cl C s2 H2 fp) tg (eI i))(he:∀cl C s2 H2 fp t,EF (fg X sc N' cl C s2 H2 fp) K ((bh ix f1).set i (am (.val t))) Ã (f t))(h0:ix[i]?=am ce)(hs:rj X iter:=by intro _;rfl):LF X K fs (.ListComp Ã [⟨tg,iter,[],0⟩] sc pos) (.bind wl λl=>bx l f) f1:=
 have h1:(bh ix f1)[i]?=am ce:=by unfold bh;rw[Ah,h0];rfl
 XF hc S hi (λcl C s2 H2 fp=>g_1 (hg cl C s2 H2 fp)) he (λ_=>rfl) (Rn h1) (λj hj=>by rw[AM]at hj;subst hj;exact h0) hs
def xl{tf:PV->W Bool}{te:PV->W PV}(hc:X.calm=true)(S:a7 X.env.scope X.N sc N' ix)(hi:nW X K fs tg iter wl f1)(hg:∀cl C s2 H2 fp,PG (fg X sc N' cl C s2 H2 fp) tg (eI i))(hf:∀cl C s2 H2 fp t,TF (fg X sc N' cl C s2 H2 fp) K ((bh ix f1).set i (am (.val t))) c (tf t))(he:∀cl C s2 H2 fp t,EF (fg X sc N' cl C s2 H2 fp) K ((bh ix f1).set i (am (.val t))) Ã (te t))(h0:ix[i]?=am ce)(hs:rj X iter:=by intro _;rfl):LF X K fs (.ListComp Ã [⟨tg,iter,[c],0⟩] sc pos) (.bind wl λl=>kz l λp=>J4 (tf p) (te p)) f1:=
 have h1:(bh ix f1)[i]?=am ce:=by unfold bh;rw[Ah,h0];rfl
 Z6 hc S hi (λcl C s2 H2 fp=>g_1 (hg cl C s2 H2 fp)) (λcl C s2 H2 fp t=>Sb (hf cl C s2 H2 fp t)) he (λ_=>rfl) (Rn h1) (λj hj=>by rw[AM]at hj;subst hj;exact h0) hs
def Ro(hc:X.calm=true)(S:a7 X.env.scope X.N sc N' ix)(hi:nW X K fs tg iter wl f1)(hg:∀cl C s2 H2 fp,GF (fg X sc N' cl C s2 H2 fp) K (bh ix f1) tg is wt fs2)(he:∀cl C s2 H2 fp t,EF (fg X sc N' cl C s2 H2 fp) K (fs2 t) Ã (te t))(hl:qE is (bh ix f1) fs2/\∀t,dH (fs2 t) (bh ix f1))(sP:∀j∈is,ix[j]?=am ce)(hs:rj X iter:=by intro _;rfl):LF X K fs (.ListComp Ã [⟨tg,iter,[],0⟩] sc pos) (.bind wl λl=>bx l λp=>.bind (wt p) te) f1:=XF hc S hi hg he (λ_=>rfl) hl sP hs
def adS(hc:X.calm=true)(S:a7 X.env.scope X.N sc N' ix)(hi:nW X K fs tg iter wl f1)(hg:∀cl C s2 H2 fp,GF (fg X sc N' cl C s2 H2 fp) K (bh ix f1) tg is wt fs2)(hf:∀cl C s2 H2 fp t,TF (fg X sc N' cl C s2 H2 fp) K (fs2 t) c (tf t))(he:∀cl C s2 H2 fp t,EF (fg X sc N' cl C s2 H2 fp) K (fs2 t) Ã (te t))(hl:qE is (bh ix f1) fs2/\∀t,dH (fs2 t) (bh ix f1))(sP:∀j∈is,ix[j]?=am ce)(hs:rj X iter:=by intro _;rfl):LF X K fs (.ListComp Ã [⟨tg,iter,[c],0⟩] sc pos) (.bind wl λl=>kz l λp=>.bind (wt p) λt=>J4 (tf t) (te t)) f1:=Z6 hc S hi hg (λcl C s2 H2 fp t=>Sb (hf cl C s2 H2 fp t)) he (λ_=>rfl) hl sP hs
variable{rest:O ut}{T:Type}{out:T->End}{x0:Bool}{kk:O PV->W T}
def Vr{wt:PV->W T2}{te:T2->W PV}:(λl=>bx l λp=>.bind (wt p) te)=λl=>kz l λp=>.bind (wt p) λt=>.bind (.ret true) λk=>if k=true then .bind (te t) λv=>.ret (am v) else .ret ce:=funext λl=>by
 rw[yK];rfl
def SF.Us(hc:X.calm=true)(hN:X.N.Nodup)(Kt:X.N[i]?=am y)(hx:X.env.scope.names.lookup y=am .local)(S:a7 X.env.scope X.N sc N' ix)(hi:nW X K fs tg iter wl f1)(hg:∀cl C s2 H2 fp,GF (fg X sc N' cl C s2 H2 fp) K (bh ix f1) tg is wt fs2)(he:∀cl C s2 H2 fp t,EF (fg X sc N' cl C s2 H2 fp) K (fs2 t) Ã (te t))(hl:qE is (bh ix f1) fs2/\∀t,dH (fs2 t) (bh ix f1))(sP:∀j∈is,ix[j]?=am ce)(hr:∀l,SF X K x0 (f1.set i (am (.ol ce l))) rest (kk l) out)(sN:‹r9 (.ListComp Ã [⟨tg,iter,[],0⟩] sc pos) (am (.Name y px)) rz.line X.env=pure true›)(hs:rj X iter:=by intro _;rfl):SF X K x0 fs (.Assign [.Name y px] (.ListComp Ã [⟨tg,iter,[],0⟩] sc pos) rz::rest) (.bind (.bind wl λl=>bx l λp=>.bind (wt p) te) kk) out:=by
 rw[Vr];exact SF.acU hc hN Kt hx S hi hg (λ_ _ _ _ _ _=>KJ) he (λp=>rfl) hl sP hr sN hs
def SF.hZ{f:PV->W PV}(hc:X.calm=true)(hN:X.N.Nodup)(Kt:X.N[i]?=am y)(hx:X.env.scope.names.lookup y=am .local)(S:a7 X.env.scope X.N sc N' ix)(hi:nW X K fs tg iter wl f1)(hg:∀cl C s2 H2 fp,PG (fg X sc N' cl C s2 H2 fp) tg (eI j))(he:∀cl C s2 H2 fp t,EF (fg X sc N' cl C s2 H2 fp) K ((bh ix f1).set j (am (.val t))) Ã (f t))(h0:ix[j]?=am ce)(hr:∀l,SF X K x0 (f1.set i (am (.ol ce l))) rest (kk l) out)(sN:‹r9 (.ListComp Ã [⟨tg,iter,[],0⟩] sc pos) (am (.Name y px)) rz.line X.env=pure true›)(hs:rj X iter:=by intro _;rfl):SF X K x0 fs (.Assign [.Name y px] (.ListComp Ã [⟨tg,iter,[],0⟩] sc pos) rz::rest) (.bind (.bind wl λl=>bx l f) kk) out:=
 have h1:(bh ix f1)[j]?=am ce:=by unfold bh;rw[Ah,h0];rfl
 SF.Us hc hN Kt hx S hi (λcl C s2 H2 fp=>g_1 (hg cl C s2 H2 fp)) he (Rn h1) (λm hj=>by rw[AM]at hj;subst hj;exact h0) hr sN hs
end
def X7{f:db}(h:∀vs H Q E,¬sp vs H Q E):lL P w K mg base GB k f fd ps sp:=⟨λvs H Q E q=>(h _ _ _ _ q).elim,λA outer s H args us vs Q E _ _ _ _ q=>(h _ _ _ _ q).elim⟩
def L4{m:Jk (O PV) n}(h:∀l Q,l.length=n->¬(wJ n m l).run Q):∀vs H Q E,¬yf K ks (wJ n m) vs H Q E:=λvs H Q E ⟨_,_,l,_,q⟩=>h l _ (rX q) q
theorem bq(hr:eG k A):A.units+200<tz:=by have:=hr.un;lia
end
section
variable[cx]
variable{K:Ab}
mutual
def PV.fw:PV->Bool
 |.tup l=>fb l
 |.cl l=>fb l
 |.ref _=>false
 |.ty _=>false
 |.dv _ _=>false
 |.ob _ _=>false
 |.hand=>false
 |_=>true
def fb:O PV->Bool
 |[]=>true
 |x::l=>PV.fw x&&fb l
end
mutual
def PV.iK:PV->Nat
 |.tup l=>dR l+1
 |.cl l=>dR l+1
 |_=>0
def dR:O PV->Nat
 |[]=>0
 |x::l=>max (PV.iK x) (dR l)
end
mutual
def kG:PV->PV->Bool
 |.aO,.aO=>true
 |.bl a,.bl b=>a==b
 |.bl a,.int b=>(if a then 1 else 0)==b
 |.int a,.bl b=>a==(if b then 1 else 0)
 |.int a,.int b=>a==b
 |.str a,.str b=>a==b
 |.tup l,.tup m=>fZ l m
 |.cl l,.cl m=>fZ l m
 |_,_=>false
def fZ:O PV->O PV->Bool
 |[],[]=>true
 |x::l,y::m=>kG x y&&fZ l m
 |_,_=>false
end
theorem uK:∀{l:O PV}{j:Nat}{x:PV},fb l=true->l[j]?=am x->PV.fw x=true
 |[],_,_,_,e=>by simp at e
 |y::l,0,x,h,e=>by
  simp at e;subst e;rw[fb,AR]at h;exact h.1
 |y::l,j+1,x,h,e=>by
  rw[fb,AR]at h;exact uK h.2 (by simpa using e)
theorem xE:∀{l:O PV}{j:Nat}{x:PV},l[j]?=am x->PV.iK x<=dR l
 |[],_,_,e=>by simp at e
 |y::l,0,x,e=>by
  simp at e;subst e;rw[dR];lia
 |y::l,j+1,x,e=>by
  have:=xE (by simpa using e);rw[dR];lia
mutual
theorem Se:∀(x:PV),PV.fw x=true->kG x x=true
 |.aO,_=>by rw[kG]
 |.bl b,_=>by rw[kG];simp
 |.int i,_=>by rw[kG];simp
 |.str i,_=>by rw[kG];simp
 |.tup l,h=>by rw[kG];exact md l (by rw[PV.fw]at h;exact h)
 |.cl l,h=>by rw[kG];exact md l (by rw[PV.fw]at h;exact h)
 |.ref _,h=>by rw[PV.fw]at h;cases h
 |.ty _,h=>by rw[PV.fw]at h;cases h
 |.dv _ _,h=>by rw[PV.fw]at h;cases h
 |.ob _ _,h=>by rw[PV.fw]at h;cases h
 |.hand,h=>by rw[PV.fw]at h;cases h
theorem md:∀(l:O PV),fb l=true->fZ l l=true
 |[],_=>by rw[fZ]
 |x::l,h=>by
  rw[fb,AR]at h;rw[fZ,Se x h.1,md l h.2];rfl
end
def So(l m:O PV)(j:Nat):Bool:=match l[j]?,m[j]? with|some x,am y=>kG x y|_,_=>true
theorem o6:∀(l m:O PV),((Aw (min l.length m.length)).all (So l m)&&l.length==m.length)=fZ l m
 |[],[]=>by rw[fZ];rfl
 |[],_::_=>by
  rw[fZ]
  .simp
  .intros;simp_all
  .intros;simp_all
 |_::_,[]=>by
  rw[fZ]
  .simp
  .intros;simp_all
  .intros;simp_all
 |x::l,y::m=>by
  rw[fZ,<- o6 l m];have e:min (x::l).length (y::m).length=min l.length m.length+1:=by simp only[Au];lia
  rw[e,E7,List.all_cons,List.all_map];have e2:((x::l).length==(y::m).length)=(l.length==m.length):=by simp
  rw[e2,Bool.and_assoc];rfl
def Sd{l m:O PV}(h:l.length≠m.length):fZ l m=false:=by
 rw[<- o6];have:(l.length==m.length)=false:=by simpa using h
 rw[this,C7]
section
variable{s:cr}
def HY(I:Inv X U σ H s){xs:O V}(h:Jj X.K H a xs):H a≠am (.ext φ):=λe=>by
 rcases h with⟨o,h⟩|⟨o,_,_,h,_⟩
 .rw[e]at h;cases h
 .have:=(I.bs a o (I.mod.kin a o h)).2;rw[e]at this;cases this
mutual
theorem VR.Pf(I:Inv X U σ H s):∀{v:V}{x y:PV},VR X.K [] H v x->VR X.K [] H v y->x=y
 |_,_,_,.aO,h=>by cases h;rfl
 |_,_,_,.bl b,h=>by cases h;rfl
 |_,_,_,.int b,h=>by cases h;rfl
 |_,_,_,.str b,h=>by cases h;rfl
 |_,_,_,.ty b,h=>by cases h;rfl
 |_,_,_,.ref e,h=>by simp at e
 |_,_,_,.tup e r,h=>by
  cases h with
  |tup e' r'=>
   have ee:=I.lM (dU.of e) (dU.of e');subst ee;rw[aF.Pf I r r']
  |ref e=>simp at e
  |cl e' r'=>
   obtain⟨aq,_,⟨o,n,h1,h2,_⟩,_⟩:=I.list e'.sq;obtain⟨eW,_,⟨o',gw,vq,_⟩,_⟩:=I.tuple (dU.of e);rw[h1]at gw;cases gw;rw[h2]at vq;simp at vq
  |dk e' _ _=>rw[e]at e';cases e'
  |dt e' _ _=>rw[e]at e';cases e'
  |ob e' _ _ _ _=>rw[e]at e';cases e'
  |hand e'=>have e':_=_:=e';rw[e]at e';cases e'
 |_,_,_,.ob e c na k r,h=>by
  cases h with
  |ob e' _ _ k' r'=>rw[e]at e';cases e';rw[k,k',aF.Pf I r r']
  |hand e'=>have e':_=_:=e';rw[e]at e';cases e'
  |dk e' _ _=>rw[e]at e';cases e'
  |dt e' _ _=>rw[e]at e';cases e'
  |ref e=>simp at e
  |tup e' _=>rw[e]at e';cases e'
  |cl e' r'=>
   obtain⟨aq,_,⟨o,n,h1,h2,_⟩,_⟩:=I.list e'.sq;obtain⟨_,_,_,_,gw,_⟩:=I.bG _ _ e;rw[h1]at gw;cases gw;simp at h2
 |_,_,_,.dk e k r,h=>by
  cases h with
  |dk e' k' r'=>rw[e]at e';cases e';rw[k,k',aF.Pf I r r']
  |dt e' _ _=>rw[e]at e';cases e'
  |ob e' _ _ _ _=>rw[e]at e';cases e'
  |hand e'=>have e':_=_:=e';rw[e]at e';cases e'
  |ref e=>simp at e
  |tup e' _=>rw[e]at e';cases e'
  |cl e' r'=>
   obtain⟨aq,_,⟨o,n,h1,h2,_⟩,_⟩:=I.list e'.sq;obtain⟨_,_,vs,_,o',_,_,gw,vq,_⟩:=xI I.bG (.inr ⟨_,e⟩);rw[h1]at gw;cases gw;have h3:=vq.1;rw[h2]at h3;simp at h3
 |_,_,_,.dt e k r,h=>by
  cases h with
  |dt e' k' r'=>rw[e]at e';cases e';rw[k,k',aF.Pf I r r']
  |ob e' _ _ _ _=>rw[e]at e';cases e'
  |hand e'=>have e':_=_:=e';rw[e]at e';cases e'
  |dk e' _ _=>rw[e]at e';cases e'
  |ref e=>simp at e
  |tup e' _=>rw[e]at e';cases e'
  |cl e' r'=>
   obtain⟨aq,_,⟨o,n,h1,h2,_⟩,_⟩:=I.list e'.sq;obtain⟨_,_,vs,_,o',_,_,gw,vq,_⟩:=IA I.bG (.inr ⟨_,e⟩);rw[h1]at gw;cases gw;have h3:=vq.1;rw[h2]at h3;simp at h3
 |_,_,_,.hand e,h=>by
  have e:_=am _:=e;cases h with
  |hand _=>rfl
  |ob e' _ _ _ _=>rw[e]at e';cases e'
  |dk e' _ _=>rw[e]at e';cases e'
  |dt e' _ _=>rw[e]at e';cases e'
  |ref e=>simp at e
  |tup e' _=>rw[e]at e';cases e'
  |cl e' r'=>exact absurd e (HY I e')
 |_,_,_,.cl e r,h=>by
  cases h with
  |hand e'=>exact absurd (show _=am _ from e') (HY I e)
  |ob e' _ _ _ _=>
   obtain⟨aq,_,⟨o,n,h1,h2,_⟩,_⟩:=I.list e.sq;obtain⟨_,_,_,_,gw,_⟩:=I.bG _ _ e';rw[h1]at gw;cases gw;simp at h2
  |dk e' _ _=>
   obtain⟨aq,_,⟨o,n,h1,h2,_⟩,_⟩:=I.list e.sq;obtain⟨_,_,vs,_,o',_,_,gw,vq,_⟩:=xI I.bG (.inr ⟨_,e'⟩);rw[h1]at gw;cases gw;have h3:=vq.1;rw[h2]at h3;simp at h3
  |dt e' _ _=>
   obtain⟨aq,_,⟨o,n,h1,h2,_⟩,_⟩:=I.list e.sq;obtain⟨_,_,vs,_,o',_,_,gw,vq,_⟩:=IA I.bG (.inr ⟨_,e'⟩);rw[h1]at gw;cases gw;have h3:=vq.1;rw[h2]at h3;simp at h3
  |cl e' r'=>
   obtain⟨aq,k,⟨o,n,h1,h2,h3,h4⟩,_⟩:=I.list e.sq;obtain⟨eW,k',⟨o',n',gw,vq,R1,é⟩,_⟩:=I.list e'.sq;rw[h1]at gw;cases gw;rw[h4]at é;have:aq=eW:=by injection é with a b;simpa using a
   subst this;have ee:=Vals.inj k k';subst ee;rw[aF.Pf I r r']
  |ref e=>simp at e
  |tup e' r'=>
   obtain⟨aq,_,⟨o,n,h1,h2,_⟩,_⟩:=I.list e.sq;obtain⟨eW,_,⟨o',gw,vq,_⟩,_⟩:=I.tuple (dU.of e');rw[h1]at gw;cases gw;rw[h2]at vq;simp at vq
theorem aF.Pf(I:Inv X U σ H s):∀{v:O V}{x y:O PV},aF X.K [] H v x->aF X.K [] H v y->x=y
 |_,_,_,.nil,h=>by cases h;rfl
 |_,_,_,.cons r t,h=>by
  cases h with
  |cons r' t'=>rw[VR.Pf I r r',aF.Pf I t t']
end
structure Cmp(A:EQ)(s:cr)(w w':ci)(b:Bool):Prop where
 rc:SeqAt.RcAt A s w w' b
 ne:SeqAt.RcNeAt A s w w' (!b)
 eq:DS A s w w' b
def aeU(I:Inv X U σ H s){ws:O V}{l m:O PV}(r:Vals vs aq)(r':Vals ws eW)(r1:aF X.K [] H vs l)(r2:aF X.K [] H ws m)(ih:∀(j:Nat) (x y:PV) (v v':V) (w w':ci),l[j]?=am x->m[j]?=am y->VR X.K [] H v x->VR X.K [] H v' y->RelV v w->RelV v' w'->DS A s w w' (kG x y)):∀j (g1:j<aq.toArray.size) (g2:j<eW.toArray.size),DS A s aq.toArray[j] eW.toArray[j] (So l m j):=λj g1 g2=>by
 have h1:j<aq.length:=by simpa using g1
 have h2:j<eW.length:=by simpa using g2
 have hl:j<l.length:=by rw[<- r1.length,r.length];exact h1
 have hm:j<m.length:=by rw[<- r2.length,r'.length];exact h2
 obtain⟨v,v1,v2⟩:=r1.get (Ad hl);obtain⟨v',ù,v2'⟩:=r2.get (Ad hm);obtain⟨u,u1,u2⟩:=r.get v1;obtain⟨u',u1',u2'⟩:=r'.get ù;rw[Ad h1]at u1;rw[Ad h2]at u1';cases u1;cases u1';unfold So;rw[Ad hl,Ad hm];have:=ih j _ _ v v' _ _ (Ad hl) (Ad hm) v2 v2' u2 u2';simpa using this
inductive Sh(X:Cx)(H:Hp)(s:cr):PV->ci->Prop
 |aO:Sh X H s .aO .none
 |bl (b:Bool):Sh X H s (.bl b) (.bool b)
 |int (i:Int) (t:Tok):Sh X H s (.int i) (.int i t)
 |str (x:Str) (t:Tok):Sh X H s (.str x) (.str x t)
 |tup {p:db}{vs:List V}{aq:List ci}{l:List PV} (e:VR X.K [] H (.ref p) (.tup l)) (k:Vals vs aq) (r:aF X.K [] H vs l) (h:s.heap.IsTuple p aq.toArray):Sh X H s (.tup l) (.ref p)
 |cl {p:db}{vs:List V}{aq:List ci}{l:List PV} (e:VR X.K [] H (.ref p) (.cl l)) (k:Vals vs aq) (r:aF X.K [] H vs l) (h:s.heap.IsList p aq.toArray):Sh X H s (.cl l) (.ref p)
def Sh.of(I:Inv X U σ H s){v:V}{x:PV}{w:ci}(h:VR X.K [] H v x)(r:RelV v w)(d:PV.fw x=true):Sh X H s x w:=by
 cases h with
 |ref e=>simp at e
 |aO=>cases r;exact .aO
 |bl a=>cases r;exact .bl a
 |int a=>obtain⟨t,rfl⟩:=r;exact .int a t
 |str a=>obtain⟨t,rfl⟩:=r;exact .str a t
 |tup e q=>
  cases r;obtain⟨aq,k,ht,_⟩:=I.tuple (dU.of e);exact .tup (.tup e q) k q ht
 |cl e q=>
  cases r;obtain⟨aq,k,pl,_⟩:=I.list e.sq;exact .cl (.cl e q) k q pl.isList
 |_=>rw[PV.fw]at d;cases d
set_option maxHeartbeats 8000000 in
theorem abl(hK:X.K=K)(I:Inv X U σ H s):∀(n:Nat) (x y:PV) (A:EQ) (v v':V) (w w':ci),PV.iK x<=n->PV.fw x=true->PV.fw y=true->VR K [] H v x->VR K [] H v' y->RelV v w->RelV v' w'->A.units+n+1<tz->Cmp A s w w' (kG x y):=by
 subst hK;intro n
 induction n using Cv with
 |ind n ih=>
 intro x y A v v' w w' hd dx dy hv hv' r1 r2 hu;have a:=Sh.of I hv r1 dx;have b:=Sh.of I hv' r2 dy;clear hv hv' r1 r2;have el:∀{l m:O PV}{vs ws:O V}{aq du:O ci},fb l=true->fb m=true->dR l<n->Vals vs aq->Vals ws du->aF X.K [] H vs l->aF X.K [] H ws m->aq.toArray.size=l.length/\du.toArray.size=m.length/\∀j g1 (g2:j<du.toArray.size),DS A.in1 s aq.toArray[j] du.toArray[j] (So l m j):=λd1 d2 hd k1 k2 r r'=>⟨by rw[Am,<- k1.length,r.length],by rw[Am,<- k2.length,r'.length],aeU I k1 k2 r r' λj x y v v' w w' hx hy vx vy rx ry=>(ih _ hd x y A.in1 v v' w w' (xE hx) (uK d1 hx) (uK d2 hy) vx vy rx ry (by show A.units+1+_+1<_;lia)).eq⟩;have fin:∀{pa pb:db}{l m:O PV},(pa=pb->l=m)->fb l=true->SeqAt.RcAt A s (.ref pa) (.ref pb) (fZ l m)->DS A s (.ref pa) (.ref pb) (fZ l m):=λ{pa pb l m} h d q=>by
  by_cases Pa:pa=pb
  .rw[h Pa,md _ (h Pa▸d),Pa];exact Gg _
  .exact FZ Pa q
 cases a<;>cases b
 case tup.tup pa vs aq l e k r ht pb ws du m e2 k2 r2 Ko=>
  rw[PV.iK]at hd;obtain⟨z1,z2,ie⟩:=el dx dy ∅ k k2 r r2;have q1:=F2 ht Ko ∅ ie;have q2:=SeqAt.RcNeAt.tuples ht Ko (A:=A) ∅ ie;rw[z1,z2,o6]at q1 q2;exact⟨q1,q2,fin (λz=>by subst z;have:=VR.Pf I e e2;injection this) dx q1⟩
 case cl.cl pa vs aq l e k r ht pb ws du m e2 k2 r2 Ko=>
  rw[PV.iK]at hd;obtain⟨z1,z2,ie⟩:=el dx dy ∅ k k2 r r2;by_cases hz:l.length=m.length
  .have q1:=Gd ht Ko (by rw[z1,z2];exact hz) (A:=A) ∅ ie;have q2:=FY ht Ko (by rw[z1,z2];exact hz) (A:=A) ∅ ie;have ef:(Aw l.length).all (So l m)=fZ l m:=by rw[<- o6,hz,Nat.min_self,beq_self_eq_true,Bool.and_true]
   rw[z1,ef]at q1 q2;exact⟨q1,q2,fin (λz=>by subst z;have:=VR.Pf I e e2;injection this) dx q1⟩
  .have q1:=EL (A:=A) ht Ko (by rw[z1,z2];simpa using hz) ∅;have q2:=Em (A:=A) ht Ko (by rw[z1,z2];simpa using hz) ∅;have ef:=Sd hz;rw[<- ef]at q1;have q2:SeqAt.RcNeAt A s (.ref pa) (.ref pb) (!fZ l m):=by rw[ef];exact q2
   exact⟨q1,q2,fin (λz=>by subst z;have:=VR.Pf I e e2;injection this) dx q1⟩
 all_goals
  clear ih el fin;rw[kG]<;>try (intros;simp_all;done)
  refine⟨?_,?_,?_⟩<;>(try simp)<;>first|with_reducible exact .none_none|with_reducible exact .none_bool _|with_reducible exact .none_int _ _|with_reducible exact .none_str _ _|with_reducible exact .none_tuple ‹_› ∅ | with_reducible exact .none_list ‹_› ∅ | with_reducible exact .bool_none _|with_reducible exact .bool_str _ _ _|with_reducible exact .bool_tuple _ ‹_› ∅ | with_reducible exact .bool_list _ ‹_› ∅ | with_reducible exact .int_none _ _|with_reducible exact .int_str _ _ _ _|with_reducible exact .int_tuple _ _ ‹_› ∅ | with_reducible exact .int_list _ _ ‹_› ∅ | with_reducible exact .str_none _ _|with_reducible exact .str_bool _ _ _|with_reducible exact .str_int _ _ _ _|with_reducible exact .str_tuple _ _ ‹_› ∅ | with_reducible exact .str_list _ _ ‹_› ∅ | with_reducible exact .tuple_none ‹_› ∅ | with_reducible exact .tuple_bool _ ‹_› ∅ | with_reducible exact .tuple_int _ _ ‹_› ∅ | with_reducible exact .tuple_str _ _ ‹_› ∅ | with_reducible exact .tuple_list ‹_› ‹_› ∅ | with_reducible exact .list_none ‹_› ∅ | with_reducible exact .list_bool _ ‹_› ∅ | with_reducible exact .list_int _ _ ‹_› ∅ | with_reducible exact .list_str _ _ ‹_› ∅ | with_reducible exact .list_tuple ‹_› ‹_› ∅ | exact .same _|exact .bool_bool _ _|exact .bool_int _ _ _|exact .int_bool _ _ _|exact .int_int _ _ _ _|exact .str_str _ _ _ _
end
end
section
variable[cx]
variable{K:Ab}
mutual
theorem VR.oB{ι:O db}{H:Hp}:∀{v:V}{q:PV},VR K ι H v q->PV.fw q=true->VR K [] H v q
 |_,_,.aO,_=>.aO
 |_,_,.bl b,_=>.bl b
 |_,_,.int i,_=>.int i
 |_,_,.str x,_=>.str x
 |_,_,.ty n,h=>by rw[PV.fw]at h;cases h
 |_,_,.dk _ _ _,h=>by rw[PV.fw]at h;cases h
 |_,_,.dt _ _ _,h=>by rw[PV.fw]at h;cases h
 |_,_,.ob _ _ _ _ _,h=>by rw[PV.fw]at h;cases h
 |_,_,.hand _,h=>by rw[PV.fw]at h;cases h
 |_,_,.tup e r,h=>.tup e (aF.oB r (by rw[PV.fw]at h;exact h))
 |_,_,.cl e r,h=>.cl e (aF.oB r (by rw[PV.fw]at h;exact h))
 |_,_,.ref e,h=>by rw[PV.fw]at h;cases h
theorem aF.oB{ι:O db}{H:Hp}:∀{v:O V}{q:O PV},aF K ι H v q->fb q=true->aF K [] H v q
 |_,_,.nil,_=>.nil
 |_,_,.cons r s,h=>by
  rw[fb,AR]at h;exact .cons (VR.oB r h.1) (aF.oB s h.2)
end
def Oo(x y:PV):Prop:=PV.fw x=true/\PV.fw y=true/\PV.iK x<=150
def dN:M2:=⟨λx y h Q=>Oo x y/\Q (.bl (kG x y)) h,λf q=>⟨q.1,f _ _ q.2⟩⟩
def vH:M2:=⟨λx y h Q=>Oo x y/\Q (.bl (!kG x y)) h,λf q=>⟨q.1,f _ _ q.2⟩⟩
def UM(K:Ab)(neg:Bool):R2:=λu v H Q=>∃x y,VR K [] H u x/\VR K [] H v y/\Oo x y/\Q (.bl (if neg then !kG x y else kG x y)) H
section
theorem ZJ(hK:X.K=K)(hu:X.A.units+200<tz):iX X (sn .Eq) (UM K false):=λU s σ H u v w w' Q I r1 r2 ⟨x,y,h1,h2,⟨o1,o2,o3⟩,q⟩=>by
 exact Fj (abl hK I 150 x y X.A u v w w' o3 o1 o2 h1 h2 r1 r2 ∅).rc ⟨.bl _,H,I,rfl,q⟩
theorem ZH(hK:X.K=K)(hu:X.A.units+200<tz):iX X (sn .NotEq) (UM K true):=λU s σ H u v w w' Q I r1 r2 ⟨x,y,h1,h2,⟨o1,o2,o3⟩,q⟩=>by
 exact EG (abl hK I 150 x y X.A u v w w' o3 o1 o2 h1 h2 r1 r2 ∅).ne ⟨.bl _,H,I,rfl,q⟩
def Vg:M2.Ok K (UM K false) dN:=λ{ι H h u v x y Q} hr hu hv q=>⟨x,y,VR.oB hu q.1.1,VR.oB hv q.1.2.1,q.1,q.2 ι _ H (Go.refl _ _) hr (.bl _)⟩
def Ve:M2.Ok K (UM K true) vH:=λ{ι H h u v x y Q} hr hu hv q=>⟨x,y,VR.oB hu q.1.1,VR.oB hv q.1.2.1,q.1,q.2 ι _ H (Go.refl _ _) hr (.bl _)⟩
def gW(hK:X.K=K)(hu:X.A.units+200<tz):JC X K .Eq b dN:=⟨⟨_,ZJ hK hu,Vg⟩,gJ _⟩
def RG(hK:X.K=K)(hu:X.A.units+200<tz):JC X K .NotEq b vH:=⟨⟨_,ZH hK hu,Ve⟩,gJ _⟩
end
end
end FL
variable{x:A8}{b b1:Bool}{t z i1 i2 a1 a2:Bq}{ys:Array A8}{k1 k2:Nat}{e2:BC}
namespace L2
def vi(b:Bool)(h:pc)(it a:db)(k:Nat):Prop:=match b with
 |true=>h.IsListIter it a k
 |false=>h.IsTupleIter it a k
def iW(b:Bool)(h:pc)(a:db)(xs:Array ci):Prop:=match b with
 |true=>h.IsList a xs
 |false=>h.IsTuple a xs
def vi.move(x:vi b h it a k)(g:∀o,h.get? it=am o->h'.get? it=am o):vi b h' it a k:=by
 cases b with
 |true=>obtain⟨o,e,p⟩:=(x);exact(⟨o,g o e,p⟩)
 |false=>obtain⟨o,e,p⟩:=(x);exact(⟨o,g o e,p⟩)
def iW.move(x:iW b h a xs)(g:∀o,h.get? a=am o->h'.get? a=am o):iW b h' a xs:=by
 cases b with
 |true=>obtain⟨o,e,p⟩:=(x);exact(⟨o,g o e,p⟩)
 |false=>obtain⟨o,e,p⟩:=(x);exact(⟨o,g o e,p⟩)
def vi.obj(x:vi b h it a k):∃o,h.get? it=am o/\∀v,o.data≠.cell v:=by
 cases b with
 |true=>obtain⟨o,e,_,d⟩:=(x);exact⟨o,e,λv z=>by rw[d]at z;cases z⟩
 |false=>obtain⟨o,e,_,d⟩:=(x);exact⟨o,e,λv z=>by rw[d]at z;cases z⟩
def iW.lt(x:iW b h a xs):a<h.objs.size:=by
 cases b with
 |true=>obtain⟨o,e,p⟩:=(x);exact Aq e
 |false=>obtain⟨o,e,p⟩:=(x);exact Aq e
section
variable{s:cr}
def kX(h:vi b s.heap it t i)(ht:iW b s.heap t items)(hx:items[i]?=am x)(q:∀h':pc,vi b h' it t (i+1)->Ci it s.heap h'->Q x {s with heap:=h'}):ga (gl prog w) A (Builtin.SmallTypes.nextOf (.ref it)) Q E s:=by
 cases b with
 |true=>exact wpAny_nextOf_list_item h ht hx λh' a b=>q h' a b
 |false=>exact ig h ht hx q
def tX(hA:A.handled=ce)(h:vi b s.heap it t i)(ht:iW b s.heap t items)(hx:items[i]?=ce)(q:∀(h':pc) (e:db),FG it s.heap h'->(∃o,h'.get? e=am o/\o.cls=.type "StopIteration")->E (.ref e) {s with heap:=h'}):ga (gl prog w) A (Builtin.SmallTypes.nextOf (.ref it)) Q E s:=by
 cases b with
 |true=>exact wpAny_nextOf_list_end hA h ht hx λh' e a b=>q h' e a b
 |false=>exact jd hA h ht hx q
def N3:Bool->String
 |true=>"list_iterator"
 |false=>"tuple_iterator"
def wV(h:iW b s.heap a xs)(q:Q (.ref s.heap.objs.size) {s with heap:=s.heap.push {cls:=.type (N3 b),data:=.fields #[.ref a,.int 0 0]}}):ga (gl prog w) A (pyIter (.ref a)) Q E s:=by
 cases b with
 |true=>exact DH h q
 |false=>exact Dx h q
def L1(e:h.get? it=am {cls:=.type (N3 b),data:=.fields #[.ref a,.int 0 0]}):vi b h it a 0:=by
 cases b with
 |true=>exact(⟨_,e,rfl,rfl⟩)
 |false=>exact(⟨_,e,rfl,rfl⟩)
end
structure ka(b1 b2:Bool)(h:pc)(z TI TO i1 i2 a1 a2:db)(f0:ci)(k1 k2:Nat):Prop where
 zip:IsZip h z TI TO f0
 ti:GT h TI (.ref i1) (.ref i2)
 to:∃a b,GT h TO a b
 it1:vi b1 h i1 a1 k1
 it2:vi b2 h i2 a2 k2
def sV{E:ci->cr->Prop}{s:cr}{b2:Bool}{TI TO:db}{y:ci}(hA:ZipApart z TI TO i1 i2 a1 a2)(hz:ka b1 b2 s.heap z TI TO i1 i2 a1 a2 .none k1 k2)(XS:iW b1 s.heap a1 xs)(Ko:iW b2 s.heap a2 ys)(hx:xs[k1]?=am x)(hy:ys[k2]?=am y)(q:∀h':pc,ka b1 b2 h' z TI TO i1 i2 a1 a2 (xL s.heap.objs.size) (k1+1) (k2+1)->GT h' s.heap.objs.size x y->(∀c o,c≠z->c≠TO->c≠i1->c≠i2->s.heap.get? c=am o->h'.get? c=am o)->Q (.ref s.heap.objs.size) {s with heap:=h'}):ga (gl prog w) A (v4.«zip.__next__» {pos:=[.ref z]}) (λfin s'=>∃v,fin=Ep (EU v)/\Q v s') E s:=by
 obtain⟨hz,VU,⟨ta,tb,ń⟩,æ,ŏ⟩:=hz;show ga _ _ (field (.ref z) 2 >>= λr=>_) _ _ s;refine Aa (A2 hz rfl rfl ?_);refine Aa (A2 hz rfl rfl ?_);refine Aa (BI VU rfl ?_);refine Aa ?_;refine Aa (A2 hz rfl rfl ?_);refine Ag ?_;refine Aa (CV ?_);refine Aa (A2 hz rfl rfl ?_);refine Aa (AW hz (show 0 < 5 by decide) λh1 z1 b1=>?_);show ga _ _ ((forIn [(AV i1,0),(AV i2,1)] _ _) >>= λr=>_) _ _ _;refine Aa ?_;rw[Cy];have vU:=b1.2;refine Aa ?_;refine Aa (EM ?_);refine Aa (kX (æ.move λo e=>(vU _ hA.i1z).trans e) (XS.move λo e=>(vU _ hA.l1z).trans e) hx λh2 j2 b2=>Ag ?_);have R3:∀b,b≠z->b≠i1->h2.get? b=s.heap.get? b:=λb n1 n2=>(b2.2 b n2).trans (vU b n1);have ú:=(R3 _ hA.TOz hA.TOi1).trans ń;refine Aa (BI ú rfl ?_);refine Aa (D1 ú λh3 t3 b3=>?_);have Ò:∀b,b≠z->b≠i1->b≠TO->h3.get? b=s.heap.get? b:=λb n1 n2 n3=>(b3.2 b n3).trans (R3 b n1 n2);refine Aa (CC (Ag ?_));show ga _ _ (forIn [(AV i2,1)] _ _) _ _ _;rw[Cy];refine Aa ?_;refine Aa (EM ?_);refine Aa (kX (ŏ.move λo e=>(Ò _ hA.i2z hA.i12.symm hA.TOi2.symm).trans e) (Ko.move λo e=>(Ò _ hA.l2z hA.l2i1 hA.l2TO).trans e) hy λh4 j4 b4=>Ag ?_);have to4:=(b4.2 _ hA.TOi2).trans t3;refine Aa (BI to4 rfl ?_);refine Aa (D1 to4 λh5 t5 b5=>?_);have to5:=t5;refine Aa (CC (Ag ?_));refine Ag ?_;refine Aa (BI to5 rfl ?_);have Ĺ:=b5.1.trans (b4.1.trans (b3.1.trans (b2.1.trans b1.1)));refine Aa (CM ?_ (by show 2<=sizeLine;decide));have aey:∀b,b≠z->b≠i1->b≠TO->b≠i2->h5.get? b=s.heap.get? b:=λb n1 n2 n3 n4=>(b5.2 b n3).trans ((b4.2 b n4).trans (Ò b n1 n2 n3));have kp:∀b o,h5.get? b=am o->(h5.push {cls:=.type "tuple",data:=.seq #[x,y]}).get? b=am o:=λb o e=>Ai _ e;refine Aa ?_;refine Aa (AW (kp _ _ ((b5.2 _ hA.TOz.symm).trans ((b4.2 _ hA.i2z.symm).trans ((b3.2 _ hA.TOz.symm).trans ((b2.2 _ hA.i1z.symm).trans z1))))) (show 0 < 5 by decide) λh7 z7 b7=>?_);refine AW z7 (show 1 < 5 by decide) λh8 z8 b8=>?_;have Oi:∀b,b≠z->h8.get? b=(h5.push {cls:=.type "tuple",data:=.seq #[x,y]}).get? b:=λb n=>(b8.2 b n).trans (b7.2 b n);have nz:s.heap.objs.size≠z:=λe=>by have:=Aq hz;rw[<- e]at this;exact AI _ this
 refine Ag ⟨.ref h5.objs.size,rfl,?_⟩;rw[Ĺ];refine q h8 ⟨?_,?_,?_,?_,?_⟩ ?_ ?_
 .rw[<- Ĺ];exact z8
 .rw[GT,Oi _ hA.TIz];exact kp _ _ ((aey _ hA.TIz hA.TIi1 hA.TITO hA.TIi2).trans VU)
 .exact⟨x,y,by rw[GT,Oi _ hA.TOz];exact kp _ _ to5⟩
 .refine j2.move λo e=>?_;rw[Oi _ hA.i1z];exact kp _ _ ((b5.2 _ hA.TOi1.symm).trans ((b4.2 _ hA.i12).trans ((b3.2 _ hA.TOi1.symm).trans e)))
 .refine j4.move λo e=>?_;rw[Oi _ hA.i2z];exact kp _ _ ((b5.2 _ hA.TOi2.symm).trans e)
 .rw[GT,Oi _ nz,<- Ĺ];exact(An _ rfl)
 .intro c o n1 n2 n3 n4 e;rw[Oi _ n1];exact kp _ _ ((aey _ n1 n3 n2 n4).trans e)
def vt{s:cr}{b2:Bool}{TI TO:db}{Q:PySem.Fin->cr->Prop}(hh:A.handled=ce)(hA:ZipApart z TI TO i1 i2 a1 a2)(hz:ka b1 b2 s.heap z TI TO i1 i2 a1 a2 .none k1 k2)(XS:iW b1 s.heap a1 xs)(Ko:iW b2 s.heap a2 ys)(hx:xs[k1]?=ce\/ys[k2]?=ce)(q:∀(h':pc) (e:db),(∀c o,c≠z->c≠TO->c≠i1->c≠i2->s.heap.get? c=am o->h'.get? c=am o)->(∃o,h'.get? e=am o/\o.cls=.type "StopIteration")->E (.ref e) {s with heap:=h'}):ga (gl prog w) A (v4.«zip.__next__» {pos:=[.ref z]}) Q E s:=by
 obtain⟨hz,VU,⟨ta,tb,ń⟩,æ,ŏ⟩:=hz;show ga _ _ (field (.ref z) 2 >>= λr=>_) _ _ s;refine Aa (A2 hz rfl rfl ?_);refine Aa (A2 hz rfl rfl ?_);refine Aa (BI VU rfl ?_);refine Aa ?_;refine Aa (A2 hz rfl rfl ?_);refine Ag ?_;refine Aa (CV ?_);refine Aa (A2 hz rfl rfl ?_);refine Aa (AW hz (show 0 < 5 by decide) λh1 z1 b1'=>?_);show ga _ _ ((forIn [(AV i1,0),(AV i2,1)] _ _) >>= λr=>_) _ _ _;refine Aa ?_;have vU:=b1'.2;refine Aa ?_;refine Aa (EM ?_);have fin:∀{h2:pc}{e:db}{R:ci->cr->Prop},h2.get? z=am {cls:=.type "zip",data:=.fields #[.ellipsis,.bool false,.bool false,.ref TI,.ref TO]}->(∃o,h2.get? e=am o/\o.cls=.type "StopIteration")->(∀c o,c≠z->c≠TO->c≠i1->c≠i2->s.heap.get? c=am o->h2.get? c=am o)->ga (gl prog w) A (setField (.ref z) 0 .none) (λ_ s'=>E (.ref e) s') R {s with heap:=h2}:=λ{h2 e R} z2 ex k=>by
  refine AW z2 (show 0<5 by decide) λh3 z3 b3=>?_;refine q h3 e (λc o n1 n2 n3 n4 ec=>?_) ?_
  .rw[b3.2 _ n1];exact k c o n1 n2 n3 n4 ec
  .obtain⟨o,eo,hc⟩:=ex;by_cases he:e=z
   .subst he;rw[z2]at eo;cases eo;exact absurd (show C5 "zip"=C5 "StopIteration" from hc) ⋯
   .exact⟨o,(b3.2 _ he).trans eo,hc⟩
 cases hx1:xs[k1]? with
 |none=>
  exact Aa (tX hh (æ.move λo e=>(vU _ hA.i1z).trans e) (XS.move λo e=>(vU _ hA.l1z).trans e) hx1 λh2 e k ex=>fin (k _ _ hA.i1z.symm z1) ex λc o n1 n2 n3 n4 ec=>k _ _ n3 ((vU _ n1).trans ec))
 |some x=>
  have hy:ys[k2]?=ce:=by
   rcases hx with h|h
   .rw[hx1]at h;cases h
   .exact h
  refine Aa (kX (æ.move λo e=>(vU _ hA.i1z).trans e) (XS.move λo e=>(vU _ hA.l1z).trans e) hx1 λh2 j2 b2'=>Ag ?_);have R3:∀b,b≠z->b≠i1->h2.get? b=s.heap.get? b:=λb n1 n2=>(b2'.2 b n2).trans (vU b n1);have ú:=(R3 _ hA.TOz hA.TOi1).trans ń;refine Aa (BI ú rfl ?_);refine Aa (D1 ú λh3 t3 b3=>?_);have Ò:∀b,b≠z->b≠i1->b≠TO->h3.get? b=s.heap.get? b:=λb n1 n2 n3=>(b3.2 b n3).trans (R3 b n1 n2);exact Aa (CC (Ag (Aa (Aa (EM (Aa (tX hh (ŏ.move λo e=>(Ò _ hA.i2z hA.i12.symm hA.TOi2.symm).trans e) (Ko.move λo e=>(Ò _ hA.l2z hA.l2i1 hA.l2TO).trans e) hy λh4 e k ex=>fin (k _ _ hA.i2z.symm ((b3.2 _ hA.TOz.symm).trans ((b2'.2 _ hA.i1z.symm).trans z1))) ex λc o n1 n2 n3 n4 ec=>k _ _ n4 ((Ò _ n1 n3 n2).trans ec))))))))
def pY{s:cr}{b2:Bool}{TI TO:db}{y:ci}{Q:Option ci->cr->Prop}(hA:ZipApart z TI TO i1 i2 a1 a2)(hz:ka b1 b2 s.heap z TI TO i1 i2 a1 a2 .none k1 k2)(XS:iW b1 s.heap a1 xs)(Ko:iW b2 s.heap a2 ys)(hx:xs[k1]?=am x)(hy:ys[k2]?=am y)(q:∀h':pc,ka b1 b2 h' z TI TO i1 i2 a1 a2 (xL s.heap.objs.size) (k1+1) (k2+1)->GT h' s.heap.objs.size x y->(∀c o,c≠z->c≠TO->c≠i1->c≠i2->s.heap.get? c=am o->h'.get? c=am o)->Q (am (.ref s.heap.objs.size)) {s with heap:=h'}):ga (gl prog w) A (PP (.ref z)) Q E s:=by
 have ty:s.TypeIs (.ref z) "zip":=⟨_,hz.zip,rfl⟩;refine Aa (CH (AY ty D4 (Be D4 ty F.entry_zip_next ?_ (F.args_zip_next_1 _))));exact sV hA hz XS Ko hx hy λh' a b c=>Ag (q h' a b c)
def rA{s:cr}{b2:Bool}{TI TO:db}{Q:Option ci->cr->Prop}(hh:A.handled=ce)(hA:ZipApart z TI TO i1 i2 a1 a2)(hz:ka b1 b2 s.heap z TI TO i1 i2 a1 a2 .none k1 k2)(XS:iW b1 s.heap a1 xs)(Ko:iW b2 s.heap a2 ys)(hx:xs[k1]?=ce\/ys[k2]?=ce)(q:∀h':pc,(∀c o,c≠z->c≠TO->c≠i1->c≠i2->s.heap.get? c=am o->h'.get? c=am o)->Q ce {s with heap:=h'}):ga (gl prog w) A (PP (.ref z)) Q E s:=by
 have ty:s.TypeIs (.ref z) "zip":=⟨_,hz.zip,rfl⟩;refine Aa (CH (AY ty D4 (Be D4 ty F.entry_zip_next ?_ (F.args_zip_next_1 _))));refine vt hh hA hz XS Ko hx λh' e k ex=>?_;obtain⟨o,eo,hc⟩:=ex;exact Aa (De ⟨o,eo,hc⟩ isSubtype_stop (Ag (q h' k)))
def t4(b1 b2:Bool)(a1 a2:db)(xs ys:Array ci):Meets (v4.«zip.__new__» {pos:=[.type "zip",.ref a1,.ref a2]}) (λ_ R s=>iW b1 s.heap a1 xs/\iW b2 s.heap a2 ys/\
  ∀h':pc,ka b1 b2 h' (s.heap.objs.size+4) (s.heap.objs.size+2) (s.heap.objs.size+3) s.heap.objs.size (s.heap.objs.size+1) a1 a2 .none 0 0->(∀b o,s.heap.get? b=am o->h'.get? b=am o)->R (.ok (.ret (.ref (s.heap.objs.size+4)))) {s with heap:=h'}):=
 .of_wp λprog w A R s h=>by
  obtain⟨h1,h2,q⟩:=h;refine Aa ?_;refine Aa (Bx rfl ?_);refine Aa (Bx sub_zip ?_);refine Ag ?_;refine Aa ?_;refine Aa ?_;rw[Cy];refine Aa ?_;refine Aa (Bh (wV h1 (Ag ?_)));have k1:∀b o,s.heap.get? b=am o->(s.heap.push {cls:=.type (N3 b1),data:=.fields #[.ref a1,.int 0 0]}).get? b=am o:=λb o e=>Ai _ e;have g1:(s.heap.push {cls:=.type (N3 b1),data:=.fields #[.ref a1,.int 0 0]}).get? s.heap.objs.size=am {cls:=.type (N3 b1),data:=.fields #[.ref a1,.int 0 0]}:=An _ rfl;have z1:(s.heap.push {cls:=.type (N3 b1),data:=.fields #[.ref a1,.int 0 0]}).objs.size=s.heap.objs.size+1:=Bv ..;generalize s.heap.push {cls:=.type (N3 b1),data:=.fields #[.ref a1,.int 0 0]}=Gz at k1 g1 z1 ⊢;show ga _ _ (forIn [AV a2] _ _) _ _ _;rw[Cy];refine Aa ?_;refine Aa (Bh (wV (h2.move λo e=>k1 _ _ e) (Ag ?_)));show ga _ _ (forIn [] _ _) _ _ _;refine Ag (Ag ?_);have k2:∀b o,Gz.get? b=am o->(Gz.push {cls:=.type (N3 b2),data:=.fields #[.ref a2,.int 0 0]}).get? b=am o:=λb o e=>Ai _ e;have g2:(Gz.push {cls:=.type (N3 b2),data:=.fields #[.ref a2,.int 0 0]}).get? Gz.objs.size=am {cls:=.type (N3 b2),data:=.fields #[.ref a2,.int 0 0]}:=An _ rfl;have z2:(Gz.push {cls:=.type (N3 b2),data:=.fields #[.ref a2,.int 0 0]}).objs.size=Gz.objs.size+1:=Bv ..;show ga _ _ (newTuple [.ref s.heap.objs.size,.ref Gz.objs.size] >>= λr=>_) _ _ {s with heap:=Gz.push {cls:=.type (N3 b2),data:=.fields #[.ref a2,.int 0 0]}};generalize Gz.push {cls:=.type (N3 b2),data:=.fields #[.ref a2,.int 0 0]}=Gy at k2 g2 z2 ⊢;refine Aa (CM ?_ (by show 2<=sizeLine;decide));have k3:∀b o,Gy.get? b=am o->(Gy.push {cls:=.type "tuple",data:=.seq [AV s.heap.objs.size,AV Gz.objs.size].toArray}).get? b=am o:=λb o e=>Ai _ e;have g3:(Gy.push {cls:=.type "tuple",data:=.seq [AV s.heap.objs.size,AV Gz.objs.size].toArray}).get? Gy.objs.size=am {cls:=.type "tuple",data:=.seq #[.ref s.heap.objs.size,.ref Gz.objs.size]}:=An _ rfl;have z3:(Gy.push {cls:=.type "tuple",data:=.seq [AV s.heap.objs.size,AV Gz.objs.size].toArray}).objs.size=Gy.objs.size+1:=Bv ..;generalize Gy.push {cls:=.type "tuple",data:=.seq [AV s.heap.objs.size,AV Gz.objs.size].toArray}=Oa at k3 g3 z3 ⊢;refine Aa (CM ?_ (by show 2<=sizeLine;decide));have k4:∀b o,Oa.get? b=am o->(Oa.push {cls:=.type "tuple",data:=.seq [A7,A7].toArray}).get? b=am o:=λb o e=>Ai _ e;have g4:(Oa.push {cls:=.type "tuple",data:=.seq [A7,A7].toArray}).get? Oa.objs.size=am {cls:=.type "tuple",data:=.seq #[.none,.none]}:=An _ rfl;have z4:(Oa.push {cls:=.type "tuple",data:=.seq [A7,A7].toArray}).objs.size=Oa.objs.size+1:=Bv ..;show ga _ _ (newObj (.type "zip") (.fields #[.none,.bool false,.bool false,.ref Gy.objs.size,.ref Oa.objs.size]) >>= λr=>_) _ _ {s with heap:=Oa.push {cls:=.type "tuple",data:=.seq [A7,A7].toArray}};generalize Oa.push {cls:=.type "tuple",data:=.seq [A7,A7].toArray}=hp4 at k4 g4 z4 ⊢;refine Aa (Bf ?_ (by simp[sizeOk];decide));have k5:∀b o,hp4.get? b=am o->(hp4.push {cls:=.type "zip",data:=.fields #[.none,.bool false,.bool false,.ref Gy.objs.size,.ref Oa.objs.size]}).get? b=am o:=λb o e=>Ai _ e;have g5:(hp4.push {cls:=.type "zip",data:=.fields #[.none,.bool false,.bool false,.ref Gy.objs.size,.ref Oa.objs.size]}).get? hp4.objs.size=am {cls:=.type "zip",data:=.fields #[.none,.bool false,.bool false,.ref Gy.objs.size,.ref Oa.objs.size]}:=An _ rfl;have e1:=z1;have e2:Gy.objs.size=s.heap.objs.size+2:=by rw[z2,e1]
  have e3:Oa.objs.size=s.heap.objs.size+3:=by rw[z3,e2]
  have e4:hp4.objs.size=s.heap.objs.size+4:=by rw[z4,e3]
  refine Ag ⟨.ref hp4.objs.size,rfl,?_⟩;rw[e2,e3]at g5 k5 ⊢;rw[e4]at g5 ⊢;rw[e3]at g4;rw[e1,e2]at g3;rw[e1]at g2;refine q _ ⟨g5,k5 _ _ (k4 _ _ g3),⟨_,_,k5 _ _ g4⟩,L1 (k5 _ _ (k4 _ _ (k3 _ _ (k2 _ _ g1)))),L1 (k5 _ _ (k4 _ _ (k3 _ _ g2)))⟩ λb o e=>k5 _ _ (k4 _ _ (k3 _ _ (k2 _ _ (k1 _ _ e))))
def OL{s:cr}{b2:Bool}(h1:iW b1 s.heap a1 xs)(h2:iW b2 s.heap a2 ys)(q:∀h':pc,ka b1 b2 h' (s.heap.objs.size+4) (s.heap.objs.size+2) (s.heap.objs.size+3) s.heap.objs.size (s.heap.objs.size+1) a1 a2 .none 0 0->(∀b o,s.heap.get? b=am o->h'.get? b=am o)->Q (.ref (s.heap.objs.size+4)) {s with heap:=h'}):ga (gl prog w) A (call (.type "zip") [.ref a1,.ref a2]) Q E s:=
 callType_new F.called_zip ⋯ (F.typeCall_zip_2 _ _) (F.newCall_zip_2 _ _) (λo=>F.args_object_init_3 o _ _) F.entry_zip_new (t4 b1 b2 a1 a2 xs ys) ⟨h1,h2,λh' z k=>⟨⟨_,z.zip,rfl⟩,q h' z k⟩⟩
def Ph(b:Bool)(K:Ab)(H:Hp)(a:db)(xs:O V):Prop:=match b with
 |true=>b9 K H a xs
 |false=>dU K H a xs
def Inv.sqx{s:cr}{xs:O V}(I:Inv X U σ H s)(h:Ph b X.K H a xs):∃aq:O ci,Vals xs aq/\iW b s.heap a aq.toArray/\xs.length<=sizeLine:=by
 cases b with
 |true=>obtain⟨aq,r,p,z⟩:=I.list (h);exact⟨aq,r,p.isList,z⟩
 |false=>obtain⟨aq,r,p,z⟩:=I.tuple (h);exact⟨aq,r,p,z⟩
def Inv.L0{s:cr}{xs ys:O V}(I:Inv X U σ H s)(h:Ph b X.K H a xs)(h':Ph b X.K H a ys):xs=ys:=by
 cases b with
 |true=>
  obtain⟨aq,k,⟨o,n,h1,h2,h3,h4⟩,_⟩:=I.list (h);obtain⟨eW,k',⟨o',n',gw,vq,R1,é⟩,_⟩:=I.list (h');rw[h1]at gw;cases gw;rw[h4]at é;have:aq=eW:=by injection é with a b;simpa using a
  subst this;exact Vals.inj k k'
 |false=>exact I.lM h h'
def afk(b1 b2:Bool)(K:Ab)(a1 a2:db):It where
 go:=λi H=>∃xs ys x y,Ph b1 K H a1 xs/\Ph b2 K H a2 ys/\xs[i]?=am x/\ys[i]?=am y
 TR:=λi H v H'=>∃p x y,v=.ref p/\H p=ce/\H'=upd H p (.tup [x,y])/\(∀xs,Ph b1 K H a1 xs->xs[i]?=am x)/\∀ys,Ph b2 K H a2 ys->ys[i]?=am y
 stop:=λi H=>∃xs ys,Ph b1 K H a1 xs/\Ph b2 K H a2 ys/\(xs.length<=i\/ys.length<=i)
theorem Nb{K:Ab}{b2:Bool}{kk:Nat}{TI TO:db}(hA:ZipApart z TI TO i1 i2 a1 a2):Turn P w K (.Tuple Í kk pos) (afk b1 b2 K a1 a2) [z,TI,TO,i1,i2] z (λi h=>ka b1 b2 h z TI TO i1 i2 a1 a2 .none i i) where
 mem:=by simp
 obj:=λi h st b hb=>by
  simp at hb;rcases hb with rfl|rfl|rfl|rfl|rfl
  .exact⟨_,st.zip,λv z=>by cases z⟩
  .exact⟨_,st.ti,λv z=>by cases z⟩
  .obtain⟨_,_,e⟩:=st.to;exact⟨_,e,λv z=>by cases z⟩
  .exact st.it1.obj
  .exact st.it2.obj
 keep:=λi h h' st k=>⟨k z (by simp) _ st.zip,k TI (by simp) _ st.ti,let ⟨a,b,e⟩:=st.to;⟨a,b,k TO (by simp) _ e⟩,st.it1.move λo e=>k i1 (by simp) _ e,st.it2.move λo e=>k i2 (by simp) _ e⟩
 item:=by
  intro X hP hw hK hc i U s σ H E I hf st hg;subst hP hw hK;obtain⟨xs,ys,x,y,hx,hy,gx,gy⟩:=hg;obtain⟨aq,rx,tx,_⟩:=I.sqx hx;obtain⟨du,ry,ty,_⟩:=I.sqx hy;obtain⟨u,gu,ru⟩:=kK rx gx;obtain⟨v,gv,rv⟩:=kK ry gy;refine pY hA st tx ty (by simpa using gu) (by simpa using gv) λh' zt np k=>?_;refine⟨_,rfl,?_⟩;refine Aa (wpAny_load zt.zip ?_);show ga _ _ (if ((["enumerate","zip","dict_itemiterator","dict_reverseitemiterator","odict_iterator","itertools.zip_longest","itertools.pairwise"].contains "zip"&&(am (xL s.heap.objs.size)==am (xL s.heap.objs.size)))=true) then (do rule "for.unpacks-the-owned-tuple";setField (.ref z) 0 .none) else pure ()) _ _ _;rw[if_pos (by rw[beq_self_eq_true];decide)];refine Aa (CV ?_);refine AW zt.zip (show 0 < 5 by decide) λh2 z2 b2=>?_;have lt:∀b∈[z,TI,TO,i1,i2],b < s.heap.objs.size:=λb hb=>by
   simp only[AB,CO,or_false]at hb;rcases hb with rfl|rfl|rfl|rfl|rfl
   .exact Aq st.zip
   .exact Aq st.ti
   .obtain⟨_,_,e⟩:=st.to;exact Aq e
   .obtain⟨o,e,_⟩:=st.it1.obj;exact Aq e
   .obtain⟨o,e,_⟩:=st.it2.obj;exact Aq e
  have ß:∀b o,b∉[z,TI,TO,i1,i2]->s.heap.get? b=am o->h2.get? b=am o:=λb o hb e=>by
   have RP:b≠z:=λq=>hb (by simp[q]);rw[b2.2 b RP];exact k b o RP (λq=>hb (by simp[q])) (λq=>hb (by simp[q])) (λq=>hb (by simp[q])) e
  refine⟨.ref s.heap.objs.size,upd H s.heap.objs.size (.tup [x,y]),I.n6 hf ß (Al _) ⟨by show 2<=sizeLine;decide,[u,v],.cons ru (.cons rv .nil),⟨_,((b2.2 _ (λe=>AI _ (by have:=lt z (by simp);rw[<- e]at this;exact this))).trans np),rfl,_,rfl⟩,_,((b2.2 _ (λe=>AI _ (by have:=lt z (by simp);rw[<- e]at this;exact this))).trans np),rfl⟩,rfl,⟨_,x,y,rfl,(I.bG.fresh (Al s.heap.objs.size)),rfl,λxs' h'=>?_,λys' h'=>?_⟩,⟨z2,(b2.2 _ hA.TIz).trans zt.ti,let ⟨p,q,e⟩:=zt.to;⟨p,q,(b2.2 _ hA.TOz).trans e⟩,zt.it1.move λo e=>(b2.2 _ hA.i1z).trans e,zt.it2.move λo e=>(b2.2 _ hA.i2z).trans e⟩,λb hb=>?_⟩
  .rw[I.L0 h' hx];exact gx
  .rw[I.L0 h' hy];exact gy
  .rw[ak (AH (lt b hb))];exact(hf b hb).1
 done:=by
  intro X hP hw hK hc i U s σ H E I hf st hg;subst hP hw hK;obtain⟨xs,ys,hx,hy,hl⟩:=hg;obtain⟨aq,rx,tx,_⟩:=I.sqx hx;obtain⟨du,ry,ty,_⟩:=I.sqx hy;have el:=rx.length;have İ:=ry.length;refine rA (I.ok.hd hc) hA st tx ty ?_ λh' k=>⟨rfl,I.rZ (t':=s.toks) hf λb o hb e=>k b o (λz=>hb (by simp[z])) (λz=>hb (by simp[z])) (λz=>hb (by simp[z])) (λz=>hb (by simp[z])) e⟩;rcases hl with hl|hl
  .exact .inl (by simp;lia)
  .exact .inr (by simp;lia)
 self:=λA i s Q E st h=>wpAny_pyIter_zip st.zip h
def ad4(K:Ab)(t1 t2:TE):TI:=λσ H R=>t1 σ H λx H1=>t2 σ H1 λy H2=>∃b1 b2 a b,x=.ref a/\y=.ref b/\(∃xs,Ph b1 K H2 a xs)/\(∃ys,Ph b2 K H2 b ys)/\R (afk b1 b2 K a b) H2
def US(K:Ab)(hK:X.K=K){t2:TE}{kk:Nat}{p2:Pos}(hg:Gl X "zip")(hm:X.mg "zip"=ce)(h1:PE X e1 t1)(h2:PE X e2 t2)(pN:‹gt [e1,e2] X.env=(false,o0 e1 X.env)::gt [e2] X.env›)(vn:‹hV X e2 []›)(eB:‹(ul p2 (gt [e2] X.env)).any (·.1)=false›):PI X (.Tuple Í kk tp) (.Call (.Name "zip" p1) [e1,e2] [] p2) (ad4 K t1 t2):=by
 subst hK;intro U s σ H R I h;refine BJ (gQ I hg hm boot_zip ?_ ⋯ ⋯);refine Bs ?_ pN eB;rw[pN,vn];refine B7 (cf (h1 U s σ H _ I h) λu1 s1 ⟨x,H1,I1,r1,q1⟩=>?_);refine B7 (cf (h2 U s1 σ H1 _ I1 q1) λu2 s2 ⟨y,H2,I2,r2,b1,b2,a,b,ex,ey,⟨xs,hx⟩,⟨ys,hy⟩,q⟩=>CA ?_);subst ex;subst ey;cases r1;cases r2;obtain⟨aq,rx,tx,_⟩:=I2.sqx hx;obtain⟨du,ry,ty,_⟩:=I2.sqx hy;refine OL tx ty λh' zt k=>?_;refine wpAny_pyIter_zip zt.zip ?_;have dd:∀i j:Nat,i≠j->s2.heap.objs.size+i≠s2.heap.objs.size+j:=λi j n e=>n (Nat.add_left_cancel e);have na:∀i:Nat,a≠s2.heap.objs.size+i:=λi=>AH (AG tx.lt (Bk _ _));have nb:∀i:Nat,b≠s2.heap.objs.size+i:=λi=>AH (AG ty.lt (Bk _ _));have hA:ZipApart (s2.heap.objs.size+4) (s2.heap.objs.size+2) (s2.heap.objs.size+3) s2.heap.objs.size (s2.heap.objs.size+1) a b:=
  ⟨dd 2 4 ⋯,dd 3 4 ⋯,dd 0 4 ⋯,dd 1 4 ⋯,dd 2 3 ⋯,dd 2 0 ⋯,dd 2 1 ⋯,dd 3 0 ⋯,dd 3 1 ⋯,dd 0 1 ⋯,na 4,na 3,na 0,na 1,nb 4,nb 3,nb 0,nb 1⟩
 refine⟨_,_,_,_,H2,rfl,I2.kept k,Nb hA,zt,λc hc=>?_,q⟩;have Ñ:s2.heap.objs.size<=c:=by
  simp at hc;rcases hc with rfl|rfl|rfl|rfl|rfl
  .exact Bk _ _
  .exact Bk _ _
  .exact Bk _ _
  .exact Al _
  .exact Bk _ _
 exact I2.zm Ñ (I2.bG.fresh Ñ)
def ac7(K:Ab):V->Option Int->Option Int->Hp->VK->Prop:=λx lo hi H Q=>∃a xs,x=.ref a/\dU K H a xs/\
 ((HT.dD xs.length 0 lo=0/\HT.dD xs.length xs.length hi=xs.length)->Q x H)/\(¬(HT.dD xs.length 0 lo=0/\HT.dD xs.length xs.length hi=xs.length)->jG H (.tup (IC xs lo hi)) Q)
def Up(K:Ab)(hK:X.K=K):WV X (ac7 K):=by
 subst hK;intro U s σ H x v vl vu lo hi sl Q I rx hs pl pu h;obtain⟨a,xs,rfl,hT,qw,qn⟩:=h;by_cases c:HT.dD xs.length 0 lo=0/\HT.dD xs.length xs.length hi=xs.length
 .cases rx;obtain⟨aq,r,ht,hz⟩:=I.tuple hT;have Á:aq.toArray.size=xs.length:=by rw[Am];exact r.length.symm
  refine⟨"tuple",_,Bt.lookup,ht.typeIs,?_⟩;obtain⟨os,ä,Ī,Đ⟩:=id hs;unfold P3
  try with_reducible refine Bh ?_
  first|refine Aa (Ag ?_)|skip
  refine Aa (wpAny_sequenceKey ht.typeIs ⋯ ?_);refine Aa (AY ht.typeIs Bt
   (Be Bt ht.typeIs entry_tuple_getitem ?_ (args_tuple_getitem _ _)))
  show ga _ _ (Builtin.Tuple.tupleItemsOf (.ref a) >>= _) _ _ s;refine Aa (tupleItemsOf_ ht ?_);refine Aa (Dc (⟨os,ä,Ī⟩) ?_);refine Aa (HT.i7 hs pl pu ?_);show ga _ _ (if (((HT.dD aq.toArray.size 0 lo):Int)==0&&1==1&&(HT.dD aq.toArray.size aq.toArray.size hi-HT.dD aq.toArray.size 0 lo)==aq.toArray.size)=true then _ else _) _ _ s;rw[if_pos (by rw[Á,c.1,c.2];simp)];refine Aa ?_
  first
   |refine Aa (Dc ht.typeIs (Ag ?_))
   |refine Dc ht.typeIs (Ag ?_)
  first
   |rw[if_pos ⋯]
   |rw[if_pos rfl]
  exact Aa (CV (Ag ⟨_,rfl,Ag ⟨.ref a,H,I,rfl,(qw c)⟩⟩))
 .exact Y1 U s σ H _ v vl vu lo hi sl Q I rx hs pl pu ⟨a,xs,rfl,hT,c,λp hp=>(qn c).at p hp⟩
def adk(K:Ab):R2:=λx y H Q=>∃a b xs ys,x=.ref a/\y=.ref b/\dU K H a xs/\dU K H b ys/\xs.length+ys.length<=sizeLine/\
 (xs=[]->Q (.ref b) H)/\(xs≠[]->ys=[]->Q (.ref a) H)/\(xs≠[]->ys≠[]->jG H (.tup (xs++ys)) Q)
def U9(K:Ab)(hK:X.K=K):iX X (t0 .Add) (adk K):=by
 subst hK;intro U s σ H x y v u Q I rx ry h;obtain⟨a,b,xs,ys,rfl,rfl,ha,hb,hz,q0,q1,q2⟩:=h;by_cases c:xs=[]
 .cases rx;cases ry;obtain⟨aq,r1,p1,_⟩:=I.tuple ha;obtain⟨du,r2,p2,_⟩:=I.tuple hb;obtain⟨⟨cls,dd,data,sl⟩,ho,hc,n,hd⟩:=id p1;obtain⟨⟨Š,Wx,data2,Tu⟩,Oc,X4,n2,Î⟩:=id p2;subst hc hd X4 Î;exact concat_meets ⟨_,ho,rfl⟩ ⟨_,Oc,rfl⟩ noFill_tuple_add seq_tuple_add DE Dy (Dp _ _)
   (tuple_addW0 a b aq.toArray du.toArray n n2 dd Wx sl Tu (by rw[r1.jF.mpr c];rfl)) ⟨ho,Oc,.ref b,H,I,rfl,q0 c⟩
 .exact Mh U s σ H _ _ v u Q I rx ry ⟨a,b,xs,ys,rfl,rfl,ha,hb,c,hz,q1 c,λn p hp=>(q2 c n).at p hp⟩
end L2
variable{b:BC}
namespace FL
section
variable[cx]
variable{K:Ab}
section
variable{a c:mo}{p2:Pos}{w:W PV}{wm:W (O PV)}
def addW:PV->PV->W PV
 |.int i,.int j=>.ret (.int (i+j))
 |.str a,.str b=>.eK (a.length+b.length<=sizeLine) (.ret (.str (a++b)))
 |.tup a,.tup b=>.eK (a.length+b.length<=sizeLine) (.ret (.tup (a++b)))
 |_,_=>.fail
def bX(hK:X.K=K)(ha:EF X K fs a wa f1)(hb:EF X K f1 b wb f2):EF X K fs (.BinOp a .Add b pos) (.bind wa λx=>.bind wb λy=>addW x y) f2:=
 ⟨PE.imp (dC ((lQ K hK).or (U9 K hK)) ha.p hb.p) λσ H Q ⟨sr,q⟩=>⟨sr,wa.mono (λx q1 u1 H1 g1 s1 v1=>⟨s1,wb.mono (λy q2 u2 H2 g2 s2 v2=>by
  have ù:=g2.vr s1 v1;cases ù with
  |int i=>
   cases v2 with
   |int j=>exact .inl ⟨_,rfl,q2 _ H2 (g1.trans g2) s2 (.int _)⟩
   |_=>exact q2.elim
  |str i=>
   cases v2 with
   |str j=>exact .inl ⟨_,rfl,q2.1,q2.2 _ H2 (g1.trans g2) s2 (.str _)⟩
   |_=>exact q2.elim
  | @tup p vs l e r=>
   cases v2 with
   | @tup p' vs' l' e' r'=>
    refine .inr ⟨p,p',vs,vs',rfl,rfl,dU.of e,dU.of e',by rw[r.length,r'.length];exact q2.1,λz=>?_,λ_ z=>?_,λ_ _ q H3 s3 h3 n3=>?_⟩
    .have z':=(PL.aF.jF r).mp z;subst z';exact q2.2 _ H2 (g1.trans g2) s2 (.tup e' r')
    .have z':=(PL.aF.jF r').mp z;subst z';have q2:=q2.2;rw[C0]at q2;exact q2 _ H2 (g1.trans g2) s2 (.tup e r)
    .exact q2.2 _ H3 ((g1.trans g2).trans (cE.same s3)) (s2.same s3) (.tup h3 (aF.tk s3.eL (r.append r')))
   |_=>exact q2.elim
  |_=>exact q2.elim) q1⟩) q⟩⟩
theorem nX:∀(l m:O PV),(pR l m).length=min l.length m.length
 |[],m=>by rw[pR];simp;intros;simp_all
 |x::l,[]=>by rw[pR];simp;intros;simp_all
 |x::l,y::m=>by rw[pR,Au,nX l m];simp only[Au];lia
def GC(l m:O PV):W (O PV):=.eK (l.length<=sizeLine) (.ret (pR l m))
def Xk{l:O PV}(h:SqI K H u l):∃(b:Bool) (a:db) (vs:O V),u=.ref a/\aF K [] H vs l/\∀H',bz K H H'->Ph b K H' a vs:=by
 obtain⟨a,vs,e,h|h,r⟩:=h
 .exact⟨true,a,vs,e,r,λH' t=>(t.f _ _ h).sq⟩
 .exact⟨false,a,vs,e,r,λH' t=>dU.of (t.t _ _ h)⟩
theorem Kj(hK:X.K=K){kk:Nat}(hg:Gl X "zip")(hm:X.mg "zip"=ce)(ha:IF X K fs a wl)(hb:IF X K fs b wm)(pN:‹gt [a,b] X.env=(false,o0 a X.env)::gt [b] X.env›)(vn:‹hV X b []›)(eB:‹(ul p2 (gt [b] X.env)).any (·.1)=false›):nW X K fs (.Tuple Í kk tp) (.Call (.Name "zip" p1) [a,b] [] p2) (.bind wl λl=>.bind wm λm=>GC l m):=
 ⟨PI.imp (US K hK hg hm ha.p hb.p pN vn eB) λσ H R ⟨sr,q⟩=>⟨sr,wl.mono (λl q1 u1 H1 g1 s1 v1=>⟨s1,wm.mono (λm q2 u2 H2 g2 s2 v2=>by
  obtain⟨b1,a1,vs,rfl,r1,x1⟩:=Xk (v1.tk (g2.di s1));obtain⟨b2,a2,ws,rfl,r2,x2⟩:=Xk v2;have tr:bz K H2 H2:=bz.refl H2;refine⟨b1,b2,a1,a2,rfl,rfl,⟨vs,x1 H2 tr⟩,⟨ws,x2 H2 tr⟩,q2.2 _ H2 (g1.trans g2) s2 ⟨by rw[nX];have:=q2.1;lia,λH' t=>⟨λi pp hp=>?_,vs,ws,x1 H' t,x2 H' t,?_⟩⟩⟩
  .obtain⟨x,y,hx,hy,rfl⟩:=sW hp;obtain⟨v,h3,h4⟩:=(aF.tk t r1).get hx;obtain⟨v',R1,é⟩:=(aF.tk t r2).get hy;refine⟨⟨vs,ws,v,v',x1 H' t,x2 H' t,h3,R1⟩,λz H3 yl=>?_⟩;obtain⟨p,x',y',rfl,hn,rfl,e1,e2⟩:=yl;have e1:=e1 vs (x1 H' t);have e2:=e2 ws (x2 H' t);rw[h3]at e1;rw[R1]at e2;cases e1;cases e2;have sm:=i8 hn (.tup [v,v']);exact⟨sm,.tup aH (.cons (VR.tk sm.eL h4) (.cons (VR.tk sm.eL é) .nil))⟩
  .rw[nX,r1.length,r2.length];lia) q1⟩) q⟩⟩
variable{el eh:Option mo}{st:mo}{lo ws:W (Option Int)}
def Ur(l:O PV)(i j k:Option Int):W (O PV):=.eK (k≠am 0) (.ret (kU l i j k))
def adQ(hK:X.K=K)(he:Ji X K fs e wl)(hl:OF X K fs el lo)(hh:OF X K fs eh hi)(hs:OF X K fs (am st) ws):LF X K fs (.Subscript e (.Slice el eh (am st) p2) pos) (.bind wl λl=>.bind lo λi=>.bind hi λj=>.bind ws λk=>Ur l i j k):=
 ⟨PE.imp (NF K hK he.p hl.p hh.p hs.p) λσ H Q ⟨sr,q⟩=>⟨sr,wl.mono (λl q1 u1 H1 g1 s1 _ v1=>⟨s1,lo.mono (λi q2 H2 g2 s2=>⟨s2,hi.mono (λj q3 H3 g3 s3=>⟨s3,ws.mono (λk q4 H4 g4 s4=>by
 obtain⟨a,vs,rfl,h1,r1⟩:=v1 _ H4 ((g2.trans g3).trans g4) s4;exact⟨a,vs,rfl,h1,q4.1,w4 (((g1.trans g2).trans g3).trans g4) s4 (r1.pick i j k) q4.2⟩) q3⟩) q2⟩) q1⟩) q⟩⟩
def vF(x:PV)(i j:Option Int):W PV:=match x with
 |.tup l=>.ret (.tup (eJ l i j))
 |_=>.fail
def OH{l:O PV}{i j:Option Int}(h:HT.dD l.length 0 i=0/\HT.dD l.length l.length j=l.length):eJ l i j=l:=by
 unfold eJ;rw[h.1,h.2];simp
def Iu{f3:aR}(hK:X.K=K)(he:EF X K fs e w f1)(hl:OF X K f1 el lo f2)(hh:OF X K f2 eh hi f3):EF X K fs (.Subscript e (.Slice el eh ce p2) pos) (.bind w λx=>.bind lo λi=>.bind hi λj=>vF x i j) f3:=⟨PE.imp (He (Up K hK) he.p hl.p hh.p) λσ H Q ⟨sr,q⟩=>⟨sr,w.mono (λx q1 u1 H1 g1 s1 v1=>⟨s1,lo.mono (λi q2 H2 g2 s2=>⟨s2,hi.mono (λj q3 H3 g3 s3=>by
 have ù:=g3.vr s2 (g2.vr s1 v1);have gg:=(g1.trans g2).trans g3;cases ù with
 | @tup p vs l e r=>
  refine⟨p,vs,rfl,dU.of e,λc=>?_,λc q H4 s4 h4 n4=>?_⟩
  .rw[r.length]at c;have q3:(ca (PV.tup (eJ l i j))).run _:=q3;rw[OH c]at q3;exact q3 _ H3 gg s3 (.tup e r)
  .exact q3 _ H4 (gg.trans (cE.same s4)) (s3.same s4) (.tup h4 (aF.tk s4.eL (r.cut i j)))
 |_=>exact q3.elim) q2⟩) q1⟩) q⟩⟩
end
end
end FL
namespace L2
def alf:O Int->Int
 |[]=>0
 |x::l=>l.foldl max x
def vJ:O Int->Int
 |[]=>0
 |x::l=>l.foldl min x
theorem zq(l:O Int)(x:Int):l.foldl min x<=x/\(∀y∈l,l.foldl min x<=y)/\(l.foldl min x=x\/l.foldl min x∈l):=by
 induction l generalizing x with
 |nil=>exact⟨Bu _,by simp,.inl rfl⟩
 |cons y l ih=>
  obtain⟨h1,h2,h3⟩:=ih (min x y);refine⟨by rw[Ds];lia,λz hz=>?_,?_⟩
  .rw[Ds];rcases AB.mp hz with rfl|hz
   .omega
   .exact h2 z hz
  .rw[Ds];rcases h3 with h3|h3
   .rw[h3];by_cases c:y<=x
    .right;rw[Int.min_eq_right c];exact .head _
    .left;lia
   .exact .inr (.tail _ h3)
def sH{l:O Int}{x:Int}(h:x∈l):vJ l<=x:=by
 cases l with
 |nil=>cases h
 |cons y l=>
  rcases AB.mp h with rfl|h
  .exact(zq l _).1
  .exact(zq l y).2.1 x h
def oD{l:O Int}(h:l≠[]):vJ l∈l:=by
 cases l with
 |nil=>exact absurd rfl h
 |cons y l=>
  rcases (zq l y).2.2 with e|e
  .show l.foldl min y∈_;rw[e];exact .head _
  .exact .tail _ e
def Qu(K:Ab)(C:O Int->Prop)(g:O Int->Int):O V->Hp->VK->Prop:=λxs H Q=>∃(p:db) (ns:O Int),xs=[.ref p]/\b9 K H p (ns.map V.int)/\C ns/\Q (.int (g ns)) H
section
variable{s:cr}
theorem Vq{xs:Array (Int×Tok)}(Kr:ns=xs.toList.map (·.1))(Ks:ns≠[]):numAt xs (argBest (λi j=>decide (numAt xs i<numAt xs j)) (xs.size-1))=vJ ns:=by
 have uA:0<xs.size:=by
  have h3:=Dl.mpr Ks;rw[Kr,Af,Dn]at h3;exact h3
 obtain⟨h1,h2⟩:=argBest_lt (numAt xs) (xs.size-1);apply Fv
 .have hm:=oD Ks;rw[Kr]at hm;obtain⟨j,hj,ej⟩:=mem_getD hm;rw[Af,Dn]at hj;rw[<- Kr]at ej;rw[<- ej,Kr,<- numAt_eq];exact h2 j ∅
 .refine sH ?_;rw[Kr,numAt_eq];exact getD_mem (by rw[Af,Dn];lia)
def wM{l:db}{vs:O ci}(hh:A.handled=ce)(hl:s.heap.IsList l vs.toArray)(hi:wS vs ns)(h:∀(h':pc) (t:Tok) tk,(∀b o,s.heap.get? b=am o->h'.get? b=am o)->Q (.int ns.sum t) {s with heap:=h',toks:=tk}):ga (gl prog w) A (call (.builtin "sum") [.ref l]) Q E s:=by
 obtain⟨xs,e⟩:=hi.allInts.items;have Kr:ns=xs.toList.map (·.1):=by rw[<- hi.numsOf,<- nums_intItems,<- e]
 rw[e]at hl;refine sum_intListG hh hl λh' tk t' hk=>?_;have:=h h' t' tk hk;rw[preSum_eq,BM (by simp),<- Kr];exact this
end
def OS{b:String}{C:O Int->Prop}{g:O Int->Int}(K:Ab)(hK:X.K=K)(hc:X.calm=true)(Ù:∀{s:cr}{l:db}{vs:O ci}{ns:O Int}{Q:ci->cr->Prop},X.A.handled=ce->s.heap.IsList l vs.toArray->wS vs ns->C ns->(∀(h':pc) (t:Tok) tk,(∀b o,s.heap.get? b=am o->h'.get? b=am o)->Q (.int (g ns) t) {s with heap:=h',toks:=tk})->ga (gl X.prog X.w) X.A (call (.builtin b) [.ref l]) Q X.xe s):cB X (.builtin b) (Qu K C g):=by
 subst hK;intro U s σ H xs us Q I r h;obtain⟨p,ns,rfl,hq,hC,q⟩:=h;obtain⟨u,rfl,rx⟩:=vals1 r;cases rx;obtain⟨aq,r',pl,hz⟩:=I.list hq;exact Ù (I.ok.hd hc) pl.isList (intsAre_of r') hC λh' t tk hk=>⟨.int _,H,I.kept hk,⟨t,rfl⟩,q⟩
end L2
variable{x:PL.PV}
namespace FL
section
variable[cx]
variable{K:Ab}
section
variable{s:cr}
open Classical in
noncomputable def Oq(K:Ab)(H:Hp)(x:PV)(w:ci):Bool:=decide (∃p v,RelV v w/\VR K [] H v p/\kG p x=true)
open Classical in
def Sq(hK:X.K=K)(I:Inv X U σ H s){x p:PV}{v:V}{w:ci}(r:RelV v w)(h:VR K [] H v p):Oq K H x w=kG p x:=by
 subst hK;cases e:kG p x with
 |true=>exact decide_eq_true ⟨p,v,r,h,e⟩
 |false=>
  refine decide_eq_false ?_;rintro⟨p',v',r',h',e'⟩;have:=Qn r r';subst this;rw[VR.Pf I h h',e']at e;cases e
theorem zx(hK:X.K=K)(I:Inv X U σ H s):∀{vs:O V}{aq:O ci}{l:O PV},Vals vs aq->aF K [] H vs l->aq.map (Oq K H x)=l.map λy=>kG y x
 |_,_,_,.nil,.nil=>rfl
 |_,_,_,.cons r t,.cons q z=>by rw[Av,Av,Sq hK I r q,zx hK I t z]
def VT(x:PV)(l:O PV):Prop:=PV.fw x=true/\fb l=true/\dR l<=150
theorem uP(hK:X.K=K)(I:Inv X U σ H s){v:V}{w:ci}(hx:VR K [] H v x)(rx:RelV v w)(dx:PV.fw x=true)(hu:A.units+150+1<tz):∀{vs:O V}{aq:O ci}{l:O PV},Vals vs aq->aF K [] H vs l->fb l=true->dR l<=150->∀u∈aq,DS A s u w (Oq K H x u)
 |_,_,_,.nil,.nil,_,_,u,hu=>by cases hu
 |_,_,_,.cons r t,.cons q z,d,dd,u,hm=>by
  rw[fb,AR]at d;rw[dR]at dd;rcases AB.mp hm with rfl|hm
  .rw[Sq hK I r q];exact(abl hK I 150 _ x A _ v _ w ∅ d.1 dx q hx r rx hu).eq
  .exact uP hK I hx rx dx hu t z d.2 ∅ u hm
end
def uC(x:PV)(l:O PV):Bool:=l.any λy=>kG y x
def Zp(K:Ab)(neg:Bool):R2:=λx y H Q=>∃p vs l xp,y=.ref p/\(b9 K H p vs\/dU K H p vs)/\aF K [] H vs l/\VR K [] H x xp/\VT xp l/\Q (.bl (if neg then !uC xp l else uC xp l)) H
section
theorem any_map'(f:α->Bool):∀l:List α,l.any f=(l.map f).any id
 |[]=>rfl
 |x::l=>by rw[Cm,Av,Cm,any_map' f l];rfl
theorem QY(K:Ab)(hK:X.K=K)(hu:X.A.units+200<tz):iX X (sn .In) (Zp K false):=by
 intro U s σ H x y v u Q I rx ry h;obtain⟨p,vs,l,xp,rfl,hq,hl,hx,ok,q⟩:=h;cases ry;have Č:X.A.in1.units+150+1<tz:=by show X.A.units+1+150+1<_;lia
 have fin:∀{aq:O ci},Vals vs aq->aq.toArray.any (Oq K H xp)=uC xp l:=λ{aq} r=>by
  rw[show aq.toArray.any (Oq K H xp)=aq.any (Oq K H xp) by simp,any_map',zx hK I r hl,<- any_map'];rfl
 rcases hq with hq|hq
 .obtain⟨aq,r,pl,hz⟩:=I.list (show b9 X.K H p vs by rw[hK];exact hq);refine SeqAt.in_listAt (Oq K H xp) pl.isList (λw hw=>uP hK I hx rx ok.1 Č r hl ok.2.1 ok.2.2 w (by simpa using hw)) ⟨.bl _,H,I,rfl,?_⟩;rw[fin r];exact q
 .obtain⟨aq,r,pl,hz⟩:=I.tuple (show dU X.K H p vs by rw[hK];exact hq);refine SeqAt.in_tupleAt (Oq K H xp) pl (λw hw=>uP hK I hx rx ok.1 Č r hl ok.2.1 ok.2.2 w (by simpa using hw)) ⟨.bl _,H,I,rfl,?_⟩;rw[fin r];exact q
theorem U8(K:Ab)(hK:X.K=K)(hu:X.A.units+200<tz):iX X (sn .NotIn) (Zp K true):=by
 intro U s σ H x y v u Q I rx ry h;obtain⟨p,vs,l,xp,rfl,hq,hl,hx,ok,q⟩:=h;cases ry;have Č:X.A.in1.units+150+1<tz:=by show X.A.units+1+150+1<_;lia
 have fin:∀{aq:O ci},Vals vs aq->aq.toArray.any (Oq K H xp)=uC xp l:=λ{aq} r=>by
  rw[show aq.toArray.any (Oq K H xp)=aq.any (Oq K H xp) by simp,any_map',zx hK I r hl,<- any_map'];rfl
 rcases hq with hq|hq
 .obtain⟨aq,r,pl,hz⟩:=I.list (show b9 X.K H p vs by rw[hK];exact hq);refine SeqAt.notIn_listAt (Oq K H xp) pl.isList (λw hw=>uP hK I hx rx ok.1 Č r hl ok.2.1 ok.2.2 w (by simpa using hw)) ⟨.bl _,H,I,rfl,?_⟩;rw[fin r];exact q
 .obtain⟨aq,r,pl,hz⟩:=I.tuple (show dU X.K H p vs by rw[hK];exact hq);refine SeqAt.notIn_tupleAt (Oq K H xp) pl (λw hw=>uP hK I hx rx ok.1 Č r hl ok.2.1 ok.2.2 w (by simpa using hw)) ⟨.bl _,H,I,rfl,?_⟩;rw[fin r];exact q
end
end
end FL
variable{Q:PL.PV->Prop}
namespace FL
section
variable[cx]
variable{K:Ab}
section
variable{a c:mo}
def rK(neg:Bool)(x:PV)(l:O PV):W Bool:=.eK (VT x l) (.ret (if neg then !uC x l else uC x l))
def Sg:∀σ H Q,fT K fs (.bind wa λx=>.bind wl λl=>rK neg x l) fs σ H Q->Xd (Zp K neg) (fE K fs wa) (fQ K fs wl) σ H λx H'=>∃k,x=.bl k/\Q k H':=λσ H Q ⟨sr,q⟩=>
 ⟨sr,wa.mono (λx q1 u1 H1 g1 s1 v1=>⟨s1,wl.mono (λl q2 u2 H2 g2 s2 v2=>by
  obtain⟨ad,vs,rfl,h,rs⟩:=v2.sq s2;exact⟨ad,vs,l,x,rfl,h,rs,g2.vr s1 v1,q2.1,_,rfl,q2.2 H2 (g1.trans g2) s2⟩) q1⟩) q⟩
def acD(hK:X.K=K)(hu:X.A.units+200<tz)(ha:EF X K fs a wa)(hb:QF X K fs b wl)(hk:‹sB .In b=false›):TF X K fs (.Compare a [.In] [b] pos) (.bind wa λx=>.bind wl λl=>rK false x l):=⟨PT.imp (ib (QY K hK hu) ha.p hb.p hk) (Sg)⟩
def Px(hK:X.K=K)(hu:X.A.units+200<tz)(ha:EF X K fs a wa)(hb:QF X K fs b wl)(hk:‹sB .NotIn b=false›):TF X K fs (.Compare a [.NotIn] [b] pos) (.bind wa λx=>.bind wl λl=>rK true x l):=⟨PT.imp (ib (U8 K hK hu) ha.p hb.p hk) (Sg)⟩
abbrev aat(neg:Bool)(wa:W PV)(wl:W (O PV)):W Bool:=.bind wa λx=>.bind wl λl=>rK neg x l
def fM(l:O PV):W PV:=.bind (qQ l) λns=>.ret (.int ns.sum)
def N7{C:O Int->Prop}{g:O Int->Int}{f:O PV->W PV}(hf:∀{l:O PV}{Q:PV->Prop},(f l).run Q->∃ns:O Int,l=ns.map PV.int/\C ns/\Q (.int (g ns))):∀σ H Q,fE K fs (.bind wl f) fs σ H Q->tCB (Qu K C g) (PF (fQL K fs wl) YT) σ H Q:=λσ H Q ⟨sr,q⟩=>⟨sr,wl.mono (λl q1 u1 H1 g1 s1 _ v1=>by
 obtain⟨ns,el,hC,q2⟩:=hf q1;obtain⟨a,vs,rfl,h1,r1⟩:=v1 _ H1 .refl s1;rw[el]at r1;have:=lX r1;subst this;exact⟨a,ns,rfl,h1,hC,q2 _ H1 g1 s1 (.int _)⟩) q⟩
def wN{l:O PV}(h:(fM l).run Q):∃ns:O Int,l=ns.map PV.int/\True/\Q (.int ns.sum):=let ⟨ns,e,q⟩:=lY h;⟨ns,e,trivial,q⟩
def uT(hK:X.K=K)(hc:X.calm=true)(hg:Gl X "sum")(hm:X.mg "sum"=ce)(ha:Ji X K fs e wl)(he:‹hV X e []›)(eB:‹mm X pos []›):EF X K fs (.Call (.Name "sum" p) [e] [] pos) (.bind wl fM):=⟨PE.imp (eQ (OS K hK hc λa b c _ q=>wM a b c q) hg hm (show pr "sum"=am (.builtin "sum") by rfl) (a6 ha.p bP he) ⋯ ⋯ he eB) (N7 wN)⟩
def sortI(ns:O Int):O Int:=ns.mergeSort (λa b=>decide (a<=b))
theorem P1(h1:ms.Perm ns)(h2:ms.Pairwise (·<=·)):ms=sortI ns:=by
 exact List.Perm.eq_of_pairwise (λa b _ _ h h'=>Fv h h') h2 ((EW (λa b c=>by simp;lia) (λa b=>by simp;lia) ns).imp (by simp)) (h1.trans (Dk ns _).symm)
def yg(l:O PV):W (O PV):=.bind (qQ l) λns=>.eK (ns.length<64) (.ret ((sortI ns).map PV.int))
def Vx(hK:X.K=K)(hg:Gl X "sorted")(hm:X.mg "sorted"=ce)(ha:Ji X K fs e wl)(he:‹hV X e []›)(eB:‹mm X pos []›):LF X K fs (.Call (.Name "sorted" p) [e] [] pos) (.bind wl yg):=⟨PE.imp (eQ (Lg K hK) hg hm boot_sorted (a6 ha.p bP he) ⋯ ⋯ he eB) λσ H Q ⟨sr,q⟩=>⟨sr,wl.mono (λl q1 u1 H1 g1 s1 _ v1=>by
 obtain⟨ns,el,hC,q2⟩:=lY q1;obtain⟨a,vs,rfl,h1,r1⟩:=v1 _ H1 .refl s1;rw[el]at r1;have:=lX r1;subst this;refine⟨a,ns,rfl,h1,hC,λms a2 a3=>?_⟩;rw[P1 a2 a3];exact w4 g1 s1 (zb _ _ _) q2) q⟩⟩
end
end
end FL
variable{vs:O (L2.Key×L2.V)}{au:O (L2.Key×PL.PV)}
namespace FL
section
variable[cx]
variable{K:Ab}
abbrev w2(f:PV->PV->W PV)(wa wb:W PV):W PV:=.bind wa λx=>.bind wb λy=>f x y
def aiL(au:O (Key×PV))(k:Key):Bool:=au.any λkv=>decide (kv.1=k)
def oX(au:O (Key×PV))(k:Key):Option PV:=(au.find? λkv=>decide (kv.1=k)).map (·.2)
def hX(K:Ab)(H:Hp)(vs:O (Key×V))(au:O (Key×PV)):Prop:=vs.map (·.1)=au.map (·.1)/\aF K [] H (vs.map (·.2)) (au.map (·.2))
section
def hX.cons_inv{p:Key×V}{q:Key×PV}(h:hX K H (p::vs) (q::au)):p.1=q.1/\VR K [] H p.2 q.2/\hX K H vs au:=by
 obtain⟨h1,h2⟩:=h;injection h1 with a b;cases h2 with
 |cons r t=>exact⟨a,r,b,t⟩
theorem hX.ind{C:O (Key×V)->O (Key×PV)->Prop}(h0:C [] [])(h1:∀p q vs au,p.1=q.1->VR K [] H p.2 q.2->hX K H vs au->C vs au->C (p::vs) (q::au)):∀{vs au},hX K H vs au->C vs au
 |[],[],_=>h0
 |[],_::_,h=>by simp[hX]at h
 |_::_,[],h=>by simp[hX]at h
 |p::vs,q::au,h=>let ⟨a,b,c⟩:=h.cons_inv;h1 p q vs au a b c (hX.ind h0 h1 c)
def hX.has(h:hX K H vs au)(k:Key):(iZ vs k).isSome=aiL au k:=by
 rw[<- GL];refine hX.ind (C:=λvs au=>(vs.any λkv=>decide (kv.1=k))=au.any λkv=>decide (kv.1=k)) rfl (λp q vs au e _ _ ih=>?_) h;rw[Cm,Cm,ih,e]
def hX.get(h:hX K H vs au)(k:Key)(g:oX au k=am v):∃u,iZ vs k=am u/\VR K [] H u v:=by
 refine hX.ind (C:=λvs au=>oX au k=am v->∃u,iZ vs k=am u/\VR K [] H u v) (λg=>by simp[oX]at g) (λp q vs au e r _ ih g=>?_) h g;by_cases c:p.1=k
 .rw[kL c];have c':=e▸c;have:oX (q::au) k=am q.2:=by simp[oX,c']
  rw[this]at g;cases g;exact⟨_,rfl,r⟩
 .rw[kM c];have:oX (q::au) k=oX au k:=by simp[oX,(e▸c)]
  exact ih (this▸g)
end
end
end FL
variable{au:O (O L2.Key×PL.PV)}
namespace FL
section
variable[cx]
variable{K:Ab}
def pK(K:Ab)(H:Hp)(vs:O (O Key×V))(au:O (O Key×PV)):Prop:=vs.map (·.1)=au.map (·.1)/\aF K [] H (vs.map (·.2)) (au.map (·.2))
def W2(K:Ab)(H:Hp)(ob:HO)(v:PV):Prop:=(∃vs au,ob=.dK vs/\v=dvK au/\hX K H vs au)\/∃vs au,ob=.dT vs/\v=SO au/\pK K H vs au
def fDv(K:Ab)(fs:aR)(w:W PV):TE:=λσ H Q=>aY K H σ fs/\w.run λv=>∀a ob H',cE σ fs H H'->aY K H' σ fs->H a=ce->H' a=am ob->W2 K H' ob v->Q (.ref a) H'
structure DVF(X:Cx)(K:Ab)(fs:aR)(e:mo)(w:W PV):Prop where p:PE X e (fDv K fs w)
section
variable{σ:L2.St}{fs:aR}{H:Hp}{a:db}{ob:HO}{v:PV}
def aY.acT(s:aY K H σ fs)(n:¬cy σ fs a)(e:H a=am ob)(n1:∀vs,ob≠.tup vs)(n2:∀o u,ob≠.cn o u)(n3:ob.ow=true)(o':HO):aY K (upd H a o') σ fs:=⟨s.len,λi t q=>by
 obtain⟨u,h1,h2⟩:=s.at' i t q;exact⟨u,h1,h2.mono (gG o' e n1 n2) (λx b o eb ow hb z _=>by subst eb;rw[ak (λy:b=a=>n ⟨i,t,x,q,ow,h1,y▸hb⟩)];exact z)⟩,s.nd,s.tb.L5 (λb o n z=>by rw[ak n];exact z) e (QW n3) n2⟩
def W2.cn{X:Cx}{U:O (db×Obj)}{s:cr}{σ':L2.St}(I:Inv X U σ' H s)(e:H a=am ob)(d:W2 K H ob v):∃u,Inv X U σ' (upd H a u) s/\VR K [] (upd H a u) (.ref a) v/\(∀vs,ob≠.tup vs)/\(∀o u,ob≠.cn o u)/\ob.ow=true:=by
 rcases d with⟨vs,au,rfl,rfl,d1,d2⟩|⟨vs,au,rfl,rfl,d1,d2⟩
 .obtain⟨o,I2⟩:=I.MC e;exact⟨_,I2,.dk aH (XJ d1) (aF.tk (gG _ e (by simp) (by simp)) d2),by simp,by simp,rfl⟩
 .obtain⟨o,I2⟩:=I.freeze e;exact⟨_,I2,.dt aH (XI d1) (aF.tk (gG _ e (by simp) (by simp)) d2),by simp,by simp,rfl⟩
end
section
variable{a c:mo}{w:W PV}
def aeY(h:DVF X K fs e w):EF X K fs e w:=⟨λU s σ H Q I ⟨sr,q⟩=>by
 refine cf (h.p U s σ H (λu H1=>∃a ob v,u=.ref a/\cE σ fs H H1/\aY K H1 σ fs/\H a=ce/\H1 a=am ob/\W2 K H1 ob v/\∀u H',cE σ fs H H'->aY K H' σ fs->VR K [] H' u v->Q u H') I ⟨sr,w.mono (λv q1 a ob H1 g1 s1 n e d=>⟨a,ob,v,rfl,g1,s1,n,e,d,q1⟩) q⟩) λu s1 ⟨v,H1,I1,r1,a,ob,v',e,g1,Uv,n,ea,d,q1⟩=>?_;subst e;obtain⟨o',I2,vr,n1,n2,n3⟩:=d.cn I1 ea;exact⟨.ref a,_,I2,r1,q1 _ _ (g1.side n (λφ z=>by rw[ea]at z;cases z;cases n3) _) (Uv.acT (λz=>sr.noOwn n z) ea n1 n2 n3 _) vr⟩⟩
def Mf(kv:O Key×PV):PV:=.tup [.tup (kv.1.map kP),kv.2]
theorem RF(H:Hp):∀k:O Key,aF K [] H (k.map kV) (k.map kP)
 |[]=>.nil
 |.inl i::k=>.cons (.int i) (RF H k)
 |.inr i::k=>.cons (.str i) (RF H k)
theorem Mt:∀{k:O Key}{vs:O V},aF K [] H vs (k.map kP)->vs=k.map kV
 |[],_,h=>by cases h;rfl
 |.inl i::k,_,h=>by
  cases h with
  |cons x t=>cases x;rw[Mt t];rfl
 |.inr i::k,_,h=>by
  cases h with
  |cons x t=>cases x;rw[Mt t];rfl
theorem Hg:∀{au:O (O Key×PV)}{vs:O V},aF K [] H vs (au.map Mf)->∃zs:O Pz,vs=zs.map (λz=>V.ref z.pa)/\(∀z∈zs,z.At H)/\zs.map (·.k)=au.map (·.1)/\aF K [] H (zs.map (·.v)) (au.map (·.2))
 |[],_,h=>by cases h;exact⟨[],rfl,by simp,rfl,.nil⟩
 |kv::au,_,h=>by
  cases h with
  |cons x t=>
  obtain⟨zs,z1,z2,z3,z4⟩:=Hg t;cases x with
  | @tup p ws _ e r=>
  cases r with
  |cons x1 t1=>
  cases t1 with
  |cons x2 t2=>
  cases t2;cases x1 with
  | @tup b us _ e1 r1=>
  have:=Mt r1;subst this;refine⟨⟨p,kv.1,b,_⟩::zs,by rw[Av,z1],λz hz=>?_,by rw[Av,Av,z3],.cons x2 z4⟩;rcases AB.mp hz with rfl|hz
  .exact⟨e,e1⟩
  .exact z2 z hz
def La(l:O PV):W PV:=⟨λQ=>∃au:O (O Key×PV),l=au.map Mf/\(au.map (·.1)).Nodup/\au.length<=1000/\Q (SO au),λf q=>q.imp λau h=>⟨h.1,h.2.1,h.2.2.1,f _ h.2.2.2⟩⟩
theorem WA(hK:X.K=K)(hc:X.calm=true)(hu:X.A.units+200 < tz)(hg:Gl X "dict")(hm:X.mg "dict"=ce)(ha:Ji X K fs e wl)(he:‹hV X e []›)(eB:‹mm X pos []›):DVF X K fs (.Call (.Name "dict" p) [e] [] pos) (.bind wl La):=⟨PE.imp (lO (Ll K hK hc ∅) hg hm boot_dict (a6 ha.p bP he) ⋯ ⋯ he eB) λσ H Q ⟨sr,q⟩=>⟨sr,wl.mono (λl q1 u H1 g1 s1 v0 v1=>by
  obtain⟨au,rfl,nd,hl,q1⟩:=q1;obtain⟨a,vs,rfl,e3,e4⟩:=v1 _ H1 .refl s1;obtain⟨zs,rfl,z2,z3,z4⟩:=Hg e4;have hzl:zs.length=au.length:=by have:=congrArg Ck z3;simpa using this
  refine⟨a,zs,rfl,e3,z2,by rw[z3];exact nd,by lia,λp H2 s2 h2 n2=>?_⟩;exact q1 _ _ H2 (g1.trans (cE.same s2)) (s1.same s2) (g1.there _ n2) h2 (.inr ⟨_,_,rfl,rfl,by rw[AQ,<- z3];rfl,by rw[AQ];exact aF.tk s2.eL z4⟩)) q⟩⟩
def OC(nd:(au.map (·.1)).Nodup)(hl:au.length<=1000)(q:Q (SO au)):(La (au.map Mf)).run Q:=⟨au,rfl,nd,hl,q⟩
def mC(au:O (O Key×PV))(k:O Key):Option PV:=(au.find? λkv=>decide (kv.1=k)).map (·.2)
theorem pK.get{k:O Key}:∀{vs:O (O Key×V)}{au:O (O Key×PV)},pK K H vs au->(mC au k=ce->iZ vs k=ce)/\∀{v},mC au k=am v->∃u,iZ vs k=am u/\VR K [] H u v
 |[],[],_=>⟨λ_=>rfl,λg=>by simp[mC]at g⟩
 |[],_::_,h=>by simp[pK]at h
 |_::_,[],h=>by simp[pK]at h
 |p::vs,q::au,h=>by
  obtain⟨h1,h2⟩:=h;rw[Av,Av]at h1 h2;injection h1 with e b;cases h2 with
  |cons r t=>
  by_cases c:p.1=k
  .rw[kL c];have c':=e▸c;have:mC (q::au) k=am q.2:=by simp[mC,c']
   rw[this];refine⟨λz=>(by cases z),λ{v} z=>?_⟩;cases z;exact⟨_,rfl,r⟩
  .rw[kM c];have:mC (q::au) k=mC au k:=by simp[mC,(e▸c)]
   rw[this];exact(pK.get ⟨b,t⟩)
def hX.get'{k:Key}:∀{vs:O (Key×V)}{au:O (Key×PV)},hX K H vs au->(oX au k=ce->iZ vs k=ce)/\∀{v},oX au k=am v->∃u,iZ vs k=am u/\VR K [] H u v:=λ{vs au} h=>⟨λz=>by
 have:=h.has k;cases e:iZ vs k with
 |none=>rfl
 |some u=>
  rw[e]at this;unfold oX at z;rw[Option.map_eq_none_iff,List.find?_eq_none]at z;obtain⟨x,hx,hx2⟩:=List.any_eq_true.mp this.symm;exact absurd hx2 (z x hx),λz=>h.get k z⟩
def XO(k:Key)(l:O PV):kP k≠.tup l:=by cases k<;>exact PV.noConfusion
def aak{a b:Key}(h:kP a=kP b):a=b:=by
 cases a<;>cases b<;>simp[kP]at h<;>rw[h]
theorem y8:∀{a b:O Key},a.map kP=b.map kP->a=b
 |[],[],_=>rfl
 |[],_::_,h=>by simp at h
 |_::_,[],h=>by simp at h
 |x::a,y::b,h=>by
  injection h with h1 h2;rw[aak h1,y8 h2]
inductive Jb:PV->PV->Option PV->Prop
 |k (au:List (Key×PV)) (k:Key):au≠[]->Jb (dvK au) (kP k) (oX au k)
 |t (au:List (List Key×PV)) (k:List Key):au≠[]->Jb (SO au) (.tup (k.map kP)) (mC au k)
def YF{au:O (Key×PV)}(h0:au≠[])(h:VR K [] H u (dvK au)):∃a o vs,u=.ref a/\H a=am (.cn o (.dK vs))/\hX K H vs au:=by
 have Æ:∀{vs:O (Key×V)}{au:O (Key×PV)},(au.map λkv=>kP kv.1)=(vs.map λkv=>kP kv.1)->vs.map (·.1)=au.map (·.1):=λ{vs au} e=>by
  have e:(au.map (·.1)).map kP=(vs.map (·.1)).map kP:=by rw[AQ,AQ];exact e
  exact(y8 e).symm
 cases h with
 | @dk a o vs _ _ e k r=>exact⟨a,o,vs,rfl,e,Æ k,r⟩
 | @dt a o vs _ _ e k r=>
  cases au with
  |nil=>exact absurd rfl h0
  |cons x l=>cases vs with
   |nil=>simp at k
   |cons y m=>simp at k;exact absurd k.1 (XO _ _)
def Pn(h0:au≠[])(h:VR K [] H u (SO au)):∃a o vs,u=.ref a/\H a=am (.cn o (.dT vs))/\pK K H vs au:=by
 have Æ:∀{vs:O (O Key×V)}{au:O (O Key×PV)},(au.map λkv=>PV.tup (kv.1.map kP))=(vs.map λkv=>PV.tup (kv.1.map kP))->vs.map (·.1)=au.map (·.1):=λ{vs au} e=>by
  induction au generalizing vs with
  |nil=>cases vs with
   |nil=>rfl
   |cons y m=>simp at e
  |cons x l ih=>cases vs with
   |nil=>simp at e
   |cons y m=>
    injection e with e1 e2;injection e1 with e1;rw[Av,Av,y8 e1,ih e2]
 cases h with
 | @dt a o vs _ _ e k r=>exact⟨a,o,vs,rfl,e,Æ k,r⟩
 | @dk a o vs _ _ e k r=>
  cases au with
  |nil=>exact absurd rfl h0
  |cons x l=>cases vs with
   |nil=>simp at k
   |cons y m=>simp at k;exact absurd k.1.symm (XO _ _)
def Jb.ok{z:V}{d y:PV}{r:Option PV}(h:Jb d y r)(hu:VR K [] H u d)(hz:VR K [] H z y):∃a o,u=.ref a/\IsD H a/\W3 H a z o/\(r=ce->o=ce)/\∀v,r=am v->∃w,o=am w/\VR K [] H w v:=by
 cases h with
 |k au k h0=>
  obtain⟨a,o,vs,rfl,e,d⟩:=YF h0 hu;have ez:z=kV k:=by
   cases k with
   |inl i=>cases hz;rfl
   |inr i=>cases hz;rfl
  subst ez;exact⟨a,iZ vs k,rfl,.inl ⟨vs,.inr ⟨o,e⟩⟩,.inl ⟨vs,k,.inr ⟨o,e⟩,rfl,rfl⟩,(hX.get' d).1,λv=>(hX.get' d).2⟩
 |t au k h0=>
  obtain⟨a,o,vs,rfl,e,d⟩:=Pn h0 hu;cases hz with
  | @tup b us _ e1 r1=>
  have:=Mt r1;subst this;exact⟨a,iZ vs k,rfl,.inr ⟨vs,.inr ⟨o,e⟩⟩,.inr ⟨vs,k,b,.inr ⟨o,e⟩,rfl,e1,rfl⟩,(pK.get d).1,λv=>(pK.get d).2⟩
def dgW(d y:PV):W PV:=⟨λQ=>∃v,Jb d y (am v)/\Q v,λf ⟨v,a,q⟩=>⟨v,a,f _ q⟩⟩
def dgB(a b:W PV):W PV:=.bind a λx=>.bind b λy=>dgW x y
theorem K3(hu:X.A.units+200<tz)(ha:EF X K fs a wa)(hb:EF X K fs b wb)(hs:abA b):EF X K fs (.Subscript a b pos) (dgB wa wb):=⟨PE.imp (U0 ∅ ha.p hb.p hs) λσ H Q ⟨sr,q⟩=>⟨sr,wa.mono (λx q1 u1 H1 g1 s1 v1=>⟨s1,wb.mono (λy q2 u2 H2 g2 s2 v2=>by
 obtain⟨v,g,q2⟩:=q2;obtain⟨a,o,rfl,_,g2',_,h⟩:=g.ok (g2.vr s1 v1) v2;obtain⟨w,rfl,vw⟩:=h v rfl;exact⟨a,w,rfl,g2',q2 _ H2 (g1.trans g2) s2 vw⟩) q1⟩) q⟩⟩
def zJ{au:O (Key×PV)}{k:Key}(h:oX au k=am v)(q:Q v):(dgW (dvK au) (kP k)).run Q:=⟨v,by rw[<- h];exact .k au k (λz=>by subst z;simp[oX]at h),q⟩
def MX{k:O Key}(h:mC au k=am v)(q:Q v):(dgW (SO au) (.tup (k.map kP))).run Q:=⟨v,by rw[<- h];exact .t au k (λz=>by subst z;simp[mC]at h),q⟩
def Rr(d:PV):W (O PV):=⟨λQ=>∃au:O (O Key×PV),d=SO au/\au≠[]/\au.length<=sizeLine/\Q (au.map λkv=>.tup (kv.1.map kP)),λf q=>q.imp λau h=>⟨h.1,h.2.1,h.2.2.1,f _ h.2.2.2⟩⟩
theorem VO(h:EF X K fs e w):nW X K fs tg e (.bind w Rr):=⟨PI.imp (QN h.p) λσ H R ⟨sr,q⟩=>⟨sr,w.mono (λx q1 u1 H1 g1 s1 v1=>by
 obtain⟨au,rfl,h0,hl,q1⟩:=q1;obtain⟨a,o,vs,rfl,e,d1,d2⟩:=Pn h0 v1;have len:vs.length=au.length:=by have:=congrArg Ck d1;simpa using this
 refine⟨a,o,vs,rfl,e,q1 _ H1 g1 s1 ⟨by simpa using hl,λH' t=>?_⟩⟩;have e':=t.z _ _ _ e;refine⟨λi p hp=>?_,vs,e',by simp[len]⟩;rw[Ah]at hp;cases z:au[i]? with
 |none=>rw[z]at hp;cases hp
 |some kv=>
  rw[z]at hp;have hp:=Option.some.inj hp;subst hp;have hi:=(Aj.mp z).1;refine⟨⟨vs,e',by lia⟩,λy H2 yy=>?_⟩;obtain⟨rfl,yy⟩:=yy;obtain⟨b,k,v,rfl,k2,k3⟩:=yy vs e';have ek:k=kv.1:=by
   have h1:(vs.map (·.1))[i]?=am k:=by rw[Ah,k2];rfl
   rw[d1,Ah,z]at h1;exact(Option.some.inj h1).symm
  subst ek;exact⟨jy.refl _,.tup k3 (RF _ _)⟩) q⟩⟩
def NW{Q:O PV->Prop}(h0:au≠[])(hl:au.length<=sizeLine)(q:Q (au.map λkv=>.tup (kv.1.map kP))):(Rr (SO au)).run Q:=⟨au,rfl,h0,hl,q⟩
end
end
section
variable[cx]
variable{K:Ab}
mutual
def PV.pd:PV->PyData
 |.aO=>.none
 |.bl b=>.bool b
 |.int i=>.int i
 |.str x=>.str x
 |.tup l=>.tuple (rB l)
 |.cl l=>.list (rB l)
 |_=>.none
def rB:O PV->O PyData
 |[]=>[]
 |x::l=>PV.pd x::rB l
end
section
variable{s:cr}
mutual
theorem VR.reads(I:Inv X U σ H s):∀{v:V}{x:PV},VR X.K [] H v x->PV.fw x=true->∀{u},RelV v u->∃as,Reads s.heap u (PV.pd x) as
 |_,_,.aO,_,u,r=>by cases r;rw[PV.pd];exact⟨_,.none⟩
 |_,_,.bl b,_,u,r=>by cases r;rw[PV.pd];exact⟨_,.bool b⟩
 |_,_,.int i,_,u,r=>by obtain⟨t,r⟩:=(show ∃t,u=CJ i t from r);cases r;rw[PV.pd];exact⟨_,.int i t⟩
 |_,_,.str i,_,u,r=>by obtain⟨t,r⟩:=(show ∃t,u=Br i t from r);cases r;rw[PV.pd];exact⟨_,.str i t⟩
 |_,_,.ty n,h,_,_=>by rw[PV.fw]at h;cases h
 |_,_,.dk _ _ _,h,_,_=>by rw[PV.fw]at h;cases h
 |_,_,.dt _ _ _,h,_,_=>by rw[PV.fw]at h;cases h
 |_,_,.ob _ _ _ _ _,h,_,_=>by rw[PV.fw]at h;cases h
 |_,_,.hand _,h,_,_=>by rw[PV.fw]at h;cases h
 |_,_,.ref e,h,_,_=>by simp at e
 |_,_,.tup e r,h,u,q=>by
  cases q;obtain⟨aq,rv,⟨o,h1,h2,n,h3⟩,_⟩:=I.tuple (dU.of (K:=X.K) e);obtain⟨as,ra⟩:=aF.reads I r (by rw[PV.fw]at h;exact h) rv;rw[PV.pd];exact⟨as,.tuple h1 h2 h3 (by simpa using ra)⟩
 |_,_,.cl e r,h,u,q=>by
  cases q;obtain⟨aq,rv,⟨o,n,h1,h2,_,h3⟩,_⟩:=I.list e.sq;obtain⟨as,ra⟩:=aF.reads I r (by rw[PV.fw]at h;exact h) rv;rw[PV.pd];exact⟨_,.list h1 h2 h3 (by simpa using ra)⟩
theorem aF.reads(I:Inv X U σ H s):∀{v:O V}{x:O PV},aF X.K [] H v x->fb x=true->∀{u},Vals v u->∃as,ReadsAll s.heap u (rB x) as
 |_,_,.nil,_,u,r=>by cases r;rw[rB];exact⟨_,.nil⟩
 |_,_,.cons a t,h,u,r=>by
  rw[fb,AR]at h;cases r with
  |cons r1 r2=>
  obtain⟨as,ra⟩:=VR.reads I a h.1 r1;obtain⟨bs,rb⟩:=aF.reads I t h.2 r2;rw[rB];exact⟨_,.cons ra rb⟩
end
mutual
theorem wY:∀x:PV,(PV.pd x).hasDict=false
 |.aO=>by simp[PV.pd,BR]
 |.bl _=>by simp[PV.pd,BR]
 |.int _=>by simp[PV.pd,BR]
 |.str _=>by simp[PV.pd,BR]
 |.tup l=>by rw[PV.pd,BR];exact m8 l
 |.cl l=>by rw[PV.pd,BR];exact m8 l
 |.ref _=>by simp[PV.pd,BR]
 |.ty _=>by simp[PV.pd,BR]
 |.dv _ _=>by simp[PV.pd,BR]
 |.ob _ _=>by simp[PV.pd,BR]
 |.hand=>by simp[PV.pd,BR]
theorem m8:∀x:O PV,EE (rB x)=false
 |[]=>by simp[rB,EE]
 |x::l=>by rw[rB,EE,wY x,m8 l];rfl
end
end
def yi(x:PV):Prop:=PV.fw x=true/\(PV.pd x).showable=true/\(PV.pd x).depth<=100/\(PV.pd x).shown.length<=sizeLine
def Xm(x:PV):W PV:=.eK (yi x) (.ret (.str (PV.pd x).shown))
def akT(x:PV):W PV:=match x with
 |.int i=>.eK (yi x) (.ret (.str (PV.pd x).shown))
 |.tup l=>.eK (yi x) (.ret (.str (PV.pd x).shown))
 |.cl l=>.eK (yi x) (.ret (.str (PV.pd x).shown))
 |_=>.fail
section
variable{a:mo}
def XR(b:Bool):PV->Prop
 |.int _=>b=true
 |.tup _=>True
 |.cl _=>True
 |_=>False
def ac8(K:Ab)(b:Bool):O V->Hp->VK->Prop:=λxs H Q=>∃v x,xs=[v]/\VR K [] H v x/\yi x/\XR b x/\Q (.str (PV.pd x).shown) H
theorem Lh(hK:X.K=K)(hg:X.A.guards=am [])(hu:X.A.units+200 < tz):cB X (.builtin "repr") (ac8 K false):=by
 subst hK;intro U s σ H xs us Q I r ⟨v,x,e,hv,⟨o1,o2,o3,o4⟩,hx,q⟩;subst e;obtain⟨u,rfl,ru⟩:=vals1 r;have rf:∀a,u=.ref a->ga (gl X.prog X.w) X.A (call (.builtin "repr") [u]) (EP X U σ Q) X.xe s:=λa e=>by
  subst e;obtain⟨as,rd⟩:=VR.reads I hv o1 ru;exact repr_of_reads' rd o2 (PyData.noDict_hsm (wY x)) hg ∅ (λ_ _ e=>e) (λh' u tk hk=>⟨.str _,H,I.kept (t':=tk) hk,⟨_,rfl⟩,q⟩) o4
 cases hv with
 |tup _ _=>exact rf _ ru
 |cl _ _=>exact rf _ ru
 |int _=>cases hx
 |_=>exact hx.elim
def yo(x:PV):W PV:=match x with
 |.tup l=>Xm x
 |.cl l=>Xm x
 |_=>.fail
def Sw(hK:X.K=K)(hr:eG k X.A)(hg:Gl X "repr")(hm:X.mg "repr"=ce)(ha:EF X K fs a wa)(he:‹hV X a []›)(eB:‹mm X pos []›):EF X K fs (.Call (.Name "repr" p) [a] [] pos) (.bind wa yo):=
 ⟨PE.imp (eQ (Lh hK hr.gd (bq hr)) hg hm boot_repr (a6 ha.p bP he) ⋯ ⋯ he eB) λσ H Q ⟨sr,q⟩=>⟨sr,wa.mono (λx q1 u H1 g1 s1 v1=>by
  have h:yi x/\XR false x/\∀u H',cE σ fs H H'->aY K H' σ fs->VR K [] H' u (.str (PV.pd x).shown)->Q u H':=by
   cases x with
   |tup l=>exact⟨q1.1,trivial,q1.2⟩
   |cl l=>exact⟨q1.1,trivial,q1.2⟩
   |_=>exact q1.elim
  exact⟨u,x,rfl,v1,h.1,h.2.1,h.2.2 _ H1 g1 s1 (.str _)⟩) q⟩⟩
end
end
end FL
variable{κ:PyProof.Rows.SortKind}{Q:A8->C9->Prop}{vs:O A8}{p:Array Nat}
namespace L2
def fh(N:Nat)(P:α->Prop):Ee α->Prop
 |.ret a=>P a
 |.ask i j k=>i<N/\j<N/\∀b,fh N P (k b)
theorem fh.mono{N:Nat}{P P':α->Prop}(h:∀a,P a->P' a):∀{t:Ee α},fh N P t->fh N P' t
 |.ret a,q=>h a q
 |.ask i j k,q=>⟨q.1,q.2.1,λb=>fh.mono h (q.2.2 b)⟩
theorem fh.bind{N:Nat}{P:α->Prop}{P':β->Prop}{f:α->Ee β}(hf:∀a,P a->fh N P' (f a)):∀{t:Ee α},fh N P t->fh N P' (t.bind f)
 |.ret a,q=>hf a q
 |.ask i j k,q=>⟨q.1,q.2.1,λb=>fh.bind hf (q.2.2 b)⟩
theorem fh.wp{N:Nat}{P:α->Prop}{cmp:Nat->Nat->(Bool->cr->Prop)->cr->Prop}{Q:α->cr->Prop}{s:cr}(hc:∀i j C,i<N->j<N->(∀b,C b s)->cmp i j C s)(hq:∀a,P a->Q a s):∀{t:Ee α},fh N P t->t.kasWp cmp Q s
 |.ret a,q=>hq a q
 |.ask i j k,q=>hc i j _ q.1 q.2.1 λb=>fh.wp hc hq (q.2.2 b)
def c6(N:Nat)(p:Array Nat):Prop:=p.toList.Perm (Aw N)
def c6.lt{N:Nat}(h:c6 N p)(h0:0<N)(k:Nat):p.getD k 0<N:=by
 by_cases c:k<p.size
 .have:p.getD k 0=p[k]:=by simp[c]
  rw[this];exact AN.mp (h.mem_iff.mp (by simp))
 .have:p.getD k 0=0:=by simp[c]
  rw[this];exact h0
def c6.rev{N:Nat}(h:c6 N p)(i j:Nat):c6 N (PySem.W.kas_rev p i j):=(EA.mp (mirror_perm p i j _)).trans h
def c6.bub{N:Nat}(h:c6 N p)(i j:Nat):c6 N (bubble p i j):=(EA.mp (bubble_perm p i j)).trans h
section
variable{N:Nat}(h0:0<N)
include h0
theorem RD(h:c6 N p):∀f n,fh N (λ_=>True) (PySem.W.kas_asc p f n)
 |0,n=>trivial
 |f+1,n=>⟨h.lt h0 _,h.lt h0 _,λb=>by
  cases b with
  |true=>exact trivial
  |false=>exact RD h f (n+1)⟩
theorem yX:∀f (p:Array Nat) n q,c6 N p->fh N (λr=>c6 N r.1) (PySem.W.kas_desc f p n q)
 |0,p,n,q,h=>h
 |f+1,p,n,q,h=>⟨h.lt h0 _,h.lt h0 _,λb=>by
  cases b with
  |true=>
   split
   .exact yX f _ _ _ (h.rev _ _)
   .exact yX f _ _ _ h
  |false=>exact⟨h.lt h0 _,h.lt h0 _,λb=>by
    cases b with
    |true=>exact h
    |false=>exact yX f _ _ _ h⟩⟩
def Ru{m:Nat}(h:c6 N p):fh N (λr=>c6 N r.2) (PySem.W.kas_tail3 n m p):=by
 exact fh.bind (P':=λr:Nat×Array Nat=>c6 N r.2) (f:=λk=>.ret (k,PySem.W.kas_rev p 0 n)) (λk _=>(h.rev _ _)) (RD h0 (h.rev _ _) _ _)
def Ry{m:Nat}(h:c6 N p):fh N (λr=>c6 N r.2) (PySem.W.kas_descPart n m p):=fh.bind (λr hr=>by
 split
 .exact Ru h0 (hr.rev _ _)
 .exact Ru h0 hr) (yX h0 _ _ _ _ h)
def VI{m:Nat}(h:c6 N p):fh N (λr=>c6 N r.2) (PySem.W.kas_count m p):=fh.bind (λn _=>by
 split
 .exact h
 .split
  .exact⟨h.lt h0 _,h.lt h0 _,λb=>by
    cases b with
    |true=>exact h
    |false=>exact Ry h0 (h.rev _ _)⟩
  .exact Ry h0 h) (RD h0 h _ _)
theorem yV(h:c6 N p)(k:Nat):∀f l r,fh N (λ_=>True) (PySem.W.kas_place p k f l r)
 |0,l,r=>trivial
 |f+1,l,r=>by
  show fh N _ (if l≥r then _ else _)
  split
  .exact trivial
  .exact⟨h.lt h0 _,h.lt h0 _,λb=>by
    cases b with
    |true=>exact yV h k f _ _
    |false=>exact yV h k f _ _⟩
theorem XN:∀f (p:Array Nat) k,c6 N p->fh N (c6 N) (PySem.W.kas_bin f p k)
 |0,p,k,h=>h
 |f+1,p,k,h=>fh.bind (λl _=>XN f _ _ (h.bub _ _)) (yV h0 h k _ _ _)
def aaj:fh N (c6 N) (Gb N):=fh.bind (λr hr=>by
 split
 .exact XN h0 _ _ _ hr
 .exact hr) (VI h0 (List.Perm.refl _))
end
section
variable{s:cr}
theorem J0{P:PySem.Fin->cr->Prop}(ho:s.heap.get? a=am (xz "list" vs.toArray n))(Ē:vs.length < 64)(Ŏ:2<=vs.length->∀h',(∀b o,b≠a->s.heap.get? b=am o->h'.get? b=am o)->ga (gl prog w) A (keyKind' vs.toArray) (λk s'=>k=κ/\s'={s with heap:=h'}) (λ_ _=>False) {s with heap:=h'})(iY:∀h',(∀b o,b≠a->s.heap.get? b=am o->h'.get? b=am o)->∀i j,i < vs.length->j < vs.length->∀C:Bool->cr->Prop,(∀b,C b {s with heap:=h'})->ga (gl prog w) A (keyLt' κ (vs.getD i A7) (vs.getD j A7)) C (λ_ _=>False) {s with heap:=h'})(h:∀out:O ci,out.Perm vs->P (.done (.ret .none)) {s with heap:=sortedHeap s.heap a vs out.toArray}):ga (gl prog w) A (v4.«list.sort» ⟨[.ref a],[]⟩) P E s:=by
 rw[list_sort_plain];have ha:=Aq ho;refine Aa (listItems_at ho rfl ?_);refine Aa (listUpdate_at ho rfl ?_);obtain⟨e1,ho1⟩:∃e1,(s.heap.update a (BH λ_=>#[])).get? a=am (xz "list" #[] e1):=⟨_,get?_update_seq ho (λ_=>#[])⟩;refine Aa (seqEpoch_at ho1 rfl ?_);refine Aa (CM ?_);refine Aa (wpAny_newList ?_);refine Bh ?_;have ħ:(((s.heap.update a (BH λ_=>#[])).push (xz "tuple" vs.toArray 0)).push (xz "list" #[] 0)).get? a=am (xz "list" #[] e1):=by
  rw[Heap.get?_push_ne _ _ _ (by rw[size_push',ET];exact AH (CD ha)),Heap.get?_push_ne _ _ _ (by rw[ET];exact AH ha)];exact ho1
 have kp:∀b o,b≠a->s.heap.get? b=am o->(((s.heap.update a (BH λ_=>#[])).push (xz "tuple" vs.toArray 0)).push (xz "list" #[] 0)).get? b=am o:=λb o n e=>Ai _ (Ai _ (by rw[FP _ _ _ _ n];exact e));dsimp only;have uA:vs.toArray.size=vs.length:=by simp
 by_cases h2:vs.toArray.size<2
 .rw[if_pos h2,if_pos h2];refine Aa (Ag ?_);refine Aa (Ag ?_);dsimp only;refine Aa (seqEpoch_at ħ rfl ?_);refine Aa (listUpdate_at ħ rfl ?_ (hsz2:=by rw[Array.size_map];show(pairsOf vs).size<=_;rw[pairsOf_size,IR];lia));simp only[bne_self_eq_false,if_false];refine Ag ?_;have e:(arrOf (SortSt.mk' general' (vs.toArray.zip vs.toArray) #[] 7 ce)).map (·.2)=vs.toArray:=by
   apply Array.toList_inj.mp;simp[List.map_snd_zip]
  rw[e];exact h vs (List.Perm.refl _)
 .rw[if_neg h2,if_neg h2];have vq:2<=vs.length:=by lia
  refine Aa (BO (Ŏ vq _ kp) (λk s0 hk=>?_) λ_ _ x=>x.elim);obtain⟨rfl,rfl⟩:=hk;have hw:(Gb vs.length).kasWp (PySem.W.kas_ask prog w A k vs) (λp s'=>c6 vs.length p/\s'={s with heap:=((s.heap.update a (BH λ_=>#[])).push (xz "tuple" vs.toArray 0)).push (xz "list" #[] 0)}) {s with heap:=((s.heap.update a (BH λ_=>#[])).push (xz "tuple" vs.toArray 0)).push (xz "list" #[] 0)}:=
   fh.wp (λi j C hi hj hC=>iY _ kp i j hi hj C hC) (λp hp=>⟨hp,rfl⟩) (aaj (show 0<vs.length by lia))
  refine Aa (BO (PySem.W.kat_run (Q:=λsf s'=>∃p:Array Nat,c6 vs.length p/\arrOf sf=p.map (PySem.W.kas_item (vs.toArray.zip vs.toArray))/\failedOf sf=ce/\s'={s with heap:=((s.heap.update a (BH λ_=>#[])).push (xz "tuple" vs.toArray 0)).push (xz "list" #[] 0)})
   rfl vq Ē (λp' sf s' a1 a2 a3 a4=>⟨p',a4.1,a2,a3,a4.2⟩) hw) ?_ λ_ _ e=>e)
  rintro⟨⟨⟩,sf⟩ s' ⟨p,hp,har,hf,rfl⟩;have XW:(p.toList.map λi=>vs.getD i A7).Perm vs:=by
   have e:(Aw vs.length).map (λi=>vs.getD i A7)=vs:=by
    apply BF;intro i;by_cases c:i<vs.length
    .rw[Ah,AJ c,Ad c];show am (vs.getD i A7)=_;rw[Ae,Ad c];rfl
    .rw[Ar (by simp;lia),Ar ∅]
   have:=hp.map (λi=>vs.getD i A7);rw[e]at this;exact this
  rw[(PySem.W.kat_snds rfl har)];refine Aa (seqEpoch_at ħ rfl ?_);refine Aa (listUpdate_at ħ rfl ?_ (hsz2:=by rw[Am,XW.length_eq,IR];lia));rw[hf];simp only[bne_self_eq_false,Ay,if_false];exact Ag (h _ XW)
def Ul{l:db}(hl:s.heap.IsList l vs.toArray)(Ē:vs.length < 64)(Ŏ:2<=vs.length->∀h',(∀b o,s.heap.get? b=am o->h'.get? b=am o)->ga (gl prog w) A.in1.in1 (keyKind' vs.toArray) (λk s'=>k=κ/\s'={s with heap:=h'}) (λ_ _=>False) {s with heap:=h'})(iY:∀h',(∀b o,s.heap.get? b=am o->h'.get? b=am o)->∀i j,i < vs.length->j < vs.length->∀C:Bool->cr->Prop,(∀b,C b {s with heap:=h'})->ga (gl prog w) A.in1.in1 (keyLt' κ (vs.getD i A7) (vs.getD j A7)) C (λ_ _=>False) {s with heap:=h'})(h:∀out:O ci,out.Perm vs->Q (.ref (s.heap.objs.size+1)) {s with heap:=sortedAll s.heap vs out.toArray}):ga (gl prog w) A (call (.builtin "sorted") [.ref l]) Q E s:=by
 refine Calls.call_function_entry kind_sorted plain_sorted entry_sorted (args_sorted1 _) ?_;refine Aa (Ag ?_);refine Aa (collect_list hl ?_);refine Aa (wpAny_newList ?_);have uA:((s.heap.push (xz "list" #[] 0)).update s.heap.objs.size (BH (·++vs.toArray))).objs.size=s.heap.objs.size+1:=by
  rw[ET,size_push']
 have Ħ:(((s.heap.push (xz "list" #[] 0)).update s.heap.objs.size (BH (·++vs.toArray))).push (xz "list" vs.toArray 0)).get? (s.heap.objs.size+1)=am (xz "list" vs.toArray 0):=by
  rw[<- uA];exact An _ rfl
 have kp:∀b o,s.heap.get? b=am o->b≠s.heap.objs.size+1/\(((s.heap.push (xz "list" #[] 0)).update s.heap.objs.size (BH (·++vs.toArray))).push (xz "list" vs.toArray 0)).get? b=am o:=λb o e=>by
  have lt:=Aq e;refine⟨AH (CD lt),Ai _ ?_⟩;rw[FP _ _ _ _ (AH lt)];exact Ai _ e
 rw[uA];refine Aa (Bh (Be slot_list_sort ⟨_,Ħ,rfl⟩ entry_list_sort (J0 (κ:=κ) Ħ Ē (λh2 h' k=>?_) (λh' k=>?_) λout hp=>⟨_,rfl,?_⟩) (args_list_sort _)))
 .exact Ŏ h2 h' λb o e=>k b o (kp b o e).1 (kp b o e).2
 .exact iY h' λb o e=>k b o (kp b o e).1 (kp b o e).2
 .exact Ag ⟨_,rfl,h out hp⟩
end
end L2
variable{b:Bq}{i j:Int}{p:Cn}{t1:PySem.Tok}
namespace FL
section
variable[cx]
variable{K:Ab}
def qp:PV->Bool
 |.tup [.str _,.tup [.int _,.int _]]=>true
 |_=>false
def Kl(h:qp x=true):∃s i j,x=.tup [.str s,.tup [.int i,.int j]]:=by
 unfold qp at h
 split at h
 .exact⟨_,_,_,rfl⟩
 .cases h
section
variable{s:cr}
def Wu(I:Inv X U σ H s){v:V}{u:ci}(hv:VR X.K [] H v x)(ru:RelV v u)(hx:qp x=true):∃(a b:db) (st:Str) (i j:Int) (t t1 t2:Tok) (oa ob:Obj) (na nb:Nat),u=.ref a/\s.heap.get? a=am oa/\oa.cls=.type "tuple"/\oa.data=.seq #[.str st t,.ref b] na/\s.heap.get? b=am ob/\ob.cls=.type "tuple"/\ob.data=.seq #[.int i t1,.int j t2] nb:=by
 obtain⟨st,i,j,rfl⟩:=Kl hx;cases hv with
 | @tup p vs _ e r=>
 cases ru;cases r with
 |cons r1 r2=>
 cases r1;cases r2 with
 |cons r2 r3=>
 cases r3;cases r2 with
 | @tup b ws _ e2 r4=>
 cases r4 with
 |cons r4 r5=>
 cases r4;cases r5 with
 |cons r5 r6=>
 cases r6;cases r5;obtain⟨aq,rv,⟨o,h1,h2,n,h3⟩,_⟩:=I.tuple (dU.of e);obtain⟨du,rv2,⟨o2,k1,k2,n2,k3⟩,_⟩:=I.tuple (dU.of e2);cases rv with
 |cons q1 q2=>
 cases q2 with
 |cons q2 q3=>
 cases q3;cases rv2 with
 |cons m1 m2=>
 cases m2 with
 |cons m2 m3=>
 cases m3;obtain⟨t,rfl⟩:=q1;cases q2;obtain⟨t1,rfl⟩:=m1;obtain⟨t2,rfl⟩:=m2;exact⟨p,b,st,i,j,t,t1,t2,o,o2,n,n2,rfl,h1,h2,h3,k1,k2,k3⟩
end
theorem Ws{s:cr}{a' b':db}{st sf:Str}{i' j':Int}{t t2 t' ý ü:Tok}{oa ï Ć:Obj}{na nb na' ļ:Nat}(hu:A.units+1 < tz)(h1:s.heap.get? a=am oa)(h3:oa.data=.seq #[.str st t,.ref b] na)(k1:s.heap.get? b=am ob)(k2:ob.cls=.type "tuple")(k3:ob.data=.seq #[.int i t1,.int j t2] nb)(gw:s.heap.get? a'=am ï)(R1:ï.data=.seq #[.str sf t',.ref b'] na')(ŀ:s.heap.get? b'=am Ć)(Ŀ:Ć.cls=.type "tuple")(ľ:Ć.data=.seq #[.int i' ý,.int j' ü] ļ){C:Bool->cr->Prop}(hC:∀b,C b s):ga (gl prog w) A (keyLt' (tuples' true) (.ref a) (.ref a')) C (λ_ _=>False) s:=by
 refine PySem.W.kat_lt h1 h3 gw R1 (PySem.W.kat_cons (DS.str_str st t sf t' prog w _ _ (PySem.W.kat_go (λ_=>PySem.W.kat_yes ?_) λ_=>PySem.W.kat_no ?_)))
 .have hT:s.heap.IsTuple b #[.int i t1,.int j t2]:=⟨ob,k1,k2,nb,k3⟩;have Ĭ:s.heap.IsTuple b' #[.int i' ý,.int j' ü]:=⟨Ć,ŀ,Ŀ,ļ,ľ⟩;have go:∀e,PySem.W.KatGo prog w A true (decide ((#[Br st t,.ref b]:Array ci).size<(#[Br sf t',.ref b']:Array ci).size)) C (.ref b) (.ref b') [] 1 e s:=λe=>PySem.W.kat_go (λ_=>PySem.W.kat_yes (PySem.W.kat_nil (hC _))) λ_=>PySem.W.kat_no (PySem.W.kat_one _ _ (HT.JX hT Ĭ (.cons i t1 (.cons j t2 .nil)) (.cons i' ý (.cons j' ü .nil)) ∅ (hC _)));by_cases c:b=b'
  .subst c;exact Gg (.ref b) prog w _ _ (go _)
  .refine FZ c (F2 (e:=λk=>if k=0 then i==i' else j==j') hT Ĭ ∅ λk g1 g2=>?_) prog w _ _ (go _);have:k=0\/k=1:=by simp at g1;lia
   rcases this with rfl|rfl
   .exact En i t1 i' ý
   .exact En j t2 j' ü
 .exact oneLt_str (hC _)
section
def Zk(K:Ab):O V->Hp->VK->Prop:=λxs H Q=>∃(p:db) (vs:O V) (l:O PV),xs=[.ref p]/\b9 K H p vs/\aF K [] H vs l/\l.length<64/\l.all qp=true/\∀m:O PV,m.Perm l->∀ws,aF K [] H ws m->jG H (.lst ws) Q
def QO{vs:O V}{out:O ci}{l:O PV}(r:Vals vs us)(v:aF K [] H vs l)(p:out.Perm us):∃ws m,Vals ws out/\aF K [] H ws m/\m.Perm l:=by
 induction p generalizing vs l with
 |nil=>cases r;cases v;exact⟨[],[],.nil,.nil,.refl _⟩
 |cons x p ih=>
  cases r with
  |cons r1 r2=>
  cases v with
  |cons v1 v2=>
  obtain⟨ws,m,a,b,c⟩:=ih r2 v2;exact⟨_::ws,_::m,.cons r1 a,.cons v1 b,.cons _ c⟩
 |swap x y l'=>
  cases r with
  |cons r1 r2=>
  cases r2 with
  |cons r2 r3=>
  cases v with
  |cons v1 v2=>
  cases v2 with
  |cons v2 v3=>exact⟨_::_::_,_::_::_,.cons r2 (.cons r1 r3),.cons v2 (.cons v1 v3),.swap _ _ _⟩
 |trans p1 p2 xu Jg=>
  obtain⟨ws,m,a,b,c⟩:=Jg r v;obtain⟨Gu,m',a',b',c'⟩:=xu a b;exact⟨Gu,m',a',b',c'.trans c⟩
theorem Lf(hK:X.K=K)(hu:X.A.units+200 < tz):cB X (.builtin "sorted") (Zk K):=by
 subst hK;intro U s σ H xs us Q I r h;obtain⟨p,vs,l,rfl,hq,hv,Ē,hd,q⟩:=h;obtain⟨u,rfl,rx⟩:=vals1 r;cases rx;obtain⟨aq,r',pl,hz⟩:=I.list hq;have hl:=r'.length;have XY:=hv.length;have el:∀i,i < aq.length->∃(a b:db) (st:Str) (i1 j1:Int) (t t1 t2:Tok) (oa ob:Obj) (na nb:Nat),aq.getD i A7=.ref a/\s.heap.get? a=am oa/\oa.cls=.type "tuple"/\oa.data=.seq #[.str st t,.ref b] na/\s.heap.get? b=am ob/\ob.cls=.type "tuple"/\ob.data=.seq #[.int i1 t1,.int j1 t2] nb:=λi hi=>by
  have e1:vs[i]?=am vs[i]:=Ad ∅;obtain⟨x,ex,vx⟩:=hv.aex e1;have ru:RelV vs[i] (aq.getD i A7):=by
   obtain⟨u,hu1,hu2⟩:=Vals.get r' e1;rw[Ae,hu1];exact hu2
  exact Wu I vx ru (Dg.mp hd x (Bd ex))
 refine Ul (κ:=tuples' true) pl.isList ∅ (λh2 h' kp=>?_) (λh' kp i j hi hj C hC=>?_) λout hp=>?_
 .have ê:∀l:O ci,(∀v∈l,∃(a:db) (x:ci) (st:Str) (t:Tok) (oa:Obj) (na:Nat),v=.ref a/\h'.get? a=am oa/\oa.cls=.type "tuple"/\oa.data=.seq #[.str st t,x] na)->∃fs,PySem.W.KatTups h' l fs/\fs.length=l.length/\∀v∈fs,∃st t,v=Br st t:=by
   intro l
   induction l with
   |nil=>intro _;exact⟨[],trivial,rfl,by simp⟩
   |cons v l ih=>
    intro hl;obtain⟨fs,f1,f2,f3⟩:=ih λy hy=>hl y (.tail _ hy);obtain⟨a,x,st,t,oa,na,rfl,g1,g2,g3⟩:=hl v (.head _);refine⟨.str st t::fs,PySem.W.KatTups.cons g1 g2 g3 rfl f1,by simp[f2],λy hy=>?_⟩;rcases AB.mp hy with rfl|hy
    .exact⟨st,t,rfl⟩
    .exact f3 y hy
  obtain⟨fs,f1,f2,f3⟩:=ê aq λv hv=>by
   obtain⟨i,hi,rfl⟩:=Ed hv;obtain⟨a,b,st,i1,j1,t,t1,t2,oa,ob,na,nb,e,h1,h2,h3,_⟩:=el i hi;rw[Ae,Ad hi]at e;exact⟨a,.ref b,st,t,oa,na,e,kp _ _ h1,h2,h3⟩
  refine PySem.W.kat_kind (T:=.type "str") f1 ∅ (λv hv=>?_) ⋯ ⟨rfl,rfl⟩;obtain⟨st,t,rfl⟩:=f3 v hv;exact PySem.W.Looks.now
 .obtain⟨a,b,st,i1,j1,t,t1,t2,oa,ob,na,nb,e,h1,h2,h3,k1,k2,k3⟩:=el i hi;obtain⟨a',b',sf,i1',j1',t',ý,ü,ï,Ć,na',ļ,e',gw,vq,R1,ŀ,Ŀ,ľ⟩:=el j hj;rw[e,e'];exact Ws (by show X.A.units+1+1+1<_;lia) (kp _ _ h1) h3 (kp _ _ k1) k2 k3 (kp _ _ gw) R1 (kp _ _ ŀ) Ŀ ľ hC
 .obtain⟨ws,m,a1,a2,a3⟩:=QO r' hv hp;obtain⟨e,he⟩:=sortedAll_at s.heap aq out.toArray;refine⟨.ref (s.heap.objs.size+1),_,I.laid (λ_ _=>sortedAll_old) (Dz _) (show bC X.prog X.w _ _ _ (.lst ws) from⟨?_,out,e,a1,he⟩),rfl,(q m a3 ws a2).at _ (I.bG.fresh (Dz _))⟩;rw[a2.length,a3.length_eq];rw[<- XY];exact hz
def P0(l:O PV):W (O PV):=.eK (l.length<64/\l.all qp=true) (.any λm=>m.Perm l)
def Vw(hK:X.K=K)(hu:X.A.units+200 < tz)(hg:Gl X "sorted")(hm:X.mg "sorted"=ce)(ha:Ji X K fs e wl)(he:‹hV X e []›)(eB:‹mm X pos []›):LF X K fs (.Call (.Name "sorted" p) [e] [] pos) (.bind wl P0):=
 ⟨PE.imp (eQ (Lf hK hu) hg hm boot_sorted (a6 ha.p bP he) ⋯ ⋯ he eB) λσ H Q ⟨sr,q⟩=>⟨sr,wl.mono (λl q1 u1 H1 g1 s1 _ v1=>by
  obtain⟨⟨c1,c2⟩,q2⟩:=q1;obtain⟨a,vs,rfl,h1,r1⟩:=v1 _ H1 .refl s1;exact⟨a,vs,l,rfl,h1,r1,c1,c2,λm hm ws hw=>w4 g1 s1 hw (q2 m hm)⟩) q⟩⟩
end
end
end FL
variable{x z:Cf}{ts:O Cf}{t3:PySem.Tok}
namespace FL
section
variable[cx]
variable{K:Ab}
structure Tg(K:Ab)(a:db)(ts:List Str):Prop where
 ex:∃(o:Obj) (aq:Array ci) (n:Nat),K.lookup a=am o/\o.cls=.type "tuple"/\o.data=.seq aq n/\aq.size<=sizeLine/\Vals (ts.map V.str) aq.toList
 tn:∃o:Obj,K.lookup a=am o/\o.cls=.type "tuple"/\o.dict=ce
def tup3K{t2:Tok}(h:K.lookup a=am ⟨.type "tuple",ce,.seq #[.str x t1,.str y t2,.str z t3] n,Tv⟩):Tg K a [x,y,z]:=⟨⟨_,_,_,h,rfl,rfl,bM (by show 3<=_;decide),.cons ⟨_,rfl⟩ (.cons ⟨_,rfl⟩ (.cons ⟨_,rfl⟩ .nil))⟩,_,h,rfl,rfl⟩
section
theorem LY(H:Hp):∀ts:O Str,aF K [] H (ts.map V.str) (ts.map PV.str)
 |[]=>.nil
 |t::ts=>.cons (.str t) (LY H ts)
end
section
variable{a:mo}
def acC(hK:X.K=K)(hu:X.A.units+200<tz){ad:db}(ha:EF X K fs a wa)(hm:X.mg x=am (.ref ad))(T:Tg K ad ts)(hg:‹Gl X x›)(hd: ~~~(jz x))(hk:‹sB .In (.Name x p)=false›):TF X K fs (.Compare a [.In] [.Name x p] pos) (.bind wa λv=>rK false v (ts.map PV.str)):=⟨PT.imp (ib (QY K hK hu) ha.p (sC hg hm (v:=.ref ad) rfl hd) hk) λσ H Q ⟨sr,q⟩=>⟨sr,wa.mono (λv q1 u1 H1 g1 s1 v1=>⟨ad,_,_,v,rfl,.inr (.inr T.ex),LY H1 ts,v1,q1.1,_,rfl,q1.2 H1 g1 s1⟩) q⟩⟩
end
def PK{s:cr}{l:db}(hh:A.handled=ce)(hl:s.heap.IsTuple l vs.toArray)(hi:wS vs ns)(h:∀(h':pc) (t:Tok) tk,(∀b o,s.heap.get? b=am o->h'.get? b=am o)->Q (.int ns.sum t) {s with heap:=h',toks:=tk}):ga (gl prog w) A (call (.builtin "sum") [.ref l]) Q E s:=by
 obtain⟨xs,e⟩:=hi.allInts.items;have Kr:ns=xs.toList.map (·.1):=by rw[<- hi.numsOf,<- nums_intItems,<- e]
 rw[e]at hl;have iY:l<s.heap.objs.size:=by obtain⟨_,e,_⟩:=hl;exact Aq e
 refine call_sum_walkG (Dx hl ?_);refine⟨_,_,_,_,_,_,numAt xs,rfl,Walks.tuple (A:=A.in1) hh _ l (AH iY) (Pi xs),⟨⟨_,An _ rfl,rfl,rfl⟩,hl.push _⟩,λb hb=>?_,(λ_ _=>intItems_at),λh' tk t' hk=>?_⟩
 .rw[Bv];rcases AB.mp hb with rfl|hb
  .exact Df _
  .rcases AB.mp hb with rfl|hb
   .exact CD iY
   .cases hb
 .have:=h h' t' tk λb o e=>hk b o (λhm=>by
   rcases AB.mp hm with e1|hm
   .exact absurd (e1▸Aq e) (AI _)
   .cases hm) (Ai _ e)
  have e3:(Pi xs).size=xs.size:=by simp[Pi]
  rw[e3,preSum_eq,BM (by simp),<- Kr];exact this
def OO(hK:X.K=K)(hc:X.calm=true):cB X (.builtin "sum") (λxs H Q=>∃(p:db) (ns:O Int),xs=[.ref p]/\(b9 K H p (ns.map V.int)\/dU K H p (ns.map V.int))/\Q (.int ns.sum) H):=by
 subst hK;intro U s σ H xs us Q I r h;obtain⟨p,ns,rfl,hq,q⟩:=h;obtain⟨u,rfl,rx⟩:=vals1 r;cases rx;rcases hq with hq|hq
 .obtain⟨aq,r',pl,hz⟩:=I.list hq;exact wM (I.ok.hd hc) pl.isList (intsAre_of r') λh' t tk hk=>⟨.int _,H,I.kept hk,⟨t,rfl⟩,q⟩
 .obtain⟨aq,r',pl,hz⟩:=I.tuple hq;exact PK (I.ok.hd hc) (pl) (intsAre_of r') λh' t tk hk=>⟨.int _,H,I.kept (t':=tk) hk,⟨t,rfl⟩,q⟩
def aa5(hK:X.K=K)(hc:X.calm=true)(hg:Gl X "sum")(hm:X.mg "sum"=ce)(ha:IF X K fs e wl)(he:‹hV X e []›)(eB:‹mm X pos []›):EF X K fs (.Call (.Name "sum" p) [e] [] pos) (.bind wl fM):=⟨PE.imp (eQ (OO hK hc) hg hm (show pr "sum"=am (.builtin "sum") by rfl) (a6 ha.p bP he) ⋯ ⋯ he eB) λσ H Q ⟨sr,q⟩=>⟨sr,wl.mono (λl q1 u1 H1 g1 s1 v1=>by
 obtain⟨ns,el,_,q2⟩:=wN q1;obtain⟨a,vs,rfl,h1,r1⟩:=v1;rw[el]at r1;have:=lX r1;subst this;exact⟨a,ns,rfl,h1.imp Jj.sq dU.of,q2 _ H1 g1 s1 (.int _)⟩) q⟩⟩
section
def dcP(ts:O (Str×Int)):O (Key×PV):=ts.map λt=>(.inr t.1,.int t.2)
def OE(ts:O (Str×Int)):O (Key×V):=ts.map λt=>(.inr t.1,.int t.2)
theorem w9:∀(more Z:O (Key×V)),((Z++more).map (·.1)).Nodup->iE Z more=Z++more
 |[],Z,_=>by simp[iE]
 |kv::more,Z,h=>by
  have e:putK Z kv.1 kv.2=Z++[kv]:=by
   unfold putK;rw[if_neg];intro hc;obtain⟨z,hz,e⟩:=List.any_eq_true.mp hc;have e:=of_decide_eq_true e;rw[Az,C4]at h;exact h.2.2 z.1 (Ao.mpr ⟨z,hz,rfl⟩) kv.1 (by simp) e
  have h2:iE Z (kv::more)=iE (putK Z kv.1 kv.2) more:=rfl;rw[h2,e,w9 more (Z++[kv]) (by simpa using h)];simp
theorem Me{Q:O (V×V)->Hp->Prop}:∀(ts:O (Str×Int)) (H:Hp) (Q:O (V×V)->Hp->Prop),Q (ts.map λt=>(V.str t.1,V.int t.2)) H->xY (ts.map λt=>(tC (.str t.1),tC (.int t.2))) σ H Q
 |[],H,Q,q=>q
 |t::ts,H,Q,q=>Me (Q:=Q) ts H (λps H3=>Q ((V.str t.1,V.int t.2)::ps) H3) q
def abh(H:Hp)(ts:O (Str×Int)):hX K H (OE ts) (dcP ts):=by
 refine⟨by simp[OE,dcP],?_⟩
 induction ts with
 |nil=>exact .nil
 |cons t ts ih=>exact .cons (.int t.2) ih
end
end
section
variable[cx]
def drawn(m:Int):W PV:=.any λv=>∃d:Int,v=.int d/\0<=d/\d<m
end
end FL
namespace My
def nj(c8:PV):W (O PV):=
 []\λnT=>
 bn (c8\λx3=>ca [x3]) λpS=>
 bn (xU (λs4=>(s4.2\λl5=>ca (!l5.isEmpty))) (λs4=>(
 bn (tM s4.2) λt7=>
 t7.2\λx9=>bn (gD s4.1 x9) λnR=>
 ff (T7 (bn (bn (ca t7.2) (jl .str)) hG)) (
 bn (bn (ca t7.2) aw) λl11=>bn (Im t7.1 l11) λtm=>
 ca (nR,tm)) (
 ca (nR,t7.1)))) (nT,pS)) λs4=>
 (s4.1\λl12=>ca l12.reverse)
def jM(c8:PV):W PV:=
 []\λc9=>
 []\λyP=>
 bn (c8\λx3=>nj x3) λl30=>bn (bU l30 (c9,yP) λyA s4=>(
 bn (bn (bn (ca yA) (jl .str)) hG) λb=>bn (if b=true then (
 yA\λvv=>bn (gD s4.1 vv) λLO=>
 ca (LO,s4.2)) else (
 bn (tM s4.2) λPJ=>
 bn (tM PJ.1) λt22=>
 bn (t22.2\λGG=>PJ.2\λPk=>ca (.tup [GG,Pk])) λYB=>bn (gD s4.1 YB) λLN=>
 ca (LN,t22.1))) λY5=>
 bn (b2 vG (bn (ca Y5.1) uo) (ca (.int 1))) λTX=>bn (gD Y5.2 TX) λHA=>
 ca (Y5.1,HA))) λs4=>
 (bn (ca s4.1) ku)
def dc(a8:PV):W PV:=
 (ff (bn (bn (ca a8) (jl .str)) hG) (ca (.tup [])) (ca a8))
def gN(c8:PV):W PV:=
 bn (c8\λx2=>jM x2) λc9=>
 bn (bn (bn (ca c9) aw) λl4=>bx l4 λp5=>(ca .aO)) λzZ=>
 bn (bn (bn (ca c9) aw) λl6=>.eK (l6.length<=sizeLine) (.ret (cY 0 l6))) λl19=>bn (bU l19 zZ λp8 s7=>bn (vm p8) λt9=>(
 bn (bn (t9.2\λkH=>dc kH) aw) λO8=>bn (bU O8 s7 λMx Jd=>(
 t9.1\λvz=>Mx\λmn=>bn (oj Jd mn vz) λIL=>
 ca IL)) λJd=>
 ca Jd)) λs7=>
 (bn (ca s7) ku)
def fo(fF:PV)(lh:PV):W PV:=
 (ff (bn (bn (bJ (bn (ca fF) aw) (ca lh)) (jl .str)) hG) (bJ (bn (ca fF) aw) (ca lh)) (ca lh))
def jN(bW:PV):W (O PV):=
 bn (bW\λx2=>gN x2) λd7=>
 bn (bn (bn (ca d7) aw) λl4=>bx l4 λp5=>(ca (.tup []))) λlV=>
 bn (bn (b2 vG (c1 cO (ca d7)) (ca (.int 1))) λx6=>bn (bn (ca (.int 1)) vI) λx7=>bn (bn (ca (.int 1)) vI) λx8=>Qh x6 x7 x8) λO8=>bn (bU O8 lV λlg s9=>(
 bn (ff (t2 Q6 (bJ (bn (ca d7) aw) (ca lg)) (ca .aO)) (ca (.tup [])) (bJ (ca s9) (bJ (bn (ca d7) aw) (ca lg)))) λIM=>
 bn (w2 addW (lg\λsX=>ca (.tup [sX])) (ca IM)) λvz=>lg\λmn=>bn (oj s9 mn vz) λHB=>
 ca HB)) λs9=>
 ca s9
def gp(yR:PV)(lh:PV):W PV:=
 (bn (bn (bn (c1 cO (ca yR)) jb) λl2=>kz l2 λp3=>J4 (T8 (aat true (ca p3) (bn (bJ (bn (ca yR) aw) (ca lh)) aw)) (aat true (ca lh) (bn (bJ (bn (ca yR) aw) (ca p3)) aw))) (ca p3)) ku)
def kZ(bW:PV):W PV:=
 bn (bW\λx2=>jM x2) λfR=>
 bn (bW\λx4=>jN x4) λlV=>
 (bn (bn (bn (c1 cO (ca fR)) jb) λl6=>bx l6 λp7=>(bn (fR\λx8=>p7\λx9=>fo x8 x9) λkH=>(.int 0)\λnY=>bn (bn (bJ (bn (ca fR) aw) (ca p7)) λvA=>dc vA) λsX=>bn ((.cl lV)\λvz=>p7\λmn=>gp vz mn) λrm=>ca (.tup [kH,nY,sX,rm]))) ku)
def fD(fF:PV)(dF:PV):W (O PV):=
 (bn (bn (bn (ca fF) aw) λl1=>bn (bn (ca dF) aw) λl2=>GC l1 l2) λl3=>kz l3 λp4=>bn (vm p4) λt5=>J4 (T7 (bn (bn (ca t5.1) (jl .str)) hG)) (ca t5.2))
def jJ(bW:PV)(dF:PV)(j8:PV):W (O PV):=
 bn (bW\λx2=>gN x2) λd7=>
 []\λyC=>
 bn (bn (bn (ca j8) aw) λl4=>.eK (l4.length<=sizeLine) (.ret (cY 0 l4))) λl19=>bn (bU l19 yC λp6 s5=>bn (vm p6) λt7=>(
 bn (bn (bn (ca dF) aw) λl8=>.eK (l8.length<=sizeLine) (.ret (cY 0 l8))) λO8=>bn (bU O8 s5 λp10 s9=>bn (vm p10) λGv=>(
 ff (T8 (t2 oLe (ca Gv.2) (ca t7.2)) (tor (t2 Q6 (bJ (bn (ca d7) aw) (ca Gv.1)) (ca .aO)) (t2 oLt (ca t7.2) (bJ (bn (ca dF) aw) (bJ (bn (ca d7) aw) (ca Gv.1)))))) (
 bn (Gv.1\λsX=>t7.1\λvz=>ca (.tup [sX,vz])) λmn=>bn (gD s9 mn) λHh=>
 ca Hh) (
 ca s9))) λs9=>
 ca s9)) λs5=>
 ca s5
def lS(fF:PV)(dF:PV)(j8:PV)(oy:PV)(QU:PV):W PV:=
 bn (bJ (bn (ca QU) aw) (ca (.int 0))) λlZ=>
 bn (bJ (bn (ca QU) aw) (ca (.int 1))) λoT=>
 bn (b2 oLt (bJ (bn (ca dF) aw) (ca lZ)) (bJ (bn (ca j8) aw) (ca oT))) λxy=>
 bn (ff (bn (ca xy) hG) (lZ\λx5=>ca (.tup [x5])) (bn (bJ (bn (ca fF) aw) (ca lZ)) λx6=>dc x6)) λbelow_4=>
 bn (bn (bn (bn (ca below_4) aw) λl8=>bx l8 λp9=>(dgB (ca oy) (p9\λkH=>bn (b2 vG (ca oT) (ca (.int 1))) λnY=>ca (.tup [kH,nY])))) ku) λLK=>
 bn (bn (bn (bn (ca oy) Rr) λRq=>kz Rq λĄ=>J4 (T8 (t2 dN (bJ (bn (ca Ą) aw) (ca (.int 1))) (ca oT)) (t2 vH (bJ (bn (ca Ą) aw) (ca (.int 0))) (ca lZ))) (dgB (ca oy) (ca Ą))) ku) λxP=>
 (bn (fF\λmn=>lZ\λrm=>fo mn rm) λGI=>oT\λvv=>LK\λxS=>xP\λM9=>ca (.tup [GI,vv,xS,M9]))
def lU(bW:PV)(dF:PV):W PV:=
 bn (bW\λx2=>jM x2) λfR=>
 bn (bn ((.int 0)\λx4=>ca [x4]) λl7=>bn (bn (fR\λx5=>dF\λx6=>fD x5 x6) yg) λl8=>kE l7 l8) λve=>
 bn (bW\λkH=>dF\λnY=>(.cl ve)\λvA=>jJ kH nY vA) λyB=>
 bn (bn (bn (bn (bn (ca (.cl yB)) aw) λl14=>.eK (l14.length<=sizeLine) (.ret (cY 0 l14))) λl15=>bx l15 λp16=>bn (vm p16) λĸ=>(ĸ.2\λvv=>ĸ.1\λxS=>ca (.tup [vv,xS]))) La) λtT=>
 (bn (bn (bn (ca (.cl yB)) aw) λZ9=>bx Z9 λĜ=>(fR\λJm=>dF\λTY=>(.cl ve)\λGG=>tT\λPk=>Ĝ\λYB=>lS Jm TY GG Pk YB)) ku)
def d9(aE:PV)(aV:PV):W PV:=
 (bJ (bn (bJ (bn (ca aE) aw) (ca aV)) aw) (ca (.int 2)))
def ir(aE:PV)(aV:PV):W PV:=
 (bJ (bn (bJ (bn (ca aE) aw) (ca aV)) aw) (ca (.int 3)))
def lT(aE:PV)(aV:PV)(W7:PV):W PV:=
 (afg (b2 dN (aE\λx1=>aV\λx2=>d9 x1 x2) (ca (.tup []))) (b2 dN (bJ (bn (bJ (bn (ca aE) aw) (ca aV)) aw) (ca (.int 0))) (ca W7)))
def iq(bo:PV)(aV:PV):W (O PV):=
 bn (bo\λx2=>aV\λx3=>d9 x2 x3) λn5=>
 (ff (t2 dN (c1 cO (ca n5)) (ca (.int 2))) (n5\λx4=>bn (bn (bJ (bn (ca n5) aw) (ca (.int 1))) λx5=>bn (bJ (bn (ca n5) aw) (ca (.int 0))) λx6=>ca (.tup [x5,x6])) λx7=>ca [x4,x7]) (ca []))
def jL(bo:PV)(aV:PV):W (O PV):=
 bn (bo\λx2=>aV\λx3=>ir x2 x3) λvd=>
 (bn (bn (bn (ca vd) aw) λl4=>bx l4 λp5=>(aV\λx6=>p5\λx7=>ca (.tup [x6,x7]))) λl12=>bn (bn (bn (ca vd) aw) λl8=>bx l8 λp9=>(p9\λkH=>aV\λnY=>ca (.tup [kH,nY]))) λRq=>kE l12 Rq)
def fq(bo:PV)(a8:PV)(aV:PV):W (O PV):=
 ff (bn (bn (ca a8) (jl .str)) hG) (
 (ff (bn (bo\λx1=>aV\λx2=>a8\λx3=>lT x1 x2 x3) hG) (bn ((.str "found")\λx4=>(.tup [])\λx5=>ca (.tup [x4,x5])) λx6=>ca [x6]) (ca []))) (
 bn (bn (bo\λx8=>aV\λx9=>iq x8 x9) λl10=>bx l10 λą=>((.str "split")\λvA=>ą\λsX=>ca (.tup [vA,sX]))) λL3=>
 bn (bn (bo\λmn=>aV\λrm=>jL mn rm) λO8=>bx O8 λp18=>((.str "over")\λxS=>p18\λM9=>ca (.tup [xS,M9]))) λMg=>
 (bn (bn (bn (bn ((.str "doubled")\λGH=>bn (aV\λJm=>aV\λTY=>ca (.tup [Jm,TY])) λGG=>ca (.tup [GH,GG])) λPk=>ca [Pk]) λZ8=>bn (bn (ca (.cl L3)) nr) λl27=>kE Z8 l27) λl28=>bn (bn (ca (.cl Mg)) nr) λl29=>kE l28 l29) P0))
end My
variable{kp cp:Cn}{kc:Nat}
namespace L2
section
variable{R:Result->cr->Prop}{I S:db}{wr:O db}{P:Nat->ci->Prop}{St:Nat->pc->Prop}
abbrev dfN:O (Str×ci):=[(Cb "default",.none)]
abbrev afd(l:O ci)(c:Nat):Obj:={cls:=.type "list",dict:=ce,data:=.seq l.toArray c,slots:=#[]}
def Wb{n:Nat}(h:n<=2):n<=sizeLine:=AD h ⋯
theorem NQ(W:Walks prog w A.in1 I fp wr n P St)(bt:Nat->Nat->Bool)(aiI:CmpOf prog w A.in1 .Lt P bt)(hSf:S∉fp):∀(k j:Nat) (s:cr) (l:O ci) (c:Nat),n-j=k->j<=n->St j s.heap->(j=0/\l=[]\/∃i v,j=i+1/\l=[v,v]/\P (argBest bt i) v)->s.heap.get? S=am (afd l c)->(∀v h' tk,(n=0/\v=.none\/0 < n/\P (argBest bt (n-1)) v)->(∀b o,b∉wr->b≠S->s.heap.get? b=am o->h'.get? b=am o)->R (.ok (.ret v)) {s with heap:=h',toks:=tk})->KF (gl prog w) A (.builtin "min.loop" ⟨[.ref I,.none,.ref S],dfN⟩) R s:=by
 have hSw:S∉wr:=λh=>hSf (W.sub _ h);have hn:(toString "min"++toString ".loop")="min.loop":=by decide
 intro k
 induction k with
 |zero=>
  intro j s l c hk hj xw hl hS hR;have e:j=n:=by lia
  subst e;refine Fk F.entry_min_loop ?_;refine Aa (BI hS rfl (Aa (Et (W.done s _ _ xw λh' tk V0=>?_))));have è:=V0 S _ hSw hS;rcases hl with⟨e0,rfl⟩|⟨i,v,rfl,rfl,hv⟩
  .exact Aa (CV (Ag (hR _ h' tk (.inl ⟨e0,rfl⟩) λb o hb _ z=>V0 b o hb z)))
  .exact Aa (CY è rfl (Aa (CC (Ag (hR v _ tk (.inr ⟨Nat.succ_pos _,hv⟩) λb o hb R0 z=>(BX _ _ (BE R0)).trans (V0 b o hb z))))) (Wb (Al _)) (A9 _))
 |succ k ih=>
  intro j s l c hk hj xw hl hS hR;have iY:j<n:=by lia
  refine Fk F.entry_min_loop ?_;rw[Around.under_plainId C8 _];refine Aa (BI hS rfl (Aa (Et (W.item j s _ _ iY xw λv h' tk hP aed V0=>?_))));have è:=V0 S _ hSw hS;have XM:∀f b o,b∉wr->b≠S->s.heap.get? b=am o->(h'.update S f).get? b=am o:=λf b o hb R0 z=>(BX _ _ (BE R0)).trans (V0 b o hb z);have frU:∀(f:Obj->Obj),St (j+1) (h'.update S f):=λf=>W.frame _ _ _ aed λb hbf o e=>(BX _ _ (λh:S=b=>hSf (by rw[h];exact hbf))).trans e;refine Aa (Ag ?_);rcases hl with⟨rfl,rfl⟩|⟨i,vb,rfl,rfl,hb⟩
  .refine Aa (CY è rfl ?_ (A9 _) (Nat.le_succ_of_le (Wb (Al _))));rw[hn];refine Ag ⟨BT C8 _,ih 1 _ [v,v] _ ∅ iY (frU _) (.inr ⟨0,v,rfl,rfl,hP⟩) (B3 _ è rfl) λv' h2 û đ č=>?_⟩;exact hR v' h2 û đ λb o hb R0 z=>č b o hb R0 (XM _ b o hb R0 z)
  .refine Aa (Et (Bh (Aa (aiI (i+1) (argBest bt i) v vb _ _ _ hP hb ?_))));refine Aa (Bh (DG (Aa (CC (Ag ?_)))));cases hbt:bt (i+1) (argBest bt i) with
   |true=>
    refine Aa (CY è rfl (Aa (CC ?_)) (Wb (Al _)) (Nat.le_succ_of_le (Wb (Al _))));refine Ag ⟨BT C8 _,ih (i+2) _ [v,v] _ ∅ iY (frU _) (.inr ⟨i+1,v,rfl,rfl,by simp only[argBest,hbt];exact hP⟩) (B3 _ è rfl) λv' h2 û đ č=>?_⟩;exact hR v' h2 û đ λb o hb R0 z=>č b o hb R0 (XM _ b o hb R0 z)
   |false=>
    refine Aa (CC ?_);rw[hn];exact Ag ⟨BT C8 _,ih (i+2) _ [vb,vb] c ∅ iY aed (.inr ⟨i+1,vb,rfl,rfl,by simp only[argBest,hbt];exact hb⟩) è λv' h2 û đ č=>hR v' h2 û đ λb o hb R0 z=>č b o hb R0 (V0 b o hb z)⟩
variable{s:cr}
def OX(a:ci):argsOk "min" ⟨[a],dfN⟩:=by unfold argsOk;kernel_rfl
def Vp(ns:O Int)(t:Tok):ci:=if ns=[] then .none else .int (vJ ns) t
theorem JU{l:db}(hh:A.handled=ce)(hl:s.heap.IsList l vs.toArray)(hi:wS vs ns)(h:∀(h':pc) (t:Tok) tk,(∀b o,s.heap.get? b=am o->h'.get? b=am o)->Q (Vp ns t) {s with heap:=h',toks:=tk}):ga (gl prog w) A (call (.builtin "min") [.ref l] dfN) Q E s:=by
 obtain⟨xs,e⟩:=hi.allInts.items;have Kr:ns=xs.toList.map (·.1):=by rw[<- hi.numsOf,<- nums_intItems,<- e]
 rw[e]at hl;have hn:(toString "min"++toString ".loop")="min.loop":=by decide
 refine kmb_tree F.kind_min F.plain_min F.entry_min (OX _) ?_;refine Aa (Bx (rfl) ?_);refine Aa (Ag ?_);refine Aa (iter_intList hl λs₂ e2 st hfp hlI=>?_);subst e2;refine Aa (Bf ?_);rw[hn];have W:=Walks.list (A:=A.in1) (prog:=prog) (w:=w) hh s.heap.objs.size l hlI (Pi xs);have uA:(Pi xs).size=ns.length:=by rw[Kr];simp[Pi]
 refine Ag ⟨BT C8 _,NQ W _ (CmpOf.ints_lt (numAt xs) (λ_ _=>intItems_at)) (λhm=>AI _ (hfp _ hm)) _ 0 _ [] 0 rfl (A9 _) (W.frame _ _ _ st λb _ o e=>Ai _ e) (.inl ⟨rfl,rfl⟩) (An _ rfl) λv h' tk hP hk=>?_⟩;have kp:∀b o,s.heap.get? b=am o->h'.get? b=am o:=λb o z=>by
  have h1:=Aq z;refine hk b o (λy=>AH h1 (AM.mp y)) (λy=>?_) (Ai _ (Ai _ z));rw[y,Bv]at h1;exact absurd h1 (Nat.not_lt_of_le (Dz _))
 rcases hP with⟨h0,rfl⟩|⟨h0,hP⟩
 .have e0:ns=[]:=BQ ∅;have:=h h' 0 tk kp;rw[Vp,if_pos e0]at this;exact this
 .obtain⟨t,rfl⟩:=intItems_at hP;have e0:ns≠[]:=λz=>by rw[uA,z]at h0;exact AI _ h0
  have h2:=h h' t tk kp;rw[Vp,if_neg e0,<- Vq Kr e0]at h2;have ez:(Pi xs).size=xs.size:=by simp[Pi]
  rw[ez];exact h2
end
def adb(K:Ab):O V->Hp->VK->Prop:=λxs H Q=>∃(p:db) (ns:O Int),xs=[.ref p]/\b9 K H p (ns.map V.int)/\Q (if ns=[] then .aO else .int (vJ ns)) H
def UY{t:TA}(K:Ab)(hK:X.K=K)(hc:X.calm=true)(hg:Gl X "min")(hm:X.mg "min"=ce)(ha:PA X [e] t)(he:ul pos (gt [e] X.env)=(false,o0 e X.env)::ul pos (gt [] X.env))(hp:(ul pos (gt [e] X.env)).any (·.1)=false):PE X (.Call (.Name "min" p) [e] [⟨am (Cb "default"),.Constant .none kc cp,kp⟩] pos) (λσ H Q=>t σ H λvs H'=>adb K vs H' Q):=by
 subst hK;intro U s σ H Q I h;refine BJ (gQ I hg hm boot_min ?_ ⋯ ⋯);refine callWith_kw (cf (ha pos U s σ H _ I h) λus s1 ⟨vs,H1,I1,r1,q1⟩=>?_) he hp;refine kws_cons (cf (QQ U s1 σ H1 (λv H2=>v=.aO/\H2=H1) I1 ⟨rfl,rfl⟩) λv s2 ⟨x,H2,I2,r2,e1,e2⟩=>kws_nil ?_);subst e1 e2;cases r2;obtain⟨a,ns,rfl,hq,q⟩:=q1;obtain⟨u,rfl,rx⟩:=vals1 r1;cases rx;obtain⟨aq,r',pl,hz⟩:=I2.list hq;refine JU (I2.ok.hd hc) pl.isList (intsAre_of r') λh' t tk hk=>?_;unfold Vp;by_cases c:ns=[]
 .rw[if_pos c]at q ⊢;exact⟨.aO,_,I2.kept hk,rfl,q⟩
 .rw[if_neg c]at q ⊢;exact⟨.int _,_,I2.kept (t':=tk) hk,⟨t,rfl⟩,q⟩
end L2
namespace FL
section
variable[cx]
def tZ(l:O PV):W PV:=.bind (qQ l) λns=>.ret (if ns=[] then .aO else .int (vJ ns))
def SE{K:Ab}(hK:X.K=K)(hc:X.calm=true)(hg:Gl X "min")(hm:X.mg "min"=ce)(ha:Ji X K fs e wl)(hs:‹hV X e []›)(he:‹ul pos (gt [e] X.env)=(false,o0 e X.env)::ul pos (gt [] X.env)›)(hp:‹(ul pos (gt [e] X.env)).any (·.1)=false›):EF X K fs (.Call (.Name "min" p) [e] [⟨am (Cb "default"),.Constant .none kc cp,kp⟩] pos) (.bind wl tZ):=⟨PE.imp (UY K hK hc hg hm (a6 ha.p bP hs) he hp) λσ H Q ⟨sr,q⟩=>⟨sr,wl.mono (λl q1 u1 H1 g1 s1 _ v1=>by
 obtain⟨ns,el,q2⟩:=lY q1;obtain⟨a,vs,rfl,h1,r1⟩:=v1 _ H1 .refl s1;rw[el]at r1;have:=lX r1;subst this;refine⟨a,ns,rfl,h1,?_⟩;by_cases c:ns=[]
 .simp only[if_pos c]at q2 ⊢;exact q2 _ H1 g1 s1 .aO
 .simp only[if_neg c]at q2 ⊢;exact q2 _ H1 g1 s1 (.int _)) q⟩⟩
end
end FL
namespace L2
def ix3(x y z q:Str):Nat:=if x=q then 0 else if y=q then 1 else 2
def qf{q:Str}{t2 t:Tok}:Meets (v4.«tuple.index» ⟨[.ref a,.str q t],[]⟩) (λ_ R s=>(∃o,s.heap.get? a=am o/\o.data=.seq #[.str x t1,.str y t2,.str z t3] n)/\q∈[x,y,z]/\∀u,R (.ok (.ret (.int (ix3 x y z q:Nat) u))) {s with toks:=s.toks+1}):=by
 refine .of_wp λprog w A R s ⟨⟨o,ho,hd⟩,hq,h⟩=>?_;refine Aa (Ag ?_);refine Aa (Aa (BI ho hd (Ag ?_)));refine Aa (Ag ?_);refine Aa (Ag ?_);refine Aa ?_;rw[Std.Legacy.Range.forIn_eq_forIn_range'];rw[show List.range' [:min #[Br x t1,Br y t2,Br z t3].size #[Br x t1,Br y t2,Br z t3].size].start [:min #[Br x t1,Br y t2,Br z t3].size #[Br x t1,Br y t2,Br z t3].size].size [:min #[Br x t1,Br y t2,Br z t3].size #[Br x t1,Br y t2,Br z t3].size].step=[0,1,2] from by simp;decide];refine Aa (Aa (DU ?_));have Õ:∀k:Nat,ix3 x y z q=k->∃v,Ep (.ret (.int k s.toks))=Ep (.ret v)/\R (.ok (.ret v)) {s with toks:=s.toks+1}:=λk e=>⟨_,rfl,by have:=h s.toks;rw[e]at this;exact this⟩;by_cases c1:x=q
 .subst c1;rw[decide_eq_true rfl,if_pos rfl];exact Aa (Aa (Aa (wpAny_fresh (Ag (Ag (Ag (Ag (Ag (Õ 0 (if_pos rfl))))))))))
 .rw[decide_eq_false c1,if_neg ⋯];refine Ag (Aa (Aa (DU ?_)));by_cases c2:y=q
  .subst c2;rw[decide_eq_true rfl,if_pos rfl];exact Aa (Aa (Aa (wpAny_fresh (Ag (Ag (Ag (Ag (Ag (Õ 1 (by rw[ix3,if_neg c1,if_pos rfl]))))))))))
  .rw[decide_eq_false c2,if_neg ⋯];refine Ag (Aa (Aa (DU ?_)));have c3:z=q:=by simp at hq;rcases hq with e|e|e<;>first|exact absurd e.symm c1|exact absurd e.symm c2|exact e.symm
   subst c3;rw[decide_eq_true rfl,if_pos rfl];exact Aa (Aa (Aa (wpAny_fresh (Ag (Ag (Ag (Ag (Ag (Õ 2 (by rw[ix3,if_neg c1,if_neg c2]))))))))))
def adi(K:Ab):V->O V->Hp->VK->Prop:=λv vs H Q=>∃a x y z q,v=.ref a/\vs=[.str q]/\dU K H a [.str x,.str y,.str z]/\q∈[x,y,z]/\Q (.int (ix3 x y z q:Nat)) H
def Vm(K:Ab)(hK:X.K=K):M6 X "tuple.index" (adi K):=by
 subst hK;intro U s σ H v vs u us Q I rx rv h;obtain⟨a,x,y,z,q,rfl,rfl,hq,hm,qq⟩:=h;cases rx;obtain⟨u,rfl,ru⟩:=rv.one;obtain⟨t,rfl⟩:=ru;obtain⟨aq,r,pl,hz⟩:=I.tuple hq;obtain⟨o,ho,hc,n,hd⟩:=pl;cases r with
 |cons q1 r=>cases r with
  |cons q2 r=>cases r with
   |cons q3 r=>
    cases r;obtain⟨t1,rfl⟩:=q1;obtain⟨t2,rfl⟩:=q2;obtain⟨t3,rfl⟩:=q3;exact ww F.slot_tuple_index ⟨_,ho,hc⟩ F.entry_tuple_index (F.args_tuple_index_2 _ _) qf ⟨⟨_,ho,hd⟩,hm,λu=>⟨.int _,H,I.tok _,⟨u,rfl⟩,qq⟩⟩
end L2
namespace FL
section
variable[cx]
def RO(ts:O Str):PV->W PV
 |.str q=>match ts with
  |[x,y,z]=>.eK (q∈[x,y,z]) (.ret (.int (ix3 x y z q:Nat)))
  |_=>.fail
 |_=>.fail
def aa6{K:Ab}{w:W PV}{n:Str}{ad:db}(hK:X.K=K)(he:EF X K fs e w)(hm:X.mg n=am (.ref ad))(T:Tg K ad ts)(hg:‹Gl X n›)(hd: ~~~(jz n))(eZ:‹ss (.Name n p) "index" X.env (o0 (.Name n p) X.env)=o0 (.Name n p) X.env›)(qt:‹HWa X bV [e]›)(eY:‹TL Â bV›)(xw:‹hV X e []›)(eA:‹mm X bV []›):EF X K fs (.Call (.Attribute (.Name n p) "index" Â) [e] [] bV) (.bind w (RO ts)):=
 ⟨PE.imp (qc K hK PySem.F.plainAttrs_tuple PySem.F.slot_tuple_index PySem.F.type_tuple_index (Vm K hK) (sC hg hm (v:=.ref ad) rfl hd) (a6 he.p bP xw) eZ qt eY xw eA) λσ H Q ⟨sr,q⟩=>
  ⟨.inr (.inl ⟨rfl,T.tn⟩),sr,w.mono (λx q2 u2 H2 g2 s2 v2=>by
   cases v2<;>first|exact q2.elim|skip
   match ts,T,q2 with
   |[x,y,z],T,q2=>exact⟨ad,x,y,z,_,rfl,rfl,.inr T.ex,q2.1,q2.2 _ H2 g2 s2 (.int _)⟩
   |[],_,q2=>exact q2.elim
   |[_],_,q2=>exact q2.elim
   |[_,_],_,q2=>exact q2.elim
   |_::_::_::_::_,_,q2=>exact q2.elim) q⟩⟩
end
section
variable[cx]
variable{K:Ab}
def qa(l:O PV):PV->W (O PV×PV)
 |.int k=>.bind (.Q1 (ux l.length k)) λj=>.bind (.Q1 l[j]?) λv=>.eK (l.length<=sizeLine) (.ret (l.eraseIdx j,v))
 |_=>.fail
theorem aF.erase:∀{ws:O V}{l:O PV} (j:Nat),aF K [] H ws l->aF K [] H (ws.eraseIdx j) (l.eraseIdx j)
 |_,_,_,.nil=>by simp;exact .nil
 |_,_,0,.cons _ t=>t
 |_,_,j+1,.cons r t=>by rw[DB,DB];exact .cons r (aF.erase j t)
section
variable{rest:O ut}{T:Type}{out:T->End}{x:Bool}{l:O PV}
theorem SF.Zx(i j:Nat){k:O PV×PV->W T}(hs:fs[i]?=am (am (.ol q0 l)))(Ď:j≠i)(hK:X.K=K)(hN:X.N[i]?=am y)(hv:Jh X.env.scope y)(Ř:X.N.Nodup)(hj:X.N[j]?=am z)(hx:Loc X.env.scope z)(he:EF X K fs e we aA)(hr:∀t:O PV×PV,SF X K x ((aA.set i (am (.ol q0 t.1))).set j (am (.val t.2))) rest (k t) out)(hd: ~~~(jz y))(kD: ~~~(LC y))(eZ:‹ss (.Name y p) "pop" X.env (o0 (.Name y p) X.env)=o0 (.Name y p) X.env›)(qt:‹HWa X bV [e]›)(eY:‹TL Â bV›)(xw:‹hV X e []›)(eA:‹mm X bV []›)(sN:‹r9 (.Call (.Attribute (.Name y p) "pop" Â) [e] [] bV) (am (.Name z p')) pos.line X.env=pure false›)(hf:Tp X z:=by first | exact .inl rfl | exact .inr rfl | assumption):SF X K x fs (.Assign [.Name z p'] (.Call (.Attribute (.Name y p) "pop" Â) [e] [] bV) pos::rest) (.bind we λn=>.bind (qa l n) k) out:=
 SF.step (m7 Ř hj hx (qc K hK BV DP DN Hs (fX hN hv hd kD) (a6 he.p bP xw) eZ qt eY xw eA) sN hf) λD σ H ⟨sr,q⟩=>by
  obtain⟨a,ws,e1,h1,r1⟩:=d8 sr hs;refine⟨_,e1,.inl ⟨rfl,_,b9.of h1⟩,sr,we.mono (λn q1 u H1 g1 s1 v1=>?_) q⟩;obtain⟨a',Gu,sR,gw,Gx⟩:=d8 s1 (g1.ev.same hs (by simp));rw[e1]at sR;cases sR;cases v1 with
  |int kk=>
   have q1:(bn (.Q1 (ux l.length kk)) λj=>.bind (.Q1 l[j]?) λv=>.eK (l.length<=sizeLine) (.ret (l.eraseIdx j,v))).run λt=>(k t).run λt=>cz K x σ fs H D (out t):=q1;cases hx:ux l.length kk with
   |none=>rw[hx]at q1;exact q1.elim
   |some m=>
   cases hv:l[m]? with
   |none=>rw[hx]at q1;simp only[Da,lc,hv]at q1;exact q1.elim
   |some v=>
   rw[hx]at q1;simp only[Da,lc,hv]at q1;obtain⟨hz,q1⟩:=q1;obtain⟨uu,hu,ru⟩:=Gx.get hv;obtain⟨h3,h4,h5,h6⟩:=sM hx;have h9:(sizeLine:Int)<2 ^ 63:=by decide
   refine⟨a,Gu,kk,m,uu,rfl,rfl,gw,by lia,by lia,by rw[Gx.length];exact h3,hu,?_⟩;have sx:lK a H1 (upd H1 a (.lst (Gu.eraseIdx m))):=λz o n hz=>by rw[ak n];exact hz
   have pN:aA[i]?=am (am (.ol q0 l)):=g1.ev.same hs (by simp);obtain⟨s2,g2⟩:=m9 (t':=.ol q0 (l.eraseIdx m)) s1 pN rfl (by simp) e1 sx λtk=>⟨λb hb=>by
    subst hb;obtain⟨u,e2,⟨v,e,_⟩|⟨b',e,z,_⟩⟩:=s1.at' i _ pN
    .cases e
    .rw[e2]at e1;cases e1;cases e;exact z b rfl,_,aH,aF.tk tk (aF.erase m Gx)⟩
   have s3:=s2.hJ (g2.vr s1 ru) j;exact⟨_,k _,hr (l.eraseIdx m,v),s3,(k _).mono (λt q2=>q2.go ((g1.f.trans g2).trans (cU.hJ s2 _ _ j)) sr s3) q1⟩
  |_=>exact q1.elim
end
end
end FL
namespace My
def kY(j6:PV):W PV:=
 (ff (aat false (ca .aO) (bn (ca j6) aw)) (ca .aO) (bn (bn (ca j6) nr) fM))
def gM(j6:PV):W PV:=
 (bn (bn (bn (ca j6) aw) λl1=>kz l1 λp2=>J4 (t2 Hn (ca p2) (ca .aO)) (ca p2)) tZ)
def jK(bZ:PV)(ju:PV):W PV:=
 (ff (ju\λx1=>rK false x1 ([("split":Str),("doubled":Str),("over":Str)].map PV.str)) (bJ (bn (ca bZ) aw) (bn (ca ju) (RO ["split","doubled","over"]))) (ca (.int 0)))
def ip(bo:PV)(bZ:PV)(aV:PV):W PV:=
 (ff (t2 dN (c1 cO (bo\λx1=>aV\λx2=>d9 x1 x2)) (ca (.int 2))) (bJ (bn (ca bZ) aw) (ca (.int 3))) (ca (.int 0)))
end My
namespace FL
section
variable[cx]
def tS:of2 (aI g) (.int i) (.int j)=.ret (g i j):=Ps λQ=>⟨Ej,λq=>⟨rfl,q⟩⟩
def sF{C:Int->Int->Prop}:of2 (aIc C g) (.int i) (.int j)=.eK (C i j) (.ret (g i j)):=Ps λQ=>⟨λq=>⟨q.1,q.2.2⟩,λq=>⟨q.1,rfl,q.2⟩⟩
section
variable(i j:Int)(a:Bool)(x y:PV)(l m:O PV)(s t:Str)
@[simp] theorem qz:of2 vG (.int i) (.int j)=.ret (.int (i-j)):=tS
@[simp] theorem KN:of2 Q5 (.int i) (.int j)=.eK (wP i j) (.ret (.int (i*j))):=sF
@[simp] theorem aa1:of2 oDiv (.int i) (.int j)=.eK (W6 i j) (.ret (.int (i / j))):=sF
@[simp] theorem aa0:of2 oMod (.int i) (.int j)=.eK (0<j) (.ret (.int (i % j))):=sF
@[simp] theorem KL:of2 Q3 (.int i) (.int j)=.eK (O3 i j) (.ret (.int (i ^ j.toNat))):=sF
@[simp] theorem Yd:of2 oLt (.int i) (.int j)=.ret (.bl (decide (i<j))):=tS
@[simp] theorem aeR:of2 oLe (.int i) (.int j)=.ret (.bl (decide (i<=j))):=tS
@[simp] theorem Sn:of2 ZN (.int i) (.int j)=.ret (.bl (decide (j<i))):=tS
@[simp] theorem aeS:of2 oGe (.int i) (.int j)=.ret (.bl (decide (j<=i))):=tS
def uO:of2 dN x y=.eK (Oo x y) (.ret (.bl (kG x y))):=Ps λQ=>⟨λq=>⟨q.1,q.2.2⟩,λq=>⟨q.1,rfl,q.2⟩⟩
def MM:of2 vH x y=.eK (Oo x y) (.ret (.bl (!kG x y))):=Ps λQ=>⟨λq=>⟨q.1,q.2.2⟩,λq=>⟨q.1,rfl,q.2⟩⟩
@[simp] theorem KO:of2 Q6 x .aO=.ret (.bl x.mU):=Ps λQ=>⟨Ej,λq=>⟨rfl,q⟩⟩
@[simp] theorem ago:of2 Hn x .aO=.ret (.bl (!x.mU)):=Ps λQ=>⟨Ej,λq=>⟨rfl,q⟩⟩
@[simp] theorem cm:addW (.int i) (.int j)=.ret (.int (i+j)):=(rfl)
@[simp] theorem agF:addW (.str s) (.str t)=.eK (s.length+t.length<=sizeLine) (.ret (.str (s++t))):=(rfl)
@[simp] theorem MP:addW (.tup l) (.tup m)=.eK (l.length+m.length<=sizeLine) (.ret (.tup (l++m))):=(rfl)
@[simp] theorem zv:vI (.int i)=.ret (.int (-i)):=(rfl)
@[simp] theorem cb:asB (.bl a)=.ret a:=(rfl)
@[simp] theorem ab8(w:W PV):S3 (.bl true) w=w:=(rfl)
@[simp] theorem ab9(w:W PV):S3 (.bl false) w=.ret (.bl false):=(rfl)
@[simp] theorem MN(w:W PV):WN (.bl true) w=w:=(rfl)
@[simp] theorem agE(w:W PV):WN (.bl false) w=.ret (.bl false):=(rfl)
@[simp] theorem cL:hG (.bl a)=.ret a:=(rfl)
@[simp] theorem agm:hG (.int i)=.ret (i != 0):=(rfl)
@[simp] theorem agl:hG .aO=.ret false:=(rfl)
@[simp] theorem agk:hG (.tup l)=.ret (!l.isEmpty):=(rfl)
@[simp] theorem agn:hG (.cl l)=.ret (!l.isEmpty):=(rfl)
@[simp] theorem aK:aw (.tup l)=.ret l:=(rfl)
@[simp] theorem bj:aw (.cl l)=.ret l:=(rfl)
@[simp] theorem iu:nr (.cl l)=.ret l:=(rfl)
@[simp] theorem bT:Tz l (.int i)=.Q1 (cR l i):=(rfl)
@[simp] theorem zw:uo l=.ret (.int l.length):=(rfl)
@[simp] theorem ai4:ku l=.ret (.tup l):=(rfl)
@[simp] theorem me:part (.int i)=.ret (am i):=(rfl)
@[simp] theorem iL:vm (.tup [x,y])=.ret (x,y):=(rfl)
@[simp] theorem Sl(z u:PV):un4 (.tup [x,y,z,u])=.ret (x,y,z,u):=(rfl)
@[simp] theorem agA(k:Kd):jl k (.int i)=.ret (.bl (k.is (.int i))):=(rfl)
@[simp] theorem o8(k:Kd):jl k (.str s)=.ret (.bl (k.is (.str s))):=(rfl)
@[simp] theorem gB(k:Kd):jl k (.tup l)=.ret (.bl (k.is (.tup l))):=(rfl)
@[simp] theorem agB(k:Kd):jl k (.cl l)=.ret (.bl (k.is (.cl l))):=(rfl)
@[simp] theorem agC(k:Kd):jl k (.bl a)=.ret (.bl (k.is (.bl a))):=(rfl)
@[simp] theorem agz(k:Kd):jl k .aO=.ret (.bl (k.is .aO)):=(rfl)
@[simp] theorem sQ:yG cO [.tup l]=.ret (.int l.length):=Ps λQ=>⟨Ej,λq=>⟨rfl,q⟩⟩
@[simp] theorem d5:yG cO [.cl l]=.ret (.int l.length):=Ps λQ=>⟨Ej,λq=>⟨rfl,q⟩⟩
@[simp] theorem agp:yG cO [.str s]=.eK (s.length<=sizeLine) (.ret (.int s.length)):=Ps λQ=>⟨λq=>⟨q.1,q.2.2⟩,λq=>⟨q.1,rfl,q.2⟩⟩
@[simp] theorem agD:yG OW [.int i]=.ret (.int i):=Ps λQ=>⟨Ej,λq=>⟨rfl,q⟩⟩
@[simp] theorem We:yG OW [.bl a]=.ret (.int (if a then 1 else 0)):=Ps λQ=>⟨Ej,λq=>⟨rfl,q⟩⟩
@[simp] theorem uN(p q:Option Int):vF (.tup l) p q=.ret (.tup (eJ l p q)):=(rfl)
@[simp] theorem fc:jb (.int j)=.eK (okN 0 j) (.ret (km 0 j.toNat)):=(rfl)
@[simp] theorem Wc(k:Int):Qh (.int i) (.int j) (.int k)=.eK (k = -1/\okN j i) (.ret (qX i (i-j).toNat)):=(rfl)
@[simp] theorem aaY:tM (l++[x])=.ret (l,x):=by unfold tM;simp
@[simp] theorem Sm:Nv l (.int i)=.eK (-(2 ^ 63)<=i/\i<2 ^ 63/\l.length*i.toNat<=sizeLine) (.ret (Ap i.toNat l).flatten):=(rfl)
@[simp] theorem agv:Kd.is .int (.int i)=true:=(rfl)
@[simp] theorem agw:Kd.is .int (.bl a)=true:=(rfl)
@[simp] theorem agy:Kd.is .bool (.bl a)=true:=(rfl)
@[simp] theorem agx:Kd.is .bool (.int i)=false:=(rfl)
@[simp] theorem o7:Kd.is .str (.str s)=true:=(rfl)
@[simp] theorem gA:Kd.is .str (.tup l)=false:=(rfl)
@[simp] theorem agu:Kd.is .str (.int i)=false:=(rfl)
@[simp] theorem agq:Kd.is .tup (.tup l)=true:=(rfl)
@[simp] theorem agr:Kd.is .tup (.str s)=false:=(rfl)
@[simp] theorem ags:Kd.is .tup (.int i)=false:=(rfl)
@[simp] theorem agt:Kd.is .tup (.bl a)=false:=(rfl)
def cG{m:Int}{Q:PV->Prop}(h:∀d:Int,0<=d->d<m->Q (.int d)):(drawn m).run Q:=λv ⟨d,e,h0,h1⟩=>e▸h d h0 h1
end
namespace W
variable{α β:Type}
def le(a b:W α):Prop:=∀Q,b.run Q->a.run Q
def le.refl(a:W α):a.le a:=λ_ h=>h
def le.of_eq{a b:W α}(h:a=b):a.le b:=h▸le.refl a
def le.ret{a:W α}{v:α}{f:α->W β}{b:W β}(h:a.le (.ret v))(hf:(f v).le b):(a.bind f).le b:=λQ q=>h _ (hf Q q)
def le.use{a:W α}{v:α}{Q:α->Prop}(h:a.le (.ret v))(q:Q v):a.run Q:=h _ q
end W
section
variable{S R:Type}
@[simp] theorem gY(s:S)(f:PV->S->W S):bU [] s f=.ret s:=(rfl)
@[simp] theorem jr(x:PV)(r:O PV)(s:S)(f:PV->S->W S):bU (x::r) s f=.bind (f x s) λs'=>bU r s' f:=(rfl)
theorem uJ{f:PV->S->W S}{Q:S->Prop}(I:O PV->S->Prop):∀{l:O PV}{s:S},I l s->(∀x r s,I (x::r) s->(f x s).run (I r))->(∀s,I [] s->Q s)->(bU l s f).run Q
 |[],s,h0,_,he=>he s h0
 |x::r,s,h0,hs,he=>(f x s).mono (λs' h=>uJ I h hs he) (hs x r s h0)
theorem Ig{f:PV->S->W (Lp S R)}{Q:Lp S R->Prop}(I:O PV->S->Prop):∀{l:O PV}{s:S},I l s->(∀x r s,I (x::r) s->(f x s).run λo=>match o with|.go s'=>I r s'|.out t=>Q (.out t))->(∀s,I [] s->Q (.go s))->(FL.mD l s f).run Q
 |[],s,h0,_,he=>he s h0
 |x::r,s,h0,hs,he=>(f x s).mono (λo h=>match o,h with
  |.go s',h=>Ig I h hs he
  |.out t,h=>h) (hs x r s h0)
theorem d4{f:PV->S->W S}{Q:S->Prop}{l:O PV}(I:Nat->S->Prop){s:S}(h0:I 0 s)(hs:∀(i:Nat) (x:PV) s,l[i]?=am x->I i s->(f x s).run (I (i+1)))(he:∀s,I l.length s->Q s):(bU l s f).run Q:=by
 refine uJ (λr s=>∃i,i<=l.length/\r=l.drop i/\I i s) ⟨0,A9 _,rfl,h0⟩ (λx r s ⟨i,hi,e,h⟩=>?_) (λs ⟨i,hi,e,h⟩=>?_)
 .have iY:i<l.length:=by
   rcases Bz i l.length with h|h
   .exact h
   .rw[Fd h]at e;cases e
  rw[B2 iY]at e;injection e with e1 e2;subst e1;exact(f _ s).mono (λs' h'=>⟨i+1,iY,e2,h'⟩) (hs i _ s (Ad iY) h)
 .have:i=l.length:=by
   have:=congrArg Ck e;rw[CP]at this;simp at this;lia
  subst this;exact he s h
theorem MJ{f:PV->S->W (Lp S R)}{Q:Lp S R->Prop}{l:O PV}(I:Nat->S->Prop){s:S}(h0:I 0 s)(hs:∀(i:Nat) (x:PV) s,l[i]?=am x->I i s->(f x s).run λo=>match o with|.go s'=>I (i+1) s'|.out t=>Q (.out t))(he:∀s,I l.length s->Q (.go s)):(FL.mD l s f).run Q:=by
 refine Ig (λr s=>∃i,i<=l.length/\r=l.drop i/\I i s) ⟨0,A9 _,rfl,h0⟩ (λx r s ⟨i,hi,e,h⟩=>?_) (λs ⟨i,hi,e,h⟩=>?_)
 .have iY:i<l.length:=by
   rcases Bz i l.length with h|h
   .exact h
   .rw[Fd h]at e;cases e
  rw[B2 iY]at e;injection e with e1 e2;subst e1;exact(f _ s).mono (λo h'=>match o,h' with
   |.go s',h'=>⟨i+1,iY,e2,h'⟩
   |.out t,h'=>h') (hs i _ s (Ad iY) h)
 .have:i=l.length:=by
   have:=congrArg Ck e;simp at this;lia
  subst this;exact he s h
def o5{f:PV->S->W S}{Q:S->Prop}(I:Nat->S->Prop){s:S}(h0:I 0 s)(hs:∀(i:Nat) s,i<n->I i s->(f (.int (i:Int)) s).run (I (i+1)))(he:∀s,I n s->Q s):(bU (km 0 n) s f).run Q:=
 d4 I h0 (λi x s hx h=>by obtain⟨hi,rfl⟩:=qr hx;rw[Fe];exact hs i s hi h) (λs h=>he s (by rw[jo]at h;exact h))
def R9{f:PV->S->W (Lp S R)}{Q:Lp S R->Prop}(I:Nat->S->Prop){s:S}(h0:I 0 s)(hs:∀(i:Nat) s,i<n->I i s->(f (.int (i:Int)) s).run λo=>match o with|.go s'=>I (i+1) s'|.out t=>Q (.out t))(he:∀s,I n s->Q (.go s)):(FL.mD (km 0 n) s f).run Q:=
 MJ I h0 (λi x s hx h=>by obtain⟨hi,rfl⟩:=qr hx;rw[Fe];exact hs i s hi h) (λs h=>he s (by rw[jo]at h;exact h))
theorem sZ{c:S->W Bool}{b:S->W S}{Q:S->Prop}(I:Nat->S->Prop){s:S}(h0:I n s)(hs:∀n s,I n s->(c s).run λk=>if k=true then (b s).run (λs'=>∃m,m<n/\I m s') else Q s):(xU c b s).run Q:=by
 refine⟨n+1,?_⟩;have:∀k n s,n<k->I n s->(iA c b k s).run Q:=by
  intro k
  induction k with
  |zero=>intro n s h;lia
  |succ k ih=>
   intro n s hn h;refine(c s).mono (λz q=>?_) (hs n s h);cases z with
   |true=>exact(b s).mono (λs' ⟨m,hm,h'⟩=>ih m s' ∅ h') (q)
   |false=>exact q
 exact this (n+1) n s ∅ h0
theorem Mo{f:PV->W PV}{g:PV->PV}:∀{l:O PV},(∀x∈l,f x=.ret (g x))->bx l f=.ret (l.map g)
 |[],_=>rfl
 |x::r,h=>by
  show bn (f x) (λy=>bn (bx r f) λl=>ca (y::l))=_;rw[h x (.head _),Mo λy hy=>h y (.tail _ hy)];rfl
theorem yU{g:PV->Option PV}:∀{l:O PV},(∀x∈l,f x=.ret (g x))->kz l f=.ret (l.filterMap g)
 |[],_=>rfl
 |x::r,h=>by
  show bn (f x) (λo=>bn (kz r f) λl=>ca (o.toList++l))=_;rw[h x (.head _),yU λy hy=>h y (.tail _ hy),AL];cases g x<;>rfl
end
section
variable(i j:Int)(a b:Bool)(x y:PV)(l m:O PV)(s t:Str)
@[simp] theorem X9:kG (.int i) (.int j)=(i==j):=by rw[kG]
@[simp] theorem Il:kG (.str s) (.str t)=(s==t):=by rw[kG]
@[simp] theorem Ya:kG (.bl a) (.bl b)=(a==b):=by rw[kG]
@[simp] theorem aeJ:kG (.tup l) (.tup m)=fZ l m:=by rw[kG]
@[simp] theorem akp:kG (.cl l) (.cl m)=fZ l m:=by rw[kG]
@[simp] theorem ai1:fZ [] []=true:=by rw[fZ]
@[simp] theorem ai0:fZ (x::l) (y::m)=(kG x y&&fZ l m):=by rw[fZ]
@[simp] theorem agh:PV.fw (.int i)=true:=by rw[PV.fw]<;>simp
@[simp] theorem aiY:PV.fw (.bl a)=true:=by rw[PV.fw]<;>simp
@[simp] theorem agf:PV.fw (.str s)=true:=by rw[PV.fw]<;>simp
@[simp] theorem agg:PV.fw .aO=true:=by rw[PV.fw]<;>simp
@[simp] theorem V9:PV.fw (.tup l)=fb l:=by rw[PV.fw]
@[simp] theorem aiX:PV.fw (.cl l)=fb l:=by rw[PV.fw]
@[simp] theorem aeG:fb []=true:=by rw[fb]
@[simp] theorem ab3:fb (x::l)=(PV.fw x&&fb l):=by rw[fb]
@[simp] theorem aeN:PV.iK (.int i)=0:=by rw[PV.iK]<;>simp
@[simp] theorem agj:PV.iK (.bl a)=0:=by rw[PV.iK]<;>simp
@[simp] theorem aeL:PV.iK (.str s)=0:=by rw[PV.iK]<;>simp
@[simp] theorem aeM:PV.iK .aO=0:=by rw[PV.iK]<;>simp
@[simp] theorem aeK:PV.iK (.tup l)=dR l+1:=by rw[PV.iK]
@[simp] theorem agi:PV.iK (.cl l)=dR l+1:=by rw[PV.iK]
@[simp] theorem ab5:dR []=0:=by rw[dR]
@[simp] theorem aaV:dR (x::l)=max (PV.iK x) (dR l):=by rw[dR]
def Io:Oo (.int i) (.int j):=⟨by simp,by simp,by simp⟩
@[simp] theorem qA:of2 dN (.int i) (.int j)=.ret (.bl (i==j)):=by rw[uO,re (Io i j),X9]
@[simp] theorem aaZ:of2 vH (.int i) (.int j)=.ret (.bl (!(i==j))):=by rw[MM,re (Io i j),X9]
@[simp] theorem ai6:of2 dN (.bl a) (.bl b)=.ret (.bl (a==b)):=by rw[uO,re ⟨by simp,by simp,by simp⟩,Ya]
@[simp] theorem ai5:of2 vH (.bl a) (.bl b)=.ret (.bl (!(a==b))):=by rw[MM,re ⟨by simp,by simp,by simp⟩,Ya]
end
theorem js:∀{l:O PV},fb l=true↔∀x∈l,PV.fw x=true
 |[]=>by simp
 |x::l=>by rw[fb,AR,js];simp
theorem lq:∀{l:O PV},(∀x∈l,PV.iK x<=n)->dR l<=n
 |[],_=>by simp
 |x::l,h=>by
  have h1:=h x (.head _);have h2:=lq λy hy=>h y (.tail _ hy);rw[dR];lia
instance (priority:=10) akN:cx:=⟨[]⟩
end
section
variable[cx]
structure EV where
 P:wE
 w:Db
 K:Ab
 mg:Str->Option ci
 base:pc
structure DF where
 x:Str
 s:ut
 ps:List Str
 k:Nat
 sp:Ab->Sp
abbrev DF.C(d:DF)(v:EV):=Ts v.P v.w v.K v.mg v.base d.x d.k d.ps (d.sp v.K)
structure DI(v:EV)(d:DF) where
 f:db
 fd:FuncData
 fn:WZ v.K d.x d.x d.s f fd
 bi:Binds v.K fd d.ps []
 at':v.mg d.x=am (.ref f)
abbrev DI.O{v:EV}{d:DF}(D:DI v d):Prop:=lL v.P v.w v.K v.mg v.base GB d.k D.f D.fd d.ps (d.sp v.K)
def DI.c{v:EV}{d:DF}(D:DI v d)(h:D.O):d.C v:=⟨D.f,D.fd,h,D.bi,D.fn.kp,D.at'⟩
def DI.cN{v:EV}{d:DF}(D:DI v d)(h:lL v.P v.w v.K v.mg v.base GB k D.f D.fd d.ps sp):Ts v.P v.w v.K v.mg v.base d.x k d.ps sp:=⟨D.f,D.fd,h,D.bi,D.fn.kp,D.at'⟩
structure DX(K:Ab)(x:Str)(st:ut):Prop where
 ex:∃f fd,AU K im x=am (am (.ref f))/\WZ K x x st f fd
abbrev dnm(s:ut):Str:=match s with
 |.FunctionDef x _ _ _ _ _ _ _ _ _=>x
 |_=>""
def dx{K:Ab}{st:ut}{f:db}{kV:ci}(a:AU K im x=am (am (.ref f)))(l:K.lookup f=am ⟨oc,od,.func (Ca x x (fH st) (cZ st) (aQ st) .none kV Ê pm an fU ct),Tv⟩)(c:El K fU x=true)(k:Ek K (.ref f)=true):DX K x st:=⟨f,_,a,aaS l c k⟩
def fsc{N P:O Str}{sc:nw}(h1:‹sc.kind=.function›)(h2:‹sc.isCoroutine=false›)(h3:‹sc.isGenerator=false›)(h4:N.Nodup:=by decide +kernel)(h5:‹N.take P.length=P›)(h6:∀x∈P,sc.names.lookup x=am .local\/sc.names.lookup x=am .cell:=by decide +kernel)(h7:∀y∈sc.names,y.2≠.free:=by decide +kernel):fe N P sc:=⟨h1,h2,h3,h4,h5,h6,h7⟩
def lcs{N:O Str}{sc:nw}(h1:‹sc.kind=.function›)(h2:∀y∈sc.names,y.2=.cell->sc.names.lookup y.1=am .cell:=by decide +kernel)(h3:∀y∈sc.names,y.2=.local->sc.names.lookup y.1=am .local:=by decide +kernel)(h4:∀y∈sc.names,y.2=.free->(Xs.names.lookup y.1=am .cell\/Xs.names.lookup y.1=am .free):=by decide +kernel)(h5:N'.Nodup:=by decide +kernel)(h6:‹ix.length=N'.length›)(h7:((ix.zip N').all λp=>match p.1 with|none=>true|some j=>decide (N[j]?=am p.2)&&decide (sc.names.lookup p.2=am .free))=true:=by decide +kernel):a7 Xs N sc N' ix:=⟨h1,h2,h3,h4,h5,h6,h7⟩
abbrev nV(l:O (Str×wv)):nw:={kind:=.function,names:=(Cb ".0",.local)::l,isGenerator:=false,isCoroutine:=false,more:=[]}
abbrev lo:wv:=.local
abbrev gi:wv:=.globalImplicit
abbrev fr:wv:=.free
def Hq:O AK->Nat
 |[]=>0
 |.p _ _::ks=>Hq ks+1
 |_::ks=>Hq ks
theorem oz:∀{ks:O AK}{i:Nat},ks[i]?=am (.p ψ d)->Hq ks≠0
 |[],i,h=>by simp at h
 |.p _ _::_,_,_=>Nat.succ_ne_zero _
 |.v::ks,0,h=>by simp at h
 |.f _ _ _ _::ks,0,h=>by simp at h
 |.v::ks,i+1,h=>oz (ks:=ks) (by simpa using h)
 |.f _ _ _ _::ks,i+1,h=>oz (ks:=ks) (i:=i) (by simpa using h)
theorem yE:∀{ks:O AK},Nat.ble (Hq ks) 1=true->vk ks
 |[],_=>yF
 |.v::ks,h=>tQ (yE (ks:=ks) h)
 |.f _ _ _ _::ks,h=>adF (yE (ks:=ks) h)
 |.p _ _::ks,h=>λi j ⟨φ,d,a⟩ ⟨ψ,d',b⟩=>by
  have z:Hq ks+1<=1:=Ct h;cases i with|succ i=>exact absurd ∅ (oz (ks:=ks) (by simpa using a))|zero=>cases j with|succ j=>exact absurd ∅ (oz (ks:=ks) (by simpa using b))|zero=>rfl
abbrev JN(st:ut):O Str:=((aQ st).names.filter λy=>y.2==.local||y.2==.cell).map (·.1)
abbrev JB(st:ut):O Str:=(fH st).args.map (·.arg)
abbrev nml(sc:nw):O Str:=((sc.names.tail.filter λy=>y.2==.local||y.2==.cell)++sc.names.filter λy=>y.2==.free).map (·.1)
abbrev ixl(N:O Str)(sc:nw):O (Option Nat):=((sc.names.tail.filter λy=>y.2==.local||y.2==.cell).map λ_=>ce)++(sc.names.filter λy=>y.2==.free).map λy=>am (N.idxOf y.1)
abbrev LS(st:ut)(sc:nw):Prop:=a7 (aQ st) (JN st) sc (nml sc) (ixl (JN st) sc)
abbrev LT(Xs sc:nw):Prop:=a7 Xs (nml Xs) sc (nml sc) (ixl (nml Xs) sc)
def msk:Nat->aR->aR
 |_,[]=>[]
 |n,s::l=>(match n % 2 with|0=>s|_=>ce)::msk (n / 2) l
theorem dH.m:∀(n:Nat) {fs:aR},dH fs (msk n fs)
 |_,[]=>.refl _
 |n,s::l=>by
  unfold msk
  split
  .exact .keep (dH.m _)
  .exact .drop (dH.m _)
def O4:(n:Nat)->(O PV->W R->Prop)->Jk R n->Prop
 |0,B,m=>B [] m
 |n+1,B,m=>∀x:PV,O4 n (λl w=>B (x::l) w) (m x)
theorem O4.all:∀{n:Nat}{B:O PV->W R->Prop}{m:Jk R n},O4 n B m->∀l,l.length=n->B l (wJ n m l)
 |0,_,_,h,[],_=>h
 |n+1,_,_,h,x::l,e=>O4.all (h x) l (Nat.succ.inj e)
section
variable{v:EV}{st:ut}
abbrev BB{T:Type}(v:EV)(x:Str)(st:ut)(k:Nat)(ks:O AK)(f:db)(n:Nat)(m:Jk T n)(o:T->End):Prop:=∀{j:Nat}{fU:ci}{A:EQ}{outer:O Env}{s:cr}{H:Hp}{E:XK},eG k (A.deeper (Gc x (aQ st) s.heap.objs.size f fU))->(JN st).Nodup->O4 n (λl w=>SF (wq GB v.P v.w v.K v.mg v.base (JN st) x (aQ st) f fU A outer s H E).Xv v.K false (vf j ks l (JN st).length) (cZ st) w o) m
abbrev BP{T:Type}(v:EV)(x:Str)(st:ut)(k:Nat)(ks:O AK)(f:db)(n:Nat)(m:Jk T n)(o:T->End):Prop:=∀{fU:ci}{A:EQ}{outer:O Env}{s:cr}{H:Hp}{E:XK} (j:Nat),eG k (A.deeper (Gc x (aQ st) s.heap.objs.size f fU))->(JN st).Nodup->O4 n (λl w=>SF (wq GB v.P v.w v.K v.mg v.base (JN st) x (aQ st) f fU A outer s H E).Xv v.K false (vf j ks l (JN st).length) (cZ st) w o) m
def sG{m:Jk PV n}(D:DI v ⟨x,st,JB st,k+1,λK=>PY K ks (wJ n m)⟩)(Ï:BB v x st k ks D.f n m .rt)(VZ:‹ks.length=(JB st).length›)(one:‹Nat.ble (Hq ks) 1=true›)(S:fe (JN st) (JB st) (aQ st):=by exact fsc):D.O:=fnV D.fn S VZ (yE one) λj l e fU A outer s H E hr=>(Ï hr S.nd).all l e
def Je{m:Jk (O PV) n}(D:DI v ⟨x,st,JB st,k+1,λK=>yf K ks (wJ n m)⟩)(Ï:BB v x st k ks D.f n m .rl)(VZ:‹ks.length=(JB st).length›)(one:‹Nat.ble (Hq ks) 1=true›)(S:fe (JN st) (JB st) (aQ st):=by exact fsc):D.O:=fnL D.fn S VZ (yE one) λj l e fU A outer s H E hr=>(Ï hr S.nd).all l e
def Vo{m:Jk PV n}(D:DI v ⟨x,st,JB st,k+1,λK=>PY K ks (wJ n m)⟩)(Ï:BP v x st k ks D.f n m .rt)(VZ:‹ks.length=(JB st).length›)(one:‹Nat.ble (Hq ks) 1=true›)(S:fe (JN st) (JB st) (aQ st):=by exact fsc):D.O:=sG D (λ{j _ _ _ _ _ _}=>Ï j) VZ one S
end
section
variable{K:Ab}{W':W PV}{WL:W (O PV)}
theorem eC{m:O PV->W PV}(G:Ts X.prog X.w X.K X.mg X.base x k ps (PY K ks m))(hr:eG k' X.A)(ha:AF X K fs (e::es) ks B f1)(hk:k<=k':=by first|exact Ct rfl|exact Al _|lia)(hg:‹Gl X x›)(hW:‹W'=B m›)(mz: ~~~(jz x))(he:‹hV X e es›)(eB:‹mm X pos es›):EF X K fs (.Call (.Name x p) (e::es) [] pos) W' f1:=Wm G hr hk hg ha hW mz he eB
theorem lC{m:O PV->W (O PV)}{B:(O PV->W (O PV))->W (O PV)}(G:Ts X.prog X.w X.K X.mg X.base x k ps (yf K ks m))(hr:eG k' X.A)(ha:AF X K fs (e::es) ks B f1)(hk:k<=k':=by first|exact Ct rfl|exact Al _|lia)(hg:‹Gl X x›)(hW:‹WL=B m›)(mz: ~~~(jz x))(he:‹hV X e es›)(eB:‹mm X pos es›):LF X K fs (.Call (.Name x p) (e::es) [] pos) WL f1:=Vz G hr hk hg ha hW mz he eB
variable{n0 mx:Nat}{y0:Str}
theorem eP(i:Nat){m:O PV->W PV}(G:Ts X.prog X.w X.K X.mg X.base x k ps (PY K (.p ψ d::ks) m))(hr:eG k' X.A)(ha:AF X K fs es ks B f1)(hs:‹fs[i]?=am (am (.dB ψ n0 mx))›)(pN:‹f1[i]?=am (am (.dB ψ n mx))›)(hd:n+d<=mx:=by omega)(hk:k<=k':=by first|exact Ct rfl|exact Al _|lia)(hg:‹Gl X x›)(hW:‹W'=B m›)(mz: ~~~(jz x))(hN:‹X.N[i]?=am y0›)(hv:Jh X.env.scope y0:=by first|exact Cg rfl|exact Cr (Cg rfl)|exact Cr (Cr rfl))(ł: ~~~(jz y0))(kD: ~~~(LC y0))(he:‹gt (.Name y0 py::es) X.env=(false,o0 (.Name y0 py) X.env)::gt es X.env›)(eB:‹mm X pos es›):EF X K fs (.Call (.Name x p) (.Name y0 py::es) [] pos) W' (f1.set i (am (.dB ψ (n+d) mx))):=hW▸Wn i G hr hk hg hs ha pN hd mz hN hv ł kD he eB
theorem pP.s:∀{fs:aR} (i:Nat) {n n' m:Nat},n<=n'/\n'<=m->(hs:‹fs[i]?=am (am (.dB ψ n m))›)->pP fs (fs.set i (am (.dB ψ n' m)))
 |[],_,_,_,_,_,h=>by simp at h
 |s::l,0,_,_,_,k,h=>by simp at h;subst h;exact .bump k (.refl _)
 |s::l,i+1,_,_,_,k,h=>by exact .keep (pP.s (fs:=l) i k (by simpa using h))
def cX(i:Nat)(hN:X.N.Nodup)(hi:‹X.N[i]?=am x›)(hx:Loc X.env.scope x:=by first|exact .inl rfl|exact .inr rfl)(hf:Tp X x:=by first|exact .inl rfl|exact .inr rfl|assumption):PG X (.Name x pos) (eI i):=UT hN hi hx hf
variable{T:Type}{out:T->End}{b:Bool}{rest:O ut}
def sv(i:Nat){k:PV->W T}(hN:X.N.Nodup)(he:EF X K fs e we f1)(hr:∀v,SF X K b (f1.set i (am (.val v))) rest (k v) out)(hi:‹X.N[i]?=am y›)(hx:Loc X.env.scope y:=by first|exact .inl rfl|exact .inr rfl)(hs:‹r9 e (am (.Name y p')) pos.line X.env=pure false›)(hf:Tp X y:=by first|exact .inl rfl|exact .inr rfl|assumption):SF X K b fs (.Assign [.Name y p'] e pos::rest) (.bind we k) out:=SF.set hN hi hx he hr hs hf
def sl(i:Nat){k:O PV->W T}(hN:X.N.Nodup)(he:LF X K fs e wl f1)(hr:∀l,SF X K b (f1.set i (am (.ol ce l))) rest (k l) out)(hi:‹X.N[i]?=am y›)(hx:Loc X.env.scope y:=by first|exact .inl rfl|exact .inr rfl)(hs:‹r9 e (am (.Name y p')) pos.line X.env=pure false›)(hf:Tp X y:=by first|exact .inl rfl|exact .inr rfl|assumption):SF X K b fs (.Assign [.Name y p'] e pos::rest) (.bind wl k) out:=SF.ahh hN hi hx he hr hs hf
end
end
end FL
variable{v:FL.EV}{m:PL.PV->FL.W PL.PV}{d:FL.DF}
namespace FL
section
variable[cx]
def afq:(n:Nat)->(O ci->Prop)->Prop
 |0,P=>P []
 |n+1,P=>∀x,afq n λl=>P (x::l)
theorem usN:∀{n:Nat}{P:O ci->Prop},afq n P->∀us:O ci,us.length=n->P us
 |0,_,h,[],_=>h
 |n+1,_,h,x::l,e=>usN (h x) l (Nat.succ.inj e)
def DX.mk2(D:DX v.K d.x d.s)(X:v.K.In h)(G:h.Ns im v.mg)(hb:∀(kV Ê pm:ci) (an:Option db) (fU ct:ci) (us:O ci),us.length=d.ps.length->bindArgs (Ca d.x d.x (fH d.s) (cZ d.s) (aQ d.s) .none kV Ê pm an fU ct) ⟨us,[]⟩=pure (d.ps.zip us):=by exact λ_ _ _ _ _ _=>usN (by (repeat intro _);rfl)):Nonempty (DI v d):=by
 obtain⟨f,fd,a,F⟩:=D.ex;exact⟨⟨f,fd,F,F.binds hb,BW X G a⟩⟩
def DX.go(D:DX v.K d.x d.s)(X:v.K.In h)(G:h.Ns im v.mg){P:Prop}(k:∀D:DI v d,D.O)(r:d.C v->P)(hb:∀(kV Ê pm:ci) (an:Option db) (fU ct:ci) (us:O ci),us.length=d.ps.length->bindArgs (Ca d.x d.x (fH d.s) (cZ d.s) (aQ d.s) .none kV Ê pm an fU ct) ⟨us,[]⟩=pure (d.ps.zip us):=by exact λ_ _ _ _ _ _=>usN (by (repeat intro _);rfl)):P:=by
 obtain⟨D⟩:=D.mk2 X G hb;exact r (D.c (k D))
def PX(K:Ab):Sp:=λvs H Q _=>TB H/\∃(a:db) (ns:O Int),vs=[.ref a]/\Jj K H a (ns.map V.int)/\ns.length<=63/\∀H',Q (.bl true) H'
def Vv{K:Ab}(ok:∀ns:O Int,ns.length<=63->(m (.cl (ns.map PV.int))).run (·=.bl true)):∀vs H Q E,PX K vs H Q E->PY K [.v] (wJ 1 m) vs H Q E:=λvs H Q E ⟨tb,a,ns,e,fz,hl,q⟩=>by
 subst e;refine⟨tb,0,[.cl (ns.map PV.int)],.v (.cl fz (zb _ _ ns)) .nil,(m (.cl (ns.map PV.int))).mono (λv e u H' _ r=>?_) (ok ns hl)⟩;subst e;cases r;exact q H'
structure afr(K:Ab)(mg:Str->Option ci)(d:DF):Prop where
 f:∀v:EV,v.K=K->v.mg=mg->∀D:DI v d,D.O
def mkAll{l:PySem.W.OpenLaw}{K:Ab}{fa:db}{st:ut}(ok:∀ns:O Int,ns.length<=63->(m (.cl (ns.map PV.int))).run (·=.bl true))(X:K.In h)(G:h.Ns im mg)(hfa:mg "law"=am (.ref fa))(aeW:DX K "law" st)(hb:∀(kV Ê pm:ci) (an:Option db) (fU ct:ci) (us:O ci),us.length=1->bindArgs (Ca "law" "law" (fH st) (cZ st) (aQ st) .none kV Ê pm an fU ct) ⟨us,[]⟩=pure (([("_law_script":Str)]:O Str).zip us))(F:afr K mg ⟨"law",st,["_law_script"],k,λK=>PY K [.v] (wJ 1 m)⟩):∃fd:FuncData,(∀(s:cr) (v:ci),BindsTo s fd ⟨[v],[]⟩ [("_law_script",v)])/\∀base:pc,K.In base->base.Ns im mg->lL l.prog w K mg base GB k fa fd ["_law_script"] (PX K):=by
 obtain⟨f,fd,a,F'⟩:=aeW.ex;have e:=hfa.symm.trans (BW X G a);cases e;obtain⟨oc,od,kV,Ê,pm,an,fU,ct,Tv,rfl,_⟩:=id F'.ex;exact⟨Ca "law" "law" (fH st) (cZ st) (aQ st) .none kV Ê pm an fU ct,λs v=>.of_eq (hb kV Ê pm an fU ct [v] rfl),λbase _ _=>(F.f ⟨l.prog,w,K,mg,base⟩ rfl rfl ⟨_,_,F',(F'.binds (ps:=["_law_script"]) hb),hfa⟩).imp (Vv ok)⟩
section
variable{K:Ab}{R:Type}{B:(O PV->W R)->W R}
def av(i:Nat){v:PV}(hr:AF X K fs es ks B f1)(hs:‹fs[i]?=am (am (.val v))›)(hN:‹X.N[i]?=am x›)(hv:Jh X.env.scope x:=by first|exact Cg rfl|exact Cr (Cg rfl)|exact Cr (Cr rfl))(hd: ~~~(jz x))(kD: ~~~(LC x))(h:‹gt (.Name x pos::es) X.env=(false,o0 (.Name x pos) X.env)::gt es X.env›):AF X K fs (.Name x pos::es) (.v::ks) (λk=>.bind (.ret v) λx=>B λl=>k (x::l)) f1:=ai (ae i hs hN hv hd kD) hr h
end
end
section
variable[cx]
structure Lm where
 q:Str
 ar:Arguments
 bd:mo
 sc:nw
end
end FL
variable{o:Option L2.HO}{ts:O Bq}
namespace L2
def Ju(ts:O db)(a:db)(o:Option HO):Hp:=λb=>if b∈ts then am (.GR #[]) else if b=a then o else ce
def Pw(h:b∈ts):Ju ts a o b=am (.GR #[]):=if_pos h
def YQ(h:a∉ts):Ju ts a o a=o:=by unfold Ju;rw[if_neg h,if_pos rfl]
def n8{u:HO}(h:Ju ts a o b=am u):(b∈ts/\u=.GR #[])\/(b=a/\o=am u):=by
 unfold Ju at h;by_cases c:b∈ts
 .rw[if_pos c]at h;cases h;exact .inl ⟨c,rfl⟩
 .rw[if_neg c]at h;by_cases d:b=a
  .rw[if_pos d]at h;exact .inr ⟨d,h⟩
  .rw[if_neg d]at h;cases h
def NV{K:Ab}{mb:Str->Option ci}{fa:db}{s₁:cr}(KX:K.In s₁.heap)(Kr:s₁.heap.Ns im mg)(hb:s₁.heap.Ns GE mb)(hbb:∀x:Str,x≠"__name__"->mb x=pr x)(ait:s₁.heap.NoLimit)(hbm:∃bm ob,mg "__builtins__"=am (.ref bm)/\bm≠GE/\s₁.heap.get? bm=am ob/\ob.cls=.type "module"/\ob.dict=am GE/\ob.data=.plain)(hg:s₁.gens=#[])(ha:s₁.heap.get? a=am {cls:=.type "list",data:=.seq vs.toArray})(hi:wS vs ns)(hl:ns.length<=sizeLine)(hr:eG k callerA)(ht:∀P∈ts,s₁.heap.get? P=am (FA #[]))(htK:∀P∈ts,K.lookup P=ce)(htC:∀P∈ts,isCodeTable s₁.heap P)(F:∀base:pc,K.In base->base.Ns im mg->lL P w K mg base GB k fa fd [x] sp)(aeu:∀(s:cr) (u:ci),BindsTo s fd ⟨[u],[]⟩ [(x,u)])(á:∀H:Hp,(∀P∈ts,H P=am (.GR #[]))->PL.Jj K H a (ns.map V.int)->sp [.ref a] H (λv _=>v=.bl true) λ_ _ _=>False):KF (gl P w) callerA (.call (.ref fa) ⟨[.ref a],[]⟩) (λr s'=>r=.ok (.ret (.bool true))/\OldK s₁.heap s'.heap/\s'.os=s₁.os/\Rs s'.gens) s₁:=by
 have rv:=pT hi;have ahQ:=hi.length;have Ù:∀H:Hp,(∀P∈ts,H P=am (.GR #[]))->PL.Jj K H a (ns.map V.int)->mH P w H s₁.heap->(∀b o,H b=am o->(b∈ts/\o=.GR #[])\/(b=a/\K.lookup a=ce/\∃o' u,o=.cn o' u))->
   KF (gl P w) callerA (.call (.ref fa) ⟨[.ref a],[]⟩) (λr s'=>r=.ok (.ret (.bool true))/\OldK s₁.heap s'.heap/\s'.os=s₁.os/\Rs s'.gens) s₁:=by
  intro H hT hS bG hA;have zV:∀{b:db}{o:Obj},s₁.heap.get? b=am o->H b=ce->(zf s₁.heap H).get? b=am o:=λe n=>RV e n;have ć:∀{b:db}{o:Obj}{es:Array DictEntry}{ep:Nat},s₁.heap.get? b=am o->o.data=.dict es ep->H b=ce:=λ{b o es ep} e d=>by
   cases q:H b with
   |none=>rfl
   |some u=>
    rcases hA b u q with⟨z,_⟩|⟨z,_⟩
    .rw[ht b z]at e;cases e;cases d
    .subst z;rw[ha]at e;cases e;cases d
  have ĝ:∀{b:db}{m:Str->Option ci},s₁.heap.Ns b m->(zf s₁.heap H).Ns b m:=λ{b m} ⟨o,es,ep,e,d,r⟩=>⟨o,es,ep,zV e (ć e d),d,r⟩;have hKb:K.In (zf s₁.heap H):=λb o e=>zV (KX b o e) (by
   cases q:H b with
   |none=>rfl
   |some u=>
    rcases hA b u q with⟨z,_⟩|⟨z,z2,_⟩
    .rw[htK b z]at e;cases e
    .subst z;rw[z2]at e;cases e)
  have hM:Mod K mg (zf s₁.heap H):=⟨hKb,ĝ Kr,⟨mb,ĝ hb,hbb⟩,let ⟨mc,h1,h2⟩:=ait;⟨mc,ĝ h1,h2⟩,let ⟨bm,ob,h1,h2,h3,h4,h5,h6⟩:=hbm;⟨bm,ob,h1,h2,zV h3 (by
   cases q:H bm with
   |none=>rfl
   |some u=>
    rcases hA bm u q with⟨z,_⟩|⟨z,_⟩
    .rw[ht bm z]at h3;cases h3;cases h6
    .subst z;rw[ha]at h3;cases h3;cases h6),h4,h5,h6⟩⟩
  have e0:W0 P w K mg (zf s₁.heap H) callerA [] s₁ H:=⟨rfl,hM,λb o e=>Vd e,F6 (Od _ _),trivial,λb hb=>absurd (show b∈([]:O db) from hb) (by simp),bG,.of_eq hg⟩;refine Re ((F _ hKb (ĝ Kr)).run callerA [] s₁ H ⟨[.ref a],[]⟩ [.ref a] [.ref a] _ _ hr e0 (aeu s₁ (.ref a)) (.cons rfl .nil) (á H hT hS)) λr s' h=>?_;cases r with
  |error e=>exact h.elim
  |ok fl=>
   cases fl with
   |next=>exact BZ h
   |brk=>exact BZ h
   |cont=>exact BZ h
   |ret u=>
    obtain⟨v,H',os,bare,un,aee,r',q⟩:=h;have q':v=.bl true:=q;subst q';obtain rfl:u=FX true:=r';refine⟨rfl,⟨λb o e=>?_,λb o e=>un.there b o e (by simp)⟩,os,bare⟩;cases q:H b with
    |none=>exact .inl (un.keep b o e q (by intro z;exact absurd (show b∈([]:O db) from z) (by simp)) (by simp))
    |some u=>
     rcases hA b u q with⟨z,rfl⟩|⟨z,_,o',u',rfl⟩
     .obtain⟨more,h2⟩:=un.vD b _ q;have h3:s'.heap.get? b=am (FA (#[]++more)):=aee b _ h2;rw[ht b z]at e;cases e;exact .inr (.inl ⟨htC b z,rfl,#[],more,rfl,h3⟩)
     .have z2:=un.uI b _ _ q;obtain⟨e1,_⟩:=bG b _ q;obtain⟨e2,_⟩:=aee b _ z2;rw[e]at e1;cases e1;exact .inl e2
 have naT:a∉ts:=λz=>by rw[ht a z]at ha;cases ha
 cases hk:K.lookup a with
 |some o=>
  have e:=KX a o hk;rw[ha]at e;cases e;refine Ù (Ju ts a ce) (λb hb=>Pw hb) (.inr ⟨_,vs.toArray,_,hk,rfl,rfl,rfl,by rw[Am,ahQ];exact hl,by simpa using rv⟩) (λb u z=>?_) λb u z=>?_
  .rcases n8 z with⟨y,rfl⟩|⟨_,y⟩
   .exact ht b y
   .cases y
  .rcases n8 z with⟨y,rfl⟩|⟨_,y⟩
   .exact .inl ⟨y,rfl⟩
   .cases y
 |none=>
  refine Ù (Ju ts a (am (.cn {cls:=.type "list",data:=.seq vs.toArray} (.lst (ns.map V.int))))) (λb hb=>Pw hb) (.inl ⟨{cls:=.type "list",data:=.seq vs.toArray},YQ naT⟩) (λb u z=>?_) λb u z=>?_
  .rcases n8 z with⟨y,rfl⟩|⟨rfl,y⟩
   .exact ht b y
   .cases y;exact⟨ha,by rw[Af];exact hl,vs,_,rv,ha⟩
  .rcases n8 z with⟨y,rfl⟩|⟨rfl,y⟩
   .exact .inl ⟨y,rfl⟩
   .cases y;exact .inr ⟨rfl,hk,_,_,rfl⟩
end L2
namespace FL
section
variable[cx]
abbrev EV.at(v:EV)(b:pc):EV:=⟨v.P,v.w,v.K,v.mg,b⟩
def DI.at(D:DI v d)(b:pc):DI (v.at b) d:=⟨D.f,D.fd,D.fn,D.bi,D.at'⟩
def walkT{l:PySem.W.OpenLaw}{q:wE}{d:DefRec}{K:Params->Ab}(hn:l.most=am 63)(Ŕ:d.params.defaults=[])(hr:eG k callerA)(hY:∀(w:Db) (h:pc),YP w h->(K w.params).In h/\∀P∈cx.ts.map (·.1),h.get? P=am (FA #[]))(hK:∀w:Db,∀P∈cx.ts.map (·.1),(K w.params).lookup P=ce)(hC:∀(w:Db) (h:pc),(K w.params).In h->∀P∈cx.ts.map (·.1),isCodeTable h P)(F:∀(w:Db) (mg:Str->Option ci) (fa:db) (h:pc),(K w.params).In h->h.Ns im mg->mg d.name=am (.ref fa)->
   ∃fd:FuncData,(∀(s:cr) (u:ci),BindsTo s fd ⟨[u],[]⟩ [("_law_script",u)])/\∀base:pc,(K w.params).In base->base.Ns im mg->lL l.prog w (K w.params) mg base GB k fa fd ["_law_script"] (PX (K w.params))):PySem.W.WalkO q Ö XP YP l.row.toRowW d [] (λf vs=>PySem.call f vs):=by
 refine Att.IJ hn Ŕ λw s₀ s₁ mg mb fa o pm cd Ê a vs ns G Y ho hd kD hmg Ť Ø Á hg=>?_;obtain⟨KX,hT⟩:=hY w _ Y;obtain⟨fd,hb,hF⟩:=F w mg fa _ KX G.T.g hmg;exact NV KX G.T.g G.T.b G.T.builtins G.T.nolimit G.T.bmain hg Ť Ø (AD Á ⋯) hr hT (hK w) (hC w _ KX) hF hb λH Ĭ hS=>⟨λp hp=>⟨#[],Ĭ _ (Ao.mpr ⟨p,hp,rfl⟩),trivial,λpos c z=>by simp[codeAmong]at z⟩,a,ns,rfl,hS,Á,λ_=>rfl⟩
end
end FL
variable{x:Bool}{i p m:Nat}
namespace FL
section
variable[cx]
variable{K:Ab}
def bb:sizeLine=16777216:=by decide
section
variable{rest:O ut}{S T:Type}{hd:Nat->S->aR}{hE:S->aR}{s0:S}{k:S->W T}{out:T->End}{R:Type}{inj:R->T}
def SF.X6{f:PV->S->W S}(hp:wn (gl X.prog X.w) X.A X.env X.xe)(hc:X.calm=true)(hi:nW X K fs tg iter wl f1)(hl:dH f1 (hd 0 s0))(hg:PG X tg (eI i))(hb:∀j s p,j<16777216->SF X K false ((hd j s).set i (am (.val p))) body (f p s) λs'=>.nc (hd (j+1) s'))(hx:∀j s,j<=16777216->dH (hd j s) (hE s))(hr:∀s,SF X K x (hE s) rest (k s) out)(hs:rj X iter:=by intro _;rfl):SF X K x fs (.For tg iter body [] pos::rest) (.bind wl λl=>.bind (bU l s0 f) k) out:=SF.aeF hp hc hi hl (λ_ _=>g_1 hg) (λ_ _=>rfl) (λj s p h=>hb j s p (bb▸h)) (λj s h=>hx j s (bb▸h)) hr hs
def SF.aaT{f:PV->S->W (Lp S R)}(hp:wn (gl X.prog X.w) X.A X.env X.xe)(hc:X.calm=true)(hi:nW X K fs tg iter wl f1)(hl:dH f1 (hd 0 s0))(hg:PG X tg (eI i))(ho:∀t,(out (inj t)).HM)(hb:∀j s p,j<16777216->SF X K false ((hd j s).set i (am (.val p))) body (f p s) (lpE (hd (j+1)) λr=>out (inj r)))(hx:∀j s,j<=16777216->dH (hd j s) (hE s))(hr:∀s,SF X K x (hE s) rest (k s) out)(hs:rj X iter:=by intro _;rfl):SF X K x fs (.For tg iter body [] pos::rest) (.bind wl λl=>.bind (FL.mD l s0 f) (Pb k inj)) out:=SF.X5 hp hc hi hl (λ_ _=>g_1 hg) (λ_ _=>rfl) ho (λj s p h=>hb j s p (bb▸h)) (λj s h=>hx j s (bb▸h)) hr hs
end
section
variable{sc:nw}{f:PV->W PV}{fs3:Nat->PV->aR}
theorem Qa:∀{l:aR}{p:Nat}{s:Option SL},l[p]?=am s->l.set p s=l
 |[],_,_,_=>rfl
 |_::l,0,s,h=>by simp at h;subst h;rfl
 |x::l,p+1,s,h=>by show x::l.set p s=_;rw[Qa (by simpa using h)]
theorem set_set:∀{l:aR}{p:Nat}{s t:Option SL},(l.set p s).set p t=l.set p t
 |[],_,_,_=>rfl
 |_::l,0,_,_=>rfl
 |x::l,p+1,s,t=>by show x::(l.set p s).set p t=x::l.set p t;rw[set_set]
abbrev iC(f1:aR)(p:Nat)(ψ:Nat->O V->Prop)(n m:Nat):aR:=f1.set p (am (.dB ψ n m))
def tL(hp:f1[p]?=am (am (.dB ψ n m)))(n' m':Nat):(iC f1 p ψ n' m')[p]?=am (am (.dB ψ n' m')):=bc ((Aj.mp hp).1)
def Mb(hp:f1[p]?=am (am (.dB ψ n m))){a b:Nat}(h:a<=b/\b<=m):pP (iC f1 p ψ a m) (iC f1 p ψ b m):=by
 have:=pP.s (fs:=iC f1 p ψ a m) p (n':=b) h (tL hp a m)
 rwa [show(iC f1 p ψ a m).set p (am (.dB ψ b m))=iC f1 p ψ b m from set_set]at this
def abo{q:Nat}(hp:f1[p]?=am (am (.dB ψ n m)))(hq:ix[q]?=am (am p))(inj:∀i i' j:Nat,ix[i]?=am (am j)->ix[i']?=am (am j)->i=i'){a b:Nat}(h:a<=b/\b<=m):dH (bh ix (iC f1 p ψ a m)) (bh ix (iC f1 p ψ b m)):=by
 have e:bh ix (iC f1 p ψ b m)=(bh ix (iC f1 p ψ a m)).set q (am (.dB ψ b m)):=by
  unfold bh;refine BF λr=>?_;by_cases c:r=q
  .subst c;rw[bc (by rw[Af];exact(Aj.mp hq).1),Ah,hq];show am (((iC f1 p ψ b m)[p]?).getD ce)=_;rw[tL hp];rfl
  .rw[aD c,Ah,Ah];cases z:ix[r]? with
   |none=>rfl
   |some o=>
    cases o with
    |none=>rfl
    |some j=>
     have jp:j≠p:=λy=>c (inj r q p (y▸z) hq);show am (((iC f1 p ψ b m)[j]?).getD ce)=am (((iC f1 p ψ a m)[j]?).getD ce);rw[aD jp,aD jp]
 rw[e];refine(pP.s q h ?_).f;unfold bh;rw[Ah,hq];show am (((iC f1 p ψ a m)[p]?).getD ce)=_;rw[tL hp];rfl
def Vu{N:O Str}(S:a7 Xs N sc N' ix):∀i i' j:Nat,ix[i]?=am (am j)->ix[i']?=am (am j)->i=i':=λi i' j h1 h2=>by
 have hi:i<N'.length:=by rw[<- S.len];exact(Aj.mp h1).1
 have Kt:i'<N'.length:=by rw[<- S.len];exact(Aj.mp h2).1
 have e2:=(S.at h2 (Ad Kt)).1;rw[((S.at h1 (Ad hi)).1)]at e2;exact(EY S.nd).mp (Option.some.inj e2)
theorem Vy(p q d nE:Nat)(hc:X.calm=true)(S:a7 X.env.scope X.N sc N' ix)(hi:nW X K fs tg iter wl f1)(hg:∀cl C s2 H2 fp,PG (fg X sc N' cl C s2 H2 fp) tg (eI i))(he:∀cl C s2 H2 fp j t,j<16777216->EF (fg X sc N' cl C s2 H2 fp) K ((bh ix (iC f1 p ψ (n+d*j) m)).set i (am (.val t))) Ã (f t) (fs3 j t))(h3:∀j t,j<16777216->dH (fs3 j t) (bh ix (iC f1 p ψ (n+d*(j+1)) m)))(hd:n+d*16777216<=nE/\nE<=m)(h0:ix[i]?=am ce)(hp:‹f1[p]?=am (am (.dB ψ n m))›)(hq:‹ix[q]?=am (am p)›)(hs:rj X iter:=by intro _;rfl):LF X K fs (.ListComp Ã [⟨tg,iter,[],0⟩] sc pos) (.bind wl λl=>bx l f) (iC f1 p ψ nE m):=by
 have h1:∀j,(bh ix (iC f1 p ψ (n+d*j) m))[i]?=am ce:=λj=>by unfold bh;rw[Ah,h0];rfl
 have bd:∀j,j<=sizeLine->n+d*j<=nE:=λj h=>by
  have h':j<=16777216:=by rw[<- bb];exact h
  have:=Nat.mul_le_mul_left d h';lia
 have up:∀j,n+d*j<=n+d*(j+1):=λj=>by have:=Nat.mul_le_mul_left d (Bk j 1);lia
 refine Z5 (hd:=λj=>iC f1 p ψ (n+d*j) m) (fs2:=λj t=>(bh ix (iC f1 p ψ (n+d*j) m)).set i (am (.val t))) hc S hi (λcl C s2 H2 fp j=>g_1 (hg cl C s2 H2 fp)) (λcl C s2 H2 fp j t h=>he cl C s2 H2 fp j t (bb▸h)) (λ_=>rfl) (λj=>(Rn (h1 j)).1) (λj hj=>by rw[AM]at hj;subst hj;exact h0) ?_ (λj h=>Mb hp ⟨bd j h,hd.2⟩) (λj h=>(Mb hp ⟨up j,AD (bd (j+1) h) hd.2⟩).ev) (λj r=>?_) (λj t h=>((Rn (h1 j)).2 t).trans (abo hp hq (Vu S) ⟨up j,AD (bd (j+1) h) hd.2⟩)) (λj t h=>h3 j t (bb▸h)) hs
 .have:iC f1 p ψ (n+d*0) m=f1:=Qa hp;rw[this];exact .refl _
 .by_cases c:r=p
  .subst c;exact .inr ⟨q,hq⟩
  .exact .inl (by rw[aD c,aD c])
end
end
end FL
variable{s:C9}{j:Nat}{c:Int}{vs:O L2.V}
namespace FL
section
variable[cx]
variable{K:Ab}
def iB:Nat->O V->Prop:=λj vs=>∃(b:db) (s c:Int),vs=[.ref b,.int s,.int c]/\0<=c/\c<=(j:Int)
section
def N6(I:Inv X U σ H s)(e:dW H b):∃ns:O Int,Inv X U σ (upd H b (.lst (ns.map V.int))) s:=by
 have e:H b=am (.ext (Ja b)):=e;obtain⟨⟨ns,eW,n',z',v',g'⟩,_⟩:=(show bC X.prog X.w H s.heap b (.ext (Ja b)) from I.bG b _ e);exact⟨ns,I.write (x:=b) (e:=b) (o:=.lst (ns.map V.int)) (h':=s.heap) (t':=s.toks) (by rw[e];exact B6) (.inl rfl) (λb u _ z=>z) ⟨_,g'⟩ ⟨by rw[Af];exact z',eW,n',v',g'⟩⟩
def N8:∀h1 h2:pc,Ja b h1->(∀o,h1.get? b=am o->h2.get? b=am o)->Ja b h2:=λ_ _ ⟨ns,aq,n,z,v,e⟩ k=>⟨ns,aq,n,z,v,k _ e⟩
def xt(I:Inv X U σ H s)(e:H b=am (.lst (ns.map V.int))):Inv X U σ (upd H b (.ext (Ja b))) s:=by
 obtain⟨z',eW,n',v',g'⟩:=(show bC X.prog X.w H s.heap b (.lst (ns.map V.int)) from I.bG b _ e);exact I.write (x:=b) (e:=b) (o:=.ext (Ja b)) (h':=s.heap) (t':=s.toks) (by rw[e];exact B6) (.inl rfl) (λb u _ z=>z) ⟨_,g'⟩ ⟨⟨ns,eW,n',by rw[Af]at z';exact z',v',g'⟩,⟨_,g'⟩,N8⟩
def aep(b:db)(D:Ends):Ends:={nx:=λ_ _=>False,rt:=λv H'=>∃ns:O Int,H' b=am (.lst (ns.map V.int))/\D.rt v (upd H' b (.ext (Ja b)))}
def pO.shown{Tt:O ut}{t:TS}(h:pO X Tt t):pO X Tt λD σ H=>∃b,dW H b/\∀ns:O Int,t (aep b D) σ (upd H b (.lst (ns.map V.int))):=λU s σ H D I ⟨b,e,q⟩=>by
 obtain⟨ns,I1⟩:=N6 I e;refine cf (h U s σ _ _ I1 (q ns)) λfl s' z=>?_;cases fl with
 |next=>obtain⟨_,_,_,z⟩:=z;exact z.elim
 |brk=>obtain⟨_,_,_,z⟩:=z;exact z.elim
 |cont=>obtain⟨_,_,_,z⟩:=z;exact z.elim
 |ret u=>
  obtain⟨v,σ',H',I',r,ns,e1,z⟩:=z;exact⟨v,σ',_,xt I' e1,r,z⟩
end
section
variable{Tt:O ut}{T:Type}{w:W T}{out:T->End}
def aeX(h:LF X K fs e wl aA):EF X K fs e (.bind wl λl=>.eK (∃ns:O Int,l=ns.map PV.int) (.ret .hand)) aA:=⟨λU s σ H Q I ⟨sr,q⟩=>by
 refine cf (h.p U s σ H (λu H1=>∃a vs l,u=.ref a/\cE σ fs H H1 aA/\aY K H1 σ aA/\H a=ce/\H1 a=am (.lst vs)/\aF K [] H1 vs l/\(∃ns:O Int,l=ns.map PV.int)/\∀u H',cE σ fs H H' aA->aY K H' σ aA->VR K [] H' u .hand->Q u H') I ⟨sr,wl.mono (λl q1 a vs H1 g1 s1 n e v=>⟨a,vs,l,rfl,g1,s1,n,e,v,q1.1,q1.2⟩) q⟩) λu s1 ⟨v,H1,I1,r1,a,vs,l,e,g1,Uv,n,ea,vr,⟨ns,el⟩,q1⟩=>?_;subst e el;have:=lX vr;subst this;exact⟨.ref a,_,xt I1 ea,r1,q1 _ _ (g1.side n (λφ=>by rw[ea];simp) _) (Uv.side (λz=>sr.noOwn n (g1.ev.fm z)) ea _) (.hand aH)⟩⟩
def SF.iB(i m:Nat){l:O PV}(hs:fs[i]?=am (am (.ol ce l)))(hr:SF X K x (fs.set i (am (.dB FL.iB 0 m))) Tt w out)(hm: ~~~(m<=JA)):SF X K x fs Tt (.eK (∃s:Int,l=[.hand,.int s,.int 0]) w) out:=⟨λU s σ H D I ⟨sr,q⟩=>by
 obtain⟨⟨sd,el⟩,q⟩:=q;obtain⟨a,ws,e1,h1,r1⟩:=d8 sr hs;subst el;cases r1 with
 |cons ra r1=>
 cases r1 with
 |cons rb r1=>
 cases r1 with
 |cons rc r1=>
 cases r1;cases ra with
 | @hand b hb=>
 cases rb;cases rc;obtain⟨s2,g2⟩:=m9 (t':=.dB FL.iB 0 m) sr hs rfl (by simp) e1 (λ_ _ _ z=>z:lK a H H) λtk=>⟨⟨0,_,Al 0,h1,⟨b,sd,0,rfl,Bu 0,Bu 0⟩,λc hc=>by simp at hc;subst hc;exact hb⟩,A9 m,hm⟩;exact hr.p U s σ H D I ⟨s2,w.mono (λt q2=>q2.go g2 sr s2) q⟩⟩
end
theorem Vk{a b:Int}(ha:-2037035976334486086268445688409378161051468393665936250636140449354381299763336706183397376<a/\a<2037035976334486086268445688409378161051468393665936250636140449354381299763336706183397376)(hb:-2037035976334486086268445688409378161051468393665936250636140449354381299763336706183397376<b/\b<2037035976334486086268445688409378161051468393665936250636140449354381299763336706183397376):wP a b:=by
 have h:∀x:Int,-2037035976334486086268445688409378161051468393665936250636140449354381299763336706183397376<x/\x<2037035976334486086268445688409378161051468393665936250636140449354381299763336706183397376->Builtin.Int.intBits x<=300:=λx hx=>intBits_le_iff.mpr (AG (show x.natAbs<2037035976334486086268445688409378161051468393665936250636140449354381299763336706183397376 by lia) (by decide +kernel));unfold wP;have k:=h a ha;have l:=h b hb;have:Builtin.Int.intTooBig ((Builtin.Int.intBits a:Int)+(Builtin.Int.intBits b:Int))=false:=by
  unfold Builtin.Int.intTooBig;have:bitsLine=134217728:=by decide +kernel
  rw[this];exact decide_eq_false ∅
 rw[this,C7];exact AX
def cI:PV->W PV
 |.int i=>.eK (0<i/\i<1073741824) (drawn i)
 |_=>.fail
@[simp] theorem dg{i:Int}(h0:0<i)(h1:i<1073741824):cI (.int i)=drawn i:=re ⟨h0,h1⟩
def aiS{s:Int}(tb:TB H)(ea:∃ws,H a=am (.lst ws))(eb:dW H b)(k:∀x o,x≠a->x≠b->H x=am o->H' x=am o)(th:∀x,H' x=ce->H x=ce)(e1:H' a=am (.lst [.ref b,.int s,.int c]))(e2:dW H' b)(ab:a≠b)(hc:0<=c/\c<=((j+1:Nat):Int))(np:∀x ψ d,¬vj vs ks ψ d x):Yt j (.ref a::vs) (.p FL.iB 1::ks) H H':=by
 have keep:∀x o,H x=am o->x≠a->H' x=am o:=λx o h n=>by
  by_cases c:x=b
  .subst c;rw[show H x=_ from eb]at h;cases h;exact e2
  .exact k x o n c h
 obtain⟨ws,ea⟩:=ea;refine⟨λx o h n _=>keep x o h λy=>n FL.iB 1 ⟨0,rfl,by rw[y];rfl⟩,tb.mono (λx ps z=>keep x _ z λy=>by subst y;rw[ea]at z;cases z) λx o u _ z _=>⟨u,keep x _ z λy=>by subst y;rw[ea]at z;cases z⟩,th,λx ψ d ⟨i,p1,p2⟩=>?_,λx h=>keep x _ h λy=>by subst y;rw[show H x=_ from h]at ea;cases ea⟩;cases i with
 |zero=>simp at p1 p2;obtain⟨rfl,rfl⟩:=p1;subst p2;exact⟨j+1,_,Al _,e1,⟨b,s,c,rfl,hc.1,hc.2⟩,λy hy=>by simp at hy;subst hy;exact e2⟩
 |succ i=>exact(np x ψ d ⟨i,by simpa using p1,by simpa using p2⟩).elim
end
end FL
namespace L2
def UJ:V->O V->Hp->VK->Prop:=λx vs H Q=>∃l xs i y,x=.ref l/\vs=[.int i,y]/\H l=am (.lst xs)/\0<=i/\i<2 ^ 63/\xs.length<sizeLine/\GO H l (.lst (xs.take i.toNat++y::xs.drop i.toNat)) (Q .aO)
theorem NL:M6 X "list.insert" UJ:=by
 intro U s σ H x vs v us Q I rx rv h;obtain⟨l,xs,i,y,rfl,rfl,hH,h1,h2,hz,q⟩:=h;cases rx;cases rv with
 |cons ru rv=>
 cases rv with
 |cons rw rv=>
 cases rv;obtain⟨t,rfl⟩:=ru;obtain⟨z,aq,n,r,hl,e⟩:=I.rD hH;refine ww F.slot_list_insert ⟨_,e,rfl⟩ F.entry_list_insert (F.args_list_insert_3 _ _ _) (AutoSeq1.list_insert_list_int_val_1 l aq.toArray n i t _ (by rw[fitsIndex_both ∅ h2];decide) (by rw[Am];lia)) ⟨e,?_⟩;refine⟨.aO,_,I.JY hH e ?_ ((r.take i.toNat).append (.cons rw (r.drop i.toNat))) ?_,rfl,q.at⟩
 .have c:¬i<0:=by lia
  simp only[Am,if_neg c];apply Array.toList_inj.mp;have hk:min i.toNat aq.length<=aq.length:=Nat.min_le_right _ _;have e1:aq.take (min i.toNat aq.length)=aq.take i.toNat:=by
   rcases Nat.le_total i.toNat aq.length with h|h
   .rw[Fs h]
   .rw[Nat.min_eq_right h,BM (Al _),BM h]
  have e2:aq.drop (min i.toNat aq.length)=aq.drop i.toNat:=by
   rcases Nat.le_total i.toNat aq.length with h|h
   .rw[Fs h]
   .rw[Nat.min_eq_right h,Fc (Al _),Fc h]
  simp[e1,e2];exact BM (by rw[CP];lia)
 .rw[Ak,Au,Co,CP];lia
end L2
namespace FL
section
variable[cx]
variable{K:Ab}
def aap(l:O PV)(n v:PV):W (O PV):=match n with
 |.int i=>.eK (0<=i/\i<2 ^ 63/\l.length<sizeLine) (.ret (l.take i.toNat++v::l.drop i.toNat))
 |_=>.fail
theorem aF.take':∀{vs:O V}{us:O PV} (n:Nat),aF K [] H vs us->aF K [] H (vs.take n) (us.take n)
 |_,_,0,_=>.nil
 |_,_,_+1,.nil=>.nil
 |_,_,n+1,.cons r t=>.cons r (aF.take' n t)
theorem aF.drop':∀{vs:O V}{us:O PV} (n:Nat),aF K [] H vs us->aF K [] H (vs.drop n) (us.drop n)
 |_,_,0,h=>h
 |_,_,_+1,.nil=>.nil
 |_,_,n+1,.cons _ t=>aF.drop' n t
section
variable{rest:O ut}{p:Pos}{T:Type}{out:T->End}{l:O PV}
theorem SF.insert(i:Nat){k:O PV->W T}(hs:fs[i]?=am (am (.ol q0 l)))(hK:X.K=K)(hN:X.N[i]?=am y)(hv:Jh X.env.scope y)(hi:EF X K fs e wi aA)(he:EF X K aA e2 we fs2)(hr:∀l',SF X K x (fs2.set i (am (.ol q0 l'))) rest (k l') out)(hd: ~~~(jz y))(kD: ~~~(LC y))(eZ:‹ss (.Name y p) "insert" X.env (o0 (.Name y p) X.env)=o0 (.Name y p) X.env›)(qt:‹((ul bV (gt [e,e2] X.env)).all (λx=>!x.1)&&(GM bV (zn [] X.env)).all (λx=>x.1.isSome)
   && decide ([e,e2].length+([]:O Keyword).length+(if ([]:O Keyword).isEmpty then 0 else 1) < 30))=true›)(eY:‹TL Â bV›)(xw:‹gt [e,e2] X.env=(false,o0 e X.env)::gt [e2] X.env›)(ail:‹hV X e2 []›)(eA:‹(ul bV (gt [e2] X.env)).any (·.1)=false›)(sN:‹r9 (.Call (.Attribute (.Name y p) "insert" Â) [e,e2] [] bV) ce pos.line X.env=pure false›):SF X K x fs (.Expr (.Call (.Attribute (.Name y p) "insert" Â) [e,e2] [] bV) pos::rest) (.bind wi λn=>.bind we λv=>.bind (aap l n v) k) out:=
 SF.step (ou (qc K hK BV PySem.F.slot_list_insert PySem.F.type_list_insert NL (fX hN hv hd kD) (a6 hi.p (a6 he.p bP ail) xw) eZ qt eY xw eA) sN) λD σ H ⟨sr,q⟩=>by
  obtain⟨a,ws,e1,h1,r1⟩:=d8 sr hs;refine⟨_,e1,.inl ⟨rfl,_,b9.of h1⟩,sr,wi.mono (λn q0 u0 H0 g0 s0 v0=>⟨s0,we.mono (λv q1 u H1 g1 s1 v1=>?_) q0⟩) q⟩;obtain⟨a',Gu,sR,gw,Gx⟩:=d8 s1 ((g0.trans g1).ev.same hs (by simp));rw[e1]at sR;cases sR;cases v0 with
  |int ii=>
   have q1:(0<=ii/\ii<2 ^ 63/\l.length<sizeLine)/\_:=q1;refine⟨a,Gu,ii,u,rfl,rfl,gw,q1.1.1,q1.1.2.1,by rw[Gx.length];exact q1.1.2.2,λH2 sx h2=>?_⟩;obtain⟨s2,g2⟩:=ox s1 ((g0.trans g1).ev.same hs (by simp)) e1 sx h2 ((aF.take' ii.toNat Gx).append (.cons v1 (aF.drop' ii.toNat Gx)));exact⟨_,k _,hr _,s2,(k _).mono (λt q2=>q2.go ((g0.trans g1).f.trans g2) sr s2) q1.2⟩
  |_=>exact q1.elim
variable{a b:mo}
def SF.adu{y:Str}{wb:W (O PV)}{Zu:Pos}{kt:Nat}{k:O PV->O PV->W T}(hc:X.calm=true)(hN:X.N.Nodup)(hi:X.N[i]?=am y)(hj:X.N[j]?=am z)(Ď:i≠j)(hx:X.env.scope.names.lookup y=am .local)(hy:X.env.scope.names.lookup z=am .local)(ha:LF X K fs a wl aA)(hb:LF X K aA b wb fs2)(hr:∀u v,SF X K x ((fs2.set i (am (.ol ce u))).set j (am (.ol ce v))) rest (k u v) out)(hw:‹Op [.Tuple [.Name y px,.Name z py] kt pt] (.Tuple [a,b] k2 Zu) X.env=pure (am [y,z])›)(hs:‹KM [.Tuple [.Name y px,.Name z py] kt pt] (.Tuple [a,b] k2 Zu) pos.line X.env=pure false›)(he:‹gt [a,b] X.env=(false,o0 a X.env)::gt [b] X.env›)(Œ:‹hV X b []›):SF X K x fs (.Assign [.Tuple [.Name y px,.Name z py] kt pt] (.Tuple [a,b] k2 Zu) pos::rest) (.bind wl λu=>.bind wb λv=>k u v) out:=
 SF.step (Zv hc hN hi hj Ď hx hy (a6 ha.p (a6 hb.p bP Œ) he) hw hs) λD σ H ⟨sr,q⟩=>⟨sr,wl.mono (λu q1 ad vs H1 g1 s1 n1 e1 v1=>⟨s1,wb.mono (λv q2 bd us H2 g2 s2 n2 e2 v2=>by
  have no:¬cy σ fs2 ad:=λz=>sr.noOwn n1 ((g1.trans g2).ev.fm z);have no2:¬cy σ fs2 bd:=λz=>s1.noOwn n2 (g2.ev.fm z);have ea:H2 ad=am (.lst vs):=g2.uw e1 λz=>sr.noOwn n1 (g1.ev.fm z);have ab:bd≠ad:=λy=>by subst y;rw[e1]at n2;cases n2
  have oa:iz K H2 ad (.ol ce u):=⟨λ_ z=>(nomatch z),vs,ea,g2.Na s1 v1⟩;have ob:iz K H2 bd (.ol ce v):=⟨λ_ z=>(nomatch z),us,e2,v2⟩;have s3:=s2.yp oa no i;have no3:¬cy (σ.set i (am (.ref ad))) (fs2.set i (am (.ol ce u))) bd:=λz=>(kW z s2.len).elim no2 λ⟨x,y,_,w⟩=>by
   cases y;rcases w with w|w
   .exact ab w
   .cases w
  have s4:=s3.yp ob no3 j;have g4:cU σ fs H ((σ.set i (am (.ref ad))).set j (am (.ref bd))) ((fs2.set i (am (.ol ce u))).set j (am (.ol ce v))) H2:=by
   refine⟨λc o z n=>?_,(g1.trans g2).there,λc ψ m pp=>?_,(g1.trans g2).x⟩
   .obtain⟨h1,h2⟩:=(cU.yp s2 (g1.trans g2) no n1 i (t:=.ol ce u)).keep c o z n;refine⟨h1,λw=>(kW w s3.len).elim h2 λ⟨x,y,_,w⟩=>?_⟩;cases y;rcases w with w|w
    .rw[w,g1.there bd n2]at z;cases z
    .cases w
   .rcases (cU.yp s2 (g1.trans g2) no n1 i (t:=.ol ce u)).pk c ψ m pp with w|⟨w1,w2⟩
    .refine(yt s3 w (λx y _ w2=>?_)).imp id λn=>⟨n,s3.free w⟩;cases y;rcases w2 with rfl|w2
     .exact absurd w.fm no3
     .cases w2
    .refine .inr ⟨λw=>(kW w s3.len).elim w1 λ⟨x,y,_,w3⟩=>?_,w2⟩;cases y;rcases w3 with rfl|w3
     .obtain⟨i',n',h1,h2⟩:=pp;have:=sr.free ⟨i',n',h1,h2⟩;obtain⟨_,_,_,e,_⟩:=this;rw[g1.there _ n2]at e;cases e
     .cases w3
  exact⟨_,_,rfl,_,k u v,hr u v,s4,(k u v).mono (λt q3=>q3.go g4 sr s4) q2⟩) q1⟩) q⟩
end
end
end FL
variable{x:A8}{e:Bq}{Ð:String}{kw:O (Cf×A8)}
namespace L2
open PySem.AutoSeq1 (wpAny_loadPart')
abbrev kwS(v:ci):O (Str×ci):=[(Cb "start",v)]
def kS1(a v:ci):checkTypeCall "enumerate" ⟨[a],kwS v⟩=pure ():=by kernel_rfl
def kS2(a v:ci):checkBuiltinCall "enumerate.__new__" ⟨[.type "enumerate",a],kwS v⟩=pure ():=by kernel_rfl
def kS3(a b v:ci):argsOk "object.__init__" ⟨[a,b],kwS v⟩:=by unfold argsOk;kernel_rfl
section
def rR{Km:String}{Bn Bi:v4}{args:O ci}{S:PySem.Spec}{Q₁:ci->cr->Prop}(ft:TypeCalled T Ð Km)(hct:checkTypeCall T ⟨args,kw⟩=pure ())(hcn:checkBuiltinCall Ð ⟨.type T::args,kw⟩=pure ())(aa2:entryFor table Ð=am Bn)(aa3:entryFor table Km=am Bi)(g:Meets (Bn ⟨.type T::args,kw⟩) S)(h:S A.in1 (wants Q₁ E) s)(aef:∀obj s₁,Q₁ obj s₁->s₁.TypeIs obj T/\argsOk Km ⟨obj::args,kw⟩/\∃Si,Meets (Bi ⟨obj::args,kw⟩) Si/\Si A.in1 (wants (λr s₂=>r=.none/\Q obj s₂) E) s₁):ga (gl prog w) A (call (.type T) args kw) Q E s:=by
 obtain⟨c,tl,ama⟩:=ft.mro;have aj7:=ft.made;have aik:=ft.sub;refine wpAny_call (codeAny_of_tree ?_);show ga _ _ (callAny (.type T) _) _ _ _;refine Ag ⟨Code.quiet_builtin _ (by decide +kernel),Fk F.entry_type_call ?_⟩;rw[Around.under_plain (weight_type_call_type T args kw) (units_type_call_type T args kw)];have h1:=ft.notType;have h2:=ft.canCreate
 repeat (any_goals (first|assumption|wp_step))
 refine Re (codeAny_call_builtin ft.plain aa2 (Bx hcn (g prog w A.in1 _ s h))) λr s₁ hr=>?_;cases r with
 |error e=>exact hr
 |ok fl=>
  cases fl with
  |ret obj=>
   obtain⟨hT,bG,Si,gi,hsi⟩:=aef _ _ hr;have hli:=ft.init.lookup;have hbi:=ft.init.bind obj
   repeat (any_goals (first|assumption|wp_step))
   refine Re (codeAny_call_builtin ft.init.plain aa3 (ft.init.check _ _ _ _ _ _ _ _ hT bG (gi prog w A.in1 _ s₁ hsi))) λr₂ s₂ RQ=>?_;cases r₂ with
   |error e=>exact RQ
   |ok aeI=>
    cases aeI with
    |ret r=>
     obtain⟨rfl,hq⟩:=RQ
     repeat (any_goals (first|assumption|wp_step))
    |_=>exact RQ.elim
  |_=>exact hr.elim
def yH{self a:ci}{rest:O ci}(hl:FS (.type T) "__init__"=pure (am (.builtin "object.__init__")))(hm:Bind.madeBy (.type T)=pure (am Ð))(Ks:(am Ð != am "object.__new__")=true):Meets (v4.«object.__init__» ⟨self::a::rest,kw⟩) (λ_ R s=>s.TypeIs self T/\R (.ok (.ret .none)) s):=by
 refine Meets.of_wp λprog w A R s hs=>?_;obtain⟨hT,hq⟩:=hs
 repeat (any_goals (first|assumption|wp_step))
 exact⟨_,rfl,hq⟩
end
theorem meets_enumerate_newS(l:db)(items:Array ci)(n:Nat)(ĳ:Option db)(sl:Array (Option ci))(k:Int)(t:Tok)(k0:0<=k)(k1:k<=1000000000):Meets (v4.«enumerate.__new__» ⟨[.type "enumerate",.ref l],kwS (.int k t)⟩) (λ_ R s=>s.heap.get? l=am {cls:=.type "list",dict:=ĳ,data:=.seq items n,slots:=sl}/\
   R (.ok (.ret (.ref (s.heap.push {cls:=.type "list_iterator",data:=.fields #[.ref l,.int 0 0]}).objs.size)))
    {s with heap:=(s.heap.push {cls:=.type "list_iterator",data:=.fields #[.ref l,.int 0 0]}).push {cls:=.type "enumerate",data:=.fields #[.none,.bool false,.ref s.heap.objs.size,xL k,.none,.none]}}):=
 .of_wp λprog w A R s h=>by
  obtain⟨hp,g,d,tk,os⟩:=s;obtain⟨hl,h⟩:=h;have aik:=sub_enumerate;have hL:Heap.IsList (Shared.heap ⟨hp,g,d,tk,os⟩) l items:=⟨_,hl,rfl,n,rfl⟩;have hf:Builtin.SmallTypes.fitsIndex k=true:=by
   have e:(2:Int) ^ 63=9223372036854775808:=by decide
   unfold Builtin.SmallTypes.fitsIndex;simp;lia
  refine Aa ?_;refine Aa (Bx rfl ?_);refine Aa (Bx sub_enumerate ?_);refine Ag ?_;refine Aa ?_;refine Aa (wpAny_stack_any λst=>Ag ?_);have fin:ga (gl prog w) A.in1 (pyIter (.ref l) >>= λit=>(Builtin.SmallTypes.newRecord (.type "enumerate") (Builtin.SmallTypes.ownedTupleFields++[it,xL k,.none,.none]) >>= λr=>ret r)) (λfin s'=>∃v,fin=Ep (EU v)/\R (Except.ok (EU v)) s') (λe s'=>R (F9 e) s') ⟨hp,g,d,tk,os⟩:=by
   wp_walk using Fo hl,DH hL
   exact⟨_,rfl,h⟩
  refine wpAny_ite_split (λ_=>?_) (λ_=>?_)
  .refine Aa (Bx rfl ?_);refine Aa (Bx (a:=CJ k t) rfl ?_);refine Aa (Bx (a:=am k) rfl ?_);dsimp only;rw[hf,if_neg ⋯];exact fin
  .refine Aa (Bx rfl ?_);refine Aa (Bx (a:=CJ k t) rfl ?_);refine Aa (Bx (a:=am k) rfl ?_);dsimp only;rw[hf,if_neg ⋯];exact fin
def lI{l:db}{k:Int}{t:Tok}(k0:0<=k)(k1:k<=1000000000)(hL:s.heap.IsList l items)(h:∀h',FB h' (s.heap.objs.size+1) s.heap.objs.size k .none->h'.IsListIter s.heap.objs.size l 0->h'.objs.size=s.heap.objs.size+2->
   (∀b o,s.heap.get? b=am o->h'.get? b=am o)->Q (.ref (s.heap.objs.size+1)) {s with heap:=h'}):ga (gl prog w) A (call (.type "enumerate") [.ref l] (kwS (.int k t))) Q E s:=by
 obtain⟨⟨c,ĳ,dt,sl⟩,hl,hc,n,hd⟩:=hL;replace hc:c=.type "list":=hc;replace hd:dt=.seq items n:=hd;subst hc hd;refine rR Dw (kS1 _ _) (kS2 _ _) F.entry_enumerate_new F.entry_object_init
  (meets_enumerate_newS l items n ĳ sl k t k0 k1) (Q₁:=λobj s₁=>s₁.TypeIs obj "enumerate"/\Q obj s₁) ⟨hl,?_⟩ λobj _ hq=>⟨hq.1,kS3 _ _ _,_,yH Dw.init.lookup Dw.made ⋯,hq.1,rfl,hq.2⟩
 have hz:(s.heap.push {cls:=.type "list_iterator",data:=.fields #[.ref l,.int 0 0]}).objs.size=s.heap.objs.size+1:=Bv ..;show _/\_;rw[hz];have he:FB ((s.heap.push {cls:=.type "list_iterator",data:=.fields #[.ref l,.int 0 0]}).push
   {cls:=.type "enumerate",data:=.fields #[.none,.bool false,.ref s.heap.objs.size,xL k,.none,.none]}) (s.heap.objs.size+1) s.heap.objs.size k .none:=by
  have:=An (s.heap.push {cls:=.type "list_iterator",data:=.fields #[.ref l,.int 0 0]})
   (o:={cls:=.type "enumerate",data:=.fields #[.none,.bool false,.ref s.heap.objs.size,xL k,.none,.none]}) rfl
  rw[hz]at this;exact this
 refine⟨⟨_,he,rfl⟩,h _ he ⟨_,Ai _ (An _ rfl),rfl,rfl⟩ (by rw[Bv,hz]) λb o x=>Ai _ (Ai _ x)⟩
def rO{E:ci->cr->Prop}(vo:e≠it)(hz:FB s.heap e it c Ë)(hi:s.heap.IsListIter it t i)(ht:s.heap.IsList t items)(hx:items[i]?=am x)(q:∀(h':pc) (tk:Nat),IsEnumOut h' e it (c+1) x s.heap.objs.size->h'.IsListIter it t (i+1)->GT h' s.heap.objs.size (.int c s.toks) x->(∀c o,c≠e->c≠it->s.heap.get? c=am o->h'.get? c=am o)->Q (.ref s.heap.objs.size) {s with heap:=h',toks:=tk}):ga (gl prog w) A (v4.«enumerate.__next__» {pos:=[.ref e]}) (λfin s'=>∃v,fin=Ep (EU v)/\Q v s') E s:=by
 show ga _ _ (field (.ref e) 2 >>= λr=>_) _ _ s;refine Aa (A2 hz rfl rfl ?_);refine Aa (wpAny_nextOf_list_item hi ht hx λh1 j1 b1=>?_);have z1:=(b1.2 _ vo).trans hz;refine Aa (A2 z1 rfl rfl ?_);refine Aa (A2 z1 rfl rfl ?_);refine Aa (wpAny_mkInt ?_);refine Aa (AW z1 (show 3 < 6 by decide) λh2 z2 b2=>?_);refine Aa (AW z2 (show 4 < 6 by decide) λh3 z3 b3=>?_);refine Aa (CM ?_ (by show 2<=sizeLine;decide));have kp:∀b o,h3.get? b=am o->(h3.push {cls:=.type "tuple",data:=.seq [CJ c s.toks,x].toArray}).get? b=am o:=λb o e=>Ai _ e;have JP:(h3.push {cls:=.type "tuple",data:=.seq [CJ c s.toks,x].toArray}).get? h3.objs.size=am {cls:=.type "tuple",data:=.seq #[.int c s.toks,x]}:=An _ rfl;generalize h3.push {cls:=.type "tuple",data:=.seq [CJ c s.toks,x].toArray}=h4 at kp JP ⊢;have z4:=kp _ _ z3;refine Aa ?_;refine Aa (A2 z4 rfl rfl ?_);refine Ag ?_;refine Aa (CV ?_);refine Aa (A2 z4 rfl rfl ?_);refine Aa (AW z4 (show 5 < 6 by decide) λh5 z5 b5=>?_);refine Aa ?_;refine Aa (AW z5 (show 0 < 6 by decide) λh6 z6 b6=>?_);refine AW z6 (show 1 < 6 by decide) λh7 z7 b7=>?_;refine Aa (CC ?_);have Kv:∀b,b≠e->h7.get? b=h4.get? b:=λb n=>(b7.2 b n).trans ((b6.2 b n).trans (b5.2 b n));have ne:s.heap.objs.size≠e:=λz=>by have:=Aq hz;rw[<- z]at this;exact AI _ this
 refine Ag ⟨.ref h3.objs.size,rfl,?_⟩;rw[(b3.1.trans (b2.1.trans b1.1))]at z7 JP ⊢;refine q h7 _ ?_ ?_ ?_ ?_
 .exact z7
 .obtain⟨o,eo,p⟩:=j1;refine⟨o,?_,p⟩;rw[Kv _ (BE vo)];exact kp _ _ ((b3.2 _ (BE vo)).trans ((b2.2 _ (BE vo)).trans eo))
 .rw[GT,Kv _ ne];exact JP
 .intro b o n1 n2 ec;rw[Kv _ n1];exact kp _ _ (((λb n1 n2=>(b3.2 b n1).trans ((b2.2 b n1).trans (b1.2 b n2))) _ n1 n2).trans ec)
def uR{Q:Option ci->cr->Prop}(hA:A.handled=ce)(hz:FB s.heap e it c Ë)(hi:s.heap.IsListIter it t i)(ht:s.heap.IsList t items)(hx:items[i]?=ce)(q:∀h':pc,FG it s.heap h'->Q ce {s with heap:=h'}):ga (gl prog w) A (PP (.ref e)) Q E s:=by
 have ty:s.TypeIs (.ref e) "enumerate":=⟨_,hz,rfl⟩;refine Aa (CH (AY ty BA (Be BA ty CU ?_ (CK _))));show ga _ _ (field (.ref e) 2 >>= λr=>_) _ _ _;refine Aa (A2 hz rfl rfl (Aa (wpAny_nextOf_list_end hA hi ht hx λh' x k ex=>?_)));obtain⟨o,eo,hc⟩:=ex;exact Aa (De ⟨o,eo,hc⟩ isSubtype_stop (Ag (q h' k)))
def oq{Q:Option ci->cr->Prop}(vo:e≠it)(hz:FB s.heap e it c Ë)(hi:s.heap.IsListIter it t i)(ht:s.heap.IsList t items)(hx:items[i]?=am x)(q:∀(h':pc) (tk:Nat),IsEnumOut h' e it (c+1) x s.heap.objs.size->h'.IsListIter it t (i+1)->GT h' s.heap.objs.size (.int c s.toks) x->(∀c o,c≠e->c≠it->s.heap.get? c=am o->h'.get? c=am o)->Q (am (.ref s.heap.objs.size)) {s with heap:=h',toks:=tk}):ga (gl prog w) A (PP (.ref e)) Q E s:=by
 have ty:s.TypeIs (.ref e) "enumerate":=⟨_,hz,rfl⟩;refine Aa (CH (AY ty BA (Be BA ty CU ?_ (CK _))));exact rO vo hz hi ht hx λh' tk a b c d=>Ag (q h' tk a b c d)
def Yr(K:Ab)(k:Nat)(a:db):It where
 go:=λi H=>∃xs x,b9 K H a xs/\xs[i]?=am x
 TR:=λi H v H'=>∃p x,v=.ref p/\H p=ce/\H'=upd H p (.tup [.int ((k+i:Nat):Int),x])/\∀xs,b9 K H a xs->xs[i]?=am x
 stop:=λi H=>∃xs,b9 K H a xs/\xs.length<=i
theorem Jq{K:Ab}{kk:Nat}(vo:e≠it):Turn P w K (.Tuple Í kk pos) (Yr K k t) [e,it] e (λi h=>(∃Ë,FB h e it ((k+i:Nat):Int) Ë)/\h.IsListIter it t i) where
 mem:=by simp
 obj:=λi h st b hb=>by
  simp at hb;rcases hb with rfl|rfl
  .obtain⟨⟨_,e⟩,_⟩:=st;exact⟨_,e,λv z=>by cases z⟩
  .obtain⟨_,⟨o,e,_,d⟩⟩:=st;exact⟨o,e,λv z=>by rw[d]at z;cases z⟩
 keep:=λi h h' st k=>⟨let ⟨o,e'⟩:=st.1;⟨o,k e (by simp) _ e'⟩,let ⟨o,e',p⟩:=st.2;⟨o,k it (by simp) _ e',p⟩⟩
 item:=by
  intro X hP hw hK hc i U s σ H E I hf st hg;subst hP hw hK;obtain⟨xs,x,hx,gx⟩:=hg;obtain⟨aq,rx,tx,_⟩:=I.list hx;obtain⟨u,gu,ru⟩:=kK rx gx;obtain⟨⟨Ë,hz⟩,hi⟩:=st;refine oq vo hz hi tx.isList (by simpa using gu) λh' tk zo j np k'=>?_;refine⟨_,rfl,?_⟩;refine C6 zo λh2 z2 b2=>?_;have le:=Aq hz;have li:=let ⟨_,e',_⟩:=hi;Aq e';have lt:∀b∈[e,it],b<s.heap.objs.size:=λb hb=>by
   simp only[AB,CO,or_false]at hb;rcases hb with rfl|rfl
   .exact le
   .exact li
  have ß:∀b o,b∉[e,it]->s.heap.get? b=am o->h2.get? b=am o:=λb o hb e'=>by
   have RP:b≠e:=λq=>hb (by simp[q]);rw[b2.2 b RP];exact k' b o RP (λq=>hb (by simp[q])) e'
  have np2:h2.get? s.heap.objs.size=am {cls:=.type "tuple",data:=.seq #[.int ((k+i:Nat):Int) s.toks,u]}:=(b2.2 _ (λz=>AI _ (by have:=le;rw[<- z]at this;exact this))).trans np;refine⟨.ref s.heap.objs.size,upd H s.heap.objs.size (.tup [.int ((k+i:Nat):Int),x]),I.n6 hf ß (Al _) ⟨by show 2<=sizeLine;decide,[.int ((k+i:Nat):Int) s.toks,u],.cons ⟨_,rfl⟩ (.cons ru .nil),⟨_,np2,rfl,_,rfl⟩,_,np2,rfl⟩,rfl,⟨_,x,rfl,(I.bG.fresh (Al s.heap.objs.size)),rfl,λxs' h'=>by rw[I.um h' hx];exact gx⟩,⟨⟨_,z2⟩,let ⟨o,e',p⟩:=j;⟨o,(b2.2 _ (BE vo)).trans e',p⟩⟩,λb hb=>?_⟩;rw[ak (AH (lt b hb))];exact(hf b hb).1
 done:=by
  intro X hP hw hK hc i U s σ H E I hf st hg;subst hP hw hK;obtain⟨xs,hx,hl⟩:=hg;obtain⟨aq,rx,tx,_⟩:=I.list hx;have el:=rx.length;obtain⟨⟨Ë,hz⟩,hi⟩:=st;refine uR (I.ok.hd hc) hz hi tx.isList (by simp;lia) λh' k=>⟨rfl,I.rZ hf λb o hb e'=>k b o (λz=>hb (by simp[z])) e'⟩
 self:=λA i s Q E st h=>let ⟨_,e'⟩:=st.1;CB e' h
def aaw(K:Ab)(t1 t2:TE):TI:=λσ H R=>t1 σ H λx H1=>t2 σ H1 λy H2=>∃(a:db) (k:Nat),x=.ref a/\y=.int (k:Int)/\k<=1000000000/\(∃xs,b9 K H2 a xs)/\R (Yr K k a) H2
def u5{e:mo}{rest:O mo}{ñ:O Keyword}(h:ga M A (spliced (ul pos (gt (e::rest) env))) (λvs s₁=>ga M A (evalAll ((GM pos (zn ñ env)).map (·.2)))
   (λau s₂=>ga M A (call (.type T) vs (((GM pos (zn ñ env)).filterMap (·.1)).zip au)) Q E s₂) E s₁) E s)(he:‹ul pos (gt (e::rest) env)=(false,o0 e env)::ul pos (gt rest env)›)(eA:‹(ul pos (gt (e::rest) env)).any (·.1)=false›)(Ku:‹(GM pos (zn ñ env)).all (·.1.isSome)=true›)(hkw:‹(GM pos (zn ñ env)).any (·.1.isNone)=false›):ga M A (callWith pos (.type T) [] (ul pos (gt (e::rest) env)) (GM pos (zn ñ env))) Q E s:=by
 have h':ga M A (evalArgs (.type T) true (ul pos (gt (e::rest) env)) (GM pos (zn ñ env))) (λa s₁=>ga M A (call (.type T) ([]++a.pos) a.kw) Q E s₁) E s:=by
  rw[he]at h ⊢;exact evalArgs_kwB Ku h
 unfold callWith;refine Aa (Bh (BO h' (λa s₁ h₁=>Aa (DV ?_)) λ_ _ x=>x));simp only[eA,hkw,Bool.or_false];refine Aa (Ag ?_);exact Aa (BO h₁ (λr s₂ hr=>Aa (Bh (wpAny_point (Ag hr)))) λ_ _ x=>x)
theorem QL(K:Ab)(hK:X.K=K){t1 t2:TE}{kk:Nat}{p2:Pos}(hg:Gl X "enumerate")(hm:X.mg "enumerate"=ce)(h1:PE X e1 t1)(h2:PE X e2 t2)(pN:‹hV X e1 []›)(hp:‹(ul p2 (gt [e1] X.env)).any (·.1)=false›):PI X (.Tuple Í kk tp) (.Call (.Name "enumerate" p1) [e1] [⟨am (Cb "start"),e2,kp⟩] p2) (aaw K t1 t2):=by
 subst hK;intro U s σ H R I h;refine BJ (gQ I hg hm boot_enumerate ?_ ⋯ ⋯);refine u5 ?_ (by rw[pN];rfl) hp;rw[pN];refine B7 (cf (h1 U s σ H _ I h) λu1 s1 ⟨x,H1,I1,r1,q1⟩=>CA ?_);refine kws_cons (cf (h2 U s1 σ H1 _ I1 q1) λu2 s2 ⟨y,H2,I2,r2,a,k,ex,ey,hk,⟨xs,hx⟩,q⟩=>kws_nil ?_);subst ex ey;cases r1;obtain⟨tt,rfl⟩:=r2;obtain⟨aq,rx,tx,_⟩:=I2.list hx;refine lI (Int.natCast_nonneg k) ∅ tx.isList λh' ze hi _ k=>?_;refine CB ze ?_;refine⟨_,_,_,_,H2,rfl,I2.kept k,Jq (Nat.succ_ne_self _),⟨⟨_,ze⟩,hi⟩,λc hc=>?_,q⟩;have Ñ:s2.heap.objs.size<=c:=by
  simp at hc;rcases hc with rfl|rfl
  .exact Bk _ _
  .exact Al _
 exact I2.zm Ñ (I2.bG.fresh Ñ)
end L2
namespace FL
section
variable[cx]
variable{K:Ab}{e:mo}{p2:Pos}
def KS:PV->PV->W (O PV)
 |.cl l,.int k=>.eK (0<=k/\k<=1000000000/\l.length<=sizeLine) (.ret (cY k.toNat l))
 |_,_=>.fail
theorem RK(hK:X.K=K){kk:Nat}(hg:Gl X "enumerate")(hm:X.mg "enumerate"=ce)(ha:EF X K fs e wa aA)(hb:EF X K aA e2 wb fs2)(pN:‹hV X e []›)(hp:‹(ul p2 (gt [e] X.env)).any (·.1)=false›):nW X K fs (.Tuple Í kk tp) (.Call (.Name "enumerate" p1) [e] [⟨am (Cb "start"),e2,kp⟩] p2) (.bind wa λx=>.bind wb λy=>KS x y) fs2:=
 ⟨PI.imp (QL K hK hg hm ha.p hb.p pN hp) λσ H R ⟨sr,q⟩=>⟨sr,wa.mono (λx q1 u1 H1 g1 s1 v1=>⟨s1,wb.mono (λy q2 u2 H2 g2 s2 v2=>by
  cases v1<;>first|exact q2.elim|skip
  rename_i a vs l hh rs;cases v2<;>first|exact q2.elim|skip
  rename_i k;obtain⟨⟨k0,k1,hl⟩,q3⟩:=q2;obtain⟨n,rfl⟩:=Int.eq_ofNat_of_zero_le k0;refine⟨a,n,rfl,rfl,by lia,⟨vs,((g2.di s1).f _ _ hh).sq⟩,q3 _ H2 (g1.trans g2) s2 ⟨by rw[bE];exact hl,λH' t=>⟨λi p hp=>?_,vs,(t.f _ _ ((g2.di s1).f _ _ hh)).sq,by rw[rs.length,bE];exact Al _⟩⟩⟩;obtain⟨y,hy,rfl⟩:=dz hp;have f2:=(t.f _ _ ((g2.di s1).f _ _ hh)).sq;obtain⟨v,h3,h4⟩:=(aF.tk t (g2.Na s1 rs)).get hy;refine⟨⟨vs,v,f2,h3⟩,λx H3 z=>?_⟩;obtain⟨pp,x0,rfl,hn,rfl,hz⟩:=z;have:=hz vs f2;rw[h3]at this;cases this;have sm:=i8 hn (.tup [.int ((n+i:Nat):Int),v]);exact⟨sm,.tup aH (.cons (.int _) (.cons (VR.tk sm.eL h4) .nil))⟩) q1⟩) q⟩⟩
end
end FL
variable{s:O PL.PV}
namespace FL
section
variable[cx]
variable{K:Ab}
mutual
def PV.free(s:O PV):PV->Prop
 |.tup l=>lj s l
 |.cl l=>l≠s/\lj s l
 |.dv _ l=>lj s l
 |.ob _ l=>lj s l
 |_=>True
def lj(s:O PV):O PV->Prop
 |[]=>True
 |x::l=>PV.free s x/\lj s l
end
def xA{l:O PV}:lj s l↔∀x∈l,PV.free s x:=by
 induction l with
 |nil=>simp[lj]
 |cons a l ih=>simp[lj,ih]
def Jj.inj{p:db}{vs':O V}(hb:∀p o,K.lookup p=am o->H p=ce)(h:Jj K H p vs)(h':Jj K H p vs'):vs=vs':=by
 rcases h with⟨o,h⟩|⟨o,aq,n,e1,_,_,e4,_,e6⟩
 .rcases h' with⟨o',h'⟩|⟨o',eW,n',sR,_⟩
  .rw[h]at h';cases h';rfl
  .rw[hb _ _ sR]at h;cases h
 .rcases h' with⟨o',h'⟩|⟨o',eW,n',sR,_,_,e4',_,e6'⟩
  .rw[hb _ _ e1]at h';cases h'
  .rw[e1]at sR;cases sR;rw[e4]at e4';injection e4' with e7 _;subst e7;exact e6.inj e6'
mutual
theorem VR.fn(hb:∀p o,K.lookup p=am o->H p=ce):∀{v:V}{q q':PV},VR K [] H v q->VR K [] H v q'->q=q'
 |_,_,_,.aO,h=>by cases h;rfl
 |_,_,_,.bl b,h=>by cases h;rfl
 |_,_,_,.int i,h=>by cases h;rfl
 |_,_,_,.str x,h=>by cases h;rfl
 |_,_,_,.ty n,h=>by cases h;rfl
 |_,_,_,.ref e,h=>by simp at e
 |_,_,_,.tup e r,h=>by
  cases h with
  |tup e' r'=>rw[e]at e';cases e';rw[aF.fn hb r r']
  |cl e' r'=>
   rcases e' with⟨o,e'⟩|⟨o,aq,n,e1,_⟩
   .rw[e]at e';cases e'
   .rw[hb _ _ e1]at e;cases e
  |dk e' _ _=>rw[e]at e';cases e'
  |dt e' _ _=>rw[e]at e';cases e'
  |ob e' _ _ _ _=>rw[e]at e';cases e'
  |hand e'=>have e':H _=_:=e';rw[e]at e';cases e'
  |ref e'=>simp at e'
 |_,_,_,.cl e r,h=>by
  cases h with
  |tup e' r'=>
   rcases e with⟨o,e⟩|⟨o,aq,n,e1,_⟩
   .rw[e]at e';cases e'
   .rw[hb _ _ e1]at e';cases e'
  |cl e' r'=>have:=Jj.inj hb e e';subst this;rw[aF.fn hb r r']
  |dk e' _ _=>
   rcases e with⟨o,e⟩|⟨o,aq,n,e1,_⟩
   .rw[e]at e';cases e'
   .rw[hb _ _ e1]at e';cases e'
  |dt e' _ _=>
   rcases e with⟨o,e⟩|⟨o,aq,n,e1,_⟩
   .rw[e]at e';cases e'
   .rw[hb _ _ e1]at e';cases e'
  |ob e' _ _ _ _=>
   rcases e with⟨o,e⟩|⟨o,aq,n,e1,_⟩
   .rw[e]at e';cases e'
   .rw[hb _ _ e1]at e';cases e'
  |hand e'=>
   have e':H _=_:=e';rcases e with⟨o,e⟩|⟨o,aq,n,e1,_⟩
   .rw[e]at e';cases e'
   .rw[hb _ _ e1]at e';cases e'
  |ref e'=>simp at e'
 |_,_,_,.dk e e2 r,h=>by
  cases h with
  |tup e' r'=>rw[e]at e';cases e'
  |cl e' r'=>
   rcases e' with⟨o,e'⟩|⟨o,aq,n,e1,_⟩
   .rw[e]at e';cases e'
   .rw[hb _ _ e1]at e;cases e
  |dk e' e3 r'=>rw[e]at e';cases e';rw[e2,e3,aF.fn hb r r']
  |dt e' _ _=>rw[e]at e';cases e'
  |ob e' _ _ _ _=>rw[e]at e';cases e'
  |hand e'=>have e':H _=_:=e';rw[e]at e';cases e'
  |ref e'=>simp at e'
 |_,_,_,.dt e e2 r,h=>by
  cases h with
  |tup e' r'=>rw[e]at e';cases e'
  |cl e' r'=>
   rcases e' with⟨o,e'⟩|⟨o,aq,n,e1,_⟩
   .rw[e]at e';cases e'
   .rw[hb _ _ e1]at e;cases e
  |dt e' e3 r'=>rw[e]at e';cases e';rw[e2,e3,aF.fn hb r r']
  |dk e' _ _=>rw[e]at e';cases e'
  |ob e' _ _ _ _=>rw[e]at e';cases e'
  |hand e'=>have e':H _=_:=e';rw[e]at e';cases e'
  |ref e'=>simp at e'
 |_,_,_,.ob e c na e2 r,h=>by
  cases h with
  |tup e' r'=>rw[e]at e';cases e'
  |cl e' r'=>
   rcases e' with⟨o,e'⟩|⟨o,aq,n,e1,_⟩
   .rw[e]at e';cases e'
   .rw[hb _ _ e1]at e;cases e
  |ob e' _ _ e3 r'=>rw[e]at e';cases e';rw[e2,e3,aF.fn hb r r']
  |dk e' _ _=>rw[e]at e';cases e'
  |dt e' _ _=>rw[e]at e';cases e'
  |hand e'=>have e':H _=_:=e';rw[e]at e';cases e'
  |ref e'=>simp at e'
 |_,_,_,.hand e,h=>by
  have e:H _=_:=e;cases h with
  |tup e' r'=>rw[e]at e';cases e'
  |cl e' r'=>
   rcases e' with⟨o,e'⟩|⟨o,aq,n,e1,_⟩
   .rw[e]at e';cases e'
   .rw[hb _ _ e1]at e;cases e
  |ob e' _ _ e3 r'=>rw[e]at e';cases e'
  |dk e' _ _=>rw[e]at e';cases e'
  |dt e' _ _=>rw[e]at e';cases e'
  |hand e'=>rfl
  |ref e'=>simp at e'
theorem aF.fn(hb:∀p o,K.lookup p=am o->H p=ce):∀{v:O V}{q q':O PV},aF K [] H v q->aF K [] H v q'->q=q'
 |_,_,_,.nil,h=>by cases h;rfl
 |_,_,_,.cons r t,h=>by
  cases h with
  |cons r' t'=>rw[VR.fn hb r r',aF.fn hb t t']
end
mutual
theorem VR.freed{a:db}{ob:Obj}{s:O PV}{vs:O V}(hb:∀p o,K.lookup p=am o->H p=ce)(ha:H a=am (.cn ob (.lst vs)))(hs:aF K [] H vs s):∀{v:V}{q:PV},VR K [] H v q->PV.free s q->VR K [] (upd H a (.lst vs)) v q
 |_,_,.aO,_=>.aO
 |_,_,.bl b,_=>.bl b
 |_,_,.int i,_=>.int i
 |_,_,.str x,_=>.str x
 |_,_,.ty n,_=>.ty n
 |_,_,.ref e,_=>by simp at e
 |_,_,.tup e r,h=>.tup (by rw[ak (λz=>by subst z;rw[ha]at e;cases e)];exact e) (aF.freed hb ha hs r (by rw[PV.free]at h;exact h))
 |_,_,.cl (a:=b) (l:=l) e r,h=>by
  rw[PV.free]at h;have r2:=aF.freed hb ha hs r h.2;rcases e with⟨o,e⟩|e
  .by_cases c:b=a
   .subst c;rw[ha]at e;cases e;exact absurd (aF.fn hb r hs) h.1
   .exact .cl (.inl ⟨o,by rw[ak c];exact e⟩) r2
  .exact .cl (.inr e) r2
 |_,_,.dk e e2 r,h=>.dk (by rw[ak (λz=>by subst z;rw[ha]at e;cases e)];exact e) e2 (aF.freed hb ha hs r (by rw[PV.free]at h;exact h))
 |_,_,.dt e e2 r,h=>.dt (by rw[ak (λz=>by subst z;rw[ha]at e;cases e)];exact e) e2 (aF.freed hb ha hs r (by rw[PV.free]at h;exact h))
 |_,_,.ob e c na e2 r,h=>.ob (by rw[ak (λz=>by subst z;rw[ha]at e;cases e)];exact e) c na e2 (aF.freed hb ha hs r (by rw[PV.free]at h;exact h))
 |_,_,.hand e,_=>.hand (by have e':H _=_:=e;show upd H a _ _=_;rw[ak (λz=>by subst z;rw[ha]at e';cases e')];exact e')
theorem aF.freed{a:db}{ob:Obj}{s:O PV}{vs:O V}(hb:∀p o,K.lookup p=am o->H p=ce)(ha:H a=am (.cn ob (.lst vs)))(hs:aF K [] H vs s):∀{v:O V}{q:O PV},aF K [] H v q->lj s q->aF K [] (upd H a (.lst vs)) v q
 |_,_,.nil,_=>.nil
 |_,_,.cons r t,h=>by
  rw[lj]at h;exact .cons (VR.freed hb ha hs r h.1) (aF.freed hb ha hs t h.2)
end
end
section
variable[cx]
variable{K:Ab}{e:mo}{w:W PV}
def R8(l:O PV)(v:PV):W PV:=.eK (PV.free l v) (.ret v)
def aa8(i:Nat){l:O PV}(hK:X.K=K)(hs:fs[i]?=am (am (.ol q0 l)))(h:EF X K (fs.set i (am (.val (.cl l)))) e w aA):EF X K fs e (.bind w (R8 l)) (aA.set i (am (.ol q0 l))):=⟨λU s σ H Q I ⟨sr,q⟩=>by
 obtain⟨a,o,ob,I2,s2,ë⟩:=bor I sr hs rfl;obtain⟨a0,ws,e1,h1,r1⟩:=d8 sr hs;have hi:i<fs.length:=(Aj.mp hs).1;have hb:∀{H':Hp}{s':cr}{σ':L2.St},Inv X U σ' H' s'->∀p o,K.lookup p=am o->H' p=ce:=λJ p o z=>by
  subst hK;exact(J.bs p o (J.ok.mod.kin p o z)).2
 have key:∃vs,o=.lst vs/\aF K [] (upd H a (.cn ob o)) vs l:=by
  obtain⟨u,e2,⟨v,e3,v3⟩|⟨b,e3,oa⟩⟩:=s2.at' i _ (bc hi)
  .cases e3;rw[e1]at e2;cases e2;have v3:VR K [] (upd H a (.cn ob o)) (.ref a0) (.cl l):=v3;cases v3 with
   |cl f r=>
    rcases f with⟨o',f⟩|⟨o',aq,n,z,_⟩
    .by_cases c:a0=a
     .subst c;rw[aH]at f;cases f;exact⟨_,rfl,r⟩
     .rw[ak c,h1]at f;cases f
    .rw[hb I _ _ z]at h1;cases h1
  .exact oa.elim
 obtain⟨vs,rfl,r2⟩:=key;refine cf (h.p U s σ _ (λu H1=>∃v,cE σ (fs.set i (am (.val (.cl l)))) (upd H a (.cn ob (.lst vs))) H1 aA/\aY K H1 σ aA/\VR K [] H1 u v/\PV.free l v/\∀u H',cE σ fs H H' (aA.set i (am (.ol q0 l)))->aY K H' σ (aA.set i (am (.ol q0 l)))->VR K [] H' u v->Q u H') I2 ⟨s2,w.mono (λv q1 u H1 g1 s1 v1=>⟨v,g1,s1,v1,q1.1,q1.2⟩) q⟩) λu s1 ⟨x,H1,I1,r1,v,g1,Uv,v1,d,q1⟩=>?_;obtain⟨I3,g3,s3,t3,_⟩:=ë σ s1 H1 _ I1 g1 Uv;have tk:=g1.di s2;exact⟨x,_,I3,r1,q1 x _ g3 s3 (VR.freed (hb I1) (tk.z _ _ _ aH) (aF.tk tk r2) v1 d)⟩⟩
end
section
variable[cx]
variable{K:Ab}
def abi(ts:O (Str×Int)){p2:Pos}(hp:PPs X p2 Æ Ç (ts.map λt=>(tC (.str t.1),tC (.int t.2))))(Ku:‹Æ.all (·.isSome)=true›)(hl:‹Æ.length=Ç.length›)(h0:Æ≠[]:=by simp)(Ś: ~~~(Æ.length<=15))(ht: ~~~(ts.length<=15))(ŉ:(ts.map (·.1)).Nodup:=by decide +kernel):DVF X K fs (.Dict Æ Ç p2) (.ret (dvK (dcP ts))):=⟨PE.imp (UZ hp Ku hl h0 Ś) λσ H Q ⟨sr,q⟩ a n1=>by
 refine Me (Q:=λ_ _=>True) ts _ _ ⟨aH,OE ts,by simp[OE,kV],by simpa[OE]using ht,?_⟩;have em:iE [] (OE ts)=OE ts:=w9 _ [] (by
  have e:(OE ts).map (·.1)=(ts.map (·.1)).map F1:=by simp[OE]
  rw[D8,e];exact List.Pairwise.map _ (λa b h e=>h (F1.inj e)) ŉ)
 rw[em];have s1:jy H (upd (upd H a (.dK [])) a (.dK (OE ts))):=λb u hb=>by
  have:b≠a:=λe=>by rw[e,n1]at hb;cases hb
  rw[ak this,ak this];exact hb
 have e1:(upd (upd H a (.dK [])) a (.dK (OE ts))) a=am (.dK (OE ts)):=aH;generalize upd (upd H a (.dK [])) a (.dK (OE ts))=H1 at s1 e1;exact q a _ H1 (cE.same s1) (sr.same s1) n1 e1 (.inl ⟨_,_,rfl,rfl,abh (K:=K) H1 ts⟩)⟩
end
end FL
namespace My
def gq(fy:PV):W (O PV):=
 bn (w2 addW (c1 cO (ca fy)) (ca (.int 5))) λJz=>
 bn (bn (bn (ca fy) nr) λl2=>ce\λi3=>bn (bn (ca (.int 63)) part) λj4=>ca (eJ l2 i3 j4)) λl18=>bn (bU l18 Jz λS4 s5=>(
 bn (b2 oMod (w2 addW (w2 addW (b2 Q5 (ca s5) (ca (.int 999979))) (b2 oMod (ca S4) (b2 Q3 (ca (.int 10)) (ca (.int 30))))) (ca (.int 17))) (ca (.int 2305843009213693951))) λQb=>
 ca Qb)) λs5=>
 (bn (bn (bn (bn (bn (ca fy) nr) λl8=>ce\λi9=>bn (bn (ca (.int 63)) part) λj10=>ca (eJ l8 i9 j10)) λl11=>kz l11 λî=>J4 (t2 oGe (ca î) (b2 Q3 (ca (.int 10)) (ca (.int 18)))) (ca î)) λRq=>W.eK (∃ns:O Int,Rq=ns.map PV.int) (ca .hand)) λvz=>s5\λmn=>(.int 0)\λrm=>ca [vz,mn,rm])
def gE(qI:PV):W PV:=
 (bJ (bn (ca qI) aw) (bn (c1 cO (ca qI)) λx1=>cI x1))
def cj(qI:PV):W PV:=
 bn (bn (ca qI) aw) λJ2=>
 bn (FL.kJ 100 (λs2=>(t2 ZN (bn (ca s2) uo) (ca (.int 1)))) (λs2=>(
 bn (bn (bn (ca s2) uo) λx5=>cI x5) λx6=>bn (qa s2 x6) λt7=>
 bn (bn (bn (ca t7.1) uo) λx9=>cI x9) λkH=>bn (qa t7.1 kH) λGv=>
 bn (bn (w2 addW (bn (ca Gv.1) uo) (ca (.int 1))) λsX=>cI sX) λrm=>bn (t7.2\λvz=>Gv.2\λmn=>ca (.tup [vz,mn])) λGI=>bn (aap Gv.1 rm GI) λMq=>
 ca Mq)) J2) λs2=>
 (bJ (ca s2) (ca (.int 0)))
def a9:Nat->PV->W (O PV)
 |0,_=>W.fail
 |n+1,c8=>
 ff (bn (bn (ca c8) (jl .str)) hG) (
 (c8\λx1=>ca [x1])) (
 bn (bn (bJ (bn (ca c8) aw) (ca (.int 0))) λx3=>a9 n x3) λtR=>
 bn (bn (bJ (bn (ca c8) aw) (ca (.int 1))) λx5=>a9 n x5) λsD=>
 []\λSf=>
 bn (bn (ca (.cl sD)) aw) λl21=>bn (bU l21 Sf λtW s7=>(
 bn (ff (bn (bn (ca tW) (jl .str)) hG) (ca tW) (bn (w2 addW (bJ (bn (ca tW) aw) (ca (.int 0))) (c1 cO (ca (.cl tR)))) λkH=>bn (w2 addW (bJ (bn (ca tW) aw) (ca (.int 1))) (c1 cO (ca (.cl tR)))) λnY=>ca (.tup [kH,nY]))) λvA=>bn (gD s7 vA) λYb=>
 ca Yb)) λs7=>
 (bn (bn (bn (ca (.cl tR)) nr) λRq=>bn (bn (ca (.cl s7)) nr) λl14=>kE Rq l14) λl18=>bn (bn (bn (b2 vG (c1 cO (ca (.cl tR))) (ca (.int 1))) λmn=>bn (b2 vG (w2 addW (c1 cO (ca (.cl tR))) (c1 cO (ca (.cl sD)))) (ca (.int 1))) λrm=>ca (.tup [mn,rm])) λGI=>ca [GI]) λl19=>kE l18 l19))
def de(bW:PV):W PV:=
 bn (bW\λx2=>a9 12 x2) λda=>
 bn (bn (b2 vG (c1 cO (ca (.cl da))) (ca (.int 1))) λx3=>ca [x3]) λKH=>[]\λyD=>
 bn (FL.kJ 100 (λs6=>(s6.1\λl8=>ca (!l8.isEmpty))) (λs6=>(
 bn (bn (bn (ca s6.1) uo) λkH=>cI kH) λnY=>bn (qa s6.1 nY) λt12=>
 ff (T7 (bn (bn (bJ (bn (ca (.cl da)) aw) (ca t12.2)) (jl .str)) hG)) (
 t12.2\λvz=>bn (gD s6.2 vz) λHm=>
 bn (t12.1\λl16=>bn (bn (bJ (bn (ca (.cl da)) aw) (ca t12.2)) aw) λO8=>kE l16 O8) λMD=>
 ca (MD,Hm)) (
 ca (t12.1,s6.2)))) (KH,yD)) λs6=>
 bn (bn ((.int 0)\λxS=>ca [xS]) λZ9=>bn (c1 cO (ca (.cl da))) λGH=>Nv Z9 GH) λiO=>
 (.int 0)\λzL=>
 bn (s6.2\λVA=>ce\λi24=>ce\λj25=>bn (bn (bn (ca (.int 1)) vI) part) λk26=>Ur VA i24 j25 k26) λl40=>bn (bU l40 (iO,zL) λHP O6=>(
 bn (w2 addW (w2 addW (ca O6.2) (ca (.int 1))) (bn (gz ((.int 0)\λx31=>(.int 0)\λYz=>(.int 1)\λTV=>(.int 12)\λTU=>ca [x31,Yz,TV,TU])) λx35=>gE x35)) λzK=>
 zK\λx37=>HP\λYy=>bn (oj O6.1 Yy x37) λmW=>
 ca (mW,zK))) λO6=>
 (bn (ca O6.1) ku)
def dY:W PV:=
 []\λbu=>
 bn (bn (ca (.int 4)) jb) λVA=>bn (bU VA bu λk_5 s3=>(
 bn (w2 addW (b2 Q3 (ca (.int 10)) (ca (.int 25))) ((.int 9)\λx7=>cI x7)) λMz=>
 bn (bn (gz ((.int 0)\λx9=>(.int 1)\λkH=>(.int 2)\λnY=>(.int 3)\λvA=>bn ((.int 10)\λsX=>cI sX) λvz=>bn ((.int 1001)\λmn=>cI mn) λrm=>(.int 1)\λGI=>(.int 2)\λvv=>Mz\λxS=>ca [x9,kH,nY,vA,vz,rm,GI,vv,xS])) λM9=>gE M9) λGH=>bn (gD s3 GH) λoZ=>
 ca oZ)) λs3=>
 (bn (ca s3) ku)
def gK(j6:PV)(Xz:PV):W (O PV):=
 (bn (bn (ca j6) aw) λl1=>bx l1 λp2=>(bn (gz (p2\λx3=>Xz\λx4=>ca [x3,x4])) λx5=>kY x5))
def oG(Q0:PV)(tP:PV):W (O PV):=
 bn (bn (bn (b2 vG (w2 addW (c1 cO (ca Q0)) (c1 cO (ca tP))) (ca (.int 1))) jb) λl3=>bx l3 λp4=>(ca .aO)) λc9=>
 bn (bn (bn (ca Q0) aw) λl5=>.eK (l5.length<=sizeLine) (.ret (cY 0 l5))) λZ8=>bn (bU Z8 c9 λp7 s6=>bn (vm p7) λt8=>(
 bn (tP\λx9=>t8.1\λkH=>KS x9 kH) λl24=>bn (bU l24 s6 λî Jd=>bn (vm î) λė=>(
 bn (bn (gz (bn (bJ (ca Jd) (ca ė.1)) λmn=>bn (bn (gz (t8.2\λrm=>ė.2\λGI=>ca [rm,GI])) λvv=>kY vv) λxS=>ca [mn,xS])) λM9=>gM M9) λGH=>ė.1\λJm=>bn (oj Jd Jm GH) λLP=>
 ca LP)) λJd=>
 ca Jd)) λs6=>
 ca s6
def gL(Rj:PV)(XA:PV):W (O PV):=
 (bn (bn (ca XA) jb) λl2=>bx l2 λp3=>(bn (gz (bn (bn (ca Rj) aw) λl4=>bx l4 λp5=>(bJ (bn (ca p5) aw) (ca p3)))) λx6=>gM x6))
def cJ(bZ:PV)(nU:PV)(bA:PV)(a8:PV)(ju:PV):W PV:=
 bn ((.int 0)\λx2=>ca [x2]) λc9=>
 bn (bn (bn (a8\λx3=>dc x3) aw) λl4=>bn (bn (bJ (bn (ca ju) aw) (ca (.int 1))) aw) λl5=>GC l4 l5) λVA=>bn (bU VA (.cl c9) λp7 s6=>bn (vm p7) λt8=>(
 bn (s6\λkH=>bn (bJ (bn (bJ (bn (ca bA) aw) (ca t8.1)) aw) (ca t8.2)) λnY=>oG kH nY) λPr=>
 ca (.cl Pr))) λs6=>
 ff (bn (bn (ca a8) (jl .str)) hG) (
 (ca s6)) (
 ff (t2 dN (bJ (bn (ca ju) aw) (ca (.int 0))) (ca nU)) (
 (gz (bn (.aO\λvA=>ca [vA]) λRq=>bn (bn (ca s6) nr) λl14=>kE Rq l14))) (
 (gz (bn (s6\λmn=>bn (bZ\λrm=>bn (bJ (bn (ca ju) aw) (ca (.int 0))) λGI=>jK rm GI) λvv=>gK mn vv) λZ9=>bn (.aO\λxS=>ca [xS]) λl21=>kE Z9 l21))))
def dX(bo:PV)(bZ:PV)(nU:PV)(bA:PV)(a8:PV):W (O PV):=
 bn (ff (bn (bn (ca a8) (jl .str)) hG) (ca (.int 1)) (bn (bn (bn (ca a8) aw) λl2=>bx l2 λp3=>(c1 cO (bJ (bn (bJ (bn (ca bA) aw) (ca p3)) aw) (ca (.int 0))))) fM)) λJW=>
 []\λJt=>
 bn (bn (c1 cO (ca bo)) jb) λl37=>bn (bU l37 Jt λya s6=>(
 bn (bo\λx9=>bZ\λkH=>ya\λnY=>ip x9 kH nY) λXr=>
 bn (bn (bo\λsX=>a8\λvz=>ya\λmn=>fq sX vz mn) λl16=>bx l16 λU4=>(bZ\λvv=>nU\λxS=>bA\λM9=>a8\λGH=>U4\λJm=>cJ vv xS M9 GH Jm)) λMV=>
 bn (bn (bn (bo\λGG=>ya\λPk=>d9 GG Pk) aw) λZ8=>bx Z8 λě=>(gz (bn (bJ (ca s6) (ca ě)) λTX=>Xr\λYA=>gK TX YA))) λtw=>
 bn (gz (bn (gz (bn (bn (ca (.cl MV)) nr) λl31=>bn (bn (ca (.cl tw)) nr) λl32=>kE l31 l32)) λTV=>JW\λTU=>gL TV TU)) λx35=>bn (gD s6 x35) λLM=>
 ca LM)) λs6=>
 ca s6
def oE(bo:PV)(jB:PV)(bZ:PV)(ju:PV):W PV:=
 []\λda=>
 bn (bn (jB\λx2=>jM x2) aw) λl15=>bn (bU l15 da λQ8 s3=>(
 bn (bn (gz (bo\λx6=>bZ\λx7=>ju\λx8=>(.cl s3)\λx9=>Q8\λkH=>dX x6 x7 x8 x9 kH)) (R8 s3)) λnY=>bn (gD s3 nY) λQe=>
 ca Qe)) λs3=>
 (bn (bn (bJ (ca s3) (bn (ca (.int 1)) vI)) λvA=>bn (c1 cO (bJ (bn (bJ (ca s3) (bn (ca (.int 1)) vI)) aw) (ca (.int 0)))) λsX=>gL vA sX) ku)
def bR(aE:PV)(aG:PV)(a8:PV)(aV:PV):W PV:=
 bn (bJ (bn (ca aE) aw) (ca aV)) λx1=>bn (un4 x1) λt3=>
 ff (bn (bn (bJ (bn (ca aG) aw) (ca a8)) (jl .str)) hG) (
 (gz (bn ((.tup [])\λx4=>ca [x4]) λl5=>bn (c1 OW (afg (b2 dN (ca t3.2.2.1) (ca (.tup []))) (b2 dN (ca t3.1) (bJ (bn (ca aG) aw) (ca a8))))) λx6=>Nv l5 x6))) (
 bn (bn ((.str "doubled")\λx8=>aV\λx9=>aV\λkH=>ca (.tup [x8,x9,kH])) λnY=>ca [nY]) λzp=>
 bn (bn (ca t3.2.2.2) aw) λl49=>bn (bU l49 (.cl zp) λtu Xl=>(
 bn (bn (bn (ca Xl) nr) λVA=>bn (bn ((.str "over")\λmn=>aV\λrm=>tu\λGI=>ca (.tup [mn,rm,GI])) λvv=>bn ((.str "over")\λxS=>tu\λM9=>aV\λGH=>ca (.tup [xS,M9,GH])) λJm=>ca [vv,Jm]) λl24=>kE VA l24) λIe=>
 ca (.cl Ie))) λXl=>
 bn (t2 dN (c1 cO (ca t3.2.2.1)) (ca (.int 2))) λb=>bn (if b=true then (
 bn (bn (bn (ca Xl) nr) λl46=>bn (bn ((.str "split")\λYy=>bn (bJ (bn (ca t3.2.2.1) aw) (ca (.int 0))) λx39=>bn (bJ (bn (ca t3.2.2.1) aw) (ca (.int 1))) λx40=>ca (.tup [Yy,x39,x40])) λx41=>bn ((.str "split")\λx42=>bn (bJ (bn (ca t3.2.2.1) aw) (ca (.int 1))) λx43=>bn (bJ (bn (ca t3.2.2.1) aw) (ca (.int 0))) λx44=>ca (.tup [x42,x43,x44])) λx45=>ca [x41,x45]) λl47=>kE l46 l47) λHZ=>
 ca (.cl HZ)) else (
 ca Xl)) λĘ=>
 (ca Ę))
def bH(bA:PV)(Pt:PV)(yc:PV):W PV:=
 ff (t2 dN (ca yc) (ca (.tup []))) (
 (ca (.int 1))) (
 Pt\λx1=>bn (vm x1) λt3=>
 (b2 Q5 (bJ (bn (bJ (bn (ca bA) aw) (ca t3.1)) aw) (bJ (bn (ca yc) aw) (ca (.int 1)))) (bJ (bn (bJ (bn (ca bA) aw) (ca t3.2)) aw) (bJ (bn (ca yc) aw) (ca (.int 2))))))
def dZ(aE:PV)(aG:PV):W (O PV):=
 []\λda=>
 bn (bn (bn (ca aG) aw) λl2=>.eK (l2.length<=sizeLine) (.ret (cY 0 l2))) λl30=>bn (bU l30 da λp4 s3=>bn (vm p4) λt5=>(
 []\λQf=>
 bn (bn (c1 cO (ca aE)) jb) λl28=>bn (bU l28 Qf λJx s8=>(
 bn (aE\λnY=>aG\λvA=>t5.1\λsX=>Jx\λvz=>bR nY vA sX vz) λkQ=>
 bn (bn (bn (bn (bJ (bn (bJ (bn (ca aE) aw) (ca Jx)) aw) (ca (.int 2))) aw) λl16=>bx l16 λU4=>(bJ (ca s8) (ca U4))) fM) λMp=>
 bn (bn (w2 addW (ca Mp) (bn (bn (bn (ca kQ) aw) λl19=>bx l19 λí=>((.cl s3)\λGH=>t5.2\λJm=>í\λTY=>bH GH Jm TY)) fM)) Pu) λGG=>bn (gD s8 GG) λQg=>
 ca Qg)) λs8=>
 (.cl s8)\λYB=>bn (gD s3 YB) λL7=>
 ca L7)) λs3=>
 ca s3
def bD(aE:PV)(aG:PV)(bA:PV)(a8:PV)(aV:PV):W (O PV):=
 []\λbu=>
 bn (bn (aE\λx2=>aG\λx3=>a8\λx4=>aV\λx5=>bR x2 x3 x4 x5) aw) λl11=>bn (bU l11 bu λoe s6=>(
 ff (tor (t2 dN (ca oe) (ca (.tup []))) (T8 (t2 ZN (bJ (bn (bJ (bn (ca bA) aw) (bJ (bn (bJ (bn (ca aG) aw) (ca a8)) aw) (ca (.int 0)))) aw) (bJ (bn (ca oe) aw) (ca (.int 1)))) (ca (.int 0))) (t2 ZN (bJ (bn (bJ (bn (ca bA) aw) (bJ (bn (bJ (bn (ca aG) aw) (ca a8)) aw) (ca (.int 1)))) aw) (bJ (bn (ca oe) aw) (ca (.int 2)))) (ca (.int 0))))) (
 oe\λx9=>bn (gD s6 x9) λoZ=>
 ca oZ) (
 ca s6))) λs6=>
 ca s6
def eU(mB:PV->PV->PV->PV->PV->W (O PV))(aE:PV)(aG:PV)(bA:PV)(a8:PV)(aV:PV):W (O PV):=
 []\λbu=>
 bn (aE\λx2=>aG\λx3=>bA\λx4=>a8\λx5=>aV\λx6=>bD x2 x3 x4 x5 x6) λl39=>bn (bU l39 bu λlN s7=>(
 ff (t2 dN (ca lN) (ca (.tup []))) (
 bn (bn (aV\λkH=>ca (.tup [kH])) λnY=>(.str "found")\λvA=>ca (.tup [nY,vA])) λsX=>bn (gD s7 sX) λMF=>
 ca MF) (
 bn (aE\λmn=>aG\λrm=>bA\λGI=>bn (bJ (bn (bJ (bn (ca aG) aw) (ca a8)) aw) (ca (.int 1))) λvv=>bn (bJ (bn (ca lN) aw) (ca (.int 2))) λxS=>mB mn rm GI vv xS) λqd=>
 bn (aE\λM9=>aG\λGH=>bA\λJm=>bn (bJ (bn (bJ (bn (ca aG) aw) (ca a8)) aw) (ca (.int 0))) λTY=>bn (bJ (bn (ca lN) aw) (ca (.int 1))) λGG=>mB M9 GH Jm TY GG) λl37=>bn (bU l37 s7 λQZ Y4=>(
 bn (bn (bn (ca (.cl qd)) aw) λl28=>bx l28 λĚ=>(bn (aV\λx30=>ca (.tup [x30])) λx31=>bn (bJ (bn (ca lN) aw) (ca (.int 0))) λYz=>QZ\λTV=>Ě\λTU=>ca (.tup [x31,Yz,TV,TU]))) λl35=>bn (Im Y4 l35) λH9=>
 ca H9)) λY4=>
 ca Y4))) λs7=>
 ca s7
def aZ:Nat->PV->PV->PV->PV->PV->W (O PV)
 |0,_,_,_,_,_=>W.fail
 |n+1,aE,aG,bA,a8,aV=>
 bn (aE\λx2=>aG\λx3=>bA\λx4=>a8\λx5=>aV\λx6=>(eU (aZ n)) x2 x3 x4 x5 x6) λbu=>
 bn (bn (bJ (bn (bJ (bn (ca aE) aw) (ca aV)) aw) (ca (.int 2))) aw) λZ8=>bn (bU Z8 bu λxX s7=>(
 bn (aE\λx9=>aG\λkH=>bA\λnY=>a8\λvA=>xX\λsX=>aZ n x9 kH nY vA sX) λl24=>bn (bU l24 s7 λJn Y6=>(
 bn (w2 addW (bn (w2 addW (aV\λGI=>ca (.tup [GI])) (bJ (bn (ca Jn) aw) (ca (.int 0)))) λvv=>ca (.tup [vv])) (Jn\λGH=>bn (bn (ca (.int 1)) part) λi19=>ce\λj20=>vF GH i19 j20)) λJm=>bn (gD Y6 Jm) λIc=>
 ca Ic)) λY6=>
 ca Y6)) λs7=>
 ca s7
def gs(aE:PV)(aG:PV)(bA:PV):W (O PV):=
 []\λbu=>
 bn (bn (c1 cO (ca aE)) jb) λRq=>bn (bU Rq bu λPQ s3=>(
 bn (aE\λx6=>aG\λx7=>bA\λx8=>bn (b2 vG (c1 cO (ca aG)) (ca (.int 1))) λx9=>PQ\λkH=>(eU (aZ 63)) x6 x7 x8 x9 kH) λl11=>bn (Im s3 l11) λMH=>
 ca MH)) λs3=>
 ca s3
def gr(aE:PV)(TZ:PV):W PV:=
 bn ((.int 0)\λx2=>(.int 0)\λx3=>(.int 0)\λx4=>(.int 0)\λx5=>ca [x2,x3,x4,x5]) λbu=>
 bn (TZ\λx7=>ca [x7]) λJE=>
 bn (xU (λs8=>(s8.2\λl9=>ca (!l9.isEmpty))) (λs8=>(
 bn (tM s8.2) λGv=>
 bn (bn (Gv.2\λmn=>bn (bn (ca (.int 2)) part) λi13=>ce\λj14=>vF mn i13 j14) aw) λl16=>bn (Im Gv.1 l16) λyw=>
 bn (t2 vH (bJ (bn (ca Gv.2) aw) (ca (.int 1))) (ca (.str "found"))) λb=>bn (if b=true then (
 bn (dgB (ca (dvK (dcP [("split",0),("doubled",1),("over",2)]))) (bJ (bn (ca Gv.2) aw) (ca (.int 1)))) λTc=>
 bn (w2 addW (bJ (ca s8.1) (ca Tc)) (ca (.int 1))) λGG=>Tc\λPk=>bn (oj s8.1 Pk GG) λIb=>
 ca Ib) else (
 ca s8.1)) λÿ=>
 bn (w2 addW (bJ (ca ÿ) (ca (.int 3))) (bn (bn (bn (bn (bJ (bn (ca Gv.2) aw) (ca (.int 0))) λYA=>ce\λi27=>bn (bn (bn (ca (.int 1)) vI) part) λĊ=>vF YA i27 Ċ) aw) λl30=>kz l30 λZC=>J4 (t2 dN (c1 cO (bJ (bn (bJ (bn (ca aE) aw) (ca ZC)) aw) (ca (.int 2)))) (ca (.int 2))) (ca ZC)) uo)) λYz=>(.int 3)\λTV=>bn (oj ÿ TV Yz) λIa=>
 ca (Ia,yw))) (bu,JE)) λs8=>
 (bn (ca s8.1) ku)
def cu(bO:PV)(qZ:PV):W PV:=
 (bn (bn (bn (bn (ca bO) aw) λl1=>bn (bn (ca qZ) aw) λl2=>GC l1 l2) λl3=>bx l3 λp4=>bn (vm p4) λt5=>(b2 Q5 (ca t5.1) (ca t5.2))) fM)
def eT(aE:PV)(jB:PV)(bO:PV):W PV:=
 bn (jB\λx2=>a9 12 x2) λi5=>
 bn (aE\λx4=>(.cl i5)\λx5=>dZ x4 x5) λtE=>
 ff (t2 ZN (bn (bn (bJ (bn (ca (.cl tE)) aw) (bn (ca (.int 1)) vI)) aw) fM) (ca (.int 300))) (
 (ca (.bl true))) (
 bn (bn (aE\λx7=>(.cl i5)\λx8=>(.cl tE)\λx9=>gs x7 x8 x9) λl10=>bx l10 λą=>(aE\λvA=>ą\λsX=>gr vA sX)) λfK=>
 bn (bn ((.str "split")\λvz=>(.str "doubled")\λmn=>(.str "over")\λrm=>ca [vz,mn,rm]) λO8=>.eK (O8.length<=sizeLine) (.ret (cY 0 O8))) λl47=>bn (mD l47 () λp19 ę=>bn (vm p19) λPJ=>(
 bn (w2 addW (w2 addW (bO\λGG=>ce\λi22=>bn (bn (ca PJ.1) part) λj23=>vF GG i22 j23) ((.int 0)\λPk=>ca (.tup [Pk]))) (bO\λTX=>bn (bn (w2 addW (ca PJ.1) (ca (.int 1))) part) λi26=>ce\λj27=>vF TX i26 j27)) λyn=>
 []\λK9=>
 bn (bn (b2 oDiv (w2 addW (c1 cO (ca (.cl i5))) (ca (.int 1))) (ca (.int 2))) jb) λl45=>bn (bU l45 K9 λadN Y3=>(
 bn (bn (bn (bn (ca (.cl fK)) aw) λl34=>kz l34 λNG=>J4 (t2 dN (bJ (bn (ca NG) aw) (ca PJ.1)) (ca adN)) (yn\λx36=>NG\λx37=>cu x36 x37)) tZ) λYy=>bn (gD Y3 Yy) λSQ=>
 ca SQ)) λY3=>
 ff (t2 vH (bn (aE\λx39=>jB\λx40=>bO\λx41=>PJ.2\λx42=>oE x39 x40 x41 x42) yo) (bn (bn (ca Y3) ku) yo)) (
 (.bl false)\λx43=>ca (Lp.out x43)) (
 ca (.go ())))) (Pb (λę=>
 (ca (.bl true))) id))
def ub(fy:PV):W PV:=
 bn (fy\λx2=>gq x2) λtK=>W.eK (∃s:Int,tK=[.hand,.int s,.int 0]) (
 bn (bn (ca (.int 12)) jb) λl36=>bn (mD l36 () λYM s4=>(
 bn (bn ((.str "a")\λx8=>(.str "ab")\λx9=>(.str "c")\λkH=>ca [x8,x9,kH]) λl12=>ce\λi13=>bn (bn (w2 addW (ca (.int 1)) ((.int 3)\λnY=>cI nY)) part) λj14=>ca (eJ l12 i13 j14)) λxT=>
 bn ((.cl xT)\λrm=>cj rm) λoW=>
 bn (bn (gz (bn (bn (w2 addW (ca (.int 1)) ((.int 4)\λvv=>cI vv)) jb) λZ9=>bx Z9 λĜ=>((.cl xT)\λTY=>gE TY))) λGG=>cj GG) λG0=>
 bn (ff (t2 dN ((.int 2)\λYB=>cI YB) (ca (.int 0))) (oW\λx27=>kZ x27) (oW\λTX=>bn (oW\λYA=>de YA) λx30=>lU TX x30)) λGX=>
 ff (T7 (bn (GX\λx31=>G0\λYz=>bn (dY) λTV=>eT x31 Yz TV) hG)) (
 (.bl false)\λTU=>ca (Lp.out TU)) (
 ca (.go ())))) (Pb (λs4=>
 (ca (.bl true))) id))
end My
variable{LU GS PB LW LV Py wK PC:PySem.Tok}{sT:Bq}{mB:PL.PV->PL.PV->PL.PV->PL.PV->PL.PV->FL.W (O PL.PV)}
namespace My
def top(i:Nat):ut:=PySem.Challenge.pw_treewithin_k56_rests_by_all_ways.main.body.getD i (.Pass ⟨0,0,0,0⟩)
abbrev dV(i k:Nat)(ks:O AK)(n:Nat)(m:Jk PV n):DF:=⟨dnm (top i),top i,JB (top i),k,λK=>PY K ks (wJ n m)⟩
abbrev dL(i k:Nat)(ks:O AK)(n:Nat)(m:Jk (O PV) n):DF:=⟨dnm (top i),top i,JB (top i),k,λK=>yf K ks (wJ n m)⟩
abbrev dv(i k n:Nat)(m:Jk PV n):DF:=dV i k (Ap n .v) n m
abbrev uj:nw:=nV [("node",lo)]
def mR:LS (top 4) uj:=lcs
abbrev uf:nw:=nV [("house",lo)]
def mN:LS (top 13) uf:=lcs
abbrev qh:nw:=nV [("far",lo),("house",fr),("lines",fr)]
def kf:LS (top 14) qh:=lcs
abbrev yN:nw:=nV [("house",lo),("name_of",gi),("halves",gi),("apart_from",gi),("houses",fr),("lines",fr)]
def qN:LS (top 15) yN:=lcs
abbrev ue:nw:=nV [("far",lo),("stay",fr)]
abbrev ud:nw:=nV [("far",lo),("stay",fr)]
def mM:LS (top 23) ue:=lcs
def mL:LS (top 23) ud:=lcs
abbrev uh:nw:=nV [("ins",lo),("SPLIT",gi)]
abbrev ug:nw:=nV [("ins",lo),("OVER",gi)]
def mP:LS (top 24) uh:=lcs
def mO:LS (top 24) ug:=lcs
abbrev ui:nw:=nV [("cost",lo)]
def mQ:LS (top 28) ui:=lcs
abbrev yL:nw:=nV [("cost",lo),("summed",gi),("more",fr)]
def qK:LS (top 32) yL:=lcs
abbrev yO:nw:=nV [("place",lo)]
def qO:LS (top 33) yO:=lcs
abbrev yM:nw:=nV [("costs",lo),("number",fr)]
abbrev oK:nw:=nV [("number",.cell),("cheapest",gi),("lists",fr)]
def qM:LT oK yM:=lcs
def qL:LS (top 34) oK:=lcs
abbrev mw:nw:=nV [("half",lo),("len",gi),("rows",fr)]
abbrev mr:nw:=nV [("deed",lo),("done_costs",gi),("asked",fr),("node",fr),("prices",fr),("rows",fr)]
abbrev mq:nw:=nV [("below",lo),("raised",gi),("own",fr),("told",fr)]
def gU:LS (top 36) mw:=lcs
def gT:LS (top 36) mr:=lcs
def gR:LS (top 36) mq:=lcs
abbrev oJ:nw:=nV [("house",lo),("date",lo),("isinstance",gi),("str",gi)]
def fu:LS (top 39) oJ:=lcs
abbrev vL:nw:=nV [("each",lo),("layer",fr),("numbers",fr)]
abbrev vK:nw:=nV [("far",lo),("house",fr),("layer",fr),("numbers",fr)]
def oS:LS (top 41) vL:=lcs
def oQ:LS (top 41) vK:=lcs
abbrev Hz:nw:=nV [("number",lo),("pair",lo)]
abbrev Hy:nw:=nV [("pair",lo),("stay_of",gi),("begins",fr),("dates",fr),("houses",fr),("numbers",fr)]
def nv:LS (top 42) Hz:=lcs
def uq:LS (top 42) Hy:=lcs
abbrev uk:nw:=nV [("_law_cell",lo)]
def mS:LS (top 44) uk:=lcs
def dI:fe (JN (top 48)) (JB (top 48)) (aQ (top 48)):=fsc
abbrev oO:nw:=nV [("_law_there",lo),("_law_row",fr)]
abbrev oM:nw:=nV [("_law_start",lo),("_law_behind",gi),("_law_rows",fr),("_law_thing",fr)]
def jk:LS (top 53) oO:=lcs
def jh:LS (top 53) oM:=lcs
abbrev qk:nw:=nV [("_law_other",lo),("_law_one",fr),("_law_start",fr),("_law_stay",fr)]
def ki:LS (top 55) qk:=lcs
def eM:fe (JN (top 56)) (JB (top 56)) (aQ (top 56)):=fsc
abbrev ql:nw:=nV [("_law_stay",lo),("len",gi),("_law_stays",fr)]
def kj:LS (top 58) ql:=lcs
abbrev rE:nw:=nV [("_law_price",lo),("_law_many",lo)]
def gV:LS (top 59) rE:=lcs
abbrev qj:nw:=nV [("_law_way",lo),("_law_count",gi),("_law_stays",fr)]
abbrev qi:nw:=nV [("_law_count_here",lo),("_law_cost",gi),("_law_at",fr),("_law_n",fr),("_law_rest",fr)]
def kh:LS (top 60) qj:=lcs
def kg:LS (top 60) qi:=lcs
abbrev NR:nw:=nV [("_law_k",lo),("_law_of",gi),("_law_pot_here",fr),("_law_words",fr)]
def HD:LS (top 61) NR:=lcs
structure NB(v:EV):Prop where
 isinstance:v.mg "isinstance"=ce
 str:v.mg "str"=ce
 list:v.mg "list"=ce
 reversed:v.mg "reversed"=ce
 len:v.mg "len"=ce
 tuple:v.mg "tuple"=ce
 enumerate:v.mg "enumerate"=ce
 range:v.mg "range"=ce
 sorted:v.mg "sorted"=ce
 sum:v.mg "sum"=ce
 min:v.mg "min"=ce
 zip:v.mg "zip"=ce
 dict:v.mg "dict"=ce
 int:v.mg "int"=ce
 repr:v.mg "repr"=ce
abbrev nJ:DF:=dL 1 1 [.v] 1 nj
def Ka(D:DI v nJ)(q:NB v):D.O:=
 Je D λhr nd c8=>
 (sl 1 nd (aU (n:=0) af rfl) λnT=>
 (sl 2 nd (aU (n:=1) (av 0 af) rfl) λpS=>
 (SF.W8 (hd:=(λ(s4:O PV×O PV)=>([am (.val c8),am (.ol ce s4.1),am (.ol ce s4.2),ce]:aR))) (s0:=(nT,pS)) Ax (.refl _) (λs4=>(acB rfl (dA 2) (λ_=>rfl))) (λs4=>
 (SF.yu 2 3 rfl ⋯ rfl rfl (.inl rfl) nd rfl (Cg rfl) λt7=>
 (SF.append 1 rfl rfl rfl (.inl rfl) (ae 3) λnR=>
 (SF.ifT (LR (gH rfl (kr rfl .str rfl q.isinstance (ae 3) rfl q.str Ch) (λ_=>rfl)))
 (SF.extend 2 rfl rfl rfl (.inl rfl) (az (ae 3)) λtm=>
 (SF.c7 rfl (.m 8)))
 (SF.c7 rfl (.m 8)))))) λs4=>
 (SF.kS (adR rfl rfl rfl q.list rfl q.reversed (tG 1)) λ_=>rfl))))
abbrev mf:DF:=dv 2 2 1 jM
def VG(D:DI v mf)(q:NB v)(Ky:nJ.C v):D.O:=
 sG D λhr nd c8=>
 (sl 1 nd (aU (n:=0) af rfl) λc9=>
 (sl 2 nd (aU (n:=0) af rfl) λyP=>
 (SF.mE (hd:=(λ(s4:O PV×O PV)=>([am (.val c8),am (.ol ce s4.1),am (.ol ce s4.2),ce,ce,ce]:aR))) (s0:=(c9,yP)) Ax rfl (bg rfl (ko (lC Ky hr (av 0 af)))) (.refl _) (cX 3 nd) (λs4 yA=>
 (SF.ifS (out1:=λ(Y5:O PV×O PV)=>.nx ([am (.val c8),am (.ol ce Y5.1),am (.ol ce Y5.2),am (.val yA),ce,ce]:aR)) (gH rfl (kr rfl .str rfl q.isinstance (ae 3) rfl q.str Ch) (λ_=>rfl))
 (SF.append 1 rfl rfl rfl (.inl rfl) (ae 3) λLO=>
 (SF.nil rfl (.refl _)))
 (SF.yu 2 4 rfl ⋯ rfl rfl (.inl rfl) nd rfl (Cg rfl) λPJ=>
 (SF.yu 2 5 rfl ⋯ rfl rfl (.inl rfl) nd rfl (Cg rfl) λt22=>
 (SF.append 1 rfl rfl rfl (.inl rfl) (aX (n:=2) (av 5 (av 4 af)) rfl) λLN=>
 (SF.nil rfl (.m 48)))))
 λY5=>(SF.append 2 rfl rfl rfl (.inl rfl) (qW (nF rfl rfl q.len (dA 1)) aj) λHA=>
 (SF.c7 rfl (.m 8))))) λs4=>
 (SF.dJ (d6 rfl rfl q.tuple (dA 1)) λ_=>rfl))))
abbrev jv:DF:=dv 3 1 1 dc
def RA(D:DI v jv)(q:NB v):D.O:=
 sG D λhr nd a8=>
 (SF.dJ (v5 (gH rfl (kr rfl .str rfl q.isinstance (ae 0) rfl q.str Ch) (λ_=>rfl)) (aX (n:=0) af rfl) (ae 0)) λ_=>rfl)
abbrev jW:DF:=dv 4 3 1 gN
def Kg(D:DI v jW)(q:NB v)(jQ:mf.C v)(gX:jv.C v):D.O:=
 sG D λhr nd c8=>
 (sv 1 nd (eC jQ hr (av 0 af)) λc9=>
 (SF.hZ (i:=3) rfl nd rfl rfl mR (bg rfl (bB (ae 1))) (λ_ _ _ _ _=>(cX 0 mR.nd)) (λ_ _ _ _ _ p5=>o9) rfl λzZ=>
 (SF.KI (hd:=(λ(s7:O PV)=>([am (.val c8),am (.val c9),ce,am (.ol ce s7),ce,ce]:aR))) (s0:=zZ) Ax rfl (jP rfl rfl q.enumerate (bB (ae 1))) (.refl _) (λ_=>(Pc rfl (fj rfl (aW (cX 4 nd) (aW (cX 2 nd) dm))))) (λs7 t9=>
 (SF.mE (hd:=(λ(Jd:O PV)=>([am (.val c8),am (.val c9),am (.val t9.2),am (.ol ce Jd),am (.val t9.1),ce]:aR))) (s0:=s7) Ax rfl (bg rfl (bB (eC gX hr (av 2 af)))) (.refl _) (cX 5 nd) (λJd Mx=>
 (SF.Np 3 rfl rfl (.inl rfl) (ae 4) (ae 5) λIL=>
 (SF.c7 rfl (.m 32)))) λJd=>
 (SF.c7 rfl (.m 20)))) λs7=>
 (SF.dJ (d6 rfl rfl q.tuple (dA 3)) λ_=>rfl))))
abbrev fx:DF:=dv 9 1 2 d9
def J7(D:DI v fx)(pC:v.mg "UNDER"=am (.int 2 LU)):D.O:=
 sG D λhr nd aE aV=>
 (SF.dJ (aM rfl (az (aM rfl (az (ae 0)) (ae 1))) (zA pC rfl)) λ_=>rfl)
abbrev lF:DF:=dv 10 1 2 ir
def HI(D:DI v lF)(lJ:v.mg "BESIDE"=am (.int 3 GS)):D.O:=
 sG D λhr nd aE aV=>
 (SF.dJ (aM rfl (az (aM rfl (az (ae 0)) (ae 1))) (zA lJ rfl)) λ_=>rfl)
abbrev qC:DF:=dv 11 2 3 lT
def N1(D:DI v qC)(u9:v.mg "NAME"=am (.int 0 PB))(eE:fx.C v):D.O:=
 sG D λhr nd aE aV W7=>
 (SF.dJ (Yh (Iv (gW rfl (bq hr)) (eC eE hr (av 0 (av 1 af))) (aX (n:=0) af rfl)) (Yf (Iv (gW rfl (bq hr)) (aM rfl (az (aM rfl (az (ae 0)) (ae 1))) (zA u9 rfl)) (ae 2)))) λ_=>rfl)
abbrev mh:DF:=dv 12 1 2 fo
def N0(D:DI v mh)(q:NB v):D.O:=
 sG D λhr nd fF lh=>
 (SF.dJ (v5 (gH rfl (kr rfl .str rfl q.isinstance (aM rfl (az (ae 0)) (ae 1)) rfl q.str Ch) (λ_=>rfl)) (aM rfl (az (ae 0)) (ae 1)) (ae 1)) λ_=>rfl)
abbrev nL:DF:=dL 13 4 [.v] 1 jN
def Kc(D:DI v nL)(q:NB v)(nC:jW.C v):D.O:=
 Je D λhr nd bW=>
 (sv 1 nd (eC nC hr (av 0 af)) λd7=>
 (SF.hZ (i:=3) rfl nd rfl rfl mN (bg rfl (bB (ae 1))) (λ_ _ _ _ _=>(cX 0 mN.nd)) (λ_ _ _ _ _ p5=>(aX (n:=0) af rfl)) rfl λlV=>
 (SF.mE (hd:=(λ(s9:O PV)=>([am (.val bW),am (.val d7),ce,am (.ol ce s9),ce]:aR))) (s0:=lV) Ax rfl (VN rfl q.range (qW (cS rfl rfl q.len (ae 1)) aj) (uU aj) (uU aj)) (.refl _) (cX 2 nd) (λs9 lg=>
 (sv 4 nd (v5 (cW RH (aM rfl (az (ae 1)) (ae 2)) o9) (aX (n:=0) af rfl) (aM rfl (dA 3) (aM rfl (az (ae 1)) (ae 2)))) λIM=>
 (SF.Np 3 rfl rfl (.inl rfl) (bX rfl (aX (n:=1) (av 2 af) rfl) (ae 4)) (ae 2) λHB=>
 (SF.c7 rfl (.m 20))))) λs9=>
 (SF.ym 3 rfl rfl))))
abbrev jV:DF:=dv 14 1 2 gp
def yY(D:DI v jV)(q:NB v):D.O:=
 sG D λhr nd yR lh=>
 (SF.dJ (d6 rfl rfl q.tuple (mI (xl rfl kf (eX rfl q.range (cS rfl rfl q.len (ae 0))) (λ_ _ _ _ _=>(cX 0 kf.nd)) (λ_ _ _ _ _ p3=>(M4.t (xV (Px rfl (bq hr) (ae 0) (az (aM rfl (az (ae 2)) (ae 1)))) (rY (Px rfl (bq hr) (ae 1) (az (aM rfl (az (ae 2)) (ae 0)))))))) (λ_ _ _ _ _ p3=>(ae 0)) rfl))) λ_=>rfl)
abbrev uW:DF:=dv 15 5 1 kZ
def RB(D:DI v uW)(q:NB v)(jQ:mf.C v)(KA:nL.C v)(qx:mh.C v)(gX:jv.C v)(zi:jV.C v):D.O:=
 sG D λhr nd bW=>
 (sv 1 nd (eC jQ hr (av 0 af)) λfR=>
 (sl 2 nd (lC KA hr (av 0 af)) λlV=>
 SF.cn 2 rfl (SF.dJ (d6 rfl rfl q.tuple (mI (fY rfl qN (eX rfl q.range (cS rfl rfl q.len (ae 1))) (λ_ _ _ _ _=>(cX 0 qN.nd)) (λ_ _ _ _ _ p7=>(aX (n:=4) (ai (eC qx hr (av 1 (av 0 af))) (ai aj (ai (eC gX hr (ai (aM rfl (az (ae 1)) (ae 0)) af)) (ai (eC zi hr (av 2 (av 0 af))) af)))) rfl)) rfl))) λ_=>rfl)))
abbrev lE:DF:=dL 22 2 [.v,.v] 2 iq
def HH(D:DI v lE)(q:NB v)(eE:fx.C v):D.O:=
 Je D λhr nd bo aV=>
 (sv 2 nd (eC eE hr (av 0 (av 1 af))) λn5=>
 (SF.kS (adT (cW (gW rfl (bq hr)) (cS rfl rfl q.len (ae 2)) aj) (aU (n:=2) (av 2 (ai (aX (n:=2) (ai (aM rfl (az (ae 2)) aj) (ai (aM rfl (az (ae 2)) aj) af)) rfl) af)) rfl) (aU (n:=0) af rfl)) λ_=>rfl))
abbrev nK:DF:=dL 23 2 [.v,.v] 2 jL
def Kb(D:DI v nK)(HW:lF.C v):D.O:=
 Je D λhr nd bo aV=>
 (sv 2 nd (eC HW hr (av 0 (av 1 af))) λvd=>
 (SF.kS (kl rfl (bN (fY rfl mM (bg rfl (bB (ae 2))) (λ_ _ _ _ _=>(cX 0 mM.nd)) (λ_ _ _ _ _ p5=>(aX (n:=2) (av 1 (av 0 af)) rfl)) rfl)) (bN (fY rfl mL (bg rfl (bB (ae 2))) (λ_ _ _ _ _=>(cX 0 mL.nd)) (λ_ _ _ _ _ p9=>(aX (n:=2) (av 0 (av 1 af)) rfl)) rfl))) λ_=>rfl))
abbrev nM:DF:=dL 24 3 [.v,.v,.v] 3 fq
def Ke(D:DI v nM)(q:NB v)(pE:v.mg "FOUND"=am (.str "found" LW))(pD:v.mg "SPLIT"=am (.str "split" LV))(u7:v.mg "OVER"=am (.str "over" Py))(jx:v.mg "DOUBLED"=am (.str "doubled" wK))(Ol:qC.C v)(HU:lE.C v)(Kz:nK.C v):D.O:=
 Je D λhr nd bo a8 aV=>
 (SF.ifR (gH rfl (kr rfl .str rfl q.isinstance (ae 1) rfl q.str Ch) (λ_=>rfl))
 (SF.kS (adT (gH rfl (eC Ol hr (av 0 (av 2 (av 1 af)))) (λ_=>rfl)) (aU (n:=1) (ai (aX (n:=2) (ai (zy pE rfl) (ai (aX (n:=0) af rfl) af)) rfl) af) rfl) (aU (n:=0) af rfl)) λ_=>rfl)
 (SF.hZ (i:=3) rfl nd rfl rfl mP (bg rfl (ko (lC HU hr (av 0 (av 2 af))))) (λ_ _ _ _ _=>(cX 0 mP.nd)) (λ_ _ _ _ _ ą=>(aX (n:=2) (ai (zy pD rfl) (av 0 af)) rfl)) rfl λL3=>
 SF.cn 3 rfl (SF.hZ (i:=4) rfl nd rfl rfl mO (bg rfl (ko (lC Kz hr (av 0 (av 2 af))))) (λ_ _ _ _ _=>(cX 0 mO.nd)) (λ_ _ _ _ _ p18=>(aX (n:=2) (ai (zy u7 rfl) (av 0 af)) rfl)) rfl λMg=>
 SF.cn 4 rfl (SF.kS (Vw rfl (bq hr) rfl q.sorted (bN (kl rfl (bN (kl rfl (bN (aU (n:=1) (ai (aX (n:=2) (ai (zy jx rfl) (ai (aX (n:=2) (av 2 (av 2 af)) rfl) af)) rfl) af) rfl)) (fW (ae 3)))) (fW (ae 4))))) λ_=>rfl))))
abbrev pq:DF:=dv 27 1 1 kY
def Rv(D:DI v pq)(q:NB v):D.O:=
 sG D λhr nd j6=>
 (SF.dJ (v5 (acD rfl (bq hr) o9 (az (ae 0))) o9 (uT rfl rfl rfl q.sum (fW (ae 0)))) λ_=>rfl)
abbrev jU:DF:=dv 28 1 1 gM
def Kf(D:DI v jU)(q:NB v):D.O:=
 sG D λhr nd j6=>
 (SF.dJ (SE rfl rfl rfl q.min (bN (xl rfl mQ (bg rfl (bB (ae 0))) (λ_ _ _ _ _=>(cX 0 mQ.nd)) (λ_ _ _ _ _ p2=>(cW VL (ae 0) o9)) (λ_ _ _ _ _ p2=>(ae 0)) rfl))) λ_=>rfl)
abbrev nI:DF:=dv 29 1 2 jK
def J9(D:DI v nI)(mj:v.mg "DEEDS"=am (.ref sT))(sL:Tg v.K sT ["split","doubled","over"]):D.O:=
 sG D λhr nd bZ ju=>
 (SF.dJ (v5 (acC rfl (bq hr) (ae 1) mj sL) (aM rfl (az (ae 0)) (aa6 rfl (ae 1) mj sL)) aj) λ_=>rfl)
abbrev lz:DF:=dv 30 2 3 ip
def HG(D:DI v lz)(q:NB v)(va:v.mg "LOST"=am (.int 3 PC))(eE:fx.C v):D.O:=
 sG D λhr nd bo bZ aV=>
 (SF.dJ (v5 (cW (gW rfl (bq hr)) (cS rfl rfl q.len (eC eE hr (av 0 (av 2 af)))) aj) (aM rfl (az (ae 1)) (zA va rfl)) aj) λ_=>rfl)
abbrev pw:DF:=dL 32 2 [.v,.v] 2 gK
def Rx(D:DI v pw)(uD:pq.C v):D.O:=
 Je D λhr nd j6 Xz=>
 (SF.kS (fY rfl qK (bg rfl (bB (ae 0))) (λ_ _ _ _ _=>(cX 0 qK.nd)) (λ_ _ _ _ _ p2=>(eC uD hr (ai (gZ (aU (n:=2) (av 0 (av 1 af)) rfl)) af))) rfl) λ_=>rfl)
abbrev uX:DF:=dL 33 2 [.v,.v] 2 oG
def RC(D:DI v uX)(q:NB v)(nB:jU.C v)(uD:pq.C v):D.O:=
 Je D λhr nd Q0 tP=>
 (SF.hZ (i:=3) rfl nd rfl rfl qO (eX rfl q.range (qW (bX rfl (cS rfl rfl q.len (ae 0)) (cS rfl rfl q.len (ae 1))) aj)) (λ_ _ _ _ _=>(cX 0 qO.nd)) (λ_ _ _ _ _ p4=>o9) rfl λc9=>
 (SF.KI (hd:=(λ(s6:O PV)=>([am (.val Q0),am (.val tP),ce,am (.ol ce s6),ce,ce,ce]:aR))) (s0:=c9) Ax rfl (jP rfl rfl q.enumerate (bB (ae 0))) (.refl _) (λ_=>(Pc rfl (fj rfl (aW (cX 4 nd) (aW (cX 5 nd) dm))))) (λs6 t8=>
 (SF.KI (hd:=(λ(Jd:O PV)=>([am (.val Q0),am (.val tP),ce,am (.ol ce Jd),am (.val t8.1),am (.val t8.2),ce]:aR))) (s0:=s6) Ax rfl (RK rfl rfl q.enumerate (ae 1) (ae 4)) (.refl _) (λ_=>(Pc rfl (fj rfl (aW (cX 2 nd) (aW (cX 6 nd) dm))))) (λJd ė=>
 (SF.Np 3 rfl rfl (.inl rfl) (eC nB hr (ai (gZ (aU (n:=2) (ai (aM rfl (dA 3) (ae 2)) (ai (eC uD hr (ai (gZ (aU (n:=2) (av 5 (av 6 af)) rfl)) af)) af)) rfl)) af)) (ae 2) λLP=>
 (SF.c7 rfl (.m 68)))) λJd=>
 (SF.c7 rfl (.m 48)))) λs6=>
 (SF.ym 3 rfl rfl)))
abbrev pz:DF:=dL 34 2 [.v,.v] 2 gL
def Rz(D:DI v pz)(q:NB v)(nB:jU.C v):D.O:=
 Je D λhr nd Rj XA=>
 (SF.kS (fY rfl qL (eX rfl q.range (ae 1)) (λ_ _ _ _ _=>(cX 0 qL.nd)) (λ_ _ _ _ _ p3=>(eC nB hr (ai (gZ (fY rfl (a7.rel qM) (bg rfl (bB (ae 1))) (λ_ _ _ _ _=>(cX 0 qM.nd)) (λ_ _ _ _ _ p5=>(aM rfl (az (ae 0)) (ae 1))) rfl)) af))) rfl) λ_=>rfl)
abbrev jT:DF:=dv 35 3 5 cJ
def yW(D:DI v jT)(q:NB v)(gX:jv.C v)(R5:uX.C v)(uE:pw.C v)(Kx:nI.C v):D.O:=
 sG D λhr nd bZ nU bA a8 ju=>
 (sl 5 nd (aU (n:=1) (ai aj af) rfl) λc9=>
 SF.cn 5 rfl (SF.KI (hd:=(λ(s6:PV)=>([am (.val bZ),am (.val nU),am (.val bA),am (.val a8),am (.val ju),am (.val s6),ce,ce]:aR))) (s0:=(.cl c9)) Ax rfl (Kj rfl rfl q.zip (bB (eC gX hr (av 3 af))) (bB (aM rfl (az (ae 4)) aj))) (.refl _) (λ_=>(Pc rfl (fj rfl (aW (cX 6 nd) (aW (cX 7 nd) dm))))) (λs6 t8=>
 (sl 5 nd (lC R5 hr (av 5 (ai (aM rfl (az (aM rfl (az (ae 2)) (ae 6))) (ae 7)) af))) λPr=>
 SF.cn 5 rfl (SF.c7 rfl (.m 192)))) λs6=>
 (SF.ifR (gH rfl (kr rfl .str rfl q.isinstance (ae 3) rfl q.str Ch) (λ_=>rfl))
 (SF.dJ (ae 5) λ_=>rfl)
 (SF.ifR (cW (gW rfl (bq hr)) (aM rfl (az (ae 4)) aj) (ae 1))
 (SF.dJ (gZ (kl rfl (bN (aU (n:=1) (ai o9 af) rfl)) (fW (ae 5)))) λ_=>rfl)
 (SF.dJ (gZ (kl rfl (bN (lC uE hr (av 5 (ai (eC Kx hr (av 0 (ai (aM rfl (az (ae 4)) aj) af))) af)))) (bN (aU (n:=1) (ai o9 af) rfl)))) λ_=>rfl)))))
abbrev f6:DF:=dL 36 4 [.v,.v,.v,.v,.v] 5 dX
def rH(D:DI v f6)(q:NB v)(HS:lz.C v)(KC:nM.C v)(zh:jT.C v)(eE:fx.C v)(uE:pw.C v)(uF:pz.C v):D.O:=
 Je D λhr nd bo bZ nU bA a8=>
 (sv 5 nd (v5 (gH rfl (kr rfl .str rfl q.isinstance (ae 4) rfl q.str Ch) (λ_=>rfl)) aj (uT rfl rfl rfl q.sum (bN (fY rfl gU (bg rfl (bB (ae 4))) (λ_ _ _ _ _=>(cX 0 gU.nd)) (λ_ _ _ _ _ p3=>(cS rfl rfl q.len (aM rfl (az (aM rfl (az (ae 1)) (ae 0))) aj))) rfl)))) λJW=>
 (sl 6 nd (aU (n:=0) af rfl) λJt=>
 (SF.mE (hd:=(λ(s6:O PV)=>([am (.val bo),am (.val bZ),am (.val nU),am (.val bA),am (.val a8),am (.val JW),am (.ol ce s6),ce,ce,ce,ce]:aR))) (s0:=Jt) Ax rfl (eX rfl q.range (cS rfl rfl q.len (ae 0))) (.refl _) (cX 7 nd) (λs6 ya=>
 (sv 8 nd (eC HS hr (av 0 (av 1 (av 7 af)))) λXr=>
 (SF.hZ (i:=9) rfl nd rfl rfl gT (bg rfl (ko (lC KC hr (av 0 (av 4 (av 7 af)))))) (λ_ _ _ _ _=>(cX 0 gT.nd)) (λ_ _ _ _ _ U4=>(eC zh hr (av 3 (av 1 (av 4 (av 2 (av 0 af))))))) rfl λMV=>
 SF.cn 9 rfl (SF.hZ (i:=10) rfl nd rfl rfl gR (bg rfl (bB (eC eE hr (av 0 (av 7 af))))) (λ_ _ _ _ _=>(cX 0 gR.nd)) (λ_ _ _ _ _ ě=>(gZ (lC uE hr (ai (aM rfl (dA 2) (ae 0)) (av 1 af))))) rfl λtw=>
 SF.cn 10 rfl (SF.append 6 rfl rfl rfl (.inr (.inl rfl)) (gZ (lC uF hr (ai (gZ (kl rfl (fW (ae 9)) (fW (ae 10)))) (av 5 af)))) λLM=>
 (SF.c7 rfl (.m 1920))))))) λs6=>
 (SF.ym 6 rfl rfl))))
abbrev zM:DF:=dv 37 5 4 oE
def VF(D:DI v zM)(q:NB v)(jQ:mf.C v)(rM:f6.C v)(uF:pz.C v):D.O:=
 sG D λhr nd bo jB bZ ju=>
 (sl 4 nd (aU (n:=0) af rfl) λda=>
 (SF.mE (hd:=(λ(s3:O PV)=>([am (.val bo),am (.val jB),am (.val bZ),am (.val ju),am (.ol ce s3),ce]:aR))) (s0:=da) Ax rfl (bg rfl (bB (eC jQ hr (av 1 af)))) (.refl _) (cX 5 nd) (λs3 Q8=>
 (SF.append 4 rfl rfl rfl (.inl rfl) (aa8 4 rfl rfl (gZ (lC rM hr (av 0 (av 2 (av 3 (av 4 (av 5 af)))))))) λQe=>
 (SF.c7 rfl (.m 32)))) λs3=>
 (SF.dJ (d6 rfl rfl q.tuple (mI (lC uF hr (ai (aM rfl (dA 4) (uU aj)) (ai (cS rfl rfl q.len (aM rfl (az (aM rfl (dA 4) (uU aj))) aj)) af))))) λ_=>rfl)))
abbrev iP:DF:=dL 39 1 [.v,.v] 2 fD
def vN(D:DI v iP)(q:NB v):D.O:=
 Je D λhr nd fF dF=>
 (SF.kS (adS rfl fu (Kj rfl rfl q.zip (bB (ae 0)) (bB (ae 1))) (λ_ _ _ _ _=>(Pc rfl (fj rfl (aW (cX 0 fu.nd) (aW (cX 1 fu.nd) dm))))) (λ_ _ _ _ _ t5=>(LR (gH rfl (kr rfl .str rfl q.isinstance (ae 0) rfl q.str Ch) (λ_=>rfl)))) (λ_ _ _ _ _ t5=>(ae 1)) (Z3 rfl rfl ⋯) ⋯) λ_=>rfl)
abbrev nH:DF:=dL 40 4 [.v,.v,.v] 3 jJ
def J8(D:DI v nH)(q:NB v)(nC:jW.C v):D.O:=
 Je D λhr nd bW dF j8=>
 (sv 3 nd (eC nC hr (av 0 af)) λd7=>
 (sl 4 nd (aU (n:=0) af rfl) λyC=>
 (SF.KI (hd:=(λ(s5:O PV)=>([am (.val bW),am (.val dF),am (.val j8),am (.val d7),am (.ol ce s5),ce,ce,ce,ce]:aR))) (s0:=yC) Ax rfl (jP rfl rfl q.enumerate (bB (ae 2))) (.refl _) (λ_=>(Pc rfl (fj rfl (aW (cX 5 nd) (aW (cX 6 nd) dm))))) (λs5 t7=>
 (SF.KI (hd:=(λ(s9:O PV)=>([am (.val bW),am (.val dF),am (.val j8),am (.val d7),am (.ol ce s9),am (.val t7.1),am (.val t7.2),ce,ce]:aR))) (s0:=s5) Ax rfl (jP rfl rfl q.enumerate (bB (ae 1))) (.refl _) (λ_=>(Pc rfl (fj rfl (aW (cX 7 nd) (aW (cX 8 nd) dm))))) (λs9 Gv=>
 (SF.ifT (M4.t (xV (cW ad1 (ae 8) (ae 6)) (rY (M4.t (W9 (cW RH (aM rfl (az (ae 3)) (ae 7)) o9) (Pq (cW XQ (ae 6) (aM rfl (az (ae 1)) (aM rfl (az (ae 3)) (ae 7))))))))))
 (SF.append 4 rfl rfl rfl (.inl rfl) (aX (n:=2) (av 7 (av 5 af)) rfl) λHh=>
 (SF.c7 rfl (.m 384)))
 (SF.c7 rfl (.m 384)))) λs9=>
 (SF.c7 rfl (.m 96)))) λs5=>
 (SF.ym 4 rfl rfl))))
abbrev qB:DF:=dv 41 2 5 lS
def NZ(D:DI v qB)(q:NB v)(gX:jv.C v)(qx:mh.C v):D.O:=
 sG D λhr nd fF dF j8 oy QU=>
 (sv 5 nd (aM rfl (az (ae 4)) aj) λlZ=>
 (sv 6 nd (aM rfl (az (ae 4)) aj) λoT=>
 (sv 7 nd (Iv XQ (aM rfl (az (ae 1)) (ae 5)) (aM rfl (az (ae 2)) (ae 6))) λxy=>
 (sv 8 nd (v5 (gH rfl (ae 7) (λ_=>rfl)) (aX (n:=1) (av 5 af) rfl) (eC gX hr (ai (aM rfl (az (ae 0)) (ae 5)) af))) λbelow_4=>
 (sv 9 nd (d6 rfl rfl q.tuple (mI (fY rfl oS (bg rfl (bB (ae 8))) (λ_ _ _ _ _=>(cX 0 oS.nd)) (λ_ _ _ _ _ p9=>(K3 (bq hr) (ae 2) (aX (n:=2) (av 0 (ai (qW (ae 1) aj) af)) rfl) (λ_ _=>rfl))) rfl))) λLK=>
 (sv 10 nd (d6 rfl rfl q.tuple (mI (xl rfl oQ (VO (ae 3)) (λ_ _ _ _ _=>(cX 0 oQ.nd)) (λ_ _ _ _ _ Ą=>(M4.t (xV (cW (gW rfl (bq hr)) (aM rfl (az (ae 0)) aj) (ae 2)) (rY (cW (RG rfl (bq hr)) (aM rfl (az (ae 0)) aj) (ae 1)))))) (λ_ _ _ _ _ Ą=>(K3 (bq hr) (ae 3) (ae 0) (λ_ _=>rfl))) rfl))) λxP=>
 (SF.dJ (aX (n:=4) (ai (eC qx hr (av 0 (av 5 af))) (av 6 (av 9 (av 10 af)))) rfl) λ_=>rfl)))))))
abbrev zN:DF:=dv 42 5 2 lU
def VH(D:DI v zN)(q:NB v)(jQ:mf.C v)(vV:iP.C v)(Kw:nH.C v)(Oj:qB.C v):D.O:=
 sG D λhr nd bW dF=>
 (sv 2 nd (eC jQ hr (av 0 af)) λfR=>
 (sl 3 nd (kl rfl (bN (aU (n:=1) (ai aj af) rfl)) (bN (Vx rfl rfl q.sorted (bN (lC vV hr (av 2 (av 1 af))))))) λve=>
 SF.cn 3 rfl (sl 4 nd (lC Kw hr (av 0 (av 1 (av 3 af)))) λyB=>
 SF.cn 4 rfl (sv 5 nd (aeY (WA rfl rfl (bq hr) rfl q.dict (bN (Ro rfl nv (jP rfl rfl q.enumerate (bB (ae 4))) (λ_ _ _ _ _=>(Pc rfl (fj rfl (aW (cX 0 nv.nd) (aW (cX 1 nv.nd) dm))))) (λ_ _ _ _ _ ĸ=>(aX (n:=2) (av 1 (av 0 af)) rfl)) (Z3 rfl rfl ⋯) ⋯)))) λtT=>
 (SF.dJ (d6 rfl rfl q.tuple (mI (fY rfl uq (bg rfl (bB (ae 4))) (λ_ _ _ _ _=>(cX 0 uq.nd)) (λ_ _ _ _ _ Ĝ=>(eC Oj hr (av 3 (av 2 (av 1 (av 4 (av 0 af))))))) rfl))) λ_=>rfl)))))
abbrev nN:DF:=dL 44 1 [.v] 1 gq
def Kh(D:DI v nN)(q:NB v):D.O:=
 Je D λhr nd fy=>
 (sv 1 nd (bX rfl (cS rfl rfl q.len (ae 0)) aj) λJz=>
 (SF.mE (hd:=(λ(s5:PV)=>([am (.val fy),am (.val s5),ce]:aR))) (s0:=Jz) Ax rfl (bg rfl (ko (Z4 rfl (fW (ae 0)) iD (jE aj)))) (.refl _) (cX 2 nd) (λs5 S4=>
 (sv 1 nd (Yg (bX rfl (bX rfl (SD (ae 1) aj) (Yg (ae 2) (Sz aj aj))) aj) aj) λQb=>
 (SF.c7 rfl (.m 4)))) λs5=>
 (SF.kS (aU (n:=3) (ai (aeX (xl rfl mS (bg rfl (ko (Z4 rfl (fW (ae 0)) iD (jE aj)))) (λ_ _ _ _ _=>(cX 0 mS.nd)) (λ_ _ _ _ _ î=>(cW ad2 (ae 0) (Sz aj aj))) (λ_ _ _ _ _ î=>(ae 0)) rfl)) (av 1 (ai aj af))) rfl) λ_=>rfl)))
abbrev dh:DF:=dV 45 1 [.p iB 1,.v] 1 cI
abbrev jw:DF:=dV 46 2 [.p iB 1,.v] 1 gE
def N2(D:DI v jw)(q:NB v)(ba:dh.C v):D.O:=
 Vo D λj hr nd qI=>
 (SF.dJ (aM rfl (az (ae 1)) (eP 0 ba hr (ai (cS rfl rfl q.len (ae 1)) af))) λ_=>rfl)
abbrev iR:DF:=dV 47 2 [.p iB 300,.v] 1 cj
theorem vQ(D:DI v iR)(q:NB v)(ba:dh.C v):D.O:=
 Vo D λj hr nd qI=>
 (sl 2 nd (J5 rfl rfl q.list (az (ae 1))) λJ2=>
 (SF.kJ (hd:=(λ(j3:Nat) (s2:O PV)=>([am (.dB iB (j+0+3*j3+0) (j+300)),am (.val qI),am (.ol ce s2),ce,ce]:aR))) (hE:=(λ(s2:O PV)=>([am (.dB iB (j+300) (j+300)),am (.val qI),am (.ol ce s2),ce,ce]:aR))) (s0:=J2) Ax (.bump (.refl _) ⟨by omega,by omega⟩) (λj3 s2=>(cW Mu (nF rfl rfl q.len (dA 2)) aj)) (λj3 s2 _=>
 (SF.Zx 2 3 rfl ⋯ rfl rfl (.inl rfl) nd rfl (Cg rfl) (eP 0 ba hr (ai (nF rfl rfl q.len (dA 2)) af)) λt7=>
 (SF.Zx 2 4 rfl ⋯ rfl rfl (.inl rfl) nd rfl (Cg rfl) (eP 0 ba hr (ai (nF rfl rfl q.len (dA 2)) af)) λGv=>
 (SF.insert 2 rfl rfl rfl (.inl rfl) (eP 0 ba hr (ai (bX rfl (nF rfl rfl q.len (dA 2)) aj) af)) (aX (n:=2) (av 3 (av 4 af)) rfl) λMq=>
 (SF.c7 rfl (.bump (.m 12) ⟨by omega,by omega⟩)))))) (λj3 _ _=>(.bump (.refl _) ⟨by omega,by omega⟩)) λs2=>
 (SF.dJ (aM rfl (dA 2) aj) λ_=>rfl)))
abbrev gC:DF:=dL 48 12 [.v] 1 (a9 12)
theorem oU(D:DI v gC)(q:NB v):∀n,lL v.P v.w v.K v.mg v.base GB (n+0) D.f D.fd (JB (top 48)) (yf v.K [.v] (wJ 1 (a9 n)))
 |0=>X7 (L4 λl Q hl=>match l,hl with|[c8],_=>λh=>h.elim)
 |n+1=>have dw:=D.cN (oU D q n)
  fnL (k:=n+0) (n:=1) (m:=a9 (n+1)) D.fn dI rfl (tQ yF) λ_ l hl=>match l,hl with|[c8],_=>λ_ _ _ _ _ _ hr=>show SF _ _ _ [am (.val c8),ce,ce,ce,ce] _ (a9 (n+1) c8) _ from
 (SF.ifR (gH rfl (kr rfl .str rfl q.isinstance (ae 0) rfl q.str Ch) (λ_=>rfl))
 (SF.kS (aU (n:=1) (av 0 af) rfl) λ_=>rfl)
 (sl 1 dI.nd (lC dw hr (ai (aM rfl (az (ae 0)) aj) af)) λtR=>
 SF.cn 1 rfl (sl 2 dI.nd (lC dw hr (ai (aM rfl (az (ae 0)) aj) af)) λsD=>
 SF.cn 2 rfl (sl 3 dI.nd (aU (n:=0) af rfl) λSf=>
 (SF.mE (hd:=(λ(s7:O PV)=>([am (.val c8),am (.val (.cl tR)),am (.val (.cl sD)),am (.ol ce s7),ce]:aR))) (s0:=Sf) Ax rfl (bg rfl (bB (ae 2))) (.refl _) (cX 4 dI.nd) (λs7 tW=>
 (SF.append 3 rfl rfl rfl (.inl rfl) (v5 (gH rfl (kr rfl .str rfl q.isinstance (ae 4) rfl q.str Ch) (λ_=>rfl)) (ae 4) (aX (n:=2) (ai (bX rfl (aM rfl (az (ae 4)) aj) (cS rfl rfl q.len (ae 1))) (ai (bX rfl (aM rfl (az (ae 4)) aj) (cS rfl rfl q.len (ae 1))) af)) rfl)) λYb=>
 (SF.c7 rfl (.m 16)))) λs7=>
 (SF.cn 3 rfl (SF.kS (kl rfl (bN (kl rfl (fW (ae 1)) (fW (ae 3)))) (bN (aU (n:=1) (ai (aX (n:=2) (ai (qW (cS rfl rfl q.len (ae 1)) aj) (ai (qW (bX rfl (cS rfl rfl q.len (ae 1)) (cS rfl rfl q.len (ae 2))) aj) af)) rfl) af) rfl))) λ_=>rfl)))))))
abbrev jY:DF:=dV 49 13 [.p iB 16777316,.v] 1 de
theorem y6(D:DI v jY)(q:NB v)(dw:gC.C v)(ba:dh.C v)(jq:jw.C v):D.O:=
 Vo D λj hr nd bW=>
 (sl 2 nd (lC dw hr (av 1 af)) λda=>
 SF.cn 2 rfl (SF.adu (i:=3) (j:=4) rfl nd rfl rfl ⋯ rfl rfl (aU (n:=1) (ai (qW (cS rfl rfl q.len (ae 2)) aj) af) rfl) (aU (n:=0) af rfl) λKH yD=>
 (SF.kJ (hd:=(λ(j7:Nat) (s6:O PV×O PV)=>([am (.dB iB (j+0+1*j7+0) (j+16777316)),am (.val bW),am (.val (.cl da)),am (.ol ce s6.1),am (.ol ce s6.2),ce,ce,ce]:aR))) (hE:=(λ(s6:O PV×O PV)=>([am (.dB iB (j+100) (j+16777316)),am (.val bW),am (.val (.cl da)),am (.ol ce s6.1),am (.ol ce s6.2),ce,ce,ce]:aR))) (s0:=(KH,yD)) Ax (.bump (.refl _) ⟨by omega,by omega⟩) (λj7 s6=>(Xb rfl (bq hr) (tG 3))) (λj7 s6 _=>
 (SF.Zx 3 5 rfl ⋯ rfl rfl (.inl rfl) nd rfl (Cg rfl) (eP 0 ba hr (ai (nF rfl rfl q.len (dA 3)) af)) λt12=>
 (SF.ifT (LR (gH rfl (kr rfl .str rfl q.isinstance (aM rfl (az (ae 2)) (ae 5)) rfl q.str Ch) (λ_=>rfl)))
 (SF.append 4 rfl rfl rfl (.inl rfl) (ae 5) λHm=>
 (sl 3 nd (kl rfl (tG 3) (bN (J5 rfl rfl q.list (az (aM rfl (az (ae 2)) (ae 5)))))) λMD=>
 (SF.c7 rfl (.bump (.m 16) ⟨by omega,by omega⟩))))
 (SF.c7 rfl (.bump (.m 16) ⟨by omega,by omega⟩))))) (λj7 _ _=>(.bump (.refl _) ⟨by omega,by omega⟩)) λs6=>
 (sl 6 nd (XD (aU (n:=1) (ai aj af) rfl) (cS rfl rfl q.len (ae 2))) λiO=>
 (sv 7 nd aj λzL=>
 (SF.X6 (hd:=(λ(Ċ:Nat) (O6:O PV×PV)=>([am (.dB iB (j+100+1*Ċ+0) (j+16777316)),am (.val bW),am (.val (.cl da)),am (.ol ce s6.1),am (.ol ce s6.2),ce,am (.ol ce O6.1),am (.val O6.2)]:aR))) (hE:=(λ(O6:O PV×PV)=>([am (.dB iB (j+16777316) (j+16777316)),am (.val bW),am (.val (.cl da)),am (.ol ce s6.1),am (.ol ce s6.2),ce,am (.ol ce O6.1),am (.val O6.2)]:aR))) (s0:=(iO,zL)) Ax rfl (bg rfl (ko (adQ rfl (tG 4) iD iD (jE (uU aj))))) (.bump (.refl _) ⟨by omega,by omega⟩) (cX 5 nd) (λĊ O6 HP _=>
 (sv 7 nd (bX rfl (bX rfl (ae 7) aj) (eP 0 jq hr (ai (gZ (aU (n:=4) (ai aj (ai aj (ai aj (ai aj af)))) rfl)) af))) λzK=>
 (SF.Np 6 rfl rfl (.inl rfl) (ae 7) (ae 5) λmW=>
 (SF.c7 rfl (.bump (.m 16) ⟨by omega,by omega⟩))))) (λĊ _ _=>(.bump (.refl _) ⟨by omega,by omega⟩)) λO6=>
 (SF.dJ (d6 rfl rfl q.tuple (dA 6)) λ_=>rfl)))))))
abbrev iQ:DF:=dV 50 3 [.p iB 67108864] 0 dY
theorem vP(D:DI v iQ)(q:NB v)(ba:dh.C v)(jq:jw.C v):D.O:=
 Vo D λj hr nd=>
 (sl 1 nd (aU (n:=0) af rfl) λbu=>
 (SF.X6 (hd:=(λ(j4:Nat) (s3:O PV)=>([am (.dB iB (j+0+4*j4+0) (j+67108864)),am (.ol ce s3),ce,ce]:aR))) (hE:=(λ(s3:O PV)=>([am (.dB iB (j+67108864) (j+67108864)),am (.ol ce s3),ce,ce]:aR))) (s0:=bu) Ax rfl (eX rfl q.range aj) (.bump (.refl _) ⟨by omega,by omega⟩) (cX 2 nd) (λj4 s3 k_5 _=>
 (sv 3 nd (bX rfl (Sz aj aj) (eP 0 ba hr (ai aj af))) λMz=>
 (SF.append 1 rfl rfl rfl (.inl rfl) (eP 0 jq hr (ai (gZ (aU (n:=9) (ai aj (ai aj (ai aj (ai aj (ai (eP 0 ba hr (ai aj af)) (ai (eP 0 ba hr (ai aj af)) (ai aj (ai aj (av 3 af))))))))) rfl)) af)) λoZ=>
 (SF.c7 rfl (.bump (.m 6) ⟨by omega,by omega⟩))))) (λj4 _ _=>(.bump (.refl _) ⟨by omega,by omega⟩)) λs3=>
 (SF.dJ (d6 rfl rfl q.tuple (dA 1)) λ_=>rfl)))
abbrev fJ:DF:=dv 51 1 4 bR
def vO(D:DI v fJ)(q:NB v):D.O:=
 sG D λhr nd aE aG a8 aV=>
 (SF.acV (aM rfl (az (ae 0)) (ae 3)) (g_4 rfl (fj rfl (aW (cX 4 nd) (aW (cX 5 nd) (aW (cX 6 nd) (aW (cX 7 nd) dm)))))) λt3=>
 (SF.ifR (gH rfl (kr rfl .str rfl q.isinstance (aM rfl (az (ae 1)) (ae 2)) rfl q.str Ch) (λ_=>rfl))
 (SF.dJ (gZ (XD (aU (n:=1) (ai (aX (n:=0) af rfl) af) rfl) (Wh rfl q.int (Yh (Iv (gW rfl (bq hr)) (ae 6) (aX (n:=0) af rfl)) (Yf (Iv (gW rfl (bq hr)) (ae 4) (aM rfl (az (ae 1)) (ae 2)))))))) λ_=>rfl)
 (sl 8 nd (aU (n:=1) (ai (aX (n:=3) (ai jt (av 3 (av 3 af))) rfl) af) rfl) λzp=>
 SF.cn 8 rfl (SF.mE (hd:=(λ(Xl:PV)=>([am (.val aE),am (.val aG),am (.val a8),am (.val aV),am (.val t3.1),am (.val t3.2.1),am (.val t3.2.2.1),am (.val t3.2.2.2),am (.val Xl),ce]:aR))) (s0:=(.cl zp)) Ax rfl (bg rfl (bB (ae 7))) (.refl _) (cX 9 nd) (λXl tu=>
 (sl 8 nd (kl rfl (fW (ae 8)) (bN (aU (n:=2) (ai (aX (n:=3) (ai jt (av 3 (av 9 af))) rfl) (ai (aX (n:=3) (ai jt (av 9 (av 3 af))) rfl) af)) rfl))) λIe=>
 SF.cn 8 rfl (SF.c7 rfl (.m 512)))) λXl=>
 (SF.ifS (out1:=λ(Ę:PV)=>.nx ([am (.val aE),am (.val aG),am (.val a8),am (.val aV),am (.val t3.1),am (.val t3.2.1),am (.val t3.2.2.1),am (.val t3.2.2.2),am (.val Ę),ce]:aR)) (cW (gW rfl (bq hr)) (cS rfl rfl q.len (ae 6)) aj)
 (sl 8 nd (kl rfl (fW (ae 8)) (bN (aU (n:=2) (ai (aX (n:=3) (ai jt (ai (aM rfl (az (ae 6)) aj) (ai (aM rfl (az (ae 6)) aj) af))) rfl) (ai (aX (n:=3) (ai jt (ai (aM rfl (az (ae 6)) aj) (ai (aM rfl (az (ae 6)) aj) af))) rfl) af)) rfl))) λHZ=>
 SF.cn 8 rfl (SF.nil rfl (.refl _)))
 (SF.nil rfl (.refl _))
 λĘ=>(SF.dJ (ae 8) λ_=>rfl))))))
abbrev iU:DF:=dv 52 1 3 bH
def vS(D:DI v iU):D.O:=
 sG D λhr nd bA Pt yc=>
 (SF.ifR (cW (gW rfl (bq hr)) (ae 2) (aX (n:=0) af rfl))
 (SF.dJ aj λ_=>rfl)
 (SF.acV (ae 1) (Pc rfl (fj rfl (aW (cX 3 nd) (aW (cX 4 nd) dm)))) λt3=>
 (SF.dJ (SD (aM rfl (az (aM rfl (az (ae 0)) (ae 3))) (aM rfl (az (ae 2)) aj)) (aM rfl (az (aM rfl (az (ae 0)) (ae 4))) (aM rfl (az (ae 2)) aj))) λ_=>rfl)))
abbrev iT:DF:=dL 53 2 [.v,.v] 2 dZ
def vR(D:DI v iT)(q:NB v)(iI:fJ.C v)(vY:iU.C v):D.O:=
 Je D λhr nd aE aG=>
 (sl 2 nd (aU (n:=0) af rfl) λda=>
 (SF.KI (hd:=(λ(s3:O PV)=>([am (.val aE),am (.val aG),am (.ol ce s3),ce,ce,ce,ce,ce,ce]:aR))) (s0:=da) Ax rfl (jP rfl rfl q.enumerate (bB (ae 1))) (.refl _) (λ_=>(Pc rfl (fj rfl (aW (cX 3 nd) (aW (cX 4 nd) dm))))) (λs3 t5=>
 (sl 5 nd (aU (n:=0) af rfl) λQf=>
 (SF.mE (hd:=(λ(s8:O PV)=>([am (.val aE),am (.val aG),am (.ol ce s3),am (.val t5.1),am (.val t5.2),am (.ol ce s8),ce,ce,ce]:aR))) (s0:=Qf) Ax rfl (eX rfl q.range (cS rfl rfl q.len (ae 0))) (.refl _) (cX 6 nd) (λs8 Jx=>
 (sv 7 nd (eC iI hr (av 0 (av 1 (av 3 (av 6 af))))) λkQ=>
 (sv 8 nd (uT rfl rfl rfl q.sum (bN (fY rfl jk (bg rfl (bB (aM rfl (az (aM rfl (az (ae 0)) (ae 6))) aj))) (λ_ _ _ _ _=>(cX 0 jk.nd)) (λ_ _ _ _ _ U4=>(aM rfl (dA 1) (ae 0))) rfl))) λMp=>
 (SF.append 5 rfl rfl rfl (.inr (.inl rfl)) (ae0 2 rfl (bX rfl (ae 8) (uT rfl rfl rfl q.sum (bN (fY rfl jh (bg rfl (bB (ae 7))) (λ_ _ _ _ _=>(cX 0 jh.nd)) (λ_ _ _ _ _ í=>(eC vY hr (av 1 (av 2 (av 0 af))))) rfl))))) λQg=>
 (SF.c7 rfl (.m 448)))))) λs8=>
 (SF.cn 5 rfl (SF.append 2 rfl rfl rfl (.inr (.inl rfl)) (ae 5) λL7=>
 (SF.c7 rfl (.m 56))))))) λs3=>
 (SF.ym 2 rfl rfl)))
abbrev cM:DF:=dL 54 2 [.v,.v,.v,.v,.v] 5 bD
def ny(D:DI v cM)(iI:fJ.C v):D.O:=
 Je D λhr nd aE aG bA a8 aV=>
 (sl 5 nd (aU (n:=0) af rfl) λbu=>
 (SF.mE (hd:=(λ(s6:O PV)=>([am (.val aE),am (.val aG),am (.val bA),am (.val a8),am (.val aV),am (.ol ce s6),ce]:aR))) (s0:=bu) Ax rfl (bg rfl (bB (eC iI hr (av 0 (av 1 (av 3 (av 4 af))))))) (.refl _) (cX 6 nd) (λs6 oe=>
 (SF.ifT (M4.t (W9 (cW (gW rfl (bq hr)) (ae 6) (aX (n:=0) af rfl)) (Pq (M4.t (xV (cW Mu (aM rfl (az (aM rfl (az (ae 2)) (aM rfl (az (aM rfl (az (ae 1)) (ae 3))) aj))) (aM rfl (az (ae 6)) aj)) aj) (rY (cW Mu (aM rfl (az (aM rfl (az (ae 2)) (aM rfl (az (aM rfl (az (ae 1)) (ae 3))) aj))) (aM rfl (az (ae 6)) aj)) aj)))))))
 (SF.append 5 rfl rfl rfl (.inl rfl) (ae 6) λoZ=>
 (SF.c7 rfl (.m 64)))
 (SF.c7 rfl (.m 64)))) λs6=>
 (SF.ym 5 rfl rfl)))
def Y9:Nat->Nat
 |0=>3
 |n+1=>Y9 n+2
theorem Qi:∀n,3<=Y9 n
 |0=>Al _
 |n+1=>AD (Qi n) (Bk _ _)
abbrev lH(r:Nat)(mB:PV->PV->PV->PV->PV->W (O PV)):DF:=dL 56 r [.v,.v,.v,.v,.v] 5 mB
abbrev cT(r:Nat)(mB:PV->PV->PV->PV->PV->W (O PV)):DF:=dL 55 (r+1) [.v,.v,.v,.v,.v] 5 (eU mB)
abbrev pA:DF:=cT 129 (aZ 63)
def oV{r:Nat}(h3:3<=r)(D:DI v (cT r mB))(cK:cM.C v)(dQ:(lH r mB).C v):D.O:=
 Je D λhr nd aE aG bA a8 aV=>
 (sl 5 nd (aU (n:=0) af rfl) λbu=>
 (SF.mE (hd:=(λ(s7:O PV)=>([am (.val aE),am (.val aG),am (.val bA),am (.val a8),am (.val aV),am (.ol ce s7),ce,ce,ce]:aR))) (s0:=bu) Ax rfl (bg rfl (ko (lC cK hr (av 0 (av 1 (av 2 (av 3 (av 4 af))))) (hk:=AD (Ct rfl) h3)))) (.refl _) (cX 6 nd) (λs7 lN=>
 (SF.ifT (cW (gW rfl (bq hr)) (ae 6) (aX (n:=0) af rfl))
 (SF.append 5 rfl rfl rfl (.inl rfl) (aX (n:=2) (ai (aX (n:=1) (av 4 af) rfl) (ai jt af)) rfl) λMF=>
 (SF.c7 rfl (.m 64)))
 (sl 7 nd (lC dQ hr (av 0 (av 1 (av 2 (ai (aM rfl (az (aM rfl (az (ae 1)) (ae 3))) aj) (ai (aM rfl (az (ae 6)) aj) af)))))) λqd=>
 SF.cn 7 rfl (SF.mE (hd:=(λ(Y4:O PV)=>([am (.val aE),am (.val aG),am (.val bA),am (.val a8),am (.val aV),am (.ol ce Y4),am (.val lN),am (.val (.cl qd)),ce]:aR))) (s0:=s7) Ax rfl (bg rfl (ko (lC dQ hr (av 0 (av 1 (av 2 (ai (aM rfl (az (aM rfl (az (ae 1)) (ae 3))) aj) (ai (aM rfl (az (ae 6)) aj) af)))))))) (.refl _) (cX 8 nd) (λY4 QZ=>
 (SF.extend 5 rfl rfl rfl (.inl rfl) (mI (fY rfl ki (bg rfl (bB (ae 7))) (λ_ _ _ _ _=>(cX 0 ki.nd)) (λ_ _ _ _ _ Ě=>(aX (n:=4) (ai (aX (n:=1) (av 3 af) rfl) (ai (aM rfl (az (ae 2)) aj) (av 1 (av 0 af)))) rfl)) rfl)) λH9=>
 (SF.c7 rfl (.m 256)))) λY4=>
 (SF.c7 rfl (.m 192)))))) λs7=>
 (SF.ym 5 rfl rfl)))
abbrev mX:DF:=dL 56 129 [.v,.v,.v,.v,.v] 5 (aZ 63)
theorem mT(D:DI v mX)(DA:DI v (cT 0 λ_ _ _ _ _=>.fail))(cK:cM.C v):∀n,lL v.P v.w v.K v.mg v.base GB (Y9 n) D.f D.fd (JB (top 56)) (yf v.K [.v,.v,.v,.v,.v] (wJ 5 (aZ n)))
 |0=>X7 (L4 λl Q hl=>match l,hl with|[aE,aG,bA,a8,aV],_=>λh=>h.elim)
 |n+1=>have dQ:(lH (Y9 n) (aZ n)).C v:=D.cN (mT D DA cK n)
  have jR:(cT (Y9 n) (aZ n)).C v:=DI.c (d:=cT (Y9 n) (aZ n)) ⟨DA.f,DA.fd,DA.fn,DA.bi,DA.at'⟩ (oV (Qi n) _ cK dQ)
  fnL (k:=Y9 n+1) (n:=5) (m:=aZ (n+1)) D.fn eM rfl (tQ (tQ (tQ (tQ (tQ yF))))) λ_ l hl=>match l,hl with|[aE,aG,bA,a8,aV],_=>λ_ _ _ _ _ _ hr=>show SF _ _ _ [am (.val aE),am (.val aG),am (.val bA),am (.val a8),am (.val aV),ce,ce,ce] _ (aZ (n+1) aE aG bA a8 aV) _ from
 (sl 5 eM.nd (lC jR hr (av 0 (av 1 (av 2 (av 3 (av 4 af)))))) λbu=>
 (SF.mE (hd:=(λ(s7:O PV)=>([am (.val aE),am (.val aG),am (.val bA),am (.val a8),am (.val aV),am (.ol ce s7),ce,ce]:aR))) (s0:=bu) Ax rfl (bg rfl (bB (aM rfl (az (aM rfl (az (ae 0)) (ae 4))) aj))) (.refl _) (cX 6 eM.nd) (λs7 xX=>
 (SF.mE (hd:=(λ(Y6:O PV)=>([am (.val aE),am (.val aG),am (.val bA),am (.val a8),am (.val aV),am (.ol ce Y6),am (.val xX),ce]:aR))) (s0:=s7) Ax rfl (bg rfl (ko (lC dQ hr (av 0 (av 1 (av 2 (av 3 (av 6 af))))) (hk:=Dz _)))) (.refl _) (cX 7 eM.nd) (λY6 Jn=>
 (SF.append 5 rfl rfl rfl (.inl rfl) (bX rfl (aX (n:=1) (ai (bX rfl (aX (n:=1) (av 4 af) rfl) (aM rfl (az (ae 7)) aj)) af) rfl) (Iu rfl (ae 7) (jE aj) iD)) λIc=>
 (SF.c7 rfl (.m 128)))) λY6=>
 (SF.c7 rfl (.m 64)))) λs7=>
 (SF.ym 5 rfl rfl)))
abbrev nP:DF:=dL 57 131 [.v,.v,.v] 3 gs
def Ki(D:DI v nP)(q:NB v)(jR:pA.C v):D.O:=
 Je D λhr nd aE aG bA=>
 (sl 3 nd (aU (n:=0) af rfl) λbu=>
 (SF.mE (hd:=(λ(s3:O PV)=>([am (.val aE),am (.val aG),am (.val bA),am (.ol ce s3),ce]:aR))) (s0:=bu) Ax rfl (eX rfl q.range (cS rfl rfl q.len (ae 0))) (.refl _) (cX 4 nd) (λs3 PQ=>
 (SF.extend 3 rfl rfl rfl (.inl rfl) (mI (lC jR hr (av 0 (av 1 (av 2 (ai (qW (cS rfl rfl q.len (ae 1)) aj) (av 4 af))))))) λMH=>
 (SF.c7 rfl (.m 16)))) λs3=>
 (SF.ym 3 rfl rfl)))
abbrev jZ:DF:=dv 58 1 2 gr
def y7(D:DI v jZ)(q:NB v):D.O:=
 sG D λhr nd aE TZ=>
 (sl 2 nd (aU (n:=4) (ai aj (ai aj (ai aj (ai aj af)))) rfl) λbu=>
 (sl 3 nd (aU (n:=1) (av 1 af) rfl) λJE=>
 (SF.W8 (hd:=(λ(s8:O PV×O PV)=>([am (.val aE),am (.val TZ),am (.ol ce s8.1),am (.ol ce s8.2),ce,ce]:aR))) (s0:=(bu,JE)) Ax (.refl _) (λs8=>(Xb rfl (bq hr) (tG 3))) (λs8=>
 (SF.yu 3 4 rfl ⋯ rfl rfl (.inl rfl) nd rfl (Cg rfl) λGv=>
 (SF.extend 3 rfl rfl rfl (.inl rfl) (mI (J5 rfl rfl q.list (az (Iu rfl (ae 4) (jE aj) iD)))) λyw=>
 (SF.ifS (out1:=λ(ÿ:O PV)=>.nx ([am (.val aE),am (.val TZ),am (.ol ce ÿ),am (.ol ce yw),am (.val Gv.2),ce]:aR)) (cW (RG rfl (bq hr)) (aM rfl (az (ae 4)) aj) jt)
 (sv 5 nd (K3 (bq hr) (aeY (abi [("split",0),("doubled",1),("over",2)] (tJ yx bf (tJ yx bf (tJ yx bf UO))))) (aM rfl (az (ae 4)) aj) (λ_ _=>rfl)) λTc=>
 (SF.Np 2 rfl rfl (.inl rfl) (bX rfl (aM rfl (dA 2) (ae 5)) aj) (ae 5) λIb=>
 (SF.nil rfl (.m 32))))
 (SF.nil rfl (.refl _))
 λÿ=>(SF.Np 2 rfl rfl (.inl rfl) (bX rfl (aM rfl (dA 2) aj) (nF rfl rfl q.len (mI (xl rfl kj (bg rfl (bB (Iu rfl (aM rfl (az (ae 4)) aj) iD (jE (uU aj))))) (λ_ _ _ _ _=>(cX 0 kj.nd)) (λ_ _ _ _ _ ZC=>(cW (gW rfl (bq hr)) (cS rfl rfl q.len (aM rfl (az (aM rfl (az (ae 1)) (ae 0))) aj)) aj)) (λ_ _ _ _ _ ZC=>(ae 0)) rfl)))) aj λIa=>
 (SF.c7 rfl (.m 16))))))) λs8=>
 (SF.dJ (d6 rfl rfl q.tuple (dA 2)) λ_=>rfl))))
abbrev lG:DF:=dv 59 1 2 cu
def HK(D:DI v lG)(q:NB v):D.O:=
 sG D λhr nd bO qZ=>
 (SF.dJ (uT rfl rfl rfl q.sum (bN (Ro rfl gV (Kj rfl rfl q.zip (bB (ae 0)) (bB (ae 1))) (λ_ _ _ _ _=>(Pc rfl (fj rfl (aW (cX 0 gV.nd) (aW (cX 1 gV.nd) dm))))) (λ_ _ _ _ _ t5=>(SD (ae 0) (ae 1))) (Z3 rfl rfl ⋯) ⋯))) λ_=>rfl)
abbrev jX:DF:=dv 60 132 3 eT
def yZ(D:DI v jX)(q:NB v)(dw:gC.C v)(vX:iT.C v)(KG:nP.C v)(zl:jZ.C v)(HX:lG.C v)(V4:zM.C v):D.O:=
 sG D λhr nd aE jB bO=>
 (sl 3 nd (lC dw hr (av 1 af)) λi5=>
 SF.cn 3 rfl (sl 4 nd (lC vX hr (av 0 (av 3 af))) λtE=>
 SF.cn 4 rfl (SF.ifR (cW Mu (aa5 rfl rfl rfl q.sum (bB (aM rfl (az (ae 4)) (uU aj)))) aj)
 (SF.dJ SN λ_=>rfl)
 (SF.hZ (i:=5) rfl nd rfl rfl kh (bg rfl (ko (lC KG hr (av 0 (av 3 (av 4 af)))))) (λ_ _ _ _ _=>(cX 0 kh.nd)) (λ_ _ _ _ _ ą=>(eC zl hr (av 1 (av 0 af)))) rfl λfK=>
 SF.cn 5 rfl (SF.aeE (hd:=(λ(ę:Unit)=>([am (.val aE),am (.val jB),am (.val bO),am (.val (.cl i5)),am (.val (.cl tE)),am (.val (.cl fK)),ce,ce,ce,ce,ce]:aR))) (s0:=()) (inj:=id) Ax rfl (jP rfl rfl q.enumerate (ko (aU (n:=3) (ai jt (ai jt (ai jt af))) rfl))) (.refl _) (λ_=>(Pc rfl (fj rfl (aW (cX 6 nd) (aW (cX 7 nd) dm))))) (λ_=>trivial) (λę PJ=>
 (sv 8 nd (bX rfl (bX rfl (Iu rfl (ae 2) iD (jE (ae 6))) (aX (n:=1) (ai aj af) rfl)) (Iu rfl (ae 2) (jE (bX rfl (ae 6) aj)) iD)) λyn=>
 (sl 9 nd (aU (n:=0) af rfl) λK9=>
 (SF.mE (hd:=(λ(Y3:O PV)=>([am (.val aE),am (.val jB),am (.val bO),am (.val (.cl i5)),am (.val (.cl tE)),am (.val (.cl fK)),am (.val PJ.1),am (.val PJ.2),am (.val yn),am (.ol ce Y3),ce]:aR))) (s0:=K9) Ax rfl (eX rfl q.range (aeZ (bX rfl (cS rfl rfl q.len (ae 3)) aj) aj)) (.refl _) (cX 10 nd) (λY3 adN=>
 (SF.append 9 rfl rfl rfl (.inl rfl) (SE rfl rfl rfl q.min (bN (xl rfl kg (bg rfl (bB (ae 5))) (λ_ _ _ _ _=>(cX 0 kg.nd)) (λ_ _ _ _ _ NG=>(cW (gW rfl (bq hr)) (aM rfl (az (ae 0)) (ae 1)) (ae 2))) (λ_ _ _ _ _ NG=>(eC HX hr (av 3 (av 0 af)))) rfl))) λSQ=>
 (SF.c7 rfl (.m 1024)))) λY3=>
 (SF.ifT (cW (RG rfl (bq hr)) (Sw rfl hr rfl q.repr (eC V4 hr (av 0 (av 1 (av 2 (av 7 af)))))) (Sw rfl hr rfl q.repr (d6 rfl rfl q.tuple (dA 9))))
 (SF.ret (k:=λx43=>(Lp.out x43)) SN λ_=>rfl)
 (SF.c7 rfl (.m 960))))))) λę=>
 (SF.dJ SN λ_=>rfl))))))
abbrev Yj:DF:=dv 61 133 1 ub
set_option maxHeartbeats 20000000 in
theorem ad0(D:DI v Yj)(q:NB v)(KD:nN.C v)(ba:dh.C v)(mV:iR.C v)(jq:jw.C v)(R4:uW.C v)(V5:zN.C v)(zk:jY.C v)(zj:jX.C v)(vW:iQ.C v):D.O:=
 sG D λhr nd fy=>
 (sl 1 nd (lC KD hr (av 0 af)) λtK=>SF.iB 1 1688861654646784 rfl
 (SF.aaT (hd:=(λ(j5:Nat) (s4:Unit)=>([am (.val fy),am (.dB iB (0+0+100663999*j5+0) 1688861654646784),ce,ce,ce,ce,ce]:aR))) (hE:=(λ(s4:Unit)=>([am (.val fy),am (.dB iB (0+1688861654646784) 1688861654646784),ce,ce,ce,ce,ce]:aR))) (s0:=()) (inj:=id) Ax rfl (eX rfl q.range aj) (.keep (.bump (.refl _) ⟨by omega,by omega⟩)) (cX 2 nd) (λ_=>trivial) (λj5 s4 YM _=>
 (sl 3 nd (Z4 rfl (bN (aU (n:=3) (ai jt (ai jt (ai jt af))) rfl)) iD (jE (bX rfl aj (eP 1 ba hr (ai aj af))))) λxT=>
 SF.cn 3 rfl (sv 4 nd (eP 1 mV hr (av 3 af)) λoW=>
 (sv 5 nd (eP 1 mV hr (ai (gZ (Vy (n:=((((0+0+100663999*j5+0)+1)+300)+1)) (m:=1688861654646784) 1 1 1 (0+0+100663999*j5+16777518) rfl HD (eX rfl q.range (bX rfl aj (eP 1 ba hr (ai aj af)))) (λ_ _ _ _ _=>(cX 0 HD.nd)) (λ_ _ _ _ _ j22 Ĝ _=>(eP 1 jq hr (av 2 af))) (λj22 _ _=>(.drop (.bump (.m 0) ⟨by omega,by omega⟩))) ⟨by omega,by omega⟩ rfl)) af)) λG0=>
 (sv 6 nd (v5 (cW (gW rfl (bq hr)) (eP 1 (n:=((0+0+100663999*j5+16777518)+300)) ba hr (ai aj af)) aj) (EF.le (eC R4 hr (av 4 af)) (.keep (.bump (n:=(((0+0+100663999*j5+16777518)+300)+1)) (n':=(0+0+100663999*j5+33555135)) ⟨by omega,by omega⟩ (.refl _)))) (EF.le (eC V5 hr (av 4 (ai (eP 1 (n:=(((0+0+100663999*j5+16777518)+300)+1)) zk hr (av 4 af)) af))) (.keep (.bump (n:=((((0+0+100663999*j5+16777518)+300)+1)+16777316)) (n':=(0+0+100663999*j5+33555135)) ⟨by omega,by omega⟩ (.refl _))))) λGX=>
 (SF.ifT (LR (gH rfl (eC zj hr (av 6 (av 5 (ai (eP 1 vW hr af) af)))) (λ_=>rfl)))
 (SF.ret (k:=λTU=>(Lp.out TU)) SN λ_=>rfl)
 (SF.c7 rfl (.keep (.bump (.m 31) ⟨by omega,by omega⟩))))))))) (λj5 _ _=>(.keep (.bump (.refl _) ⟨by omega,by omega⟩))) λs4=>
 (SF.dJ SN λ_=>rfl)))
section
local macro_rules | `(tactic| one_sign) => `(tactic| ((try dsimp only); first
 |with_reducible refine Zd ?_
 |with_reducible refine Zi ?_
 |with_reducible refine UE ?_
 |((with_reducible refine Za (v:=?rdV) ?rdE ?_);case rdE=>exact rfl)
 |with_reducible refine ahv ?_
 |with_reducible refine ac2 ?_
 |with_reducible refine ajy ?_
 |with_reducible refine ajF ?_
 |((with_reducible refine ahy ?rdC ?_);try (case rdC=>first|lia|exact⟨by omega,by omega⟩|exact Xy ∅ ∅ | exact mul_r ∅ ∅ | exact Vk ⟨by omega,by omega⟩ ⟨by omega,by omega⟩|exact⟨by decide,by decide,by decide⟩))
 |with_reducible refine UI ?_
 |with_reducible refine Ze ?_
 |with_reducible refine UG ?_
 |with_reducible refine Zh ?_
 |with_reducible refine UC ?_
 |with_reducible refine ajz ?_
 |with_reducible refine Zj ?_
 |with_reducible refine ajB ?_
 |with_reducible refine ahr ?_
 |with_reducible refine afJ ?_
 |with_reducible refine ahq ?_
 |with_reducible refine afE ?_
 |with_reducible refine ajD ?_
 |with_reducible refine Zf ?_
 |with_reducible refine UH ?_
 |with_reducible refine ahn ?_
 |with_reducible refine Zg ?_
 |with_reducible refine afH ?_
 |with_reducible refine ajE ?_
 |with_reducible refine ahu ?_
 |with_reducible refine aht ?_
 |with_reducible refine ac6 ?_
 |with_reducible refine ahw ?_
 |with_reducible refine ac5 ?_
 |with_reducible refine Zc ?_
 |with_reducible refine ac4 ?_
 |with_reducible refine UD ?_
 |with_reducible refine ahp ?_
 |with_reducible refine afC ?_
 |with_reducible refine afB ?_
 |with_reducible refine ac3 ?_
 |with_reducible refine afF ?_
 |with_reducible refine afG ?_
 |with_reducible refine ajA ?_
 |with_reducible refine afD ?_
 |with_reducible refine abJ ?_
 |with_reducible refine ac1 ?_
 |with_reducible refine afI ?_
 |with_reducible refine ajC ?_
 |with_reducible refine aho ?_
 |with_reducible refine ahx ?_))
local macro_rules | `(tactic| one_item) => `(tactic| repeat (one_sign))
def Kp(a b:db)(H H':Hp):Prop:=∀c o,c≠a->c≠b->H c=am o->H' c=am o
def Kp.trans(h:Kp a b H H1)(k:Kp a b H1 H2):Kp a b H H2:=λc o n m e=>k c o n m (h c o n m e)
def Kp.same(h:jy H H'):Kp a b H H':=λc o _ _ e=>h c o e
def Kp.xa(h:lK a H H'):Kp a b H H':=λc o n _ e=>h c o n e
def Kp.xb(h:lK b H H'):Kp a b H H':=λc o _ n e=>h c o n e
theorem HJ(D:DI v dh):D.O:=by
 have nd:(JN (top 45)).Nodup:=by decide +kernel
 refine D.fn.ok (N:=JN (top 45)) fsc (λvs H Q E h=>?_) (λfU A outer s H vs Q E hr h=>?_)
 .obtain⟨_,_,l,h,_⟩:=h;rw[h.len];rfl
 obtain⟨tb,j,l,h,q⟩:=h;cases h with
 | @p a _ _ vs ks l pt jm t=>
 cases t with
 | @v u x vs ks l r t=>
 cases t;obtain⟨j',ws,hj,ea,⟨b,sd,c,rfl,c0,c1⟩,hb⟩:=pt;have eb:dW H b:=hb b (by simp);have q:(cI x).run _:=q;obtain⟨m,rfl⟩:∃m,x=.int m:=by
  cases x with
  |int m=>exact⟨m,rfl⟩
  |_=>exact q.elim
 cases r;obtain⟨⟨m0,m1⟩,q⟩:=q;have ab:a≠b:=λy=>by subst y;rw[show H a=_ from eb]at ea;cases ea
 have jm:j+1<=2 ^ 250:=jm;refine⟨_,pO.shown (eO (Ha Ax (PW.pt (Qx (ib (ng v.K rfl hr.Po) (gc (cC v.K rfl) (pv 0) bf (λ_ _=>rfl)) (yz bP) (gJ _)) (L9 (ib adD (gc (cC v.K rfl) (gc (cC v.K rfl) (pv 0) bf (λ_ _=>rfl)) bf (λ_ _=>rfl)) bf (gJ _))))) (su (ou (qc v.K rfl BV DP DN Hs (gc (cC v.K rfl) (pv 0) bf (λ_ _=>rfl)) (a6 bf bP)))))
  (eO (Ma (ib (ng v.K rfl hr.Po) (gc (cC v.K rfl) (pv 0) bf (λ_ _=>rfl)) (yz bP) (gJ _)) (eO (m7 (i:=2) nd rfl (Cg rfl) (dC qe (gc (cC v.K rfl) (gc (cC v.K rfl) (pv 0) bf (λ_ _=>rfl)) bf (λ_ _=>rfl)) (pv 1)))
  (eO (yq (dC sE (gc (cC v.K rfl) (gc (cC v.K rfl) (pv 0) bf (λ_ _=>rfl)) bf (λ_ _=>rfl)) (pv 1)) (JG (gc (cC v.K rfl) (pv 0) bf (λ_ _=>rfl)) bf pX))
  (su (tH (pv 2))))) sA)
  (eO (yq (dC (lQ v.K rfl) (gc (cC v.K rfl) (pv 0) bf (λ_ _=>rfl)) bf) (JG (pv 0) bf pX))
  (eO (m7 (i:=3) nd rfl (Cg rfl) (dC qe (dC lP (dC (lQ v.K rfl) (dC (lQ v.K rfl) (gc (cC v.K rfl) (pv 0) bf (λ_ _=>rfl)) (dC lP (dC lP bf (gc (cC v.K rfl) (pv 0) bf (λ_ _=>rfl))) (gc (cC v.K rfl) (pv 0) bf (λ_ _=>rfl)))) bf) bf) bf))
  (eO (m7 (i:=3) nd rfl (Cg rfl) (dC qe (dC lP (pv 3) (dC (lQ v.K rfl) (dC qe (pv 3) bf) (dC lP bf (gc (cC v.K rfl) (pv 0) bf (λ_ _=>rfl))))) bf))
  (su (tH (dC qe (dC (lQ v.K rfl) (dC sE (pv 3) bf) (dC sE (pv 3) bf)) (pv 1))))))))),?_⟩
 show ∃b,dW H b/\∀ns:O Int,_;refine⟨b,eb,λns=>?_⟩;have fin:∀(d:Int) (H3:Hp) (sd' c':Int) (Tw:O Int),0<=d->d<m->0<=c'->c'<=((j+1:Nat):Int)->Kp a b H H3->H3 a=am (.lst [.ref b,.int sd',.int c'])->H3 b=am (.lst (Tw.map V.int))->(aep b {nx:=λ_ H'=>Q .aO H',rt:=Q}).rt (.int d) H3:=λd H3 sd' c' Tw d0 d1 c2 c3 kp h1 h2=>by
  refine⟨Tw,h2,q _ ⟨d,rfl,d0,d1⟩ _ _ (aiS tb ⟨_,ea⟩ eb (λx o n1 n2 h=>by rw[ak n2];exact kp x o n1 n2 h) (λx hx=>?_) (by rw[ak ab];exact h1) aH ab ⟨c2,c3⟩ λx ψ d ⟨i,p1,_⟩=>?_) (.int d)⟩
  .by_cases xb:x=b
   .subst xb;rw[aH]at hx;cases hx
   .rw[ak xb]at hx;by_cases xa:x=a
    .subst xa;rw[h1]at hx;cases hx
    .cases z:H x with
     |none=>rfl
     |some o=>rw[kp x o xa xb z]at hx;cases hx
  .cases i with
   |zero=>simp at p1
   |succ i=>simp at p1
 have k0:Kp a b H (upd H b (.lst (ns.map V.int))):=λx o nx xb hx=>by rw[ak xb];exact hx
 have a0:upd H b (.lst (ns.map V.int)) a=am (.lst [.ref b,.int sd,.int c]):=by rw[ak ab];exact ea
 have b0:upd H b (.lst (ns.map V.int)) b=am (.lst (ns.map V.int)):=aH;generalize upd H b (.lst (ns.map V.int))=H1 at k0 a0 b0;show _;refine⟨λk σ' H'=>σ'=[am (.ref a),am (.int m),ce,ce]/\Kp a b H H'/\H' a=am (.lst [.ref b,.int sd,.int c])/\∃ns:O Int,H' b=am (.lst (ns.map V.int))/\k=ns.length,⟨_,rfl,k0,a0,ns,b0,rfl⟩,?_⟩;rintro k σ' H2 ⟨rfl,k2,a2,ns2,b2,rfl⟩
 one_item
 refine dE (b9.of a2) rfl ?_
 one_item
 refine⟨A9 _,λp H3 s3 h3 n3=>?_⟩;have a3:=s3 _ _ a2;have b3:=s3 _ _ b2;have k3:=k2.trans (Kp.same s3);refine⟨b,p,ns2.map V.int,rfl,rfl,b9.of b3,b9.of h3,_,rfl,?_⟩;cases ns2 with
 |nil=>
  rw[if_neg ⋯,if_neg ⋯]
  one_item
  refine dE (b9.of a3) rfl ?_
  one_item
  refine⟨A9 _,λp' H4 s4 h4 n4=>?_⟩;have a4:=s4 _ _ a3;have b4:=s4 _ _ b3;have k4:=k3.trans (Kp.same s4);refine⟨b,p',[],rfl,rfl,b9.of b4,b9.of h4,?_⟩
  one_item
  rw[if_neg ⋯]
  one_item
  refine dE (b9.of a4) rfl ?_
  one_item
  refine L8 a4 rfl λH5 x5 h5=>?_
  one_item
  refine dE (b9.of h5) rfl ?_
  one_item
  refine dE (b9.of h5) rfl ?_
  one_item
  refine dE (b9.of h5) rfl ?_
  one_item
  refine dE (b9.of h5) rfl ?_
  one_item
  exact fin _ H5 sd (c+1) [] (Int.emod_nonneg _ ∅) (Int.emod_lt_of_pos _ m0) ∅ ∅ (k4.trans (Kp.xa x5)) h5 (x5 _ _ ab.symm b4)
 |cons x r=>
  rw[if_pos (by rfl)]
  one_item
  refine dE (b9.of a3) rfl ?_
  one_item
  have ş:cR ((x::r).map V.int) 0=am (.int x):=by simp[cR,ux]
  refine dE (b9.of b3) ş ?_
  one_item
  refine⟨rfl,_,rfl,?_⟩;rw[MY];by_cases hx:x=0
  .subst hx;rw[if_pos (by rfl)];refine⟨λσ' H'=>σ'=[am (.ref a),am (.int m),ce,ce]/\Kp a b H H'/\H' a=am (.lst [.ref b,.int sd,.int c])/\H' b=am (.lst (r.map V.int)),?_,?_⟩
   .rintro σ' H' ⟨z1,z2,z3,z4⟩;exact⟨r.length,by simp,z1,z2,z3,r,z4,rfl⟩
   .one_item
    refine dE (b9.of a3) rfl ?_
    one_item
    refine⟨Zb b3,?_⟩
    one_item
    obtain⟨i1,i2,i3,i4⟩:=sM (n:=((0::r).map V.int).length) (i:=0) (j:=0) (by simp[ux]);refine⟨b,_,0,0,_,rfl,rfl,b3,by decide,by decide,i1,rfl,rfl,k3.trans (Kp.xb (wR _)),?_,?_⟩
    .rw[ak ab];exact a3
    .exact aH
  .rw[if_neg (by simpa using hx)]
   one_item
   refine dE (b9.of a3) rfl ?_
   one_item
   refine⟨A9 _,λp' H4 s4 h4 n4=>?_⟩;have a4:=s4 _ _ a3;have b4:=s4 _ _ b3;have k4:=k3.trans (Kp.same s4);refine⟨b,p',_,rfl,rfl,b9.of b4,b9.of h4,?_⟩
   one_item
   rw[if_pos (by rfl)]
   one_item
   refine dE (b9.of a4) rfl ?_
   one_item
   refine dE (b9.of b4) ş ?_
   one_item
   refine dE (b9.of a4) rfl ?_
   one_item
   refine dE (b9.of b4) ş ?_
   one_item
   refine dE (b9.of a4) rfl ?_
   one_item
   refine L8 b4 (j:=0) (by simp[ux]) λH5 x5 h5=>?_
   one_item
   exact fin _ H5 sd c ((x / m)::r) (Int.emod_nonneg _ ∅) (Int.emod_lt_of_pos _ m0) c0 ∅ (k4.trans (Kp.xb x5)) (x5 _ _ ab a4) h5
def Tr.pv:Tr->PV
 |.leaf x=>.str x
 |.node l r=>.tup [l.pv,r.pv]
def Ent.pv:Ent->PV
 |.word x=>.str x
 |.pair a b=>.tup [.int (a:Int),.int (b:Int)]
variable{t:Tr}
def Um{l:List α}(h:l≠[]):∃a x,l=a++[x]:=⟨l.dropLast,l.getLast h,(List.dropLast_concat_getLast h).symm⟩
def P8{a b:O Tr}(h:jc a++b=t.post):bI a+b.length=t.size:=by
 have h1:=congrArg Ck h;rw[Ak,t.kT]at h1;have h2:∀l:O Tr,(jc l).length=bI l:=by
  intro l
  induction l with
  |nil=>rfl
  |cons x l ih=>
   have e1:jc (x::l)=x.post++jc l:=rfl;have e2:bI (x::l)=x.size+bI l:=rfl;rw[e1,e2,Ak,ih,x.kT]
 rw[h2]at h1;exact h1
theorem cV{l:O PV}{x:PV}(h:l.length<1000):gD l x=.ret (l++[x]):=re (by have:=bM (Al _);lia)
theorem QR(t:Tr)(hz:t.size<=900):(nj t.pv).le (.ret (t.post.map Tr.pv)):=λQ q=>by
 refine sZ (λn s=>∃ts bs:O Tr,n=bI ts/\s=(bs.map Tr.pv,ts.map Tr.pv)/\jc ts++bs.reverse=t.post) ⟨[t],[],rfl,rfl,by rw[p0];simp⟩ ?_;rintro n s ⟨ts,bs,rfl,rfl,hp⟩;have hs:=P8 hp;rw[CI]at hs;by_cases he:ts=[]
 .subst he;have hp':bs.reverse=t.post:=hp;simp;rw[<- List.map_reverse,hp'];exact q
 .obtain⟨us,u,rfl⟩:=Um he;have XY:=lW us;rw[gn,pV]at hs;simp;rw[cV (by rw[Af];lia)];cases u with
  |leaf x=>
   simp[Tr.pv];refine⟨_,?_,us,rfl,bs++[.leaf x],⟨by simp[Tr.pv],rfl⟩,?_⟩
   .rw[gn,pV];show bI us<bI us+1;lia
   .rw[jD,p0]at hp;rw[FQ,<- hp];simp[Tr.post]
  |node c d=>
   have e1:Im (us.map Tr.pv) [c.pv,d.pv]=.ret (us.map Tr.pv++[c.pv,d.pv]):=re (bM (by
    simp;lia))
   simp[Tr.pv,e1];refine⟨_,?_,us++[c,d],rfl,bs++[.node c d],⟨by simp[Tr.pv],by simp⟩,?_⟩
   .have e2:bI [Tr.node c d]=c.size+d.size+1:=by rw[pV];rfl
    have e3:bI [c,d]=c.size+d.size:=by simp[bI]
    rw[gn,gn,e2,e3];lia
   .rw[jD,p0]at hp;rw[FQ,<- hp,jD,Nz];simp[Tr.post]
def aB(l:O Nat):O PV:=l.map λ(n:Nat)=>.int (n:Int)
@[simp] theorem dP(l:O Nat):(aB l).length=l.length:=Af _
@[simp] theorem Rf(a b:O Nat):aB (a++b)=aB a++aB b:=Az
@[simp] theorem abO(a:Nat)(l:O Nat):aB (a::l)=.int (a:Int)::aB l:=rfl
variable{Q:O PV->Prop}
@[simp] theorem adM:aB []=[]:=rfl
def jn(n:Nat):km 0 n=aB (Aw n):=by
 refine Bc λi _=>?_;rw[Fe]
theorem J3{p:Nat->Bool}:∀{l:O Nat},(∀k∈l,f (.int ((k:Nat):Int))=.ret (if p k=true then am (.int ((k:Nat):Int)) else ce))->kz (aB l) f=.ret (aB (l.filter p))
 |[],_=>rfl
 |k::l,h=>by
  show bn (f _) (λo=>bn (kz (aB l) f) λm=>ca (o.toList++m))=_;rw[h k (.head _),J3 λy hy=>h y (.tail _ hy),B9];cases p k<;>rfl
theorem jI{f:PV->W PV}{g:Nat->PV}:∀{l:O Nat},(∀k∈l,f (.int ((k:Nat):Int))=.ret (g k))->bx (aB l) f=.ret (l.map g)
 |[],_=>rfl
 |k::l,h=>by
  show bn (f _) (λy=>bn (bx (aB l) f) λm=>ca (y::m))=_;rw[h k (.head _),jI λy hy=>h y (.tail _ hy)];rfl
def adP{l:O PV}(g:PV->Option PV)(h:∀x∈l,f x=.ret (g x))(q:Q (l.filterMap g)):(kz l f).run Q:=by rw[yU h];exact q
def Ri{l:O PV}{f:PV->W PV}(g:PV->PV)(h:∀x∈l,f x=.ret (g x))(q:Q (l.map g)):(bx l f).run Q:=by rw[Mo h];exact q
def Rm{l:O Nat}(p:Nat->Bool)(h:∀k∈l,f (.int ((k:Nat):Int))=.ret (if p k=true then am (.int ((k:Nat):Int)) else ce))(q:Q (aB (l.filter p))):(kz (aB l) f).run Q:=by rw[J3 h];exact q
theorem oC(t:Tr)(hz:t.size<=900):(jM t.pv).le (.ret (.tup ((t.nd 0).map Ent.pv))):=λQ q=>by
 unfold jM;simp;refine W.le.use (QR t hz) ?_;refine uJ (λr s=>∃(k:O Tr) (À:O Ent) (ls:O Nat),r=k.map Tr.pv/\s=(À.map Ent.pv,aB ls.reverse)/\run k À ls=am (t.nd 0,[t.size-1])/\À.length+k.length<=900/\ls.length<=À.length) ⟨t.post,[],[],rfl,rfl,Nr t,by simp[t.kT];lia,Al _⟩ ?_ ?_
 .rintro x r s ⟨k,À,ls,e,rfl,h,hl,Ĩ⟩;cases k with
  |nil=>cases e
  |cons p k=>
   injection e with e1 e2;subst e1;subst e2;rw[Au]at hl;cases p with
   |leaf x=>
    have a1:∀y,gD (aB ls.reverse) y=.ret (aB ls.reverse++[y]):=λy=>cV (by simp;lia);simp[Tr.pv,cV (l:=À.map Ent.pv) (by simp;lia),a1];refine⟨k,rfl,À++[Ent.word x],À.length::ls,⟨by simp[Ent.pv],by simp⟩,h,by simp;lia,by simp;lia⟩
   |node c d=>
    match ls,h,Ĩ with
    |b::a::ls,h,Ĩ=>
     rw[Au,Au]at Ĩ;have a0:aB (b::a::ls).reverse=(aB ls.reverse++[.int a])++[.int b]:=by simp
     have a1:∀y,gD (aB ls.reverse) y=.ret (aB ls.reverse++[y]):=λy=>cV (by simp;lia);rw[a0];simp only[Tr.pv,lc,gB,gA,cL,if_false,aaY];simp[cV (l:=À.map Ent.pv) (by simp;lia),a1];refine⟨k,rfl,À++[Ent.pair a b],À.length::ls,⟨by simp[Ent.pv],by simp⟩,h,by simp;lia,by simp;lia⟩
 .rintro s ⟨k,À,ls,e,rfl,h,hl,Ĩ⟩;cases k with
  |nil=>
   cases h;simpa using q
  |cons p k=>cases e
variable{a b v:Int}
theorem mulL(h:-1000000000<=a/\a<=1000000000):wP a b:=Xy ∅ ∅
theorem mulR(h:-1000000000<=b/\b<=1000000000):wP a b:=mul_r ∅ ∅
theorem cg{i j:Int}(h:-1000<=i/\i<=1000/\-1000<=j/\j<=1000)(h2:j-i<=1000):okN i j:=⟨by lia,by lia,by lia,by lia,bM ∅⟩
def kC:Ent->Bool
 |.word _=>false
 |.pair _ _=>true
structure Dt(t:Tr)(ds:List Int)(left:List Nat)(d:Int):Prop where
 len:ds.length=t.size
 zero:∀j,j<t.size->(kC (en t 0 j)=false\/j∈left)->ds.getD j 0=0
 up:∀j,j<t.size->j∉left->∀a b,en t 0 j=.pair a b->a∉left/\b∉left/\ds.getD a 0<ds.getD j 0/\ds.getD b 0<ds.getD j 0/\1<=ds.getD j 0/\ds.getD j 0<=d
 inj:∀i j,i<t.size->j<t.size->i∉left->j∉left->kC (en t 0 i)=true->kC (en t 0 j)=true->ds.getD i 0=ds.getD j 0->i=j
 pos:0<=d
 lft:∀j∈left,j<t.size/\kC (en t 0 j)=true
 ris:left.Pairwise (· < ·)
def iH{l:O Int}(h:i<l.length):(l.set i v).getD i 0=v:=by rw[Ae,CW h];rfl
def bS{l:O Int}(h:i≠j):(l.set i v).getD j 0=l.getD j 0:=by rw[Ae,Ce h,<- Ae]
def mJ{l:O Nat}(h:l.Pairwise (· < ·)){x y:Nat}:y∈l.erase x↔y∈l/\y≠x:=by
 have nd:l.Nodup:=h.imp (λz=>AH z);rw[nd.mem_erase_iff];exact⟨λz=>⟨z.2,z.1⟩,λz=>⟨z.2,z.1⟩⟩
theorem bF(t:Tr){a b:Nat}(h:j<t.size)(e:en t 0 j=.pair a b):a<j/\b<j:=by
 rcases Tb t 0 j h with⟨x,e1,_⟩|⟨a',b',e1,e2,e3,_⟩
 .rw[e1]at e;cases e
 .rw[e1]at e;injection e with h1 h2;lia
variable{x d:Int}{a:Nat}{ds:O Int}
theorem Dt.next{left:O Nat}{b:Nat}(D:Dt t ds left d)(hj:j∈left)(e:en t 0 j=.pair a b)(ha:a∉left)(hb:b∉left)(hx:0<=x):Dt t (ds.set j (d+1+x)) (left.erase j) (d+1+x):=by
 obtain⟨hjs,hjp⟩:=D.lft j hj;obtain⟨haj,hbj⟩:=bF t hjs e;have õ:j<ds.length:=by rw[D.len];exact hjs
 have hm:∀y,y∈left.erase j↔y∈left/\y≠j:=λy=>mJ D.ris;have Û:∀y,y<t.size->y∉left->ds.getD y 0<=d:=λy hy Ģ=>by
  cases ey:en t 0 y with
  |word w=>rw[D.zero y hy (.inl (by rw[ey];rfl))];exact D.pos
  |pair p q=>exact(D.up y hy Ģ p q ey).2.2.2.2.2
 refine⟨by rw[BL];exact D.len,λy hy hc=>?_,λy hy Ģ p q ey=>?_,λu v hu hv hul hvl pu pv TC=>?_,by have:=D.pos;lia,λy hy=>D.lft y ((hm y).mp hy).1,List.Pairwise.sublist List.erase_sublist D.ris⟩
 .have ċ:j≠y:=λz=>by
   subst z;rcases hc with hc|hc
   .rw[hjp]at hc;cases hc
   .exact((hm j).mp hc).2 rfl
  rw[bS ċ];exact D.zero y hy (hc.imp id λz=>((hm y).mp z).1)
 .by_cases ċ:j=y
  .subst ċ;rw[e]at ey;injection ey with h1 h2;subst h1 h2;have la:=Û a ∅ ha;have lb:=Û b ∅ hb;rw[iH õ,bS ∅,bS ∅];have:=D.pos;exact⟨λz=>ha ((hm a).mp z).1,λz=>hb ((hm b).mp z).1,by lia,by lia,by lia,by lia⟩
  .have aia:y∉left:=λz=>Ģ ((hm y).mpr ⟨z,BE ċ⟩);obtain⟨p1,p2,p3,p4,p5,p6⟩:=D.up y hy aia p q ey;have np:j≠p:=λz=>p1 (z▸hj);have nq:j≠q:=λz=>p2 (z▸hj);rw[bS ċ,bS np,bS nq];exact⟨λz=>p1 ((hm p).mp z).1,λz=>p2 ((hm q).mp z).1,p3,p4,p5,by lia⟩
 .by_cases c1:j=u
  .by_cases c2:j=v
   .exact c1.symm.trans c2
   .exfalso;subst c1;have š:v∉left:=λz=>hvl ((hm v).mpr ⟨z,BE c2⟩);rw[iH õ,bS c2]at TC;have:=Û v hv š;lia
  .have aeb:u∉left:=λz=>hul ((hm u).mpr ⟨z,BE c1⟩);by_cases c2:j=v
   .exfalso;subst c2;rw[iH õ,bS c1]at TC;have:=Û u hu aeb;lia
   .have š:v∉left:=λz=>hvl ((hm v).mpr ⟨z,BE c2⟩);rw[bS c1,bS c2]at TC;exact D.inj u v hu hv aeb š pu pv TC
def splits(t:Tr):O Nat:=(Aw t.size).filter λj=>kC (en t 0 j)
def Dt.first(t:Tr):Dt t (Ap t.size 0) (splits t) 0:=by
 have z:∀j,(Ap t.size (0:Int)).getD j 0=0:=λj=>by
  rw[Ae,CS]
  split<;>rfl
 have mem:∀j,j∈splits t↔j<t.size/\kC (en t 0 j)=true:=λj=>by unfold splits;rw[Bl,AN]
 exact⟨B4,λj _ _=>z j,λj hj hn a b e=>absurd ((mem j).mpr ⟨hj,by rw[e];rfl⟩) hn,λi j hi hj hni _ pi _ _=>absurd ((mem i).mpr ⟨hi,pi⟩) hni,Bu _,λj hj=>(mem j).mp hj,List.Pairwise.filter _ E8⟩
theorem Wf(t:Tr):cY 0 ((t.nd 0).map Ent.pv)=(Aw t.size).map λj=>PV.tup [.int ((j:Nat):Int),(en t 0 j).pv]:=by
 have hl:(cY 0 ((t.nd 0).map Ent.pv)).length=t.size:=by rw[bE,Af,t.bL]
 apply BF;intro i;by_cases hi:i<t.size
 .have h1:(cY 0 ((t.nd 0).map Ent.pv))[i]?=am ((cY 0 ((t.nd 0).map Ent.pv))[i]'∅):=Ad _;obtain⟨y,hy,e⟩:=dz h1;rw[Ah,je t 0 i hi]at hy;rw[h1,e,<- (Option.some.inj hy),Ah,AJ hi,A5];rfl
 .rw[Ar ∅,Ar (by rw[Af,Bm];lia)]
theorem KR(y:Nat):∀l:O Nat,(l.map λn=>((n:Nat):Int)).erase (y:Int)=(l.erase y).map λn=>((n:Nat):Int)
 |[]=>rfl
 |a::l=>by
  rw[Av,List.erase_cons,List.erase_cons,KR y l];by_cases c:a=y
  .subst c;simp
  .have c1:(a==(y:Int))=false:=by simp;lia
   have c2:(a==y)=false:=by simpa using c
   rw[c1,c2];simp
def Y2(s:Nat):Ent->Ent
 |.word x=>.word x
 |.pair p q=>.pair (p+s) (q+s)
theorem JQ:∀(t:Tr) (o s:Nat),t.nd (o+s)=(t.nd o).map (Y2 s)
 |.leaf _,_,_=>rfl
 |.node a b,o,s=>by
  have ha:=a.size_pos;rw[Tr.nd,Tr.nd,JQ a o s,show o+s+a.size=o+a.size+s by lia,JQ b (o+a.size) s,Az,Az];congr 2;congr 1<;>lia
def f7{l m:O PV}(h:l.length+m.length<=1000):kE l m=.ret (l++m):=re (bM h)
variable{v:PV}
theorem aas(k:Nat)(l:O Nat)(b:Bool):rK b (.int (k:Int)) (aB l)=.ret (if b then !decide (k∈l) else decide (k∈l)):=by
 have h1:VT (.int k) (aB l):=⟨by simp,js.mpr λx hx=>by
  obtain⟨n,_,rfl⟩:=Ao.mp hx;simp,lq λx hx=>by
  obtain⟨n,_,rfl⟩:=Ao.mp hx;simp⟩
 have h2:uC (.int (k:Int)) (aB l)=decide (k∈l):=by
  unfold uC aB;rw[List.any_map]
  induction l with
  |nil=>simp
  |cons a l ih=>
   have ih:=ih ⟨by simp,js.mpr λx hx=>by
    obtain⟨n,_,rfl⟩:=Ao.mp hx;simp,lq λx hx=>by
    obtain⟨n,_,rfl⟩:=Ao.mp hx;simp⟩
   rw[Cm,ih];by_cases c:a=k
   .subst c;simp
   .have c1:(a==(k:Int))=false:=by simp;lia
    have c2:¬k=a:=λz=>c z.symm;simp[c1,c2]
 unfold rK;rw[re h1,h2]
def br(ds:O Int):O PV:=ds.map PV.int
@[simp] theorem fP(ds:O Int):(br ds).length=ds.length:=Af _
def RM(ds:O Int)(y:Nat)(v:Int):(br ds).set y (.int v)=br (ds.set y v):=by unfold br;rw[E9]
theorem Mv(h:k<n):ux n (k:Int)=am k:=by
 unfold ux;rw[if_pos ∅,if_pos ∅];simp
def og{l:O PV}(h:k<l.length):oj l (.int (k:Int)) v=.ret (l.set k v):=by
 unfold oj;simp[Mv h]
def ZT(t:Tr)(h:j<t.size):cR ((t.nd 0).map Ent.pv) (j:Int)=am (en t 0 j).pv:=cQ (by rw[Ah,je t 0 j h];rfl)
def okJ(t:Tr)(ds:O Int)(j:Nat):Bool:=match en t 0 j with
 |.word _=>ds.getD j 0==0
 |.pair a b=>decide (ds.getD a 0<ds.getD j 0)&&decide (ds.getD b 0<ds.getD j 0)&&decide (1<=ds.getD j 0)&&decide (ds.getD j 0<=99)
def Nl(t:Tr)(ds:O Int):O Int:=(splits t).map (ds.getD · 0)
def VP(t:Tr)(ds:O Int):Bool:=decide (ds.length=t.size)&&(decide (Nl t ds).Nodup&&(Aw t.size).all (okJ t ds))
def int_at(h:j<ds.length):cR (br ds) (j:Int)=am (.int (ds.getD j 0)):=cQ (by
 unfold br;rw[Ah,Ad h,Ae,Ad h];rfl)
theorem Yu(t:Tr)(ds:O Int)(h:ds.length=t.size):pR ((t.nd 0).map Ent.pv) (br ds)=(Aw t.size).map λj=>PV.tup [(en t 0 j).pv,.int (ds.getD j 0)]:=by
 refine BF λj=>?_;by_cases hj:j<t.size
 .have hl:j<(pR ((t.nd 0).map Ent.pv) (br ds)).length:=by rw[nX];simp[t.bL,h];exact hj
  obtain⟨x,y,hx,hy,e⟩:=sW (Ad hl);rw[Ah,je t 0 j hj]at hx;have õ:j<ds.length:=by lia
  unfold br at hy;rw[Ah,Ad õ]at hy;rw[Ad hl,e,<- (Option.some.inj hx),<- (Option.some.inj hy),Ah,AJ hj];show _=am (PV.tup [_,.int (ds.getD j 0)]);rw[Ae,Ad õ];rfl
 .rw[Ar (by rw[nX];simp[t.bL,h];lia),Ar (by simp;lia)]
theorem split_le(t:Tr)(ds:O Int)(h:ds.length=t.size)(hz:t.size<=900):fD (.tup ((t.nd 0).map Ent.pv)) (.tup (br ds))=.ret (br (Nl t ds)):=by
 unfold fD;have c:((t.nd 0).map Ent.pv).length<=sizeLine:=bM (by rw[Af,t.bL];lia);simp only[lc,aK,GC,re c,Yu t ds h];rw[yU (g:=λx=>match x with|.tup [.str _,_]=>ce|.tup [_,y]=>am y|_=>ce) λx hx=>?_]
 .congr 1;unfold Nl splits br;generalize Aw t.size=l
  induction l with
  |nil=>rfl
  |cons j l ih=>
   rw[Av,AL,B9,ih];cases e:en t 0 j with
   |word w=>rfl
   |pair a b=>rfl
 .obtain⟨j,hj,rfl⟩:=Ao.mp hx;cases en t 0 j with
  |word w=>simp[Ent.pv]
  |pair a b=>simp[Ent.pv]
section
variable{α β:Type}
theorem Rg{c:α->PV}{f:PV->W PV}{g:α->PV}:∀{l:List α},(∀x∈l,(f (c x)).le (.ret (g x)))->(bx (l.map c) f).le (.ret (l.map g))
 |[],_=>W.le.refl _
 |x::r,h=>W.le.ret (h x (.head _)) (W.le.ret (Rg λy hy=>h y (.tail _ hy)) (W.le.refl _))
theorem XB{c:α->PV}{g:α->Option PV}:∀{l:List α},(∀x∈l,(f (c x)).le (.ret (g x)))->(kz (l.map c) f).le (.ret (l.filterMap g))
 |[],_=>W.le.refl _
 |x::r,h=>W.le.ret (h x (.head _)) (W.le.ret (XB λy hy=>h y (.tail _ hy)) (W.le.of_eq (by rw[AL];cases g x<;>rfl)))
def ik{c:α->PV}{f:PV->W PV}(g:α->PV){l:List α}(h:∀x∈l,(f (c x)).le (.ret (g x)))(q:Q (l.map g)):(bx (l.map c) f).run Q:=Rg h Q q
def Z2{c:α->PV}(g:α->Option PV){l:List α}(h:∀x∈l,(f (c x)).le (.ret (g x)))(q:Q (l.filterMap g)):(kz (l.map c) f).run Q:=XB h Q q
theorem X8{p:α->Bool}{g:α->β}:∀l:List α,l.filterMap (λx=>if p x=true then am (g x) else ce)=(l.filter p).map g
 |[]=>rfl
 |x::l=>by
  rw[AL,B9,X8 l];cases p x<;>rfl
end
def Ss(c:α->PV)(l:List α)(k:Nat):cY k (l.map c)=(l.zipIdx k).map λp=>PV.tup [.int ((p.2:Nat):Int),c p.1]:=by
 induction l generalizing k with
 |nil=>rfl
 |cons a l ih=>rw[Av,cY,ih,List.zipIdx_cons,Av]
def vp:V->PV
 |.int i=>.int i
 |.str x=>.str x
 |.bl b=>.bl b
 |_=>.aO
def ahL(t:Tr):O PV:=(ah (t.nd 0) 0 (Ap t.size V.aO)).map vp
@[simp] theorem M1(t:Tr):(ahL t).length=t.size:=by unfold ahL;rw[Af,Lq,B4]
def M3(t:Tr)(h:j<t.size):(ahL t)[j]?=am (vp (kF t 0 j .aO)):=by unfold ahL;rw[Ah,abu t h];rfl
def dq(t:Tr):((t.nd 0).map Ent.pv).length=t.size:=by rw[Af,t.bL]
theorem IK(t:Tr)(hz:t.size<=900):(gN t.pv).le (.ret (.tup (ahL t))):=λQ q=>by
 unfold gN;have c:((t.nd 0).map Ent.pv).length<=sizeLine:=bM (by rw[dq];lia);simp only[lc,f8];refine W.le.use (oC t hz) ?_;simp only[aK,nn];refine Ri (λ_=>.aO) (λx hx=>rfl) ?_;simp only[re c,nn];have e0:((t.nd 0).map Ent.pv).map (λ_=>PV.aO)=(ah ((t.nd 0).take 0) 0 (Ap t.size V.aO)).map vp:=by
  rw[List.take_zero,ah,List.map_replicate,List.map_const',dq];rfl
 rw[e0];refine d4 (λi s=>s=(ah ((t.nd 0).take i) 0 (Ap t.size V.aO)).map vp) rfl (λi x s hx hs=>?_) (λs hs=>?_)
 .subst hs;have hi:i<t.size:=by have:=(Aj.mp hx).1;rw[bE,dq]at this;exact this
  obtain⟨y,hy,rfl⟩:=dz hx;have e:=je t 0 i hi;rw[Ah,e]at hy;have hy:=Option.some.inj hy;subst hy;have et:(t.nd 0).take (i+1)=(t.nd 0).take i++[en t 0 i]:=by rw[FH,e];rfl
  have ea:ah ((t.nd 0).take (i+1)) 0 (Ap t.size V.aO)=Tf (ah ((t.nd 0).take i) 0 (Ap t.size V.aO)) (0+i) (en t 0 i):=by
   rw[et,z9,Co,t.bL];congr 1;lia
  have hal:(ah ((t.nd 0).take i) 0 (Ap t.size V.aO)).length=t.size:=by rw[Lq,B4]
  rw[ea];generalize hA:ah ((t.nd 0).take i) 0 (Ap t.size V.aO)=A at hal ⊢;unfold dc;cases en':en t 0 i with
  |word w=>simp[Ent.pv,bU,Tf]
  |pair a b=>
   obtain⟨ha,hb⟩:=bF t hi en';have s1:oj (A.map vp) (.int a) (.int ((0+i:Nat)))=.ret ((A.map vp).set a (.int ((0+i:Nat):Int))):=og (by rw[Af];lia);have s2:oj ((A.map vp).set a (.int ((0+i:Nat):Int))) (.int b) (.int ((0+i:Nat):Int))=.ret (((A.map vp).set a (.int ((0+i:Nat):Int))).set b (.int ((0+i:Nat):Int))):=og (by rw[BL,Af];lia);simp only[Ent.pv,iL,nn,gB,gA,cL,f8,Ay,if_false,aK,bU,lc,s1,s2];show _=FJ vp ((A.set a _).set b _);rw[E9,E9];rfl
 .subst hs;simp only[bE,Af];rw[List.take_length];exact q
def JO(e:Ent)(j:Nat):PV:=match e with|.word x=>.str x|.pair _ _=>.int (j:Int)
def Jc(t:Tr)(ds:O Int)(b:Int)(j:Nat):Bool:=decide (ds.getD j 0<=b)&&(match kF t 0 j .aO with|.int a=>decide (b<ds.getD a.toNat 0)|_=>true)
def GZ(t:Tr)(ds:O Int)(b:Int)(n j:Nat):O (Nat×Nat):=((Aw j).filter (Jc t ds b)).map λk=>(k,n)
def aN(t:Tr)(ds bs:O Int):Nat->O (Nat×Nat)
 |0=>[]
 |i+1=>aN t ds bs i++GZ t ds (bs.getD i 0) i t.size
def O7(l:O (Nat×Nat)):O PV:=l.map λp=>.tup [.int (p.1:Int),.int (p.2:Int)]
def yd(t:Tr)(ds:O Int)(b:Int)(n j:Nat):(GZ t ds b n j).length<=j:=by
 unfold GZ;rw[Af];refine AD (B5 _ _) ?_;rw[Bm];exact Al _
theorem gI(t:Tr)(ds bs:O Int):∀i,(aN t ds bs i).length<=i*t.size
 |0=>A9 _
 |i+1=>by
  rw[aN,Ak];have h1:=gI t ds bs i;have h2:=yd t ds (bs.getD i 0) i t.size;rw[Eg];lia
def PR(t:Tr)(ds:O Int)(b:Int)(n j:Nat):GZ t ds b n (j+1)=GZ t ds b n j++(if Jc t ds b j then [(j,n)] else []):=by
 unfold GZ;rw[Cw,Cs,Az];congr 1;by_cases c:Jc t ds b j<;>simp[c]
def uv(p:Nat×Nat):O Key:=[.inl (p.1:Int),.inl (p.2:Int)]
theorem HF{p q:Nat×Nat}(h:uv p=uv q):p=q:=by
 obtain⟨a,b⟩:=p;obtain⟨c,d⟩:=q;simp[uv]at h;exact Prod.ext ∅ ∅
def nh:Nat->O (Nat×Nat)->O (O Key×PV)
 |_,[]=>[]
 |k,p::l=>(uv p,.int (k:Int))::nh (k+1) l
theorem lR:∀(k:Nat) (l:O (Nat×Nat)),(nh k l).map (·.1)=l.map uv
 |_,[]=>rfl
 |k,p::l=>by rw[nh,Av,Av,lR (k+1) l]
def Ho(k:Nat)(l:O (Nat×Nat)):(nh k l).length=l.length:=by have:=congrArg Ck (lR k l);simpa using this
theorem tU:∀(k:Nat) (l:O (Nat×Nat)) (p:Nat×Nat),p∈l->mC (nh k l) (uv p)=am (.int ((k+l.idxOf p:Nat):Int))
 |k,q::l,p,h=>by
  rw[List.idxOf_cons];by_cases c:q=p
  .subst c;simp[nh,mC]
  .have c2:uv q≠uv p:=λz=>c (HF z);have c3:(q==p)=false:=by simpa using c
   have e:mC (nh k (q::l)) (uv p)=mC (nh (k+1) l) (uv p):=by simp[nh,mC,c2]
   rw[e,(tU (k+1) l p ((AB.mp h).elim (λz=>absurd z.symm c) id)),c3];congr 2;show((k+1+l.idxOf p))=((k+(l.idxOf p+1)):Int);lia
def IG(e:Ent)(j:Nat)(d b:Int):O Nat:=if d<b then [j] else match e with|.word _=>[]|.pair x y=>[x,y]
def Yo(l:O (Nat×Nat))(j n:Nat):O Nat:=(l.filter λp=>decide (p.2=n)&&!decide (p.1=j)).map λp=>l.idxOf p
def MU(e:Ent)(l:O (Nat×Nat))(j n:Nat)(d b:Int):PV:=.tup [JO e j,.int (n:Int),.tup (aB ((IG e j d b).map λx=>l.idxOf (x,n-1))),.tup (aB (Yo l j n))]
def Mk{f:α->β}(hf:∀x y,f x=f y->x=y){l:List α}(h:l.Nodup):(l.map f).Nodup:=List.Pairwise.map f (λa b n z=>n (hf a b z)) h
def Nj(t:Tr)(ds:O Int)(b:Int)(n j:Nat):(GZ t ds b n j).Nodup:=by
 exact Mk (λx y h=>(Prod.mk.inj h).1) (List.Pairwise.filter _ EX)
theorem fi{t:Tr}{ds bs:O Int}:∀{i:Nat}{p:Nat×Nat},p∈aN t ds bs i->p.2<i/\p.1<t.size
 |0,_,h=>by simp[aN]at h
 |i+1,p,h=>by
  rcases AO.mp h with h|h
  .have:=fi h;lia
  .obtain⟨k,hk,rfl⟩:=Ao.mp h;have:=AN.mp (Bl.mp hk).1;exact⟨Df _,this⟩
variable{e:Ent}{es:O Ent}
theorem gk(t:Tr)(ds bs:O Int):∀i,(aN t ds bs i).Nodup
 |0=>FI
 |i+1=>by
  refine C4.mpr ⟨gk t ds bs i,Nj _ _ _ _ _,λa ha b hb z=>?_⟩;subst z;obtain⟨k,_,rfl⟩:=Ao.mp hb;exact AI _ ((fi ha).1)
def k7{l:O PV}(h:l[k]?=am v):Tz l (.int (k:Int))=.ret v:=by
 rw[bT,cQ h];rfl
def Ip(ds:O Int){x:PV}(h:(cY 0 (br ds))[i]?=am x):i<ds.length/\x=.tup [.int (i:Int),.int (ds.getD i 0)]:=by
 have hi:i<ds.length:=by have:=(Aj.mp h).1;rw[bE,fP]at this;exact this
 obtain⟨y,hy,rfl⟩:=dz h;unfold br at hy;rw[Ah,Ad hi]at hy;have hy:=Option.some.inj hy;subst hy;refine⟨hi,?_⟩;rw[A5,Ae,Ad hi];rfl
theorem GY(t:Tr)(ds bs:O Int)(hd:ds.length=t.size)(hz:t.size<=100)(hb:bs.length*t.size<=900)(hb2:bs.length<=900):(jJ t.pv (.tup (br ds)) (.cl (br bs))).le (.ret (O7 (aN t ds bs bs.length))):=λQ q=>by
 unfold jJ;have c1:(br bs).length<=sizeLine:=bM (by rw[fP];lia);have c2:(br ds).length<=sizeLine:=bM (by rw[fP];lia);simp only[lc,f8];refine W.le.use (IK t ∅) ?_;simp only[bj,nn,re c1];refine d4 (λi s=>s=O7 (aN t ds bs i)) rfl (λi x s hx hs=>?_) (λs hs=>?_)
 .subst hs;obtain⟨hi,rfl⟩:=Ip bs hx;simp only[iL,nn,f8,aK,re c2];have hl:=gI t ds bs i;have hm:i*t.size+t.size<=900:=by
   have:(i+1)*t.size<=bs.length*t.size:=Cd _ hi;rw[Eg]at this;lia
  refine d4 (λj s=>s=O7 (aN t ds bs i++GZ t ds (bs.getD i 0) i j)) (by simp[GZ]) (λj x s hx hs=>?_) (λs hs=>?_)
  .subst hs;obtain⟨hj,rfl⟩:=Ip ds hx;have XY:=yd t ds (bs.getD i 0) i j;simp only[iL,nn,f8];rw[PR];have ô:j<t.size:=by lia
   have ķ:Jc t ds (bs.getD i 0) j=true->(gD (O7 (aN t ds bs i++GZ t ds (bs.getD i 0) i j)) (PV.tup [.int j,.int i])).run λs=>s=O7 (aN t ds bs i++(GZ t ds (bs.getD i 0) i j++if Jc t ds (bs.getD i 0) j=true then [(j,i)] else [])):=λc=>by
    rw[cV (by unfold O7;rw[Af,Ak];lia),if_pos c];unfold O7;rw[<- AA,Az (l₂:=[(j,i)])];rfl
   have no:Jc t ds (bs.getD i 0) j=false->O7 (aN t ds bs i++GZ t ds (bs.getD i 0) i j)=O7 (aN t ds bs i++(GZ t ds (bs.getD i 0) i j++if Jc t ds (bs.getD i 0) j=true then [(j,i)] else [])):=λc=>by rw[c];simp
   generalize eb:bs.getD i 0=b at ķ no ⊢;generalize ed:ds.getD j 0=d at *;simp only[lc,f8,aeR,nn,cb,aK,k7 (M3 t ô)];by_cases c:d<=b
   .simp only[c,decide_true,if_true,f8,nn];rcases tq t 0 j .aO [] ô with⟨_,e,_⟩|⟨a,_,ha,e,_⟩
    .have sb:Jc t ds b j=true:=by unfold Jc;rw[e,ed];simp[c]
     rw[e];simp;exact ķ sb
    .rw[A5]at e;have sb:Jc t ds b j=decide (b<ds.getD a 0):=by unfold Jc;rw[e,ed];simp[c]
     rw[e];have i2:cR (br ds) a=am (.int (ds.getD a 0)):=int_at ∅;simp only[vp,KO,nn,cb,PV.mU,if_false,bT,i2,Da,Yd,lc];by_cases c2:b<ds.getD a 0
     .rw[decide_eq_true c2]at sb ⊢;exact ķ sb
     .rw[decide_eq_false c2]at sb ⊢;exact no sb
   .have sb:Jc t ds b j=false:=by unfold Jc;rw[ed];simp[c]
    simp only[c,decide_false,Ay,if_false,nn];exact no sb
  .subst hs;rw[bE,fP,hd];rfl
 .subst hs;rw[bE,fP];exact q
def Vh{l:O (Nat×Nat)}(h:l≠[])(k:Nat):nh k l≠[]:=by cases l with|nil=>exact absurd rfl h|cons a l=>simp[nh]
def JM(k:Nat)(l:O (Nat×Nat)):((nh k l).map λkv=>PV.tup (kv.1.map kP))=l.map λp=>PV.tup [.int (p.1:Int),.int (p.2:Int)]:=by
 have:=congrArg (FJ λx:O Key=>PV.tup (x.map kP)) (lR k l);rw[AQ,AQ]at this;exact this
theorem Ug{bs:O Int}{l:O (Nat×Nat)}(h1:es[j]?=am e)(h2:j<ds.length)(h3:n<bs.length)(hl:l.length<=1000)(h0:l≠[])(hb:∀x∈IG e j (ds.getD j 0) (bs.getD n 0),1<=n/\(x,n-1)∈l):(lS (.tup (es.map Ent.pv)) (.tup (br ds)) (.cl (br bs)) (SO (nh 0 l)) (.tup [.int (j:Int),.int (n:Int)])).le (.ret (MU e l j n (ds.getD j 0) (bs.getD n 0))):=λQ q=>by
 unfold lS;have i0:cR [PV.int j,PV.int n] 0=am (.int j):=rfl;have i1:cR [PV.int (j:Int),PV.int (n:Int)] 1=am (.int n):=rfl;have i4:cR (es.map Ent.pv) (j:Int)=am e.pv:=cQ (by rw[Ah,h1];rfl);simp only[lc,f8,aK,bj,bT,i0,i1,(int_at h2),(int_at h3),i4,Da,nn,Yd,cL];generalize hdj:ds.getD j 0=d at *;generalize hbn:bs.getD n 0=b at *;have below:∀{R:PV->Prop},R (.tup (aB (IG e j d b)))->(if decide (d<b)=true then ca (PV.tup [PV.int (j:Int)]) else dc e.pv).run R:=λ{R} r=>by
  unfold IG at r;unfold dc;by_cases c:d<b
  .rw[if_pos c]at r;simpa[c]using r
  .cases e with
   |word w=>simpa[c,Ent.pv]using r
   |pair a b=>simpa[c,Ent.pv]using r
 refine below ?_;refine ik (λx=>.int ((l.idxOf (x,n-1):Nat):Int)) (λk hk=>?_) ?_
 .obtain⟨g1,g2⟩:=hb k hk;intro R r;have en1:(n:Int)-1=((n-1:Nat):Int):=by lia
  simp only[dgB,lc,f8,qz,nn,en1];rw[show PV.tup [.int k,.int ((n-1:Nat):Int)]=.tup ((uv (k,n-1)).map kP) from rfl];refine MX (tU 0 l (k,n-1) g2) ?_;rw[A5];exact r
 simp;refine NW (Vh h0 0) (by rw[Ho];exact bM hl) ?_;rw[JM];refine Z2 (λp=>if (decide (p.2=n)&&!decide (p.1=j))=true then am (.int ((l.idxOf p:Nat):Int)) else ce) (λp hp=>?_) ?_
 .intro R r;obtain⟨u,v⟩:=p;have j0:cR [PV.int u,PV.int v] 0=am (.int u):=rfl;have j1:cR [PV.int (u:Int),PV.int (v:Int)] 1=am (.int v):=rfl;simp only[dgB,lc,f8,aK,bT,j0,j1,Da,nn,qA,aaZ,cb];have get:∀{R:PV->Prop},R (.int ((l.idxOf (u,v):Nat):Int))->(dgW (SO (nh 0 l)) (PV.tup [.int (u:Int),.int (v:Int)])).run R:=λ{R} r=>by
   refine MX (tU 0 l (u,v) hp) ?_;rw[A5];exact r
  by_cases c1:v=n
  .subst c1;by_cases c2:u=j
   .subst c2;simp;simpa using r
   .have c3:((u:Int)==(j:Int))=false:=by simp;lia
    simp only[beq_self_eq_true,c3,FN,if_true,nn,f8];refine get ?_;simpa[c2]using r
  .have c3:((v:Int)==(n:Int))=false:=by simp;lia
   simp only[c3,Ay,if_false,nn];simpa[c1]using r
 rw[X8];have nm:∀{R:PV->Prop},R (JO e j)->(fo (.tup (es.map Ent.pv)) (.int (j:Int))).run R:=λ{R} r=>by
  unfold fo;simp only[lc,f8,aK,bT,i4,Da,nn];cases e with
  |word w=>simpa[Ent.pv,JO]using r
  |pair a b=>simpa[Ent.pv,JO]using r
 refine nm ?_;have e1:(l.filter λp=>decide (p.2=n)&&!decide (p.1=j)).map (λp=>PV.int ((l.idxOf p:Nat):Int))=aB (Yo l j n):=by
  unfold aB Yo;rw[AQ];rfl
 have e2:(IG e j d b).map (λx=>PV.int ((l.idxOf (x,n-1):Nat):Int))=aB ((IG e j d b).map λx=>l.idxOf (x,n-1)):=by
  unfold aB;rw[AQ];rfl
 rw[e1,e2];exact q
def dgL(t:Tr)(ds bs:O Int):O PV:=(aN t ds bs bs.length).map λp=>MU (en t 0 p.1) (aN t ds bs bs.length) p.1 p.2 (ds.getD p.1 0) (bs.getD p.2 0)
def okD(t:Tr)(ds bs:O Int):Prop:=∀p∈aN t ds bs bs.length,∀x∈IG (en t 0 p.1) p.1 (ds.getD p.1 0) (bs.getD p.2 0),1<=p.2/\(x,p.2-1)∈aN t ds bs bs.length
theorem tV:∀(k:Nat) (l:O (Nat×Nat)),(l.zipIdx k).map (λp=>PV.tup [PV.tup [.int (p.1.1:Int),.int (p.1.2:Int)],.int ((p.2:Nat):Int)])=(nh k l).map Mf
 |_,[]=>rfl
 |k,p::l=>by rw[List.zipIdx_cons,Av,tV (k+1) l];rfl
def aL(t:Tr)(ds:O Int):O Int:=0::sortI (Nl t ds)
def Uk(t:Tr)(ds:O Int):(Nl t ds).length<=t.size:=by
 unfold Nl splits;rw[Af];have:=B5 (λj=>kC (en t 0 j)) (Aw t.size);rw[Bm]at this;exact this
def xc{l:O Int}:x∈sortI l↔x∈l:=(Dk l _).mem_iff
def pU(l:O Int):(sortI l).length=l.length:=(Dk l _).length_eq
theorem SV(t:Tr)(ds:O Int)(hd:ds.length=t.size)(hz:t.size<=25)(h0:aN t ds (aL t ds) (aL t ds).length≠[])(ok:okD t ds (aL t ds)):(lU t.pv (.tup (br ds))).le (.ret (.tup (dgL t ds (aL t ds)))):=λQ q=>by
 unfold lU;simp only[lc,f8];refine W.le.use (oC t ∅) ?_;have hs:=Uk t ds;have hl:(aL t ds).length<=t.size+1:=by unfold aL;rw[Au,pU];lia
 have e2:yg (br (Nl t ds))=.ret (br (sortI (Nl t ds))):=by
  unfold yg br;rw[fv];show W.eK _ _=_;rw[re ∅]
 have e3:kE [PV.int 0] (br (sortI (Nl t ds)))=.ret (br (aL t ds)):=by
  rw[f7 (by rw[fP,pU];simp;lia)];rfl
 simp only[split_le t ds hd ∅,nn,e2,e3];have hb:(aL t ds).length*t.size<=900:=by
  have:=DJ (by omega) hz;lia
 refine W.le.use (GY t ds (aL t ds) hd ∅ hb ∅) ?_;generalize hL:aN t ds (aL t ds) (aL t ds).length=L at *;have hLl:L.length<=900:=by rw[<- hL];exact AD (gI _ _ _ _) hb
 have c:(O7 L).length<=sizeLine:=bM (by unfold O7;rw[Af];lia);simp only[bj,nn,re c];unfold O7;rw[Ss];refine ik (λp:(Nat×Nat)×Nat=>PV.tup [PV.tup [.int p.1.1,.int p.1.2],.int p.2]) (λp _ R r=>by simpa using r) ?_;rw[tV];refine OC ?_ (by rw[Ho];lia) ?_
 .rw[lR];exact Mk (λ_ _ h=>HF h) (hL▸gk t ds _ _)
 refine ik (λp:Nat×Nat=>MU (en t 0 p.1) L p.1 p.2 (ds.getD p.1 0) ((aL t ds).getD p.2 0)) (λp hp=>?_) ?_
 .obtain⟨g1,g2⟩:=(λp hp=>fi (hL▸hp)) p hp;refine Ug (je t 0 p.1 g2) ∅ g1 ∅ h0 λx hx=>?_;have:=ok p (by rw[hL];exact hp) x hx;rw[hL]at this;exact this
 .have:dgL t ds (aL t ds)=L.map λp:Nat×Nat=>MU (en t 0 p.1) L p.1 p.2 (ds.getD p.1 0) ((aL t ds).getD p.2 0):=by unfold dgL;rw[hL]
  rw[<- this];exact q
theorem iV:∀(t:Tr) (o x:Nat) (p:V),x<t.size->(x=t.size-1/\kF t o x p=p)\/∃a u v,x<a/\a<t.size/\kF t o x p=.int ((o+a:Nat):Int)/\en t o a=.pair u v/\(u=o+x\/v=o+x)
 |.leaf _,o,x,p,h=>.inl ⟨by have:x<1:=h;show x=0;lia,rfl⟩
 |.node l r,o,x,p,h=>by
  have es:(Tr.node l r).size=l.size+r.size+1:=rfl;have top:en (.node l r) o (l.size+r.size)=.pair (o+l.size-1) (o+l.size+r.size-1):=by rw[en,if_neg ∅,if_neg ∅]
  by_cases c1:x<l.size
  .rw[show kF (.node l r) o x p=kF l o x (.int (o+l.size+r.size:Nat)) by rw[kF,if_pos c1]];rcases iV l o x (.int (o+l.size+r.size:Nat)) c1 with⟨h1,h2⟩|⟨a,u,v,h1,h2,h3,h4,h5⟩
   .exact .inr ⟨l.size+r.size,_,_,by lia,by lia,by rw[h2,Bb],top,.inl ∅⟩
   .exact .inr ⟨a,u,v,h1,by lia,h3,by rw[en,if_pos h2];exact h4,h5⟩
  .by_cases c2:x<l.size+r.size
   .rw[show kF (.node l r) o x p=kF r (o+l.size) (x-l.size) (.int (o+l.size+r.size:Nat)) by rw[kF,if_neg c1,if_pos c2]];rcases iV r (o+l.size) (x-l.size) (.int (o+l.size+r.size:Nat)) ∅ with⟨h1,h2⟩|⟨a,u,v,h1,h2,h3,h4,h5⟩
    .exact .inr ⟨l.size+r.size,_,_,by lia,by lia,by rw[h2,Bb],top,.inr ∅⟩
    .refine .inr ⟨l.size+a,u,v,by lia,by lia,by rw[h3,Bb],?_,by lia⟩;rw[en,if_neg ∅,if_pos ∅,CN];exact h4
   .exact .inl ⟨by lia,by rw[kF,if_neg c1,if_neg c2]⟩
theorem KU:∀(t:Tr) (o j:Nat) (p:V) (a b:Nat),j<t.size->en t o j=.pair a b->o<=a/\o<=b/\a<o+j/\b<o+j/\a<b/\kF t o (a-o) p=.int ((o+j:Nat):Int)/\kF t o (b-o) p=.int ((o+j:Nat):Int)
 |.leaf _,o,j,p,a,b,h,e=>by rw[en]at e;cases e
 |.node l r,o,j,p,a,b,h,e=>by
  have es:(Tr.node l r).size=l.size+r.size+1:=rfl;have lp:=l.size_pos;have rp:=r.size_pos;by_cases c1:j<l.size
  .rw[en,if_pos c1]at e;obtain⟨h1,h2,h3,h4,h5,h6,h7⟩:=KU l o j (.int (o+l.size+r.size)) a b c1 e;refine⟨h1,h2,h3,h4,h5,?_,?_⟩
   .rw[kF,if_pos ∅];exact h6
   .rw[kF,if_pos ∅];exact h7
  .by_cases c2:j<l.size+r.size
   .rw[en,if_neg c1,if_pos c2]at e;obtain⟨h1,h2,h3,h4,h5,h6,h7⟩:=KU r (o+l.size) (j-l.size) (.int (o+l.size+r.size:Nat)) a b ∅ e;refine⟨by lia,by lia,by lia,by lia,h5,?_,?_⟩
    .rw[kF,if_neg ∅,if_pos ∅,Nat.sub_sub,h6,show o+l.size+(j-l.size)=o+j by lia]
    .rw[kF,if_neg ∅,if_pos ∅,Nat.sub_sub,h7,show o+l.size+(j-l.size)=o+j by lia]
   .rw[en,if_neg c1,if_neg c2]at e;injection e with e1 e2;subst e1;subst e2;have hj:j=l.size+r.size:=by lia
    subst hj;have ā:∀t o p,kF t o (t.size-1) p=p:=λt o p=>by
     have tp:=t.size_pos;rcases iV t o (t.size-1) p ∅ with⟨_,h⟩|⟨a,_,_,h1,h2,_⟩
     .exact h
     .omega
    refine⟨by lia,by lia,by lia,by lia,by lia,?_,?_⟩
    .rw[kF,if_pos ∅,show o+l.size-1-o=l.size-1 by lia,ā,Bb]
    .rw[kF,if_neg ∅,if_pos ∅,show o+l.size+r.size-1-o-l.size=r.size-1 by lia,ā,Bb]
structure DD(t:Tr)(ds:List Int):Prop where
 len:ds.length=t.size
 leaf:∀j w,j<t.size->en t 0 j=.word w->ds.getD j 0=0
 pair:∀j a b,j<t.size->en t 0 j=.pair a b->ds.getD a 0<ds.getD j 0/\ds.getD b 0<ds.getD j 0/\1<=ds.getD j 0
 nd:(Nl t ds).Nodup
def DD.of(h:VP t ds=true):DD t ds:=by
 unfold VP at h;rw[AR,AR,decide_eq_true_iff,decide_eq_true_iff]at h;obtain⟨h1,h2,h3⟩:=h;have h4:∀j,j<t.size->okJ t ds j=true:=λj hj=>Dg.mp h3 j (AN.mpr hj);refine⟨h1,λj w hj e=>?_,λj a b hj e=>?_,h2⟩
 .have:=h4 j hj;unfold okJ at this;rw[e]at this;exact eq_of_beq this
 .have:=h4 j hj;unfold okJ at this;rw[e]at this;rw[AR,AR,AR,decide_eq_true_iff,decide_eq_true_iff,decide_eq_true_iff,decide_eq_true_iff]at this;exact⟨this.1.1.1,this.1.1.2,this.1.2⟩
def DD.mem(D:DD t ds)(hj:j<t.size):ds.getD j 0∈aL t ds:=by
 cases e:en t 0 j with
 |word w=>rw[D.leaf j w hj e];exact .head _
 |pair a b=>
  exact A4 _ (xc.mpr (Ao.mpr ⟨j,Bl.mpr ⟨AN.mpr hj,by rw[e];rfl⟩,rfl⟩))
theorem PZ(l:O Int):(sortI l).Pairwise (·<=·):=(EW (λa b c=>by simp;lia) (λa b=>by simp;lia) l).imp (by simp)
theorem DD.inc(D:DD t ds):(aL t ds).Pairwise (· < ·):=by
 unfold aL;refine List.pairwise_cons.mpr ⟨λx hx=>?_,?_⟩
 .have hx:=xc.mp hx;unfold Nl splits at hx;obtain⟨j,hj,rfl⟩:=Ao.mp hx;obtain⟨h1,h2⟩:=Bl.mp hj;cases e:en t 0 j with
  |word w=>rw[e]at h2;cases h2
  |pair a b=>have:=(D.pair j a b (AN.mp h1) e).2.2;lia
 .exact(List.Pairwise.and (PZ _) ((Dk _ _).nodup_iff.mpr D.nd)).imp λ⟨h1,h2⟩=>Int.lt_iff_le_and_ne.mpr ⟨h1,h2⟩
theorem uz{l:O Int}(h:l.Pairwise (· < ·))(hn:n<l.length)(hx:x∈l)(lt:x<l.getD n 0):1<=n/\x<=l.getD (n-1) 0:=by
 obtain⟨i,hi,rfl⟩:=Ed hx;have gd:∀{k} (hk:k<l.length),l.getD k 0=l[k]:=λ{k} hk=>by rw[Ae,Ad hk];rfl
 rw[gd hn]at lt;have c:i<n:=by
  rcases Bz i n with c|c
  .exact c
  .rcases Ew c with c|c
   .subst c;lia
   .have:=B1.mp h _ _ hn hi c;lia
 refine⟨by lia,?_⟩;rw[gd ∅];rcases Ew (show i<=n-1 by lia) with c2|c2
 .subst c2;exact Bu _
 .have:=B1.mp h _ _ hi ∅ c2;lia
theorem zc{l:O Int}(h:l.Pairwise (· < ·))(hn:n<l.length)(hi:i<n):l.getD i 0<l.getD n 0:=by
 have gd:∀{k} hk,l.getD k 0=l[k]:=λ{k} hk=>by rw[Ae,Ad hk];rfl
 rw[gd hn,gd ∅];exact B1.mp h _ _ ∅ hn hi
theorem cq{t:Tr}{ds bs:O Int}:∀{m:Nat}{j n:Nat},(j,n)∈aN t ds bs m↔n<m/\j<t.size/\Jc t ds (bs.getD n 0) j=true
 |0,j,n=>by simp[aN]
 |m+1,j,n=>by
  rw[aN,AO,cq];unfold GZ;rw[Ao]
  constructor
  .rintro (⟨h1,h2,h3⟩|⟨k,hk,e⟩)
   .exact⟨by lia,h2,h3⟩
   .obtain⟨h1,h2⟩:=Bl.mp hk;injection e with e1 e2;subst e1;subst e2;exact⟨by lia,AN.mp h1,h2⟩
  .rintro⟨h1,h2,h3⟩;by_cases c:n=m
   .subst c;exact .inr ⟨j,Bl.mpr ⟨AN.mpr h2,h3⟩,rfl⟩
   .exact .inl ⟨by lia,h2,h3⟩
theorem gm(hj:j<t.size):Jc t ds b j=true↔ds.getD j 0<=b/\∀a,kF t 0 j .aO=.int ((a:Nat):Int)->b<ds.getD a 0:=by
 unfold Jc;rw[AR,decide_eq_true_iff];rcases iV t 0 j .aO hj with⟨_,e⟩|⟨a,u,v,_,ha,e,_,_⟩
 .rw[e];exact⟨λh=>⟨h.1,λa z=>by cases z⟩,λh=>⟨h.1,rfl⟩⟩
 .rw[A5]at e;rw[e];refine⟨λh=>⟨h.1,λa' z=>?_⟩,λh=>⟨h.1,?_⟩⟩
  .injection z with z;have:a=a':=by lia
   subst this;simpa using h.2
  .simpa using h.2 a rfl
theorem DD.ok(D:DD t ds):okD t ds (aL t ds):=by
 rintro⟨j,n⟩ hp x hx;obtain⟨hn,hj,hs⟩:=cq.mp hp;obtain⟨pN,vn⟩:=(gm hj).mp hs;have inc:=D.inc;show 1<=n/\(x,n-1)∈_;unfold IG at hx;by_cases c:ds.getD j 0<(aL t ds).getD n 0
 .rw[if_pos c]at hx;have:x=j:=by simpa using hx
  subst this;obtain⟨g1,g2⟩:=uz inc hn (D.mem hj) c;have lt:=zc inc hn (show n-1<n by lia);exact⟨g1,cq.mpr ⟨by lia,hj,(gm hj).mpr ⟨g2,λa e=>by have:=vn a e;lia⟩⟩⟩
 .rw[if_neg c]at hx;cases e:en t 0 j with
  |word w=>rw[e]at hx;cases hx
  |pair a b=>
   rw[e]at hx;obtain⟨p1,p2,p3⟩:=D.pair j a b hj e;obtain⟨_,_,a1,a2,_,a3,a4⟩:=KU t 0 j .aO a b hj e;rw[A5,Eh]at *;have hx:x=a\/x=b:=by simpa using hx
   have key:x<t.size/\ds.getD x 0<ds.getD j 0/\kF t 0 x .aO=.int j:=by
    rcases hx with rfl|rfl
    .exact⟨by lia,p1,a3⟩
    .exact⟨by lia,p2,a4⟩
   obtain⟨k1,k2,k3⟩:=key;obtain⟨g1,g2⟩:=uz inc hn (D.mem k1) ∅;have lt:=zc inc hn (show n-1<n by lia);refine⟨g1,cq.mpr ⟨by lia,k1,(gm k1).mpr ⟨g2,λa' e'=>?_⟩⟩⟩;rw[k3]at e';injection e' with e';have:j=a':=by lia
   subst this;lia
theorem MR:∀(t:Tr) (o:Nat),∃w,en t o 0=.word w
 |.leaf w,o=>⟨w,rfl⟩
 |.node l r,o=>by rw[en,if_pos (show 0<l.size from l.size_pos)];exact MR l o
theorem DD.ne(D:DD t ds):aN t ds (aL t ds) (aL t ds).length≠[]:=by
 intro z;have:(0,0)∈aN t ds (aL t ds) (aL t ds).length:=by
  obtain⟨w,e⟩:=MR t 0;refine cq.mpr ⟨by simp[aL],t.size_pos,(gm t.size_pos).mpr ⟨?_,λa ea=>?_⟩⟩
  .rw[D.leaf 0 w t.size_pos e];exact Bu _
  .rcases iV t 0 0 .aO t.size_pos with⟨_,e⟩|⟨a',u,v,_,ha,e,ep,_⟩
   .rw[e]at ea;cases ea
   .rw[e,A5]at ea;injection ea with ea;have:a'=a:=by lia
    subst this;have:=(D.pair a' u v ha ep).2.2;show 0<_;lia
 rw[z]at this;cases this
def SU(D:DD t ds)(hz:t.size<=25):(lU t.pv (.tup (br ds))).le (.ret (.tup (dgL t ds (aL t ds)))):=SV t ds D.len hz D.ne D.ok
def YH(t:Tr):O PV:=(Aw t.size).map λj=>.tup (aB (up t 0 j []))
@[simp] theorem T5(t:Tr):(YH t).length=t.size:=by unfold YH;simp
def LJ(t:Tr)(h:j<t.size):(YH t)[j]?=am (.tup (aB (up t 0 j []))):=by unfold YH;simp[h]
theorem YG(t:Tr):∀(k j:Nat),j+k+1=t.size->(up t 0 j []).length<=k+1:=λk=>by
 induction k using Cv with
 |ind k ih=>
  intro j hj;rcases tq t 0 j .aO [] ∅ with⟨q1,q2,q3⟩|⟨a,q1,q2,q3,q4⟩
  .rw[q3];show 1<=k+1;lia
  .rw[q4,Au];have:=ih (t.size-a-1) ∅ a ∅;lia
theorem acw(t:Tr)(h:j<t.size):(up t 0 j []).length<=t.size:=by
 have:=YG t (t.size-j-1) j ∅;lia
def LI(t:Tr)(i:Nat):O PV:=(Aw t.size).map λj=>if j+i<t.size then .tup [] else .tup (aB (up t 0 j []))
def rV(t:Tr)(i:Nat):(LI t i).length=t.size:=by unfold LI;simp
def LH(t:Tr)(i:Nat)(h:j<t.size)(c:¬j+i<t.size):(LI t i)[j]?=am (.tup (aB (up t 0 j []))):=by unfold LI;simp[h,c]
theorem T3(t:Tr)(i j:Nat)(h:j+i+1=t.size):(LI t i).set j (.tup (aB (up t 0 j [])))=LI t (i+1):=by
 apply BF;intro k;by_cases hk:k<t.size
 .by_cases e:j=k
  .subst e;rw[CW (by rw[rV];exact hk),LH t (i+1) hk ∅]
  .rw[Ce e];unfold LI;simp only[Ah,AJ hk,CZ];by_cases c:k+i<t.size
   .rw[if_pos c,if_pos ∅]
   .rw[if_neg c,if_neg ∅]
 .rw[Ar (by rw[BL,rV];lia),Ar (by rw[rV];lia)]
def acx(t:Tr):LI t 0=Ap t.size (.tup []):=by
 apply BF;intro k;unfold LI;by_cases hk:k<t.size
 .simp[hk]
 .simp[hk]
theorem T4(t:Tr):LI t t.size=YH t:=by
 apply Bc;intro j _;rw[if_neg ∅]
theorem Rl(t:Tr)(hz:t.size<=900):(jN t.pv).le (.ret (YH t)):=λQ q=>by
 unfold jN;simp;refine W.le.use (IK t hz) ?_;simp only[aK,nn];refine Ri (λ_=>.tup []) (λx hx=>rfl) ?_;have e0:(ahL t).map (λ_=>PV.tup [])=LI t 0:=by rw[List.map_const',M1,acx]
 have en:((t.size:Int)-1 - -1).toNat=t.size:=by lia
 rw[e0];simp only[sQ,M1,lc,qz,nn,zv,Wc,en];refine⟨⟨trivial,cg ∅ ∅⟩,?_⟩;refine d4 (λi s=>s=LI t i) rfl (λi x s hx hs=>?_) (λs hs=>?_)
 .subst hs;obtain⟨hi,rfl⟩:=xH hx;obtain⟨j,hj⟩:∃j:Nat,j=t.size-1-i:=⟨_,rfl⟩;have ej:(((t.size:Nat):Int)-1-i)=j:=by lia
  rw[ej];have ô:j<t.size:=by lia
  have fin:∀l:O PV,l.length<=900->.int (j:Int)::l=aB (up t 0 j [])->(bn (addW (.tup [.int (j:Int)]) (.tup l)) λx=>oj (LI t i) (.int (j:Int)) x).run λs=>s=LI t (i+1):=λl hl he=>by
   rw[MP,re (bM (by simp;lia))];show(oj _ _ (.tup (.int (j:Int)::l))).run _;rw[he,og (by rw[rV];exact ô),T3 t i j ∅];rfl
  simp only[lc,f8,k7 (M3 t ô),nn];rcases tq t 0 j .aO [] ô with⟨_,e,e2⟩|⟨a,ha1,ha,e,e2⟩
  .rw[e];simp only[vp,KO,PV.mU,cb,nn,if_true];have:=fin [] (by simp) (by rw[e2,A5];rfl);simpa using this
  .rw[A5]at e;rw[e];simp only[vp,KO,PV.mU,cb,nn,Ay,if_false,(k7 (LH t i ha ∅)),lc];have ua:=acw t ha;have:=fin (aB (up t 0 a [])) (by rw[dP];lia) (by rw[e2];simp);simpa using this
 .subst hs;have el:(qX (((t.size:Nat):Int)-1) t.size).length=t.size:=by unfold qX;simp
  rw[el,T4];exact q
def apt(t:Tr)(j:Nat):O Nat:=(Aw t.size).filter λk=>!decide (k∈up t 0 j [])&&!decide (j∈up t 0 k [])
theorem Td(t:Tr)(hz:t.size<=900)(hj:j<t.size):(gp (.cl (YH t)) (.int (j:Int))).le (.ret (.tup (aB (apt t j)))):=λQ q=>by
 unfold gp;simp only[f8,d5,T5,fc,re (cg (i:=0) (j:=t.size) ∅ ∅),nn,jn];refine Rm (λk=>!decide (k∈up t 0 j [])&&!decide (j∈up t 0 k [])) (λk hk=>?_) q;simp only[lc,bj,k7 (LJ t hj),k7 (LJ t (AN.mp hk)),aK,aas,if_true];by_cases c1:k∈up t 0 j []
 .simp[c1]
 .by_cases c2:j∈up t 0 k []
  .simp[c1,c2]
  .simp[c1,c2]
def O9:Ent->O Nat
 |.word _=>[]
 |.pair a b=>[a,b]
def qu(e:Ent):dc e.pv=.ret (.tup (aB (O9 e))):=by
 unfold dc;cases e with
 |word w=>simp[Ent.pv,O9]
 |pair a b=>simp[Ent.pv,O9]
def Vj(h:es[j]?=am e):fo (.tup (es.map Ent.pv)) (.int (j:Int))=.ret (JO e j):=by
 have i1:Tz (es.map Ent.pv) (.int j)=.ret e.pv:=k7 (by rw[Ah,h];rfl);unfold fo;cases e with
 |word w=>simp only[lc,aK,i1];rfl
 |pair a b=>simp only[lc,aK,i1];rfl
def grS(t:Tr)(j:Nat):PV:=.tup [JO (en t 0 j) j,.int 0,.tup (aB (O9 (en t 0 j))),.tup (aB (apt t j))]
def grL(t:Tr):O PV:=(Aw t.size).map (grS t)
theorem Oh(t:Tr)(hz:t.size<=900):(kZ t.pv).le (.ret (.tup (grL t))):=λQ q=>by
 unfold kZ;simp;refine W.le.use (oC t hz) ?_;refine W.le.use (Rl t hz) ?_;simp only[sQ,dq,nn,fc,re (cg (i:=0) (j:=t.size) ∅ ∅),jn];unfold aB;refine ik (grS t) (λj hj R r=>?_) q;have hj:=AN.mp hj;have i1:Tz ((t.nd 0).map Ent.pv) (.int j)=.ret (en t 0 j).pv:=k7 (by rw[Ah,je t 0 j hj];rfl);simp only[Vj (je t 0 j hj),aK,i1,qu,f8,nn];exact W.le.use (Td t hz hj) r
structure Sy where
 nm:PV
 lv:Nat
 un:List Nat
 be:List Nat
def Sy.pv(s:Sy):PV:=.tup [s.nm,.int (s.lv:Int),.tup (aB s.un),.tup (aB s.be)]
def iG(g:O Sy):PV:=.tup (g.map Sy.pv)
def sy(g:O Sy)(i:Nat):Sy:=g.getD i ⟨.aO,0,[],[]⟩
def YW{g:O Sy}(h:i<g.length):g[i]?=am (sy g i):=by
 unfold sy;rw[Ae,Ad h];rfl
def HV{g:O Sy}(h:i<g.length):Tz (g.map Sy.pv) (.int (i:Int))=.ret (sy g i).pv:=k7 (by rw[Ah,YW h];rfl)
def RL(w:Str):PV->Bool
 |.str s=>s==w
 |_=>false
def hm(g:O Sy)(i:Nat)(w:Str):Bool:=(sy g i).un.isEmpty&&RL w (sy g i).nm
inductive Tj(g:List Sy):Nat->Nat->Prop
 |refl (i:Nat):Tj g i i
 |step {i u j:Nat}:u∈(sy g i).un->Tj g u j->Tj g i j
structure WG(g:List Sy)(ws:List Str):Prop where
 pos:0<g.length
 len:g.length<=300
 dn:∀i,i<g.length->∀u∈(sy g i).un,u<i
 vm:∀i,i<g.length->(sy g i).un.length<=2
 be:∀i,i<g.length->∀u∈(sy g i).be,u<g.length
 abr:∀i,i<g.length->(sy g i).be.length<=30
 nm:∀i,i<g.length->(∃s,(sy g i).nm=.str s)\/∃n,(sy g i).nm=.int n
 al6:∀w∈ws,∃i,i<g.length/\Tj g (g.length-1) i/\hm g i w=true
 rch:∀i,i<g.length->Tj g (g.length-1) i
variable{g:O Sy}{ws:O Str}
def nZ(h:i<g.length):d9 (iG g) (.int (i:Int))=.ret (.tup (aB (sy g i).un)):=by
 unfold d9 iG;simp only[lc,aK,HV h];rfl
def OV(h:i<g.length):ir (iG g) (.int (i:Int))=.ret (.tup (aB (sy g i).be)):=by
 unfold ir iG;simp only[lc,aK,HV h];rfl
theorem eq_nil(l:O Nat)(h:l.length<=1000):of2 dN (.tup (aB l)) (.tup [])=.ret (.bl l.isEmpty):=by
 have fk:fb (aB l)=true:=js.mpr λx hx=>by
  obtain⟨n,_,rfl⟩:=Ao.mp hx;simp
 have fd:dR (aB l)<=1:=lq λx hx=>by
  obtain⟨n,_,rfl⟩:=Ao.mp hx;simp
 rw[uO,re ⟨by simp[fk],by simp,by simp;lia⟩];cases l with
 |nil=>simp
 |cons a l=>simp[fZ]
def Ye{x:PV}(h:(∃s,x=.str s)\/∃n,x=.int n)(w:Str):of2 dN x (.str w)=.ret (.bl (RL w x)):=by
 rcases h with⟨s,rfl⟩|⟨n,rfl⟩
 .rw[uO,re ⟨by simp,by simp,by simp⟩,Il];rfl
 .rw[uO,re ⟨by simp,by simp,by simp⟩];simp[kG,RL]
theorem VX(G:WG g ws)(h:i<g.length)(w:Str):lT (iG g) (.int (i:Int)) (.str w)=.ret (.bl (hm g i w)):=by
 unfold lT;have l2:=G.vm i h;have i0:cR [(sy g i).nm,PV.int ((sy g i).lv),.tup (aB (sy g i).un),.tup (aB (sy g i).be)] 0=am (sy g i).nm:=rfl;simp only[lc,nZ h,eq_nil _ (show(sy g i).un.length<=1000 by lia)];unfold iG hm;cases e:(sy g i).un.isEmpty with
 |false=>simp
 |true=>simp only[MN,aK,lc,HV h,Sy.pv,bT,i0,Da,Ye (G.nm i h) w,ES]
abbrev Dd:=Str×Nat×Nat
def d3(d:Dd):PV:=.tup [.str d.1,.int (d.2.1:Int),.int (d.2.2:Int)]
def d2(d:Dd):PV:=.tup [.str d.1,.tup [.int (d.2.1:Int),.int (d.2.2:Int)]]
abbrev dbl(i:Nat):Dd:=("doubled",i,i)
abbrev QX(i o:Nat):O Dd:=[("over",i,o),("over",o,i)]
def ye:O Nat->O Dd
 |[a,b]=>[("split",a,b),("split",b,a)]
 |_=>[]
def dds(g:O Sy)(i:Nat):O Dd:=dbl i::(ye (sy g i).un++(sy g i).be.flatMap (QX i))
theorem Ij(i:Nat):∀l:O Nat,(l.flatMap (QX i)).length=2*l.length
 |[]=>rfl
 |a::l=>by rw[Bo,Ak,Ij i l];simp;lia
def Ui(l:O Nat):(ye l).length<=2:=by unfold ye;split<;>simp
theorem abg(G:WG g ws)(h:i<g.length){d:Dd}(hd:d∈dds g i):d.2.1<g.length/\d.2.2<g.length:=by
 rcases AB.mp hd with rfl|hd
 .exact⟨h,h⟩
 rcases AO.mp hd with hd|hd
 .have hu:=G.dn i h;revert hu hd;generalize (sy g i).un=l;intro hd hu
  match l with
  |[a,b]=>
   have h1:=hu a (by simp);have h2:=hu b (by simp);simp[ye]at hd;rcases hd with rfl|rfl
   .exact⟨by show a<_;lia,by show b<_;lia⟩
   .exact⟨by show b<_;lia,by show a<_;lia⟩
  |[]=>simp[ye]at hd
  |[_]=>simp[ye]at hd
  |_::_::_::_=>simp[ye]at hd
 .obtain⟨o,ho,hd⟩:=AZ.mp hd;have:=G.be i h o ho;simp at hd;rcases hd with rfl|rfl
  .exact⟨h,this⟩
  .exact⟨this,h⟩
def fa(F:O (O Bool))(j i:Nat):Bool:=(F.getD j []).getD i false
def lD(g:O Sy)(F:O (O Bool))(e:Ent)(i:Nat):O Dd:=match e with
 |.word w=>if hm g i w=true then [("found",i,i)] else []
 |.pair a b=>(dds g i).filter λd=>fa F a d.2.1&&fa F b d.2.2
def M8(n:Nat):Ent->Prop
 |.word _=>True
 |.pair a b=>a<n/\b<n
def ma{l m:List α}{d:α}(h:i<l.length):(l++m).getD i d=l.getD i d:=by
 rw[Ae,A6 h,<- Ae]
def qv{l m:List α}{d:α}(h:l.length<=i):(l++m).getD i d=m.getD (i-l.length) d:=by
 rw[Ae,Bg h,<- Ae]
def esD(es:O Ent)(j:Nat):Ent:=es.getD j (.word "")
def ht:Tr->Nat->Nat
 |.leaf _,_=>0
 |.node l r,j=>if j<l.size then ht l j else if j<l.size+r.size then ht r (j-l.size) else (Tr.node l r).depth
def uS(t:Tr)(h:j<t.size):M8 j (en t 0 j):=by
 cases e:en t 0 j with
 |word w=>trivial
 |pair a b=>exact bF t h e
def SY(l:O PV)(h:a<=l.length):eJ l (am (a:Int)) ce=l.drop a:=by
 unfold eJ;rw[HT.G1,HT.Uu,Fs h,BM (by simp)]
def dl(g:O Sy)(i:Nat):O Dd:=dbl i::(ye (sy g i).un++((sy g i).be.map (λo=>(("over",i,o):Dd))++(sy g i).be.map (λo=>(("over",o,i):Dd))))
theorem zH(G:WG g ws)(h:i<g.length):(dl g i).length<=63:=by
 unfold dl;simp;have:=Ui (sy g i).un;have:=G.abr i h;lia
theorem Wt(d:Dd):qp (d2 d)=true:=rfl
variable{f:PV->W PV}
def N9(p:Nat×Nat):PV:=.tup [.int (p.1:Int),.int (p.2:Int)]
def PU(G:WG g ws)(h:i<g.length):iq (iG g) (.int (i:Int))=.ret ((ye (sy g i).un).map λd=>N9 (d.2.1,d.2.2)):=by
 unfold iq;simp only[lc,nZ h];have hu:=G.vm i h;revert hu;generalize (sy g i).un=l;intro hu
 match l,hu with
 |[],_=>simp;rfl
 |[a],_=>simp;rfl
 |[a,b],_=>
  simp;rfl
theorem U6(G:WG g ws)(h:i<g.length):jL (iG g) (.int (i:Int))=.ret ((sy g i).be.map (λo=>N9 (i,o))++(sy g i).be.map (λo=>N9 (o,i))):=by
 unfold jL;have l3:=G.abr i h;simp only[lc,OV h,aK];rw[jI (g:=λo=>N9 (i,o)) λk hk=>rfl,jI (g:=λo=>N9 (o,i)) λk hk=>rfl];simp;rw[f7 (by simp;lia)]
theorem t6{c:α->PV}{k:α->PV}:∀{l:List α},(∀x∈l,f (c x)=.ret (k x))->bx (l.map c) f=.ret (l.map k)
 |[],_=>rfl
 |x::r,h=>by
  show bn (f (c x)) (λy=>bn (bx (r.map c) f) λm=>ca (y::m))=_;rw[h x (.head _),t6 λy hy=>h y (.tail _ hy)];rfl
theorem OD(G:WG g ws){b:Nat}(h:i<g.length)(q:∀m:O PV,m.Perm ((dl g i).map d2)->Q m):(fq (iG g) (Ent.pair a b).pv (.int (i:Int))).run Q:=by
 have l63:=zH G h;unfold fq;simp only[Ent.pv,f8,gB,gA,cL,nn,Ay,if_false,PU G h,U6 G h];refine ik (λd:Dd=>.tup [.str "split",N9 (d.2.1,d.2.2)]) (λd _ R r=>r) ?_;have em:(sy g i).be.map (λo=>N9 (i,o))++(sy g i).be.map (λo=>N9 (o,i))=((sy g i).be.map (λo=>((i,o):Nat×Nat))++(sy g i).be.map (λo=>(o,i))).map N9:=by
  rw[Az,AQ,AQ];rfl
 rw[em];refine ik (λp:Nat×Nat=>.tup [.str "over",N9 p]) (λp _ R r=>r) ?_;simp only[nn,iu];have es:(ye (sy g i).un).map (λd=>PV.tup [.str "split",N9 (d.2.1,d.2.2)])=(ye (sy g i).un).map d2:=by
  refine Bc λd hd=>?_;have:d.1=("split"):=by
   revert hd;generalize (sy g i).un=l;intro hd;unfold ye at hd
   split at hd
   .simp at hd;rcases hd with rfl|rfl<;>rfl
   .cases hd
  unfold d2 N9;rw[this]
 have eo:((sy g i).be.map (λo=>((i,o):Nat×Nat))++(sy g i).be.map (λo=>(o,i))).map (λp=>PV.tup [.str "over",N9 p])=((sy g i).be.map (λo=>(("over",i,o):Dd))++(sy g i).be.map (λo=>(("over",o,i):Dd))).map d2:=by
  simp;rfl
 rw[es,eo];have ll:(dl g i).length=1+(ye (sy g i).un).length+((sy g i).be.map (λo=>(("over",i,o):Dd))++(sy g i).be.map (λo=>(("over",o,i):Dd))).length:=by
  unfold dl;simp;lia
 rw[f7 (by simp;lia)];simp only[nn];rw[f7 (by simp at *;lia)];have e:([PV.tup [.str "doubled",.tup [.int i,.int (i:Int)]]]++(ye (sy g i).un).map d2)++((sy g i).be.map (λo=>(("over",i,o):Dd))++(sy g i).be.map (λo=>(("over",o,i):Dd))).map d2=(dl g i).map d2:=by
  unfold dl;simp;rfl
 simp only[nn];rw[e];refine⟨⟨by rw[Af];lia,Dg.mpr λx hx=>?_⟩,λm hm=>q m hm⟩;obtain⟨d,_,rfl⟩:=Ao.mp hx;exact Wt d
theorem Dt.isD(D:Dt t ds [] d)(h:d<=99):VP t ds=true:=by
 unfold VP;rw[AR,AR,decide_eq_true_iff,decide_eq_true_iff];refine⟨D.len,?_,Dg.mpr λj hj=>?_⟩
 .unfold Nl;have hp:(splits t).Pairwise (· < ·):=by unfold splits;exact List.Pairwise.filter _ E8
  rw[List.nodup_iff_pairwise_ne,List.pairwise_map];refine List.Pairwise.imp_of_mem (λ{x y} hx hy lt e=>?_) hp;obtain⟨x1,x2⟩:=Bl.mp hx;obtain⟨y1,y2⟩:=Bl.mp hy;have:=D.inj x y (AN.mp x1) (AN.mp y1) (by simp) (by simp) x2 y2 e;lia
 .have hj':=AN.mp hj;unfold okJ;cases e:en t 0 j with
  |word w=>
   rw[D.zero j hj' (.inl (by rw[e];rfl))];rfl
  |pair a b=>
   obtain⟨_,_,h1,h2,h3,h4⟩:=D.up j hj' (by simp) a b e;show(decide (ds.getD a 0<ds.getD j 0)&&decide (ds.getD b 0<ds.getD j 0)&&decide (1<=ds.getD j 0)&&decide (ds.getD j 0<=99))=true;rw[decide_eq_true h1,decide_eq_true h2,decide_eq_true h3,decide_eq_true ∅];rfl
theorem uY:∀(t:Tr) (o:Nat),(t.nd o).countP kC+1=t.ay.length
 |.leaf _,_=>rfl
 |.node l r,o=>by
  have h1:=uY l o;have h2:=uY r (o+l.size);rw[Tr.nd,List.countP_append,List.countP_append];show _+(List.countP kC [Ent.pair _ _])+1=(l.ay++r.ay).length;simp[kC];lia
theorem ZS(t:Tr):t.nd 0=(Aw t.size).map (en t 0):=by
 refine BF λj=>?_;by_cases h:j<t.size
 .rw[je t 0 j h,Ah,AJ h];rfl
 .rw[Ar (by rw[t.bL];lia),Ar (by simp;lia)]
variable{u:Nat}
def Jy(t:Tr):(splits t).length+1=t.ay.length:=by
 rw[<- uY t 0,ZS t,List.countP_map];unfold splits;rw[<- List.countP_eq_length_filter];rfl
def Tj.snoc(r:Tj g i j)(hu:u∈(sy g j).un):Tj g i u:=by
 induction r with
 |refl i=>exact .step hu (.refl _)
 |step h _ ih=>exact .step h (ih hu)
def gS(t:Tr):O Sy:=(Aw t.size).map λj=>⟨JO (en t 0 j) j,0,O9 (en t 0 j),apt t j⟩
def qR(t:Tr)(h:j<t.size):sy (gS t) j=⟨JO (en t 0 j) j,0,O9 (en t 0 j),apt t j⟩:=by
 unfold sy gS;rw[Ae,Ah,AJ h];rfl
@[simp] theorem iJ(t:Tr):(gS t).length=t.size:=by unfold gS;simp
def aeA(t:Tr):iG (gS t)=.tup (grL t):=by
 unfold iG gS grL;rw[AQ];congr 1
def Xw(e:Ent)(j:Nat):(∃s,JO e j=.str s)\/∃n,JO e j=.int n:=by
 cases e with
 |word w=>exact .inl ⟨w,rfl⟩
 |pair a b=>exact .inr ⟨_,rfl⟩
def aaA(e:Ent):(O9 e).length<=2:=by cases e<;>simp[O9]
theorem sI:∀(s:Tr) (t:Tr) (o:Nat) (w:Str),(∀k,k<s.size->en t 0 (o+k)=en s o k)->o+s.size<=t.size->w∈s.ay->∃i,i<t.size/\Tj (gS t) (o+s.size-1) i/\en t 0 i=.word w
 |.leaf x,t,o,w,hs,hz,hw=>by
  have hz:o+1<=t.size:=hz;have:w=x:=by simpa[Tr.ay]using hw
  subst this;exact⟨o,by lia,.refl _,(hs 0 (by show 0<1;decide))⟩
 |.node l r,t,o,w,hs,hz,hw=>by
  have es:(Tr.node l r).size=l.size+r.size+1:=rfl;have er:en t 0 (o+(l.size+r.size))=.pair (o+l.size-1) (o+l.size+r.size-1):=by rw[hs _ ∅,en,if_neg ∅,if_neg ∅]
  have ei:o+(Tr.node l r).size-1=o+(l.size+r.size):=by lia
  have un:(sy (gS t) (o+(l.size+r.size))).un=[o+l.size-1,o+l.size+r.size-1]:=by rw[qR t ∅,er];rfl
  rw[ei];rcases AO.mp (hw) with hw|hw
  .obtain⟨i,h1,h2,h3⟩:=sI l t o w (λk hk=>by rw[hs k ∅,en,if_pos hk]) ∅ hw;exact⟨i,h1,.step (by rw[un];simp) h2,h3⟩
  .obtain⟨i,h1,h2,h3⟩:=sI r t (o+l.size) w (λk hk=>by rw[Bb,hs _ ∅,en,if_neg ∅,if_pos ∅,CN]) ∅ hw;exact⟨i,h1,.step (by rw[un];simp) h2,h3⟩
theorem wI(hz:t.size<=30):WG (gS t) t.ay:=by
 have tp:=t.size_pos;have Ô:∀k i,i+k+1=t.size->Tj (gS t) (t.size-1) i:=λk=>by
  induction k using Cv with
  |ind k ih=>
   intro i hk;rcases iV t 0 i .aO ∅ with⟨e,_⟩|⟨a,u,v,ia,ha,_,ep,TC⟩
   .rw[<- e];exact .refl _
   .refine(ih (t.size-a-1) ∅ a ∅).snoc ?_;rw[qR t ha,ep];rcases TC with rfl|rfl<;>simp[O9]
 refine⟨by rw[iJ];lia,by rw[iJ];lia,λi hi u hu=>?_,λi hi=>?_,λi hi u hu=>?_,λi hi=>?_,λi hi=>?_,λw hw=>?_,λi hi=>by rw[iJ]at hi ⊢;exact Ô (t.size-i-1) i ∅⟩
 .rw[iJ]at hi;rw[qR t hi]at hu;cases e:en t 0 i with
  |word w=>rw[e]at hu;cases hu
  |pair a b=>
   rw[e]at hu;have:=bF t hi e;have hu:u=a\/u=b:=by simpa[O9]using hu
   lia
 .rw[iJ]at hi;rw[qR t hi];exact aaA _
 .rw[iJ]at hi ⊢;rw[qR t hi]at hu;exact AN.mp (Bl.mp hu).1
 .rw[iJ]at hi;rw[qR t hi];have:=B5 (λk=>!decide (k∈up t 0 i [])&&!decide (i∈up t 0 k [])) (Aw t.size);rw[Bm]at this;show(apt t i).length<=30;unfold apt;lia
 .rw[iJ]at hi;rw[qR t hi];exact Xw _ _
 .obtain⟨i,h1,h2,h3⟩:=sI t t 0 w (λk hk=>by rw[A5]) ∅ hw;rw[A5]at h2;refine⟨i,by rw[iJ];exact h1,by rw[iJ];exact h2,?_⟩;unfold hm;rw[qR t h1,h3];simp[O9,JO,RL]
def dS(t:Tr)(ds bs:O Int):O Sy:=(aN t ds bs bs.length).map λp=>⟨JO (en t 0 p.1) p.1,p.2,(IG (en t 0 p.1) p.1 (ds.getD p.1 0) (bs.getD p.2 0)).map λx=>(aN t ds bs bs.length).idxOf (x,p.2-1),Yo (aN t ds bs bs.length) p.1 p.2⟩
def ae3(t:Tr)(ds bs:O Int):iG (dS t ds bs)=.tup (dgL t ds bs):=by
 unfold iG dS dgL;rw[AQ];congr 1
@[simp] theorem SW(t:Tr)(ds bs:O Int):(dS t ds bs).length=(aN t ds bs bs.length).length:=by unfold dS;rw[Af]
theorem qH(t:Tr)(ds bs:O Int):∀m,(aN t ds bs m).Pairwise λp q=>p.2<=q.2
 |0=>.nil
 |m+1=>by
  have Nk:∀p∈GZ t ds (bs.getD m 0) m t.size,p.2=m:=λp hp=>by
   obtain⟨k,_,rfl⟩:=Ao.mp hp;rfl
  refine D2.mpr ⟨qH t ds bs m,?_,λa ha b hb=>?_⟩
  .exact B1.mpr λi j hi hj _=>by rw[Nk _ (Cp hi),Nk _ (Cp hj)];exact Al _
  .have h1:=(fi ha).1;rw[Nk b hb];lia
theorem xj(t:Tr)(ds bs:O Int)(n:Nat):∀m,((aN t ds bs m).filter λp=>decide (p.2=n)).length<=t.size
 |0=>A9 _
 |m+1=>by
  rw[aN,Cs,Ak];have ih:=xj t ds bs n m;by_cases c:n=m
  .subst c;have z:(aN t ds bs n).filter (λp=>decide (p.2=n))=[]:=by
    rw[Fb];intro p hp;have:=(fi hp).1;simp;lia
   rw[z];have h1:=B5 (λp:Nat×Nat=>decide (p.2=n)) (GZ t ds (bs.getD n 0) n t.size);have h2:=yd t ds (bs.getD n 0) n t.size;simp only[D9];lia
  .have z:(GZ t ds (bs.getD m 0) m t.size).filter (λp=>decide (p.2=n))=[]:=by
    rw[Fb];intro p hp;obtain⟨k,_,rfl⟩:=Ao.mp hp;simp;lia
   rw[z];simpa using ih
section
theorem DD.above(D:DD t ds)(h:(j,n)∈aN t ds (aL t ds) (aL t ds).length)(hn:n+1<(aL t ds).length):∃a,(a,n+1)∈aN t ds (aL t ds) (aL t ds).length/\j∈IG (en t 0 a) a (ds.getD a 0) ((aL t ds).getD (n+1) 0):=by
 obtain⟨hnl,hj,hs⟩:=cq.mp h;obtain⟨s1,s2⟩:=(gm hj).mp hs;have inc:=D.inc;have lt:=zc inc hn (show n<n+1 by lia);have Ú:(∀a,kF t 0 j .aO=.int ((a:Nat))->(aL t ds).getD (n+1) 0<ds.getD a 0)->∃a,(a,n+1)∈aN t ds (aL t ds) (aL t ds).length/\j∈IG (en t 0 a) a (ds.getD a 0) ((aL t ds).getD (n+1) 0):=λhx=>
  ⟨j,cq.mpr ⟨hn,hj,(gm hj).mpr ⟨by lia,hx⟩⟩,by unfold IG;rw[if_pos ∅];exact .head _⟩
 rcases iV t 0 j .aO hj with⟨_,e⟩|⟨a,u,v,ja,ha,e,ep,TC⟩
 .exact Ú λa z=>by rw[e]at z;cases z
 .rw[A5]at e TC;by_cases c:(aL t ds).getD (n+1) 0<ds.getD a 0
  .refine Ú λa' z=>?_;rw[e]at z;injection z with z;have:a=a':=by lia
   subst this;exact c
  .have sa:=s2 a e;have eq:ds.getD a 0=(aL t ds).getD (n+1) 0:=by
    rcases Int.lt_or_eq_of_le (show ds.getD a 0<=(aL t ds).getD (n+1) 0 by lia) with c2|c2
    .have:=(uz inc hn (D.mem ha) c2).2;rw[Nat.add_sub_cancel]at this;lia
    .exact c2
   refine⟨a,cq.mpr ⟨hn,ha,(gm ha).mpr ⟨by lia,λa2 e2=>?_⟩⟩,?_⟩
   .rcases iV t 0 a .aO ha with⟨_,e3⟩|⟨a3,u3,v3,_,h3,e3,ep3,aea⟩
    .rw[e3]at e2;cases e2
    .rw[e3]at e2;injection e2 with e2;rw[A5]at e2 aea;have:a3=a2:=by lia
     subst this;have:=D.pair a3 u3 v3 h3 ep3;rcases aea with rfl|rfl<;>lia
   .unfold IG;rw[if_neg ∅,ep];rcases TC with rfl|rfl<;>simp
theorem DD.last(D:DD t ds)(h:(j,n)∈aN t ds (aL t ds) (aL t ds).length)(hn:n+1=(aL t ds).length):j=t.size-1:=by
 obtain⟨hnl,hj,hs⟩:=cq.mp h;obtain⟨s1,s2⟩:=(gm hj).mp hs;rcases iV t 0 j .aO hj with⟨e,_⟩|⟨a,u,v,ja,ha,e,ep,TC⟩
 .exact e
 .rw[A5]at e;have sa:=s2 a e;obtain⟨i,hi,ei⟩:=Ed (D.mem ha);have gd:(aL t ds).getD i 0=ds.getD a 0:=by rw[Ae,Ad hi];exact ei
  rcases Bz i n with c|c
  .have:=zc D.inc hnl c;lia
  .have:i=n:=by lia
   subst this;lia
def Kn[BEq α][LawfulBEq α]{l:List α}(nd:l.Nodup){x:α}(h:l[i]?=am x):l.idxOf x=i:=by
 obtain⟨hi,e⟩:=Aj.mp h;rw[<- e];exact nd.idxOf_getElem i hi
def zW[BEq α][LawfulBEq α]{l:List α}{x:α}(h:x∈l):l[l.idxOf x]?=am x:=by
 have:=Cj h;rw[Ad this,List.getElem_idxOf this]
theorem Pm(D:DD t ds)(hz:t.size<=15)(hb:(aL t ds).length<=16):WG (dS t ds (aL t ds)) t.ay:=by
 have nd:=gk t ds (aL t ds) (aL t ds).length;have ĺ:=qH t ds (aL t ds) (aL t ds).length;have lay:=λn=>xj t ds (aL t ds) n (aL t ds).length;have ok:=D.ok;have ne:=D.ne;have ll:=gI t ds (aL t ds) (aL t ds).length;have above:=λj n=>D.above (j:=j) (n:=n);have last:=λj n=>D.last (j:=j) (n:=n);have Ł:=@cq t ds (aL t ds) (aL t ds).length;unfold okD at ok;have hS:∀i p,(aN t ds (aL t ds) (aL t ds).length)[i]?=am p->sy (dS t ds (aL t ds)) i=⟨JO (en t 0 p.1) p.1,p.2,(IG (en t 0 p.1) p.1 (ds.getD p.1 0) ((aL t ds).getD p.2 0)).map λx=>(aN t ds (aL t ds) (aL t ds).length).idxOf (x,p.2-1),Yo (aN t ds (aL t ds) (aL t ds).length) p.1 p.2⟩:=λi p hp=>by
  unfold sy dS;rw[Ae,Ah,hp];rfl
 have hL:(dS t ds (aL t ds)).length=(aN t ds (aL t ds) (aL t ds).length).length:=SW t ds _;have Ŋ:=DJ hb hz;generalize aN t ds (aL t ds) (aL t ds).length=L at *;have get:∀i,i<(dS t ds (aL t ds)).length->∃p,L[i]?=am p/\p∈L:=λi hi=>by
  rw[hL]at hi;exact⟨L[i],Ad hi,Cp hi⟩
 have Û:∀(i a:Nat) p r,L[i]?=am p->L[a]?=am r->r.2<p.2->a<i:=λi a p r h1 h2 lt=>by
  rcases Bz a i with c|c
  .exact c
  .exfalso;obtain⟨g1,e1⟩:=Aj.mp h1;obtain⟨g2,e2⟩:=Aj.mp h2;rcases Ew c with c|c
   .subst c;rw[h1]at h2;cases h2;lia
   .have:=B1.mp ĺ i a g1 g2 c;rw[e1,e2]at this;lia
 have Ô:∀k i,i+k+1=L.length->Tj (dS t ds (aL t ds)) (L.length-1) i:=λk=>by
  induction k using Cv with
  |ind k ih=>
   intro i hk;obtain⟨⟨j,n⟩,hp,hm⟩:=get i (by rw[hL];lia);have nl:=(Ł.mp hm).1;by_cases c:n+1<(aL t ds).length
   .obtain⟨a,ha,hb⟩:=above j n hm c;have ia:=zW ha;have lt:=Û _ i (a,n+1) (j,n) ia hp (by show n<n+1;lia);have il:=Cj ha;refine(ih (L.length-L.idxOf (a,n+1)-1) ∅ (L.idxOf (a,n+1)) ∅).snoc ?_;rw[hS _ _ ia];exact Ao.mpr ⟨j,hb,Kn nd hp⟩
   .have hj:=last j n hm ∅;have:i=L.length-1:=by
     obtain⟨⟨j2,n2⟩,Gy,XX⟩:=get (L.length-1) (by rw[hL];lia);have n2l:=(Ł.mp XX).1;rcases Bz n2 n with c2|c2
     .have:=Û i (L.length-1) _ _ hp Gy c2;lia
     .have en2:n2=n:=by lia
      subst en2;rw[(last j2 n2 XX ∅),<- hj]at Gy;exact(Kn nd hp).symm.trans (Kn nd Gy)
    rw[this];exact .refl _
 refine⟨by rw[hL];exact(Dl.mpr ne),by rw[hL];lia,λi hi u hu=>?_,λi hi=>?_,λi hi u hu=>?_,λi hi=>?_,λi hi=>?_,λw hw=>?_,λi hi=>by rw[hL]at hi ⊢;exact Ô (L.length-i-1) i ∅⟩
 .obtain⟨p,hp,hm⟩:=get i hi;rw[hS i p hp]at hu;obtain⟨x,hx,rfl⟩:=Ao.mp hu;obtain⟨n1,xm⟩:=ok p hm x hx;exact Û i _ p (x,p.2-1) hp (zW xm) (by show p.2-1<p.2;lia)
 .obtain⟨p,hp,hm⟩:=get i hi;rw[hS i p hp];unfold IG
  split
  .simp
  .cases en t 0 p.1<;>simp
 .obtain⟨p,hp,hm⟩:=get i hi;rw[hS i p hp]at hu;unfold Yo at hu;obtain⟨x,hx,rfl⟩:=Ao.mp hu;rw[hL];exact Cj (Bl.mp hx).1
 .obtain⟨p,hp,hm⟩:=get i hi;rw[hS i p hp];unfold Yo;rw[Af];have h1:=lay p.2;have h2:(L.filter λq=>decide (q.2=p.2)&&!decide (q.1=p.1)).length<=(L.filter λq=>decide (q.2=p.2)).length:=by
   have e:L.filter (λq=>decide (q.2=p.2)&&!decide (q.1=p.1))=(L.filter λq=>decide (q.2=p.2)).filter λq=>!decide (q.1=p.1):=by
    rw[List.filter_filter];refine congrArg (λf=>L.filter f) (funext λq=>Bool.and_comm _ _)
   rw[e];exact B5 _ _
  lia
 .obtain⟨p,hp,hm⟩:=get i hi;rw[hS i p hp];exact Xw _ _
 .obtain⟨j,hj,_,ej⟩:=sI t t 0 w (λk hk=>by rw[A5]) ∅ hw;have b0:(aL t ds).getD 0 0=0:=rfl;have mem:(j,0)∈L:=Ł.mpr ⟨by simp[aL],hj,(gm hj).mpr ⟨by rw[D.leaf j w hj ej,b0];exact Bu _,λa ea=>by
   rcases iV t 0 j .aO hj with⟨_,e⟩|⟨a',u,v,_,ha,e,ep,_⟩
   .rw[e]at ea;cases ea
   .rw[e,A5]at ea;injection ea with ea;have:a'=a:=by lia
    subst this;have:=(D.pair a' u v ha ep).2.2;rw[b0];lia⟩⟩
  have il:=Cj mem;refine⟨L.idxOf (j,0),by rw[hL];exact il,by rw[hL];exact Ô (L.length-L.idxOf (j,0)-1) _ ∅,?_⟩;unfold hm;rw[hS _ _ (zW mem)];unfold IG;rw[b0,D.leaf j w hj ej,if_neg ∅,ej];simp[JO,RL]
end
def tN{l:O PV}(h:l[j]?=am v)(hl:l.length<=1000):qa l (.int (j:Int))=.ret (l.eraseIdx j,v):=by
 unfold qa;simp only[Mv ((Aj.mp h).1),Da,lc,h,re (bM hl)]
def uL{l:O Tr}{x:Tr}(h:l[j]?=am x):(x.ay++(l.eraseIdx j).flatMap Tr.ay).Perm (l.flatMap Tr.ay):=by
 induction l generalizing j with
 |nil=>simp at h
 |cons a l ih=>cases j with
  |zero=>simp at h;subst h;simp
  |succ j=>
   simp;have:=(ih (by simpa using h)).append_left a.ay;refine List.Perm.trans ?_ this;rw[<- AA,<- AA];exact BD.append_right _
def xf{l:O Tr}:(l.map Tr.pv).eraseIdx j=(l.eraseIdx j).map Tr.pv:=by
 induction l generalizing j with
 |nil=>simp
 |cons a l ih=>cases j with
  |zero=>simp
  |succ j=>simp[ih]
def Rc{l:O Nat}{x:PV}(h:(aB l)[i]?=am x):∃k,l[i]?=am k/\x=.int (k:Int):=by
 unfold aB at h;rw[Ah]at h;cases e:l[i]? with
 |none=>rw[e]at h;cases h
 |some k=>rw[e]at h;exact⟨k,rfl,(Option.some.inj h).symm⟩
abbrev OI:=Option Int
def oP:OI->PV
 |none=>.aO
 |some i=>.int i
def wZ(l:O OI):O Int:=l.filterMap id
def i6(l:O OI):OI:=if ce∈l then ce else am (wZ l).sum
def dr(l:O OI):OI:=if wZ l=[] then ce else am (vJ (wZ l))
theorem Mi:∀{l:O OI},ce∉l->l.map oP=(wZ l).map PV.int
 |[],_=>rfl
 |none::l,h=>absurd (.head _) h
 |some a::l,h=>by
  have:=Mi λz=>h (.tail _ z);rw[Av,this];rfl
def aaU(l:O OI):(l.map oP).filterMap (λx=>if x matches .aO then ce else am x)=(wZ l).map PV.int:=by
 induction l with
 |nil=>rfl
 |cons a l ih=>cases a with
  |none=>rw[Av,AL];exact ih
  |some i=>rw[Av,AL];exact congrArg _ ih
def aar(l:O OI):rK false .aO (l.map oP)=.ret (decide (ce∈l)):=by
 have h0:∀x∈l.map oP,PV.fw x=true/\PV.iK x<=150:=λx hx=>by
  obtain⟨o,_,rfl⟩:=Ao.mp hx;cases o<;>simp[oP]
 have h1:VT .aO (l.map oP):=⟨by simp,js.mpr λx hx=>(h0 x hx).1,lq λx hx=>(h0 x hx).2⟩;have h2:uC .aO (l.map oP)=decide (ce∈l):=by
  unfold uC;rw[List.any_map];clear h0 h1
  induction l with
  |nil=>rfl
  |cons a l ih=>
   rw[Cm,ih];cases a<;>simp[oP,kG]
 unfold rK;rw[re h1,h2];simp
def wL(l:O OI):kY (.cl (l.map oP))=.ret (oP (i6 l)):=by
 unfold kY i6;simp only[lc,bj,aar];by_cases h:ce∈l
 .simp[h,oP]
 .rw[if_neg h];simp only[h,iu,lc,Mi h,fM,fv];rfl
def Ml(l:O OI):tZ ((wZ l).map PV.int)=.ret (oP (dr l)):=by
 unfold tZ dr;rw[fv,lc]
 split<;>rfl
def S2(l:O OI):(kz (l.map oP) λp2=>J4 (bn (of2 Hn p2 .aO) asB) (ca p2))=.ret ((wZ l).map PV.int):=by
 rw[<- aaU];refine yU λx hx=>?_;obtain⟨o,_,rfl⟩:=Ao.mp hx;cases o<;>simp[oP,PV.mU]
def q8(l:O OI):gM (.cl (l.map oP))=.ret (oP (dr l)):=by
 unfold gM;simp only[lc,bj,S2,Ml]
def NP{a b:O Int}(h:a.Perm b):vJ a=vJ b:=by
 by_cases c:a=[]
 .subst c;rw[List.nil_perm.mp h]
 .exact Fv (sH (h.mem_iff.mpr (oD (λz=>c (by subst z;exact List.perm_nil.mp h))))) (sH (h.mem_iff.mp (oD c)))
def NN{a b:O OI}(h:a.Perm b):dr a=dr b:=by
 have h2:(wZ a).Perm (wZ b):=h.filterMap _;unfold dr;rw[NP h2];have:(wZ a=[])=(wZ b=[]):=propext ⟨λz=>List.nil_perm.mp (z▸h2),λz=>List.perm_nil.mp (z▸h2)⟩;simp only[this]
variable{ps:O Int}{d:Str}
def dpl(d:Str):Nat:=if d="split" then 0 else if d="doubled" then 1 else 2
def yr(ps:O Int)(d:Str):Int:=ps.getD (dpl d) 0
theorem aba(d:Str):dpl d<3:=by unfold dpl;split;lia;split<;>lia
theorem Yp(h:ps.length=4)(hk:k<4):cR (br ps) (k:Int)=am (.int (ps.getD k 0)):=cQ (by
 unfold br;rw[Ah,Ad ∅,Ae,Ad ∅];rfl)
def HN(d:Str):Prop:=d="split"\/d="doubled"\/d="over"
def VS:rK false (.str d) ([("split":Str),("doubled":Str),("over":Str)].map PV.str)=.ret (decide (d∈[("split":Str),("doubled":Str),("over":Str)])):=by
 unfold rK;rw[re ⟨by simp,by simp[fb],by simp[dR]⟩];congr 1;simp only[uC,Il];have e:∀a:Str,(a==d)=decide (d=a):=λa=>by
  by_cases c:a=d
  .subst c;simp
  .have c2:¬d=a:=λz=>c z.symm;simp[c,c2]
 simp[e]
theorem QE(h:ps.length=4)(hd:HN d):jK (.tup (br ps)) (.str d)=.ret (.int (yr ps d)):=by
 unfold jK;have hm:d∈[("split":Str),("doubled"),("over")]:=by rcases hd with rfl | rfl | rfl <;> simp
 have hi:RO ["split","doubled","over"] (.str d)=.ret (.int ((dpl d))):=by
  show W.eK _ _=_;rw[re hm];rcases hd with rfl|rfl|rfl<;>rfl
 have:=aba d;simp only[lc,VS,hm,if_true,aK,hi,bT,Yp h (k:=dpl d) ∅];rfl
def cv(cs:O OI)(n:Nat):OI:=cs.getD n ce
variable{d:Dd}
def dM(g:O Sy)(ps:O Int)(i:Nat):Int:=if (sy g i).un.length=2 then ps.getD 3 0 else 0
def Yi(h:d∈dl g i):HN d.1:=by
 unfold dl at h;rcases AB.mp h with rfl|h
 .exact .inr (.inl rfl)
 rcases AO.mp h with h|h
 .unfold ye at h
  split at h
  .simp at h;rcases h with rfl|rfl<;>exact .inl rfl
  .cases h
 .rcases AO.mp h with h|h<;>obtain⟨o,_,rfl⟩:=Ao.mp h<;>exact .inr (.inr rfl)
def QP{f:α->β}{a b:List β}(h:a.Perm b):∀{l:List α},b=l.map f->∃ds:List α,a=ds.map f/\ds.Perm l:=by
 induction h with
 |nil=>intro l e;exact⟨[],rfl,by rw[Ec.mp e.symm]⟩
 |cons x _ ih=>
  intro l e;cases l with
  |nil=>cases e
  |cons y l=>
   injection e with e1 e2;obtain⟨ds,h1,h2⟩:=ih e2;exact⟨y::ds,by rw[Av,e1,h1],h2.cons y⟩
 |swap x y r=>
  intro l e
  match l,e with
  |u::v::l,e=>
   injection e with e1 e2;injection e2 with e2 e3;exact⟨v::u::l,by rw[Av,Av,e1,e2,e3],.swap u v l⟩
 |trans _ _ xu Jg=>
  intro l e;obtain⟨ds,h1,h2⟩:=Jg e;obtain⟨es,h3,h4⟩:=xu h1;exact⟨es,h3,h4.trans h2⟩
theorem xD(f h:α->β):∀l:List α,(l.map f++l.map h).Perm (l.flatMap λo=>[f o,h o])
 |[]=>.nil
 |a::l=>by
  exact((List.perm_middle).trans ((xD f h l).cons _)).cons _
def MW(g:O Sy)(i:Nat):(dl g i).Perm (dds g i):=((xD (λo=>(("over",i,o):Dd)) (λo=>(("over",o,i):Dd)) (sy g i).be).append_left _).cons _
def uV(G:WG g ws)(h:i<g.length)(hd:d∈dl g i):d.2.1<g.length/\d.2.2<g.length:=abg G h ((MW g i).mem_iff.mp hd)
theorem ZD(p4:ps.length=4)(hi:i<g.length):ip (iG g) (.tup (br ps)) (.int (i:Int))=.ret (.int (dM g ps i)):=by
 unfold ip dM;simp only[lc,nZ hi,sQ,dP,qA,cb,bT];by_cases c:(sy g i).un.length=2
 .have h3:=Yp p4 (k:=3) ∅;have c2:(((sy g i).un.length:Int)==2)=true:=by simp[c]
  rw[if_pos c,c2];simp;rw[show((3:Nat):Int)=3 from rfl]at h3;rw[h3];rfl
 .have c2:(((sy g i).un.length:Int)==2)=false:=by simp;lia
  rw[if_neg c,c2];rfl
abbrev kk(j i:Nat):O Key:=[.inl (j:Int),.inl (i:Int)]
def Jf(g:O Sy)(i:Nat):O Dd:=dbl i::((sy g i).be.flatMap (QX i)++ye (sy g i).un)
variable{v:Int}
def jg(g:O Sy)(i:Nat):(Jf g i).Perm (dl g i):=(BD.cons _).trans (MW g i).symm
theorem PM{l:O Nat}(h:∀x∈l,x<=m):l.sum<=l.length*m:=by
 induction l with
 |nil=>simp
 |cons a l ih=>
  rw[Dr,Au,Eg];have:=h a (.head _);have:=ih λx hx=>h x (.tail _ hx);lia
theorem qm{P:Nat->Nat->Prop}(h:∀j i,j<n->i<m->(∀a x,a<j->x<m->P a x)->(∀u,u<i->P j u)->P j i):∀j i,j<n->i<m->P j i:=by
 intro j
 induction j using Cv with
 |ind j ihj=>
  intro i
  induction i using Cv with
  |ind i ihi=>exact λhj hi=>h j i hj hi (λa x ha hx=>ihj a ha x ∅ hx) λu hu=>ihi u hu hj ∅
def Mm{l:O OI}:v∈wZ l↔am v∈l:=by
 unfold wZ;rw[Ex];exact⟨λ⟨o,h1,h2⟩=>by rw[id]at h2;rw[<- h2];exact h1,λh=>⟨_,h,rfl⟩⟩
def fB{l:O OI}(h:am v∈l):∃m,dr l=am m/\m<=v:=by
 have h:=Mm.mpr h;unfold dr;rw[if_neg (λz=>by rw[z]at h;cases h)];exact⟨_,rfl,sH h⟩
def eR{l:O OI}{m:Int}(h:dr l=am m):am m∈l:=by
 unfold dr at h
 split at h
 .cases h
 .next c=>
  cases h;exact Mm.mp (oD c)
def sum2{a:Int}:i6 [am a,am b]=am (a+b):=by simp[i6,wZ]
section
def KP(h:j<t.size):esD (t.nd 0) j=en t 0 j:=by unfold esD;rw[Ae,je t 0 j h];rfl
end
theorem Hw{l m:O OI}(h1:∀v,am v∈l->∃u,am u∈m/\u<=v)(h2:∀v,am v∈m->∃u,am u∈l/\u<=v):dr l=dr m:=by
 cases e:dr l with
 |none=>
  cases e2:dr m with
  |none=>rfl
  |some v=>
   obtain⟨u,hu,_⟩:=h2 v (eR e2);obtain⟨w,hw,_⟩:=fB hu;rw[e]at hw;cases hw
 |some v=>
  obtain⟨u,hu,lu⟩:=h1 v (eR e);obtain⟨w,hw,lw⟩:=fB hu;obtain⟨x,hx,lx⟩:=h2 w (eR hw);obtain⟨y,hy,ly⟩:=fB hx;rw[e]at hy;cases hy;rw[hw];congr 1;lia
def w5(l:O OI)(x:OI):dr [dr l,x]=dr (l++[x]):=by
 refine Hw (λv h=>?_) λv h=>?_
 .rcases AB.mp h with h|h
  .exact⟨v,Ba _ (eR h.symm),Bu _⟩
  .exact⟨v,A1 _ h,Bu _⟩
 .rcases AO.mp h with h|h
  .obtain⟨m,hm,lm⟩:=fB h;exact⟨m,by rw[hm];exact .head _,lm⟩
  .exact⟨v,.tail _ h,Bu _⟩
def w6(l:O OI):dr [dr l,ce]=dr l:=by
 rw[w5];refine Hw (λv h=>?_) λv h=>⟨v,Ba _ h,Bu _⟩;rcases AO.mp h with h|h
 .exact⟨v,h,Bu _⟩
 .cases AM.mp h
def fC(A B:O OI)(n i:Nat):OI:=if i<=n then i6 [A.getD i ce,B.getD (n-i) ce] else ce
def uM(A B:O OI)(i n:Nat):OI:=dr ((Aw i).map (fC A B n))
def gh(A B:O OI):O OI:=(Aw (A.length+B.length-1)).map (uM A B A.length)
def eH(A:O OI)(m:OI):O OI:=A.map λc=>i6 [c,m]
def my(L:O (O OI))(n:Nat):O OI:=(Aw n).map λk=>dr (L.map λc=>c.getD k ce)
def Xj{a:OI}:i6 [a,ce]=ce:=by cases a<;>simp[i6]
variable{A B:O OI}{y:Int}
def Xi{a:OI}:i6 [ce,a]=ce:=by cases a<;>simp[i6]
def zr(A B:O OI)(i n:Nat):uM A B (i+1) n=dr [uM A B i n,fC A B n i]:=by
 unfold uM;rw[w5,Cw,Az];rfl
theorem aeP(h:n<i):uM A B (i+1) n=uM A B i n:=by
 rw[zr];unfold fC;rw[if_neg ∅];exact w6 _
theorem aeQ(h:i+B.length<=n):uM A B (i+1) n=uM A B i n:=by
 rw[zr];unfold fC;rw[if_pos ∅,Ae (l:=B),Ar ∅];show dr [_,i6 [_,ce]]=_;rw[Xj];exact w6 _
def xC(A B:O OI):(gh A B).length=A.length+B.length-1:=by unfold gh;rw[Af,Bm]
theorem Om(B:O OI):gh [am 0] B=B:=by
 apply BF;intro n;unfold gh;have e:([am 0]:O OI).length+B.length-1=B.length:=by simp
 rw[e];by_cases h:n<B.length
 .rw[Ah,AJ h,Ad h];show am (uM [am 0] B 1 n)=_;congr 1;unfold uM fC;have:B.getD n ce=B[n]:=by rw[Ae,Ad h];rfl
  simp only[List.range_one,Av,CF,A9,if_true,Eh,this];cases e2:B[n] with
  |none=>simp[i6,dr,wZ]
  |some v=>simp[i6,dr,wZ,vJ]
 .rw[Ar (by rw[Af,Bm];lia),Ar ∅]
theorem V8(hx:A.getD i ce=am x)(hy:B.getD j ce=am y):∃m,(gh A B).getD (i+j) ce=am m/\m<=x+y:=by
 have hi:i<A.length:=by
  rcases Bz i A.length with h|h
  .exact h
  .rw[Ae,Ar h]at hx;cases hx
 have hj:j<B.length:=by
  rcases Bz j B.length with h|h
  .exact h
  .rw[Ae,Ar h]at hy;cases hy
 unfold gh;rw[Ae,Ah,AJ ∅];show ∃m,uM A B A.length (i+j)=am m/\_;unfold uM;refine fB (Ao.mpr ⟨i,AN.mpr hi,?_⟩);unfold fC;rw[if_pos ∅,hx,show i+j-i=j by lia,hy,sum2]
theorem MK(h:(gh A B).getD n ce=am v):∃i j x y,i+j=n/\A.getD i ce=am x/\B.getD j ce=am y/\v=x+y:=by
 unfold gh at h;rw[Ae,Ah]at h;rcases Bz n (A.length+B.length-1) with hn|hn
 .rw[AJ hn]at h;have h:dr ((Aw A.length).map (fC A B n))=am v:=h;obtain⟨i,hi,e⟩:=Ao.mp (eR h);unfold fC at e
  split at e
  .next Ñ=>
   cases ea:A.getD i ce with
   |none=>rw[ea,Xi]at e;cases e
   |some x=>
    cases eb:B.getD (n-i) ce with
    |none=>rw[ea,eb,Xj]at e;cases e
    |some y=>
     rw[ea,eb,sum2]at e;exact⟨i,n-i,x,y,by lia,ea,eb,(Option.some.inj e).symm⟩
  .cases e
 .rw[Ar (by rw[Bm];exact hn)]at h;cases h
variable{L:O (O OI)}
def fN:Tr->Nat->Nat
 |.leaf _,_=>1
 |.node l r,j=>if j<l.size then fN l j else if j<l.size+r.size then fN r (j-l.size) else l.ay.length+r.ay.length
theorem uc:∀t:Tr,fN t (t.size-1)=t.ay.length
 |.leaf _=>rfl
 |.node l r=>by
  have h1:=l.size_pos;have h2:=r.size_pos;have hs:(Tr.node l r).size=l.size+r.size+1:=rfl;rw[hs,fN,if_neg ∅,if_neg ∅];simp[Tr.ay]
theorem qJ:∀(t:Tr) (j:Nat),1<=fN t j/\fN t j<=t.ay.length
 |.leaf _,j=>⟨Al _,Al _⟩
 |.node l r,j=>by
  have h1:=l.gP;have h2:=r.gP;have e:(Tr.node l r).ay.length=l.ay.length+r.ay.length:=by simp[Tr.ay]
  rw[fN,e]
  split
  .have:=qJ l j;lia
  .split
   .have:=qJ r (j-l.size);lia
   .omega
theorem oH:∀(t:Tr) (o j:Nat) {w:Str},j<t.size->en t o j=.word w->fN t j=1
 |.leaf _,_,_,_,_,_=>rfl
 |.node l r,o,j,w,h,e=>by
  have hs:(Tr.node l r).size=l.size+r.size+1:=rfl;rw[en]at e;rw[fN]
  split at e
  .next c=>rw[if_pos c];exact oH l o j c e
  .next c=>
   rw[if_neg c]
   split at e
   .next d=>rw[if_pos d];exact oH r _ (j-l.size) ∅ e
   .cases e
theorem oI:∀(t:Tr) (o j:Nat) {a b:Nat},j<t.size->en t o j=.pair a b->∃a' b',a'<t.size/\b'<t.size/\a=o+a'/\b=o+b'/\fN t j=fN t a'+fN t b'
 |.leaf _,_,_,_,_,_,e=>by rw[en]at e;cases e
 |.node l r,o,j,a,b,h,e=>by
  have h1:=l.size_pos;have h2:=r.size_pos;have hs:(Tr.node l r).size=l.size+r.size+1:=rfl;have ĵ:∀k,k<l.size->fN (.node l r) k=fN l k:=λk hk=>by rw[fN,if_pos hk]
  have Ĵ:∀k,k<r.size->fN (.node l r) (l.size+k)=fN r k:=λk hk=>by rw[fN,if_neg ∅,if_pos ∅];congr 1;lia
  rw[en]at e
  split at e
  .next c=>
   obtain⟨a',b',k1,k2,e1,e2,e3⟩:=oI l o j c e;refine⟨a',b',by lia,by lia,e1,e2,?_⟩;rw[ĵ j c,ĵ a' k1,ĵ b' k2];exact e3
  .next c=>
   split at e
   .next d=>
    obtain⟨a',b',k1,k2,e1,e2,e3⟩:=oI r _ (j-l.size) ∅ e;refine⟨l.size+a',l.size+b',by lia,by lia,by lia,by lia,?_⟩;obtain⟨m,rfl⟩:∃m,j=l.size+m:=⟨j-l.size,by lia⟩;rw[CN]at e3;rw[Ĵ a' k1,Ĵ b' k2,Ĵ m ∅];exact e3
   .next d=>
    injection e with e1 e2;have e5:fN (.node l r) j=l.ay.length+r.ay.length:=by rw[fN,if_neg c,if_neg d]
    refine⟨l.size-1,l.size+(r.size-1),by lia,by lia,by lia,by lia,?_⟩;rw[e5,ĵ _ ∅,Ĵ _ ∅,uc,uc]
def Xu(h:i<A.length):cR (A.map oP) (i:Int)=am (oP (A.getD i ce)):=cQ (by rw[Ah,Ad h,Ae,Ad h];rfl)
def wU(A:O OI)(m:OI):gK (.cl (A.map oP)) (oP m)=.ret ((eH A m).map oP):=by
 unfold gK eH;rw[AQ];simp only[lc,bj];refine t6 λc _=>?_;have e:[oP c,oP m]=[c,m].map oP:=rfl;simp only[gz,lc,e,wL];rfl
theorem xg(hn:n<=1000)(h:∀A∈L,n<=A.length):gL (.cl (L.map λA=>.cl (A.map oP))) (.int (n:Int))=.ret ((my L n).map oP):=by
 unfold gL my;simp only[lc,fc,re (cg (i:=0) (j:=(n:Int)) ∅ ∅),Bp];rw[jn,AQ];refine jI λk hk=>?_;have hk:=AN.mp hk;have e:(bx (L.map λA=>PV.cl (A.map oP)) λp5=>(bJ (bn (ca p5) aw) (ca (.int (k:Int)))))=.ret ((L.map λA=>A.getD k ce).map oP):=by
  rw[AQ];refine t6 λA hA=>?_;have:=h A hA;simp only[lc,bj,bT,Xu (show k<A.length by lia),Da];rfl
 simp only[lc]at e;simp only[gz,lc,bj,e,q8];rfl
theorem Ut{N:Nat}{f:Nat->OI}{v:OI}(hp:p<N):(((Aw N).map f).map oP).set p (oP v)=((Aw N).map λn=>if n=p then v else f n).map oP:=by
 rw[<- E9];congr 1;apply BF;intro n;rw[EJ];by_cases h:n<N
 .rw[Ah,AJ h];by_cases c:p=n
  .subst c;rw[if_pos rfl,if_pos (by simpa using h),Ah,AJ h];simp
  .rw[if_neg c,Ah,AJ h];simp[show ¬n=p from λz=>c z.symm]
 .rw[Ar (l:=FJ _ _) (by simp;lia),Ar (l:=FJ _ _) (by simp;lia),if_neg ∅]
theorem xB(hA:1<=A.length)(hB:1<=B.length)(h2:A.length+B.length<=200):(oG (.cl (A.map oP)) (.cl (B.map oP))).le (.ret ((gh A B).map oP)):=λQ q=>by
 unfold oG;have hN:((A.length:Int)+(B.length:Int)-1)=((A.length+B.length-1:Nat):Int):=by lia
 generalize hn:A.length+B.length-1=N at hN;have e0:(bx (km 0 N) λp4=>ca PV.aO)=.ret (((Aw N).map (uM A B 0)).map oP):=by
  rw[jn];rw[AQ];refine jI λk _=>rfl
 simp only[lc,f8,d5,Af,cm,qz,hN,fc,re (cg (i:=0) (j:=(N:Int)) ∅ ∅),Bp,e0,nn,bj,re (bM (show A.length<=1000 by lia))];refine d4 (λi s=>s=((Aw N).map (uM A B i)).map oP) rfl (λi x s hx hs=>?_) (λs hs=>?_)
 .subst hs;obtain⟨y,hy,rfl⟩:=dz hx;rw[Ah]at hy;have hi:i<A.length:=by
   rcases Bz i A.length with h|h
   .exact h
   .rw[Ar h]at hy;cases hy
  have ey:y=oP (A.getD i ce):=by
   rw[Ad hi]at hy;rw[Ae,Ad hi];exact(Option.some.inj hy).symm
  subst ey;have es:KS (.cl (B.map oP)) (.int ((0+i:Nat):Int))=.ret (cY i (B.map oP)):=by
   show W.eK _ _=_;rw[re ⟨by lia,by lia,bM (by rw[Af];lia)⟩];congr 2;lia
  simp only[iL,nn,lc,f8,es];refine d4 (λj s=>s=((Aw N).map λn=>if n<i+j then uM A B (i+1) n else uM A B i n).map oP) ?_ (λj x s hx hs=>?_) (λs hs=>?_)
  .congr 1;refine Bc λn _=>?_
   split
   .next c=>exact(aeP ∅).symm
   .rfl
  .subst hs;obtain⟨y,hy,rfl⟩:=dz hx;rw[Ah]at hy;have hj:j<B.length:=by
    rcases Bz j B.length with h|h
    .exact h
    .rw[Ar h]at hy;cases hy
   have ey:y=oP (B.getD j ce):=by
    rw[Ad hj]at hy;rw[Ae,Ad hj];exact(Option.some.inj hy).symm
   subst ey;have i1:cR ((((Aw N).map λn=>if n<i+j then uM A B (i+1) n else uM A B i n)).map oP) ((i+j:Nat):Int)=am (oP (uM A B i (i+j))):=by
    rw[Xu (by simp;lia)];congr 2;rw[Ae,Ah,AJ ∅];simp
   have e1:[oP (A.getD i ce),oP (B.getD j ce)]=[A.getD i ce,B.getD j ce].map oP:=rfl;have e2:[oP (uM A B i (i+j)),oP (i6 [A.getD i ce,B.getD j ce])]=[uM A B i (i+j),i6 [A.getD i ce,B.getD j ce]].map oP:=rfl;simp only[iL,nn,lc,f8,bT,i1,Da,gz,e1,wL,e2,q8];rw[og (by simp;lia),Ut ∅];congr 1;refine Bc λn _=>?_;have e3:uM A B (i+1) (i+j)=dr [uM A B i (i+j),i6 [A.getD i ce,B.getD j ce]]:=by
    rw[zr];unfold fC;rw[if_pos ∅,show i+j-i=j by lia]
   by_cases c:n=i+j
   .subst c;rw[if_pos rfl,if_pos ∅,e3]
   .rw[if_neg c];by_cases d:n<i+j
    .rw[if_pos d,if_pos ∅]
    .rw[if_neg d,if_neg ∅]
  .subst hs;rw[bE,Af];show _=_;congr 1;refine Bc λn _=>?_
   split
   .rfl
   .next c=>exact(aeQ ∅).symm
 .subst hs;rw[bE,Af];unfold gh at q;rw[hn]at q;exact q
def rq(T:O (O (O OI)))(j i:Nat):O OI:=(T.getD j []).getD i []
def cP(A:O OI):PV:=.cl (A.map oP)
def Gw(T:O (O (O OI))):O PV:=T.map λr=>.cl (r.map cP)
def Pg(ps:O Int)(ask:Str)(R:Nat->Nat->O OI)(a b:Nat)(d:Dd):O OI:=
 if d.1=ask then ce::gh (R a d.2.1) (R b d.2.2) else eH (gh (R a d.2.1) (R b d.2.2)) (am (yr ps d.1))++[ce]
def Wr(g:O Sy)(ps:O Int)(ask:Str)(R:Nat->Nat->O OI)(e:Ent)(i:Nat):O (O OI):=match e with
 |.word w=>if hm g i w=true then [[am 0]] else []
 |.pair a b=>(dl g i).map (Pg ps ask R a b)
def uZ(g:O Sy)(ps:O Int)(ask:Str)(R:Nat->Nat->O OI)(e:Ent)(n:Nat):Nat->O (O OI)
 |0=>[]
 |k+1=>uZ g ps ask R e n k++[my (Wr g ps ask R e k++(sy g k).un.map λu=>eH ((uZ g ps ask R e n k).getD u []) (am (dM g ps k))) n]
variable{b:Nat}{w:Str}{R:Nat->Nat->O OI}{m:Int}
def kx(g:O Sy)(ps:O Int)(ask:Str)(t:Tr):Nat->O (O (O OI))
 |0=>[]
 |j+1=>kx g ps ask t j++[uZ g ps ask (rq (kx g ps ask t j)) (en t 0 j) (fN t j) g.length]
structure rg(g:List Sy)(t:Tr)(T:List (List (List OI)))(n:Nat):Prop where
 len:T.length=n
 row:∀j,j<n->(T.getD j []).length=g.length
 ent:∀j i,j<n->i<g.length->(rq T j i).length=fN t j
theorem iy(g:O Sy)(ps:O Int)(ask:Str)(R:Nat->Nat->O OI)(e:Ent)(n:Nat):∀k,(uZ g ps ask R e n k).length=k
 |0=>rfl
 |k+1=>by rw[uZ,Ak,iy g ps ask R e n k];rfl
theorem pB{ask:Str}:∀{k:Nat},i<k->(uZ g ps ask R e n k).getD i []=my (Wr g ps ask R e i++(sy g i).un.map λu=>eH ((uZ g ps ask R e n i).getD u []) (am (dM g ps i))) n
 |k+1,h=>by
  rw[uZ];by_cases c:i<k
  .rw[ma (by rw[iy];exact c)];exact pB c
  .have:i=k:=by lia
   subst this;rw[qv (by rw[iy];exact Al _),iy,F5];rfl
def zP{ask:Str}(h:i<k):((uZ g ps ask R e n k).getD i []).length=n:=by
 rw[pB h];unfold my;rw[Af,Bm]
theorem jC(g:O Sy)(ps:O Int)(ask:Str)(t:Tr):∀j,(kx g ps ask t j).length=j
 |0=>rfl
 |j+1=>by rw[kx,Ak,jC g ps ask t j];rfl
theorem si{ask:Str}:∀{k:Nat},j<k->(kx g ps ask t k).getD j []=uZ g ps ask (rq (kx g ps ask t j)) (en t 0 j) (fN t j) g.length
 |k+1,h=>by
  rw[kx];by_cases c:j<k
  .rw[ma (by rw[jC];exact c)];exact si c
  .have:j=k:=by lia
   subst this;rw[qv (by rw[jC];exact Al _),jC,F5];rfl
def kR(g:O Sy)(ps:O Int)(ask:Str)(t:Tr)(k:Nat):rg g t (kx g ps ask t k) k:=
 ⟨jC _ _ _ _ _,λj h=>by rw[si h,iy],λj i h hi=>by unfold rq;rw[si h,zP hi]⟩
section
variable{ask:Str}{T:O (O (O OI))}
def sj(W':rg g t T n)(hj:j<n):cR (Gw T) (j:Int)=am (.cl ((T.getD j []).map cP)):=cQ (by
 unfold Gw;rw[Ah,Ad (by rw[W'.len];exact hj),Ae,Ad (by rw[W'.len];exact hj)];rfl)
def Ym(h:i<L.length):cR (L.map cP) (i:Int)=am (cP (L.getD i [])):=cQ (by rw[Ah,Ad h,Ae,Ad h];rfl)
def om(W':rg g t T n)(hj:j<n)(hi:i<g.length):cR ((T.getD j []).map cP) (i:Int)=am (cP (rq T j i)):=Ym (by rw[W'.row j hj];exact hi)
def aeT(a b:Str):of2 dN (.str a) (.str b)=.ret (.bl (decide (a=b))):=by
 rw[uO,re ⟨by simp,by simp,by simp⟩,Il];by_cases c:a=b
 .subst c;simp
 .rw[beq_eq_false_iff_ne.mpr c,decide_eq_false c]
def Oz{i:Nat}{T:O (O (O OI))}:cJ (.tup (br ps)) (.str ask) (.cl (Gw T)) (Ent.word w).pv (.tup [.str "found",.tup []])=.ret (cP [am 0]):=by
 unfold cJ;have i1:cR [PV.str "found",PV.tup []] 1=am (.tup []):=rfl;have ez:GC [] []=.ret []:=re (by simp);have hv:dc (.str w)=.ret (.tup []):=qu (.word w);simp only[Ent.pv,lc,hv,aK,bT,i1,Da,ez,gY,o8,o7,cL];rfl
theorem OA(p4:ps.length=4)(W':rg g t T n)(ht:t.ay.length<=90)(ha:a<n)(hb:b<n)(hd:HN d.1)(hx:d.2.1<g.length)(hy:d.2.2<g.length):(cJ (.tup (br ps)) (.str ask) (.cl (Gw T)) (Ent.pair a b).pv (d2 d)).le (.ret (cP (Pg ps ask (rq T) a b d))):=λQ q=>by
 unfold cJ;have i0:cR [PV.str d.1,PV.tup [.int d.2.1,.int d.2.2]] 0=am (.str d.1):=rfl;have i1:cR [PV.str d.1,PV.tup [.int (d.2.1:Int),.int (d.2.2:Int)]] 1=am (.tup [.int (d.2.1:Int),.int (d.2.2:Int)]):=rfl;have ez:GC [PV.int a,.int (b:Int)] [.int (d.2.1:Int),.int (d.2.2:Int)]=.ret [.tup [.int (a:Int),.int (d.2.1:Int)],.tup [.int (b:Int),.int (d.2.2:Int)]]:=re (by simp;exact bM ∅);have lA:=W'.ent a _ ha hx;have lB:=W'.ent b _ hb hy;have kA:=qJ t a;have kB:=qJ t b;have h0:PV.cl [PV.int 0]=.cl (([am 0]:O OI).map oP):=rfl;have f1:=xB (A:=[am 0]) (B:=rq T a d.2.1) (by simp) ∅ (by simp;lia);rw[Om]at f1;have f2:=xB (A:=rq T a d.2.1) (B:=rq T b d.2.2) ∅ ∅ ∅;have fl:=xC (rq T a d.2.1) (rq T b d.2.2);have hv:=qu (.pair a b);simp only[Ent.pv]at hv;simp only[d2,Ent.pv,lc,hv,O9,aB,Av,CF,aK,bT,i0,i1,Da,ez,jr,gY,iL,bj,sj W' ha,sj W' hb,om W' ha hx,om W' hb hy,f8,h0];refine W.le.use f1 ?_;simp only[nn];refine W.le.use f2 ?_;simp only[nn,lc,gB,gA,cL,Ay,if_false,aeT,cb];have eN:[PV.aO]=([ce]:O OI).map oP:=rfl;unfold Pg at q;by_cases c:d.1=ask
 .rw[if_pos c]at q;simp only[c,decide_true,if_true,gz,lc,iu,eN];rw[f7 (by simp;lia),<- Az];exact q
 .rw[if_neg c]at q;have er:=wU (gh (rq T a d.2.1) (rq T b d.2.2)) (am (yr ps d.1));simp only[c,decide_false,Ay,if_false,gz,lc,QE p4 hd,eN];rw[show PV.int (yr ps d.1)=oP (am (yr ps d.1)) from rfl,er];simp only[lc];rw[f7 (by unfold eH;simp;lia),<- Az];exact q
def Oy(G:WG g ws)(p4:ps.length=4)(W':rg g t T n)(ht:t.ay.length<=90)(he:M8 n e)(hi:i<g.length)(q:∀L:O (O OI),L.Perm (Wr g ps ask (rq T) e i)->Q (L.map cP)):(fq (iG g) e.pv (.int (i:Int))).run λl=>(bx l λp=>cJ (.tup (br ps)) (.str ask) (.cl (Gw T)) e.pv p).run Q:=by
 cases e with
 |word w=>
  unfold fq;simp only[Ent.pv,lc,f8,o8,o7,cL,nn,if_true,VX G hi];unfold Wr at q;cases h:hm g i w with
  |false=>
   simp only[h,Ay,if_false]at q ⊢;exact q [] (List.Perm.refl _)
  |true=>
   simp only[h,if_true]at q ⊢;have ef:=Oz (ps:=ps) (ask:=ask) (i:=i) (w:=w) (T:=T);simp only[Ent.pv]at ef;simp only[nn,bx,lc,ef];exact q [[am 0]] (List.Perm.refl _)
 |pair a b=>
  refine OD G hi λm hm=>?_;obtain⟨ds,rfl,hp⟩:∃ds:O Dd,m=ds.map d2/\ds.Perm (dl g i):=QP hm rfl;refine ik (λd=>cP (Pg ps ask (rq T) a b d)) (λd hd=>?_) ?_
  .have hdl:=hp.mem_iff.mp hd;obtain⟨h1,h2⟩:=uV G hi hdl;exact OA p4 W' ht he.1 he.2 (Yi hdl) h1 h2
  .have e:ds.map (λd=>cP (Pg ps ask (rq T) a b d))=(ds.map (Pg ps ask (rq T) a b)).map cP:=by rw[AQ];rfl
   rw[e];exact q _ (hp.map _)
def NT{M:O (O OI)}(h:L.Perm M)(n:Nat):my L n=my M n:=by
 unfold my;exact Bc λk _=>NN (h.map _)
theorem Wq(W':rg g t T n)(G:WG g ws)(hi:i<g.length)(hj:j<t.size)(hjn:j<=n)(h:A∈Wr g ps ask (rq T) (en t 0 j) i):A.length=fN t j:=by
 cases e:en t 0 j with
 |word w=>
  rw[e]at h;have h:A∈(if hm g i w=true then [[am 0]] else []):=h;rw[oH t 0 j hj e]
  split at h
  .rw[AM.mp h];rfl
  .cases h
 |pair a b=>
  rw[e]at h;obtain⟨d,hd,rfl⟩:=Ao.mp h;obtain⟨a',b',k1,k2,e1,e2,e3⟩:=oI t 0 j hj e;obtain⟨h1,h2⟩:=bF t hj e;obtain⟨l1,l2⟩:=uV G hi hd;rw[A5]at e1 e2;subst e1 e2;have lA:=W'.ent a _ ∅ l1;have lB:=W'.ent b _ ∅ l2;have kA:=qJ t a;have kB:=qJ t b;have fl:=xC (rq T a d.2.1) (rq T b d.2.2);unfold Pg
  split
  .rw[Au];lia
  .unfold eH;rw[Ak,Af];simp;lia
theorem S0(G:WG g ws)(p4:ps.length=4)(ht:t.ay.length<=90)(hj:j<t.size)(W':rg g t T j):(dX (iG g) (.tup (br ps)) (.str ask) (.cl (Gw T)) (en t 0 j).pv).le (.ret ((uZ g ps ask (rq T) (en t 0 j) (fN t j) g.length).map cP)):=λQ q=>by
 unfold dX;have hg:=G.len;have X0:=G.pos;have el:yG cO [iG g]=.ret (.int g.length):=by simp[iG]
 have em:(ff (bn (bn (ca (en t 0 j).pv) (jl .str)) hG) (ca (.int 1)) (bn (bn (bn (ca (en t 0 j).pv) aw) λl2=>bx l2 λp3=>(c1 cO (bJ (bn (bJ (bn (ca (.cl (Gw T))) aw) (ca p3)) aw) (ca (.int 0))))) fM))=.ret (.int (fN t j:Nat)):=by
  cases e:en t 0 j with
  |word w=>simp[Ent.pv,oH t 0 j hj e]
  |pair a b=>
   obtain⟨a',b',k1,k2,e1,e2,e3⟩:=oI t 0 j hj e;obtain⟨h1,h2⟩:=bF t hj e;rw[A5]at e1 e2;subst e1 e2;have i0:=om W' h1 X0;have i1:=om W' h2 X0;have lA:=W'.ent a _ h1 X0;have lB:=W'.ent b _ h2 X0;have z:((0:Nat):Int)=0:=rfl;rw[z]at i0 i1;simp only[Ent.pv,lc,gB,gA,cL,Ay,if_false,aK,bx,bj,bT,sj W' h1,sj W' h2,Da,i0,i1,cP,d5,Af,lA,lB];rw[e3];have:fM [PV.int (fN t a:Nat),PV.int (fN t b:Nat)]=.ret (.int (([(fN t a:Int),(fN t b:Int)]).sum)):=by
    show bn (qQ ([(fN t a:Int),(fN t b:Int)].map PV.int)) _=_;rw[fv];rfl
   rw[this]
   first|rfl|(congr 2;simp)
 rw[em];simp only[lc,f8,el,fc,re (cg (i:=0) (j:=(g.length:Int)) ∅ ∅),Bp,nn];refine o5 (λi s=>s=(uZ g ps ask (rq T) (en t 0 j) (fN t j) i).map cP) rfl (λi s hi hs=>?_) (λs hs=>?_)
 .subst hs;have hc:=iy g ps ask (rq T) (en t 0 j) (fN t j) i;simp only[ZD p4 hi,lc,f8,nn];refine Oy (ask:=ask) G p4 W' ht (uS t hj) hi λL hL=>?_;have hlv:=qJ t j;have eu:(bx (aB (sy g i).un) λě=>(gz (bn (bJ (ca ((uZ g ps ask (rq T) (en t 0 j) (fN t j) i).map cP)) (ca ě)) λTX=>bn (ca (PV.int (dM g ps i))) λYA=>gK TX YA)))=.ret (((sy g i).un.map λu=>eH ((uZ g ps ask (rq T) (en t 0 j) (fN t j) i).getD u []) (am (dM g ps i))).map cP):=by
   rw[AQ];refine jI λu hu=>?_;have hu:=G.dn i hi u hu;simp only[lc,bT,Ym (show u<(uZ g ps ask (rq T) (en t 0 j) (fN t j) i).length by lia),Da];rw[show PV.int (dM g ps i)=oP (am (dM g ps i)) from rfl];show gz (gK (.cl _) _)=_;rw[wU];rfl
  simp only[lc]at eu;have h1:L.length<=63:=by
   rw[hL.length_eq];cases e:en t 0 j with
   |word w=>show(if hm g i w=true then [[am 0]] else []).length<=63;split<;>simp
   |pair a b=>show((dl g i).map _).length<=63;rw[Af];exact zH G hi
  simp only[lc,nZ hi,aK,eu,f8,nn];have h2:(sy g i).un.length<=2:=G.vm i hi;have hA:∀A∈L++(sy g i).un.map λu=>eH ((uZ g ps ask (rq T) (en t 0 j) (fN t j) i).getD u []) (am (dM g ps i)),A.length=fN t j:=λA hA=>by
   rcases AO.mp hA with h|h
   .exact Wq W' G hi hj (Al _) (hL.mem_iff.mp h)
   .obtain⟨u,hu,rfl⟩:=Ao.mp h;unfold eH;rw[Af,zP (G.dn i hi u hu)]
  have ť:gL (.cl ((L++(sy g i).un.map λu=>eH ((uZ g ps ask (rq T) (en t 0 j) (fN t j) i).getD u []) (am (dM g ps i))).map cP)) (.int (fN t j:Nat))=.ret ((my (L++(sy g i).un.map λu=>eH ((uZ g ps ask (rq T) (en t 0 j) (fN t j) i).getD u []) (am (dM g ps i))) (fN t j)).map oP):=xg ∅ λA h=>by rw[hA A h];exact Al _
  simp only[iu,lc,f8,nn,gz];rw[f7 (by rw[Af,Af,Af];lia),<- Az];simp only[nn,ť];rw[cV (by rw[Af];lia),uZ,Az,NT (hL.append_right _)];rfl
 .subst hs;exact q
def PN(T:O (O OI))(h:∀r∈T,.cl (r.map oP)≠PV.cl s):lj s (T.map cP):=xA.mpr λx hx=>by
 obtain⟨r,hr,rfl⟩:=Ao.mp hx;refine⟨λz=>h r hr (by rw[z]),xA.mpr λy hy=>?_⟩;obtain⟨o,_,rfl⟩:=Ao.mp hy;cases o<;>exact trivial
theorem R7{T:O (O (O OI))}{g:O Sy}{t:Tr}{n:Nat}(W':rg g t T n)(hg:0<g.length)(h0:L≠[])(hL:∀r∈L,r≠[]):PV.free (Gw T) (.cl (L.map cP)):=by
 have oc:∀(o:OI) (l:O PV),oP o≠.cl l:=λo l z=>by cases o<;>cases z
 cases T with
 |nil=>
  refine⟨λz=>?_,PN L λr hr z=>?_⟩
  .exact h0 (Ec.mp z)
  .injection z with z;exact hL r hr (Ec.mp z)
 |cons r0 T=>
  have hn:0<n:=by rw[<- W'.len];simp
  have hr0:r0.length=g.length:=W'.row 0 hn;obtain⟨c0,r1,rfl⟩:∃c0 r1,r0=c0::r1:=by
   cases r0 with
   |nil=>simp at hr0;lia
   |cons c0 r1=>exact⟨c0,r1,rfl⟩
  refine⟨λz=>?_,PN L λr hr z=>?_⟩
  .cases L with
   |nil=>exact h0 rfl
   |cons A L=>
    injection z with z _;have z:PV.cl (A.map oP)=.cl ((c0::r1).map cP):=z;injection z with z;cases A with
    |nil=>exact hL _ (.head _) rfl
    |cons o A=>injection z with z _;exact oc _ _ z
  .injection z with z;cases r with
   |nil=>exact hL _ hr rfl
   |cons o A=>injection z with z _;exact oc _ _ z
theorem Qk(G:WG g ws)(p4:ps.length=4)(ht:t.ay.length<=90):(oE (iG g) t.pv (.tup (br ps)) (.str ask)).le (.ret (.tup ((my ((kx g ps ask t t.size).getD (t.size-1) []) (t.ay.length)).map oP))):=λQ q=>by
 have hz:t.size<=180:=by have:=t.size_eq;lia
 have hs:=t.size_pos;have hg:=G.len;have X0:=G.pos;unfold oE;simp only[lc,f8];refine W.le.use (oC t ∅) ?_;simp only[aK,nn];refine d4 (λi s=>s=Gw (kx g ps ask t i)) rfl (λi x s hx hs=>?_) (λs hs=>?_)
 .subst hs;have hi:i<t.size:=by have:=(Aj.mp hx).1;rw[dq]at this;exact this
  rw[Ah,je t 0 i hi]at hx;have ex:=(Option.some.inj hx).symm;subst ex;have Wd:=kR g ps ask t i;simp only[gz,lc,f8];refine W.le.use (S0 G p4 ht hi Wd) ?_;have hl:=qJ t i;have fr:PV.free (Gw (kx g ps ask t i)) (.cl ((uZ g ps ask (rq (kx g ps ask t i)) (en t 0 i) (fN t i) g.length).map cP)):=by
   refine R7 Wd X0 (λz=>?_) λr hr z=>?_
   .have:=iy g ps ask (rq (kx g ps ask t i)) (en t 0 i) (fN t i) g.length;rw[z]at this;simp at this;lia
   .obtain⟨k,hk⟩:=C2.mp hr;have h1:=(Aj.mp hk).1;rw[iy]at h1;have h2:=zP (g:=g) (ps:=ps) (ask:=ask) (R:=rq (kx g ps ask t i)) (e:=en t 0 i) (n:=fN t i) h1;rw[Ae,hk,z]at h2;simp at h2;lia
  have ef:R8 (Gw (kx g ps ask t i)) (.cl ((uZ g ps ask (rq (kx g ps ask t i)) (en t 0 i) (fN t i) g.length).map cP))=.ret (.cl ((uZ g ps ask (rq (kx g ps ask t i)) (en t 0 i) (fN t i) g.length).map cP)):=re fr;simp only[nn,ef];rw[cV (by unfold Gw;rw[Af,jC];lia),kx];unfold Gw;rw[Az];rfl
 .subst hs;rw[dq];have Wd:=kR g ps ask t t.size;have er:cR (Gw (kx g ps ask t t.size)) (-1)=am (.cl (((kx g ps ask t t.size).getD (t.size-1) []).map cP)):=by
   have hl:=jC g ps ask t t.size;unfold cR ux;have e:(Gw (kx g ps ask t t.size)).length=t.size:=by unfold Gw;rw[Af,hl]
   rw[e,if_neg ∅,if_pos ∅];show(Gw (kx g ps ask t t.size))[(-1+(t.size:Int)).toNat]?=_;rw[show(-1+(t.size:Int)).toNat=t.size-1 by lia];unfold Gw;rw[Ah,Ad ∅,Ae,Ad ∅];rfl
  have i0:=om Wd (show t.size-1<t.size by lia) X0;have l0:=Wd.ent (t.size-1) 0 ∅ X0;rw[uc]at l0;have z:((0:Nat):Int)=0:=rfl;rw[z]at i0;have ť:gL (.cl (((kx g ps ask t t.size).getD (t.size-1) []).map cP)) (.int (t.ay.length:Nat))=.ret ((my ((kx g ps ask t t.size).getD (t.size-1) []) t.ay.length).map oP):=xg ∅ λA h=>by
   obtain⟨k,hk⟩:=C2.mp h;have h1:=(Aj.mp hk).1;rw[Wd.row _ ∅]at h1;have h2:=Wd.ent (t.size-1) k ∅ h1;unfold rq at h2;rw[Ae,hk,uc]at h2;exact F6 h2.symm
  simp only[nn,lc,zv,bT,er,Da,bj,i0,cP,d5,Af,l0,ť];exact q
end
section
variable{ask:Str}
def rv(g:O Sy)(ps:O Int)(ask:Str)(t:Tr)(j i k:Nat):OI:=(rq (kx g ps ask t t.size) j i).getD k ce
def isA(ask:Str)(d:Dd):Nat:=if d.1=ask then 1 else 0
def QG(ps:O Int)(ask:Str)(d:Dd):Int:=if d.1=ask then 0 else yr ps d.1
def yk(h:j<k):rq (kx g ps ask t k) j i=(uZ g ps ask (rq (kx g ps ask t j)) (en t 0 j) (fN t j) g.length).getD i []:=by show((kx g ps ask t k).getD j []).getD i []=_;rw[si h]
def Uz{l:Nat}(h:j<k)(h':j<l):rq (kx g ps ask t k) j i=rq (kx g ps ask t l) j i:=by rw[yk h,yk h']
def OB{R':Nat->Nat->O OI}(he:M8 n e)(h:∀a x,a<n->R a x=R' a x):Wr g ps ask R e i=Wr g ps ask R' e i:=by
 cases e with
 |word w=>rfl
 |pair a b=>exact Bc λd _=>by unfold Pg;rw[h a _ he.1,h b _ he.2]
theorem L6(G:WG g ws)(hj:j<t.size)(hi:i<g.length)(hk:k<fN t j):rv g ps ask t j i k=dr ((Wr g ps ask (rq (kx g ps ask t t.size)) (en t 0 j) i++(sy g i).un.map λu=>eH (rq (kx g ps ask t t.size) j u) (am (dM g ps i))).map λA=>A.getD k ce):=by
 unfold rv;rw[yk hj,pB hi];unfold my;rw[Ae,Ah,AJ hk];show dr _=_;congr 2;rw[OB (uS t hj) λa x ha=>Uz ha (show a<t.size by lia)];congr 1;refine Bc λu hu=>?_;have hu:=G.dn i hi u hu;rw[yk hj,pB hu,pB (show u<g.length by lia)]
theorem G4(hj:j<t.size)(hi:i<g.length)(h:rv g ps ask t j i k=am v):k<fN t j:=by
 have:=(kR g ps ask t t.size).ent j i hj hi;unfold rv at h;rw[Ae]at h;rcases Bz k (fN t j) with c|c
 .exact c
 .rw[Ar ∅]at h;cases h
def G9(A:O OI)(m:OI)(k:Nat):(eH A m).getD k ce=match A[k]? with|none=>ce|some c=>i6 [c,m]:=by
 unfold eH;rw[Ae,Ah];cases A[k]? <;> rfl
theorem tF(h:(eH A (am m)).getD k ce=am v):∃x,A.getD k ce=am x/\v=m+x:=by
 rw[G9]at h;rw[Ae];cases e:A[k]? with
 |none=>rw[e]at h;cases h
 |some c=>
  rw[e]at h;cases c with
  |none=>have h:i6 [ce,am m]=am v:=h;rw[Xi]at h;cases h
  |some x=>
   have h:i6 [am x,am m]=am v:=h;rw[sum2]at h;exact⟨x,rfl,by have:=Option.some.inj h;lia⟩
theorem G8(h:A.getD k ce=am x):(eH A (am m)).getD k ce=am (m+x):=by
 rw[G9];rw[Ae]at h;cases e:A[k]? with
 |none=>rw[e]at h;cases h
 |some c=>
  rw[e]at h;have h:c=am x:=h;subst h;show i6 [am x,am m]=_;rw[sum2];congr 1;lia
theorem abb(h:(Pg ps ask R a b d).getD k ce=am v):∃k1 k2 x y,k=k1+k2+isA ask d/\(R a d.2.1).getD k1 ce=am x/\(R b d.2.2).getD k2 ce=am y/\v=QG ps ask d+(x+y):=by
 unfold Pg at h;unfold isA QG
 split at h
 .next c=>
  cases k with
  |zero=>cases h
  |succ k=>
   rw[FU]at h;obtain⟨i,j,x,y,e,h1,h2,h3⟩:=MK h;exact⟨i,j,x,y,by simp[c];lia,h1,h2,by simp[c];exact h3⟩
 .next c=>
  by_cases hk:k<(eH (gh (R a d.2.1) (R b d.2.2)) (am (yr ps d.1))).length
  .rw[ma hk]at h;obtain⟨z,hz,e⟩:=tF h;obtain⟨i,j,x,y,e2,h1,h2,h3⟩:=MK hz;exact⟨i,j,x,y,by simp[c];lia,h1,h2,by simp[c];lia⟩
  .rw[qv ∅]at h;generalize k-_=m at h;cases m with
   |zero=>cases h
   |succ m=>cases h
theorem abc(h1:(R a d.2.1).getD k1 ce=am x)(h2:(R b d.2.2).getD k2 ce=am y):∃m,(Pg ps ask R a b d).getD (k1+k2+isA ask d) ce=am m/\m<=QG ps ask d+(x+y):=by
 obtain⟨m,hm,lm⟩:=V8 h1 h2;unfold Pg isA QG
 split
 .next c=>exact⟨m,by rw[FU];exact hm,by lia⟩
 .next c=>
  have hk:k1+k2<(gh (R a d.2.1) (R b d.2.2)).length:=by
   rcases Bz (k1+k2) (gh (R a d.2.1) (R b d.2.2)).length with z|z
   .exact z
   .rw[Ae,Ar z]at hm;cases hm
  refine⟨yr ps d.1+m,?_,by lia⟩;rw[Nat.add_zero,ma (by unfold eH;rw[Af];exact hk)];exact G8 hm
def Qd(G:WG g ws)(hj:j<t.size)(hi:i<g.length)(h:rv g ps ask t j i k=am v):(∃w,en t 0 j=.word w/\hm g i w=true/\k=0/\v=0)\/(∃a b d k1 k2 x y,en t 0 j=.pair a b/\d∈dl g i/\k=k1+k2+isA ask d/\rv g ps ask t a d.2.1 k1=am x/\rv g ps ask t b d.2.2 k2=am y/\v=QG ps ask d+(x+y))\/∃u x,u∈(sy g i).un/\rv g ps ask t j u k=am x/\v=dM g ps i+x:=by
 have hk:=G4 hj hi h;rw[L6 G hj hi hk]at h;obtain⟨A,hA,e⟩:=Ao.mp (eR h);rcases AO.mp hA with hA|hA
 .cases ee:en t 0 j with
  |word w=>
   rw[ee]at hA;have hA:A∈(if hm g i w=true then [[am 0]] else []):=hA
   split at hA
   .next c=>
    rw[AM.mp hA]at e;cases k with
    |zero=>exact .inl ⟨w,rfl,c,rfl,(Option.some.inj e).symm⟩
    |succ k=>cases e
   .cases hA
  |pair a b=>
   rw[ee]at hA;obtain⟨d,hd,rfl⟩:=Ao.mp hA;obtain⟨k1,k2,x,y,e1,h1,h2,e2⟩:=abb e;exact .inr (.inl ⟨a,b,d,k1,k2,x,y,rfl,hd,e1,h1,h2,e2⟩)
 .obtain⟨u,hu,rfl⟩:=Ao.mp hA;obtain⟨x,hx,ex⟩:=tF e;exact .inr (.inr ⟨u,x,hu,hx,ex⟩)
def Uw(G:WG g ws)(hj:j<t.size)(hi:i<g.length)(e:en t 0 j=.word w)(h:hm g i w=true):∃m,rv g ps ask t j i 0=am m/\m<=0:=by
 rw[L6 G hj hi (by rw[oH t 0 j hj e];exact Nat.one_pos),e];refine fB (Ao.mpr ⟨[am 0],Ba _ ?_,rfl⟩);show [am 0]∈(if hm g i w=true then [[am 0]] else []);rw[if_pos h];exact .head _
theorem Uy(G:WG g ws)(hj:j<t.size)(hi:i<g.length)(e:en t 0 j=.pair a b)(hd:d∈dl g i)(h1:rv g ps ask t a d.2.1 k1=am x)(h2:rv g ps ask t b d.2.2 k2=am y):∃m,rv g ps ask t j i (k1+k2+isA ask d)=am m/\m<=QG ps ask d+(x+y):=by
 obtain⟨m,hm,lm⟩:=abc (ps:=ps) (ask:=ask) (R:=rq (kx g ps ask t t.size)) (d:=d) h1 h2;obtain⟨a',b',_,_,e1,e2,e3⟩:=oI t 0 j hj e;rw[A5]at e1 e2;subst e1 e2;obtain⟨l1,l2⟩:=uV G hi hd;obtain⟨p1,p2⟩:=bF t hj e;have q1:=G4 ∅ l1 h1;have q2:=G4 ∅ l2 h2;have q3:isA ask d<=1:=by unfold isA;split<;>lia
 have hk:k1+k2+isA ask d<fN t j:=by lia
 rw[L6 G hj hi hk,e];obtain⟨n,hn,ln⟩:=fB (l:=(Wr g ps ask (rq (kx g ps ask t t.size)) (.pair a b) i++(sy g i).un.map λu=>eH (rq (kx g ps ask t t.size) j u) (am (dM g ps i))).map λA=>A.getD (k1+k2+isA ask d) ce) (v:=m) (Ao.mpr ⟨_,Ba _ (Ao.mpr ⟨d,hd,rfl⟩),hm⟩);exact⟨n,hn,by lia⟩
theorem Ux(G:WG g ws)(hj:j<t.size)(hi:i<g.length)(hu:u∈(sy g i).un)(h1:rv g ps ask t j u k=am x):∃m,rv g ps ask t j i k=am m/\m<=dM g ps i+x:=by
 have hul:=G.dn i hi u hu;rw[L6 G hj hi (G4 hj (show u<g.length by lia) h1)];exact fB (Ao.mpr ⟨_,A1 _ (Ao.mpr ⟨u,hu,rfl⟩),G8 h1⟩)
def gb(g:O Sy)(ps:O Int)(ask:Str)(t:Tr):O OI:=my ((kx g ps ask t t.size).getD (t.size-1) []) t.ay.length
def Nu:(gb g ps ask t).length=t.ay.length:=by unfold gb my;rw[Af,Bm]
theorem Ql(hi:i<g.length)(h:rv g ps ask t (t.size-1) i k=am v):∃m,(gb g ps ask t).getD k ce=am m/\m<=v:=by
 have hs:=t.size_pos;have hk:=G4 ∅ hi h;rw[uc]at hk;have hr:=(kR g ps ask t t.size).row (t.size-1) ∅;unfold gb my;rw[Ae,Ah,AJ hk];show ∃m,dr _=am m/\_;refine fB (Ao.mpr ⟨rq (kx g ps ask t t.size) (t.size-1) i,?_,h⟩);unfold rq;rw[Ae (i:=i),Ad ∅];exact Cp _
theorem G7(h:(gb g ps ask t).getD k ce=am v):∃i,i<g.length/\rv g ps ask t (t.size-1) i k=am v:=by
 have hs:=t.size_pos;have hr:=(kR g ps ask t t.size).row (t.size-1) ∅;unfold gb my at h;rw[Ae,Ah]at h;rcases Bz k t.ay.length with hk|hk
 .rw[AJ hk]at h;have h:dr _=am v:=h;obtain⟨A,hA,e⟩:=Ao.mp (eR h);obtain⟨i,hi⟩:=C2.mp hA;have hil:=(Aj.mp hi).1;refine⟨i,by lia,?_⟩;unfold rv rq;rw[Ae (i:=i),hi];exact e
 .rw[Ar (by rw[Bm];exact hk)]at h;cases h
end
inductive WT where
 |lf (p:List Nat) (i:Nat)
 |nd (p:List Nat) (i:Nat) (nm:Str) (a b:WT)
namespace WT
def path:WT->O Nat
 |.lf p i=>p++[i]
 |.nd p i _ _ _=>p++[i]
def at':WT->Nat
 |.lf _ i=>i
 |.nd _ i _ _ _=>i
def iM:WT->Str
 |.lf _ _=>"found"
 |.nd _ _ nm _ _=>nm
def kids:WT->O WT
 |.lf _ _=>[]
 |.nd _ _ _ a b=>[a,b]
def pv:WT->PV
 |.lf p i=>.tup [.tup (aB (p++[i])),.str "found"]
 |.nd p i nm a b=>.tup [.tup (aB (p++[i])),.str nm,a.pv,b.pv]
def size:WT->Nat
 |.lf _ _=>1
 |.nd _ _ _ a b=>a.size+b.size+1
def depth:WT->Nat
 |.lf _ _=>0
 |.nd _ _ _ a b=>max a.depth b.depth+1
def Qy(u:WT):u.pv=.tup (.tup (aB u.path)::.str u.iM::u.kids.map pv):=by cases u<;>rfl
def U3(u:WT):∃p,u.path=p++[u.at']:=by cases u<;>exact⟨_,rfl⟩
def size_pos(u:WT):0<u.size:=by cases u<;>simp[size]
def bI(l:O WT):Nat:=(l.map size).sum
def Nn(u:WT):u.size=bI u.kids+1:=by cases u<;>simp[size,bI,kids]
theorem lW(l:O WT):l.length<=bI l:=by
 induction l with
 |nil=>exact Al _
 |cons x l ih=>
  have e2:bI (x::l)=x.size+bI l:=rfl;have:=x.size_pos;rw[Au,e2];lia
def pW(l m:O WT):bI (l++m)=bI l+bI m:=by simp[bI]
def HE(u:WT):u.kids.length<=2:=by cases u<;>simp[kids]
def ajd(u:WT):eJ (.tup (aB u.path)::.str u.iM::u.kids.map pv) (am 2) ce=u.kids.map pv:=by
 have:=SY (.tup (aB u.path)::.str u.iM::u.kids.map pv) (a:=2) (by simp);rw[show((2:Nat):Int)=2 from rfl]at this;rw[this];rfl
end WT
theorem qg{c:α->PV}{k:α->PV}:∀{l:List α},(∀x∈l,f (c x)=.ret (k x))->bx (l.map c) f=.ret (l.map k)
 |[],_=>rfl
 |x::r,h=>by
  show bn (f (c x)) (λy=>bn (bx (r.map c) f) λm=>ca (y::m))=_;rw[h x (.head _),qg λy hy=>h y (.tail _ hy)];rfl
theorem Ii{f g:α->Option β}:∀{l:List α},(∀x∈l,f x=g x)->l.filterMap f=l.filterMap g
 |[],_=>rfl
 |x::l,h=>by rw[AL,AL,h x (.head _),Ii λy hy=>h y (.tail _ hy)]
def pf(f:Nat->Nat):O Nat->Nat->O Nat
 |[],_=>[]
 |x::r,i=>if f x=f (r.headD i) then pf f r i else f x::pf f r i
def wm(f:Nat->Nat):WT->WT
 |.lf p i=>.lf (pf f p i) (f i)
 |.nd p i nm a b=>.nd (pf f p i) (f i) nm (wm f a) (wm f b)
structure WX(g:List Sy) where
 top:Nat
 ht:Nat->Nat
 le:∀i,i<g.length->ht i<=top
 dn:∀i,i<g.length->∀u∈(sy g i).un,ht u<ht i
 few:g.length*2 ^ top<=600
 len:g.length<=30
 six:top<=6
def ke(g:O Sy)(t:Tr):Prop:=Nonempty (WX g)/\t.size<=7
def V6(t:Tr):(gS t).length=t.size:=by unfold gS;rw[Af,Bm]
theorem JZ(hz:t.size<=7):Nonempty (WX (gS t)):=by
 have G:WG (gS t) t.ay:=wI ∅;have hl:=V6 t;exact⟨⟨6,λi=>i,λi hi=>by lia,λi hi u hu=>G.dn i hi u hu,by rw[hl];lia,by lia,by lia⟩⟩
theorem NS(D:DD t ds)(hz:t.size<=7)(hb:(aL t ds).length<=4):Nonempty (WX (dS t ds (aL t ds))):=by
 have nd:=gk t ds (aL t ds) (aL t ds).length;have ok:=D.ok;have ll:=gI t ds (aL t ds) (aL t ds).length;have lt:=@fi t ds (aL t ds) (aL t ds).length;unfold okD at ok;have hS:∀i p,(aN t ds (aL t ds) (aL t ds).length)[i]?=am p->sy (dS t ds (aL t ds)) i=⟨JO (en t 0 p.1) p.1,p.2,(IG (en t 0 p.1) p.1 (ds.getD p.1 0) ((aL t ds).getD p.2 0)).map λx=>(aN t ds (aL t ds) (aL t ds).length).idxOf (x,p.2-1),Yo (aN t ds (aL t ds) (aL t ds).length) p.1 p.2⟩:=λi p hp=>by
  unfold sy dS;rw[Ae,Ah,hp];rfl
 have hL:(dS t ds (aL t ds)).length=(aN t ds (aL t ds) (aL t ds).length).length:=SW t ds _;have Ŋ:=DJ hb hz;generalize aN t ds (aL t ds) (aL t ds).length=L at *;have get:∀i,i<(dS t ds (aL t ds)).length->∃p,L[i]?=am p/\p∈L:=λi hi=>by
  rw[hL]at hi;exact⟨L[i],Ad hi,Cp hi⟩
 refine⟨⟨3,λi=>(L.getD i (0,0)).2,λi hi=>?_,λi hi u hu=>?_,by rw[hL];lia,by rw[hL];lia,by lia⟩⟩
 .obtain⟨p,hp,hm⟩:=get i hi;have:=(lt hm).1;show(L.getD i (0,0)).2<=3;rw[Ae,hp];show p.2<=3;lia
 .obtain⟨p,hp,hm⟩:=get i hi;rw[hS i p hp]at hu;obtain⟨x,hx,rfl⟩:=Ao.mp hu;obtain⟨h1,h2⟩:=ok p hm x hx;show(L.getD _ (0,0)).2<(L.getD i (0,0)).2;rw[Ae,Ae,hp,zW h2];show p.2-1<p.2;lia
def xZ(k:Nat):WT->WT
 |.lf p i=>.lf (k::p) i
 |.nd p i nm a b=>.nd (k::p) i nm a b
def wD(g:O Sy)(R:Nat->Nat->O WT)(e:Ent)(i:Nat):O WT:=match e with
 |.word w=>if hm g i w=true then [.lf [] i] else []
 |.pair a b=>(Jf g i).flatMap λd=>(R a d.2.1).flatMap λone=>(R b d.2.2).map λo=>.nd [] i d.1 one o
def wy(g:O Sy)(es:O Ent):Nat->Nat->Nat->O WT
 |0,_,_=>[]
 |n+1,j,i=>wD g (wy g es n) (esD es j) i++(sy g i).un.flatMap λu=>(wy g es n j u).map (xZ i)
theorem jS{f h:α->List β}:∀{l:List α},(∀x∈l,f x=h x)->l.flatMap f=l.flatMap h
 |[],_=>rfl
 |x::l,H=>by rw[Bo,Bo,H x (.head _),jS λy hy=>H y (.tail _ hy)]
def k6(G:WG g ws)(h:i<g.length)(hd:d∈Jf g i):d.2.1<g.length/\d.2.2<g.length:=uV G h ((jg g i).mem_iff.mp hd)
def Z1(hd:d∈Jf g i):HN d.1:=Yi ((jg g i).mem_iff.mp hd)
def GK(G:WG g ws){R R':Nat->Nat->O WT}(hi:i<g.length)(he:M8 n e)(h:∀a x,a<n->x<g.length->R a x=R' a x):wD g R e i=wD g R' e i:=by
 cases e with
 |word w=>rfl
 |pair a b=>
  refine jS λd hd=>?_;obtain⟨h1,h2⟩:=k6 G hi hd;rw[h a _ he.1 h1,h b _ he.2 h2]
theorem rT(G:WG g ws)(Lo:WX g)(t:Tr):∀(n m j i:Nat),j<t.size->i<g.length->j*7+Lo.ht i<n->j*7+Lo.ht i<m->wy g (t.nd 0) n j i=wy g (t.nd 0) m j i
 |0,_,_,_,_,_,h,_=>absurd h (Fq _)
 |_+1,0,_,_,_,_,_,h=>absurd h (Fq _)
 |n+1,m+1,j,i,hj,hi,h1,h2=>by
  rw[wy,wy,KP hj];rw[GK G hi (uS t hj) λa x ha hx=>by
   have:=Lo.le x hx;have:=Lo.six;exact rT G Lo t n m a x ∅ hx ∅ ∅]
  congr 1;refine jS λu hu=>?_;have:=G.dn i hi u hu;have:=Lo.dn i hi u hu;rw[rT G Lo t n m j u hj ∅ ∅ ∅]
theorem acu(G:WG g ws)(Lo:WX g)(hn:t.size*7<=n)(hj:j<t.size)(hi:i<g.length):wy g (t.nd 0) n j i=wD g (wy g (t.nd 0) n) (en t 0 j) i++(sy g i).un.flatMap λu=>(wy g (t.nd 0) n j u).map (xZ i):=by
 have:=Lo.le i hi;have:=Lo.six;cases n with
 |zero=>lia
 |succ n=>
  rw[wy,KP hj];rw[GK (R':=wy g (t.nd 0) (n+1)) G hi (uS t hj) λa x ha hx=>by
   have:=Lo.le x hx;exact rT G Lo t n (n+1) a x ∅ hx ∅ ∅]
  congr 1;refine jS λu hu=>?_;have:=G.dn i hi u hu;have:=Lo.dn i hi u hu;rw[rT G Lo t n (n+1) j u hj ∅ ∅ ∅]
def f9(g:O Sy)(t:Tr):Nat->Nat->O WT:=wy g (t.nd 0) 50
theorem kI(G:WG g ws)(hn:ke g t)(hj:j<t.size)(hi:i<g.length):f9 g t j i=wD g (f9 g t) (en t 0 j) i++(sy g i).un.flatMap λu=>(f9 g t j u).map (xZ i):=by
 unfold f9;obtain⟨⟨Lo⟩,h7⟩:=hn;exact acu G Lo ∅ hj hi
def wf(g:O Sy):WT->Prop
 |.lf p _=>∀k∈p,k<g.length
 |.nd p _ nm a b=>(∀k∈p,k<g.length)/\HN nm/\wf g a/\wf g b
def YX(hk:k<g.length):∀{w:WT},wf g w->wf g (xZ k w)
 |.lf p i,h=>λx hx=>by rcases AB.mp hx with rfl|hx;exact hk;exact h x hx
 |.nd p i nm a b,h=>⟨λx hx=>by rcases AB.mp hx with rfl|hx;exact hk;exact h.1 x hx,h.2⟩
def GU(k:Nat)(w:WT):(xZ k w).path=k::w.path:=by cases w<;>rfl
def Nh(k:Nat)(w:WT):(xZ k w).depth=w.depth:=by cases w<;>rfl
theorem GJ(G:WG g ws)(t:Tr):∀(n j i:Nat),j<t.size->i<g.length->∀w∈wy g (t.nd 0) n j i,wf g w/\w.path.length<=i+1/\w.depth<=j
 |0,_,_,_,_,_,h=>by cases h
 |n+1,j,i,hj,hi,w,h=>by
  rw[wy,KP hj]at h;have iY:=uS t hj;rcases AO.mp h with h|h
  .revert h iY;cases en t 0 j with
   |word x=>
    intro _ h;have h:w∈(if hm g i x=true then [WT.lf [] i] else []):=h
    split at h
    .rw[AM.mp h];exact⟨λk hk=>(by cases hk),by show([]++[i]).length<=_;simp,A9 _⟩
    .cases h
   |pair a b=>
    intro Pa h;obtain⟨d,hd,h⟩:=AZ.mp h;obtain⟨one,h1,h⟩:=AZ.mp h;obtain⟨o,h2,rfl⟩:=Ao.mp h;obtain⟨x1,x2⟩:=k6 G hi hd;have Pa:a<j/\b<j:=Pa;have r1:=GJ G t n a _ ∅ x1 one h1;have r2:=GJ G t n b _ ∅ x2 o h2;exact⟨⟨λk hk=>(by cases hk),Z1 hd,r1.1,r2.1⟩,by show([]++[i]).length<=_;simp,by show max one.depth o.depth+1<=j;lia⟩
  .obtain⟨u,hu,h⟩:=AZ.mp h;obtain⟨v,hv,rfl⟩:=Ao.mp h;have:=G.dn i hi u hu;have r:=GJ G t n j u hj ∅ v hv;exact⟨YX hi r.1,by rw[GU,Au];lia,by rw[Nh];exact r.2.2⟩
theorem gF{c:α->PV}{f:PV->O PV->W (O PV)}{h:α->O WT}(B:Nat):∀(l:List α),(∀x∈l,∀s:O WT,s.length+(h x).length<=B->(f (c x) (s.map WT.pv)).run (·=(s++h x).map WT.pv))->∀(s:O WT),s.length+(l.flatMap h).length<=B->(bU (l.map c) (s.map WT.pv) f).run (·=(s++l.flatMap h).map WT.pv)
 |[],_,s,_=>by show _=_;rw[List.flatMap_nil,C0]
 |x::l,H,s,hB=>by
  rw[Bo,Ak]at hB;show(f (c x) (s.map WT.pv)).run _;refine Ix _ (λr hr=>?_) (H x (.head _) s ∅);subst hr;have:=gF B l (λy hy=>H y (.tail _ hy)) (s++h x) (by rw[Ak];lia);rw[AA,<- Bo]at this;exact this
def zu{l m:O PV}(h:l.length+m.length<=1000):Im l m=.ret (l++m):=re (bM h)
theorem YY{w:WT}(h:w.path.length<=900):(w2 addW (bn (w2 addW (bn (ca (.int (k:Int))) λag2=>ca (.tup [ag2])) (bJ (bn (ca w.pv) aw) (ca (.int 0)))) λag1=>ca (.tup [ag1])) (w.pv\λag0=>bn (bn (ca (.int 1)) part) λah8=>ce\λah4=>vF ag0 ah8 ah4))=.ret (xZ k w).pv:=by
 rw[w.Qy];have k0:cR (PV.tup (aB w.path)::.str w.iM::w.kids.map WT.pv) 0=am (.tup (aB w.path)):=by
  show cR _ ((0:Nat):Int)=_;exact cQ rfl
 have hc:eJ (PV.tup (aB w.path)::.str w.iM::w.kids.map WT.pv) (am 1) ce=.str w.iM::w.kids.map WT.pv:=by
  have:=SY (PV.tup (aB w.path)::.str w.iM::w.kids.map WT.pv) (a:=1) (by simp);rw[show((1:Nat):Int)=1 from rfl]at this;rw[this];rfl
 have hk:=w.HE;simp only[lc,aK,bT,k0,Da,MP,re (show [PV.int (k:Int)].length+(aB w.path).length<=sizeLine from bM (by rw[dP];simp;lia)),me,uN,hc,re (show [PV.tup ([PV.int (k:Int)]++aB w.path)].length+(PV.str w.iM::w.kids.map WT.pv).length<=sizeLine from bM (by simp;lia))];rw[(xZ k w).Qy,GU];have e1:(xZ k w).iM=w.iM:=by cases w<;>rfl
 have e2:(xZ k w).kids=w.kids:=by cases w<;>rfl
 rw[e1,e2];rfl
def cN(g:O Sy)(t:Tr)(j i:Nat):Nat:=(f9 g t j i).length
def tI{γ:Type}(f:α->β->γ)(l:List α)(m:List β):(l.flatMap λx=>m.map (f x)).length=l.length*m.length:=by
 induction l with
 |nil=>simp
 |cons x l ih=>rw[Bo,Ak,ih,Af,Au,Eg,F7]
def Bit(g:O Sy)(t:Tr):Prop:=∀j i,j<t.size->i<g.length->Builtin.Int.intBits ((cN g t j i:Nat):Int)<=2 ^ 20
def S8(G:WG g ws)(hn:ke g t)(hj:j<t.size)(hi:i<g.length):cN g t j i=(wD g (f9 g t) (en t 0 j) i).length+((sy g i).un.map (cN g t j)).sum:=by
 show(f9 g t j i).length=_;rw[kI G hn hj hi,Ak,FR];congr 2;exact Bc λu _=>Af _
def Hj(g:O Sy)(t:Tr)(a b i:Nat):(wD g (f9 g t) (.pair a b) i).length=((Jf g i).map λd=>cN g t a d.2.1*cN g t b d.2.2).sum:=by
 unfold wD;simp only;rw[FR];congr 1;exact Bc λd _=>tI _ _ _
theorem afb(G:WG g ws)(hn:ke g t)(TJ:g.length<=30):∀j i,j<t.size->i<g.length->cN g t j i<=2 ^ (2*i+130*3 ^ j):=qm λj i hj hi xu Jg=>by
 have own:(wD g (f9 g t) (en t 0 j) i).length<=2 ^ (130*3 ^ j):=by
  have iY:=uS t hj;revert iY;cases en t 0 j with
  |word w=>
   intro _;show(if hm g i w=true then [WT.lf [] i] else []).length<=_;have:=Nat.one_le_two_pow (n:=130*3 ^ j)
   split<;>simp<;>lia
  |pair a b=>
   intro Pa;have Pa:a<j/\b<j:=Pa;rw[Hj];cases j with
   |zero=>lia
   |succ k=>
    have h3:∀c,c<k+1->3 ^ c<=3 ^ k:=λc hc=>AE ∅ ∅;have one:3 ^ 0<=3 ^ k:=AE (show 0<3 by lia) (A9 k);have bnd:∀c x,c<k+1->x<g.length->cN g t c x<=2 ^ (60+130*3 ^ k):=λc x hc hx=>by
     refine AD (xu c x hc hx) (AE ∅ ?_);have:=h3 c hc;lia
    have hs:=PM (l:=(Jf g i).map λd=>cN g t a d.2.1*cN g t b d.2.2) (m:=2 ^ (60+130*3 ^ k)*2 ^ (60+130*3 ^ k)) λx hx=>by
     obtain⟨d,hd,rfl⟩:=Ao.mp hx;obtain⟨h1,h2⟩:=k6 G hi hd;exact DJ (bnd _ _ Pa.1 h1) (bnd _ _ Pa.2 h2)
    refine AD hs ?_;rw[Af,(jg g i).length_eq,<- Gf];refine AD (Cd _ (show(dl g i).length<=2 ^ 6 from AD (zH G hi) ⋯)) ?_;rw[<- Gf];refine AE ∅ ?_;rw[Ei];lia
 rw[S8 G hn hj hi];generalize 130*3 ^ j=e at own Jg ⊢;cases i with
 |zero=>
  have:(sy g 0).un=[]:=by
   cases h:(sy g 0).un with
   |nil=>rfl
   |cons u l=>have:=G.dn 0 hi u (by rw[h];exact .head _);lia
  rw[this];simpa using own
 |succ k=>
  have hs:=PM (l:=(sy g (k+1)).un.map (cN g t j)) (m:=2 ^ (2*k+e)) λx hx=>by
   obtain⟨u,hu,rfl⟩:=Ao.mp hx;have hu:=G.dn _ hi u hu;refine AD (Jg u hu) (AE ∅ ∅)
  rw[Af]at hs;have h2:=Cd (2 ^ (2*k+e)) (G.vm _ hi);have h3:2 ^ e<=2 ^ (2*k+e):=AE ∅ ∅;have h4:2 ^ (2*(k+1)+e)=4*2 ^ (2*k+e):=by
   rw[show 2*(k+1)+e=2+(2*k+e) by lia,Gf]
  lia
variable{x:PV}{Q:PV->Prop}
theorem abp(G:WG g ws)(hn:ke g t)(TJ:g.length<=30)(hz:t.size<=7):Bit g t:=λj i hj hi=>by
 have h:=afb G hn TJ j i hj hi;have h3:3 ^ j<=3 ^ 6:=AE ∅ ∅;have h3:3 ^ j<=729:=h3;refine AD (m:=2*i+130*3 ^ j+1) (intBits_le_iff.mpr ?_) ?_
 .rw[Int.natAbs_natCast,Ei];have:=Nat.two_pow_pos (2*i+130*3 ^ j);lia
 .have:(2:Nat) ^ 20=1048576:=by decide
  lia
theorem WC(p:O Nat)(i:Nat):eJ (aB (p++[i])) ce (am (-1))=aB p:=by
 rw[Rf];have e:HT.dD (aB p++aB [i]).length (aB p++aB [i]).length (am (-1))=(aB p).length:=by
  simp[HT.dD];try lia
 unfold eJ;rw[HT.G1,e];simp
def sc(c:Int):OI->OI:=Option.map (c*·)
theorem tj{S:Type}{N:Nat}{c:S->W Bool}{b:S->W S}{Q:S->Prop}(I:Nat->S->Prop){s:S}(hn:n<N)(h0:I n s)(hs:∀n s,I n s->(c s).run λk=>if k=true then (b s).run (λs'=>∃m,m<n/\I m s') else Q s):(FL.kJ N c b s).run Q:=by
 have key:∀k n s,n<k->I n s->(iA c b k s).run Q:=by
  intro k
  induction k with
  |zero=>intro n s h;lia
  |succ k ih=>
   intro n s h hI;show(bn (c s) _).run Q;rw[f8];refine(c s).mono (λx q=>?_) (hs n s hI);cases x with
   |true=>
    simp at q;show(bn (b s) _).run Q;rw[f8];exact(b s).mono (λs' ⟨m,h1,h2⟩=>ih m s' ∅ h2) q
   |false=>simpa using q
 exact⟨N,Al _,key N n s hn h0⟩
def Sa{l:O Tr}{p:Tr}:((l.take j++p::l.drop j).flatMap Tr.ay).Perm (p.ay++l.flatMap Tr.ay):=by
 have e:l.flatMap Tr.ay=(l.take j).flatMap Tr.ay++(l.drop j).flatMap Tr.ay:=by rw[<- Dm,Fx]
 rw[e,Dm,Bo,<- AA,<- AA];exact BD.append_right _
theorem aao{l:O PV}{v:PV}(hi:i<=l.length)(hl:l.length<=1000):aap l (.int (i:Int)) v=.ret (l.take i++v::l.drop i):=by
 show W.eK _ _=_;rw[re ⟨by lia,by lia,by have:=bM hl;rw[bb]at *;lia⟩];rfl
theorem HL{us:O Tr}(hw:us≠[])(h8:us.length<=90)(q:∀t:Tr,t.ay.Perm (us.flatMap Tr.ay)->Q t.pv)(hx:(bn (ca x) aw)=.ret (us.map Tr.pv)):(cj x).run Q:=by
 have hp:=Dl.mpr hw;unfold cj;rw[f8,hx,nn,f8];refine tj (λn s=>∃ts:O Tr,s=ts.map Tr.pv/\ts.length=n+1/\n<=90/\(ts.flatMap Tr.ay).Perm (us.flatMap Tr.ay)) (n:=us.length-1) ∅ ⟨us,rfl,by lia,by lia,.refl _⟩ ?_;rintro n s ⟨ts,rfl,hl,hn,XU⟩;have eg:of2 ZN (.int ((ts.map Tr.pv).length:Int)) (.int 1)=.ret (.bl (decide (1<ts.length))):=by
  rw[Sn];congr 2;rw[Du];simp;lia
 simp only[lc,f8,zw,eg,cb,nn];by_cases h1:1<ts.length
 .rw[decide_eq_true h1,if_pos rfl];simp only[Af,dg (show(0:Int)<ts.length by lia) ∅];refine cG λd d0 d1=>?_;obtain⟨j,rfl⟩:∃j:Nat,d=(j:Int):=⟨d.toNat,by lia⟩;obtain⟨a,ha⟩:∃a,ts[j]?=am a:=⟨_,Ad ∅⟩;have el:(ts.eraseIdx j).length=ts.length-1:=by rw[D3];simp;lia
  simp only[tN (v:=a.pv) (by rw[Ah,ha];rfl) (by rw[Af];lia),nn,xf,zw,Af,el,dg (show(0:Int)<((ts.length-1:Nat):Int) by lia) ∅];refine cG λe e0 e1=>?_;obtain⟨m,rfl⟩:∃m:Nat,e=(m:Int):=⟨e.toNat,by lia⟩;obtain⟨b,hb⟩:∃b,(ts.eraseIdx j)[m]?=am b:=⟨_,Ad ∅⟩;have İ:((ts.eraseIdx j).eraseIdx m).length=ts.length-2:=by rw[D3,el];split<;>lia
  simp only[tN (v:=b.pv) (by rw[Ah,hb];rfl) (by rw[Af];lia),nn,xf,zw,Af,İ,cm,dg (show(0:Int)<((ts.length-2:Nat):Int)+1 by lia) ∅];refine cG λf f0 f1=>?_;obtain⟨k,rfl⟩:∃k:Nat,f=(k:Int):=⟨f.toNat,by lia⟩;simp only[lc,f8,nn,aao (l:=((ts.eraseIdx j).eraseIdx m).map Tr.pv) (i:=k) (by rw[Af,İ];lia) (by rw[Af,İ];lia),nn];refine⟨n-1,by lia,((ts.eraseIdx j).eraseIdx m).take k++(.node a b)::((ts.eraseIdx j).eraseIdx m).drop k,by simp[Tr.pv,FV,List.map_drop],?_,by lia,?_⟩
  .have:=Fx k ((ts.eraseIdx j).eraseIdx m);have:=congrArg Ck this;rw[Ak]at this;rw[Ak,Au];lia
  .refine Sa.trans (List.Perm.trans ?_ ((uL ha).trans XU));show((a.ay++b.ay)++_).Perm _;rw[AA];exact(uL hb).append_left _
 .rw[decide_eq_false h1];simp
  match ts,hl,XU,h1 with
  |[t],_,XU,_=>
   have i0:cR [t.pv] 0=am t.pv:=rfl;simp[i0];exact q t (by simpa using XU)
  |_::_::_,_,_,h1=>exact absurd (by simp) h1
theorem xh{S:PV->Prop}:∀{l:O PV},(∀x∈l,∀R:PV->Prop,(∀v,S v->R v)->(f x).run R)->∀{Q:O PV->Prop},(∀m,m.length=l.length->(∀v∈m,S v)->Q m)->(bx l f).run Q
 |[],_,Q,q=>q [] rfl (λ_ h=>nomatch h)
 |x::l,h,Q,q=>by
  show(bn (f x) λy=>bn (bx l f) λm=>ca (y::m)).run Q;refine h x (.head _) _ λv hv=>?_;refine xh (λy hy=>h y (.tail _ hy)) λm hm hs=>?_;exact q (v::m) (by simp[hm]) λu hu=>by
   rcases AB.mp hu with rfl|hu
   .exact hv
   .exact hs u hu
theorem Hx:∀{m:O PV}{ls:O Str},(∀v∈m,∃w∈ls,v=PV.str w)->∃ws:O Str,m=ws.map PV.str/\∀w∈ws,w∈ls
 |[],_,_=>⟨[],rfl,λ_ h=>nomatch h⟩
 |v::m,ls,h=>by
  obtain⟨w,hw,rfl⟩:=h v (.head _);obtain⟨ws,rfl,h2⟩:=Hx λu hu=>h u (.tail _ hu);exact⟨w::ws,rfl,λx hx=>by
   rcases AB.mp hx with rfl|hx
   .exact hw
   .exact h2 x hx⟩
theorem JL{l:O PV}(h0:l≠[])(h1:l.length<=1000)(q:∀x∈l,Q x):(gE (.cl l)).run Q:=by
 have hp:=Dl.mpr h0;unfold gE;simp only[lc,f8,bj,d5,dg (show(0:Int)<l.length by lia) ∅,nn];refine cG λd d0 d1=>?_;obtain⟨j,rfl⟩:∃j:Nat,d=(j:Int):=⟨d.toNat,by lia⟩;obtain⟨a,ha⟩:∃a,l[j]?=am a:=⟨_,Ad ∅⟩;simp only[bT,cQ ha,Da,nn];exact q a (Bd ha)
theorem WB(l:O PV)(h:a<=l.length):eJ l ce (am (a:Int))=l.take a:=by
 unfold eJ;have e1:HT.dD l.length 0 (ce:Option Int)=0:=rfl;have e2:HT.dD l.length l.length (am (a:Int))=a:=by
  unfold HT.dD;simp only[];rw[if_neg ∅];lia
 rw[e1,e2];simp
def Wa(ws:O Str):(ws.map Tr.leaf).flatMap Tr.ay=ws:=by
 rw[List.flatMap_map];simp[Tr.ay,List.flatMap_singleton']
def Rh(ws:O Str):ws.map PV.str=(ws.map Tr.leaf).map Tr.pv:=by simp[Tr.pv]
def qP(hw:ws≠[])(h8:ws.length<=90)(q:∀t:Tr,t.ay.Perm ws->Q t.pv):(cj (.cl (ws.map PV.str))).run Q:=
 HL (us:=ws.map Tr.leaf) (by simpa using hw) (by simpa using h8) (λt ht=>q t (by rw[Wa]at ht;exact ht)) (by rw[Rh];simp)
theorem jO:∀(n:Nat) (t:Tr),t.depth<n->t.size<=400->(a9 n t.pv).le (.ret ((t.nd 0).map Ent.pv))
 |0,_,h,_=>by lia
 |n+1,.leaf w,_,_=>λQ q=>by
  unfold a9;simp[Tr.pv];exact q
 |n+1,.node a b,h,hz=>λQ q=>by
  have hs:(Tr.node a b).size=a.size+b.size+1:=rfl;have hpa:=a.size_pos;have hpb:=b.size_pos;have hd:a.depth<n/\b.depth<n:=by simp[Tr.depth]at h;lia
  unfold a9;have i0:cR [a.pv,b.pv] 0=am a.pv:=rfl;have i1:cR [a.pv,b.pv] 1=am b.pv:=rfl;simp only[Tr.pv,lc,f8,gB,gA,cL,Ay,if_false,aK,bT,i0,i1,Da];refine W.le.use (jO n a hd.1 ∅) ?_;simp only[nn];refine W.le.use (jO n b hd.2 ∅) ?_;simp only[nn,bj];refine d4 (λi s=>s=(((b.nd 0).take i).map (Y2 a.size)).map Ent.pv) (by simp) (λi x s hx hs=>?_) (λs hs=>?_)
  .subst hs;rw[Ah]at hx;cases e:(b.nd 0)[i]? with
   |none=>rw[e]at hx;cases hx
   |some en=>
    rw[e]at hx;have ex:=Option.some.inj hx;subst ex;have hi:i<b.size:=by have:=(Aj.mp e).1;rw[b.bL]at this;exact this
    have et:(b.nd 0).take (i+1)=(b.nd 0).take i++[en]:=by rw[FH,e];rfl
    have al:∀y,gD ((((b.nd 0).take i).map (Y2 a.size)).map Ent.pv) y=.ret ((((b.nd 0).take i).map (Y2 a.size)).map Ent.pv++[y]):=λy=>cV (by simp;lia);cases en with
    |word w=>
     simp only[Ent.pv,lc,f8,o8,o7,cL,al,nn,et,if_true];simp[Y2,Ent.pv]
    |pair u v=>
     have j0:cR [PV.int (u:Int),PV.int (v:Int)] 0=am (.int u):=rfl;have j1:cR [PV.int (u:Int),PV.int (v:Int)] 1=am (.int v):=rfl;simp only[Ent.pv,lc,f8,gB,gA,cL,Ay,if_false,aK,bT,j0,j1,Da,cm,d5,Af,a.bL,al,nn,et];simp[Y2,Ent.pv]
  .subst hs;rw[BM (by rw[Af];exact Al _)];have es:(b.nd 0).map (Y2 a.size)=b.nd a.size:=by rw[<- JQ b 0 a.size,A5]
   rw[es];simp only[lc,f8,iu,qz,d5,cm,Af,a.bL,b.bL,nn,f7 (l:=(a.nd 0).map Ent.pv) (m:=(b.nd a.size).map Ent.pv) (by simp[a.bL,b.bL];lia)];rw[f7 (by simp[a.bL,b.bL];lia)];have e:(Tr.node a b).nd 0=a.nd 0++b.nd a.size++[.pair (a.size-1) (a.size+b.size-1)]:=by rw[Tr.nd];simp
   rw[e]at q;have e1:((a.size:Int)-1)=((a.size-1:Nat):Int):=by lia
   have e2:((a.size:Int)+(b.size:Int)-1)=((a.size+b.size-1:Nat):Int):=by lia
   rw[e1,e2];simpa[Ent.pv]using q
theorem WD(ds:O Int)(i j:Option Int):∃es:O Int,eJ (ds.map PV.int) i j=es.map PV.int/\es.length<=ds.length:=by
 unfold eJ;rw[<- List.map_drop,<- FV];exact⟨_,rfl,by rw[Co,CP];lia⟩
variable{a b:Tr}{o:Nat}
def WJ(B:Int):PV->Option PV
 |.int c=>if B<=c then am (.int c) else ce
 |_=>ce
theorem Ik(B:Int):∀es:O Int,∃ms:O Int,(es.map PV.int).filterMap (WJ B)=ms.map PV.int
 |[]=>⟨[],rfl⟩
 |c::es=>by
  obtain⟨ms,h⟩:=Ik B es;rw[Av,AL,h];by_cases k:B<=c
  .exact⟨c::ms,by simp[WJ,k]⟩
  .exact⟨ms,by simp[WJ,k]⟩
theorem QI{Q:O PV->Prop}(q:∀s:Int,Q [.hand,.int s,.int 0]):(gq (.cl (ns.map PV.int))).run Q:=by
 obtain⟨es,he,_⟩:=WD ns ce (am 63);have ep:∀i:Int,part (.int i)=.ret (am i):=λi=>rfl;have p1:O3 10 30:=⟨by decide,by decide,by decide⟩;have p2:O3 10 18:=⟨by decide,by decide,by decide⟩;have m1:(0:Int)<10 ^ (30:Int).toNat:=by decide +kernel
 unfold gq;simp only[lc,f8,d5,cm,iu,ep,nn,he];refine d4 (λi s=>∃k:Int,s=.int k) ⟨_,rfl⟩ (λi x s hx hs=>?_) (λs hs=>?_)
 .obtain⟨k,rfl⟩:=hs;rw[Ah]at hx;cases e:es[i]? with
  |none=>rw[e]at hx;cases hx
  |some c=>
   rw[e]at hx;have:=Option.some.inj hx;subst this;simp only[lc,KN,re (mulR (a:=k) (b:=999979) ∅),KL,re p1,aa0,re m1,cm,re (show(0:Int)<2305843009213693951 by decide),nn];exact⟨_,rfl⟩
 .obtain⟨k,rfl⟩:=hs;refine adP (WJ ((10:Int) ^ (18:Int).toNat)) (λx hx=>?_) ?_
  .obtain⟨c,hc,rfl⟩:=Ao.mp hx;simp only[lc,KL,re p2,aeS,cb];by_cases h:(10:Int) ^ (18:Int).toNat<=c
   .rw[decide_eq_true h];show _=ca (if _ then _ else _);rw[if_pos h];rfl
   .rw[decide_eq_false h];show _=ca (if _ then _ else _);rw[if_neg h];rfl
  .have:=Ik ((10:Int) ^ (18:Int).toNat) es;simp only[lc,W.sg,nn];exact⟨this,q k⟩
theorem Hc(q:∀ps:O Int,ps.length=4->(∀p∈ps,0<=p/\p<=10 ^ 29)->Q (.tup (br ps))):dY.run Q:=by
 unfold dY;have p2:O3 10 25:=⟨by decide,by decide,by decide⟩;simp only[f8,nn,fc,re (cg (i:=0) (j:=4) ∅ ∅)];refine o5 (λi s=>∃ps:O Int,s=br ps/\ps.length=i/\∀p∈ps,0<=p/\p<=10 ^ 29) ⟨[],rfl,rfl,by simp⟩ ?_ ?_
 .rintro i s hi ⟨ps,rfl,hl,hp⟩;simp only[lc,f8,nn,KL,re p2,dg (show(0:Int)<9 by decide) ⋯];refine cG λa a0 a1=>?_;simp only[cm,nn,lc,f8,dg (show(0:Int)<10 by decide) ⋯];refine cG λb b0 b1=>?_;simp only[nn,lc,f8,dg (show(0:Int)<1001 by decide) ⋯];refine cG λc c0 c1=>?_;refine JL (by simp) (by simp) λx hx=>?_;obtain⟨v,rfl,hv⟩:∃v:Int,x=.int v/\0<=v/\v<=10 ^ 29:=by
   simp at hx;rcases hx with rfl|rfl|rfl|rfl|rfl|rfl|rfl|rfl|rfl
   all_goals first|exact⟨_,rfl,by lia⟩|exact⟨_,rfl,by have:=(by decide +kernel);simp at this;lia⟩
  rw[cV (by rw[fP];lia)];exact⟨ps++[v],by simp[br],by simp[hl],λp h=>by rcases AO.mp h with h|h;exact hp p h;rw[AM.mp h];exact hv⟩
 .rintro s ⟨ps,rfl,hl,hp⟩;exact q ps hl hp
theorem QJ(xs:List α):kU xs ce ce (am (-1))=xs.reverse:=by
 have hb:u8 ce ce (am (-1)) xs.length=((xs.length:Int)-1,-1,-1):=rfl;have hr:sliceRange ((xs.length:Int)-1) (-1) (-1)=(Aw xs.length).map λk=>xs.length-1-k:=by
  unfold sliceRange;have e:(if (-1:Int) > 0 then (if (xs.length:Int)-1 < -1 then (-1-((xs.length:Int)-1) + -1-1) / -1 else 0) else (if (xs.length:Int)-1 > -1 then ((xs.length:Int)-1 - -1 - -1-1) / (- -1) else 0))=(xs.length:Int):=by
   rw[if_neg ⋯]
   split
   .rw[show(- -1:Int)=1 from rfl,Int.ediv_one];lia
   .omega
  simp only[e,Bp];exact Bc λk hk=>by have:=AN.mp hk;lia
 unfold kU;rw[hb];simp only[hr];apply BF;intro i;have key:∀n,n<=xs.length->((Aw n).map λk=>xs.length-1-k).filterMap (xs[·]?)=(Aw n).filterMap λk=>xs.reverse[k]?:=λn hn=>by
  rw[Ey];exact Ii λk hk=>by
   have:=AN.mp hk;show xs[xs.length-1-k]?=_;rw[DQ ∅]
 rw[key _ (Al _)];have all:∀(ys:List α),(Aw ys.length).filterMap (λk=>ys[k]?)=ys:=λys=>by
  induction ys with
  |nil=>rfl
  |cons y ys ih=>
   rw[Au,E7,AL];simp only[List.getElem?_cons_zero,Ey];congr 1
 rw[show xs.length=xs.reverse.length by simp,all]
def At(t s:Tr)(o:Nat):Prop:=o+s.size<=t.size/\∀j,j<s.size->en t 0 (o+j)=en s o j
theorem At.l(h:At t (.node a b) o):At t a o:=by
 have hs:(Tr.node a b).size=a.size+b.size+1:=rfl;refine⟨by have:=h.1;lia,λj hj=>?_⟩;rw[h.2 j ∅,en,if_pos hj]
theorem At.r(h:At t (.node a b) o):At t b (o+a.size):=by
 have hs:(Tr.node a b).size=a.size+b.size+1:=rfl;refine⟨by have:=h.1;lia,λj hj=>?_⟩;rw[Bb,h.2 (a.size+j) ∅,en,if_neg ∅,if_pos ∅,CN]
variable{pp:O Nat}
theorem At.top(h:At t (.node a b) o):en t 0 (o+a.size+b.size)=.pair (o+a.size-1) (o+a.size+b.size-1):=by
 have hs:(Tr.node a b).size=a.size+b.size+1:=rfl;rw[Bb,h.2 (a.size+b.size) ∅,en,if_neg ∅,if_neg ∅,Bb]
abbrev FT:=O (Tr×Nat)
def rt(x:Tr×Nat):Nat:=x.2+x.1.size-1
def qo(x:Tr×Nat):O Nat:=(Aw x.1.size).map (x.2+·)
def RI(a b:Tr)(o:Nat):(qo (.node a b,o)).Perm ((o+a.size+b.size)::(qo (a,o)++qo (b,o+a.size))):=by
 have hs:(Tr.node a b).size=a.size+b.size+1:=rfl;have e:qo (.node a b,o)=(qo (a,o)++qo (b,o+a.size))++[o+a.size+b.size]:=by
  unfold qo;simp only[hs];rw[Cw,Az,List.range_add,Az,AQ];simp[Function.comp_def,Bb]
 rw[e];exact BD
structure Wk(t:Tr)(fs:FT)(pp:List Nat):Prop where
 pm:(fs.flatMap qo++pp).Perm (Aw t.size)
 at':∀x∈fs,At t x.1 x.2
 od:(pp.filter λk=>kC (en t 0 k)).Pairwise λx y=>∀a b,en t 0 y=.pair a b->x≠a/\x≠b
theorem Wk.lt{fs:FT}(h:Wk t fs pp):fs.length+pp.length<=t.size:=by
 have:=h.pm.length_eq;rw[Ak,Bm]at this;have:∀l:FT,l.length<=(l.flatMap qo).length:=λl=>by
  induction l with
  |nil=>simp
  |cons x l ih=>
   have:=x.1.size_pos;rw[Bo,Ak,Au];have:(qo x).length=x.1.size:=by unfold qo;simp
   lia
 have:=this fs;lia
def Ih{l:FT}{x:Tr×Nat}(h:l[j]?=am x):(qo x++(l.eraseIdx j).flatMap qo).Perm (l.flatMap qo):=by
 induction l generalizing j with
 |nil=>simp at h
 |cons a l ih=>cases j with
  |zero=>simp at h;subst h;simp
  |succ j=>
   simp;have:=(ih (by simpa using h)).append_left (qo a);refine List.Perm.trans ?_ this;rw[<- AA,<- AA];exact BD.append_right _
def Wk.leaf{fs:FT}(h:Wk t fs pp)(hj:fs[j]?=am (.leaf w,o)):en t 0 o=.word w/\Wk t (fs.eraseIdx j) (pp++[o]):=by
 have ha:=h.at' _ (Bd hj);have e:en t 0 o=.word w:=ha.2 0 (Nat.zero_lt_one);refine⟨e,?_,λx hx=>h.at' x (ER hx),?_⟩
 .have:=(Ih hj).symm.append_right pp;refine List.Perm.trans ?_ (this.symm.trans h.pm);have e:qo (.leaf w,o)=[o]:=by unfold qo;rfl
  rw[e,<- AA];refine List.Perm.trans BD ?_;rw[AA]
 .rw[Cs];have:[o].filter (λk=>kC (en t 0 k))=[]:=by simp[e,kC]
  rw[this,C0];exact h.od
theorem Wk.node{fs:FT}(h:Wk t fs pp)(hj:fs[j]?=am (.node a b,o)):en t 0 (o+a.size+b.size)=.pair (o+a.size-1) (o+a.size+b.size-1)/\Wk t (fs.eraseIdx j++[(a,o),(b,o+a.size)]) (pp++[o+a.size+b.size]):=by
 have ha:=h.at' _ (Bd hj);have e:=ha.top;have pa:=a.size_pos;have pb:=b.size_pos;refine⟨e,?_,λx hx=>?_,?_⟩
 .have h1:=(Ih hj).symm.append_right pp;refine List.Perm.trans ?_ (h1.symm.trans h.pm);rw[Dm];have e2:[(a,o),(b,o+a.size)].flatMap qo=qo (a,o)++qo (b,o+a.size):=by simp
  rw[e2];have:=RI a b o;generalize qo (.node a b,o)=I at *;generalize qo (a,o)++qo (b,o+a.size)=J at *;generalize (fs.eraseIdx j).flatMap qo=F at *;generalize o+a.size+b.size=k at *;refine List.Perm.trans ?_ ((this.append_right F).append_right pp).symm;show((F++J)++(pp++[k])).Perm ((k::(J++F))++pp);rw[<- AA];refine List.Perm.trans BD ?_;show(k::((F++J)++pp)).Perm (k::((J++F)++pp));exact(BD.append_right pp).cons k
 .rcases AO.mp hx with hx|hx
  .exact h.at' x (ER hx)
  .simp at hx;rcases hx with rfl|rfl
   .exact ha.l
   .exact ha.r
 .rw[Cs];have:[o+a.size+b.size].filter (λk=>kC (en t 0 k))=[o+a.size+b.size]:=by simp[e,kC]
  rw[this,D2];refine⟨h.od,List.pairwise_singleton _ _,λx hx y hy u v ey=>?_⟩;rw[AM]at hy;subst hy;rw[e]at ey;injection ey with e1 e2;have nd:=(h.pm.nodup_iff.mpr EX);have hxp:=(Bl.mp hx).1;have dj:=(C4.mp nd).2.2;have mi:∀k,k<a.size+b.size->o+k∈fs.flatMap qo:=λk hk=>AZ.mpr ⟨_,Bd hj,Ao.mpr ⟨k,AN.mpr (by show k<a.size+b.size+1;lia),rfl⟩⟩;refine⟨λz=>?_,λz=>?_⟩
  .have:=mi (a.size-1) ∅;exact dj _ this x hxp ∅
  .have:=mi (a.size+b.size-1) ∅;exact dj _ this x hxp ∅
abbrev Ny(t:Tr)(pp:O Nat):O Nat:=pp.filter λk=>kC (en t 0 k)
variable{a b d:Nat}
theorem ZW(f:α->β):∀(l:List α) (j:Nat),(l.map f).eraseIdx j=(l.eraseIdx j).map f
 |[],_=>by simp
 |_::l,0=>by simp
 |_::l,j+1=>by simp[ZW f l j]
def JR(l:O Nat)(j:Nat):(aB l).eraseIdx j=aB (l.eraseIdx j):=ZW _ l j
theorem Lb(t:Tr)(hz:t.size<=60)(hd:t.depth<12)(q:∀ds d,Dt t ds [] d->d<=13*((splits t).length:Int)->Q (.tup (br ds))):(de t.pv).run Q:=by
 have tp:=t.size_pos;unfold de;have e1:Nv [PV.int 0] (.int (t.size:Int))=.ret (br (Ap t.size 0)):=by
  rw[Sm,re ⟨by lia,by lia,bM (by simp;lia)⟩];congr 1;rw[Bp]
  induction t.size with
  |zero=>rfl
  |succ n ih=>rw[Dj,EK,ih];rfl
 simp only[lc,f8];refine W.le.use (jO 12 t hd ∅) ?_;simp only[lc,d5,e1,nn,qz,f8,Af,t.bL];refine tj (λn s=>∃(fs:FT) (pp:O Nat),s=(aB (fs.map rt),aB (Ny t pp))/\Wk t fs pp/\n+pp.length=t.size) (n:=t.size) ∅ ⟨[(t,0)],[],?_,⟨?_,?_,?_⟩,rfl⟩ ?_
 .have:((t.size:Int)-1)=((t.size-1:Nat):Int):=by lia
  rw[this];simp[aB,rt]
 .have:qo (t,0)=Aw t.size:=by unfold qo;simp
  simp[this]
 .intro x hx;rw[AM]at hx;subst hx;exact⟨by simp,λj hj=>by simp⟩
 .exact List.Pairwise.nil
 .rintro n s ⟨fs,pp,rfl,hW,hn⟩;have iY:=hW.lt;have ĩ:(aB (fs.map rt)).length=fs.length:=by rw[dP,Af]
  simp only[lc,nn];cases Oe:fs with
  |nil=>
   subst Oe;have hp:pp.Perm (Aw t.size):=by simpa using hW.pm
   have Ob:(Ny t pp).Perm (splits t):=hp.filter _;have Ň:=hW.od;have ŉ:(Ny t pp).Nodup:=Ob.nodup_iff.mpr (List.Nodup.sublist List.filter_sublist EX);generalize hO:Ny t pp=od at *;have Ň:od.Pairwise λx y=>∀a b,en t 0 y=.pair a b->x≠a/\x≠b:=hO▸Ň;have ep:∀i:Int,part (.int i)=.ret (am i):=λi=>rfl;have er:Ur (aB od) ce ce (am (-1))=.ret (aB od.reverse):=by
    unfold Ur;rw[re ⋯,QJ];unfold aB;rw[List.map_reverse]
   have eng:vI (PV.int 1)=.ret (.int (-1)):=rfl;have Ks:(aB ([]:O Nat))=[]:=rfl;simp only[CF,Ks,List.isEmpty_nil,Bool.not_true,Ay,if_false,lc,f8,nn,e1,eng,ep,er,d5];refine d4 (λi s=>∃ds d left,s=(br ds,PV.int d)/\Dt t ds left d/\(∀x,x∈left↔x∈od.take (od.length-i))/\d<=13*(i:Int)) ⟨_,0,_,rfl,Dt.first t,λx=>by rw[Eh,List.take_length];exact Ob.mem_iff.symm,by lia⟩ (λi x s hx hs=>?_) (λs hs=>?_)
   .obtain⟨ds,d,left,rfl,D,hm,V1⟩:=hs;obtain⟨k,hk,rfl⟩:=Rc hx;have hi:i<od.length:=by have:=(Aj.mp hk).1;simpa using this
    rw[DQ hi]at hk;have e0:od.length-i=(od.length-1-i)+1:=by lia
    have e9:od.length-(i+1)=od.length-1-i:=by lia
    rw[e0]at hm;have et:od.take (od.length-1-i+1)=od.take (od.length-1-i)++[k]:=by rw[FH,hk];rfl
    rw[et]at hm;generalize od.length-1-i=m at *;have hkl:k∈left:=(hm k).mpr (by simp);obtain⟨ks,kp⟩:=D.lft k hkl;have nd2:(od.take m++[k]).Nodup:=et▸List.Nodup.sublist (EI _ _) ŉ;have pw2:(od.take m++[k]).Pairwise λx y=>∀a b,en t 0 y=.pair a b->x≠a/\x≠b:=et▸List.Pairwise.sublist (EI _ _) Ň;cases ek:en t 0 k with
    |word w=>rw[ek]at kp;cases kp
    |pair a b=>
     obtain⟨ha,hb⟩:=bF t ks ek;have no:∀c,(c=a\/c=b)->c∉left:=λc hc hcl=>by
      rcases AO.mp ((hm c).mp hcl) with z|z
      .have:=(D2.mp pw2).2.2 c z k (by simp) a b ek;rcases hc with rfl|rfl
       .exact this.1 rfl
       .exact this.2 rfl
      .rw[AM]at z;rcases hc with rfl|rfl<;>lia
     simp only[lc,f8,nn,cm];refine JL (by simp) (by simp) λx hx=>?_;obtain⟨v,rfl,v0,v1⟩:∃v:Int,x=.int v/\0<=v/\v<=12:=by
      simp at hx;rcases hx with rfl|rfl|rfl
      all_goals exact⟨_,rfl,by decide,by decide⟩
     simp only[cm,nn,lc,og (k:=k) (by rw[fP,D.len];exact ks),RM];refine⟨_,_,_,rfl,D.next hkl ek (no a (.inl rfl)) (no b (.inr rfl)) v0,λx=>?_,by lia⟩;rw[mJ D.ris,hm x,e9];have kn:k∉od.take m:=λz=>(C4.mp nd2).2.2 k z k (by simp) rfl
     constructor
     .rintro⟨z,nk⟩;rcases AO.mp z with z|z
      .exact z
      .exact absurd (AM.mp z) nk
     .intro z;exact⟨Ba _ z,λy=>kn (y▸z)⟩
   .obtain⟨ds,d,left,rfl,D,hm,V1⟩:=hs;rw[dP,CI]at hm V1;have:left=[]:=List.eq_nil_iff_forall_not_mem.mpr λx hx=>by
     have:=(hm x).mp hx;simp at this
    subst this;rw[<- Ob.length_eq]at q;show(ku (br ds)).run Q;exact q ds d D V1
  |cons x0 fr=>
   have Ks:0<fs.length:=by rw[Oe];simp
   rw[<- Oe];have hem:(aB (fs.map rt)).isEmpty=false:=by
    rw[List.isEmpty_eq_false_iff];intro z;rw[z]at ĩ;simp at ĩ;lia
   rw[hem];simp only[FN,if_true,lc,f8,zw,ĩ,nn,dg (show(0:Int)<fs.length by lia) ∅];refine cG λd d0 d1=>?_;obtain⟨j,rfl⟩:∃j:Nat,d=(j:Int):=⟨d.toNat,by lia⟩;obtain⟨x,hx⟩:∃x,fs[j]?=am x:=⟨_,Ad ∅⟩;have hat:=hW.at' _ (Bd hx);have xs:=x.1.size_pos;have hrt:rt x<t.size:=by unfold rt;have:=hat.1;lia
   simp only[tN (l:=aB (fs.map rt)) (j:=j) (v:=.int (rt x:Int)) (by unfold aB;rw[Ah,Ah,hx];rfl) (by rw[ĩ];lia),nn,bj,bT,ZT t hrt,Da,lc,f8,JR];have em:(fs.map rt).eraseIdx j=(fs.eraseIdx j).map rt:=ZW _ _ _;have eB:(Ny t pp).length<=pp.length:=B5 _ _;obtain⟨s,o⟩:=x;cases s with
   |leaf w=>
    obtain⟨e,W'⟩:=hW.leaf hx;have Ş:rt (.leaf w,o)=o:=rfl;simp only[Ş,e,Ent.pv,o8,o7,cL,lc,nn];refine⟨n-1,by lia,fs.eraseIdx j,pp++[o],?_,W',by simp;lia⟩;rw[em];have:Ny t (pp++[o])=Ny t pp:=by simp[Ny,Cs,e,kC]
    rw[this]
   |node a b=>
    obtain⟨e,W'⟩:=hW.node hx;have Ş:rt (.node a b,o)=o+a.size+b.size:=by show o+(a.size+b.size+1)-1=_;lia
    have ap:=a.size_pos;have bp:=b.size_pos;have al:gD (aB (Ny t pp)) (.int ((o+a.size+b.size:Nat):Int))=.ret (aB (Ny t pp)++[.int ((o+a.size+b.size:Nat):Int)]):=cV (by rw[dP];lia);have cl:kE (aB ((fs.map rt).eraseIdx j)) [.int ((o+a.size-1:Nat):Int),.int ((o+a.size+b.size-1:Nat):Int)]=.ret (aB ((fs.map rt).eraseIdx j)++[.int ((o+a.size-1:Nat):Int),.int ((o+a.size+b.size-1:Nat):Int)]):=f7 (by rw[dP,D3];simp;split<;>lia);simp only[Ş,e,Ent.pv,gB,gA,cL,lc,nn,al,cl,aK];refine⟨n-1,by lia,fs.eraseIdx j++[(a,o),(b,o+a.size)],pp++[o+a.size+b.size],?_,W',by simp;lia⟩;have e2:Ny t (pp++[o+a.size+b.size])=Ny t pp++[o+a.size+b.size]:=by simp[Ny,Cs,e,kC]
    rw[em,e2];simp[aB,rt]
def p2(h:a<=b):2 ^ a<=2 ^ b:=AE ⋯ h
structure Tx(x:PV)(d n:Nat):Prop where
 fw:PV.fw x=true
 sh:(PV.pd x).showable=true
 dep:(PV.pd x).depth<=d
 len:(PV.pd x).shown.length<=n
def YL{a:Int}(h:a.natAbs.log2<1920):Tx (.int a) 0 1921:=by
 refine⟨by simp,?_,?_,?_⟩
 .rw[PV.pd];simp only[Fh,decide_eq_true h]
 .rw[PV.pd];simp[F3]
 .rw[PV.pd,PyData.shown,PySem.ofString_length];exact int_text_length_le ⋯ h
def YK:Tx .aO 0 1921:=⟨by simp,by rw[PV.pd];simp[Fh],by rw[PV.pd];simp[F3],by rw[PV.pd];decide⟩
theorem LL:∀{l:O PV},(∀x∈l,Tx x d n)->Eo (rB l)=true/\Fi (rB l)<=d/\piled (BS (rB l))<=l.length*(n+2)/\(BS (rB l)).length=l.length
 |[],_=>⟨by simp[rB,Eo],by simp[rB,Fi],by simp[rB,BS,piled],by simp[rB,BS]⟩
 |x::l,h=>by
  obtain⟨a1,a2,a3,a4⟩:=LL λy hy=>h y (.tail _ hy);have hx:=h x (.head _);refine⟨?_,?_,?_,?_⟩
  .rw[rB,Eo,hx.sh,a1];rfl
  .rw[rB,Fi];exact Nat.max_le.mpr ⟨hx.dep,a2⟩
  .rw[rB,BS,piled_cons,Au,Nat.add_mul];have:=hx.len;lia
  .rw[rB,BS,Au,a4,Au]
theorem YJ{l:O PV}(h:∀x∈l,Tx x d n)(h0:l≠[]):Tx (.tup l) (d+1) (l.length*(n+2)+3):=by
 obtain⟨a1,a2,a3,a4⟩:=LL h;refine⟨?_,?_,?_,?_⟩
 .rw[V9];exact js.mpr λx hx=>(h x hx).fw
 .rw[PV.pd,Fh];exact a1
 .rw[PV.pd,F3];lia
 .rw[PV.pd,PyData.shown];have hn:BS (rB l)≠[]:=λz=>by rw[z]at a4;exact h0 (BQ a4.symm)
  have h3:(tupleText (BS (rB l))).length<=piled (BS (rB l))+3:=by
   unfold tupleText;rw[Str.length_append,Str.length_append];have:=join_length_add _ hn;have h1:(("(":String):Str).length=1:=by decide
   have h2:∀b:Bool,((if b then ",)" else ")":String):Str).length<=2:=by decide
   have:=h2 ((BS (rB l)).length==1);lia
  exact AD h3 (Nat.add_le_add_right a3 3)
theorem Tx.ok(h:Tx x d n)(hd:d<=100)(hn:n<=16777216):yi x:=⟨h.fw,h.sh,AD h.dep hd,by rw[bb];have:=h.len;lia⟩
def UB{l:O PV}(h:yi (.tup l)):yo (.tup l)=.ret (.str (PV.pd (.tup l)).shown):=re h
theorem ZY{a:Int}(h0:0<=a)(h:a<10 ^ 60):a.natAbs.log2<1920:=by
 by_cases c:a.natAbs=0
 .rw[c];decide
 .rw[Nat.log2_lt c];have:(10:Int) ^ 60=((10 ^ 60:Nat):Int):=by decide +kernel
  rw[this]at h;refine AG (m:=10 ^ 60) (by generalize (10 ^ 60:Nat)=B at *;lia) (AD (m:=2 ^ 200) (by decide +kernel) (AE ⋯ ⋯))
section
variable{ask:Str}
theorem acY(G:WG g ws)(h:∀k,0<=ps.getD k 0):∀j i,j<t.size->i<g.length->∀k v,rv g ps ask t j i k=am v->0<=v:=qm λj i hj hi xu Jg k v hv=>by
 have h3:0<=dM g ps i:=by unfold dM;split;exact h 3;exact Bu _
 rcases Qd G hj hi hv with⟨w,e,hh,_,rfl⟩|⟨a,b,d,k1,k2,x,y,e,hd,_,h1,h2,rfl⟩|⟨u,x,hu,h1,rfl⟩
 .exact Bu _
 .obtain⟨l1,l2⟩:=bF t hj e;obtain⟨m1,m2⟩:=uV G hi hd;have:=xu a _ l1 m1 _ x h1;have:=xu b _ l2 m2 _ y h2;have h5:0<=QG ps ask d:=by unfold QG yr;split;exact Bu _;exact h _
  lia
 .have:=Jg u (G.dn i hi u hu) k x h1;lia
theorem acZ(G:WG g ws){B:Int}(hB:0<=B)(h:∀k,ps.getD k 0<=B):∀j i,j<t.size->i<g.length->∀k v,rv g ps ask t j i k=am v->v<=B*(4 ^ j*(g.length+1)+i:Nat):=qm λj i hj hi xu Jg k v hv=>by
 have h3:dM g ps i<=B:=by unfold dM;split;exact h 3;exact hB
 rcases Qd G hj hi hv with⟨w,e,hh,_,rfl⟩|⟨a,b,d,k1,k2,x,y,e,hd,_,h1,h2,rfl⟩|⟨u,x,hu,h1,rfl⟩
 .exact Int.mul_nonneg hB ∅
 .obtain⟨l1,l2⟩:=bF t hj e;obtain⟨m1,m2⟩:=uV G hi hd;have k1:=xu a _ l1 m1 _ x h1;have k2:=xu b _ l2 m2 _ y h2;have h5:QG ps ask d<=B:=by unfold QG yr;split;exact hB;exact h _
  obtain⟨j',rfl⟩:∃j',j=j'+1:=⟨j-1,by lia⟩;have pa:4 ^ a<=4 ^ j':=AE ⋯ ∅;have pb:4 ^ b<=4 ^ j':=AE ⋯ ∅;have p1:1<=4 ^ j':=Nat.one_le_pow _ _ ⋯;have e1:4 ^ (j'+1)=4*4 ^ j':=by rw[Ei,E5]
  have key:(4 ^ a*(g.length+1)+d.2.1)+(4 ^ b*(g.length+1)+d.2.2)+1<=4 ^ (j'+1)*(g.length+1)+i:=by
   have q1:=Cd (g.length+1) pa;have q2:=Cd (g.length+1) pb;have q3:=Cd (g.length+1) p1;rw[e1,Nat.mul_assoc];generalize 4 ^ j'*(g.length+1)=P at *;generalize 4 ^ a*(g.length+1)=A at *;generalize 4 ^ b*(g.length+1)=C at *;lia
  have k3:=CT (show(((4 ^ a*(g.length+1)+d.2.1)+(4 ^ b*(g.length+1)+d.2.2)+1:Nat):Int)<=(4 ^ (j'+1)*(g.length+1)+i:Nat) by lia) hB;have k4:B*(((4 ^ a*(g.length+1)+d.2.1)+(4 ^ b*(g.length+1)+d.2.2)+1:Nat):Int)=B*(4 ^ a*(g.length+1)+d.2.1:Nat)+B*(4 ^ b*(g.length+1)+d.2.2:Nat)+B:=by
   rw[B0,B0,DC,DC];simp
  lia
 .have h4:=Jg u (G.dn i hi u hu) k x h1;have hu:=G.dn i hi u hu;have k3:=CT (show((4 ^ j*(g.length+1)+u+1:Nat):Int)<=(4 ^ j*(g.length+1)+i:Nat) by lia) hB;have k4:B*((4 ^ j*(g.length+1)+u+1:Nat):Int)=B*(4 ^ j*(g.length+1)+u:Nat)+B:=by rw[B0,DC];simp
  lia
theorem Qm(G:WG g ws)(p4:ps.length=4)(hp:∀p∈ps,0<=p/\p<=10 ^ 29)(ht:t.ay.length<=10)(h:cv (gb g ps ask t) k=am v):0<=v/\v<10 ^ 60:=by
 have hz:=t.size_eq;have hs:=t.size_pos;have hg:=G.len;have hd:∀k,0<=ps.getD k 0/\ps.getD k 0<=10 ^ 29:=λk=>by
  rw[Ae];rcases Bz k ps.length with c|c
  .rw[Ad c];exact hp _ (Cp _)
  .rw[Ar c];exact⟨Bu _,by decide +kernel⟩
 obtain⟨i,hi,hv⟩:=G7 h;refine⟨acY G (λk=>(hd k).1) _ _ ∅ hi _ _ hv,?_⟩;have h1:=acZ G (B:=10 ^ 29) (by decide +kernel) (λk=>(hd k).2) _ _ ∅ hi _ _ hv;have h2:4 ^ (t.size-1)*(g.length+1)+i<=4 ^ 20*400:=by
  have p1:4 ^ (t.size-1)<=4 ^ 20:=AE ⋯ ∅;have p2:=DJ p1 (show g.length+1<=301 by lia);have p3:4 ^ 20=1099511627776:=by decide
  rw[p3]at p2 ⊢;lia
 have h3:=CT (show((4 ^ (t.size-1)*(g.length+1)+i:Nat):Int)<=((4 ^ 20*400:Nat):Int) by lia) (show(0:Int)<=10 ^ 29 by decide +kernel);have h4:(10:Int) ^ 29*((4 ^ 20*400:Nat):Int)<10 ^ 60:=by decide +kernel
 exact Int.lt_of_le_of_lt h1 (Int.lt_of_le_of_lt h3 h4)
end
def abn(cs:O (Nat×Int))(k:Nat):OI:=dr (cs.map λp=>if p.1=k then am p.2 else ce)
theorem WH{cs:O (Nat×Int)}{F:Nat->OI}(h1:∀k v,F k=am v->∃u,(k,u)∈cs/\u<=v)(h2:∀k u,(k,u)∈cs->∃m,F k=am m/\m<=u)(k:Nat):abn cs k=F k:=by
 have mem:∀{u},am u∈(cs.map λp=>if p.1=k then am p.2 else ce)↔(k,u)∈cs:=λ{u}=>by
  constructor
  .intro h;obtain⟨p,hp,e⟩:=Ao.mp h
   split at e
   .next z=>subst z;cases e;exact hp
   .cases e
  .intro h;exact Ao.mpr ⟨_,h,by simp⟩
 unfold abn;cases e:F k with
 |some v=>
  obtain⟨u,hu,lu⟩:=h1 k v e;obtain⟨m,hm,lm⟩:=fB (mem.mpr hu);obtain⟨m2,e2,l2⟩:=h2 k m (mem.mp (eR hm));rw[e]at e2;cases e2;rw[hm];congr 1;lia
 |none=>
  cases hm:dr (cs.map λp=>if p.1=k then am p.2 else ce) with
  |none=>rfl
  |some m=>
   obtain⟨m2,e2,_⟩:=h2 k m (mem.mp (eR hm));rw[e]at e2;cases e2
def sl(g:O Sy)(i:Nat):O Dd:=(dbl i::(sy g i).be.flatMap (QX i))++ye (sy g i).un
theorem Hl(i:Nat):∀(l:O Nat) (Z:O Dd),Z.length+2*l.length<=900->bU (aB l) (.cl (Z.map d3)) (λthere s=>bn (bn (nr s) λVA=>kE VA [.tup [.str "over",.int (i:Int),there],.tup [.str "over",there,.int (i:Int)]]) λf=>ca (.cl f))=.ret (.cl ((Z++l.flatMap (QX i)).map d3))
 |[],Z,_=>by
  show bU [] _ _=_;rw[gY];simp
 |o::l,Z,h=>by
  show bU (.int (o:Int)::aB l) _ _=_;have hc:(Z++QX i o).length+2*l.length<=900:=by simp at h ⊢;lia
  have e:kE (Z.map d3) [.tup [.str "over",.int (i:Int),.int (o:Int)],.tup [.str "over",.int (o:Int),.int (i:Int)]]=.ret ((Z++QX i o).map d3):=by
   rw[f7 (by rw[Af];simp at h ⊢;lia),Az];rfl
  rw[jr];simp only[iu,lc,e];rw[Hl i l _ hc,Bo,AA]
section
abbrev O5(t:Tr):PV:=.cl ((t.nd 0).map Ent.pv)
def LQ(hj:j<t.size):cR ((t.nd 0).map Ent.pv) (j:Int)=am (en t 0 j).pv:=cQ (by rw[Ah,je t 0 j hj];rfl)
theorem qF(G:WG g ws)(hj:j<t.size)(hi:i<g.length)(e:en t 0 j=.word w):bR (iG g) (O5 t) (.int (j:Int)) (.int (i:Int))=.ret (.cl (if hm g i w=true then [.tup []] else [])):=by
 unfold bR;have l2:=G.vm i hi;have h1:∀b:Bool,Nv [PV.tup []] (.int (if b=true then 1 else 0))=.ret (if b=true then [PV.tup []] else []):=λb=>by
  rw[Sm,re (by cases b<;>simp<;>exact bM ∅)];cases b<;>rfl
 unfold iG hm;simp only[lc,aK,bj,HV hi,Sy.pv,Sl,bT,LQ hj,e,Ent.pv,Da,o8,o7,cL,if_true,eq_nil _ (show(sy g i).un.length<=1000 by lia)];cases eu:(sy g i).un.isEmpty with
 |false=>simp[h1]
 |true=>simp only[MN,lc,Ye (G.nm i hi) w,We,h1,gz,ES]
theorem qG(G:WG g ws)(hj:j<t.size)(hi:i<g.length)(e:en t 0 j=.pair a b):bR (iG g) (O5 t) (.int (j:Int)) (.int (i:Int))=.ret (.cl ((sl g i).map d3)):=by
 unfold bR;have l2:=G.vm i hi;have lb:=G.abr i hi;have h0:PV.cl [.tup [.str "doubled",.int (i:Int),.int (i:Int)]]=.cl (([dbl i]:O Dd).map d3):=rfl;unfold iG;simp only[lc,aK,bj,HV hi,Sy.pv,Sl,bT,LQ hj,e,Ent.pv,Da,gB,gA,cL,Ay,if_false,h0];rw[Hl i (sy g i).be [dbl i] (by simp;lia)];unfold sl;have hl:(([dbl i]++(sy g i).be.flatMap (QX i)).map d3).length<=100:=by
  rw[Af,Ak,Ij];simp;lia
 have aet:(dbl i::(sy g i).be.flatMap (QX i))=[dbl i]++(sy g i).be.flatMap (QX i):=rfl;rw[aet];generalize ([dbl i]++(sy g i).be.flatMap (QX i))=L at hl;have i0:∀x y:Nat,cR (aB [x,y]) 0=am (.int x):=λ_ _=>rfl;have i1:∀x y:Nat,cR (aB [x,y]) 1=am (.int y):=λ_ _=>rfl
 match hu:(sy g i).un,l2 with
 |[],_=>simp[aB,ye]
 |[x],_=>simp[aB,ye]
 |[x,y],_=>
  have e2:yG cO [.tup (aB [x,y])]=.ret (.int 2):=by simp[aB]
  simp only[lc,e2,qA,BEq.rfl,cb,if_true,aK,bT,i0,i1,Da,iu];rw[f7 (by simp at hl ⊢;lia)];simp only[lc,Az];rfl
end
theorem Qj{cs:O OI}(hb:∀m a,cv cs m=am a->0<=a/\a<10 ^ 60)(h1:1<=cs.length)(hl:cs.length<=900):yi (.tup (cs.map oP)):=by
 have t1:∀x∈cs.map oP,Tx x 0 1921:=λx hx=>by
  obtain⟨c,hc,rfl⟩:=Ao.mp hx;cases c with
  |none=>exact YK
  |some a=>
   obtain⟨m,hm⟩:=C2.mp hc;have:cv cs m=am a:=by unfold cv;rw[Ae,hm];rfl
   exact YL (ZY (hb m a this).1 (hb m a this).2)
 have t2:=YJ t1 (λz=>by have:=congrArg Ck z;simp at this;subst this;simp at h1);refine t2.ok ⋯ ?_;rw[Af];lia
def Rb(s:Str):of2 vH (.str s) (.str s)=.ret (.bl false):=by
 rw[MM,re ⟨by simp,by simp,by simp⟩,Il];simp
theorem P7(g:O Sy)(i:Nat):sl g i=Jf g i:=rfl
theorem Jw(h8:t.ay.length<=4)(q:∀s,WG s t.ay->WX s->Q (iG s)):(ff (t2 dN ((.int 2)\λx36=>cI x36) (ca (.int 0))) (t.pv\λx37=>kZ x37) (t.pv\λYy=>bn (t.pv\λx39=>de x39) λx40=>lU Yy x40)).run Q:=by
 have hz:=t.size_eq;have hdp:=t.ph;have ad8:t.size<=7:=by lia
 simp only[lc,f8,dg (show(0:Int)<2 by decide) ⋯];refine cG λd _ _=>?_;simp only[qA,cb,nn];cases c:d==0 with
 |true=>
  simp only[if_true];refine Oh t ∅ Q ?_;rw[<- aeA];obtain⟨Lo⟩:=JZ ad8;exact q _ (wI ∅) Lo
 |false=>
  simp only[Ay,if_false,f8];refine Lb t ∅ ∅ λds d D V1=>?_;have á:(splits t).length<=3:=by have:=Jy t;lia
  have Ŧ:=DD.of (D.isD ∅);have hb:(aL t ds).length<=4:=by unfold aL;rw[Au,pU];unfold Nl;rw[Af];lia
  refine SU Ŧ ∅ Q ?_;rw[<- ae3];obtain⟨Lo⟩:=NS Ŧ ad8 hb;exact q _ (Pm Ŧ ∅ ∅) Lo
section
def cD(g:O Sy)(t:Tr)(e:Ent)(i:Nat):O Nat:=match e with
 |.word w=>if hm g i w=true then [1] else []
 |.pair a b=>(Jf g i).map λd=>cN g t a d.2.1*cN g t b d.2.2
def IE(g:O Sy)(t:Tr)(j k:Nat):O PV:=aB ((Aw k).map (cN g t j))
def zU(g:O Sy)(t:Tr)(n:Nat):O PV:=(Aw n).map λj=>.cl (IE g t j g.length)
def vc{x:Nat}(h:x<k):cR (IE g t j k) (x:Int)=am (.int ((cN g t j x:Nat):Int)):=cQ (by
 unfold IE aB;simp[h])
def zT(h:j<n):cR (zU g t n) (j:Int)=am (.cl (IE g t j g.length)):=cQ (by unfold zU;simp[h])
def S6(j k:Nat):IE g t j (k+1)=IE g t j k++[.int ((cN g t j k:Nat):Int)]:=by unfold IE aB;rw[Cw];simp
def S7(n:Nat):zU g t (n+1)=zU g t n++[.cl (IE g t n g.length)]:=by unfold zU;rw[Cw];simp
theorem LX(l:O Nat):fM (aB l)=.ret (.int ((l.sum:Nat):Int)):=by
 have e:aB l=(l.map λ(k:Nat)=>(k:Int)).map PV.int:=by unfold aB;rw[AQ];rfl
 have hs:∀l:O Nat,(l.map λ(k:Nat)=>(k:Int)).sum=((l.sum:Nat):Int):=by
  intro l
  induction l with
  |nil=>rfl
  |cons x l ih=>rw[Av,Dr,Dr,ih];lia
 rw[e];unfold fM;rw[fv];show ca _=_;rw[hs]
def SX(d:Dd):of2 dN (d3 d) (.tup [])=.ret (.bl false):=by
 unfold d3;rw[uO,re ⟨by simp,by simp,by simp⟩];simp only[aeJ];rw[fZ]
 all_goals simp
def IH{acA:PV}{Þ:PV}:bH Þ acA (.tup [])=.ret (.int 1):=by
 unfold bH;have e0:of2 dN (.tup []) (.tup [])=.ret (.bl true):=eq_nil [] (by simp);simp only[lc,e0,cb,if_true]
theorem II(hb:Bit g t)(hn:n<=t.size)(ha:a<n)(ī:b<n){d:Dd}(h1:d.2.1<g.length)(h2:d.2.2<g.length):bH (.cl (zU g t n)) (Ent.pair a b).pv (d3 d)=.ret (.int ((cN g t a d.2.1*cN g t b d.2.2:Nat):Int)):=by
 unfold bH;have j1:cR [PV.str d.1,.int (d.2.1:Int),.int (d.2.2:Int)] 1=am (.int (d.2.1:Int)):=rfl;have j2:cR [PV.str d.1,.int (d.2.1:Int),.int (d.2.2:Int)] 2=am (.int (d.2.2:Int)):=rfl;have mk:=IntMulOk.of_bits (hb a d.2.1 ∅ h1) (hb b d.2.2 ∅ h2);simp only[lc,SX,cb,Ay,if_false,Ent.pv,iL];simp only[d3,aK,bj,lc,bT,j1,j2,Da,zT ha,zT ī,vc h1,vc h2,KN,re mk];rw[Int.natCast_mul]
theorem zO(G:WG g ws)(hn:ke g t)(amX:g.length<=30)(hb:Bit g t){Q:O PV->Prop}(q:Q (zU g t t.size)):(dZ (iG g) (O5 t)).run Q:=by
 have hz:=hn.2;have hg:=G.len;unfold dZ;have el:yG cO [iG g]=.ret (.int g.length):=by simp[iG]
 have e1:((t.nd 0).map Ent.pv).length<=sizeLine:=by rw[dq,bb];lia
 simp only[lc,f8,bj,W.sg,nn,Wf];refine⟨e1,?_⟩;refine d4 (λn s=>s=zU g t n) rfl (λn x s hx hs=>?_) (λs hs=>?_)
 .subst hs;rw[Ah]at hx;have hj:n<t.size:=by
   rcases Bz n t.size with c|c
   .exact c
   .rw[Ar (by simp;exact c)]at hx;cases hx
  rw[AJ hj]at hx;have hx:=(Option.some.inj hx).symm;subst hx;simp only[iL,lc,f8,el,fc,re (cg (i:=0) (j:=(g.length:Int)) ∅ ∅),Bp,nn];refine o5 (λk s=>s=IE g t n k) rfl (λi s hi hs=>?_) (λs hs=>?_)
  .subst hs;have i2:cR [(sy g i).nm,PV.int ((sy g i).lv),.tup (aB (sy g i).un),.tup (aB (sy g i).be)] 2=am (.tup (aB (sy g i).un)):=rfl;have eu:aw (iG g)=.ret (g.map Sy.pv):=rfl;have em:bx (aB (sy g i).un) (λU4=>Tz (IE g t n i) U4)=.ret (aB ((sy g i).un.map (cN g t n))):=by
    have:=jI (l:=(sy g i).un) (f:=λU4=>Tz (IE g t n i) U4) (g:=λu=>PV.int ((cN g t n u:Nat):Int)) λu hu=>by
     have hu:=G.dn i hi u hu;have h:=vc (g:=g) (t:=t) (j:=n) hu;show W.Q1 (cR (IE g t n i) (u:Int))=_;rw[h];rfl
    rw[this];unfold aB;rw[AQ];rfl
   have est:∃st:O PV,bR (iG g) (O5 t) (.int (n:Int)) (.int (i:Int))=.ret (.cl st)/\bx st (λí=>bH (.cl (zU g t n)) (en t 0 n).pv í)=.ret (aB (cD g t (en t 0 n) i)):=by
    have iY:=uS t hj;cases e:en t 0 n with
    |word w=>
     refine⟨_,qF G hj hi e,?_⟩;show _=ca (aB (if hm g i w=true then [1] else []));by_cases h:hm g i w=true
     .rw[if_pos h,if_pos h];show bn (bH _ _ (.tup [])) _=_;rw[IH];rfl
     .rw[if_neg h,if_neg h];rfl
    |pair a b=>
     rw[e]at iY;refine⟨_,qG G hj hi e,?_⟩;rw[P7];have:=qg (c:=d3) (l:=Jf g i) (f:=λí=>bH (.cl (zU g t n)) (Ent.pair a b).pv í) (k:=λd=>PV.int ((cN g t a d.2.1*cN g t b d.2.2:Nat):Int)) λd hd=>by
      obtain⟨h1,h2⟩:=k6 G hi hd;exact II hb ∅ iY.1 iY.2 h1 h2
     rw[this];unfold aB cD;rw[AQ];rfl
   obtain⟨st,e3,e4⟩:=est;have ec:cN g t n i=((sy g i).un.map (cN g t n)).sum+(cD g t (en t 0 n) i).sum:=by
    rw[S8 G hn hj hi,F7];congr 1;cases e:en t 0 n with
    |word w=>
     show(if hm g i w=true then [WT.lf [] i] else []).length=(if hm g i w=true then [1] else []:O Nat).sum;by_cases h:hm g i w=true
     .rw[if_pos h,if_pos h];rfl
     .rw[if_neg h,if_neg h];rfl
    |pair a b=>exact Hj g t a b i
   simp only[lc,f8,e3,nn,eu,bT,HV hi,Sy.pv,i2,Da,aK,bj,em,e4,LX,cm,Pu];refine⟨rfl,?_⟩;have Á:(IE g t n i).length<1000:=by unfold IE;rw[dP];simp;lia
   rw[nn,cV Á,S6,ec,B0];rfl
  .subst hs;rw[cV (by unfold zU;simp;lia),S7];rfl
 .subst hs;simpa using q
end
section
def opn(g:O Sy)(t:Tr)(a b:Nat)(d:Dd):Bool:=decide (0<cN g t a d.2.1)&&decide (0<cN g t b d.2.2)
def NH(G:WG g ws)(hj:j<t.size)(hi:i<g.length)(e:en t 0 j=.word w)(Þ:PV):bD (iG g) (O5 t) Þ (.int (j:Int)) (.int (i:Int))=.ret (if hm g i w=true then [.tup []] else []):=by
 unfold bD;have e0:of2 dN (.tup []) (.tup [])=.ret (.bl true):=eq_nil [] (by simp);simp only[lc,qF G hj hi e,bj];by_cases h:hm g i w=true
 .rw[if_pos h];simp only[jr,gY,e0,lc,cb,if_true];rw[cV (by simp)];rfl
 .rw[if_neg h,gY];rfl
theorem NI(G:WG g ws)(hn:ke g t)(TJ:g.length<=30)(hj:j<t.size)(hi:i<g.length)(e:en t 0 j=.pair a b):bD (iG g) (O5 t) (.cl (zU g t t.size)) (.int (j:Int)) (.int (i:Int))=.ret (((Jf g i).filter (opn g t a b)).map d3):=by
 obtain⟨ha,hb⟩:=bF t hj e;unfold bD;have j0:cR [PV.int (a:Int),.int (b:Int)] 0=am (.int a):=rfl;have j1:cR [PV.int (a:Int),.int (b:Int)] 1=am (.int b):=rfl;have k1:∀d:Dd,cR [PV.str d.1,.int (d.2.1:Int),.int (d.2.2:Int)] 1=am (.int (d.2.1:Int)):=λ_=>rfl;have k2:∀d:Dd,cR [PV.str d.1,.int (d.2.1:Int),.int (d.2.2:Int)] 2=am (.int (d.2.2:Int)):=λ_=>rfl;simp only[lc,qG G hj hi e,bj,P7,bT,LQ hj,e,Ent.pv,Da,aK,j0,j1,zT (show a<t.size by lia),zT (show b<t.size by lia)];have key:∀(F:PV->O PV->W (O PV)),(∀d:Dd,d.2.1<g.length->d.2.2<g.length->∀Z:O Dd,Z.length<=900->F (d3 d) (Z.map d3)=.ret ((if opn g t a b d=true then Z++[d] else Z).map d3))->∀(l:O Dd) (Z:O Dd),(∀d∈l,d.2.1<g.length/\d.2.2<g.length)->Z.length+l.length<=900->bU (l.map d3) (Z.map d3) F=.ret ((Z++l.filter (opn g t a b)).map d3):=by
  intro F hF l
  induction l with
  |nil=>intro Z _ _;simp
  |cons d l ih=>
   intro Z hl Á;obtain⟨x1,x2⟩:=hl d (.head _);rw[Av,jr,hF d x1 x2 Z (by simp at Á;lia),lc,ih _ (λx hx=>hl x (.tail _ hx)) (by split<;>simp at Á ⊢ <;> lia),B9]
   split
   .rw[AA];rfl
   .rfl
 have Á:(Jf g i).length<=63:=by
  rw[(jg g i).length_eq];exact zH G hi
 refine(congrArg (λw=>bn w λs6=>ca s6) (key _ (λd x1 x2 Z ţ=>?_) (Jf g i) [] (λd hd=>k6 G hi hd) (by simp;lia))).trans rfl;have ea:gD (Z.map d3) (d3 d)=.ret ((Z++[d]).map d3):=by
  rw[cV (by rw[Af];lia),Az];rfl
 have e1:aw (d3 d)=.ret [PV.str d.1,.int (d.2.1:Int),.int (d.2.2:Int)]:=rfl;have eo:opn g t a b d=(decide (0<cN g t a d.2.1)&&decide (0<cN g t b d.2.2)):=rfl;simp only[SX,lc,cb,Ay,if_false,e1,bT,k1,k2,Da,vc x1,vc x2,Sn,eo];by_cases p1:0<cN g t a d.2.1
 .have q1:(0:Int)<((cN g t a d.2.1:Nat):Int):=by lia
  by_cases p2:0<cN g t b d.2.2
  .have q2:(0:Int)<((cN g t b d.2.2:Nat):Int):=by lia
   simp only[p1,p2,q1,q2,decide_true,if_true,lc,ea,Bool.and_self]
  .have q2:¬(0:Int)<((cN g t b d.2.2:Nat):Int):=by lia
   simp only[p1,p2,q1,q2,decide_true,decide_false,if_true,lc,C7,Ay,if_false]
 .have q1:¬(0:Int)<((cN g t a d.2.1:Nat):Int):=by lia
  simp only[p1,q1,decide_false,lc,Ez,Ay,if_false]
end
section
theorem qU{p:α->Bool}{h:α->List β}:∀{l:List α},(∀x∈l,p x=false->h x=[])->(l.filter p).flatMap h=l.flatMap h
 |[],_=>rfl
 |x::l,H=>by
  rw[B9,Bo,<- qU λy hy=>H y (.tail _ hy)];cases e:p x with
  |true=>rw[if_pos rfl,Bo]
  |false=>rw[if_neg (by simp),H x (.head _) e,D8]
abbrev rwP(g:O Sy)(t:Tr):PV:=.cl (zU g t t.size)
theorem xF(G:WG g ws)(hn:ke g t)(TJ:g.length<=30)(hj:j<t.size)(hi:i<g.length)(hB:(wD g (f9 g t) (en t 0 j) i).length<=300)(hM:∀a x,a<j->x<g.length->(f9 g t a x).length<=300->(mB (iG g) (O5 t) (rwP g t) (.int (a:Int)) (.int (x:Int))).run (·=(f9 g t a x).map WT.pv)):(eU mB (iG g) (O5 t) (rwP g t) (.int (j:Int)) (.int (i:Int))).run (·=(wD g (f9 g t) (en t 0 j) i).map WT.pv):=by
 unfold eU;cases e:en t 0 j with
 |word w=>
  have e0:of2 dN (.tup []) (.tup [])=.ret (.bl true):=eq_nil [] (by simp);have eD:wD g (f9 g t) (.word w) i=if hm g i w=true then [.lf [] i] else []:=rfl
  simp only[lc,f8,NH G hj hi e,nn,eD];by_cases h:hm g i w=true
  .rw[if_pos h,if_pos h];simp only[jr,gY,e0,lc,cb,if_true,f8];rw[cV (by simp)];rfl
  .rw[if_neg h,if_neg h,gY];rfl
 |pair a b=>
  obtain⟨ha,hb⟩:=bF t hj e;have eD:wD g (f9 g t) (.pair a b) i=(Jf g i).flatMap λd=>(f9 g t a d.2.1).flatMap λone=>(f9 g t b d.2.2).map λo=>.nd [] i d.1 one o:=rfl;have eF:(Jf g i).flatMap (λd=>(f9 g t a d.2.1).flatMap λone=>(f9 g t b d.2.2).map λo=>WT.nd [] i d.1 one o)=((Jf g i).filter (opn g t a b)).flatMap λd=>(f9 g t a d.2.1).flatMap λone=>(f9 g t b d.2.2).map λo=>.nd [] i d.1 one o:=by
   refine(qU λd hd hp=>?_).symm;have hl:((f9 g t a d.2.1).flatMap λone=>(f9 g t b d.2.2).map λo=>WT.nd [] i d.1 one o).length=(f9 g t a d.2.1).length*(f9 g t b d.2.2).length:=tI _ _ _;refine BQ (hl.trans ?_);have hp:(decide (0<cN g t a d.2.1)&&decide (0<cN g t b d.2.2))=false:=hp;rw[Bool.and_eq_false_iff]at hp;rcases hp with hp|hp
   .have:¬0<cN g t a d.2.1:=by simpa using hp
    have:(f9 g t a d.2.1).length=0:=by unfold cN at this;lia
    rw[this,Nat.zero_mul]
   .have:¬0<cN g t b d.2.2:=by simpa using hp
    have:(f9 g t b d.2.2).length=0:=by unfold cN at this;lia
    rw[this,Nat.mul_zero]
  rw[e,eD,eF]at hB;rw[eD,eF];simp only[lc,f8,NI G hn TJ hj hi e,nn];have j0:cR [PV.int (a:Int),.int (b:Int)] 0=am (.int a):=rfl;have j1:cR [PV.int (a:Int),.int (b:Int)] 1=am (.int b):=rfl;refine Ix _ (λr hr=>by rw[hr];rfl) (gF (c:=d3) (h:=λd=>(f9 g t a d.2.1).flatMap λone=>(f9 g t b d.2.2).map λo=>.nd [] i d.1 one o) 300 ((Jf g i).filter (opn g t a b)) (λd hd s hs=>?_) [] (by simpa using hB));obtain⟨hd,ho⟩:=Bl.mp hd;obtain⟨x1,x2⟩:=k6 G hi hd;have ho:(decide (0<cN g t a d.2.1)&&decide (0<cN g t b d.2.2))=true:=ho;rw[AR,decide_eq_true_eq,decide_eq_true_eq]at ho;have hl:((f9 g t a d.2.1).flatMap λone=>(f9 g t b d.2.2).map λo=>WT.nd [] i d.1 one o).length=cN g t a d.2.1*cN g t b d.2.2:=tI _ _ _;rw[hl]at hs;have l1:cN g t a d.2.1<=300:=AD (Nat.le_mul_of_pos_right _ ho.2) ∅;have l2:cN g t b d.2.2<=300:=AD (Nat.le_mul_of_pos_left _ ho.1) ∅;have k1:cR [PV.str d.1,.int (d.2.1:Int),.int (d.2.2:Int)] 1=am (.int (d.2.1:Int)):=rfl;have k2:cR [PV.str d.1,.int (d.2.1:Int),.int (d.2.2:Int)] 2=am (.int (d.2.2:Int)):=rfl;have k0:cR [PV.str d.1,.int (d.2.1:Int),.int (d.2.2:Int)] 0=am (.str d.1):=rfl;have e1:aw (d3 d)=.ret [PV.str d.1,.int (d.2.1:Int),.int (d.2.2:Int)]:=rfl;simp only[SX,lc,cb,Ay,if_false,e1,bT,k0,k1,k2,Da,bj,LQ hj,e,Ent.pv,aK,j0,j1,f8];refine Ix _ (λr hr=>?_) (hM b d.2.2 hb x2 l2);subst hr;refine Ix _ (λr hr=>?_) (hM a d.2.1 ha x1 l1);subst hr;refine Ix _ (λr hr=>?_) (gF (c:=WT.pv) (h:=λone=>(f9 g t b d.2.2).map λo=>WT.nd [] i d.1 one o) 300 (f9 g t a d.2.1) (λone _ s' XT=>?_) s (by rw[hl];exact hs))
  .exact hr
  .rw[Af]at XT;have em:=qg (c:=WT.pv) (l:=f9 g t b d.2.2) (f:=λĚ=>(ca (PV.tup [.tup [.int (i:Int)],.str d.1,one.pv,Ě]):W PV)) (k:=λo=>(WT.nd [] i d.1 one o).pv) λo _=>rfl;simp only[em,f8,nn];rw[zu (by rw[Af,Af];lia),Az,AQ];rfl
theorem nu(G:WG g ws)(Lo:WX g)(hn:ke g t):∀(n j i:Nat),j<t.size->i<g.length->j*7+Lo.ht i<n->(f9 g t j i).length<=300->(aZ n (iG g) (O5 t) (rwP g t) (.int (j:Int)) (.int (i:Int))).run (·=(f9 g t j i).map WT.pv)
 |0,_,_,_,_,h,_=>absurd h (Fq _)
 |n+1,j,i,hj,hi,hN,hB=>by
  have eq:=kI G hn hj hi;rw[eq,Ak]at hB;have hl:=Lo.le i hi;have h6:=Lo.six;unfold aZ;have eu:aw (iG g)=.ret (g.map Sy.pv):=rfl;have i2:cR [(sy g i).nm,PV.int ((sy g i).lv),.tup (aB (sy g i).un),.tup (aB (sy g i).be)] 2=am (.tup (aB (sy g i).un)):=rfl;simp only[lc,eu,bT,HV hi,Sy.pv,Da,aK,i2];simp only[f8];refine Ix _ (λr hr=>?_) (xF G hn Lo.len hj hi ∅ λa x ha hx hl=>nu G Lo hn n a x ∅ hx (by have:=Lo.le x hx;lia) hl);subst hr;simp only[nn];rw[eq];refine gF (c:=λn:Nat=>PV.int (n:Int)) (h:=λu=>(f9 g t j u).map (xZ i)) 300 (sy g i).un (λu hu s hs=>?_) (wD g (f9 g t) (en t 0 j) i) hB;have hui:=G.dn i hi u hu;have hlo:=Lo.dn i hi u hu;rw[Af]at hs;simp only[f8];refine Ix _ (λr hr=>?_) (nu G Lo hn n j u hj ∅ ∅ ∅);subst hr;have eS:(f9 g t j u).map (xZ i)=(f9 g t j u).flatMap λw=>[xZ i w]:=by
   generalize f9 g t j u=l
   induction l with
   |nil=>rfl
   |cons x l ih=>rw[Av,Bo,ih];rfl
  rw[eS];refine gF (c:=WT.pv) (h:=λw=>[xZ i w]) 300 (f9 g t j u) (λw hw s' XT=>?_) s (by rw[<- eS,Af];exact hs);have hp:=(GJ G t 50 j u hj ∅ w hw).2.1;have ev:=YY (k:=i) (w:=w) (by have:=G.len;lia);simp only[lc]at ev;rw[ev];simp only[lc];rw[cV (by rw[Af];simp at XT;lia),Az];rfl
end
def two(g:O Sy)(k:Nat):Bool:=decide ((sy g k).un.length=2)
def dG(nm:Str):WT->Nat
 |.lf _ _=>0
 |.nd _ _ m a b=>(if m=nm then 1 else 0)+(dG nm a+dG nm b)
def pM(g:O Sy):WT->Nat
 |.lf p _=>(p.filter (two g)).length
 |.nd p _ _ a b=>(p.filter (two g)).length+(pM g a+pM g b)
def nS(nm:Str)(l:O WT):Nat:=(l.map (dG nm)).sum
def sS(g:O Sy)(l:O WT):Nat:=(l.map (pM g)).sum
variable{w:WT}
def yI(nm:Str)(l m:O WT):nS nm (l++m)=nS nm l+nS nm m:=by simp[nS]
def Qc(g:O Sy)(l m:O WT):sS g (l++m)=sS g l+sS g m:=by simp[sS]
def adK(a b:Str):of2 vH (.str a) (.str b)=.ret (.bl (!(a==b))):=by
 rw[MM,re ⟨by simp,by simp,by simp⟩,Il]
def UP{l:O WT}{u:WT}:tM ((l++[u]).map WT.pv)=.ret (l.map WT.pv,u.pv):=by
 unfold tM;rw[Az,Av,CF,List.getLast?_append];simp
section
theorem Ud{p:O Nat}(hp:∀k∈p,k<g.length):(kz (aB p) λZC=>J4 (t2 dN (c1 cO (bJ (bn (bJ (bn (ca (iG g)) aw) (ca ZC)) aw) (ca (.int 2)))) (ca (.int 2))) (ca ZC))=.ret (aB (p.filter (two g))):=J3 λk hk=>by
 have es:aw (iG g)=.ret (g.map Sy.pv):=rfl;have i2:cR [(sy g k).nm,PV.int (sy g k).lv,.tup (aB (sy g k).un),.tup (aB (sy g k).be)] 2=am (.tup (aB (sy g k).un)):=rfl;simp only[lc,es,(HV (hp k hk)),Sy.pv,aK,bT,i2,Da,sQ,dP,qA,cb];unfold two;by_cases c:(sy g k).un.length=2
 .have c2:(((sy g k).un.length:Int)==2)=true:=by simp[c]
  rw[c2,decide_eq_true c];rfl
 .have c2:(((sy g k).un.length:Int)==2)=false:=by simp;lia
  rw[c2,decide_eq_false c];rfl
theorem OJ{w0:WT}(hw:wf g w0)(hz:w0.size<=300)(q:Q (.tup [.int (dG "split" w0:Nat),.int (dG "doubled" w0:Nat),.int (dG "over" w0:Nat),.int (pM g w0:Nat)])):(gr (iG g) w0.pv).run Q:=by
 unfold gr;simp only[lc,f8];refine sZ (λn s=>∃(l:O WT) (c0 c1 c2 c3:Nat),s=([.int (c0:Int),.int (c1:Int),.int (c2:Int),.int (c3:Int)],l.map WT.pv)/\(∀w∈l,wf g w)/\c0+nS "split" l=dG "split" w0/\c1+nS "doubled" l=dG "doubled" w0/\c2+nS "over" l=dG "over" w0/\c3+sS g l=pM g w0/\n=WT.bI l/\n<=300) (n:=WT.bI [w0]) ⟨[w0],0,0,0,0,rfl,λw h=>(by rw[AM.mp h];exact hw),by simp[nS],by simp[nS],by simp[nS],by simp[sS],rfl,by simp[WT.bI];exact hz⟩ ?_;rintro n s ⟨l,c0,c1,c2,c3,rfl,hwf,h0,h1,h2,h3,rfl,amC⟩;simp only[lc,nn];rcases List.eq_nil_or_concat l with rfl | ⟨l,u,rfl⟩
 .simp only[CF,List.isEmpty_nil,Bool.not_true,Ay,if_false,ku,nn];simp only[nS,sS,CF,List.sum_nil,Nat.add_zero]at h0 h1 h2 h3;rw[h0,h1,h2,h3];exact q
 .rw[List.concat_eq_append]at *;have en:(((l++[u]).map WT.pv).isEmpty)=false:=by simp
  have hu:=hwf u (by simp);have hz1:WT.bI (l++[u])=WT.bI l+u.size:=by rw[WT.pW];simp[WT.bI]
  have ġ:=u.Nn;have hz3:=WT.lW l;have hk:=u.HE;have ec:eJ (.tup (aB u.path)::.str u.iM::u.kids.map WT.pv) (am 2) ce=u.kids.map WT.pv:=u.ajd;simp only[en,FN,if_true,f8,UP,nn];have ex:Im (l.map WT.pv) (u.kids.map WT.pv)=.ret ((l++u.kids).map WT.pv):=by
   have:l.length+u.kids.length<=1000:=by lia
   rw[zu (by rw[Af,Af];exact this),Az]
  have i1:cR (.tup (aB u.path)::.str u.iM::u.kids.map WT.pv) 1=am (.str u.iM):=(show cR _ ((1:Nat):Int)=_ from cQ rfl);have i0:cR (.tup (aB u.path)::.str u.iM::u.kids.map WT.pv) 0=am (.tup (aB u.path)):=(show cR _ ((0:Nat):Int)=_ from cQ rfl);simp only[u.Qy,lc,me,uN,ec,aK,bT,i0,i1,Da,nn,ex,adK,cb,f8];obtain⟨d0,V3⟩:∃d0,d0=c0+(if u.iM="split" then 1 else 0):=⟨_,rfl⟩;obtain⟨d1,V2⟩:∃d1,d1=c1+(if u.iM="doubled" then 1 else 0):=⟨_,rfl⟩;obtain⟨d2,Î⟩:∃d2,d2=c2+(if u.iM="over" then 1 else 0):=⟨_,rfl⟩;refine Ix _ (λa ha=>?_) (?_:W.run _ (λa=>a=[PV.int (d0:Int),.int (d1:Int),.int (d2:Int),.int (c3:Int)]))
  .subst ha;obtain⟨p,hp⟩:=u.U3;have hps:∀k∈p,k<g.length:=by
    cases u with
    |lf q i=>have:q=p:=(C3 hp rfl);subst this;exact hu
    |nd q i nm a b=>have:q=p:=(C3 hp rfl);subst this;exact hu.1
   have j3:cR [PV.int (d0:Int),.int (d1:Int),.int (d2:Int),.int (c3:Int)] 3=am (.int (c3:Int)):=rfl;have em:eJ (aB u.path) ce (am (-1))=aB p:=by rw[hp];exact WC p u.at'
   have st:=Ud hps;simp only[lc]at st;have nk:∀nm:Str,nm≠"found"->dG nm u=(if u.iM=nm then 1 else 0)+nS nm u.kids:=λnm Ks=>by
    cases u with
    |lf q i=>show 0=(if ("found":Str)=nm then 1 else 0)+0;rw[if_neg (λz=>Ks z.symm)];rfl
    |nd q i m a b=>show _=(if m=nm then 1 else 0)+(dG nm a+(dG nm b+0));rfl
   have sk:pM g u=(p.filter (two g)).length+sS g u.kids:=by
    cases u with
    |lf q i=>have:q=p:=(C3 hp rfl);subst this;rfl
    |nd q i nm a b=>have:q=p:=(C3 hp rfl);subst this;show _=_+(pM g a+(pM g b+0));rfl
   have n1:∀nm,nS nm [u]=dG nm u:=λnm=>by simp[nS]
   have s1:sS g [u]=pM g u:=by simp[sS]
   rw[yI,n1,nk _ ⋯]at h0 h1 h2;rw[Qc,s1,sk]at h3;have e3:oj [PV.int (d0:Int),.int (d1:Int),.int (d2:Int),.int (c3:Int)] (.int 3) (.int ((c3:Int)+(((p.filter (two g)).length:Nat):Int)))=.ret [PV.int (d0:Int),.int (d1:Int),.int (d2:Int),.int ((c3+(p.filter (two g)).length:Nat):Int)]:=by
    show ca _=_;rw[B0];rfl
   simp only[j3,Da,nn,zv,me,em,st,uo,dP,cm,e3];refine⟨WT.bI (l++u.kids),by rw[WT.pW];lia,l++u.kids,d0,d1,d2,c3+(p.filter (two g)).length,rfl,λw hw=>?_,by rw[yI];lia,by rw[yI];lia,by rw[yI];lia,by rw[Qc];lia,rfl,by rw[WT.pW];lia⟩;rcases AO.mp hw with h|h
   .exact hwf w (Ba _ h)
   .cases u with
    |lf q i=>cases h
    |nd q i nm a b=>
     have h:w∈[a,b]:=h;simp only[AB,CO,or_false]at h;rcases h with rfl|rfl
     .exact hu.2.2.1
     .exact hu.2.2.2
  .have RX:u.iM="found"\/HN u.iM:=by
    cases u with
    |lf q i=>exact .inl rfl
    |nd q i nm a b=>exact .inr hu.2.1
   generalize u.iM=nm at RX V3 V2 Î ⊢;have ht:HN nm->(!nm==Cb "found")=true:=λh=>by rcases h with rfl | rfl | rfl <;> decide
   rcases RX with rfl|hnm
   .rw[if_neg ⋯]at V3 V2 Î;rw[if_neg ⋯];subst V3 V2 Î;rfl
   .rw[if_pos (ht hnm)];simp only[dgB,lc,f8];rcases hnm with rfl|rfl|rfl
    .refine zJ (k:=.inr "split") (v:=.int 0) rfl ?_;rw[if_pos rfl]at V3;rw[if_neg ⋯]at V2 Î;subst V3 V2 Î;rfl
    .refine zJ (k:=.inr "doubled") (v:=.int 1) rfl ?_;rw[if_pos rfl]at V2;rw[if_neg ⋯]at V3 Î;subst V3 V2 Î;rfl
    .refine zJ (k:=.inr "over") (v:=.int 2) rfl ?_;rw[if_pos rfl]at Î;rw[if_neg ⋯]at V3 V2;subst V3 V2 Î;rfl
end
def cA(g:O Sy)(ps:O Int)(ask:Str):WT->Int
 |.lf p _=>(p.map (dM g ps)).sum
 |.nd p _ nm a b=>(p.map (dM g ps)).sum+(if nm=ask then 0 else yr ps nm)+(cA g ps ask a+cA g ps ask b)
section
variable{ask:Str}
def yJ(k:Nat)(w:WT):dG ask (xZ k w)=dG ask w:=by cases w<;>rfl
theorem Ln(k:Nat)(w:WT):cA g ps ask (xZ k w)=dM g ps k+cA g ps ask w:=by
 cases w with
 |lf p i=>show((k::p).map (dM g ps)).sum=_;rw[Av,Dr];rfl
 |nd p i nm a b=>
  show((k::p).map (dM g ps)).sum+_+_=dM g ps k+((p.map (dM g ps)).sum+_+_);rw[Av,Dr];lia
theorem YD(G:WG g ws)(hn:ke g t):∀j i,j<t.size->i<g.length->∀w∈f9 g t j i,∃m,rv g ps ask t j i (dG ask w)=am m/\m<=cA g ps ask w:=qm λj i hj hi xu Jg w hw=>by
 rw[kI G hn hj hi]at hw;rcases AO.mp hw with hw|hw
 .cases e:en t 0 j with
  |word x=>
   rw[e]at hw;have hw:w∈(if hm g i x=true then [WT.lf [] i] else []):=hw
   split at hw
   .next h=>rw[AM.mp hw];exact Uw G hj hi e h
   .cases hw
  |pair a b=>
   obtain⟨ha,hb⟩:=bF t hj e;rw[e]at hw;obtain⟨d,hd,hw⟩:=AZ.mp hw;obtain⟨one,h1,hw⟩:=AZ.mp hw;obtain⟨o,h2,rfl⟩:=Ao.mp hw;obtain⟨x1,x2⟩:=k6 G hi hd;obtain⟨m1,e1,l1⟩:=xu a _ ha x1 one h1;obtain⟨m2,e2,l2⟩:=xu b _ hb x2 o h2;obtain⟨m,hm,lm⟩:=Uy (ps:=ps) (ask:=ask) G hj hi e ((jg g i).mem_iff.mp hd) e1 e2;have en:dG ask (WT.nd [] i d.1 one o)=dG ask one+dG ask o+isA ask d:=by
    show(if d.1=ask then 1 else 0)+(dG ask one+dG ask o)=_+(if d.1=ask then 1 else 0);lia
   have ec:cA g ps ask (WT.nd [] i d.1 one o)=QG ps ask d+(cA g ps ask one+cA g ps ask o):=by
    show 0+(if d.1=ask then 0 else yr ps d.1)+_=(if d.1=ask then 0 else yr ps d.1)+_;lia
   rw[en,ec];exact⟨m,hm,by lia⟩
 .obtain⟨u,hu,hw⟩:=AZ.mp hw;obtain⟨v,hv,rfl⟩:=Ao.mp hw;obtain⟨m1,e1,l1⟩:=Jg u (G.dn i hi u hu) v hv;obtain⟨m,hm,lm⟩:=Ux (ps:=ps) (ask:=ask) G hj hi hu e1;rw[yJ,Ln];exact⟨m,hm,by lia⟩
theorem Y7(G:WG g ws)(hn:ke g t):∀j i,j<t.size->i<g.length->∀k v,rv g ps ask t j i k=am v->∃w∈f9 g t j i,dG ask w=k/\cA g ps ask w<=v:=qm λj i hj hi xu Jg k v h=>by
 have eq:=kI G hn hj hi;rcases Qd G hj hi h with⟨w,e,hh,rfl,rfl⟩|⟨a,b,d,k1,k2,x,y,e,hd,rfl,h1,h2,rfl⟩|⟨u,x,hu,h1,rfl⟩
 .refine⟨.lf [] i,?_,rfl,Bu _⟩;rw[eq,e];refine Ba _ ?_;show _∈(if hm g i w=true then [WT.lf [] i] else []);rw[if_pos hh];exact .head _
 .obtain⟨l1,l2⟩:=bF t hj e;obtain⟨m1,m2⟩:=uV G hi hd;obtain⟨w1,q1,n1,c1⟩:=xu a _ l1 m1 _ _ h1;obtain⟨w2,q2,n2,c2⟩:=xu b _ l2 m2 _ _ h2;refine⟨.nd [] i d.1 w1 w2,?_,?_,?_⟩
  .rw[eq,e];exact Ba _ (AZ.mpr ⟨d,(jg g i).mem_iff.mpr hd,AZ.mpr ⟨w1,q1,Ao.mpr ⟨w2,q2,rfl⟩⟩⟩)
  .show(if d.1=ask then 1 else 0)+(dG ask w1+dG ask w2)=_+(if d.1=ask then 1 else 0);lia
  .show 0+(if d.1=ask then 0 else yr ps d.1)+_<=(if d.1=ask then 0 else yr ps d.1)+_;lia
 .obtain⟨w,q,n,c⟩:=Jg u (G.dn i hi u hu) k x h1;refine⟨xZ i w,?_,by rw[yJ];exact n,by rw[Ln];lia⟩;rw[eq];exact A1 _ (AZ.mpr ⟨u,hu,Ao.mpr ⟨w,q,rfl⟩⟩)
def LG(g:O Sy)(t:Tr)(k:Nat):O WT:=(Aw k).flatMap λi=>wD g (f9 g t) (en t 0 (t.size-1)) i
theorem strip(G:WG g ws)(hn:ke g t)(h3:0<=ps.getD 3 0):∀i,i<g.length->∀w∈f9 g t (t.size-1) i,∃w'∈LG g t g.length,dG ask w'=dG ask w/\cA g ps ask w'<=cA g ps ask w:=by
 intro i;have hs:=t.size_pos
 induction i using Cv with
 |ind i ih=>
  intro hi w hw;rw[kI G hn ∅ hi]at hw;rcases AO.mp hw with hw|hw
  .exact⟨w,AZ.mpr ⟨i,AN.mpr hi,hw⟩,rfl,Bu _⟩
  .obtain⟨u,hu,hw⟩:=AZ.mp hw;obtain⟨v,hv,rfl⟩:=Ao.mp hw;have hui:=G.dn i hi u hu;obtain⟨w',h1,h2,h4⟩:=ih u hui ∅ v hv;have ho:0<=dM g ps i:=by unfold dM;split;exact h3;exact Bu _
   exact⟨w',h1,by rw[yJ];exact h2,by rw[Ln];lia⟩
theorem Nt(G:WG g ws)(hn:ke g t)(h3:0<=ps.getD 3 0)(k:Nat):abn ((LG g t g.length).map λw=>(dG ask w,cA g ps ask w)) k=(gb g ps ask t).getD k ce:=by
 have hs:=t.size_pos;refine WH (F:=λk=>(gb g ps ask t).getD k ce) (λk v h=>?_) (λk u h=>?_) k
 .obtain⟨i,hi,hv⟩:=G7 h;obtain⟨w,hw,n,c⟩:=Y7 G hn _ _ ∅ hi k v hv;obtain⟨w',h1,h2,h4⟩:=strip (ps:=ps) (ask:=ask) G hn h3 i hi w hw;exact⟨cA g ps ask w',Ao.mpr ⟨w',h1,by rw[h2,n]⟩,by lia⟩
 .obtain⟨w,hw,e⟩:=Ao.mp h;injection e with e1 e2;subst e1 e2;obtain⟨i,hi,hw⟩:=AZ.mp hw;have hi:=AN.mp hi;have hw2:w∈f9 g t (t.size-1) i:=by rw[kI G hn ∅ hi];exact Ba _ hw
  obtain⟨m,hm,lm⟩:=YD (ps:=ps) (ask:=ask) G hn _ _ ∅ hi w hw2;obtain⟨m2,XX,lm2⟩:=Ql hi hm;exact⟨m2,XX,by lia⟩
end
theorem tY(nm:Str):∀w:WT,dG nm w<=w.size
 |.lf _ _=>A9 _
 |.nd p i m a b=>by
  have h1:=tY nm a;have h2:=tY nm b;show(if m=nm then 1 else 0)+(dG nm a+dG nm b)<=a.size+b.size+1
  split<;>lia
section
variable{ask:Str}
def Ng(k:Nat)(w:WT):(xZ k w).size=w.size:=by cases w<;>rfl
theorem Uh(k:Nat)(w:WT):pM g (xZ k w)<=pM g w+1:=by
 cases w with
 |lf p i=>
  show((k::p).filter (two g)).length<=(p.filter (two g)).length+1;rw[B9];split<;>simp
 |nd p i nm a b=>
  show((k::p).filter (two g)).length+_<=(p.filter (two g)).length+_+1;rw[B9]
  split
  .rw[Au];lia
  .omega
theorem YE(G:WG g ws)(hn:ke g t)(TJ:g.length<=30):∀j i,j<t.size->i<g.length->∀w∈f9 g t j i,w.size+1<=2 ^ (j+1)/\pM g w+60<=i+60*2 ^ j:=qm λj i hj hi xu Jg w hw=>by
 have p1:1<=2 ^ j:=Nat.one_le_two_pow;have e2:2 ^ (j+1)=2*2 ^ j:=by rw[Ei,E5]
 rw[kI G hn hj hi]at hw;rcases AO.mp hw with hw|hw
 .cases e:en t 0 j with
  |word x=>
   rw[e]at hw;have hw:w∈(if hm g i x=true then [WT.lf [] i] else []):=hw
   split at hw
   .rw[AM.mp hw];exact⟨by show 1+1<=_;lia,by show 0+60<=_;lia⟩
   .cases hw
  |pair a b=>
   obtain⟨ha,hb⟩:=bF t hj e;rw[e]at hw;obtain⟨d,hd,hw⟩:=AZ.mp hw;obtain⟨one,h1,hw⟩:=AZ.mp hw;obtain⟨o,h2,rfl⟩:=Ao.mp hw;obtain⟨x1,x2⟩:=k6 G hi hd;obtain⟨s1,t1⟩:=xu a _ ha x1 one h1;obtain⟨s2,t2⟩:=xu b _ hb x2 o h2;obtain⟨j',rfl⟩:∃j',j=j'+1:=⟨j-1,by lia⟩;have pa:2 ^ (a+1)<=2 ^ (j'+1):=AE ⋯ ∅;have pb:2 ^ (b+1)<=2 ^ (j'+1):=AE ⋯ ∅;have pa2:2 ^ a<=2 ^ j':=AE ⋯ ∅;have pb2:2 ^ b<=2 ^ j':=AE ⋯ ∅;have e3:2 ^ (j'+1)=2*2 ^ j':=by rw[Ei,E5]
   refine⟨by show one.size+o.size+1+1<=_;lia,?_⟩;show 0+(pM g one+pM g o)+60<=_;lia
 .obtain⟨u,hu,hw⟩:=AZ.mp hw;obtain⟨v,hv,rfl⟩:=Ao.mp hw;obtain⟨s1,t1⟩:=Jg u (G.dn i hi u hu) v hv;have:=G.dn i hi u hu;have:=Uh (g:=g) i v;exact⟨by rw[Ng];exact s1,by lia⟩
theorem Hi(p:O Nat):(p.map (dM g ps)).sum=ps.getD 3 0*((p.filter (two g)).length:Nat):=by
 induction p with
 |nil=>simp
 |cons k p ih=>
  rw[Av,Dr,ih,B9];unfold dM two;by_cases c:(sy g k).un.length=2
  .rw[if_pos c,if_pos (by simpa using c),Au,B0,DC];simp;lia
  .rw[if_neg c,if_neg (by simpa using c),Fe]
def rsL(ps:O Int)(ask:Str):O Int:=[if ("split":Str)=ask then 0 else ps.getD 0 0,if ("doubled":Str)=ask then 0 else ps.getD 1 0,if ("over":Str)=ask then 0 else ps.getD 2 0,ps.getD 3 0]
theorem S9:∀w:WT,wf g w->cA g ps ask w=(if ("split":Str)=ask then 0 else ps.getD 0 0)*(dG "split" w:Nat)+((if ("doubled":Str)=ask then 0 else ps.getD 1 0)*(dG "doubled" w:Nat)+((if ("over":Str)=ask then 0 else ps.getD 2 0)*(dG "over" w:Nat)+ps.getD 3 0*(pM g w:Nat)))
 |.lf p i,_=>by
  show(p.map (dM g ps)).sum=_*((0:Nat):Int)+(_*((0:Nat):Int)+(_*((0:Nat):Int)+_*(((p.filter (two g)).length:Nat):Int)));rw[Hi];simp
 |.nd p i nm a b,hw=>by
  have h1:=S9 a hw.2.2.1;have h2:=S9 b hw.2.2.2;have e:cA g ps ask (.nd p i nm a b)=(p.map (dM g ps)).sum+(if nm=ask then 0 else yr ps nm)+(cA g ps ask a+cA g ps ask b):=rfl;have n0:∀x:Str,dG x (.nd p i nm a b)=(if nm=x then 1 else 0)+(dG x a+dG x b):=λ_=>rfl;have s0:pM g (.nd p i nm a b)=(p.filter (two g)).length+(pM g a+pM g b):=rfl;rw[e,h1,h2,Hi,n0,n0,n0,s0];have f1:yr ps "split"=ps.getD 0 0:=rfl;have f2:yr ps "doubled"=ps.getD 1 0:=rfl;have f3:yr ps "over"=ps.getD 2 0:=rfl;have q1:∀x y:Str,x=y->(if x=y then 1 else 0:Nat)=1:=λx y h=>if_pos h;have q2:∀x y:Str,x≠y->(if x=y then 1 else 0:Nat)=0:=λx y h=>if_neg h;rcases hw.2.1 with rfl | rfl | rfl
  .rw[q1 _ _ rfl,q2 _ _ ⋯,q2 _ _ ⋯,f1];simp only[B0,DC,Fu,E1,FK,F8];lia
  .rw[q1 _ _ rfl,q2 _ _ ⋯,q2 _ _ ⋯,f2];simp only[B0,DC,Fu,E1,FK,F8];lia
  .rw[q1 _ _ rfl,q2 _ _ ⋯,q2 _ _ ⋯,f3];simp only[B0,DC,Fu,E1,FK,F8];lia
def ctP(g:O Sy)(w:WT):PV:=.tup [.int (dG "split" w:Nat),.int (dG "doubled" w:Nat),.int (dG "over" w:Nat),.int (pM g w:Nat)]
theorem OK(hw:wf g w)(hz:w.size<=300)(hs:pM g w<=100000):cu (.tup (br (rsL ps ask))) (ctP g w)=.ret (.int (cA g ps ask w)):=by
 have b1:=tY "split" w;have b2:=tY "doubled" w;have b3:=tY "over" w;have m1:∀a:Int,wP a (dG "split" w:Nat):=λa=>mulR ∅;have m2:∀a:Int,wP a (dG "doubled" w:Nat):=λa=>mulR ∅;have m3:∀a:Int,wP a (dG "over" w:Nat):=λa=>mulR ∅;have m4:∀a:Int,wP a (pM g w:Nat):=λa=>mulR ∅;unfold cu ctP rsL;rw[S9 w hw];generalize (if ("split":Str)=ask then 0 else ps.getD 0 0)=A;generalize (if ("doubled":Str)=ask then 0 else ps.getD 1 0)=B;generalize (if ("over":Str)=ask then 0 else ps.getD 2 0)=C;generalize ps.getD 3 0=D;have ez:GC (br [A,B,C,D]) [.int (dG "split" w:Nat),.int (dG "doubled" w:Nat),.int (dG "over" w:Nat),.int (pM g w:Nat)]=.ret [.tup [.int A,.int (dG "split" w:Nat)],.tup [.int B,.int (dG "doubled" w:Nat)],.tup [.int C,.int (dG "over" w:Nat)],.tup [.int D,.int (pM g w:Nat)]]:=re (by rw[bb];simp[br]);simp only[lc,aK,ez,bx,iL,KN,re (m1 _),re (m2 _),re (m3 _),re (m4 _)];show fM ([A*(dG "split" w:Nat),B*(dG "doubled" w:Nat),C*(dG "over" w:Nat),D*(pM g w:Nat)].map PV.int)=_;unfold fM;rw[fv];show ca _=_;congr 2;simp
end
section
variable{ask:Str}
theorem OY(G:WG g ws)(Lo:WX g)(hn:ke g t)(hB:(LG g t g.length).length<=300):(gs (iG g) (O5 t) (rwP g t)).run (·=(LG g t g.length).map WT.pv):=by
 have hs:=t.size_pos;have hz:=hn.2;have hg:=G.len;have h6:=Lo.six;have el:yG cO [iG g]=.ret (.int g.length):=by simp[iG]
 have et:yG cO [O5 t]=.ret (.int (t.size:Int)):=by rw[d5,dq]
 have e1:((t.size:Int)-1)=((t.size-1:Nat):Int):=by lia
 unfold gs;simp only[lc,el,et,fc,re (cg (i:=0) (j:=(g.length:Int)) ∅ ∅),Bp,qz,e1];rw[jn];simp only[f8];refine Ix _ (λr hr=>?_) (gF (c:=λn:Nat=>PV.int (n:Int)) (h:=λi=>wD g (f9 g t) (en t 0 (t.size-1)) i) 300 (Aw g.length) (λi hi s XT=>?_) [] (by simpa[LG]using hB))
 .rw[hr];rfl
 .have hi:=AN.mp hi;simp only[f8];refine Ix _ (λr hr=>?_) (xF G hn Lo.len (show t.size-1<t.size by lia) hi ∅ λa x ha hx hl=>nu G Lo hn 63 a x ∅ hx (by have:=Lo.le x hx;lia) hl);subst hr;rw[zu (by rw[Af,Af];lia),Az];rfl
theorem YC(G:WG g ws)(hn:ke g t)(h:w∈LG g t g.length):∃i,i<g.length/\w∈f9 g t (t.size-1) i:=by
 have hs:=t.size_pos;obtain⟨i,hi,hw⟩:=AZ.mp h;have hi:=AN.mp hi;exact⟨i,hi,by rw[kI G hn ∅ hi];exact Ba _ hw⟩
theorem LD(G:WG g ws)(hn:ke g t):∀k,k<=g.length->(LG g t k).length<=((Aw k).map (cN g t (t.size-1))).sum
 |0,_=>Al _
 |k+1,hk=>by
  have hs:=t.size_pos;have ih:=LD G hn k ∅;have e:=S8 G hn (show t.size-1<t.size by lia) (show k<g.length by lia);unfold LG at *;rw[Cw,Dm,Az,List.sum_append,Ak];simp at *;lia
theorem Pl(G:WG g ws)(hn:ke g t)(TJ:g.length<=30)(h:w∈LG g t g.length):wf g w/\w.size<=300/\pM g w<=100000:=by
 have hs:=t.size_pos;have hz:=hn.2;obtain⟨i,hi,hw⟩:=YC G hn h;obtain⟨h1,h2⟩:=YE G hn TJ _ _ ∅ hi w hw;have h3:=(GJ G t 50 _ i ∅ hi w hw).1;have p1:2 ^ (t.size-1+1)<=2 ^ 7:=AE ⋯ ∅;have p2:2 ^ (t.size-1)<=2 ^ 6:=AE ⋯ ∅;have e1:2 ^ 7=128:=by decide
 have e2:2 ^ 6=64:=by decide
 exact⟨h3,by lia,by lia⟩
theorem SR(G:WG g ws)(hn:ke g t)(TJ:g.length<=30)(h3:0<=ps.getD 3 0)(hk:∀w:WT,cR [PV.int (dG "split" w:Nat),.int (dG "doubled" w:Nat),.int (dG "over" w:Nat),.int (pM g w:Nat)] (k:Int)=am (.int (dG ask w:Nat)))(n:Nat):(bn (kz ((LG g t g.length).map (ctP g)) λNG=>J4 (t2 dN (bJ (aw NG) (ca (.int (k:Int)))) (ca (.int (n:Int)))) (cu (.tup (br (rsL ps ask))) NG)) tZ)=.ret (oP ((gb g ps ask t).getD n ce)):=by
 have e1:(kz ((LG g t g.length).map (ctP g)) λNG=>J4 (t2 dN (bJ (aw NG) (ca (.int (k:Int)))) (ca (.int (n:Int)))) (cu (.tup (br (rsL ps ask))) NG))=.ret ((wZ (((LG g t g.length).map λw=>(dG ask w,cA g ps ask w)).map λp=>if p.1=n then am p.2 else ce)).map PV.int):=by
  have:∀l:O WT,(∀w∈l,w∈LG g t g.length)->(kz (l.map (ctP g)) λNG=>J4 (t2 dN (bJ (aw NG) (ca (.int (k:Int)))) (ca (.int (n:Int)))) (cu (.tup (br (rsL ps ask))) NG))=.ret ((wZ ((l.map λw=>(dG ask w,cA g ps ask w)).map λp=>if p.1=n then am p.2 else ce)).map PV.int):=by
   intro l
   induction l with
   |nil=>intro _;rfl
   |cons w l ih=>
    intro hl;obtain⟨o1,o2,o3⟩:=Pl G hn TJ (hl w (.head _));have ec:=OK (ps:=ps) (ask:=ask) o1 o2 o3;have es:aw (ctP g w)=.ret [PV.int (dG "split" w:Nat),.int (dG "doubled" w:Nat),.int (dG "over" w:Nat),.int (pM g w:Nat)]:=rfl;have ih:=ih λx hx=>hl x (.tail _ hx);rw[Av,kz,ih];simp only[es,lc,bT,hk,Da,qA,cb,ec,J4];by_cases c:dG ask w=n
    .subst c;simp[wZ]
    .have c2:((dG ask w:Int)==(n:Int))=false:=by simp;lia
     simp[wZ,c2,c]
  exact this _ λ_ h=>h
 rw[e1,lc,Ml];congr 2;exact Nt G hn h3 n
theorem G5(G:WG g ws)(Lo:WX g)(hn:ke g t)(p4:ps.length=4)(hp:∀p∈ps,0<=p/\p<=10 ^ 29)(sN:∀w∈t.ay,w∈ws)(ht:t.ay.length<=4):(eT (iG g) t.pv (.tup (br ps))).run (·=.bl true):=by
 have hz:=t.size_eq;have hs:=t.size_pos;have hdp:=t.ph;have lp:=t.gP;have h3:0<=ps.getD 3 0:=by
  rw[Ae,Ad ∅];exact(hp _ (Cp _)).1
 have Ñ:∀ask,(gb g ps ask t).length=t.ay.length:=λask=>Nu;unfold eT;simp only[lc,f8];refine W.le.use (jO 12 t ∅ ∅) ?_;refine zO G hn Lo.len (abp G hn Lo.len hn.2) ?_;have er:cR (zU g t t.size) (-1)=am (.cl (IE g t (t.size-1) g.length)):=by
  have e:(zU g t t.size).length=t.size:=by unfold zU;simp
  unfold cR ux;rw[e,if_neg ∅,if_pos ∅];show(zU g t t.size)[(-1+(t.size:Int)).toNat]?=_;rw[show(-1+(t.size:Int)).toNat=t.size-1 by lia];unfold zU;rw[Ah,AJ ∅];rfl
 have ai7:fM (IE g t (t.size-1) g.length)=.ret (.int ((((Aw g.length).map (cN g t (t.size-1))).sum:Nat):Int)):=LX _;have e5:Tz (zU g t t.size) (.int (-1))=.ret (.cl (IE g t (t.size-1) g.length)):=by
  show W.Q1 (cR _ (-1))=_;rw[er];rfl
 simp only[bj,zv,nn,e5,ai7,Sn,cb];by_cases big:(300:Int)<((((Aw g.length).map (cN g t (t.size-1))).sum:Nat):Int)
 .simp only[big,decide_true,if_true];rfl
 .have hB:(LG g t g.length).length<=300:=AD (LD G hn _ (Al _)) ∅;simp only[big,decide_false,Ay,if_false,f8];refine Ix _ (λr hr=>?_) (OY G Lo hn hB);subst hr;refine ik (c:=WT.pv) (ctP g) (λw hw Q q=>?_) ?_
  .obtain⟨o1,o2,o3⟩:=Pl G hn Lo.len hw;exact OJ o1 o2 q
  rw[W.sg];refine⟨by rw[bb];simp,?_⟩;rw[nn];refine MJ (λ_ _=>True) trivial (λi x s hx _=>?_) (λs _=>rfl);have et:yG cO [O5 t]=.ret (.int (t.size:Int)):=by rw[d5,dq]
  have ed:((t.size:Int)+1) / 2=((t.ay.length:Nat):Int):=by lia
  have cd:W6 ((t.size:Int)+1) 2:=⟨by lia,by lia⟩;have ax:∀l m:O PV,l.length+m.length<=10->addW (.tup l) (.tup m)=.ret (.tup (l++m)):=λl m h=>re (by rw[bb];lia);obtain⟨k,ask,rfl,amv,RS,hk⟩:∃(k:Nat) (ask:Str),x=.tup [.int (k:Int),.str ask]/\HN ask/\(w2 addW (w2 addW (bn (FL.part (.int (k:Int))) λj23=>vF (.tup (br ps)) ce j23) (ca (.tup [.int 0]))) (bn (bn (addW (.int (k:Int)) (.int 1)) FL.part) λi26=>vF (.tup (br ps)) i26 ce))=.ret (.tup (br (rsL ps ask)))/\∀w:WT,cR [PV.int (dG "split" w:Nat),.int (dG "doubled" w:Nat),.int (dG "over" w:Nat),.int (pM g w:Nat)] (k:Int)=am (.int (dG ask w:Nat)):=by
   have hm:=Bd hx;have hm:x∈[PV.tup [.int ((0:Nat):Int),.str "split"],.tup [.int ((1:Nat):Int),.str "doubled"],.tup [.int ((2:Nat):Int),.str "over"]]:=hm;simp only[AB,CO,or_false]at hm
   match ps,p4 with
   |[a,b,c,d],_=>
    rcases hm with rfl|rfl|rfl
    .refine⟨0,"split",rfl,.inl rfl,?_,λw=>rfl⟩;have c1:eJ (br [a,b,c,d]) ce (am 0)=[]:=rfl;have c2:eJ (br [a,b,c,d]) (am 1) ce=[.int b,.int c,.int d]:=rfl;have z:(((0:Nat):Int))=0:=rfl;have z1:((0:Int)+1)=1:=rfl;simp only[z,z1,me,lc,uN,cm,c1,c2];rw[ax _ _ (by simp)];simp only[lc];rw[ax _ _ (by simp)];rfl
    .refine⟨1,"doubled",rfl,.inr (.inl rfl),?_,λw=>rfl⟩;have c1:eJ (br [a,b,c,d]) ce (am 1)=[.int a]:=rfl;have c2:eJ (br [a,b,c,d]) (am 2) ce=[.int c,.int d]:=rfl;have z:(((1:Nat):Int))=1:=rfl;have z1:((1:Int)+1)=2:=rfl;simp only[z,z1,me,lc,uN,cm,c1,c2];rw[ax _ _ (by simp)];simp only[lc];rw[ax _ _ (by simp)];rfl
    .refine⟨2,"over",rfl,.inr (.inr rfl),?_,λw=>rfl⟩;have c1:eJ (br [a,b,c,d]) ce (am 2)=[.int a,.int b]:=rfl;have c2:eJ (br [a,b,c,d]) (am 3) ce=[.int d]:=rfl;have z:(((2:Nat):Int))=2:=rfl;have z1:((2:Int)+1)=3:=rfl;simp only[z,z1,me,lc,uN,cm,c1,c2];rw[ax _ _ (by simp)];simp only[lc];rw[ax _ _ (by simp)];rfl
  simp only[iL,lc,RS];simp only[lc,et,cm,aa1,re cd,ed,fc,re (cg (i:=0) (j:=(t.ay.length:Int)) ∅ ∅),Bp];simp only[f8];refine o5 (λn s=>s=(Aw n).map λn=>oP ((gb g ps ask t).getD n ce)) rfl (λn s hn' hs=>?_) (λs hs=>?_)
  .subst hs;have e6:=SR (ps:=ps) (ask:=ask) G hn Lo.len h3 hk n;show W.run (bn (bn _ tZ) _) _;rw[e6,lc,cV (by simp;lia),Cw,Az];rfl
  .subst hs;have em:((Aw t.ay.length).map λk=>oP ((gb g ps ask t).getD k ce))=(gb g ps ask t).map oP:=by
    refine List.ext_getElem (by simp[Ñ]) λn h1 h2=>?_;rw[Af]at h2;rw[List.getElem_map,List.getElem_map,List.getElem_range,Ae,Ad h2];rfl
   have hb:∀m a,cv (gb g ps ask t) m=am a->0<=a/\a<10 ^ 60:=λm a h=>Qm G p4 hp ∅ h;have hla:=Ñ ask;have ok:=UB (Qj hb ∅ ∅);have hr:(oE (iG g) t.pv (.tup (br ps)) (.str ask)).le (.ret (.tup ((gb g ps ask t).map oP))):=Qk G p4 ∅;rw[em];refine W.le.use hr ?_;simp only[nn,ku,lc,ok,Rb,cb,Ay,if_false]
end
theorem law56_ok(ns:O Int)(hl:ns.length<=63):(ub (.cl (ns.map PV.int))).run (·=.bl true):=by
 unfold ub;simp only[lc,f8];refine QI λsd=>?_;rw[W.sg];refine⟨⟨sd,rfl⟩,?_⟩;simp only[f8,nn,fc,re (cg (i:=0) (j:=12) ∅ ∅)];refine R9 (n:=12) (λ_ _=>True) trivial ?_ ?_
 .rintro i s hi -;simp only[lc,f8];rw[dg ⋯ ⋯];refine cG λe e0 e1=>?_;obtain⟨k,hk⟩:∃k:Nat,1+e=(k:Int):=⟨(1+e).toNat,by lia⟩;have hw:eJ [PV.str "a",PV.str "ab",PV.str "c"] ce (am (k:Int))=((["a","ab","c"]:O Str).take k).map PV.str:=by
   rw[WB _ (show k<=3 by lia),FV];rfl
  have hl:((["a","ab","c"]:O Str).take k).length=k:=by rw[Co];show min k 3=k;lia
  have Ks:(["a","ab","c"]:O Str).take k≠[]:=λz=>by rw[z]at hl;simp at hl;lia
  have ep:∀i:Int,part (.int i)=.ret (am i):=λi=>rfl;simp only[cm,hk,ep,nn,hw];refine qP Ks ∅ λt ht=>?_;have htl:t.ay.length=k:=by rw[ht.length_eq,hl]
  rw[dg ⋯ ⋯];refine cG λf f0 f1=>?_;obtain⟨m,hm⟩:∃m:Nat,1+f=(m:Int):=⟨(1+f).toNat,by lia⟩;simp only[cm,nn,hm,fc,re (cg (i:=0) (j:=(m:Int)) ∅ ∅),Bp];refine xh (S:=λv=>∃w∈(["a","ab","c"]:O Str).take k,v=PV.str w) (λx _ R r=>JL (by simpa using Ks) (by rw[Af];lia) λv hv=>r v (let ⟨w,h1,h2⟩:=Ao.mp hv;⟨w,h1,h2.symm⟩)) λms ŋ hs=>?_;obtain⟨us,rfl,hu⟩:=Hx hs;rw[jo,Af]at ŋ;refine qP (λz=>by rw[z]at ŋ;simp at ŋ;lia) ∅ λs0 hp=>?_;have hsl:s0.ay.length<=4:=by rw[hp.length_eq];lia
  have sN:∀w∈s0.ay,w∈t.ay:=λw h=>ht.mem_iff.mpr (hu w (hp.mem_iff.mp h));have uA:=s0.size_eq;refine Jw ∅ λg G Lo=>?_;refine Hc λps p4 XU=>?_;refine Ix _ (λr hr=>?_) (G5 G Lo ⟨⟨Lo⟩,by lia⟩ p4 XU sN hsl);subst hr;simp
 .intro s _;rfl
def all_d{K:Ab}(X:K.In h)(G:h.Ns im mg)(K0:DX K "parts_of" (top 1))(Wj:DX K "nodes" (top 2))(SH:DX K "halves" (top 3))(K6:DX K "ahead_of" (top 4))(KW:DX K "under_at" (top 9))(Iw:DX K "beside_at" (top 10))(Ov:DX K "is_home" (top 11))(Ou:DX K "name_of" (top 12))(K2:DX K "lines_up" (top 13))(zC:DX K "apart_from" (top 14))(SI:DX K "ground" (top 15))(Ir:DX K "split_ins" (top 22))(K1:DX K "over_ins" (top 23))(K4:DX K "deeds_at" (top 24))(Sv:DX K "summed" (top 27))(K5:DX K "cheapest" (top 28))(KZ:DX K "price_of" (top 29))(Iq:DX K "step_cost" (top 30))(Sx:DX K "raised" (top 32))(SJ:DX K "folded" (top 33))(SG:DX K "lowest" (top 34))(zB:DX K "done_costs" (top 35))(rP:DX K "costs_of_node" (top 36))(Wi:DX K "rests" (top 37))(vZ:DX K "split_dates" (top 39))(KY:DX K "standing" (top 40))(Ot:DX K "stay_of" (top 41))(Wl:DX K "dated" (top 42))(K7:DX K "_law_pot" (top 44))(Iy:DX K "_law_take" (top 45))(Ox:DX K "_law_of" (top 46))(wg:DX K "_law_joined" (top 47))(zE:DX K "_law_nodes" (top 48))(zF:DX K "_law_dates" (top 49))(v9:DX K "_law_prices" (top 50))(v8:DX K "_law_starts" (top 51))(wo:DX K "_law_behind" (top 52))(wj:DX K "_law_counts" (top 53))(nG:DX K "_law_open_starts" (top 54))(wd:DX K "_law_listed" (top 56))(pe:DX K "_law_ended" (top 55))(K8:DX K "_law_all" (top 57))(zG:DX K "_law_count" (top 58))(Iz:DX K "_law_cost" (top 59))(zD:DX K "_law_right" (top 60))(pC:AU K im "UNDER"=am (am (.int 2 LU)))(lJ:AU K im "BESIDE"=am (am (.int 3 GS)))(u9:AU K im "NAME"=am (am (.int 0 PB)))(pE:AU K im "FOUND"=am (am (.str "found" LW)))(pD:AU K im "SPLIT"=am (am (.str "split" LV)))(u7:AU K im "OVER"=am (am (.str "over" Py)))(jx:AU K im "DOUBLED"=am (am (.str "doubled" wK)))(mj:AU K im "DEEDS"=am (am (.ref sT)))(sL:Tg K sT ["split","doubled","over"])(va:AU K im "LOST"=am (am (.int 3 PC)))(xR:AU K im "isinstance"=am ce)(acj:AU K im "str"=am ce)(Yw:AU K im "list"=am ce)(Jl:AU K im "reversed"=am ce)(acm:AU K im "len"=am ce)(TN:AU K im "tuple"=am ce)(GD:AU K im "enumerate"=am ce)(TQ:AU K im "range"=am ce)(Pj:AU K im "sorted"=am ce)(aci:AU K im "sum"=am ce)(ack:AU K im "min"=am ce)(ach:AU K im "zip"=am ce)(Yx:AU K im "dict"=am ce)(acn:AU K im "int"=am ce)(Yv:AU K im "repr"=am ce):afr K mg Yj:=by
 constructor
 rintro v rfl rfl D;have q:∀b,NB (v.at b):=λb=>⟨A3 X G xR,A3 X G acj,A3 X G Yw,A3 X G Jl,A3 X G acm,A3 X G TN,A3 X G GD,A3 X G TQ,A3 X G Pj,A3 X G aci,A3 X G ack,A3 X G ach,A3 X G Yx,A3 X G acn,A3 X G Yv⟩;replace pC:=BW X G pC;replace lJ:=BW X G lJ;replace u9:=BW X G u9;replace pE:=BW X G pE;replace pD:=BW X G pD;replace u7:=BW X G u7;replace jx:=BW X G jx;replace mj:=BW X G mj;replace va:=BW X G va;have p:=q v.base;refine K0.go (d:=nJ) X G (λD=>Ka D p) λLw=>?_;refine Wj.go (d:=mf) X G (λD=>VG D p Lw) λsU=>?_;refine SH.go (d:=jv) X G (λD=>RA D p) λpI=>?_;refine K6.go (d:=jW) X G (λD=>Kg D p sU pI) λvh=>?_;refine KW.go (d:=fx) X G (λD=>J7 D pC) λkd=>?_;refine Iw.go (d:=lF) X G (λD=>HI D lJ) λIX=>?_;refine Ov.go (d:=qC) X G (λD=>N1 D u9 kd) λO0=>?_;refine Ou.go (d:=mh) X G (λD=>N0 D p) λxQ=>?_;refine K2.go (d:=nL) X G (λD=>Kc D p vh) λLy=>?_;refine zC.go (d:=jV) X G (λD=>yY D p) λGj=>?_;refine SI.go (d:=uW) X G (λD=>RB D p sU Ly xQ pI Gj) λTh=>?_;refine Ir.go (d:=lE) X G (λD=>HH D p kd) λIU=>?_;refine K1.go (d:=nK) X G (λD=>Kb D IX) λLx=>?_;refine K4.go (d:=nM) X G (λD=>Ke D p pE pD u7 jx O0 IU Lx) λLz=>?_;refine Sv.go (d:=pq) X G (λD=>Rv D p) λIQ=>?_;refine K5.go (d:=jU) X G (λD=>Kf D p) λvg=>?_;refine KZ.go (d:=nI) X G (λD=>J9 D mj sL) λLv=>?_;refine Iq.go (d:=lz) X G (λD=>HG D p va kd) λIT=>?_;refine Sx.go (d:=pw) X G (λD=>Rx D IQ) λIV=>?_;refine SJ.go (d:=uX) X G (λD=>RC D p vg IQ) λTi=>?_;refine SG.go (d:=pz) X G (λD=>Rz D p vg) λIW=>?_;refine zB.go (d:=jT) X G (λD=>yW D p pI Ti IV Lv) λGi=>?_;refine rP.go (d:=f6) X G (λD=>rH D p IT Lz Gi kd IV IW) λrS=>?_;refine Wi.go (d:=zM) X G (λD=>VF D p sU rS IW) λWR=>?_;refine vZ.go (d:=iP) X G (λD=>vN D p) λwz=>?_;refine KY.go (d:=nH) X G (λD=>J8 D p vh) λLu=>?_;refine Ot.go (d:=qB) X G (λD=>NZ D p pI xQ) λOZ=>?_;refine Wl.go (d:=zN) X G (λD=>VH D p sU wz Lu OZ) λWS=>?_;refine K7.go (d:=nN) X G (λD=>Kh D p) λLA=>?_;refine Iy.go (d:=dh) X G (λD=>HJ D) λfV=>?_;refine Ox.go (d:=jw) X G (λD=>N2 D p fV) λqD=>?_;refine wg.go (d:=iR) X G (λD=>vQ D p fV) λwC=>?_;refine zE.go (d:=gC) X G (λD=>oU D p 12) λpJ=>?_;refine zF.go (d:=jY) X G (λD=>y6 D p pJ fV qD) λGn=>?_;refine v9.go (d:=iQ) X G (λD=>vP D p fV qD) λwA=>?_;refine v8.go (d:=fJ) X G (λD=>vO D p) λm5=>?_;refine wo.go (d:=iU) X G (λD=>vS D) λwG=>?_;refine wj.go (d:=iT) X G (λD=>vR D p m5 wG) λwF=>?_;refine nG.go (d:=cM) X G (λD=>ny D m5) λg8=>?_;obtain⟨DA⟩:=pe.mk2 (d:=cT 0 λ_ _ _ _ _=>.fail) X G;refine wd.go (d:=mX) X G (λD=>mT D (DA.at v.base) g8 63) λwB=>?_;refine pe.go (d:=pA) X G (λD=>oV (r:=129) ⋯ D g8 wB) λGm=>?_;refine K8.go (d:=nP) X G (λD=>Ki D p Gm) λLB=>?_;refine zG.go (d:=jZ) X G (λD=>y7 D p) λGp=>?_;refine Iz.go (d:=lG) X G (λD=>HK D p) λIZ=>?_;refine zD.go (d:=jX) X G (λD=>yZ D p pJ wF LB Gp IZ WR) λGk=>?_;exact ad0 D p LA fV wC qD Th WS Gn Gk wA
end
end My
end
open PySem PySem.W PyProof.Rows
structure PySem.W.Fast:Prop where(tw15817456754493823224 tw12707485958683185617 tw8092204394631096541 tw12886075199927412122 tw16019337755989025521 tw1640448775167194188 tw6460388237372802338 tw4674267486153286881 tw16174346749187126766 tw5591314536689215457 tw14216649873690926616 tw8954091251521418915 tw974383511686503439 tw2981926137748680680 tw14891720359102918244 tw18147699981047102518 tw6706744660160064951 tw16848108249137444502 tw3741621043922940041 tw15040757627237886241 tw3594357530825453225 tw18201207637594513240 tw4789736278500732449 tw12094324022929275549 tw2931574711650679874 tw73491673811241031 tw9928628398066927074 tw9241066296976143867 tw14930822180292595611 tw15396311508728530861 tw2166659338484991186 tw8406857669484906860 tw9226215332537907034 tw859708086705298989 tw14966866748742909170 tw8196205202292849590 tw11682138663684216700 tw1593559377554492955 tw6920577438239340321 tw7935056843671202323 tw6934229326481828340 tw3093171566603536261 tw12427533576419503899 tw3013164174537433263 tw5503462368852489595 tw12103870413621164846 tw16473392102350556301 tw16518501774902510898 tw14882063288828135320 tw29380887129484130 tw9742115064837587093 tw1372068755363854170 tw11627648401231955184 tw16344336622738600997 tw8843650500164608138 tw9351023576846970001 tw3684294279079550515 tw1689470926686125247 tw12877453571095560135 tw12263329900343958124 tw16381359944793790768 tw16788012013996278869 tw10464836824799684469 tw17915102664910879860 tw16449509426186799288 tw15395276479841432402 tw3914601137980586791 tw12657133811689497744 tw16730660116977423004 tw14894825103711352553 tw12675068320391568383 tw17456955235119121038 tw496850430482624970 tw9631351216026952330 tw10960701731698911267 tw4376339019713411941 tw10025765032691041057 tw10235082210994692367 tw12841265381596153815 tw7576590804016749875 tw4576572541758797839 tw2052002836428077224 tw16420231516957851506 tw51744634186431030 tw1058731465157461973 tw15856583581299262154 tw1161111704199617084 tw47307772918697181 tw311504969518649830 tw6345413211952843301 tw10339246796232427241 tw3625227978281874107 tw11022011048275712895 tw3621828623336398272 tw8047089804683077066 tw14198968775151404198 tw10600564619002291908 tw6788357431787820853 tw6354771043978948548 tw9197217048706359076 tw7721610664999820234 tw16072044928726314118 tw12011786342447012237 tw1780039464321029756 tw5207268096277792986 tw510937000682941824 tw14225300466614842096 tw1410117519733230641 tw9486822133196260461 tw10566259571969960233 tw2451503229506697421 tw12056110490743855294 tw17384403649427035551 tw13177662425915398272 tw9005874419238436499 tw9822323900677770827 tw3952142299994175380 tw125696431865605537 tw7292273778038178942 tw3670752649575920982 tw14440592352998407694 tw17109584390614517386 tw8420130595659477389 tw978630611861334829 tw10847088846239033058 tw8442971955662823579 tw1285110867141522452 tw9853767196820156301 tw11696280400055510710 tw15337594927284840798 tw9526947432504506519 tw11330207175063644475 tw6045052729917648095 tw33591884352718763 tw7224930748672453294 tw5209547360280181779 tw14535891391865126713 tw4210927067640916686 tw6755972397999545972 tw10713250339725448338 tw5616761883144301382 tw17692852412457578074 tw581773604948258555 tw16078848197374095060 tw13021068022605777160 tw5813695874683735756 tw3739012310920927929 tw16529622300640024057 tw332768098735507286 tw310824330917077353 tw7672070584476385740 tw381318075193289036 tw119202787784366280 tw6933322251409384156 tw1952702238547430177 tw6809352912156937793 tw4596768345026339472 tw10476567867170878893 tw1743324982164053347 tw3679965920466953795 tw16113461329207149863 tw11865276280846461735 tw8387211395500694591 tw16242137418363800193 tw6951153794380450925 tw4795343967914892362 tw289306276783774021 tw3660362126215151839 tw2144535926227573103 tw16388398736037020004 tw18184603509147987445 tw8207818395394251552 tw11203992387901560108 tw5549085418428498496 tw4588840874019180813 tw4901876615144694202 tw1049681914378618945 tw18283109031142873356 tw11317315255018554875 tw6766908529157042012 tw10061479066218930936 tw9497801640059136642 tw497832573428895056 tw11194768537696959660 tw11674827396451424622 tw52336246617285301 tw8977926073665353711 tw7243468799301330160 tw11393517529009634625 tw3659394800055403435 tw14724473442394102411 tw9507151960603094852 tw6284726188461871646 tw9803298548844481665 tw18010945333967196307 tw18280973482858070469 tw10321733438417972219 tw15606901370792163708 tw5422129406430318862 tw5077542507856225771 tw11754707710262771126 tw10675197144840358088 tw4054221322771834567 tw1855075199735337915 tw7842479347911806859 tw17393020541548658555 tw15609608690687356648 tw5450184125764279951 tw2296046547339946532 tw3543137398561874020 tw16410727879982520429 tw5174404444885258176 tw9053975227570914420 tw2991335513345694227 tw9167906372182582116 tw13031133229417167083 tw1841893559113121233 tw18425685775360617080 tw3907497976226611590 tw11146460780931591952 tw11662597444548056108 tw2168115582094940690 tw16167086234465662496 tw18348794654820282284 tw7912657653715567751 tw1428063143339898606 tw17155068989053788469 tw3939638088432361462 tw13781602459142992493 tw206706121058625439 tw15313244606067185321 tw11783119218791160724 tw1648707084717633013 tw9122640430738998951 tw12699993457207623525 tw4158211413134873372 tw11746286252542210166 tw1114280450129809979 tw15723804736966913976 tw1198020784811238404 tw11884936980780486316 tw712844074557092942 tw10441835081219345934 tw4786604566848152375 tw11693838576332464097 tw796408400575018038 tw239212330963186611 tw17614568614597899798 tw5222742852919933590 tw1369737755652194657 tw6255645803756919068 tw15418754286437278621 tw17631490511880942852 tw1677965919124180296 tw9422695529589151301 tw1057834542919359855 tw341331410226305261:True)
def PySem.W.Fast.tw14140976213225295666:=PySem.Challenge.pw_treewithin_k56_rests_by_all_ways
theorem PySem.W.Fast.te14140976213225295666:PySem.Challenge.pw_treewithin_k56_rests_by_all_ways=PySem.W.Fast.tw14140976213225295666:=rfl
set_option maxRecDepth 100000 in
set_option maxHeartbeats 0 in
theorem PySem.Challenge.cw_treewithin_k56_rests_by_all_ways_holds : PySem.Challenge.rw_treewithin_k56_rests_by_all_ways.Holds := by
 w_on;o_law;k_head;(case hw=>w_witness2)
 k_fill
 refine FL.walkT (l:=PySem.Challenge.rw_treewithin_k56_rests_by_all_ways) (k:=133) rfl rfl ⟨rfl,by decide,by decide,rfl⟩ (fun w h Y=>⟨PySem.W.kIn_of Y,fun P hP=>(List.not_mem_nil hP).elim⟩) ?K ?C ?F
 case K=>
  intro w P hP;exact(List.not_mem_nil hP).elim
 case C=>
  intro w h hK P hP;exact(List.not_mem_nil hP).elim
 case F=>
  intro w mg fa h KX G hmg;refine' FL.mkAll (st:=My.top 61) (k:=133) My.law56_ok KX G hmg ?e (fun _ _ _ _ _ _=>FL.usN fun _=>rfl) (My.all_d KX G  ..)
  all_goals try first|(refine' FL.dx ?a ?l ?c ?k;(case a=>k_is);(case l=>k_is);(case c=>k_is);(case k=>k_is))|(refine' FL.tup3K ?a;(case a=>k_is))|(refine' FL.cdx2 ?a ?m2 ?l ?c ?k ?m1 ?m3 ?m4 ?c1 ?c2 ?c3 ?c4 ?na;(case a=>k_is);(case m2=>k_is);(case l=>k_is);(case c=>k_is);(case k=>k_is);(case m1=>k_is);(case m3=>k_is);(case m4=>k_is);(case c1=>k_is);(case c2=>k_is);(case c3=>k_is);(case c4=>k_is);(case na=>(intro n hn;simp only[List.mem_cons,List.not_mem_nil,or_false]at hn;rcases hn with rfl;all_goals k_is)))|k_is
#print axioms PySem.Challenge.cw_treewithin_k56_rests_by_all_ways_holds
